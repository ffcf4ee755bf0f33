import Derived.Test.YtkkpahmoljiepaaGreatDoorJ13
set_option maxRecDepth 1000000
set_option maxHeartbeats 12800000
set_option linter.unusedSimpArgs false
set_option linter.unusedVariables false
namespace Go.Proofs.YtkkpahmoljiepaaGreatDoor
open Go.RowKit Go.Proofs.Tryz
def lW:Nat->ah->List ah->Option (List ah×ah)
 | 0,_,_=>none
 | _+1,[],_=>none
 | f+1,c :: t,acc=>if c=0 then some (acc,t)else if 63<c.toNat\/t.length<c.toNat then none else lW f (t.drop c.toNat) (acc++[t.take c.toNat])
def fo(s:ah):Option (ah×List ah×Nat×Nat×Bool×Nat×Nat) :=
 if bp s 4≠1\/bp s 6≠0\/bp s 8≠0\/1<bp s 10 then none
 else match lW (s.length+1) (s.drop 12) []with
  | none=>none
  | some (ls,t) =>
   if 255<s.length - t.length - 12\/t.length<4 then none
   else if bp s 10=0 then(if t.length=4 then some ((s.drop 12).take (s.length - t.length+4 - 12),ls,bp t 0,bp t 2,false,0,0)else none)
   else if t.length<15\/t.getD 4 0≠0\/bp t 5≠41\/15+bp t 13≠t.length then none
   else some ((s.drop 12).take (s.length - t.length+4 - 12),ls,bp t 0,bp t 2,true,bp t 7,(t.getD 10 0).toNat)
def Hc(s:ah)(j:Nat)(ls:List ah)(n10:Nat):Option (ah×List ah×Nat×Nat×Bool×Nat×Nat) :=
 if 255<j - 12\/s.length<j+4 then none
 else if n10=0 then(if s.length=j+4 then some ((s.drop 12).take (j+4 - 12),ls,bp s j,bp s (j+2),false,0,0)else none)
 else if s.length<j+15\/s.getD (j+4) 0≠0\/bp s (j+5)≠41\/j+15+bp s (j+13)≠s.length then none
 else some ((s.drop 12).take (j+4 - 12),ls,bp s j,bp s (j+2),true,bp s (j+7),(s.getD (j+10) 0).toNat)
theorem aww(s:ah)(j k:Nat):bp (s.drop j) k=bp s (j+k):=by unfold bp;simp only[mU,NM,CB]
theorem awx{s:ah}{j n4 n6 n8 n10:Nat}{ls:List ah}(h4:bp s 4=n4)(h6:bp s 6=n6)(h8:bp s 8=n8)(h10:bp s 10=n10)(k4:n4=1)(k6:n6=0)(k8:n8=0)(k10:¬1<n10)(hL:lW (s.length+1) (s.drop 12) []=some (ls,s.drop j))(hj:j<=s.length):fo s=Hc s j ls n10:=by unfold fo Hc;rw[aF ae,hL];simp only[aww,fM,mU,NM,gK,h10];have e1:s.length - (s.length - j)=j:=ae;rw[e1];by_cases aC:255<j - 12\/s.length<j+4;{rw[aJ aC,aJ ae]};{rw[aF aC,aF ae];by_cases c2:n10=0;{rw[aJ c2,aJ c2];by_cases c3:s.length=j+4;{rw[aJ c3,aJ ae]};{rw[aF c3,aF ae]}};{rw[aF c2,aF c2];by_cases c3:s.length<j+15;{rw[aJ (.inl ae),aJ (.inl c3)]};{have e2:(15+bp s (j+13)≠s.length - j) ↔ (j+15+bp s (j+13)≠s.length):=ae;have e3:(s.length - j<15) ↔ (s.length<j+15):=ae;simp only[e2,e3]}}}
def eW(w:World)(qb:Nat)(qs:ah)(nv:Value)(ty cl:Int)(op:Bool)(sz aU:Int):Prop:=w.heap[qb]? = some (.cells #[.string (aq qs),nv,.int .i64 ty,.int .i64 cl,.bool op,.int .i64 sz,.int .i64 aU] 144)
section
variable {w:World} {qb:Nat} {qs:ah} {nv:Value} {ty cl:Int} {op:Bool} {sz aU:Int} (h:eW w qb qs nv ty cl op sz aU)
include h
theorem eW.lt:qb<w.heap.size:=(bV.1 h).1
theorem eW.cells:w.cell? (ak qb 0)=some (ay qs)/\w.cell? (ak qb 1)=some nv/\w.cell? (ak qb 2)=some (aj ty)/\w.cell? (ak qb 3)=some (aj cl)/\w.cell? (ak qb 4)=some (.bool op)/\w.cell? (ak qb 5)=some (aj sz)/\w.cell? (ak qb 6)=some (aj aU):=by unfold eW at h;refine⟨?_,?_,?_,?_,?_,?_,?_⟩ <;> simp[World.cell?,h]
theorem eW.frozen(i:Nat):w.frozen? (ak qb i)=false:=by unfold eW at h;simp[World.frozen?,h]
theorem eW.kept{w':World}(hb:w'.heap[qb]? = w.heap[qb]?):eW w' qb qs nv ty cl op sz aU:=hb.trans h
theorem eW.set0(u:ah):eW (w.setCell ⟨qb,0,none⟩ (.string (aq u))) qb u nv ty cl op sz aU:=by unfold eW at *; simp only[World.setCell,fw,gZ,h];rfl
theorem eW.set1(u:Value):eW (w.setCell ⟨qb,1,none⟩ u) qb qs u ty cl op sz aU:=by unfold eW at *; simp only[World.setCell,fw,gZ,h];rfl
theorem eW.set2(u:Int):eW (w.setCell ⟨qb,2,none⟩ (.int .i64 u)) qb qs nv u cl op sz aU:=by unfold eW at *; simp only[World.setCell,fw,gZ,h];rfl
theorem eW.iM(u:Int):eW (w.setCell ⟨qb,3,none⟩ (.int .i64 u)) qb qs nv ty u op sz aU:=by unfold eW at *; simp only[World.setCell,fw,gZ,h];rfl
theorem eW.lj(u:Bool):eW (w.setCell ⟨qb,4,none⟩ (.bool u)) qb qs nv ty cl u sz aU:=by unfold eW at *; simp only[World.setCell,fw,gZ,h];rfl
theorem eW.oF(u:Int):eW (w.setCell ⟨qb,5,none⟩ (.int .i64 u)) qb qs nv ty cl op u aU:=by unfold eW at *; simp only[World.setCell,fw,gZ,h];rfl
theorem eW.rT(u:Int):eW (w.setCell ⟨qb,6,none⟩ (.int .i64 u)) qb qs nv ty cl op sz u:=by unfold eW at *; simp only[World.setCell,fw,gZ,h];rfl
end
theorem Nf{w:World}{base n qb:Nat}{v:Value}{xs:List Value}{qs:ah}{nv:Value}{ty cl:Int}{op:Bool}{sz aU:Int}(h:w.ownsRow base 9 1 v n xs)(hq:eW w qb qs nv ty cl op sz aU):some qb≠v.ownBlock:=fun e=>by
 rcases h.2 with⟨rfl,_⟩|⟨g,cap,cur,rfl,_,aZ,_⟩
 ·cases e
 ·have:qb=g:=by simpa [Value.ownBlock]using e
  subst this;rw[hq]at aZ;simp at aZ
theorem awy(W:World)(x:Value)(t:TypeId):∀(j:Nat) (u:Value),[x][j]? = some u->(W.alloc (.cells #[x] t)).cell? (((ak W.heap.size 0):Addr).add j)=some u:=fun j u hj=>by
 have hn:=World.alloc_heap_new W (.cells #[x] t);generalize W.alloc (.cells #[x] t)=W' at hn ⊢;generalize W.heap.size=b at hn ⊢
 match j,hj with
 | 0,hj=>simp at hj;subst hj;simp[Addr.add,World.cell?,hn]
 | n+1,hj=>simp at hj
structure xE(w W:World)(rb qb:Nat)(nv:Value)(ls:List ah)(qs:ah)(ty cl:Int)(op:Bool)(sz aU:Int):Prop where
 q:eW W qb qs nv ty cl op sz aU
 r:eW W rb [] (aH) 0 0 false 0 0
 o:mK W w.heap.size nv ls
 b:au w W
 Ng:rb=w.heap.size
 Nh:qb=w.heap.size+1
section
variable {w W:World} {rb qb:Nat} {nv:Value} {ls:List ah} {qs:ah} {ty cl:Int} {op:Bool} {sz aU:Int} (h:xE w W rb qb nv ls qs ty cl op sz aU)
include h
theorem xE.below{W':World}(hb:au W W'):xE w W' rb qb nv ls qs ty cl op sz aU :=
 ⟨h.q.kept (hb.block qb h.q.lt),h.r.kept (hb.block rb h.r.lt),⟨ic h.o.1 hb,h.o.2⟩,h.b.trans (hb.mono h.b.size),h.Ng,h.Nh⟩
theorem xE.ED{i:Nat}{u:Value}{aiD:ah}{ty' cl':Int}{op':Bool}{sz' aiE:Int}(hq:eW (W.setCell ⟨qb,i,none⟩ u) qb aiD nv ty' cl' op' sz' aiE):xE w (W.setCell ⟨qb,i,none⟩ u) rb qb nv ls aiD ty' cl' op' sz' aiE where
 q:=hq
 r:=h.r.kept (wh W (ak qb i) rb _ (by have:=h.Ng;have:=h.Nh;show rb≠qb;omega))
 o:=⟨Kc h.o.1 (row:=some qb) ⟨rfl,rfl,rfl,ar,fun k _ hk=>wh W (ak qb i) k _ (fun e=>hk (by rw[e]))⟩ (.inr (fun e=>Nf h.o.1 h.q e.symm)),h.o.2⟩
 b:=h.b.setCell (p:=⟨qb,i,none⟩) (by have:=h.Nh;show w.heap.size<=qb;omega) _
 Ng:=h.Ng
 Nh:=h.Nh
theorem xE.Ni{W':World}(hb:au W W') :
  eW (((((((W'.setCell ⟨rb,0,none⟩ (.string (aq qs))).setCell ⟨rb,1,none⟩ nv).setCell ⟨rb,2,none⟩ (.int .i64 ty)).setCell ⟨rb,3,none⟩ (.int .i64 cl)).setCell ⟨rb,4,none⟩ (.bool op)).setCell ⟨rb,5,none⟩ (.int .i64 sz)).setCell ⟨rb,6,none⟩ (.int .i64 aU)) rb qs nv ty cl op sz aU /\
  mK (((((((W'.setCell ⟨rb,0,none⟩ (.string (aq qs))).setCell ⟨rb,1,none⟩ nv).setCell ⟨rb,2,none⟩ (.int .i64 ty)).setCell ⟨rb,3,none⟩ (.int .i64 cl)).setCell ⟨rb,4,none⟩ (.bool op)).setCell ⟨rb,5,none⟩ (.int .i64 sz)).setCell ⟨rb,6,none⟩ (.int .i64 aU)) w.heap.size nv ls /\
  au w (((((((W'.setCell ⟨rb,0,none⟩ (.string (aq qs))).setCell ⟨rb,1,none⟩ nv).setCell ⟨rb,2,none⟩ (.int .i64 ty)).setCell ⟨rb,3,none⟩ (.int .i64 cl)).setCell ⟨rb,4,none⟩ (.bool op)).setCell ⟨rb,5,none⟩ (.int .i64 sz)).setCell ⟨rb,6,none⟩ (.int .i64 aU)):=by
 have h':=h.below hb;have st:∀ {V:World} (i:Nat) (u:Value) {q0:ah} {n0:Value} {t0 c0:Int} {o0:Bool} {s0 v0:Int},eW V rb q0 n0 t0 c0 o0 s0 v0->mK V w.heap.size nv ls->au w V->mK (V.setCell ⟨rb,i,none⟩ u) w.heap.size nv ls/\au w (V.setCell ⟨rb,i,none⟩ u):=fun {V} i u {_ _ _ _ _ _ _} hr ho hb =>
  ⟨⟨Kc ho.1 (row:=some rb) ⟨rfl,rfl,rfl,ar,fun k _ hk=>wh V (ak rb i) k _ (fun e=>hk (by rw[e]))⟩ (.inr (fun e=>Nf ho.1 hr e.symm)),ho.2⟩,hb.setCell (p:=⟨rb,i,none⟩) (by have:=h.Ng;show w.heap.size<=rb;omega) _⟩
 have r0:=h'.r;have s0:=st 0 (ay qs) r0 h'.o h'.b;have r1:=r0.set0 qs;have s1:=st 1 nv r1 s0.1 s0.2;have r2:=r1.set1 nv;have s2:=st 2 (aj ty) r2 s1.1 s1.2;have r3:=r2.set2 ty;have s3:=st 3 (aj cl) r3 s2.1 s2.2;have r4:=r3.iM cl;have s4:=st 4 (.bool op) r4 s3.1 s3.2;have r5:=r4.lj op;have s5:=st 5 (aj sz) r5 s4.1 s4.2;have r6:=r5.oF sz;have s6:=st 6 (aj aU) r6 s5.1 s5.2;exact⟨r6.rT aU,s6.1,s6.2⟩
end
def awz(s:ah)(base:Nat)(e:Ending)(w':World):Prop:=∃(qs:ah) (nv:Value) (ty cl:Int) (op:Bool) (sz aU:Int) (ok:Bool),e=.returned (.tuple #[.agg #[ay qs,nv,aj ty,aj cl,.bool op,aj sz,aj aU],.bool ok]) /\
 (∃a n c,nv=.slice a n c)/\match fo s with
  | none=>ok=false
  | some (q,ls,t,c,o,z,v)=>ok=true/\qs=q/\ty=(t:Nat)/\cl=(c:Nat)/\op=o/\sz=(z:Nat)/\aU=(v:Nat)/\mK w' base nv ls
theorem awA(s:ah)(w:World)(hs:12<=s.length)(hl:s.length<=2000000) :
  aB 76 #[ay s] w fun e w'=>awz s w.heap.size e w'/\au w w':=by
 obtain⟨i0,lQ,hz0,hz1,hz2⟩:=kJ HZ;have nV:=ag (fun(i:Nat) (W:World) (h:i+1<s.length)=>asX s i W h ae);have hz:(aq s).size=s.length:=bJ s;obtain⟨kV,Eh⟩:∃kV:Obj,kV=.cells #[.string ⟨#[]⟩,.slice none 0 0,.int .i64 0,.int .i64 0,.bool false,.int .i64 0,.int .i64 0] 144:=⟨_,rfl⟩
 have sU:Hid (eW ((w.alloc kV).alloc kV) (w.heap.size+1) [] (aH) 0 0 false 0 0/\eW ((w.alloc kV).alloc kV) w.heap.size [] (aH) 0 0 false 0 0/\au w ((w.alloc kV).alloc kV)):=by
  have h1:=World.alloc_heap_new (w.alloc kV) kV;rw[dD]at h1;refine⟨by rw[Eh]at h1 ⊢; exact h1,?_,(aO.alloc aA _).alloc ar _⟩;have h2:=(cD (w.alloc kV) kV w.heap.size ar).trans (World.alloc_heap_new w kV);rw[Eh]at h2 ⊢; exact h2
 go_enter func76,ntmps76;go_wp2_with fail;rw[<- Eh];obtain⟨rb,xk⟩:=bF w.heap.size;obtain⟨qb,yV⟩:=bF (w.heap.size+1);have Hd:Hid (eW ((w.alloc kV).alloc kV) qb [] (aH) 0 0 false 0 0/\eW ((w.alloc kV).alloc kV) rb [] (aH) 0 0 false 0 0/\au w ((w.alloc kV).alloc kV)):=by rw[xk,yV];exact sU
 rw[<- yV,<- xk];clear sU;have aL:Hid (∀(i:Nat) (v:Value) (W:World),au w W->au w (W.setCell ⟨rb,i,none⟩ v)):=fun i v W h=>h.setCell (p:=⟨rb,i,none⟩) (by show w.heap.size<=rb;omega) v;have Gj:=ag (bg xk yV);generalize (w.alloc kV).alloc kV=w0 at *;clear xk yV Eh;refine(nV 4 w0 ae).mono ?_;rintro e w1 ⟨rfl,hb⟩;have kT:Hid (eW w1 qb [] (aH) 0 0 false 0 0/\eW w1 rb [] (aH) 0 0 false 0 0/\au w w1):=⟨Hd.1.kept (hb.block qb Hd.1.lt),Hd.2.1.kept (hb.block rb Hd.2.1.lt),Hd.2.2.trans (hb.mono Hd.2.2.size)⟩
 clear hb Hd;obtain⟨n4,Nj⟩:∃n,n=bp s 4:=⟨_,rfl⟩
 rw[<- Nj];by_cases h4:n4=1
 case neg =>
  have nY:((n4:Int) != 1)=true:=aP;have hno:fo s=none:=by unfold fo;rw[aJ (.inl (by rw[<- Nj];omega))]
  clear Nj;obtain⟨q0,q1,q2,q3,q4,q5,q6⟩:=kT.1.cells;obtain⟨r0,r1,r2,r3,r4,r5,r6⟩:=kT.2.1.cells;have lg:=kT.2.1.frozen;go_wp2_with fail;have hF:=((((((kT.2.1.set0 []).set1 (aH)).set2 0).iM 0).lj false).oF 0).rT 0;have hB:=af aL 6 (aj 0) _ (aL 5 (aj 0) _ (aL 4 (.bool false) _ (aL 3 (aj 0) _ (aL 2 (aj 0) _ (aL 1 (aH) _ (aL 0 (.string (aq [])) _ kT.2.2))))))
  revert hF hB
  generalize World.setCell _ _ _=qF;intro hF hB;obtain⟨x0,x1,x2,x3,x4,x5,x6⟩:=hF.cells;refine fB (v:=.tuple #[.agg #[.string (aq []),.slice none 0 0,.int .i64 0,.int .i64 0,.bool false,.int .i64 0,.int .i64 0],.bool false]) (by simp[results,results76,go_sem,x0,x1,x2,x3,x4,x5,x6]) rfl ⟨⟨[],_,0,0,false,0,0,false,rfl,⟨_,_,_,rfl⟩,by rw[hno]⟩,hB⟩
 have aBK:((n4:Int) != 1)=false:=aP;have wO:=ag (bg Nj.symm h4);clear Nj;go_wp2_with fail;refine(nV 6 w1 ae).mono ?_;rintro e w2 ⟨rfl,hb⟩;have ju:Hid (eW w2 qb [] (aH) 0 0 false 0 0/\eW w2 rb [] (aH) 0 0 false 0 0/\au w w2):=⟨kT.1.kept (hb.block qb kT.1.lt),kT.2.1.kept (hb.block rb kT.2.1.lt),kT.2.2.trans (hb.mono kT.2.2.size)⟩
 clear hb kT;obtain⟨n6,DD⟩:∃n,n=bp s 6:=⟨_,rfl⟩
 rw[<- DD];by_cases h6:n6=0
 case neg =>
  have nY:((n6:Int) != 0)=true:=aP;have hno:fo s=none:=by unfold fo;rw[aJ (.inr (.inl (by rw[<- DD];omega)))]
  clear DD;obtain⟨q0,q1,q2,q3,q4,q5,q6⟩:=ju.1.cells;obtain⟨r0,r1,r2,r3,r4,r5,r6⟩:=ju.2.1.cells;have lg:=ju.2.1.frozen;go_wp2_with fail;have hF:=((((((ju.2.1.set0 []).set1 (aH)).set2 0).iM 0).lj false).oF 0).rT 0;have hB:=af aL 6 (aj 0) _ (aL 5 (aj 0) _ (aL 4 (.bool false) _ (aL 3 (aj 0) _ (aL 2 (aj 0) _ (aL 1 (aH) _ (aL 0 (.string (aq [])) _ ju.2.2))))))
  revert hF hB
  generalize World.setCell _ _ _=qF;intro hF hB;obtain⟨x0,x1,x2,x3,x4,x5,x6⟩:=hF.cells;refine fB (v:=.tuple #[.agg #[.string (aq []),.slice none 0 0,.int .i64 0,.int .i64 0,.bool false,.int .i64 0,.int .i64 0],.bool false]) (by simp[results,results76,go_sem,x0,x1,x2,x3,x4,x5,x6]) rfl ⟨⟨[],_,0,0,false,0,0,false,rfl,⟨_,_,_,rfl⟩,by rw[hno]⟩,hB⟩
 have aBL:((n6:Int) != 0)=false:=aP;have YQ:=ag (bg DD.symm h6);clear DD;go_wp2_with fail;refine(nV 8 w2 ae).mono ?_;rintro e w3 ⟨rfl,hb⟩;have kG:Hid (eW w3 qb [] (aH) 0 0 false 0 0/\eW w3 rb [] (aH) 0 0 false 0 0/\au w w3):=⟨ju.1.kept (hb.block qb ju.1.lt),ju.2.1.kept (hb.block rb ju.2.1.lt),ju.2.2.trans (hb.mono ju.2.2.size)⟩
 clear hb ju;obtain⟨n8,yF⟩:∃n,n=bp s 8:=⟨_,rfl⟩
 rw[<- yF];by_cases h8:n8=0
 case neg =>
  have nY:((n8:Int) != 0)=true:=aP;have hno:fo s=none:=by unfold fo;rw[aJ (.inr (.inr (.inl (by rw[<- yF];omega))))]
  clear yF;obtain⟨q0,q1,q2,q3,q4,q5,q6⟩:=kG.1.cells;obtain⟨r0,r1,r2,r3,r4,r5,r6⟩:=kG.2.1.cells;have lg:=kG.2.1.frozen;go_wp2_with fail;have hF:=((((((kG.2.1.set0 []).set1 (aH)).set2 0).iM 0).lj false).oF 0).rT 0;have hB:=af aL 6 (aj 0) _ (aL 5 (aj 0) _ (aL 4 (.bool false) _ (aL 3 (aj 0) _ (aL 2 (aj 0) _ (aL 1 (aH) _ (aL 0 (.string (aq [])) _ kG.2.2))))))
  revert hF hB
  generalize World.setCell _ _ _=qF;intro hF hB;obtain⟨x0,x1,x2,x3,x4,x5,x6⟩:=hF.cells;refine fB (v:=.tuple #[.agg #[.string (aq []),.slice none 0 0,.int .i64 0,.int .i64 0,.bool false,.int .i64 0,.int .i64 0],.bool false]) (by simp[results,results76,go_sem,x0,x1,x2,x3,x4,x5,x6]) rfl ⟨⟨[],_,0,0,false,0,0,false,rfl,⟨_,_,_,rfl⟩,by rw[hno]⟩,hB⟩
 have aBM:((n8:Int) != 0)=false:=aP;have Jq:=ag (bg yF.symm h8);clear yF;go_wp2_with fail;refine(nV 10 w3 ae).mono ?_;rintro e w4 ⟨rfl,hb⟩;have ql:Hid (eW w4 qb [] (aH) 0 0 false 0 0/\eW w4 rb [] (aH) 0 0 false 0 0/\au w w4):=⟨kG.1.kept (hb.block qb kG.1.lt),kG.2.1.kept (hb.block rb kG.2.1.lt),kG.2.2.trans (hb.mono kG.2.2.size)⟩
 clear hb kG;obtain⟨n10,Nk⟩:∃n,n=bp s 10:=⟨_,rfl⟩
 rw[<- Nk];by_cases h10:¬1<n10
 case neg =>
  have nY:decide ((1:Int)<(n10:Int))=true:=aP;have hno:fo s=none:=by unfold fo;rw[aJ (.inr (.inr (.inr (by rw[<- Nk];omega))))]
  clear Nk;obtain⟨q0,q1,q2,q3,q4,q5,q6⟩:=ql.1.cells;obtain⟨r0,r1,r2,r3,r4,r5,r6⟩:=ql.2.1.cells;have lg:=ql.2.1.frozen;go_wp2_with fail;have hF:=((((((ql.2.1.set0 []).set1 (aH)).set2 0).iM 0).lj false).oF 0).rT 0;have hB:=af aL 6 (aj 0) _ (aL 5 (aj 0) _ (aL 4 (.bool false) _ (aL 3 (aj 0) _ (aL 2 (aj 0) _ (aL 1 (aH) _ (aL 0 (.string (aq [])) _ ql.2.2))))))
  revert hF hB
  generalize World.setCell _ _ _=qF;intro hF hB;obtain⟨x0,x1,x2,x3,x4,x5,x6⟩:=hF.cells;refine fB (v:=.tuple #[.agg #[.string (aq []),.slice none 0 0,.int .i64 0,.int .i64 0,.bool false,.int .i64 0,.int .i64 0],.bool false]) (by simp[results,results76,go_sem,x0,x1,x2,x3,x4,x5,x6]) rfl ⟨⟨[],_,0,0,false,0,0,false,rfl,⟨_,_,_,rfl⟩,by rw[hno]⟩,hB⟩
 have aBN:decide ((1:Int)<(n10:Int))=false:=aP;have RY:=ag (bg Nk.symm h10);clear Nk;go_wp2_with fail;have aiF:∀(x:Option (List ah×ah)),lW (s.length+1) (s.drop 12) []=x->x=none->fo s=none:=fun x hx hn=>by
  unfold fo;rw[aF (by rw[wO.1,YQ.1,Jq.1,RY.1];omega),hx,hn]
 obtain⟨JG,YR⟩:∃JG,lW (s.length+1) (s.drop 12) []=JG:=⟨_,rfl⟩
 have RZ:=ag (aiF JG YR);have YS:=ag YR;clear aiF YR;go_wp2_with fail
 go_loopw [5,6] (fun iv nv wr=>∃(i f:Nat) (acc:List ah) (xv:Value),iv=aj i/\12<=i/\i<=s.length/\s.length<f+i/\Hid (lW f (s.drop i) acc=JG)/\acc.length<=i/\Hid (mK wr w.heap.size xv acc)/\Hid (eW wr qb [] xv 0 0 false 0 0/\eW wr rb [] (aH) 0 0 false 0 0/\au w wr)) (fun iv _ _=>s.length - (intOf iv).toNat)
 case atStart=>exact⟨12,s.length+1,[],aH,rfl,ae,ae,ae,YS,ar,⟨ia _ _ _ _,ar⟩,ql⟩
 case round =>
  obtain⟨i,f,acc,xv,rfl,Ic,Fy,hf,ej,yQ,HO,dn⟩:=hrel;obtain⟨xa,im,xc,awB⟩:∃a n c,xv=.slice a n c:=by
   rcases HO.1.2 with⟨h,_⟩|⟨g,cap,cur,h,_⟩
   ·exact⟨_,_,_,h⟩
   ·exact⟨_,_,_,h⟩
  subst awB;by_cases hlt:i<s.length
  case neg =>
   have yu:i=s.length:=ae;have nY:decide ((i:Int) ≥ (s.length:Int))=true:=aP;have hno:fo s=none:=by
    refine af RZ ?_;have:=af ej;rw[yu,vU]at this;rw[<- this];cases f <;> rfl
   clear hf ej yQ;obtain⟨q0,q1,q2,q3,q4,q5,q6⟩:=dn.1.cells;obtain⟨r0,r1,r2,r3,r4,r5,r6⟩:=dn.2.1.cells;have lg:=dn.2.1.frozen;go_wp2_with fail;have hF:=((((((dn.2.1.set0 []).set1 (.slice xa im xc)).set2 0).iM 0).lj false).oF 0).rT 0;have hB:=af aL 6 (aj 0) _ (aL 5 (aj 0) _ (aL 4 (.bool false) _ (aL 3 (aj 0) _ (aL 2 (aj 0) _ (aL 1 (.slice xa im xc) _ (aL 0 (.string (aq [])) _ dn.2.2))))))
   revert hF hB
   generalize World.setCell _ _ _=qF;intro hF hB;obtain⟨x0,x1,x2,x3,x4,x5,x6⟩:=hF.cells;refine fB (v:=.tuple #[.agg #[.string (aq []),.slice xa im xc,.int .i64 0,.int .i64 0,.bool false,.int .i64 0,.int .i64 0],.bool false]) (by simp[results,results76,go_sem,x0,x1,x2,x3,x4,x5,x6]) rfl ⟨⟨[],_,0,0,false,0,0,false,rfl,⟨_,_,_,rfl⟩,by rw[hno]⟩,hB⟩
  obtain⟨c,hc⟩:∃c:UInt8,c=s[i]:=⟨_,rfl⟩
  have g1:∀h:i<(aq s).size,(aq s)[i]=c:=fun h=>hc.symm;have hdr:s.drop i=c :: s.drop (i+1):=by rw[hc];exact ko hlt
  obtain⟨f,rfl⟩:∃f',f=f'+1:=⟨f - 1,ae⟩
  have HST:Hid ((if c=0 then some (acc,s.drop (i+1))else if 63<c.toNat\/(s.drop (i+1)).length<c.toNat then none else lW f ((s.drop (i+1)).drop c.toNat) (acc++[(s.drop (i+1)).take c.toNat]))=JG):=by
   have:=af ej;rw[hdr]at this;exact this
  rw[fM,rF]at HST;obtain⟨n,hn⟩:=bF c.toNat;have uI:(c.toNat:Int)=(n:Int):=by rw[hn]
  have yy:n<256:=by rw[hn];exact kZ c
  have hc0:c=0 ↔ n=0:=by rw[hn];exact⟨fun h=>by rw[h];rfl,fun h=>by apply Hw;exact h⟩
  rw[<- hn]at HST;have gy:(i:Int)<(s.length:Int):=ae;have w1':IntKind.i64.wrap (n:Int)=(n:Int):=by rw[fF];omega
  have w2':IntKind.i64.wrap ((i:Int)+1)=((i+1:Nat):Int):=by rw[fF];omega
  obtain⟨j,hj⟩:=bF (i+1);rw[<- hj]at HST w2';have gG:=ag (bg hj hc0);have Qd:=ag (bg hc hn);by_cases h0:n=0
  case neg =>
   rw[aF (fun h=>h0 (hc0.1 h))]at HST;by_cases h63:63<n
   case pos =>
    have hno:fo s=none:=af RZ (by have:=af HST;rw[aJ (.inl h63)]at this;exact this.symm);clear hc hdr hn ej HST;obtain⟨q0,q1,q2,q3,q4,q5,q6⟩:=dn.1.cells;obtain⟨r0,r1,r2,r3,r4,r5,r6⟩:=dn.2.1.cells;have lg:=dn.2.1.frozen;go_wp2_with fail;have hF:=((((((dn.2.1.set0 []).set1 (.slice xa im xc)).set2 0).iM 0).lj false).oF 0).rT 0;have hB:=af aL 6 (aj 0) _ (aL 5 (aj 0) _ (aL 4 (.bool false) _ (aL 3 (aj 0) _ (aL 2 (aj 0) _ (aL 1 (.slice xa im xc) _ (aL 0 (.string (aq [])) _ dn.2.2))))))
    revert hF hB
    generalize World.setCell _ _ _=qF;intro hF hB;obtain⟨x0,x1,x2,x3,x4,x5,x6⟩:=hF.cells;refine fB (v:=.tuple #[.agg #[.string (aq []),.slice xa im xc,.int .i64 0,.int .i64 0,.bool false,.int .i64 0,.int .i64 0],.bool false]) (by simp[results,results76,go_sem,x0,x1,x2,x3,x4,x5,x6]) rfl ⟨⟨[],_,0,0,false,0,0,false,rfl,⟨_,_,_,rfl⟩,by rw[hno]⟩,hB⟩
   have hw3:IntKind.i64.wrap ((j:Int)+(n:Int))=((j+n:Nat):Int):=by rw[fF];omega
   by_cases Cn:s.length<j+n
   case pos =>
    have hno:fo s=none:=af RZ (by have:=af HST;rw[aJ (.inr ae)]at this;exact this.symm);have awC:decide ((s.length:Int)<((j+n:Nat):Int))=true:=aP;clear hc hdr hn ej HST;obtain⟨q0,q1,q2,q3,q4,q5,q6⟩:=dn.1.cells;obtain⟨r0,r1,r2,r3,r4,r5,r6⟩:=dn.2.1.cells;have lg:=dn.2.1.frozen;go_wp2_with fail;have hF:=((((((dn.2.1.set0 []).set1 (.slice xa im xc)).set2 0).iM 0).lj false).oF 0).rT 0;have hB:=af aL 6 (aj 0) _ (aL 5 (aj 0) _ (aL 4 (.bool false) _ (aL 3 (aj 0) _ (aL 2 (aj 0) _ (aL 1 (.slice xa im xc) _ (aL 0 (.string (aq [])) _ dn.2.2))))))
    revert hF hB
    generalize World.setCell _ _ _=qF;intro hF hB;obtain⟨x0,x1,x2,x3,x4,x5,x6⟩:=hF.cells;refine fB (v:=.tuple #[.agg #[.string (aq []),.slice xa im xc,.int .i64 0,.int .i64 0,.bool false,.int .i64 0,.int .i64 0],.bool false]) (by simp[results,results76,go_sem,x0,x1,x2,x3,x4,x5,x6]) rfl ⟨⟨[],_,0,0,false,0,0,false,rfl,⟨_,_,_,rfl⟩,by rw[hno]⟩,hB⟩
   have aiG:Hid (lW f (s.drop (j+n)) (acc++[(s.drop j).take n])=JG):=by have:=af HST;rw[aF ae]at this;exact this
   have kx:(aq s).extract j (j+n)=aq ((s.drop j).take n):=by have:=KQ s j (j+n);rw[ZX]at this;exact this
   have Ag:im=acc.length:=by
    rcases HO.1.2 with⟨h,h0⟩|⟨g,cap,cur,h,_⟩
    ·have:=(mS h).2.1;omega
    ·exact(mS h).2.1
   subst Ag;have aiH:=Nf HO.1 dn.1;have aiI:=Nf HO.1 dn.2.1;obtain⟨q0,q1,q2,q3,q4,q5,q6⟩:=dn.1.cells;have RI:=dn.1.lt;have hrl:=dn.2.1.lt;have qc:=dn.1.frozen;have bX:=dn.2.2.size;obtain⟨jn,hjn⟩:=bF (j+n);rw[<- hjn]at kx hw3 aiG;have b1:(j:Int)<=(jn:Int):=ae;have b2:(jn:Int)<=(s.length:Int):=ae;have b3:j<=jn:=ae;have b4:jn<=s.length:=ae;have awC:decide ((s.length:Int)<(i:Int)+1+(n:Int))=false:=by have:=gG.1;simp;omega
   have aBO:decide ((63:Int)<(n:Int))=false:=aP;have oN:=gG.1;have aBP:(aq s).extract (i+1) (i+1+n)=aq ((s.drop j).take n):=by rw[<- oN,<- hjn];exact kx
   have b5:(i:Int)+1+(n:Int)<=(s.length:Int):=ae;have b6:i+1+n<=s.length:=ae;have aBQ:¬(63:Int)<(n:Int):=ae;have aBR:IntKind.i64.wrap ((i:Int)+1+(n:Int))=(i:Int)+1+(n:Int):=by rw[fF];omega
   have nE:((i:Int)+1+(n:Int)).toNat=i+1+n:=ae;have b7:(0:Int)<=(i:Int)+1+(n:Int):=ae;have b8:(0:Int)<=(i:Int)+1:=ae;have b9:(i:Int)+1<=(i:Int)+1+(n:Int):=ae;have awD:=ag hjn;have awE:=ag oN;clear hc hdr hn ej HST hjn q0 q2 q3 q4 q5 q6 hc0 Cn oN hj kx hw3 w2';go_wp2_with fail
   go_region_law (first|(refine step_append_lies _ rfl (.tmp 52) (.tmp 59) 113 rfl w.heap.size 9 i0 _ 1 16 Iw lQ hz0 hz1 hz2 rfl bD _ acc.length (acc.map fun l=>ay l) rfl (ic HO.1 (aO.alloc aA _).drew) _ 1 1 [ay ((s.drop j).take n)] rfl rfl (fun j u hj=>awy wr _ _ j u hj) (fun u hu=>by simp at hu;subst hu;rfl) bD (by unfold maxLen;omega) ae aP (wr.heap.size+1) ar ?_;intro g cap' w3 hown hgrow hat hlt3;have Nl:eW w3 qb [] (.slice xa acc.length xc) 0 0 false 0 0:=dn.1.kept ((hgrow.block qb aP aiH).trans (cD _ _ _ RI));have f3:=Nl.frozen;have M7:=Nl.cells.2.1))
   all_goals
    have hgrow':World.grownBy _ w3 (Value.slice xa acc.length xc).ownBlock:=hgrow;have RO:=Nf hown Nl;have aiJ:=iW HO.1;have awF:=(iW hown g rfl).1;have hA:=(dn.2.2.alloc bX (.cells #[.string (aq ((s.drop j).take n))] 9)).drew;have yV:w.heap.size<=qb:=by have:=Gj.2;omega
    have KL:Hid (mK (w3.setCell ⟨qb,1,none⟩ (.slice (some ⟨g,0,none⟩) (acc.length+1) cap')) w.heap.size (aD g 0 (acc.length+1) cap') (acc++[(s.drop j).take n])):=by
     refine⟨?_,⟨fun h=>(by cases h),fun h=>by simp at h⟩⟩;have:=Kc hown (w':=w3.setCell ⟨qb,1,none⟩ (.slice (some ⟨g,0,none⟩) (acc.length+1) cap')) (row:=some qb) ⟨rfl,rfl,rfl,ar,fun k _ hk=>wh w3 (ak qb 1) k _ (fun e=>hk (by rw[e]))⟩ (.inr (fun e=>RO e.symm));rw[bj,gJ];exact this
    have ql:Hid (eW (w3.setCell ⟨qb,1,none⟩ (.slice (some ⟨g,0,none⟩) (acc.length+1) cap')) qb [] (aD g 0 (acc.length+1) cap') 0 0 false 0 0/\eW (w3.setCell ⟨qb,1,none⟩ (.slice (some ⟨g,0,none⟩) (acc.length+1) cap')) rb [] (aH) 0 0 false 0 0/\au w (w3.setCell ⟨qb,1,none⟩ (.slice (some ⟨g,0,none⟩) (acc.length+1) cap'))):=by
     refine⟨Nl.set1 _,dn.2.1.kept ?_,?_⟩
     ·refine(wh w3 (ak qb 1) rb _ ?_).trans ((hgrow'.block rb aP aiI).trans (cD _ _ _ hrl));have:=af Gj;show rb≠qb;omega
     ·exact(hA.trans ⟨hgrow'.os,hgrow'.tape,hgrow'.output,hgrow'.size,fun k hk=>hgrow'.block k (by have:=hA.size;omega) (fun e=>by have:=(aiJ k e.symm).1;omega)⟩).setCell (p:=⟨qb,1,none⟩) yV _
    have aBS:=af awD;have aBT:=af awE;clear hown hgrow hgrow' hat hlt3 Nl f3 M7 RO aiJ awF hA yV aiH aiI dn HO;generalize w3.setCell ⟨qb,1,none⟩ (.slice (some ⟨g,0,none⟩) (acc.length+1) cap')=w4 at *;go_wp2;exact⟨⟨jn,f,acc++[(s.drop j).take n],aD g 0 (acc.length+1) cap',dE (Value.int .i64) ae,ae,ae,ae,aiG,by rw[bj];simp;omega,KL,ql⟩,c5⟩
  subst h0;rw[aJ (hc0.2 rfl)]at HST;have Nn:Hid (fo s=Hc s j acc n10):=awx wO.1 YQ.1 Jq.1 RY.1 wO.2 YQ.2 Jq.2 (by have:=RY.2;omega) (by rw[af YS];exact HST.symm) ae;have He:Hid (∀(k:Nat) (I:Int) (W:World),I=(k:Int)->k+1<s.length->aB 141 #[ay s,aj I] W (bQ (aj (bp s k)) W)):=fun k I W hI hk=>by rw[hI];exact nV k W hk
  clear hc hdr hn ej hc0 Qd RZ YS HST hf;by_cases gS:255<j - 12
  case pos =>
   have hno:fo s=none:=by rw[af Nn];unfold Hc;rw[aJ (.inl gS)]
   have d1:(255:Int)<(i:Int)+1 - 12:=ae;clear w2';obtain⟨q0,q1,q2,q3,q4,q5,q6⟩:=dn.1.cells;obtain⟨r0,r1,r2,r3,r4,r5,r6⟩:=dn.2.1.cells;have lg:=dn.2.1.frozen;go_wp2_with fail;have hF:=((((((dn.2.1.set0 []).set1 (.slice xa im xc)).set2 0).iM 0).lj false).oF 0).rT 0;have hB:=af aL 6 (aj 0) _ (aL 5 (aj 0) _ (aL 4 (.bool false) _ (aL 3 (aj 0) _ (aL 2 (aj 0) _ (aL 1 (.slice xa im xc) _ (aL 0 (.string (aq [])) _ dn.2.2))))))
   revert hF hB
   generalize World.setCell _ _ _=qF;intro hF hB;obtain⟨x0,x1,x2,x3,x4,x5,x6⟩:=hF.cells;refine fB (v:=.tuple #[.agg #[.string (aq []),.slice xa im xc,.int .i64 0,.int .i64 0,.bool false,.int .i64 0,.int .i64 0],.bool false]) (by simp[results,results76,go_sem,x0,x1,x2,x3,x4,x5,x6]) rfl ⟨⟨[],_,0,0,false,0,0,false,rfl,⟨_,_,_,rfl⟩,by rw[hno]⟩,hB⟩
  by_cases AU:s.length<j+4
  case pos =>
   have hno:fo s=none:=by rw[af Nn];unfold Hc;rw[aJ (.inr AU)]
   have d1:¬(255:Int)<(i:Int)+1 - 12:=ae;have d2:(s.length:Int)<(i:Int)+1+4:=ae;clear w2';obtain⟨q0,q1,q2,q3,q4,q5,q6⟩:=dn.1.cells;obtain⟨r0,r1,r2,r3,r4,r5,r6⟩:=dn.2.1.cells;have lg:=dn.2.1.frozen;go_wp2_with fail;have hF:=((((((dn.2.1.set0 []).set1 (.slice xa im xc)).set2 0).iM 0).lj false).oF 0).rT 0;have hB:=af aL 6 (aj 0) _ (aL 5 (aj 0) _ (aL 4 (.bool false) _ (aL 3 (aj 0) _ (aL 2 (aj 0) _ (aL 1 (.slice xa im xc) _ (aL 0 (.string (aq [])) _ dn.2.2))))))
   revert hF hB
   generalize World.setCell _ _ _=qF;intro hF hB;obtain⟨x0,x1,x2,x3,x4,x5,x6⟩:=hF.cells;refine fB (v:=.tuple #[.agg #[.string (aq []),.slice xa im xc,.int .i64 0,.int .i64 0,.bool false,.int .i64 0,.int .i64 0],.bool false]) (by simp[results,results76,go_sem,x0,x1,x2,x3,x4,x5,x6]) rfl ⟨⟨[],_,0,0,false,0,0,false,rfl,⟨_,_,_,rfl⟩,by rw[hno]⟩,hB⟩
  have d1:¬(255:Int)<(i:Int)+1 - 12:=ae;have d2:¬(s.length:Int)<(i:Int)+1+4:=ae;clear w2';go_wp2_with fail;refine(He j _ wr ae ae).mono ?_;rintro e w5 ⟨rfl,hb5⟩;rw[show((i:Int)+1)=(j:Int) by omega];have awG:13<=j:=ae;have Hf:Hid (xE w w5 rb qb (.slice xa im xc) acc [] 0 0 false 0 0):=xE.below ⟨dn.1,dn.2.1,HO,dn.2.2,Gj.1,Gj.2⟩ hb5;obtain⟨ty,dJ⟩:=bF (bp s j);rw[<- dJ];have xe:=ag dJ;clear hb5 dn HO dJ d1 d2 uI w1' gy g1 hlt Ic Fy nV aL hj gG;obtain⟨q0,q1,q2,q3,q4,q5,q6⟩:=Hf.q.cells;obtain⟨r0,r1,r2,r3,r4,r5,r6⟩:=Hf.r.cells;have qc:=Hf.q.frozen;have lg:=Hf.r.frozen;have awH:IntKind.i64.wrap ((j:Int)+2)=(j:Int)+2:=by rw[fF];omega
  go_wp2_with fail;have aiK:Hid (xE w (w5.setCell ⟨qb,2,none⟩ (.int .i64 ty)) rb qb (.slice xa im xc) acc [] ty 0 false 0 0):=Hf.ED (Hf.q.set2 ty);clear q0 q1 q2 q3 q4 q5 q6 qc Hf;generalize w5.setCell ⟨qb,2,none⟩ (.int .i64 ty)=w6 at *;refine(He (j+2) _ w6 ae ae).mono ?_;rintro e w7 ⟨rfl,di⟩;obtain⟨cl,hcl⟩:=bF (bp s (j+2));rw[<- hcl];have Fl:=ag hcl;have qC:=ag (aiK.below di);clear di aiK hcl;obtain⟨m,hm⟩:=bF (j+4);obtain⟨Q,hQ⟩:=bF ((s.drop 12).take (j+4 - 12));have kx:(aq s).extract 12 (j+4)=aq Q:=by rw[hQ];exact KQ s 12 (j+4)
  have YT:=ag hQ;clear hQ;have awI:IntKind.i64.wrap ((j:Int)+4)=(j:Int)+4:=by rw[fF];omega
  have b1:(12:Int)<=(j:Int)+4:=ae;have b2:(j:Int)+4<=(s.length:Int):=ae;have b3:((j:Int)+4).toNat=j+4:=ae;have b4:(0:Int)<=(j:Int)+4:=ae;have b5:12<=j+4:=ae;have b6:j+4<=s.length:=ae;obtain⟨q0,q1,q2,q3,q4,q5,q6⟩:=qC.q.cells;obtain⟨r0,r1,r2,r3,r4,r5,r6⟩:=qC.r.cells;have qc:=qC.q.frozen;have lg:=qC.r.frozen;have yS:Hid (xE w ((w7.setCell ⟨qb,3,none⟩ (.int .i64 cl)).setCell ⟨qb,0,none⟩ (.string (aq Q))) rb qb (.slice xa im xc) acc Q ty cl false 0 0):=by
   have h1:=qC.ED (qC.q.iM cl);exact h1.ED (h1.q.set0 Q)
  have YU:(w7.setCell ⟨qb,3,none⟩ (.int .i64 cl)).frozen? (ak qb 0)=false:=(qC.ED (qC.q.iM (cl:Int))).q.frozen 0;go_wp2_with fail;clear q0 q1 q2 q3 q4 q5 q6 qc YU qC b1 b2 b3 b4 b5 kx awI awH;generalize (w7.setCell ⟨qb,3,none⟩ (.int .i64 cl)).setCell ⟨qb,0,none⟩ (.string (aq Q))=w8 at *;refine(He 10 _ w8 rfl ae).mono ?_;rintro e w9 ⟨rfl,rY⟩;rw[RY.1,show((j:Int)+4)=(m:Int) by omega];have aBU:17<=m:=ae;have aBV:m<=s.length:=ae;have dA:=ag hm;clear hm;have iU:=ag (yS.below rY);clear rY yS;by_cases eQ:n10=0
  case pos =>
   have hnz:((n10:Int) == 0)=true:=aP;obtain⟨okb,Np⟩:∃okb:Bool,((m:Int) == (s.length:Int))=okb:=⟨_,rfl⟩
   have aY:match fo s with
    | none=>okb=false
    | some (q,ls,t,c,o,z,v)=>okb=true/\Q=q/\(ty:Int)=(t:Nat)/\(cl:Int)=(c:Nat)/\false=o/\(0:Int)=(z:Nat)/\(0:Int)=(v:Nat)/\ls=acc:=by
    have hm:=af dA;rw[af Nn,Hc,aF ae,aJ eQ];by_cases hl4:s.length=j+4
    ·rw[aJ hl4,<- Np];exact⟨aP,YT,by rw[af xe],by rw[af Fl],rfl,rfl,rfl,rfl⟩
    ·rw[aF hl4,<- Np];show((m:Int) == (s.length:Int))=false;simp;omega
   have um:=ag aY;clear aY;obtain⟨q0,q1,q2,q3,q4,q5,q6⟩:=iU.q.cells;obtain⟨r0,r1,r2,r3,r4,r5,r6⟩:=iU.r.cells;have qc:=iU.q.frozen;have lg:=iU.r.frozen;go_wp2_with fail;have hF:=iU.Ni (W':=w9) aO
   revert hF
   generalize World.setCell _ _ _=qF;intro hF;obtain⟨x0,x1,x2,x3,x4,x5,x6⟩:=hF.1.cells;refine fB (v:=.tuple #[.agg #[.string (aq Q),.slice xa im xc,.int .i64 ty,.int .i64 cl,.bool false,.int .i64 0,.int .i64 0],.bool okb]) (by simp[results,results76,go_sem,x0,x1,x2,x3,x4,x5,x6]) rfl ⟨⟨Q,_,ty,cl,false,0,0,okb,rfl,⟨_,_,_,rfl⟩,?_⟩,hF.2.2⟩;have aY:=af um
   revert aY
   cases fo s with
   | none=>first|exact id|exact fun _=>rfl
   | some x =>
    obtain⟨a,b,c,d,e,f,g⟩:=x;rintro⟨k0,k1,k2,k3,k4,k5,k6,k7⟩;exact⟨k0,k1,k2,k3,k4,k5,k6,by rw[k7];exact hF.2.1⟩
  have hnz:((n10:Int) == 0)=false:=aP;have Aq:Hid (fo s=if s.length<m+11\/s.getD m 0≠0\/bp s (m+1)≠41\/m+11+bp s (m+9)≠s.length then none else some (Q,acc,ty,cl,true,bp s (m+3),(s.getD (m+6) 0).toNat)):=by
   have hm:=af dA;rw[Hid,af Nn,Hc,aF ae,aF eQ,af YT,af xe,af Fl,hm]
  have qZ:Hid (fo s=none->match fo s with
    | none=>false=false
    | some (q,ls,t,c,o,z,v)=>false=true/\Q=q/\(ty:Int)=(t:Nat)/\(cl:Int)=(c:Nat)/\false=o/\(0:Int)=(z:Nat)/\(0:Int)=(v:Nat)/\ls=acc):=fun h=>by rw[h]
  clear Nn YT xe Fl gS AU awG b6 eQ yQ;by_cases h11:s.length<m+11
  case pos =>
   have um:=ag (qZ (by rw[af Aq,aJ (.inl h11)]));have d1:(s.length:Int)<(m:Int)+11:=ae;obtain⟨q0,q1,q2,q3,q4,q5,q6⟩:=iU.q.cells;obtain⟨r0,r1,r2,r3,r4,r5,r6⟩:=iU.r.cells;have qc:=iU.q.frozen;have lg:=iU.r.frozen;go_wp2_with fail;have hF:=iU.Ni (W':=w9) aO
   revert hF
   generalize World.setCell _ _ _=qF;intro hF;obtain⟨x0,x1,x2,x3,x4,x5,x6⟩:=hF.1.cells;refine fB (v:=.tuple #[.agg #[.string (aq Q),.slice xa im xc,.int .i64 ty,.int .i64 cl,.bool false,.int .i64 0,.int .i64 0],.bool false]) (by simp[results,results76,go_sem,x0,x1,x2,x3,x4,x5,x6]) rfl ⟨⟨Q,_,ty,cl,false,0,0,false,rfl,⟨_,_,_,rfl⟩,?_⟩,hF.2.2⟩;have aY:=af um
   revert aY
   cases fo s with
   | none=>first|exact id|exact fun _=>rfl
   | some x =>
    obtain⟨a,b,c,d,e,f,g⟩:=x;rintro⟨k0,k1,k2,k3,k4,k5,k6,k7⟩;exact⟨k0,k1,k2,k3,k4,k5,k6,by rw[k7];exact hF.2.1⟩
  have d1:¬(s.length:Int)<(m:Int)+11:=ae;have jc:m<s.length:=ae;obtain⟨aC,hc1⟩:∃c:UInt8,c=s[m]:=⟨_,rfl⟩
  have g1:∀h:m<(aq s).size,(aq s)[m]=aC:=fun h=>hc1.symm;have hg1:s.getD m 0=aC:=by rw[hc1,mU,iw jc];rfl
  have xS:(m:Int)<(s.length:Int):=ae;rw[hg1]at Aq;by_cases hc0:aC=0
  case neg =>
   have um:=ag (qZ (by rw[af Aq,aJ (.inr (.inl hc0))]));have uI:((aC.toNat:Int) != 0)=true:=by
    have:aC.toNat≠0:=fun h=>hc0 (Hw h);simp;omega
   clear hc1 hg1;obtain⟨q0,q1,q2,q3,q4,q5,q6⟩:=iU.q.cells;obtain⟨r0,r1,r2,r3,r4,r5,r6⟩:=iU.r.cells;have qc:=iU.q.frozen;have lg:=iU.r.frozen;go_wp2_with fail;have hF:=iU.Ni (W':=w9) aO
   revert hF
   generalize World.setCell _ _ _=qF;intro hF;obtain⟨x0,x1,x2,x3,x4,x5,x6⟩:=hF.1.cells;refine fB (v:=.tuple #[.agg #[.string (aq Q),.slice xa im xc,.int .i64 ty,.int .i64 cl,.bool false,.int .i64 0,.int .i64 0],.bool false]) (by simp[results,results76,go_sem,x0,x1,x2,x3,x4,x5,x6]) rfl ⟨⟨Q,_,ty,cl,false,0,0,false,rfl,⟨_,_,_,rfl⟩,?_⟩,hF.2.2⟩;have aY:=af um
   revert aY
   cases fo s with
   | none=>first|exact id|exact fun _=>rfl
   | some x =>
    obtain⟨a,b,c,d,e,f,g⟩:=x;rintro⟨k0,k1,k2,k3,k4,k5,k6,k7⟩;exact⟨k0,k1,k2,k3,k4,k5,k6,by rw[k7];exact hF.2.1⟩
  have uI:((aC.toNat:Int) != 0)=false:=by rw[hc0];rfl
  clear hc1 hg1;go_wp2_with fail;refine(He (m+1) _ w9 ae ae).mono ?_;rintro e w10 ⟨rfl,F8⟩;have xF:=ag (iU.below F8);obtain⟨k1,kO⟩:∃k,k=bp s (m+1):=⟨_,rfl⟩
  rw[<- kO]at Aq ⊢;clear F8 iU kO g1 uI;by_cases aiL:k1=41
  case neg =>
   have um:=ag (qZ (by rw[af Aq,aJ (.inr (.inr (.inl aiL)))]));have hkn:((k1:Int) != 41)=true:=aP;obtain⟨q0,q1,q2,q3,q4,q5,q6⟩:=xF.q.cells;obtain⟨r0,r1,r2,r3,r4,r5,r6⟩:=xF.r.cells;have qc:=xF.q.frozen;have lg:=xF.r.frozen;go_wp2_with fail;have hF:=xF.Ni (W':=w10) aO
   revert hF
   generalize World.setCell _ _ _=qF;intro hF;obtain⟨x0,x1,x2,x3,x4,x5,x6⟩:=hF.1.cells;refine fB (v:=.tuple #[.agg #[.string (aq Q),.slice xa im xc,.int .i64 ty,.int .i64 cl,.bool false,.int .i64 0,.int .i64 0],.bool false]) (by simp[results,results76,go_sem,x0,x1,x2,x3,x4,x5,x6]) rfl ⟨⟨Q,_,ty,cl,false,0,0,false,rfl,⟨_,_,_,rfl⟩,?_⟩,hF.2.2⟩;have aY:=af um
   revert aY
   cases fo s with
   | none=>first|exact id|exact fun _=>rfl
   | some x =>
    obtain⟨a,b,c,d,e,f,g⟩:=x;rintro⟨k0,k1,k2,k3,k4,k5,k6,k7⟩;exact⟨k0,k1,k2,k3,k4,k5,k6,by rw[k7];exact hF.2.1⟩
  have hkn:((k1:Int) != 41)=false:=aP;obtain⟨q0,q1,q2,q3,q4,q5,q6⟩:=xF.q.cells;obtain⟨r0,r1,r2,r3,r4,r5,r6⟩:=xF.r.cells;have qc:=xF.q.frozen;have lg:=xF.r.frozen;go_wp2_with fail;have aiM:Hid (xE w (w10.setCell ⟨qb,4,none⟩ (.bool true)) rb qb (.slice xa im xc) acc Q ty cl true 0 0):=xF.ED (xF.q.lj true);clear q0 q1 q2 q3 q4 q5 q6 qc r0 r1 r2 r3 r4 r5 r6 lg xF;generalize w10.setCell ⟨qb,4,none⟩ (.bool true)=awJ at *;refine(He (m+3) _ awJ ae ae).mono ?_;rintro e w12 ⟨rfl,eF⟩;have Co:=ag (aiM.below eF);obtain⟨sz,hsz⟩:∃k,k=bp s (m+3):=⟨_,rfl⟩
  rw[<- hsz]at Aq ⊢;clear eF aiM hsz;have awK:m+6<s.length:=ae;obtain⟨jF,Qw⟩:∃c:UInt8,c=s[m+6]:=⟨_,rfl⟩
  have g6:∀h:m+6<(aq s).size,(aq s)[m+6]=jF:=fun h=>Qw.symm;have aiN:s.getD (m+6) 0=jF:=by rw[Qw,mU,iw awK];rfl
  rw[aiN]at Aq;obtain⟨aU,yL⟩:=bF jF.toNat;have aBW:aU<256:=by rw[yL];exact kZ jF
  have awL:(jF.toNat:Int)=(aU:Int):=by rw[yL]
  rw[<- yL]at Aq;have X7:IntKind.i64.wrap (aU:Int)=(aU:Int):=by rw[fF];omega
  have t6:((m:Int)+6).toNat=m+6:=ae;have l6:(m:Int)+6<(s.length:Int):=ae;have awM:(0:Int)<=(m:Int)+6:=ae;have w6:IntKind.i64.wrap ((m:Int)+6)=(m:Int)+6:=by rw[fF];omega
  clear Qw aiN yL;obtain⟨q0,q1,q2,q3,q4,q5,q6⟩:=Co.q.cells;obtain⟨r0,r1,r2,r3,r4,r5,r6⟩:=Co.r.cells;have qc:=Co.q.frozen;have lg:=Co.r.frozen;have awN:Hid (xE w ((w12.setCell ⟨qb,5,none⟩ (.int .i64 sz)).setCell ⟨qb,6,none⟩ (.int .i64 aU)) rb qb (.slice xa im xc) acc Q ty cl true sz aU):=by
   have h1:=Co.ED (Co.q.oF sz);exact h1.ED (h1.q.rT aU)
  have YU:(w12.setCell ⟨qb,5,none⟩ (.int .i64 sz)).frozen? (ak qb 6)=false:=(Co.ED (Co.q.oF (sz:Int))).q.frozen 6;go_wp2_with fail;clear q0 q1 q2 q3 q4 q5 q6 qc YU r0 r1 r2 r3 r4 r5 r6 lg Co g6 t6 l6 awM w6 X7 awL;generalize (w12.setCell ⟨qb,5,none⟩ (.int .i64 sz)).setCell ⟨qb,6,none⟩ (.int .i64 aU)=aBX at *;obtain⟨k9,R3⟩:∃k,k=bp s (m+9):=⟨_,rfl⟩
  have aBY:k9<131072:=by
   have h1:=kZ (s.getD (m+9) 0);have h2:=kZ (s.getD (m+9+1) 0);rw[R3];unfold bp;omega
  have awO:Hid (∀W,aB 141 #[ay s,aj ((m:Int)+9)] W (bQ (aj k9) W)):=fun W=>by rw[R3];exact He (m+9) _ W ae ae
  obtain⟨okb,Np⟩:∃okb:Bool,((m:Int)+11+(k9:Int) == (s.length:Int))=okb:=⟨_,rfl⟩
  have aY:match fo s with
   | none=>okb=false
   | some (q,ls,t,c,o,z,v)=>okb=true/\Q=q/\(ty:Int)=(t:Nat)/\(cl:Int)=(c:Nat)/\true=o/\(sz:Int)=(z:Nat)/\(aU:Int)=(v:Nat)/\ls=acc:=by
   rw[af Aq,<- R3];by_cases aiO:m+11+k9=s.length
   ·rw[aF (by rintro(h|h|h|h);omega;exact h hc0;exact h aiL;exact h aiO),<- Np];exact⟨aP,rfl,rfl,rfl,rfl,rfl,rfl,rfl⟩
   ·rw[aJ (.inr (.inr (.inr aiO))),<- Np];show((m:Int)+11+(k9:Int) == (s.length:Int))=false;simp;omega
  have um:=ag aY;have aBZ:IntKind.i64.wrap ((m:Int)+9)=(m:Int)+9:=by rw[fF];omega
  have aB0:IntKind.i64.wrap ((m:Int)+11)=(m:Int)+11:=by rw[fF];omega
  have aB1:IntKind.i64.wrap ((m:Int)+11+(k9:Int))=(m:Int)+11+(k9:Int):=by rw[fF];omega
  have Nq:=ag (awN.below aO.drew);obtain⟨q0,q1,q2,q3,q4,q5,q6⟩:=Nq.q.cells;clear aY R3 Aq qZ He Gj;go_region_with (go_at_call 141;refine(awO _).mono ?_;rintro e awP ⟨rfl,mC⟩;obtain⟨p0,p1,fh,eK,p4,p5,p6⟩:=(Nq.below mC).q.cells;obtain⟨r0,r1,r2,r3,r4,r5,r6⟩:=(Nq.below mC).r.cells;have lg:=(Nq.below mC).r.frozen)
  all_goals
   go_wp2_with fail;have hF:=Nq.Ni (W':=awP) (mC)
   revert hF
   generalize World.setCell _ _ _=qF;intro hF;obtain⟨x0,x1,x2,x3,x4,x5,x6⟩:=hF.1.cells;refine fB (v:=.tuple #[.agg #[.string (aq Q),.slice xa im xc,.int .i64 ty,.int .i64 cl,.bool true,.int .i64 sz,.int .i64 aU],.bool okb]) (by simp[results,results76,go_sem,x0,x1,x2,x3,x4,x5,x6]) rfl ⟨⟨Q,_,ty,cl,true,sz,aU,okb,rfl,⟨_,_,_,rfl⟩,?_⟩,hF.2.2⟩;have aY:=af um
   revert aY
   cases fo s with
   | none=>first|exact id|exact fun _=>rfl
   | some x =>
    obtain⟨a,b,c,d,e,f,g⟩:=x;rintro⟨k0,k1,k2,k3,k4,k5,k6,k7⟩;exact⟨k0,k1,k2,k3,k4,k5,k6,by rw[k7];exact hF.2.1⟩
end Go.Proofs.YtkkpahmoljiepaaGreatDoor
