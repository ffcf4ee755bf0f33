import Derived.Test.YtkkpahmoljiepaaGreatDoorJ23
set_option maxRecDepth 1000000
set_option maxHeartbeats 12800000
set_option linter.unusedSimpArgs false
set_option linter.unusedVariables false
namespace Go.Proofs.YtkkpahmoljiepaaGreatDoor
open Go.RowKit Go.Proofs.Tryz
def gg:Nat->ah->List ah->Option (List ah×ah)
 | 0,_,_=>none
 | _+1,[],_=>none
 | f+1,a::t,b=>if a=0 then some (b,t)else if 63<a.toNat\/t.length<a.toNat then none else gg f (t.drop a.toNat) (b++[t.take a.toNat])
def cR(s:ah):Option (ah×List ah×Nat×Nat×Bool×Nat×Nat) :=
 if aG s 4≠1\/aG s 6≠0\/aG s 8≠0\/1<aG s 10 then none
 else match gg (s.length+1) (s.drop 12) []with
  | none=>none
  | some (ls,a) =>
   if 255<s.length-a.length-12\/a.length<4 then none
   else if aG s 10=0 then(if a.length=4 then some ((s.drop 12).take (s.length-a.length+4-12),ls,aG a 0,aG a 2,false,0,0)else none)
   else if a.length<15\/a.getD 4 0≠0\/aG a 5≠41\/15+aG a 13≠a.length then none
   else some ((s.drop 12).take (s.length-a.length+4-12),ls,aG a 0,aG a 2,true,aG a 7,(a.getD 10 0).toNat)
def p_(s:ah)(a:Nat)(ls:List ah)(b:Nat):Option (ah×List ah×Nat×Nat×Bool×Nat×Nat) :=
 if 255<a-12\/s.length<a+4 then none
 else if b=0 then(if s.length=a+4 then some ((s.drop 12).take (a+4-12),ls,aG s a,aG s (a+2),false,0,0)else none)
 else if s.length<a+15\/s.getD (a+4) 0≠0\/aG s (a+5)≠41\/a+15+aG s (a+13)≠s.length then none
 else some ((s.drop 12).take (a+4-12),ls,aG s a,aG s (a+2),true,aG s (a+7),(s.getD (a+10) 0).toNat)
theorem Nk(s:ah)(a b:Nat):aG (s.drop a) b=aG s (a+b):=by unfold aG;simp only[fh,vA,nE]
theorem Nl{s:ah}{a e g h d:Nat}{ls:List ah}(o:aG s 4=e)(p:aG s 6=g)(q:aG s 8=h)(l:aG s 10=d)(u:e=1)(w:g=0)(x:h=0)(t:¬1<d)(n:gg (s.length+1) (s.drop 12) []=some (ls,s.drop a))(r:a<=s.length):cR s=p_ s a ls d:=by unfold cR p_;rw[ar ae,n];simp only[Nk,c8,fh,vA,dT,l];have i:s.length-(s.length-a)=a:=ae;rw[i];by_cases ap:255<a-12\/s.length<a+4;{rw[ay ap,ay ae]};{rw[ar ap,ar ae];by_cases b:d=0;{rw[ay b,ay b];by_cases c:s.length=a+4;{rw[ay c,ay ae]};{rw[ar c,ar ae]}};{rw[ar b,ar b];by_cases c:s.length<a+15;{rw[ay (.inl ae),ay (.inl c)]};{have j:(15+aG s (a+13)≠s.length-a) ↔ (a+15+aG s (a+13)≠s.length):=ae;have k:(s.length-a<15) ↔ (s.length<a+15):=ae;simp only[j,k]}}}
def fP(w:World)(qb:Nat)(qs:ah)(nv:Value)(ty cl:Int)(op:Bool)(sz bg:Int):Prop:=w.heap[qb]? = some (.cells #[.string (ai qs),nv,.int .i64 ty,.int .i64 cl,.bool op,.int .i64 sz,.int .i64 bg] 144)
theorem qo{P:Prop}(h:P:=by unfold fP at *; simp only[World.setCell,j0,gC,h];rfl):P:=h
section
variable {w:World} {qb:Nat} {qs:ah} {nv:Value} {ty cl:Int} {op:Bool} {sz bg:Int} (h:fP w qb qs nv ty cl op sz bg)
include h
theorem fP.lt:qb<w.heap.size:=(bn.1 h).1
theorem fP.cells:w.cell? (aq qb 0)=some (au qs)/\w.cell? (aq qb 1)=some nv/\w.cell? (aq qb 2)=some (ak ty)/\w.cell? (aq qb 3)=some (ak cl)/\w.cell? (aq qb 4)=some (.bool op)/\w.cell? (aq qb 5)=some (ak sz)/\w.cell? (aq qb 6)=some (ak bg):=by unfold fP at h;refine⟨?_,?_,?_,?_,?_,?_,?_⟩<;>simp[World.cell?,h]
theorem fP.frozen(i:Nat):w.frozen? (aq qb i)=false:=by unfold fP at h;exact jW
theorem fP.kept{w':World}(a:w'.heap[qb]? = w.heap[qb]?):fP w' qb qs nv ty cl op sz bg:=a.trans h
theorem fP.set0(a:ah):fP (w.setCell ⟨qb,0,none⟩ (.string (ai a))) qb a nv ty cl op sz bg:=by exact qo
theorem fP.set1(u:Value):fP (w.setCell ⟨qb,1,none⟩ u) qb qs u ty cl op sz bg:=by exact qo
theorem fP.set2(a:Int):fP (w.setCell ⟨qb,2,none⟩ (.int .i64 a)) qb qs nv a cl op sz bg:=by exact qo
theorem fP.jv(u:Int):fP (w.setCell ⟨qb,3,none⟩ (.int .i64 u)) qb qs nv ty u op sz bg:=by exact qo
theorem fP.mh(a:Bool):fP (w.setCell ⟨qb,4,none⟩ (.bool a)) qb qs nv ty cl a sz bg:=by exact qo
theorem fP.pL(a:Int):fP (w.setCell ⟨qb,5,none⟩ (.int .i64 a)) qb qs nv ty cl op a bg:=by exact qo
theorem fP.tR(a:Int):fP (w.setCell ⟨qb,6,none⟩ (.int .i64 a)) qb qs nv ty cl op sz a:=by exact qo
end
theorem uq{w:World}{c g qb:Nat}{v:Value}{i:List Value}{qs:ah}{nv:Value}{ty cl:Int}{op:Bool}{sz bg:Int}(h:w.ownsRow c 9 1 v g i)(e:fP w qb qs nv ty cl op sz bg):some qb≠v.ownBlock:=fun b=>by
 rcases h.2 with⟨rfl,_⟩|⟨d,j,k,rfl,_,a,_⟩
 ·cases b
 ·have:qb=d:=by simpa [Value.ownBlock]using b
  subst this;rw[e]at a;simp at a
theorem Nm(W:World)(c:Value)(e:TypeId):∀(b:Nat) (g:Value),[c][b]? = some g->(W.alloc (.cells #[c] e)).cell? (((aq W.heap.size 0):Addr).add b)=some g:=fun b g a=>by
 have d:=World.alloc_heap_new W (.cells #[c] e);generalize W.alloc (.cells #[c] e)=h at d ⊢;generalize W.heap.size=i at d ⊢
 match b,a with
 | 0,a=>simp at a;subst a;simp[Addr.add,World.cell?,d]
 | j+1,a=>simp at a
structure y5(w W:World)(rb qb:Nat)(nv:Value)(ls:List ah)(qs:ah)(ty cl:Int)(op:Bool)(sz bg:Int):Prop where
 q:fP W qb qs nv ty cl op sz bg
 r:fP W rb [] (aJ) 0 0 false 0 0
 o:nM W w.heap.size nv ls
 b:ax w W
 PA:rb=w.heap.size
 PB:qb=w.heap.size+1
section
variable {w W:World} {rb qb:Nat} {nv:Value} {ls:List ah} {qs:ah} {ty cl:Int} {op:Bool} {sz bg:Int} (h:y5 w W rb qb nv ls qs ty cl op sz bg)
include h
theorem y5.below{W':World}(a:ax W W'):y5 w W' rb qb nv ls qs ty cl op sz bg :=
 ⟨h.q.kept (a.block qb h.q.lt),h.r.kept (a.block rb h.r.lt),⟨eg h.o.1 a,h.o.2⟩,h.b.trans (a.mono h.b.size),h.PA,h.PB⟩
theorem y5.F9{a:Nat}{l:Value}{d:ah}{k g:Int}{i:Bool}{j e:Int}(t:fP (W.setCell ⟨qb,a,none⟩ l) qb d nv k g i j e):y5 w (W.setCell ⟨qb,a,none⟩ l) rb qb nv ls d k g i j e where
 q:=t
 r:=h.r.kept (kX W (aq qb a) rb _ (by have:=h.PA;have:=h.PB;show rb≠qb;omega))
 o:=⟨tm h.o.1 (row:=some qb) ⟨rfl,rfl,rfl,am,fun u _ n=>kX W (aq qb a) u _ (fun c=>n (by rw[c]))⟩ (.inr (fun c=>uq h.o.1 h.q c.symm)),h.o.2⟩
 b:=h.b.setCell (p:=⟨qb,a,none⟩) (by have:=h.PB;show w.heap.size<=qb;omega) _
 PA:=h.PA
 PB:=h.PB
theorem y5.PC{W':World}(i:ax W W'):fP (((((((W'.setCell ⟨rb,0,none⟩ (.string (ai qs))).setCell ⟨rb,1,none⟩ nv).setCell ⟨rb,2,none⟩ (.int .i64 ty)).setCell ⟨rb,3,none⟩ (.int .i64 cl)).setCell ⟨rb,4,none⟩ (.bool op)).setCell ⟨rb,5,none⟩ (.int .i64 sz)).setCell ⟨rb,6,none⟩ (.int .i64 bg)) rb qs nv ty cl op sz bg/\nM (((((((W'.setCell ⟨rb,0,none⟩ (.string (ai qs))).setCell ⟨rb,1,none⟩ nv).setCell ⟨rb,2,none⟩ (.int .i64 ty)).setCell ⟨rb,3,none⟩ (.int .i64 cl)).setCell ⟨rb,4,none⟩ (.bool op)).setCell ⟨rb,5,none⟩ (.int .i64 sz)).setCell ⟨rb,6,none⟩ (.int .i64 bg)) w.heap.size nv ls/\ax w (((((((W'.setCell ⟨rb,0,none⟩ (.string (ai qs))).setCell ⟨rb,1,none⟩ nv).setCell ⟨rb,2,none⟩ (.int .i64 ty)).setCell ⟨rb,3,none⟩ (.int .i64 cl)).setCell ⟨rb,4,none⟩ (.bool op)).setCell ⟨rb,5,none⟩ (.int .i64 sz)).setCell ⟨rb,6,none⟩ (.int .i64 bg)):=by
 have g:=h.below i;have b:∀ {a:World} (c:Nat) (k:Value) {J:ah} {H:Value} {K D:Int} {I:Bool} {d L:Int},fP a rb J H K D I d L->nM a w.heap.size nv ls->ax w a->nM (a.setCell ⟨rb,c,none⟩ k) w.heap.size nv ls/\ax w (a.setCell ⟨rb,c,none⟩ k):=fun {a} c k {_ _ _ _ _ _ _} F j i =>
  ⟨⟨tm j.1 (row:=some rb) ⟨rfl,rfl,rfl,am,fun G _ E=>kX a (aq rb c) G _ (fun e=>E (by rw[e]))⟩ (.inr (fun e=>uq j.1 F e.symm)),j.2⟩,i.setCell (p:=⟨rb,c,none⟩) (by have:=h.PA;show w.heap.size<=rb;omega) _⟩
 have l:=g.r;have d:=b 0 (au qs) l g.o g.b;have n:=l.set0 qs;have x:=b 1 nv n d.1 d.2;have o:=n.set1 nv;have y:=b 2 (ak ty) o x.1 x.2;have q:=o.set2 ty;have z:=b 3 (ak cl) q y.1 y.2;have r:=q.jv cl;have A:=b 4 (.bool op) r z.1 z.2;have t:=r.mh op;have B:=b 5 (ak sz) t A.1 A.2;have u:=t.pL sz;have C:=b 6 (ak bg) u B.1 B.2;exact⟨u.tR bg,C.1,C.2⟩
end
def Nn(s:ah)(d:Nat)(e:Ending)(k:World):Prop:=∃(qs:ah) (nv:Value) (ty cl:Int) (op:Bool) (sz bg:Int) (b:Bool),e=.returned (.tuple #[.agg #[au qs,nv,ak ty,ak cl,.bool op,ak sz,ak bg],.bool b]) /\
 (∃c g a,nv=.slice c g a)/\match cR s with
  | none=>b=false
  | some (i,ls,j,a,h,l,v)=>b=true/\qs=i/\ty=(j:Nat)/\cl=(a:Nat)/\op=h/\sz=(l:Nat)/\bg=(v:Nat)/\nM k d nv ls
theorem iN{P:Prop}(h:P:=by first|exact id|exact fun _=>rfl):P:=h
theorem jD{P:Prop}(h:P:=by obtain⟨a,b,c,d,e,f,g⟩:=x;rintro⟨k0,k1,k2,k3,k4,k5,k6,k7⟩;exact⟨k0,k1,k2,k3,k4,k5,k6,by rw[k7];exact hF.2.1⟩):P:=h
theorem Fc{P:Prop}(h:P:=by simp[results,results76,go_sem,x0,x1,x2,x3,x4,x5,x6]):P:=h
theorem yk{P:Prop}(h:P:=by
 revert hF hB
 generalize World.setCell _ _ _=r_;intro hF hB;obtain⟨x0,x1,x2,x3,x4,x5,x6⟩:=hF.cells;refine cc (v:=.tuple #[.agg #[.string (ai []),.slice none 0 0,.int .i64 0,.int .i64 0,.bool false,.int .i64 0,.int .i64 0],.bool false]) (by simp[results,results76,go_sem,x0,x1,x2,x3,x4,x5,x6]) rfl ⟨⟨[],_,0,0,false,0,0,false,rfl,⟨_,_,_,rfl⟩,by rw[hno]⟩,hB⟩):P:=h
theorem uw{P:Prop}(h:P:=by
 obtain⟨q0,q1,q2,q3,q4,q5,q6⟩:=dG.1.cells;obtain⟨r0,r1,r2,r3,r4,r5,r6⟩:=dG.2.1.cells;have mf:=dG.2.1.frozen;go_wp2_with fail;have hF:=((((((dG.2.1.set0 []).set1 (.slice xa iX xc)).set2 0).jv 0).mh false).pL 0).tR 0;have hB:=ag aN 6 (ak 0) _ (aN 5 (ak 0) _ (aN 4 (.bool false) _ (aN 3 (ak 0) _ (aN 2 (ak 0) _ (aN 1 (.slice xa iX xc) _ (aN 0 (.string (ai [])) _ dG.2.2))))))
 revert hF hB
 generalize World.setCell _ _ _=r_;intro hF hB;obtain⟨x0,x1,x2,x3,x4,x5,x6⟩:=hF.cells;refine cc (v:=.tuple #[.agg #[.string (ai []),.slice xa iX xc,.int .i64 0,.int .i64 0,.bool false,.int .i64 0,.int .i64 0],.bool false]) (by simp[results,results76,go_sem,x0,x1,x2,x3,x4,x5,x6]) rfl ⟨⟨[],_,0,0,false,0,0,false,rfl,⟨_,_,_,rfl⟩,by rw[hno]⟩,hB⟩):P:=h
theorem No(s:ah)(w:World)(dS:12<=s.length)(dR:s.length<=2000000):az 76 #[au s] w fun e w'=>Nn s w.heap.size e w'/\ax w w':=by
 obtain⟨di,dm,df,dg,dh⟩:=fO qU;have ac:=af (fun(i:Nat) (W:World) (h:i+1<s.length)=>G1 s i W h ae);have dT:=a7 s;obtain⟨n,aW⟩:∃n:Obj,n=.cells #[.string ⟨#[]⟩,.slice none 0 0,.int .i64 0,.int .i64 0,.bool false,.int .i64 0,.int .i64 0] 144:=⟨_,rfl⟩
 have co:Hid (fP ((w.alloc n).alloc n) (w.heap.size+1) [] (aJ) 0 0 false 0 0/\fP ((w.alloc n).alloc n) w.heap.size [] (aJ) 0 0 false 0 0/\ax w ((w.alloc n).alloc n)):=by
  have I:=World.alloc_heap_new (w.alloc n) n;rw[cv]at I;refine⟨by rw[aW]at I ⊢; exact I,?_,(aE.alloc av _).alloc am _⟩;have bv:=(bx (w.alloc n) n w.heap.size am).trans (World.alloc_heap_new w n);rw[aW]at bv ⊢; exact bv
 go_enter func76,ntmps76;go_wp2_with fail;rw[<- aW];obtain⟨rb,bh⟩:=a2 w.heap.size;obtain⟨qb,Q⟩:=a2 (w.heap.size+1);have R:Hid (fP ((w.alloc n).alloc n) qb [] (aJ) 0 0 false 0 0/\fP ((w.alloc n).alloc n) rb [] (aJ) 0 0 false 0 0/\ax w ((w.alloc n).alloc n)):=by rw[bh,Q];exact co
 rw[<- Q,<- bh];clear co;have aN:Hid (∀(i:Nat) (v:Value) (W:World),ax w W->ax w (W.setCell ⟨rb,i,none⟩ v)):=fun i v W h=>h.setCell (p:=⟨rb,i,none⟩) (by show w.heap.size<=rb;omega) v;have an:=af (aQ bh Q);generalize (w.alloc n).alloc n=dp at *;clear bh Q aW;refine(ac 4 dp ae).mono ?_;rintro e a_ ⟨rfl,q⟩;have D:Hid (fP a_ qb [] (aJ) 0 0 false 0 0/\fP a_ rb [] (aJ) 0 0 false 0 0/\ax w a_):=⟨R.1.kept (q.block qb R.1.lt),R.2.1.kept (q.block rb R.2.1.lt),R.2.2.trans (q.mono R.2.2.size)⟩
 clear q R;obtain⟨bF,ao⟩:∃k,k=aG s 4:=⟨_,rfl⟩
 rw[<- ao];by_cases c4:bF=1
 case neg =>
  have a8:((bF:Int) != 1)=true:=aA;have hno:cR s=none:=by unfold cR;rw[ay (.inl (by rw[<- ao];omega))]
  clear ao;obtain⟨q0,q1,q2,q3,q4,q5,q6⟩:=D.1.cells;obtain⟨r0,r1,r2,r3,r4,r5,r6⟩:=D.2.1.cells;have mf:=D.2.1.frozen;go_wp2_with fail;have hF:=((((((D.2.1.set0 []).set1 (aJ)).set2 0).jv 0).mh false).pL 0).tR 0;have hB:=ag aN 6 (ak 0) _ (aN 5 (ak 0) _ (aN 4 (.bool false) _ (aN 3 (ak 0) _ (aN 2 (ak 0) _ (aN 1 (aJ) _ (aN 0 (.string (ai [])) _ D.2.2))))))
  exact yk
 have dv:((bF:Int) != 1)=false:=aA;have bJ:=af (aQ ao.symm c4);clear ao;go_wp2_with fail;refine(ac 6 a_ ae).mono ?_;rintro e bb ⟨rfl,q⟩;have B:Hid (fP bb qb [] (aJ) 0 0 false 0 0/\fP bb rb [] (aJ) 0 0 false 0 0/\ax w bb):=⟨D.1.kept (q.block qb D.1.lt),D.2.1.kept (q.block rb D.2.1.lt),D.2.2.trans (q.mono D.2.2.size)⟩
 clear q D;obtain⟨bG,aj⟩:∃k,k=aG s 6:=⟨_,rfl⟩
 rw[<- aj];by_cases c5:bG=0
 case neg =>
  have a8:((bG:Int) != 0)=true:=aA;have hno:cR s=none:=by unfold cR;rw[ay (.inr (.inl (by rw[<- aj];omega)))]
  clear aj;obtain⟨q0,q1,q2,q3,q4,q5,q6⟩:=B.1.cells;obtain⟨r0,r1,r2,r3,r4,r5,r6⟩:=B.2.1.cells;have mf:=B.2.1.frozen;go_wp2_with fail;have hF:=((((((B.2.1.set0 []).set1 (aJ)).set2 0).jv 0).mh false).pL 0).tR 0;have hB:=ag aN 6 (ak 0) _ (aN 5 (ak 0) _ (aN 4 (.bool false) _ (aN 3 (ak 0) _ (aN 2 (ak 0) _ (aN 1 (aJ) _ (aN 0 (.string (ai [])) _ B.2.2))))))
  exact yk
 have dw:((bG:Int) != 0)=false:=aA;have bl:=af (aQ aj.symm c5);clear aj;go_wp2_with fail;refine(ac 8 bb ae).mono ?_;rintro e y ⟨rfl,q⟩;have C:Hid (fP y qb [] (aJ) 0 0 false 0 0/\fP y rb [] (aJ) 0 0 false 0 0/\ax w y):=⟨B.1.kept (q.block qb B.1.lt),B.2.1.kept (q.block rb B.2.1.lt),B.2.2.trans (q.mono B.2.2.size)⟩
 clear q B;obtain⟨bH,ad⟩:∃k,k=aG s 8:=⟨_,rfl⟩
 rw[<- ad];by_cases c7:bH=0
 case neg =>
  have a8:((bH:Int) != 0)=true:=aA;have hno:cR s=none:=by unfold cR;rw[ay (.inr (.inr (.inl (by rw[<- ad];omega))))]
  clear ad;obtain⟨q0,q1,q2,q3,q4,q5,q6⟩:=C.1.cells;obtain⟨r0,r1,r2,r3,r4,r5,r6⟩:=C.2.1.cells;have mf:=C.2.1.frozen;go_wp2_with fail;have hF:=((((((C.2.1.set0 []).set1 (aJ)).set2 0).jv 0).mh false).pL 0).tR 0;have hB:=ag aN 6 (ak 0) _ (aN 5 (ak 0) _ (aN 4 (.bool false) _ (aN 3 (ak 0) _ (aN 2 (ak 0) _ (aN 1 (aJ) _ (aN 0 (.string (ai [])) _ C.2.2))))))
  exact yk
 have dx:((bH:Int) != 0)=false:=aA;have bk:=af (aQ ad.symm c7);clear ad;go_wp2_with fail;refine(ac 10 y ae).mono ?_;rintro e bc ⟨rfl,q⟩;have P:Hid (fP bc qb [] (aJ) 0 0 false 0 0/\fP bc rb [] (aJ) 0 0 false 0 0/\ax w bc):=⟨C.1.kept (q.block qb C.1.lt),C.2.1.kept (q.block rb C.2.1.lt),C.2.2.trans (q.mono C.2.2.size)⟩
 clear q C;obtain⟨Z,aw⟩:∃k,k=aG s 10:=⟨_,rfl⟩
 rw[<- aw];by_cases c2:¬1<Z
 case neg =>
  have a8:decide ((1:Int)<(Z:Int))=true:=aA;have hno:cR s=none:=by unfold cR;rw[ay (.inr (.inr (.inr (by rw[<- aw];omega))))]
  clear aw;obtain⟨q0,q1,q2,q3,q4,q5,q6⟩:=P.1.cells;obtain⟨r0,r1,r2,r3,r4,r5,r6⟩:=P.2.1.cells;have mf:=P.2.1.frozen;go_wp2_with fail;have hF:=((((((P.2.1.set0 []).set1 (aJ)).set2 0).jv 0).mh false).pL 0).tR 0;have hB:=ag aN 6 (ak 0) _ (aN 5 (ak 0) _ (aN 4 (.bool false) _ (aN 3 (ak 0) _ (aN 2 (ak 0) _ (aN 1 (aJ) _ (aN 0 (.string (ai [])) _ P.2.2))))))
  exact yk
 have dy:decide ((1:Int)<(Z:Int))=false:=aA;have aX:=af (aQ aw.symm c2);clear aw;go_wp2_with fail;have bS:∀(x:Option (List ah×ah)),gg (s.length+1) (s.drop 12) []=x->x=none->cR s=none:=fun x de G=>by
  unfold cR;rw[ar (by rw[bJ.1,bl.1,bk.1,aX.1];omega),de,G]
 obtain⟨aa,bn⟩:∃aa,gg (s.length+1) (s.drop 12) []=aa:=⟨_,rfl⟩
 have aY:=af (bS aa bn);have bo:=af bn;clear bS bn;go_wp2_with fail
 go_loopw [5,6] (fun bE nv wr=>∃(i f:Nat) (l:List ah) (bf:Value),bE=ak i/\12<=i/\i<=s.length/\s.length<f+i/\Hid (gg f (s.drop i) l=aa)/\l.length<=i/\Hid (nM wr w.heap.size bf l)/\Hid (fP wr qb [] bf 0 0 false 0 0/\fP wr rb [] (aJ) 0 0 false 0 0/\ax w wr)) (fun bE _ _=>s.length-(intOf bE).toNat)
 case atStart=>exact⟨12,s.length+1,[],aJ,rfl,ae,ae,ae,bo,am,⟨e8 _ _ _ _,am⟩,P⟩
 case round =>
  obtain⟨i,f,l,bf,rfl,cy,cw,cd,U,cs,L,dG⟩:=hrel;obtain⟨xa,iX,xc,cE⟩:∃a k c,bf=.slice a k c:=by
   rcases L.1.2 with⟨h,_⟩|⟨g,cU,cW,h,_⟩
   ·exact⟨_,_,_,h⟩
   ·exact⟨_,_,_,h⟩
  subst cE;by_cases cf:i<s.length
  case neg =>
   have du:i=s.length:=ae;have a8:decide ((i:Int) ≥ (s.length:Int))=true:=aA;have hno:cR s=none:=by
    refine ag aY ?_;have:=ag U;rw[du,kN]at this;rw[<- this];cases f<;>rfl
   clear cd U cs;exact uw
  obtain⟨c,V⟩:∃c:UInt8,c=s[i]:=⟨_,rfl⟩
  have bt:∀h:i<(ai s).size,(ai s)[i]=c:=fun h=>V.symm;have aI:s.drop i=c::s.drop (i+1):=by rw[V];exact fQ cf
  obtain⟨f,rfl⟩:∃cY,f=cY+1:=⟨f-1,ae⟩
  have z:Hid ((if c=0 then some (l,s.drop (i+1))else if 63<c.toNat\/(s.drop (i+1)).length<c.toNat then none else gg f ((s.drop (i+1)).drop c.toNat) (l++[(s.drop (i+1)).take c.toNat]))=aa):=by
   have:=ag U;rw[aI]at this;exact this
  rw[c8,eR]at z;obtain⟨k,G⟩:=a2 c.toNat;have be:(c.toNat:Int)=(k:Int):=by rw[G]
  have d2:k<256:=by rw[G];exact dt c
  have J:c=0 ↔ k=0:=by rw[G];exact⟨fun h=>ng,fun h=>by apply lX;exact h⟩
  rw[<- G]at z;have c1:(i:Int)<(s.length:Int):=ae;have dq:IntKind.i64.wrap (k:Int)=(k:Int):=cX
  have aT:IntKind.i64.wrap ((i:Int)+1)=((i+1:Nat):Int):=cX
  obtain⟨j,ab⟩:=a2 (i+1);rw[<- ab]at z aT;have bD:=af (aQ ab J);have cA:=af (aQ V G);by_cases bu:k=0
  case neg =>
   rw[ar (fun h=>bu (J.1 h))]at z;by_cases c6:63<k
   case pos =>
    have hno:cR s=none:=ag aY (by have:=ag z;rw[ay (.inl c6)]at this;exact this.symm);clear V aI G U z;exact uw
   have ch:IntKind.i64.wrap ((j:Int)+(k:Int))=((j+k:Nat):Int):=cX
   by_cases cu:s.length<j+k
   case pos =>
    have hno:cR s=none:=ag aY (by have:=ag z;rw[ay (.inr ae)]at this;exact this.symm);have cF:decide ((s.length:Int)<((j+k:Nat):Int))=true:=aA;clear V aI G U z;exact uw
   have bT:Hid (gg f (s.drop (j+k)) (l++[(s.drop j).take k])=aa):=by have:=ag z;rw[ar ae]at this;exact this
   have aM:(ai s).extract j (j+k)=ai ((s.drop j).take k):=by have:=qH s j (j+k);rw[zN]at this;exact this
   have ct:iX=l.length:=by
    rcases L.1.2 with⟨h,bu⟩|⟨g,cU,cW,h,_⟩
    ·have:=(gL h).2.1;omega
    ·exact(gL h).2.1
   subst ct;have bU:=uq L.1 dG.1;have bQ:=uq L.1 dG.2.1;obtain⟨q0,q1,q2,q3,q4,q5,q6⟩:=dG.1.cells;have cB:=dG.1.lt;have dd:=dG.2.1.lt;have E:=dG.1.frozen;have cV:=dG.2.2.size;obtain⟨aL,a1⟩:=a2 (j+k);rw[<- a1]at aM ch bT;have b1:(j:Int)<=(aL:Int):=ae;have b2:(aL:Int)<=(s.length:Int):=ae;have b3:j<=aL:=ae;have b4:aL<=s.length:=ae;have cF:decide ((s.length:Int)<(i:Int)+1+(k:Int))=false:=by have:=bD.1;simp;omega
   have dz:decide ((63:Int)<(k:Int))=false:=aA;have bI:=bD.1;have dA:(ai s).extract (i+1) (i+1+k)=ai ((s.drop j).take k):=by rw[<- bI,<- a1];exact aM
   have b5:(i:Int)+1+(k:Int)<=(s.length:Int):=ae;have b6:i+1+k<=s.length:=ae;have dB:¬(63:Int)<(k:Int):=ae;have dC:IntKind.i64.wrap ((i:Int)+1+(k:Int))=(i:Int)+1+(k:Int):=cX
   have dU:((i:Int)+1+(k:Int)).toNat=i+1+k:=ae;have dO:(0:Int)<=(i:Int)+1+(k:Int):=ae;have dP:(0:Int)<=(i:Int)+1:=ae;have dQ:(i:Int)+1<=(i:Int)+1+(k:Int):=ae;have cG:=af a1;have cH:=af bI;clear V aI G U z a1 q0 q2 q3 q4 q5 q6 J cu bI ab aM ch aT;go_wp2_with fail
   go_region_law (first|(refine step_append_lies _ rfl (.tmp 52) (.tmp 59) 113 rfl w.heap.size 9 di _ 1 16 rH dm df dg dh rfl ba _ l.length (l.map fun dk=>au dk) rfl (eg L.1 (aE.alloc av _).drew) _ 1 1 [au ((s.drop j).take k)] rfl rfl (fun j cn ab=>Nm wr _ _ j cn ab) (fun cn hu=>qw) ba gW ae aA (wr.heap.size+1) am ?_;intro g M y a4 bC c_ db;have al:=dG.1.kept ((bC.block qb aA bU).trans (bx _ _ _ cB));have cZ:=al.frozen;have up:=al.cells.2.1))
   all_goals
    have X:World.grownBy _ y (Value.slice xa l.length xc).ownBlock:=bC;have bR:=uq a4 al;have bV:=e9 L.1;have cI:=(e9 a4 g rfl).1;have bw:=(dG.2.2.alloc cV (.cells #[.string (ai ((s.drop j).take k))] 9)).drew;have Q:w.heap.size<=qb:=by have:=an.2;omega
    have cz:Hid (nM (y.setCell ⟨qb,1,none⟩ (.slice (some ⟨g,0,none⟩) (l.length+1) M)) w.heap.size (aF g 0 (l.length+1) M) (l++[(s.drop j).take k])):=by
     refine⟨?_,⟨fun h=>(by cases h),fun h=>o5⟩⟩;have:=tm a4 (w':=y.setCell ⟨qb,1,none⟩ (.slice (some ⟨g,0,none⟩) (l.length+1) M)) (row:=some qb) ⟨rfl,rfl,rfl,am,fun t _ a3=>kX y (aq qb 1) t _ (fun e=>a3 (by rw[e]))⟩ (.inr (fun e=>bR e.symm));rw[a6,d0];exact this
    have P:Hid (fP (y.setCell ⟨qb,1,none⟩ (.slice (some ⟨g,0,none⟩) (l.length+1) M)) qb [] (aF g 0 (l.length+1) M) 0 0 false 0 0/\fP (y.setCell ⟨qb,1,none⟩ (.slice (some ⟨g,0,none⟩) (l.length+1) M)) rb [] (aJ) 0 0 false 0 0/\ax w (y.setCell ⟨qb,1,none⟩ (.slice (some ⟨g,0,none⟩) (l.length+1) M))):=by
     refine⟨al.set1 _,dG.2.1.kept ?_,?_⟩
     ·refine(kX y (aq qb 1) rb _ ?_).trans ((X.block rb aA bQ).trans (bx _ _ _ dd));have:=ag an;show rb≠qb;omega
     ·exact(bw.trans ⟨X.os,X.tape,X.output,X.size,fun t a3=>X.block t (by have:=bw.size;omega) (fun e=>by have:=(bV t e.symm).1;omega)⟩).setCell (p:=⟨qb,1,none⟩) Q _
    have dD:=ag cG;have dE:=ag cH;clear a4 bC X c_ db al cZ up bR bV cI bw Q bU bQ dG L;generalize y.setCell ⟨qb,1,none⟩ (.slice (some ⟨g,0,none⟩) (l.length+1) M)=bc at *;go_wp2;exact⟨⟨aL,f,l++[(s.drop j).take k],aF g 0 (l.length+1) M,bP (Value.int .i64) ae,ae,ae,ae,bT,by rw[a6];simp;omega,cz,P⟩,ci⟩
  subst bu;rw[ay (J.2 rfl)]at z;have aB:Hid (cR s=p_ s j l Z):=Nl bJ.1 bl.1 bk.1 aX.1 bJ.2 bl.2 bk.2 (by have:=aX.2;omega) (by rw[ag bo];exact z.symm) ae;have S:Hid (∀(t:Nat) (bj:Int) (W:World),bj=(t:Int)->t+1<s.length->az 141 #[au s,ak bj] W (aP (ak (aG s t)) W)):=fun t bj W c9 a3=>by rw[c9];exact ac t W a3
  clear V aI G U J cA aY bo z cd;by_cases cj:255<j-12
  case pos =>
   have hno:cR s=none:=by rw[ag aB];unfold p_;rw[ay (.inl cj)]
   have aH:(255:Int)<(i:Int)+1-12:=ae;clear aT;exact uw
  by_cases bN:s.length<j+4
  case pos =>
   have hno:cR s=none:=by rw[ag aB];unfold p_;rw[ay (.inr bN)]
   have aH:¬(255:Int)<(i:Int)+1-12:=ae;have b7:(s.length:Int)<(i:Int)+1+4:=ae;clear aT;exact uw
  have aH:¬(255:Int)<(i:Int)+1-12:=ae;have b7:¬(s.length:Int)<(i:Int)+1+4:=ae;clear aT;go_wp2_with fail;refine(S j _ wr ae ae).mono ?_;rintro e dr ⟨rfl,cb⟩;rw[show((i:Int)+1)=(j:Int) by omega];have cJ:13<=j:=ae;have T:=af (y5.below ⟨dG.1,dG.2.1,L,dG.2.2,an.1,an.2⟩ cb);obtain⟨ty,br⟩:=a2 (aG s j);rw[<- br];have bL:=af br;clear cb dG L br aH b7 be dq c1 bt cf cy cw ac aN ab bD;obtain⟨q0,q1,q2,q3,q4,q5,q6⟩:=T.q.cells;obtain⟨r0,r1,r2,r3,r4,r5,r6⟩:=T.r.cells;have E:=T.q.frozen;have mf:=T.r.frozen;have cL:IntKind.i64.wrap ((j:Int)+2)=(j:Int)+2:=cX
  go_wp2_with fail;have bW:=af (T.F9 (T.q.set2 ty));clear q0 q1 q2 q3 q4 q5 q6 E T;generalize dr.setCell ⟨qb,2,none⟩ (.int .i64 ty)=bK at *;refine(S (j+2) _ bK ae ae).mono ?_;rintro e cr ⟨rfl,b8⟩;obtain⟨cl,bA⟩:=a2 (aG s (j+2));rw[<- bA];have bi:=af bA;have N:=af (bW.below b8);clear b8 bW bA;obtain⟨m,aK⟩:=a2 (j+4);obtain⟨o,bz⟩:=a2 ((s.drop 12).take (j+4-12));have aM:(ai s).extract 12 (j+4)=ai o:=by rw[bz];exact qH s 12 (j+4)
  have bp:=af bz;clear bz;have cM:IntKind.i64.wrap ((j:Int)+4)=(j:Int)+4:=cX
  have b1:(12:Int)<=(j:Int)+4:=ae;have b2:(j:Int)+4<=(s.length:Int):=ae;have b3:((j:Int)+4).toNat=j+4:=ae;have b4:(0:Int)<=(j:Int)+4:=ae;have b5:12<=j+4:=ae;have b6:j+4<=s.length:=ae;obtain⟨q0,q1,q2,q3,q4,q5,q6⟩:=N.q.cells;obtain⟨r0,r1,r2,r3,r4,r5,r6⟩:=N.r.cells;have E:=N.q.frozen;have mf:=N.r.frozen;have bM:Hid (y5 w ((cr.setCell ⟨qb,3,none⟩ (.int .i64 cl)).setCell ⟨qb,0,none⟩ (.string (ai o))) rb qb (.slice xa iX xc) l o ty cl false 0 0):=by
   have I:=N.F9 (N.q.jv cl);exact I.F9 (I.q.set0 o)
  have bq:=(N.F9 (N.q.jv (cl:Int))).q.frozen 0;go_wp2_with fail;clear q0 q1 q2 q3 q4 q5 q6 E bq N b1 b2 b3 b4 b5 aM cM cL;generalize (cr.setCell ⟨qb,3,none⟩ (.int .i64 cl)).setCell ⟨qb,0,none⟩ (.string (ai o))=ds at *;refine(S 10 _ ds rfl ae).mono ?_;rintro e bd ⟨rfl,ck⟩;rw[aX.1,show((j:Int)+4)=(m:Int) by omega];have dF:17<=m:=ae;have dH:m<=s.length:=ae;have b9:=af aK;clear aK;have r:=af (bM.below ck);clear ck bM;by_cases bs:Z=0
  case pos =>
   have dc:((Z:Int)==0)=true:=aA;obtain⟨A,aC⟩:∃A:Bool,((m:Int)==(s.length:Int))=A:=⟨_,rfl⟩
   have u:match cR s with
    | none=>A=false
    | some (aR,ls,aS,c,aO,aU,v)=>A=true/\o=aR/\(ty:Int)=(aS:Nat)/\(cl:Int)=(c:Nat)/\false=aO/\(0:Int)=(aU:Nat)/\(0:Int)=(v:Nat)/\ls=l:=by
    have aK:=ag b9;rw[ag aB,p_,ar ae,ay bs];by_cases ce:s.length=j+4
    ·rw[ay ce,<- aC];exact⟨aA,bp,by rw[ag bL],by rw[ag bi],rfl,rfl,rfl,rfl⟩
    ·rw[ar ce,<- aC];show((m:Int)==(s.length:Int))=false;simp;omega
   have O:=af u;clear u;obtain⟨q0,q1,q2,q3,q4,q5,q6⟩:=r.q.cells;obtain⟨r0,r1,r2,r3,r4,r5,r6⟩:=r.r.cells;have E:=r.q.frozen;have mf:=r.r.frozen;go_wp2_with fail;have hF:=r.PC (W':=bd) aE
   revert hF
   generalize World.setCell _ _ _=r_;intro hF;obtain⟨x0,x1,x2,x3,x4,x5,x6⟩:=hF.1.cells;refine cc (v:=.tuple #[.agg #[.string (ai o),.slice xa iX xc,.int .i64 ty,.int .i64 cl,.bool false,.int .i64 0,.int .i64 0],.bool A]) Fc rfl ⟨⟨o,_,ty,cl,false,0,0,A,rfl,⟨_,_,_,rfl⟩,?_⟩,hF.2.2⟩;have u:=ag O
   revert u
   cases cR s with
   | none=>exact iN
   | some x =>
    exact jD
  have dc:((Z:Int)==0)=false:=aA;have H:Hid (cR s=if s.length<m+11\/s.getD m 0≠0\/aG s (m+1)≠41\/m+11+aG s (m+9)≠s.length then none else some (o,l,ty,cl,true,aG s (m+3),(s.getD (m+6) 0).toNat)):=by
   have aK:=ag b9;rw[Hid,ag aB,p_,ar ae,ar bs,ag bp,ag bL,ag bi,aK]
  have a9:Hid (cR s=none->match cR s with
    | none=>false=false
    | some (aR,ls,aS,c,aO,aU,v)=>false=true/\o=aR/\(ty:Int)=(aS:Nat)/\(cl:Int)=(c:Nat)/\false=aO/\(0:Int)=(aU:Nat)/\(0:Int)=(v:Nat)/\ls=l):=fun h=>by rw[h]
  clear aB bp bL bi cj bN cJ b6 bs cs;by_cases c3:s.length<m+11
  case pos =>
   have O:=af (a9 (by rw[ag H,ay (.inl c3)]));have aH:(s.length:Int)<(m:Int)+11:=ae;obtain⟨q0,q1,q2,q3,q4,q5,q6⟩:=r.q.cells;obtain⟨r0,r1,r2,r3,r4,r5,r6⟩:=r.r.cells;have E:=r.q.frozen;have mf:=r.r.frozen;go_wp2_with fail;have hF:=r.PC (W':=bd) aE
   revert hF
   generalize World.setCell _ _ _=r_;intro hF;obtain⟨x0,x1,x2,x3,x4,x5,x6⟩:=hF.1.cells;refine cc (v:=.tuple #[.agg #[.string (ai o),.slice xa iX xc,.int .i64 ty,.int .i64 cl,.bool false,.int .i64 0,.int .i64 0],.bool false]) Fc rfl ⟨⟨o,_,ty,cl,false,0,0,false,rfl,⟨_,_,_,rfl⟩,?_⟩,hF.2.2⟩;have u:=ag O
   revert u
   cases cR s with
   | none=>exact iN
   | some x =>
    exact jD
  have aH:¬(s.length:Int)<(m:Int)+11:=ae;have dj:m<s.length:=ae;obtain⟨ap,a0⟩:∃c:UInt8,c=s[m]:=⟨_,rfl⟩
  have bt:∀h:m<(ai s).size,(ai s)[m]=ap:=fun h=>a0.symm;have bB:s.getD m 0=ap:=by rw[a0,fh,dV dj];rfl
  have d3:(m:Int)<(s.length:Int):=ae;rw[bB]at H;by_cases J:ap=0
  case neg =>
   have O:=af (a9 (by rw[ag H,ay (.inr (.inl J))]));have be:((ap.toNat:Int) != 0)=true:=by
    have:ap.toNat≠0:=fun h=>J (lX h);simp;omega
   clear a0 bB;obtain⟨q0,q1,q2,q3,q4,q5,q6⟩:=r.q.cells;obtain⟨r0,r1,r2,r3,r4,r5,r6⟩:=r.r.cells;have E:=r.q.frozen;have mf:=r.r.frozen;go_wp2_with fail;have hF:=r.PC (W':=bd) aE
   revert hF
   generalize World.setCell _ _ _=r_;intro hF;obtain⟨x0,x1,x2,x3,x4,x5,x6⟩:=hF.1.cells;refine cc (v:=.tuple #[.agg #[.string (ai o),.slice xa iX xc,.int .i64 ty,.int .i64 cl,.bool false,.int .i64 0,.int .i64 0],.bool false]) Fc rfl ⟨⟨o,_,ty,cl,false,0,0,false,rfl,⟨_,_,_,rfl⟩,?_⟩,hF.2.2⟩;have u:=ag O
   revert u
   cases cR s with
   | none=>exact iN
   | some x =>
    exact jD
  have be:((ap.toNat:Int) != 0)=false:=by rw[J];rfl
  clear a0 bB;go_wp2_with fail;refine(S (m+1) _ bd ae ae).mono ?_;rintro e cp ⟨rfl,bO⟩;have F:=af (r.below bO);obtain⟨k1,b_⟩:∃t,t=aG s (m+1):=⟨_,rfl⟩
  rw[<- b_]at H ⊢;clear bO r b_ bt be;by_cases bX:k1=41
  case neg =>
   have O:=af (a9 (by rw[ag H,ay (.inr (.inr (.inl bX)))]));have da:((k1:Int) != 41)=true:=aA;obtain⟨q0,q1,q2,q3,q4,q5,q6⟩:=F.q.cells;obtain⟨r0,r1,r2,r3,r4,r5,r6⟩:=F.r.cells;have E:=F.q.frozen;have mf:=F.r.frozen;go_wp2_with fail;have hF:=F.PC (W':=cp) aE
   revert hF
   generalize World.setCell _ _ _=r_;intro hF;obtain⟨x0,x1,x2,x3,x4,x5,x6⟩:=hF.1.cells;refine cc (v:=.tuple #[.agg #[.string (ai o),.slice xa iX xc,.int .i64 ty,.int .i64 cl,.bool false,.int .i64 0,.int .i64 0],.bool false]) Fc rfl ⟨⟨o,_,ty,cl,false,0,0,false,rfl,⟨_,_,_,rfl⟩,?_⟩,hF.2.2⟩;have u:=ag O
   revert u
   cases cR s with
   | none=>exact iN
   | some x =>
    exact jD
  have da:((k1:Int) != 41)=false:=aA;obtain⟨q0,q1,q2,q3,q4,q5,q6⟩:=F.q.cells;obtain⟨r0,r1,r2,r3,r4,r5,r6⟩:=F.r.cells;have E:=F.q.frozen;have mf:=F.r.frozen;go_wp2_with fail;have bY:=af (F.F9 (F.q.mh true));clear q0 q1 q2 q3 q4 q5 q6 E r0 r1 r2 r3 r4 r5 r6 mf F;generalize cp.setCell ⟨qb,4,none⟩ (.bool true)=cC at *;refine(S (m+3) _ cC ae ae).mono ?_;rintro e cq ⟨rfl,ca⟩;have K:=af (bY.below ca);obtain⟨sz,cg⟩:∃t,t=aG s (m+3):=⟨_,rfl⟩
  rw[<- cg]at H ⊢;clear ca bY cg;have cN:m+6<s.length:=ae;obtain⟨cm,bm⟩:∃c:UInt8,c=s[m+6]:=⟨_,rfl⟩
  have c0:∀h:m+6<(ai s).size,(ai s)[m+6]=cm:=fun h=>bm.symm;have bZ:s.getD (m+6) 0=cm:=by rw[bm,fh,dV cN];rfl
  rw[bZ]at H;obtain⟨bg,aV⟩:=a2 cm.toNat;have dI:bg<256:=by rw[aV];exact dt cm
  have cO:(cm.toNat:Int)=(bg:Int):=by rw[aV]
  rw[<- aV]at H;have cT:IntKind.i64.wrap (bg:Int)=(bg:Int):=cX
  have dn:((m:Int)+6).toNat=m+6:=ae;have dl:(m:Int)+6<(s.length:Int):=ae;have cP:(0:Int)<=(m:Int)+6:=ae;have bK:IntKind.i64.wrap ((m:Int)+6)=(m:Int)+6:=cX
  clear bm bZ aV;obtain⟨q0,q1,q2,q3,q4,q5,q6⟩:=K.q.cells;obtain⟨r0,r1,r2,r3,r4,r5,r6⟩:=K.r.cells;have E:=K.q.frozen;have mf:=K.r.frozen;have cQ:Hid (y5 w ((cq.setCell ⟨qb,5,none⟩ (.int .i64 sz)).setCell ⟨qb,6,none⟩ (.int .i64 bg)) rb qb (.slice xa iX xc) l o ty cl true sz bg):=by
   have I:=K.F9 (K.q.pL sz);exact I.F9 (I.q.tR bg)
  have bq:=(K.F9 (K.q.pL (sz:Int))).q.frozen 6;go_wp2_with fail;clear q0 q1 q2 q3 q4 q5 q6 E bq r0 r1 r2 r3 r4 r5 r6 mf K c0 dn dl cP bK cT cO;generalize (cq.setCell ⟨qb,5,none⟩ (.int .i64 sz)).setCell ⟨qb,6,none⟩ (.int .i64 bg)=dJ at *;obtain⟨Y,aZ⟩:∃t,t=aG s (m+9):=⟨_,rfl⟩
  have dK:Y<131072:=by
   have I:=dt (s.getD (m+9) 0);have bv:=dt (s.getD (m+9+1) 0);rw[aZ];unfold aG;omega
  have cS:Hid (∀W,az 141 #[au s,ak ((m:Int)+9)] W (aP (ak Y) W)):=fun W=>by rw[aZ];exact S (m+9) _ W ae ae
  obtain⟨A,aC⟩:∃A:Bool,((m:Int)+11+(Y:Int)==(s.length:Int))=A:=⟨_,rfl⟩
  have u:match cR s with
   | none=>A=false
   | some (aR,ls,aS,c,aO,aU,v)=>A=true/\o=aR/\(ty:Int)=(aS:Nat)/\(cl:Int)=(c:Nat)/\true=aO/\(sz:Int)=(aU:Nat)/\(bg:Int)=(v:Nat)/\ls=l:=by
   rw[ag H,<- aZ];by_cases b0:m+11+Y=s.length
   ·rw[ar (by rintro(h|h|h|h);omega;exact h J;exact h bX;exact h b0),<- aC];exact⟨aA,rfl,rfl,rfl,rfl,rfl,rfl,rfl⟩
   ·rw[ay (.inr (.inr (.inr b0))),<- aC];show((m:Int)+11+(Y:Int)==(s.length:Int))=false;simp;omega
  have O:=af u;have dL:IntKind.i64.wrap ((m:Int)+9)=(m:Int)+9:=cX
  have dM:IntKind.i64.wrap ((m:Int)+11)=(m:Int)+11:=cX
  have dN:IntKind.i64.wrap ((m:Int)+11+(Y:Int))=(m:Int)+11+(Y:Int):=cX
  have aD:=af (cQ.below aE.drew);obtain⟨q0,q1,q2,q3,q4,q5,q6⟩:=aD.q.cells;clear u aZ H a9 S an;go_region_with (go_at_call 141;refine(cS _).mono ?_;rintro e cD ⟨rfl,a5⟩;obtain⟨dW,dX,cK,cx,dY,dZ,d1⟩:=(aD.below a5).q.cells;obtain⟨r0,r1,r2,r3,r4,r5,r6⟩:=(aD.below a5).r.cells;have mf:=(aD.below a5).r.frozen)
  all_goals
   go_wp2_with fail;have hF:=aD.PC (W':=cD) (a5)
   revert hF
   generalize World.setCell _ _ _=r_;intro hF;obtain⟨x0,x1,x2,x3,x4,x5,x6⟩:=hF.1.cells;refine cc (v:=.tuple #[.agg #[.string (ai o),.slice xa iX xc,.int .i64 ty,.int .i64 cl,.bool true,.int .i64 sz,.int .i64 bg],.bool A]) Fc rfl ⟨⟨o,_,ty,cl,true,sz,bg,A,rfl,⟨_,_,_,rfl⟩,?_⟩,hF.2.2⟩;have u:=ag O
   revert u
   cases cR s with
   | none=>first|exact id|exact fun _=>rfl
   | some x =>
    obtain⟨a,b,c,d,e,f,g⟩:=x;rintro⟨k0,k1,k2,k3,k4,k5,k6,k7⟩;exact⟨k0,k1,k2,k3,k4,k5,k6,by rw[k7];exact hF.2.1⟩
end Go.Proofs.YtkkpahmoljiepaaGreatDoor
