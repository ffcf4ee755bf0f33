import Derived.Test.YtkkpahmoljiepaaGreatDoorJ23
set_option maxRecDepth 1000000
set_option maxHeartbeats 12800000
set_option linter.unusedSimpArgs false
set_option linter.unusedVariables false
namespace Go.Proofs.YtkkpahmoljiepaaGreatDoor
open Go.RowKit Go.Proofs.Tryz
def gg:Nat->ah->List ah->Option (List ah×ah)
 | 0,_,_=>none
 | _+1,[],_=>none
 | f+1,a::t,b=>if a=0 then some (b,t)else if 63<a.toNat\/t.length<a.toNat then none else gg f (t.drop a.toNat) (b++[t.take a.toNat])
def cR(s:ah):Option (ah×List ah×Nat×Nat×Bool×Nat×Nat) :=
 if aG s 4≠1\/aG s 6≠0\/aG s 8≠0\/1<aG s 10 then none
 else match gg (s.length+1) (s.drop 12) []with
  | none=>none
  | some (ls,a) =>
   if 255<s.length-a.length-12\/a.length<4 then none
   else if aG s 10=0 then(if a.length=4 then some ((s.drop 12).take (s.length-a.length+4-12),ls,aG a 0,aG a 2,false,0,0)else none)
   else if a.length<15\/a.getD 4 0≠0\/aG a 5≠41\/15+aG a 13≠a.length then none
   else some ((s.drop 12).take (s.length-a.length+4-12),ls,aG a 0,aG a 2,true,aG a 7,(a.getD 10 0).toNat)
def p_(s:ah)(a:Nat)(ls:List ah)(b:Nat):Option (ah×List ah×Nat×Nat×Bool×Nat×Nat) :=
 if 255<a-12\/s.length<a+4 then none
 else if b=0 then(if s.length=a+4 then some ((s.drop 12).take (a+4-12),ls,aG s a,aG s (a+2),false,0,0)else none)
 else if s.length<a+15\/s.getD (a+4) 0≠0\/aG s (a+5)≠41\/a+15+aG s (a+13)≠s.length then none
 else some ((s.drop 12).take (a+4-12),ls,aG s a,aG s (a+2),true,aG s (a+7),(s.getD (a+10) 0).toNat)
theorem Nk(s:ah)(a b:Nat):aG (s.drop a) b=aG s (a+b):=by unfold aG;simp only[fh,vA,nE]
theorem Nl{s:ah}{a e g h d:Nat}{ls:List ah}(o:aG s 4=e)(p:aG s 6=g)(q:aG s 8=h)(l:aG s 10=d)(u:e=1)(w:g=0)(x:h=0)(t:¬1<d)(n:gg (s.length+1) (s.drop 12) []=some (ls,s.drop a))(r:a<=s.length):cR s=p_ s a ls d:=by unfold cR p_;rw[ar ae,n];simp only[Nk,c8,fh,vA,dT,l];have i:s.length-(s.length-a)=a:=ae;rw[i];by_cases ap:255<a-12\/s.length<a+4;{rw[ay ap,ay ae]};{rw[ar ap,ar ae];by_cases b:d=0;{rw[ay b,ay b];by_cases c:s.length=a+4;{rw[ay c,ay ae]};{rw[ar c,ar ae]}};{rw[ar b,ar b];by_cases c:s.length<a+15;{rw[ay (.inl ae),ay (.inl c)]};{have j:(15+aG s (a+13)≠s.length-a) ↔ (a+15+aG s (a+13)≠s.length):=ae;have k:(s.length-a<15) ↔ (s.length<a+15):=ae;simp only[j,k]}}}
def fP(w:World)(qb:Nat)(qs:ah)(nv:Value)(ty cl:Int)(op:Bool)(sz bg:Int):Prop:=w.heap[qb]? = some (.cells #[.string (ai qs),nv,.int .i64 ty,.int .i64 cl,.bool op,.int .i64 sz,.int .i64 bg] 144)
section
variable {w:World} {qb:Nat} {qs:ah} {nv:Value} {ty cl:Int} {op:Bool} {sz bg:Int} (h:fP w qb qs nv ty cl op sz bg)
include h
theorem fP.lt:qb<w.heap.size:=(bn.1 h).1
theorem fP.cells:w.cell? (aq qb 0)=some (au qs)/\w.cell? (aq qb 1)=some nv/\w.cell? (aq qb 2)=some (ak ty)/\w.cell? (aq qb 3)=some (ak cl)/\w.cell? (aq qb 4)=some (.bool op)/\w.cell? (aq qb 5)=some (ak sz)/\w.cell? (aq qb 6)=some (ak bg):=by unfold fP at h;refine⟨?_,?_,?_,?_,?_,?_,?_⟩<;>simp[World.cell?,h]
theorem fP.frozen(i:Nat):w.frozen? (aq qb i)=false:=by unfold fP at h;exact jW
theorem fP.kept{w':World}(a:w'.heap[qb]? = w.heap[qb]?):fP w' qb qs nv ty cl op sz bg:=a.trans h
theorem qo{P:Prop}(h:P:=by unfold fP at *; simp only[World.setCell,j0,gC,h];rfl):P:=h
theorem fP.set0(a:ah):fP (w.setCell ⟨qb,0,none⟩ (.string (ai a))) qb a nv ty cl op sz bg:=by exact qo
theorem fP.set1(u:Value):fP (w.setCell ⟨qb,1,none⟩ u) qb qs u ty cl op sz bg:=by exact qo
theorem fP.set2(a:Int):fP (w.setCell ⟨qb,2,none⟩ (.int .i64 a)) qb qs nv a cl op sz bg:=by exact qo
theorem fP.jv(u:Int):fP (w.setCell ⟨qb,3,none⟩ (.int .i64 u)) qb qs nv ty u op sz bg:=by exact qo
theorem fP.mh(a:Bool):fP (w.setCell ⟨qb,4,none⟩ (.bool a)) qb qs nv ty cl a sz bg:=by exact qo
theorem fP.pL(a:Int):fP (w.setCell ⟨qb,5,none⟩ (.int .i64 a)) qb qs nv ty cl op a bg:=by exact qo
theorem fP.tR(a:Int):fP (w.setCell ⟨qb,6,none⟩ (.int .i64 a)) qb qs nv ty cl op sz a:=by exact qo
end
theorem uq{w:World}{c g qb:Nat}{v:Value}{i:List Value}{qs:ah}{nv:Value}{ty cl:Int}{op:Bool}{sz bg:Int}(h:w.ownsRow c 9 1 v g i)(e:fP w qb qs nv ty cl op sz bg):some qb≠v.ownBlock:=fun b=>by
 rcases h.2 with⟨rfl,_⟩|⟨d,j,k,rfl,_,a,_⟩
 ·cases b
 ·have:qb=d:=by simpa [Value.ownBlock]using b
  subst this;rw[e]at a;simp at a
theorem Nm(W:World)(c:Value)(e:TypeId):∀(b:Nat) (g:Value),[c][b]? = some g->(W.alloc (.cells #[c] e)).cell? (((aq W.heap.size 0):Addr).add b)=some g:=fun b g a=>by
 have d:=World.alloc_heap_new W (.cells #[c] e);generalize W.alloc (.cells #[c] e)=h at d ⊢;generalize W.heap.size=i at d ⊢
 match b,a with
 | 0,a=>simp at a;subst a;simp[Addr.add,World.cell?,d]
 | j+1,a=>simp at a
structure y5(w W:World)(rb qb:Nat)(nv:Value)(ls:List ah)(qs:ah)(ty cl:Int)(op:Bool)(sz bg:Int):Prop where
 q:fP W qb qs nv ty cl op sz bg
 r:fP W rb [] (aJ) 0 0 false 0 0
 o:nM W w.heap.size nv ls
 b:ax w W
 PA:rb=w.heap.size
 PB:qb=w.heap.size+1
section
variable {w W:World} {rb qb:Nat} {nv:Value} {ls:List ah} {qs:ah} {ty cl:Int} {op:Bool} {sz bg:Int} (h:y5 w W rb qb nv ls qs ty cl op sz bg)
include h
theorem y5.below{W':World}(a:ax W W'):y5 w W' rb qb nv ls qs ty cl op sz bg :=
 ⟨h.q.kept (a.block qb h.q.lt),h.r.kept (a.block rb h.r.lt),⟨eg h.o.1 a,h.o.2⟩,h.b.trans (a.mono h.b.size),h.PA,h.PB⟩
theorem y5.F9{a:Nat}{l:Value}{d:ah}{k g:Int}{i:Bool}{j e:Int}(t:fP (W.setCell ⟨qb,a,none⟩ l) qb d nv k g i j e):y5 w (W.setCell ⟨qb,a,none⟩ l) rb qb nv ls d k g i j e where
 q:=t
 r:=h.r.kept (kX W (aq qb a) rb _ (by have:=h.PA;have:=h.PB;show rb≠qb;omega))
 o:=⟨tm h.o.1 (row:=some qb) ⟨rfl,rfl,rfl,am,fun u _ n=>kX W (aq qb a) u _ (fun c=>n (by rw[c]))⟩ (.inr (fun c=>uq h.o.1 h.q c.symm)),h.o.2⟩
 b:=h.b.setCell (p:=⟨qb,a,none⟩) (by have:=h.PB;show w.heap.size<=qb;omega) _
 PA:=h.PA
 PB:=h.PB
theorem y5.PC{W':World}(i:ax W W'):fP (((((((W'.setCell ⟨rb,0,none⟩ (.string (ai qs))).setCell ⟨rb,1,none⟩ nv).setCell ⟨rb,2,none⟩ (.int .i64 ty)).setCell ⟨rb,3,none⟩ (.int .i64 cl)).setCell ⟨rb,4,none⟩ (.bool op)).setCell ⟨rb,5,none⟩ (.int .i64 sz)).setCell ⟨rb,6,none⟩ (.int .i64 bg)) rb qs nv ty cl op sz bg/\nM (((((((W'.setCell ⟨rb,0,none⟩ (.string (ai qs))).setCell ⟨rb,1,none⟩ nv).setCell ⟨rb,2,none⟩ (.int .i64 ty)).setCell ⟨rb,3,none⟩ (.int .i64 cl)).setCell ⟨rb,4,none⟩ (.bool op)).setCell ⟨rb,5,none⟩ (.int .i64 sz)).setCell ⟨rb,6,none⟩ (.int .i64 bg)) w.heap.size nv ls/\ax w (((((((W'.setCell ⟨rb,0,none⟩ (.string (ai qs))).setCell ⟨rb,1,none⟩ nv).setCell ⟨rb,2,none⟩ (.int .i64 ty)).setCell ⟨rb,3,none⟩ (.int .i64 cl)).setCell ⟨rb,4,none⟩ (.bool op)).setCell ⟨rb,5,none⟩ (.int .i64 sz)).setCell ⟨rb,6,none⟩ (.int .i64 bg)):=by
 have g:=h.below i;have b:∀ {a:World} (c:Nat) (k:Value) {J:ah} {H:Value} {K D:Int} {I:Bool} {d L:Int},fP a rb J H K D I d L->nM a w.heap.size nv ls->ax w a->nM (a.setCell ⟨rb,c,none⟩ k) w.heap.size nv ls/\ax w (a.setCell ⟨rb,c,none⟩ k):=fun {a} c k {_ _ _ _ _ _ _} F j i =>
  ⟨⟨tm j.1 (row:=some rb) ⟨rfl,rfl,rfl,am,fun G _ E=>kX a (aq rb c) G _ (fun e=>E (by rw[e]))⟩ (.inr (fun e=>uq j.1 F e.symm)),j.2⟩,i.setCell (p:=⟨rb,c,none⟩) (by have:=h.PA;show w.heap.size<=rb;omega) _⟩
 have l:=g.r;have d:=b 0 (au qs) l g.o g.b;have n:=l.set0 qs;have x:=b 1 nv n d.1 d.2;have o:=n.set1 nv;have y:=b 2 (ak ty) o x.1 x.2;have q:=o.set2 ty;have z:=b 3 (ak cl) q y.1 y.2;have r:=q.jv cl;have A:=b 4 (.bool op) r z.1 z.2;have t:=r.mh op;have B:=b 5 (ak sz) t A.1 A.2;have u:=t.pL sz;have C:=b 6 (ak bg) u B.1 B.2;exact⟨u.tR bg,C.1,C.2⟩
end
def Nn(s:ah)(d:Nat)(e:Ending)(k:World):Prop:=∃(qs:ah) (nv:Value) (ty cl:Int) (op:Bool) (sz bg:Int) (b:Bool),e=.returned (.tuple #[.agg #[au qs,nv,ak ty,ak cl,.bool op,ak sz,ak bg],.bool b]) /\
 (∃c g a,nv=.slice c g a)/\match cR s with
  | none=>b=false
  | some (i,ls,j,a,h,l,v)=>b=true/\qs=i/\ty=(j:Nat)/\cl=(a:Nat)/\op=h/\sz=(l:Nat)/\bg=(v:Nat)/\nM k d nv ls
theorem Fc{P:Prop}(h:P:=by simp[results,results76,go_sem,x0,x1,x2,x3,x4,x5,x6]):P:=h
theorem yk{P:Prop}(h:P:=by
 revert hF hB
 generalize World.setCell _ _ _=r_;intro hF hB;obtain⟨x0,x1,x2,x3,x4,x5,x6⟩:=hF.cells;refine cc (v:=.tuple #[.agg #[.string (ai []),.slice none 0 0,.int .i64 0,.int .i64 0,.bool false,.int .i64 0,.int .i64 0],.bool false]) (by simp[results,results76,go_sem,x0,x1,x2,x3,x4,x5,x6]) rfl ⟨⟨[],_,0,0,false,0,0,false,rfl,⟨_,_,_,rfl⟩,by rw[hno]⟩,hB⟩):P:=h
theorem EF{P:Prop}(h:P:=by
 revert hF
 generalize World.setCell _ _ _=r_;intro hF;obtain⟨x0,x1,x2,x3,x4,x5,x6⟩:=hF.1.cells;refine cc (v:=.tuple #[.agg #[.string (ai Q),.slice xa iX xc,.int .i64 ty,.int .i64 cl,.bool false,.int .i64 0,.int .i64 0],.bool false]) (by simp[results,results76,go_sem,x0,x1,x2,x3,x4,x5,x6]) rfl ⟨⟨Q,_,ty,cl,false,0,0,false,rfl,⟨_,_,_,rfl⟩,?_⟩,hF.2.2⟩;have bp:=ag vD
 revert bp
 cases cR s with
 | none=>first|exact id|exact fun _=>rfl
 | some x =>
  obtain⟨a,b,c,d,e,f,g⟩:=x;rintro⟨k0,k1,k2,k3,k4,k5,k6,k7⟩;exact⟨k0,k1,k2,k3,k4,k5,k6,by rw[k7];exact hF.2.1⟩):P:=h
theorem uw{P:Prop}(h:P:=by
 obtain⟨q0,q1,q2,q3,q4,q5,q6⟩:=dG.1.cells;obtain⟨r0,r1,r2,r3,r4,r5,r6⟩:=dG.2.1.cells;have mf:=dG.2.1.frozen;go_wp2_with fail;have hF:=((((((dG.2.1.set0 []).set1 (.slice xa iX xc)).set2 0).jv 0).mh false).pL 0).tR 0;have hB:=ag aN 6 (ak 0) _ (aN 5 (ak 0) _ (aN 4 (.bool false) _ (aN 3 (ak 0) _ (aN 2 (ak 0) _ (aN 1 (.slice xa iX xc) _ (aN 0 (.string (ai [])) _ dG.2.2))))))
 revert hF hB
 generalize World.setCell _ _ _=r_;intro hF hB;obtain⟨x0,x1,x2,x3,x4,x5,x6⟩:=hF.cells;refine cc (v:=.tuple #[.agg #[.string (ai []),.slice xa iX xc,.int .i64 0,.int .i64 0,.bool false,.int .i64 0,.int .i64 0],.bool false]) (by simp[results,results76,go_sem,x0,x1,x2,x3,x4,x5,x6]) rfl ⟨⟨[],_,0,0,false,0,0,false,rfl,⟨_,_,_,rfl⟩,by rw[hno]⟩,hB⟩):P:=h
theorem Eh{P:Prop}(h:P:=by
 obtain⟨q0,q1,q2,q3,q4,q5,q6⟩:=jD.q.cells;obtain⟨r0,r1,r2,r3,r4,r5,r6⟩:=jD.r.cells;have rU:=jD.q.frozen;have mf:=jD.r.frozen;go_wp2_with fail;have hF:=jD.PC (W':=w9) aE
 exact EF):P:=h
theorem No(s:ah)(w:World)(dO:12<=s.length)(dN:s.length<=2000000):az 76 #[au s] w fun e w'=>Nn s w.heap.size e w'/\ax w w':=by
 obtain⟨de,di,db,dc,dd⟩:=fO qU;have Y:=af (fun(i:Nat) (W:World) (h:i+1<s.length)=>G1 s i W h ae);have dP:=a7 s;obtain⟨n,aS⟩:∃n:Obj,n=.cells #[.string ⟨#[]⟩,.slice none 0 0,.int .i64 0,.int .i64 0,.bool false,.int .i64 0,.int .i64 0] 144:=⟨_,rfl⟩
 have ch:Hid (fP ((w.alloc n).alloc n) (w.heap.size+1) [] (aJ) 0 0 false 0 0/\fP ((w.alloc n).alloc n) w.heap.size [] (aJ) 0 0 false 0 0/\ax w ((w.alloc n).alloc n)):=by
  have E:=World.alloc_heap_new (w.alloc n) n;rw[cv]at E;refine⟨by rw[aS]at E ⊢; exact E,?_,(aE.alloc av _).alloc am _⟩;have br:=(bx (w.alloc n) n w.heap.size am).trans (World.alloc_heap_new w n);rw[aS]at br ⊢; exact br
 go_enter func76,ntmps76;go_wp2_with fail;rw[<- aS];obtain⟨rb,bb⟩:=a2 w.heap.size;obtain⟨qb,L⟩:=a2 (w.heap.size+1);have M:Hid (fP ((w.alloc n).alloc n) qb [] (aJ) 0 0 false 0 0/\fP ((w.alloc n).alloc n) rb [] (aJ) 0 0 false 0 0/\ax w ((w.alloc n).alloc n)):=by rw[bb,L];exact ch
 rw[<- L,<- bb];clear ch;have aN:Hid (∀(i:Nat) (v:Value) (W:World),ax w W->ax w (W.setCell ⟨rb,i,none⟩ v)):=fun i v W h=>h.setCell (p:=⟨rb,i,none⟩) (by show w.heap.size<=rb;omega) v;have ac:=af (aQ bb L);generalize (w.alloc n).alloc n=dk at *;clear bb L aS;refine(Y 4 dk ae).mono ?_;rintro e a4 ⟨rfl,o⟩;have A:Hid (fP a4 qb [] (aJ) 0 0 false 0 0/\fP a4 rb [] (aJ) 0 0 false 0 0/\ax w a4):=⟨M.1.kept (o.block qb M.1.lt),M.2.1.kept (o.block rb M.2.1.lt),M.2.2.trans (o.mono M.2.2.size)⟩
 clear o M;obtain⟨bB,ad⟩:∃k,k=aG s 4:=⟨_,rfl⟩
 rw[<- ad];by_cases c0:bB=1
 case neg =>
  have a1:((bB:Int) != 1)=true:=aA;have hno:cR s=none:=by unfold cR;rw[ay (.inl (by rw[<- ad];omega))]
  clear ad;obtain⟨q0,q1,q2,q3,q4,q5,q6⟩:=A.1.cells;obtain⟨r0,r1,r2,r3,r4,r5,r6⟩:=A.2.1.cells;have mf:=A.2.1.frozen;go_wp2_with fail;have hF:=((((((A.2.1.set0 []).set1 (aJ)).set2 0).jv 0).mh false).pL 0).tR 0;have hB:=ag aN 6 (ak 0) _ (aN 5 (ak 0) _ (aN 4 (.bool false) _ (aN 3 (ak 0) _ (aN 2 (ak 0) _ (aN 1 (aJ) _ (aN 0 (.string (ai [])) _ A.2.2))))))
  exact yk
 have dq:((bB:Int) != 1)=false:=aA;have bF:=af (aQ ad.symm c0);clear ad;go_wp2_with fail;refine(Y 6 a4 ae).mono ?_;rintro e a5 ⟨rfl,o⟩;have y:Hid (fP a5 qb [] (aJ) 0 0 false 0 0/\fP a5 rb [] (aJ) 0 0 false 0 0/\ax w a5):=⟨A.1.kept (o.block qb A.1.lt),A.2.1.kept (o.block rb A.2.1.lt),A.2.2.trans (o.mono A.2.2.size)⟩
 clear o A;obtain⟨bC,aa⟩:∃k,k=aG s 6:=⟨_,rfl⟩
 rw[<- aa];by_cases c1:bC=0
 case neg =>
  have a1:((bC:Int) != 0)=true:=aA;have hno:cR s=none:=by unfold cR;rw[ay (.inr (.inl (by rw[<- aa];omega)))]
  clear aa;obtain⟨q0,q1,q2,q3,q4,q5,q6⟩:=y.1.cells;obtain⟨r0,r1,r2,r3,r4,r5,r6⟩:=y.2.1.cells;have mf:=y.2.1.frozen;go_wp2_with fail;have hF:=((((((y.2.1.set0 []).set1 (aJ)).set2 0).jv 0).mh false).pL 0).tR 0;have hB:=ag aN 6 (ak 0) _ (aN 5 (ak 0) _ (aN 4 (.bool false) _ (aN 3 (ak 0) _ (aN 2 (ak 0) _ (aN 1 (aJ) _ (aN 0 (.string (ai [])) _ y.2.2))))))
  exact yk
 have dr:((bC:Int) != 0)=false:=aA;have bf:=af (aQ aa.symm c1);clear aa;go_wp2_with fail;refine(Y 8 a5 ae).mono ?_;rintro e r ⟨rfl,o⟩;have z:Hid (fP r qb [] (aJ) 0 0 false 0 0/\fP r rb [] (aJ) 0 0 false 0 0/\ax w r):=⟨y.1.kept (o.block qb y.1.lt),y.2.1.kept (o.block rb y.2.1.lt),y.2.2.trans (o.mono y.2.2.size)⟩
 clear o y;obtain⟨bD,Z⟩:∃k,k=aG s 8:=⟨_,rfl⟩
 rw[<- Z];by_cases c3:bD=0
 case neg =>
  have a1:((bD:Int) != 0)=true:=aA;have hno:cR s=none:=by unfold cR;rw[ay (.inr (.inr (.inl (by rw[<- Z];omega))))]
  clear Z;obtain⟨q0,q1,q2,q3,q4,q5,q6⟩:=z.1.cells;obtain⟨r0,r1,r2,r3,r4,r5,r6⟩:=z.2.1.cells;have mf:=z.2.1.frozen;go_wp2_with fail;have hF:=((((((z.2.1.set0 []).set1 (aJ)).set2 0).jv 0).mh false).pL 0).tR 0;have hB:=ag aN 6 (ak 0) _ (aN 5 (ak 0) _ (aN 4 (.bool false) _ (aN 3 (ak 0) _ (aN 2 (ak 0) _ (aN 1 (aJ) _ (aN 0 (.string (ai [])) _ z.2.2))))))
  exact yk
 have ds:((bD:Int) != 0)=false:=aA;have be:=af (aQ Z.symm c3);clear Z;go_wp2_with fail;refine(Y 10 r ae).mono ?_;rintro e a8 ⟨rfl,o⟩;have K:Hid (fP a8 qb [] (aJ) 0 0 false 0 0/\fP a8 rb [] (aJ) 0 0 false 0 0/\ax w a8):=⟨z.1.kept (o.block qb z.1.lt),z.2.1.kept (o.block rb z.2.1.lt),z.2.2.trans (o.mono z.2.2.size)⟩
 clear o z;obtain⟨U,aj⟩:∃k,k=aG s 10:=⟨_,rfl⟩
 rw[<- aj];by_cases cY:¬1<U
 case neg =>
  have a1:decide ((1:Int)<(U:Int))=true:=aA;have hno:cR s=none:=by unfold cR;rw[ay (.inr (.inr (.inr (by rw[<- aj];omega))))]
  clear aj;obtain⟨q0,q1,q2,q3,q4,q5,q6⟩:=K.1.cells;obtain⟨r0,r1,r2,r3,r4,r5,r6⟩:=K.2.1.cells;have mf:=K.2.1.frozen;go_wp2_with fail;have hF:=((((((K.2.1.set0 []).set1 (aJ)).set2 0).jv 0).mh false).pL 0).tR 0;have hB:=ag aN 6 (ak 0) _ (aN 5 (ak 0) _ (aN 4 (.bool false) _ (aN 3 (ak 0) _ (aN 2 (ak 0) _ (aN 1 (aJ) _ (aN 0 (.string (ai [])) _ K.2.2))))))
  exact yk
 have du:decide ((1:Int)<(U:Int))=false:=aA;have aT:=af (aQ aj.symm cY);clear aj;go_wp2_with fail;have bN:∀(x:Option (List ah×ah)),gg (s.length+1) (s.drop 12) []=x->x=none->cR s=none:=fun x da C=>by
  unfold cR;rw[ar (by rw[bF.1,bf.1,be.1,aT.1];omega),da,C]
 obtain⟨V,bi⟩:∃V,gg (s.length+1) (s.drop 12) []=V:=⟨_,rfl⟩
 have aU:=af (bN V bi);have bj:=af bi;clear bN bi;go_wp2_with fail
 go_loopw [5,6] (fun bA nv wr=>∃(i f:Nat) (l:List ah) (a_:Value),bA=ak i/\12<=i/\i<=s.length/\s.length<f+i/\Hid (gg f (s.drop i) l=V)/\l.length<=i/\Hid (nM wr w.heap.size a_ l)/\Hid (fP wr qb [] a_ 0 0 false 0 0/\fP wr rb [] (aJ) 0 0 false 0 0/\ax w wr)) (fun bA _ _=>s.length-(intOf bA).toNat)
 case atStart=>exact⟨12,s.length+1,[],aJ,rfl,ae,ae,ae,bj,am,⟨e8 _ _ _ _,am⟩,K⟩
 case round =>
  obtain⟨i,f,l,a_,rfl,cs,cr,b9,P,co,H,dG⟩:=hrel;obtain⟨xa,iX,xc,cA⟩:∃a k c,a_=.slice a k c:=by
   rcases H.1.2 with⟨h,_⟩|⟨g,cP,cS,h,_⟩
   ·exact⟨_,_,_,h⟩
   ·exact⟨_,_,_,h⟩
  subst cA;by_cases ca:i<s.length
  case neg =>
   have dp:i=s.length:=ae;have a1:decide ((i:Int) ≥ (s.length:Int))=true:=aA;have hno:cR s=none:=by
    refine ag aU ?_;have:=ag P;rw[dp,kN]at this;rw[<- this];cases f<;>rfl
   clear b9 P co;exact uw
  obtain⟨c,R⟩:∃c:UInt8,c=s[i]:=⟨_,rfl⟩
  have bo:∀h:i<(ai s).size,(ai s)[i]=c:=fun h=>R.symm;have aB:s.drop i=c::s.drop (i+1):=by rw[R];exact fQ ca
  obtain⟨f,rfl⟩:∃cT,f=cT+1:=⟨f-1,ae⟩
  have t:Hid ((if c=0 then some (l,s.drop (i+1))else if 63<c.toNat\/(s.drop (i+1)).length<c.toNat then none else gg f ((s.drop (i+1)).drop c.toNat) (l++[(s.drop (i+1)).take c.toNat]))=V):=by
   have:=ag P;rw[aB]at this;exact this
  rw[c8,eR]at t;obtain⟨k,C⟩:=a2 c.toNat;have a9:(c.toNat:Int)=(k:Int):=by rw[C]
  have dX:k<256:=by rw[C];exact dt c
  have F:c=0 ↔ k=0:=by rw[C];exact⟨fun h=>ng,fun h=>by apply lX;exact h⟩
  rw[<- C]at t;have cW:(i:Int)<(s.length:Int):=ae;have dl:IntKind.i64.wrap (k:Int)=(k:Int):=cX
  have aM:IntKind.i64.wrap ((i:Int)+1)=((i+1:Nat):Int):=cX
  obtain⟨j,X⟩:=a2 (i+1);rw[<- X]at t aM;have bz:=af (aQ X F);have cu:=af (aQ R C);by_cases bq:k=0
  case neg =>
   rw[ar (fun h=>bq (F.1 h))]at t;by_cases c2:63<k
   case pos =>
    have hno:cR s=none:=ag aU (by have:=ag t;rw[ay (.inl c2)]at this;exact this.symm);clear R aB C P t;exact uw
   have cd:IntKind.i64.wrap ((j:Int)+(k:Int))=((j+k:Nat):Int):=cX
   by_cases cq:s.length<j+k
   case pos =>
    have hno:cR s=none:=ag aU (by have:=ag t;rw[ay (.inr ae)]at this;exact this.symm);have cB:decide ((s.length:Int)<((j+k:Nat):Int))=true:=aA;clear R aB C P t;exact uw
   have bO:Hid (gg f (s.drop (j+k)) (l++[(s.drop j).take k])=V):=by have:=ag t;rw[ar ae]at this;exact this
   have aH:(ai s).extract j (j+k)=ai ((s.drop j).take k):=by have:=qH s j (j+k);rw[zN]at this;exact this
   have cp:iX=l.length:=by
    rcases H.1.2 with⟨h,bq⟩|⟨g,cP,cS,h,_⟩
    ·have:=(gL h).2.1;omega
    ·exact(gL h).2.1
   subst cp;have bQ:=uq H.1 dG.1;have bL:=uq H.1 dG.2.1;obtain⟨q0,q1,q2,q3,q4,q5,q6⟩:=dG.1.cells;have cw:=dG.1.lt;have c_:=dG.2.1.lt;have rU:=dG.1.frozen;have cQ:=dG.2.2.size;obtain⟨aD,aX⟩:=a2 (j+k);rw[<- aX]at aH cd bO;have bX:(j:Int)<=(aD:Int):=ae;have bY:(aD:Int)<=(s.length:Int):=ae;have bZ:j<=aD:=ae;have b0:aD<=s.length:=ae;have cB:decide ((s.length:Int)<(i:Int)+1+(k:Int))=false:=by have:=bz.1;simp;omega
   have dv:decide ((63:Int)<(k:Int))=false:=aA;have bE:=bz.1;have dw:(ai s).extract (i+1) (i+1+k)=ai ((s.drop j).take k):=by rw[<- bE,<- aX];exact aH
   have b1:(i:Int)+1+(k:Int)<=(s.length:Int):=ae;have b2:i+1+k<=s.length:=ae;have dx:¬(63:Int)<(k:Int):=ae;have dy:IntKind.i64.wrap ((i:Int)+1+(k:Int))=(i:Int)+1+(k:Int):=cX
   have dQ:((i:Int)+1+(k:Int)).toNat=i+1+k:=ae;have dK:(0:Int)<=(i:Int)+1+(k:Int):=ae;have dL:(0:Int)<=(i:Int)+1:=ae;have dM:(i:Int)+1<=(i:Int)+1+(k:Int):=ae;have cC:=af aX;have cD:=af bE;clear R aB C P t aX q0 q2 q3 q4 q5 q6 F cq bE X aH cd aM;go_wp2_with fail
   go_region_law (first|(refine step_append_lies _ rfl (.tmp 52) (.tmp 59) 113 rfl w.heap.size 9 de _ 1 16 rH di db dc dd rfl ba _ l.length (l.map fun dg=>au dg) rfl (eg H.1 (aE.alloc av _).drew) _ 1 1 [au ((s.drop j).take k)] rfl rfl (fun j cg X=>Nm wr _ _ j cg X) (fun cg hu=>qw) ba gW ae aA (wr.heap.size+1) am ?_;intro g I r aZ bw c5 c7;have ab:=dG.1.kept ((bw.block qb aA bQ).trans (bx _ _ _ cw));have cU:=ab.frozen;have up:=ab.cells.2.1))
   all_goals
    have S:World.grownBy _ r (Value.slice xa l.length xc).ownBlock:=bw;have bM:=uq aZ ab;have bR:=e9 H.1;have cE:=(e9 aZ g rfl).1;have bs:=(dG.2.2.alloc cQ (.cells #[.string (ai ((s.drop j).take k))] 9)).drew;have L:w.heap.size<=qb:=by have:=ac.2;omega
    have ct:Hid (nM (r.setCell ⟨qb,1,none⟩ (.slice (some ⟨g,0,none⟩) (l.length+1) I)) w.heap.size (aF g 0 (l.length+1) I) (l++[(s.drop j).take k])):=by
     refine⟨?_,⟨fun h=>(by cases h),fun h=>o5⟩⟩;have:=tm aZ (w':=r.setCell ⟨qb,1,none⟩ (.slice (some ⟨g,0,none⟩) (l.length+1) I)) (row:=some qb) ⟨rfl,rfl,rfl,am,fun q _ aY=>kX r (aq qb 1) q _ (fun e=>aY (by rw[e]))⟩ (.inr (fun e=>bM e.symm));rw[a6,d0];exact this
    have K:Hid (fP (r.setCell ⟨qb,1,none⟩ (.slice (some ⟨g,0,none⟩) (l.length+1) I)) qb [] (aF g 0 (l.length+1) I) 0 0 false 0 0/\fP (r.setCell ⟨qb,1,none⟩ (.slice (some ⟨g,0,none⟩) (l.length+1) I)) rb [] (aJ) 0 0 false 0 0/\ax w (r.setCell ⟨qb,1,none⟩ (.slice (some ⟨g,0,none⟩) (l.length+1) I))):=by
     refine⟨ab.set1 _,dG.2.1.kept ?_,?_⟩
     ·refine(kX r (aq qb 1) rb _ ?_).trans ((S.block rb aA bL).trans (bx _ _ _ c_));have:=ag ac;show rb≠qb;omega
     ·exact(bs.trans ⟨S.os,S.tape,S.output,S.size,fun q aY=>S.block q (by have:=bs.size;omega) (fun e=>by have:=(bR q e.symm).1;omega)⟩).setCell (p:=⟨qb,1,none⟩) L _
    have dz:=ag cC;have dA:=ag cD;clear aZ bw S c5 c7 ab cU up bM bR cE bs L bQ bL dG H;generalize r.setCell ⟨qb,1,none⟩ (.slice (some ⟨g,0,none⟩) (l.length+1) I)=a8 at *;go_wp2;exact⟨⟨aD,f,l++[(s.drop j).take k],aF g 0 (l.length+1) I,bP (Value.int .i64) ae,ae,ae,ae,bO,by rw[a6];simp;omega,ct,K⟩,ci⟩
  subst bq;rw[ay (F.2 rfl)]at t;have al:Hid (cR s=p_ s j l U):=Nl bF.1 bf.1 be.1 aT.1 bF.2 bf.2 be.2 (by have:=aT.2;omega) (by rw[ag bj];exact t.symm) ae;have N:Hid (∀(q:Nat) (bd:Int) (W:World),bd=(q:Int)->q+1<s.length->az 141 #[au s,ak bd] W (aP (ak (aG s q)) W)):=fun q bd W c4 aY=>by rw[c4];exact Y q W aY
  clear R aB C P F cu aU bj t b9;by_cases ce:255<j-12
  case pos =>
   have hno:cR s=none:=by rw[ag al];unfold p_;rw[ay (.inl ce)]
   have aw:(255:Int)<(i:Int)+1-12:=ae;clear aM;exact uw
  by_cases bJ:s.length<j+4
  case pos =>
   have hno:cR s=none:=by rw[ag al];unfold p_;rw[ay (.inr bJ)]
   have aw:¬(255:Int)<(i:Int)+1-12:=ae;have b3:(s.length:Int)<(i:Int)+1+4:=ae;clear aM;exact uw
  have aw:¬(255:Int)<(i:Int)+1-12:=ae;have b3:¬(s.length:Int)<(i:Int)+1+4:=ae;clear aM;go_wp2_with fail;refine(N j _ wr ae ae).mono ?_;rintro e dm ⟨rfl,b8⟩;rw[show((i:Int)+1)=(j:Int) by omega];have cF:13<=j:=ae;have O:=af (y5.below ⟨dG.1,dG.2.1,H,dG.2.2,ac.1,ac.2⟩ b8);obtain⟨ty,bm⟩:=a2 (aG s j);rw[<- bm];have bH:=af bm;clear b8 dG H bm aw b3 a9 dl cW bo ca cs cr Y aN X bz;obtain⟨q0,q1,q2,q3,q4,q5,q6⟩:=O.q.cells;obtain⟨r0,r1,r2,r3,r4,r5,r6⟩:=O.r.cells;have rU:=O.q.frozen;have mf:=O.r.frozen;have cG:IntKind.i64.wrap ((j:Int)+2)=(j:Int)+2:=cX
  go_wp2_with fail;have bS:=af (O.F9 (O.q.set2 ty));clear q0 q1 q2 q3 q4 q5 q6 rU O;generalize dm.setCell ⟨qb,2,none⟩ (.int .i64 ty)=bG at *;refine(N (j+2) _ bG ae ae).mono ?_;rintro e cn ⟨rfl,b4⟩;obtain⟨cl,bu⟩:=a2 (aG s (j+2));rw[<- bu];have bc:=af bu;have J:=af (bS.below b4);clear b4 bS bu;obtain⟨m,aC⟩:=a2 (j+4);obtain⟨Q,bt⟩:=a2 ((s.drop 12).take (j+4-12));have aH:(ai s).extract 12 (j+4)=ai Q:=by rw[bt];exact qH s 12 (j+4)
  have bk:=af bt;clear bt;have cH:IntKind.i64.wrap ((j:Int)+4)=(j:Int)+4:=cX
  have bX:(12:Int)<=(j:Int)+4:=ae;have bY:(j:Int)+4<=(s.length:Int):=ae;have bZ:((j:Int)+4).toNat=j+4:=ae;have b0:(0:Int)<=(j:Int)+4:=ae;have b1:12<=j+4:=ae;have b2:j+4<=s.length:=ae;obtain⟨q0,q1,q2,q3,q4,q5,q6⟩:=J.q.cells;obtain⟨r0,r1,r2,r3,r4,r5,r6⟩:=J.r.cells;have rU:=J.q.frozen;have mf:=J.r.frozen;have bI:Hid (y5 w ((cn.setCell ⟨qb,3,none⟩ (.int .i64 cl)).setCell ⟨qb,0,none⟩ (.string (ai Q))) rb qb (.slice xa iX xc) l Q ty cl false 0 0):=by
   have E:=J.F9 (J.q.jv cl);exact E.F9 (E.q.set0 Q)
  have bl:=(J.F9 (J.q.jv (cl:Int))).q.frozen 0;go_wp2_with fail;clear q0 q1 q2 q3 q4 q5 q6 rU bl J bX bY bZ b0 b1 aH cH cG;generalize (cn.setCell ⟨qb,3,none⟩ (.int .i64 cl)).setCell ⟨qb,0,none⟩ (.string (ai Q))=dn at *;refine(N 10 _ dn rfl ae).mono ?_;rintro e w9 ⟨rfl,cf⟩;rw[aT.1,show((j:Int)+4)=(m:Int) by omega];have dB:17<=m:=ae;have dC:m<=s.length:=ae;have b5:=af aC;clear aC;have jD:=af (bI.below cf);clear cf bI;by_cases bn:U=0
  case pos =>
   have c9:((U:Int)==0)=true:=aA;obtain⟨u,an⟩:∃u:Bool,((m:Int)==(s.length:Int))=u:=⟨_,rfl⟩
   have bp:match cR s with
    | none=>u=false
    | some (aK,ls,aL,c,aI,aO,v)=>u=true/\Q=aK/\(ty:Int)=(aL:Nat)/\(cl:Int)=(c:Nat)/\false=aI/\(0:Int)=(aO:Nat)/\(0:Int)=(v:Nat)/\ls=l:=by
    have aC:=ag b5;rw[ag al,p_,ar ae,ay bn];by_cases b_:s.length=j+4
    ·rw[ay b_,<- an];exact⟨aA,bk,by rw[ag bH],by rw[ag bc],rfl,rfl,rfl,rfl⟩
    ·rw[ar b_,<- an];show((m:Int)==(s.length:Int))=false;simp;omega
   have vD:=af bp;clear bp;obtain⟨q0,q1,q2,q3,q4,q5,q6⟩:=jD.q.cells;obtain⟨r0,r1,r2,r3,r4,r5,r6⟩:=jD.r.cells;have rU:=jD.q.frozen;have mf:=jD.r.frozen;go_wp2_with fail;have hF:=jD.PC (W':=w9) aE
   revert hF
   generalize World.setCell _ _ _=r_;intro hF;obtain⟨x0,x1,x2,x3,x4,x5,x6⟩:=hF.1.cells;refine cc (v:=.tuple #[.agg #[.string (ai Q),.slice xa iX xc,.int .i64 ty,.int .i64 cl,.bool false,.int .i64 0,.int .i64 0],.bool u]) Fc rfl ⟨⟨Q,_,ty,cl,false,0,0,u,rfl,⟨_,_,_,rfl⟩,?_⟩,hF.2.2⟩;have bp:=ag vD
   revert bp
   cases cR s with
   | none=>first|exact id|exact fun _=>rfl
   | some x =>
    obtain⟨a,b,c,d,e,f,g⟩:=x;rintro⟨k0,k1,k2,k3,k4,k5,k6,k7⟩;exact⟨k0,k1,k2,k3,k4,k5,k6,by rw[k7];exact hF.2.1⟩
  have c9:((U:Int)==0)=false:=aA;have D:Hid (cR s=if s.length<m+11\/s.getD m 0≠0\/aG s (m+1)≠41\/m+11+aG s (m+9)≠s.length then none else some (Q,l,ty,cl,true,aG s (m+3),(s.getD (m+6) 0).toNat)):=by
   have aC:=ag b5;rw[Hid,ag al,p_,ar ae,ar bn,ag bk,ag bH,ag bc,aC]
  have a3:Hid (cR s=none->match cR s with
    | none=>false=false
    | some (aK,ls,aL,c,aI,aO,v)=>false=true/\Q=aK/\(ty:Int)=(aL:Nat)/\(cl:Int)=(c:Nat)/\false=aI/\(0:Int)=(aO:Nat)/\(0:Int)=(v:Nat)/\ls=l):=fun h=>by rw[h]
  clear al bk bH bc ce bJ cF b2 bn co;by_cases cZ:s.length<m+11
  case pos =>
   have vD:=af (a3 (by rw[ag D,ay (.inl cZ)]));have aw:(s.length:Int)<(m:Int)+11:=ae;exact Eh
  have aw:¬(s.length:Int)<(m:Int)+11:=ae;have df:m<s.length:=ae;obtain⟨ap,aW⟩:∃c:UInt8,c=s[m]:=⟨_,rfl⟩
  have bo:∀h:m<(ai s).size,(ai s)[m]=ap:=fun h=>aW.symm;have bv:s.getD m 0=ap:=by rw[aW,fh,dV df];rfl
  have dY:(m:Int)<(s.length:Int):=ae;rw[bv]at D;by_cases F:ap=0
  case neg =>
   have vD:=af (a3 (by rw[ag D,ay (.inr (.inl F))]));have a9:((ap.toNat:Int) != 0)=true:=by
    have:ap.toNat≠0:=fun h=>F (lX h);simp;omega
   clear aW bv;exact Eh
  have a9:((ap.toNat:Int) != 0)=false:=by rw[F];rfl
  clear aW bv;go_wp2_with fail;refine(N (m+1) _ w9 ae ae).mono ?_;rintro e cj ⟨rfl,bK⟩;have B:=af (jD.below bK);obtain⟨k1,b6⟩:∃q,q=aG s (m+1):=⟨_,rfl⟩
  rw[<- b6]at D ⊢;clear bK jD b6 bo a9;by_cases bT:k1=41
  case neg =>
   have vD:=af (a3 (by rw[ag D,ay (.inr (.inr (.inl bT)))]));have c6:((k1:Int) != 41)=true:=aA;obtain⟨q0,q1,q2,q3,q4,q5,q6⟩:=B.q.cells;obtain⟨r0,r1,r2,r3,r4,r5,r6⟩:=B.r.cells;have rU:=B.q.frozen;have mf:=B.r.frozen;go_wp2_with fail;have hF:=B.PC (W':=cj) aE
   exact EF
  have c6:((k1:Int) != 41)=false:=aA;obtain⟨q0,q1,q2,q3,q4,q5,q6⟩:=B.q.cells;obtain⟨r0,r1,r2,r3,r4,r5,r6⟩:=B.r.cells;have rU:=B.q.frozen;have mf:=B.r.frozen;go_wp2_with fail;have bU:=af (B.F9 (B.q.mh true));clear q0 q1 q2 q3 q4 q5 q6 rU r0 r1 r2 r3 r4 r5 r6 mf B;generalize cj.setCell ⟨qb,4,none⟩ (.bool true)=cy at *;refine(N (m+3) _ cy ae ae).mono ?_;rintro e ck ⟨rfl,b7⟩;have G:=af (bU.below b7);obtain⟨sz,cb⟩:∃q,q=aG s (m+3):=⟨_,rfl⟩
  rw[<- cb]at D ⊢;clear b7 bU cb;have cI:m+6<s.length:=ae;obtain⟨cm,bh⟩:∃c:UInt8,c=s[m+6]:=⟨_,rfl⟩
  have cV:∀h:m+6<(ai s).size,(ai s)[m+6]=cm:=fun h=>bh.symm;have bV:s.getD (m+6) 0=cm:=by rw[bh,fh,dV cI];rfl
  rw[bV]at D;obtain⟨bg,aR⟩:=a2 cm.toNat;have dD:bg<256:=by rw[aR];exact dt cm
  have cJ:(cm.toNat:Int)=(bg:Int):=by rw[aR]
  rw[<- aR]at D;have cO:IntKind.i64.wrap (bg:Int)=(bg:Int):=cX
  have dj:((m:Int)+6).toNat=m+6:=ae;have dh:(m:Int)+6<(s.length:Int):=ae;have cL:(0:Int)<=(m:Int)+6:=ae;have bG:IntKind.i64.wrap ((m:Int)+6)=(m:Int)+6:=cX
  clear bh bV aR;obtain⟨q0,q1,q2,q3,q4,q5,q6⟩:=G.q.cells;obtain⟨r0,r1,r2,r3,r4,r5,r6⟩:=G.r.cells;have rU:=G.q.frozen;have mf:=G.r.frozen;have cM:Hid (y5 w ((ck.setCell ⟨qb,5,none⟩ (.int .i64 sz)).setCell ⟨qb,6,none⟩ (.int .i64 bg)) rb qb (.slice xa iX xc) l Q ty cl true sz bg):=by
   have E:=G.F9 (G.q.pL sz);exact E.F9 (E.q.tR bg)
  have bl:=(G.F9 (G.q.pL (sz:Int))).q.frozen 6;go_wp2_with fail;clear q0 q1 q2 q3 q4 q5 q6 rU bl r0 r1 r2 r3 r4 r5 r6 mf G cV dj dh cL bG cO cJ;generalize (ck.setCell ⟨qb,5,none⟩ (.int .i64 sz)).setCell ⟨qb,6,none⟩ (.int .i64 bg)=dE at *;obtain⟨T,aV⟩:∃q,q=aG s (m+9):=⟨_,rfl⟩
  have dF:T<131072:=by
   have E:=dt (s.getD (m+9) 0);have br:=dt (s.getD (m+9+1) 0);rw[aV];unfold aG;omega
  have cN:Hid (∀W,az 141 #[au s,ak ((m:Int)+9)] W (aP (ak T) W)):=fun W=>by rw[aV];exact N (m+9) _ W ae ae
  obtain⟨u,an⟩:∃u:Bool,((m:Int)+11+(T:Int)==(s.length:Int))=u:=⟨_,rfl⟩
  have bp:match cR s with
   | none=>u=false
   | some (aK,ls,aL,c,aI,aO,v)=>u=true/\Q=aK/\(ty:Int)=(aL:Nat)/\(cl:Int)=(c:Nat)/\true=aI/\(sz:Int)=(aO:Nat)/\(bg:Int)=(v:Nat)/\ls=l:=by
   rw[ag D,<- aV];by_cases bW:m+11+T=s.length
   ·rw[ar (by rintro(h|h|h|h);omega;exact h F;exact h bT;exact h bW),<- an];exact⟨aA,rfl,rfl,rfl,rfl,rfl,rfl,rfl⟩
   ·rw[ay (.inr (.inr (.inr bW))),<- an];show((m:Int)+11+(T:Int)==(s.length:Int))=false;simp;omega
  have vD:=af bp;have dH:IntKind.i64.wrap ((m:Int)+9)=(m:Int)+9:=cX
  have dI:IntKind.i64.wrap ((m:Int)+11)=(m:Int)+11:=cX
  have dJ:IntKind.i64.wrap ((m:Int)+11+(T:Int))=(m:Int)+11+(T:Int):=cX
  have ao:=af (cM.below aE.drew);obtain⟨q0,q1,q2,q3,q4,q5,q6⟩:=ao.q.cells;clear bp aV D a3 N ac;go_region_with (go_at_call 141;refine(cN _).mono ?_;rintro e cz ⟨rfl,a0⟩;obtain⟨dR,dS,cK,cx,dT,dU,dW⟩:=(ao.below a0).q.cells;obtain⟨r0,r1,r2,r3,r4,r5,r6⟩:=(ao.below a0).r.cells;have mf:=(ao.below a0).r.frozen)
  all_goals
   go_wp2_with fail;have hF:=ao.PC (W':=cz) (a0)
   revert hF
   generalize World.setCell _ _ _=r_;intro hF;obtain⟨x0,x1,x2,x3,x4,x5,x6⟩:=hF.1.cells;refine cc (v:=.tuple #[.agg #[.string (ai Q),.slice xa iX xc,.int .i64 ty,.int .i64 cl,.bool true,.int .i64 sz,.int .i64 bg],.bool u]) Fc rfl ⟨⟨Q,_,ty,cl,true,sz,bg,u,rfl,⟨_,_,_,rfl⟩,?_⟩,hF.2.2⟩;have bp:=ag vD
   revert bp
   cases cR s with
   | none=>first|exact id|exact fun _=>rfl
   | some x =>
    obtain⟨a,b,c,d,e,f,g⟩:=x;rintro⟨k0,k1,k2,k3,k4,k5,k6,k7⟩;exact⟨k0,k1,k2,k3,k4,k5,k6,by rw[k7];exact hF.2.1⟩
end Go.Proofs.YtkkpahmoljiepaaGreatDoor
