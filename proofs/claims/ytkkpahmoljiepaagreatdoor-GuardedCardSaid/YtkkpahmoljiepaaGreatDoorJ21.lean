import Derived.Test.YtkkpahmoljiepaaGreatDoorJ12
set_option maxRecDepth 1000000
set_option maxHeartbeats 12800000
set_option linter.unusedSimpArgs false
set_option linter.unusedVariables false
namespace Go.Proofs.YtkkpahmoljiepaaGreatDoor
open Go.RowKit Go.Proofs.Tryz
section
attribute [local go_sem] Oper.semAt_some
structure lD where
 S:ai×cH
 cs:List Nat
 full:Bool
def lF(size:Int)(aI:aj->List dH)(i:Nat):List (List aj)->lD->lD
 | [],st=>st
 | g :: gs,st=>if st.full=true then st else if size<((cT aI g st.S.1 st.S.2).1.length:Int)then { st with full:=true }
  else lF size aI i gs { st with S:=cT aI g st.S.1 st.S.2,cs:=st.cs.set i (st.cs.getD i 0+g.length) }
def mI(size:Int)(aI:aj->List dH):Nat->List (List aj)->lD->lD
 | _,[],st=>st
 | i,l :: ls,st=>mI size aI (i+1) ls (lF size aI i ((bC bJ l).map (·.2)) st)
theorem ajY{size:Int}{aI:aj->List dH}{i:Nat}{gs:List (List aj)}{st:lD}(h:st.full=true):lF size aI i gs st=st:=by
 cases gs with
 | nil=>rfl
 | cons g gs=>unfold lF;rw[aP h]
theorem Yh{size:Int}{aI:aj->List dH} : ∀ {i:Nat} {ls:List (List aj)} {st:lD},st.full=true->mI size aI i ls st=st
 | _,[],_,_=>rfl
 | i,l :: ls,st,h=>by unfold mI;rw[ajY h];exact Yh h
theorem ajZ{size:Int}{aI:aj->List dH}{i:Nat}{g:List aj}{gs:List (List aj)}{st:lD}(h:st.full=false)(hl:size<((cT aI g st.S.1 st.S.2).1.length:Int)):lF size aI i (g :: gs) st = { st with full:=true }:=by unfold lF;rw[aG (by rw[h];simp),aP hl]
theorem aj0{size:Int}{aI:aj->List dH}{i:Nat}{g:List aj}{gs:List (List aj)}{st:lD}(h:st.full=false)(hl:¬size<((cT aI g st.S.1 st.S.2).1.length:Int)):lF size aI i (g :: gs) st=lF size aI i gs { st with S:=cT aI g st.S.1 st.S.2,cs:=st.cs.set i (st.cs.getD i 0+g.length) }:=by
 conv=>lhs;unfold lF
 rw[aG (by rw[h];simp),aG hl]
def oJ(ds:List Nat)(w:World):World:=ds.foldl (fun w d=>w.putObj d (.deferred none)) w
theorem PX:∀(ds:List Nat) (w:World) (k:Nat),k ∉ ds->(oJ ds w).heap[k]? = w.heap[k]?
 | [],_,_,_=>rfl
 | d :: ds,w,k,h=>by simp only[eK,Ah]at h;show(oJ ds (w.putObj d (.deferred none))).heap[k]? = _;rw[PX ds _ k h.2,World.putObj_heap_other h.1]
theorem PY:∀(ds:List Nat) (w:World),(oJ ds w).os=w.os/\(oJ ds w).tape=w.tape/\(oJ ds w).output=w.output/\(oJ ds w).heap.size=w.heap.size
 | [],_=>⟨rfl,rfl,rfl,rfl⟩
 | d :: ds,w=>by have h:=PY ds (w.putObj d (.deferred none));exact⟨h.1,h.2.1,h.2.2.1,h.2.2.2.trans (by simp[World.putObj_size])⟩
def Yi(d:Nat):Deferred:={ target:=.collected d,args:=#[] }
theorem PZ{F:Fence}{n:Nat}{fn:Func}{tmps:Array Value}{R:Ending->World->Prop} : ∀(ds:List Nat) (w:World),ds.Nodup->(∀d∈ds,w.heap[d]? = some (.deferred (some []))) ->
  (∃v,(results fn tmps).run prog (oJ ds w)=.ok v (oJ ds w)/\R (.returned v) (oJ ds w))->LeavesInM F n prog fn tmps R (ds.map Yi) .returning w
 | [],_,_,_,h=>h
 | d :: ds,w,hn,aD,h=>by have hn':=MD.1 hn;refine⟨ak,.inl ⟨d,w.putObj d (.deferred none),rfl,run_takeDeferred (aD d ak),?_⟩⟩;exact PZ ds _ hn'.2 (fun x hx=>(World.putObj_heap_other (fun e=>hn'.1 (by rw[<- e];exact hx))).trans (aD x (by simp[hx]))) h
def gI(aI:aj->List dH)(i:Nat)(r:List aj)(st:lD)(j:Nat):lD:=⟨cT aI (lh r j) st.S.1 st.S.2,st.cs.set i (st.cs.getD i 0+(lh r j).length),false⟩
theorem P0(aI:aj->List dH)(i:Nat)(r:List aj)(st:lD)(au:i<st.cs.length)(hf:st.full=false):gI aI i r st 0=st:=by unfold gI;rw[agf];have h1:st.cs.set i (st.cs.getD i 0+([]:List aj).length)=st.cs:=by{rw[uV,mM au];simp};rw[h1];cases st;simp only at hf;subst hf;rfl
theorem aj1(aI:aj->List dH)(i:Nat)(r:List aj)(st:lD)(j:Nat){x:Nat×List aj}(hx:(bC bJ r)[j]? = some x)(au:i<st.cs.length) :
  gI aI i r st (j+1) = { gI aI i r st j with S:=cT aI x.2 (gI aI i r st j).S.1 (gI aI i r st j).S.2,cs:=(gI aI i r st j).cs.set i ((gI aI i r st j).cs.getD i 0+x.2.length) }:=by unfold gI;rw[agh hx,VE,bU];have h1:(st.cs.set i (st.cs.getD i 0+(lh r j).length)).getD i 0=st.cs.getD i 0+(lh r j).length:=by{rw[uV,Sr (by exact au)];rfl};simp only[h1,List.set_set,uX]
theorem aj2{r:List aj}{j:Nat}{x:Nat×List aj}(hx:(bC bJ r)[j]? = some x):((bC bJ r).map (·.2)).drop j=x.2 :: ((bC bJ r).map (·.2)).drop (j+1):=by have hl:=(iu.1 hx).1;have he:=(iu.1 hx).2;rw[nA (by rw[hE];exact hl),CM,he]
theorem aj3(mb base lb:Nat)(size:Int)(aI:aj->List dH)(v0 v1 v2:Value)(r0 r1 r2:List aj)(S0:ai×cH)(w:World)
  (hm:dB w mb base S0.1 S0.2) (kG:gw S0.2) (hg:bH w) (bL:base<=w.heap.size) (hb0:0<base) (hm0:0<mb)
  (xm:w.heap[lb]? = some (.cells #[v0,v1,v2] 41)) (qT:lb≠mb)
  (jR:∀i,i<3->∃a n c r b o,[v0,v1,v2][i]? = some (.slice a n c)/\[r0,r1,r2].drop i=r :: [r0,r1,r2].drop (i+1)/\C8 (.slice a n c) b o r/\dz w b o r/\b<base/\b≠mb/\r.length<=3001/\(∀x∈r,na x (aI x))/\n=r.length /\
   ∀x∈bC bJ r,∀(l:ai) (ps:cH),gw ps->l.length<=1300->ps.length<=l.length+300->(cT aI x.2 l ps).1.length<=50000/\(cT aI x.2 l ps).2.length<=20000/\(cT aI x.2 l ps).2.length<=(cT aI x.2 l ps).1.length+300)
  (hsz:size<=1300) (hS1:S0.1.length<=1300) (eU:S0.2.length<=S0.1.length+300) :
  aF 137 #[aO mb,aq size,aU lb 0 3 3] w fun e w' =>
   e=.returned (aU (w.heap.size+3) 0 3 3)/\eW w' (w.heap.size+3) ((mI size aI 0 [r0,r1,r2] ⟨S0,[0,0,0],false⟩).cs.map fun n:Nat=>(n:Int)) 3/\dB w' mb base (mI size aI 0 [r0,r1,r2] ⟨S0,[0,0,0],false⟩).S.1 (mI size aI 0 [r0,r1,r2] ⟨S0,[0,0,0],false⟩).S.2/\bF mb base w w':=by
 have mY:=hm.lt;have aj6:lb<w.heap.size:=(di.1 xm).1;have hg0:=hg.1;have vN:=ag jR;have Hl:Hid (∀V,aw w V->sN w.heap.size mb size [0,0,0] V->lz mb base w.heap.size lb size #[v0,v1,v2] w [] [0,0,0] mb S0 V):=fun V hB hF=>by
  have hT:bF mb base w V:=bF.mX hB;exact⟨hF,(hB.block lb aj6).trans xm,JY (hm.below hB),kG,hg.below hB,hT,fun x hx=>by cases hx⟩
 obtain⟨FIN,P1⟩:∃F,mI size aI 0 [r0,r1,r2] ⟨S0,[0,0,0],false⟩=F:=⟨_,rfl⟩
 rw[P1];have fq:=ag P1;clear hm kG hg xm jR P1;refine(bR (n:=0)).1 ?_;refine callsIn_of_wp_marks func137 rfl aY ?_;simp only[ntmps137,lK,cU,fV,Nat.reduceAdd,Nat.reduceSub,l_,mf,mh,mg,fF,dX];have mk:=agk;gi_wp2_with fail;obtain⟨V0,j_⟩:∃V,V=(((((w.alloc (.cells #[.pointer (some ⟨mb,0,none⟩)] 216)).alloc (.cells #[.int .i64 size] 3)).alloc (.cells #[.slice none 0 0] 56)).alloc (.cells #[.int .i64 0,.int .i64 0,.int .i64 0] 3)).alloc (.cells #[.slice (some ⟨w.heap.size+1+1+1,0,none⟩) 3 3] 56)):=⟨_,rfl⟩
 have Ev:Hid (lz mb base w.heap.size lb size #[v0,v1,v2] w [] [0,0,0] mb S0 V0):=by
  rw[j_];refine af Hl _ ((((bj.alloc aB _).alloc ak _).alloc aX _).alloc aX _ |>.alloc aX _) ?_;have n0:=World.alloc_heap_new w (.cells #[.pointer (some ⟨mb,0,none⟩)] 216);have n1:=World.alloc_heap_new (w.alloc (.cells #[.pointer (some ⟨mb,0,none⟩)] 216)) (.cells #[.int .i64 size] 3);have n2:=World.alloc_heap_new ((w.alloc (.cells #[.pointer (some ⟨mb,0,none⟩)] 216)).alloc (.cells #[.int .i64 size] 3)) (.cells #[.slice none 0 0] 56);have n3:=World.alloc_heap_new (((w.alloc (.cells #[.pointer (some ⟨mb,0,none⟩)] 216)).alloc (.cells #[.int .i64 size] 3)).alloc (.cells #[.slice none 0 0] 56)) (.cells #[.int .i64 0,.int .i64 0,.int .i64 0] 3);have n4:=World.alloc_heap_new ((((w.alloc (.cells #[.pointer (some ⟨mb,0,none⟩)] 216)).alloc (.cells #[.int .i64 size] 3)).alloc (.cells #[.slice none 0 0] 56)).alloc (.cells #[.int .i64 0,.int .i64 0,.int .i64 0] 3)) (.cells #[.slice (some ⟨w.heap.size+1+1+1,0,none⟩) 3 3] 56);simp only[dI]at n1 n2 n3 n4;refine⟨?_,?_,?_,?_,n4⟩
  ·exact(bV _ _ _ c5).trans ((bV _ _ _ c5).trans ((bV _ _ _ c5).trans ((bV _ _ _ c5).trans n0)))
  ·exact(bV _ _ _ c5).trans ((bV _ _ _ c5).trans ((bV _ _ _ c5).trans n1))
  ·exact(bV _ _ _ c5).trans ((bV _ _ _ c5).trans n2)
  ·exact(bV _ _ _ c5).trans n3
 rw[<- j_];clear j_ Hl mk;refine wpIn_loop (fun a W=>∃(i:Nat) (ds:List Nat) (st:lD) (u8 u9 KU KV KW u20 u21 u22 u38:Value),a=⟨#[aO mb,aq size,aU lb 0 3 3,aO w.heap.size,aO (w.heap.size+1),undef,aO (w.heap.size+1+1),aO (w.heap.size+1+1+1+1),u8,u9,undef,aU lb 0 3 3,aq 3,aU (w.heap.size+1+1+1) 0 3 3,aU lb 0 3 3,aq 3,aq i,KU,KV,KW,u20,u21,u22,undef,undef,undef,undef,undef,undef,undef,undef,undef,undef,undef,undef,undef,undef,undef,u38,undef],ds.map Yi⟩/\i<=3/\(ds.Nodup/\∀x∈ds,w.heap.size<=x)/\st.cs.length=3/\st.full=false/\(∀c∈st.cs,c<=3001*i)/\st.S.1.length<=1300/\st.S.2.length<=st.S.1.length+300/\Hid (lz mb base w.heap.size lb size #[v0,v1,v2] w ds (st.cs.map fun n:Nat=>(n:Int)) mb st.S W)/\Hid (mI size aI i ([r0,r1,r2].drop i) st=FIN)) (fun a _=>3 - (intOf (a.tmps.getD 16 undef)).toNat) ?_ ?_
 ·exact⟨0,[],⟨S0,[0,0,0],false⟩,undef,undef,undef,undef,undef,undef,undef,undef,undef,rfl,ae,⟨List.nodup_nil,fun x hx=>by cases hx⟩,rfl,rfl,(fun c hc=>by simp at hc;omega),hS1,eU,Ev,fq⟩
 ·rintro _ V ⟨i,ds,st,u8,u9,KU,KV,KW,u20,u21,u22,u38,rfl,au,⟨iy,xS⟩,hcl,Hm,hcb,hs1,hs2,fp,eE⟩;by_cases Ew:i<3
  ·have KX:(i:Int)<3:=ae;obtain⟨la,ln,lc,r,b,o,e1,e2,Yj,cA,kA,sL,hrl,mz,rfl,jg⟩:=af vN i Ew;have hcell:V.cell? (ar lb i)=some (.slice la r.length lc):=by
    have:=fp.lists;unfold World.cell?;rw[this]
    match i,Ew,e1 with
    | 0,_,e1=>simpa using e1
    | 1,_,e1=>simpa using e1
    | 2,_,e1=>simpa using e1
   have kr:=af fp;have lG:∀x∈ds,x≠mb/\x≠w.heap.size+3/\x≠w.heap.size+2/\x<V.heap.size:=fun x hx=>by
    have aD:=kr.defs x hx;refine⟨fun e=>?_,fun e=>?_,fun e=>?_,(di.1 aD).1⟩
    ·obtain⟨vb,vp,h1,_⟩:=kr.msg.msg;unfold cG at h1;rw[e,h1]at aD;cases aD
    ·have h3:=kr.fb.b3;unfold eW at h3;rw[e,h3]at aD;cases aD
    ·have h2:=kr.fb.b2;unfold aM at h2;rw[e,h2]at aD;cases aD
   have arq:=kr.fb.lt;have ars:=kr.msg.msg.lt;have art:=kr.tg.size;gi_wp2_with fail;refine⟨aY,rfl,?_⟩;refine(bR.2 (age _ _ _ _)).mono ?_;rintro e W0 ⟨rfl,ez,Jl,bx1,P2⟩;have bx0:aM W0 V.heap.size (aq i) 3:=(aM.ke _ _ _).below Jl ak;have Yk:aw V W0:=(bj.alloc aB _).trans (Jl.mono ak);simp only[dI]at ez bx1 P2;have t0:V.heap.size+3<=W0.heap.size:=ae;have FD:Hid (gI aI i r st 0=st):=P0 aI i r st ae Hm;have Hn:Hid (lz mb base w.heap.size lb size #[v0,v1,v2] w ds ((gI aI i r st 0).cs.map fun n:Nat=>(n:Int)) (W0.heap.size+1) (gI aI i r st 0).S W0):=by
    rw[Hid,af FD];exact(kr.below Yk).re _ ⟨fun cur hc=>by have:=(di.1 hc).1;omega,fun cur hc=>by have:=(di.1 hc).1;omega⟩
   have sJ:=ag (bQ bx0 (bQ bx1 P2));obtain⟨ST1,P5⟩:∃s,lF size aI i ((bC bJ r).map (·.2)) st=s:=⟨_,rfl⟩
   have fZ:Hid (mI size aI (i+1) ([r0,r1,r2].drop (i+1)) ST1=FIN):=by
    have:=af eE;rw[e2,mI,P5]at this;exact this
   have fe:Hid (lF size aI i (((bC bJ r).map (·.2)).drop 0) (gI aI i r st 0)=ST1):=by rw[Hid,af FD,zW];exact P5
   have O2:=ag mz;have P6:=ag jg;have BX:=ag cA;have aj7:=ag Yj;have AU:=cA.1;clear ez Jl bx0 bx1 P2 Yk hcell fp kr P5 eE e1 e2 mz jg cA Yj vN Ev fq FD;gi_wp2_with fail;have hgrow:∀q,aw W0 ((W0.alloc (.deferred (some []))).alloc (.loop q)):=fun q=>(bj.alloc aB _).alloc ak _;have Ho:∀W,bF mb base w W->dz W b o r:=fun W ht=>vy (af BX) ht.size (ht.block b AU sL (.inl kA));refine N3 (xs:=bC bJ r) (encs:=fun x:Nat×List aj=>#[aU b (o+x.1*4) x.2.length x.2.length]) (St:=fun A B=>aw A B) (Kp:=iK (V.heap.size+1) (V.heap.size+1+1) b) (Kx:=fun _ _=>True)
    (gf:=233) (lb:=#[aO (V.heap.size+1),aO (V.heap.size+1+1)]) rfl (enters_of func233 aK rfl) (fun _=>rfl) ?aj8
    [V.heap.size+1,V.heap.size+1+1,b] aX (fun A B h=>h) (fun A B h h'=>⟨h',h _ ak,h _ ak,h _ ak⟩) (fun _ _=>aY)
    (fun j W=>lz mb base w.heap.size lb size #[v0,v1,v2] w ds ((gI aI i r st j).cs.map fun n:Nat=>(n:Int)) (W0.heap.size+1) (gI aI i r st j).S W/\aM W V.heap.size (aq i) 3/\aM W (V.heap.size+1) (.slice la r.length lc) 41/\aM W (V.heap.size+1+1) (.func (.func 177) #[] #[]) 261 /\
     Hid (lF size aI i (((bC bJ r).map (·.2)).drop j) (gI aI i r st j)=ST1)/\(gI aI i r st j).S.1.length<=1300/\(gI aI i r st j).S.2.length<=(gI aI i r st j).S.1.length+300)
    (fun c W=>c=.ret/\Bo mb base w.heap.size w ds (FIN.cs.map fun n:Nat=>(n:Int)) (W0.heap.size+1) FIN.S W)
    (fun j A B h hA hk=>⟨h.1.keeps hk ae ae ae ae (fun x hx=>by have:=(lG x hx).2.2.2;omega),aM.kept h.2.1 (hk.block _ (aM.lt h.2.1) ae),aM.kept h.2.2.1 (hk.block _ (aM.lt h.2.2.1) ae),aM.kept h.2.2.2.1 (hk.block _ (aM.lt h.2.2.2.1) ae),h.2.2.2.2⟩)
    (fun c A B h hA hk=>⟨h.1,h.2.keeps hk ae ae ae (fun x hx=>by have:=(lG x hx).2.2.2;omega)⟩)
    ⟨Hn,sJ.1,sJ.2.1,sJ.2.2,fe,by rw[P0 aI i r st ae Hm];exact hs1,by rw[P0 aI i r st ae Hm];exact hs2⟩
    ?round0 ?aj9 ?aj_
   case aj8 =>
    intro q;have hg:=hgrow q;exact Nw _ b o _ _ r _ (af aj7) ((hg.cell (p:=⟨V.heap.size+1,0,none⟩) (by show V.heap.size+1<W0.heap.size;omega)).trans (aM.cell sJ.2.1)) ((hg.cell (p:=⟨V.heap.size+1+1,0,none⟩) (by show V.heap.size+1+1<W0.heap.size;omega)).trans (aM.cell sJ.2.2)) ((Ho W0 Hn.tg).below hg) (by have:=hg.size;omega) (by have:=hg.size;omega) hrl
   case aj_ =>
    intro c W hI cD Yl;obtain⟨rfl,hX⟩:=hI;have hb2:=aM.lt hX.b2;have aru:=hX.msg.msg.lt;have Ym:W0.heap.size ∉ ds:=fun h=>by have:=(lG _ h).2.2.2;omega
    have aJ:∀x,x ∉ W0.heap.size :: ds->(oJ (W0.heap.size :: ds) W).heap[x]? = W.heap[x]?:=fun x h0=>PX _ W x h0;have BZ:∀x,x<W0.heap.size->(∀y∈ds,x≠y)->x ∉ W0.heap.size :: ds:=fun x h1 h2 h=>by
     rcases eK.1 h with h|h
     ·omega
     ·exact h2 x h rfl
    have cr:(oJ (W0.heap.size :: ds) W).cell? (ar (w.heap.size+1+1) 0)=some (aU (w.heap.size+3) 0 3 3):=(dC (aJ (w.heap.size+2) (BZ _ ae (fun y hy e=>(lG y hy).2.2.1 e.symm)))).trans (aM.cell hX.b2);have cN:=ag hX;have aka:=ag Ym;have akb:=ag BZ;have PO:=ag aJ;clear hX hb2 Ym BZ aJ;gi_wp2_with fail;have hX:=af cN;have aJ:=af PO;have BZ:=af akb;refine PZ (W0.heap.size :: ds) W (MD.2 ⟨aka,iy⟩) (fun d aD=>?_) ⟨aU (w.heap.size+3) 0 3 3,by simp[results,results137,go_sem,cr],rfl,?_,?_,?_⟩
    ·rcases eK.1 aD with rfl|aD
     ·exact cD
     ·exact hX.defs d aD
    ·exact(aJ _ (BZ _ ae (fun y hy e=>(lG y hy).2.1 e.symm))).trans hX.b3
    ·obtain⟨cE,cC,ng,kz,lA⟩:=hX.msg.msg;have Yn:∀d∈W0.heap.size :: ds,W.heap[d]? = some (.deferred (some [])):=fun d aD=>by
      rcases eK.1 aD with rfl|aD
      ·exact cD
      ·exact hX.defs d aD
     refine⟨cE,cC,ng.kept (aJ mb (BZ mb ae (fun y hy e=>(lG y hy).1 e.symm))),nO kz fun g hg=>?_,nO lA fun g hg=>?_⟩
     ·obtain⟨cur,bp⟩:=yM kz hg;exact aJ g (fun e=>by rw[Yn g e]at bp;cases bp)
     ·obtain⟨cur,bp⟩:=yN lA hg;exact aJ g (fun e=>by rw[Yn g e]at bp;cases bp)
    ·obtain⟨k1,k2,k3,k4⟩:=PY (W0.heap.size :: ds) W;exact hX.tg.same k1 k2 k3 (by rw[k4];exact aL _) fun x hx=>aJ x (BZ x ae (fun y hy e=>by have:=xS y hy;omega))
   case round0 =>
    intro l' j x afA W hx hI Yl fH nN;obtain⟨hF,y0,y1,y2,B0,dg,hl2⟩:=hI;have hmem:x∈bC bJ r:=qH hx;have lR:=yw hmem;have KY:=Ax (Ho W hF.tg) hmem;have hb:=af P6 x hmem _ _ hF.po dg hl2;have B6:=aj1 aI i r st j hx ae;have hdr:=aj2 hx;have kY:(lh r j).length<=3001:=a_ (Oq r j) hrl;have hai:i<(gI aI i r st j).cs.length:=by unfold gI;simp;omega
    have Yo:(gI aI i r st j).cs.getD i 0<=3001*i+3001:=by
     have h1:(gI aI i r st j).cs.getD i 0=st.cs.getD i 0+(lh r j).length:=by
      unfold gI;rw[uV,Sr ae];rfl
     have h2:st.cs.getD i 0<=3001*i:=by
      rw[uV,mM ae];exact hcb _ (iV _)
     omega
    have KZ:(gI aI i r st j).full=false:=rfl;have iP:∀q∈x.2,na q (aI q):=fun q hq=>af O2 q (Ot hmem hq);have K0:=(Dz aI x.2 iP (gI aI i r st j).S.1 (gI aI i r st j).S.2).2.2 hF.po;generalize gI aI i r st (j+1)=A1 at *;generalize gI aI i r st j=AJ at *;obtain⟨B7,rI⟩:∃N,cT aI x.2 AJ.S.1 AJ.S.2=N:=⟨_,rfl⟩
    rw[rI]at hb B6 K0;obtain⟨cc,hcc⟩:=bP (AJ.cs.getD i 0);rw[<- hcc]at B6 Yo;have c0':=aM.cell hF.fb.b0;have c1':=aM.cell hF.fb.b1;obtain⟨lr,zu⟩:=nN;have tV:∀W3,bF mb base W W3->W3.heap[W0.heap.size+1]? = some (.loop lr)/\W3.heap[W0.heap.size]? = some (.deferred (some [])):=fun W3 t3 =>
     ⟨(t3.block (W0.heap.size+1) ae ae (.inr ⟨fun c hc=>(by rw[zu]at hc;cases hc),fun c hc=>by rw[zu]at hc;cases hc⟩)).trans zu,(t3.block W0.heap.size ae ae (.inr ⟨fun c hc=>(by rw[fH]at hc;cases hc),fun c hc=>by rw[fH]at hc;cases hc⟩)).trans fH⟩
    by_cases lT:size<(B7.1.length:Int)
    ·have Hp:Hid (aF 203 #[aO mb,aq size,aU b (o+x.1*4) x.2.length x.2.length] W fun e w' =>
       e=.returned (.bool false)/\dB w' mb base AJ.S.1 AJ.S.2/\bF mb base W w') :=
      agM mb base b (o+x.1*4) x.2.length size aI x.2 AJ.S.2 AJ.S.1 W hF.msg.msg hF.po hF.g (a_ bL hF.tg.size) hb0 hm0 KY kA sL aB ae iP (by rw[rI];omega) (by rw[rI];omega) (by rw[rI];exact lT)
     have HST:Hid (FIN = { AJ with full:=true }):=by
      have h1:=af B0;rw[hdr,ajZ KZ (by rw[rI];exact lT)]at h1;have h2:=af fZ;rw[<- h1,Yh rfl]at h2;exact h2.symm
     have jK:Hid (∀W3,dB W3 mb base AJ.S.1 AJ.S.2->bF mb base W W3 ->
       W3.cell? (ar (w.heap.size+1+1+1+1) 0)=some (aU (w.heap.size+1+1+1) 0 3 3)/\W3.cell? (ar (w.heap.size+1+1) 0)=some (bK)/\W3.frozen? (ar (w.heap.size+1+1) 0)=false /\
       Hid (gq W0.heap.size W (W3.setCell ⟨w.heap.size+1+1,0,none⟩ (.slice (some ⟨w.heap.size+1+1+1,0,none⟩) 3 3))/\Bo mb base w.heap.size w ds (FIN.cs.map fun n:Nat=>(n:Int)) (W0.heap.size+1) FIN.S (W3.setCell ⟨w.heap.size+1+1,0,none⟩ (.slice (some ⟨w.heap.size+1+1+1,0,none⟩) 3 3)))):=by
      intro W3 m3 t3;obtain⟨B8,P7⟩:=tV W3 t3;have dR:=hF.fit t3 m3 hF.po ae qT hb0 hm0 (fun x hx=>(lG x hx).1) ⟨fun cur hc=>(by rw[B8]at hc;cases hc),fun cur hc=>by rw[B8]at hc;cases hc⟩;have hne:∀k',k'≠w.heap.size+2->(W3.setCell ⟨w.heap.size+1+1,0,none⟩ (.slice (some ⟨w.heap.size+1+1+1,0,none⟩) 3 3)).heap[k']? = W3.heap[k']?:=fun k' hk=>bf _ _ _ _ hk;have eM:=dR.fb.b2;rw[af HST];refine⟨aM.cell dR.fb.b4,aM.cell eM,aM.frozen eM,⟨a_ t3.size (by simp[World.setCell]),(hne _ ae).trans (P7.trans fH.symm),(hne _ ae).trans (B8.trans zu.symm)⟩,aM.set eM _,(hne _ ae).trans dR.fb.b3,DG dR.msg ⟨fun c hc=>(by rw[eM]at hc;simp at hc),fun c hc=>by rw[eM]at hc;simp at hc⟩ ae hne,dR.tg.same rfl rfl rfl (by simp[World.setCell]) fun i au=>hne i ae,fun x hx=>(hne x (lG x hx).2.2.1).trans (dR.defs x hx)⟩
     clear hF y0 y1 y2 hmem KY fH zu hx Hn sJ hgrow Ho hb B6 hdr K0 tV B0 rI hcc KZ kY hai Yo iP lR dg hl2 hcb hs1 hs2 Hm iy xS lG;gi_wp2_with fail;refine⟨aY,?_⟩;gi_wp2_with fail;refine⟨aY,rfl,?_⟩;refine(CallsIn.inRound l' (bR.2 (af Hp))).mono ?_;rintro e W3 ⟨rfl,m3,t3⟩;obtain⟨k1,k2,k3,bu⟩:=af jK W3 m3 t3;clear m3 t3 jK Hp;gi_wp2_with fail;exact⟨bu.1,rfl,bu.2⟩
    ·have Yp:(B7.1.length:Int)<=size:=ae;have Hp:Hid (aF 203 #[aO mb,aq size,aU b (o+x.1*4) x.2.length x.2.length] W fun e w' =>
       e=.returned (.bool true)/\dB w' mb base B7.1 B7.2/\bF mb base W w'):=by
      have:=afX mb base b (o+x.1*4) x.2.length size aI x.2 AJ.S.2 AJ.S.1 W hF.msg.msg hF.po hF.g (a_ bL hF.tg.size) hb0 hm0 KY kA sL aB ae iP (by rw[rI];omega) (by rw[rI];omega) (by rw[rI];exact Yp);rw[rI]at this;exact this
     have fE:Hid (lF size aI i (((bC bJ r).map (·.2)).drop (j+1)) A1=ST1):=by
      have h1:=af B0;rw[hdr,aj0 KZ (by rw[rI];exact lT),rI,<- hcc]at h1;rw[Hid,B6];exact h1
     have nV:A1.S=B7:=by rw[B6]
     have wu:(A1.cs.map fun n:Nat=>(n:Int))=(AJ.cs.map fun n:Nat=>(n:Int)).set i (cc+x.2.length:Int):=by rw[B6,II];simp
     have Ha:(AJ.cs.map fun n:Nat=>(n:Int))[i]? = some (cc:Int):=by rw[CL,mM hai,hcc,uV,mM hai];rfl
     have jK:Hid (∀W3,dB W3 mb base B7.1 B7.2->bF mb base W W3 ->
       W3.cell? (ar (w.heap.size+1+1+1+1) 0)=some (aU (w.heap.size+1+1+1) 0 3 3)/\W3.cell? (ar V.heap.size 0)=some (aq i)/\W3.cell? (ar (w.heap.size+1+1+1) i)=some (aq cc)/\W3.frozen? (ar (w.heap.size+1+1+1) i)=false /\
       Hid (gq W0.heap.size W (W3.setCell ⟨w.heap.size+1+1+1,i,none⟩ (.int .i64 (cc+x.2.length:Int)))/\(∀k∈[V.heap.size+1,V.heap.size+1+1,b],(W3.setCell ⟨w.heap.size+1+1+1,i,none⟩ (.int .i64 (cc+x.2.length:Int))).heap[k]? = W.heap[k]?) /\
        (lz mb base w.heap.size lb size #[v0,v1,v2] w ds (A1.cs.map fun n:Nat=>(n:Int)) (W0.heap.size+1) A1.S (W3.setCell ⟨w.heap.size+1+1+1,i,none⟩ (.int .i64 (cc+x.2.length:Int)))/\aM (W3.setCell ⟨w.heap.size+1+1+1,i,none⟩ (.int .i64 (cc+x.2.length:Int))) V.heap.size (aq i) 3/\aM (W3.setCell ⟨w.heap.size+1+1+1,i,none⟩ (.int .i64 (cc+x.2.length:Int))) (V.heap.size+1) (.slice la r.length lc) 41/\aM (W3.setCell ⟨w.heap.size+1+1+1,i,none⟩ (.int .i64 (cc+x.2.length:Int))) (V.heap.size+1+1) (.func (.func 177) #[] #[]) 261 /\
         Hid (lF size aI i (((bC bJ r).map (·.2)).drop (j+1)) A1=ST1)/\A1.S.1.length<=1300/\A1.S.2.length<=A1.S.1.length+300))):=by
      intro W3 m3 t3;obtain⟨B8,P7⟩:=tV W3 t3;have dR:=hF.fit t3 m3 K0 ae qT hb0 hm0 (fun x hx=>(lG x hx).1) ⟨fun cur hc=>(by rw[B8]at hc;cases hc),fun cur hc=>by rw[B8]at hc;cases hc⟩;have z0:=Bd y0 t3 ae aC aC;have z1:=Bd y1 t3 ae aC aC;have z2:=Bd y2 t3 ae aC aC;have qj:=dR.set i (cc+x.2.length:Int) ae ae aB (fun x hx=>(lG x hx).2.1);have hne:∀k',k'≠w.heap.size+3->(W3.setCell ⟨w.heap.size+1+1+1,i,none⟩ (.int .i64 (cc+x.2.length:Int))).heap[k']? = W3.heap[k']?:=fun k' hk=>bf _ _ _ _ hk;refine⟨aM.cell dR.fb.b4,aM.cell z0,(dR.fb.b3.cell i (by rw[hE];exact hai)).trans (by rw[(iu.1 Ha).2]),dR.fb.b3.frozen i,⟨a_ t3.size (by simp[World.setCell]),(hne _ ae).trans (P7.trans fH.symm),(hne _ ae).trans (B8.trans zu.symm)⟩,fun k hk=>?_,?_,aM.kept z0 (hne _ ae),aM.kept z1 (hne _ ae),aM.kept z2 (hne _ ae),fE,by rw[nV];omega,by rw[nV];exact hb.2.2⟩
      ·simp only[eK,uW,uZ]at hk;rcases hk with rfl|rfl|rfl
       ·exact(hne _ ae).trans (z1.trans y1.symm)
       ·exact(hne _ ae).trans (z2.trans y2.symm)
       ·exact(hne _ ae).trans (t3.block _ (by have:=hF.tg.size;omega) sL (.inl kA))
      ·rw[nV,wu];exact qj
     clear hF y0 y1 y2 hmem KY fH zu hx Hn sJ hgrow Ho hb B6 hdr K0 tV B0 rI hcc KZ kY hai iP dg hl2 hcb hs1 hs2 Hm iy xS lG nV wu Ha fE lT Yp;gi_wp2_with fail;refine⟨aY,?_⟩;gi_wp2_with fail;refine⟨aY,rfl,?_⟩;refine(CallsIn.inRound l' (bR.2 (af Hp))).mono ?_;rintro e W3 ⟨rfl,m3,t3⟩;obtain⟨k1,k2,k3,k4,bu⟩:=af jK W3 m3 t3;clear m3 t3 jK Hp;gi_wp2_with fail;exact⟨bu.1,bu.2.1,bu.2.2⟩
   case aj9 =>
    intro W hI cD Yl;obtain⟨hF,y0,y1,y2,B0,dg,hl2⟩:=hI;have hend:gI aI i r st (bC bJ r).length=ST1:=by
     have:=af B0;rw[abY (by rw[hE];exact aL _)]at this;exact this
    have bg:=ag hF;have qW:=ag hend;clear hF y0 y1 y2 B0 hend Hn sJ hgrow Ho;gi_wp2_with fail;refine⟨⟨i+1,W0.heap.size :: ds,gI aI i r st (bC bJ r).length,_,_,_,_,_,_,_,_,_,rfl,ae,⟨MD.2 ⟨fun h=>by have:=(lG _ h).2.2.2;omega,iy⟩,fun x hx=>?_⟩,?_,rfl,fun c hc=>?_,dg,hl2,?_,?_⟩,gN⟩
    ·rcases eK.1 hx with rfl|hx
     ·omega
     ·exact xS x hx
    ·unfold gI;simp;exact hcl
    ·unfold gI at hc;rcases Sy hc with hc|hc
     ·have:=hcb c hc;omega
     ·have h2:st.cs.getD i 0<=3001*i:=by
       rw[uV,mM ae];exact hcb _ (iV _)
      have:=a_ (Oq r (bC bJ r).length) hrl;omega
    ·have h:=bg.re mb (by
      obtain⟨vb,vp,h1,_⟩:=bg.msg.msg;unfold cG at h1;exact⟨fun cur hc=>(by rw[h1]at hc;simp at hc),fun cur hc=>by rw[h1]at hc;simp at hc⟩)
     exact⟨h.fb,h.lists,h.msg,h.po,h.g,h.tg,fun x hx=>by
      rcases eK.1 hx with rfl|hx
      ·exact cD
      ·exact h.defs x hx⟩
    ·rw[Hid,af qW];exact fZ
  ·obtain rfl:i=3:=ae;have kr:=af fp;have lG:∀x∈ds,x≠mb/\x≠w.heap.size+3/\x≠w.heap.size+2/\x<V.heap.size:=fun x hx=>by
    have aD:=kr.defs x hx;refine⟨fun e=>?_,fun e=>?_,fun e=>?_,(di.1 aD).1⟩
    ·obtain⟨vb,vp,h1,_⟩:=kr.msg.msg;unfold cG at h1;rw[e,h1]at aD;cases aD
    ·have h3:=kr.fb.b3;unfold eW at h3;rw[e,h3]at aD;cases aD
    ·have h2:=kr.fb.b2;unfold aM at h2;rw[e,h2]at aD;cases aD
   have hst:st=FIN:=af eE;have k1:=aM.cell kr.fb.b4;have k2:=aM.cell kr.fb.b2;have k3:=aM.frozen kr.fb.b2;have hX:Hid (Bo mb base w.heap.size w ds (FIN.cs.map fun n:Nat=>(n:Int)) mb FIN.S (V.setCell ⟨w.heap.size+1+1,0,none⟩ (.slice (some ⟨w.heap.size+1+1+1,0,none⟩) 3 3))):=by
    rw[<- hst];have hne:∀k',k'≠w.heap.size+2->(V.setCell ⟨w.heap.size+1+1,0,none⟩ (.slice (some ⟨w.heap.size+1+1+1,0,none⟩) 3 3)).heap[k']? = V.heap[k']?:=fun k' hk=>bf _ _ _ _ hk;have eM:=kr.fb.b2;exact⟨aM.set eM _,(hne _ ae).trans kr.fb.b3,DG kr.msg ⟨fun c hc=>(by rw[eM]at hc;simp at hc),fun c hc=>by rw[eM]at hc;simp at hc⟩ ae hne,kr.tg.same rfl rfl rfl (by simp[World.setCell]) fun i au=>hne i ae,fun x hx=>(hne x (lG x hx).2.2.1).trans (kr.defs x hx)⟩
   clear kr fp eE vN Ev fq hst au Ew hcb;have akc:=ag lG;have P8:=ag iy;have Av:=ag xS;clear lG iy xS;have HW:Hid (∀W,Bo mb base w.heap.size w ds (FIN.cs.map fun n:Nat=>(n:Int)) mb FIN.S W->(oJ ds W).cell? (ar (w.heap.size+1+1) 0)=some (aU (w.heap.size+3) 0 3 3)/\eW (oJ ds W) (w.heap.size+3) (FIN.cs.map fun n:Nat=>(n:Int)) 3/\dB (oJ ds W) mb base FIN.S.1 FIN.S.2/\bF mb base w (oJ ds W)):=fun W hX=>by
    have lG:=af akc;have aJ:∀x,x ∉ ds->(oJ ds W).heap[x]? = W.heap[x]?:=fun x h0=>PX _ W x h0;refine⟨(dC (aJ (w.heap.size+2) (fun h=>(lG _ h).2.2.1 rfl))).trans (aM.cell hX.b2),(aJ _ (fun h=>(lG _ h).2.1 rfl)).trans hX.b3,?_,?_⟩
    ·obtain⟨cE,cC,ng,kz,lA⟩:=hX.msg.msg;refine⟨cE,cC,ng.kept (aJ mb (fun h=>(lG _ h).1 rfl)),nO kz fun g hg=>?_,nO lA fun g hg=>?_⟩
     ·obtain⟨cur,bp⟩:=yM kz hg;exact aJ g (fun e=>by rw[hX.defs g e]at bp;cases bp)
     ·obtain⟨cur,bp⟩:=yN lA hg;exact aJ g (fun e=>by rw[hX.defs g e]at bp;cases bp)
    ·obtain⟨k1,k2,k3,k4⟩:=PY ds W;exact hX.tg.same k1 k2 k3 (by rw[k4];exact aL _) fun x hx=>aJ x (fun h=>by have:=af Av x h;omega)
   gi_wp2_with fail;generalize V.setCell ⟨w.heap.size+1+1,0,none⟩ (.slice (some ⟨w.heap.size+1+1+1,0,none⟩) 3 3)=W at *;have hX:=af hX;obtain⟨cr,e1,e2,e3⟩:=af HW W hX;exact PZ ds W (af P8) (fun d aD=>hX.defs d aD) ⟨aU (w.heap.size+3) 0 3 3,by simp[results,results137,go_sem,cr],rfl,e1,e2,e3⟩
end
def P9(v:Value):Prop:=∃a0 a1 a2 a3 a4 a5 a8 a9 a11 a12:Int,∃a6 a7:ai,∃a10:Bool,v=dK a0 a1 a2 a3 a4 a5 a6 a7 a8 a9 a10 a11 a12
theorem Yq(a b c d:Int)(W:World):(part 3 #[aq a,aq b,aq c,aq d] 0).run prog W=.ok (aq a) W:=aK
theorem Yr(a b c d:Int)(W:World):(part 3 #[aq a,aq b,aq c,aq d] 1).run prog W=.ok (aq b) W:=aK
theorem Ys(a b c d:Int)(W:World):(part 3 #[aq a,aq b,aq c,aq d] 2).run prog W=.ok (aq c) W:=aK
theorem Yt(a b c d:Int)(W:World):(part 3 #[aq a,aq b,aq c,aq d] 3).run prog W=.ok (aq d) W:=aK
theorem akd(W:World):(sizeOf 3).run prog W=.ok 1 W:=aK
theorem Yu(a b c d x y z u:Int)(W:World):(Op.equalIn 10000 131 (.agg #[aq a,aq b,aq c,aq d]) (.agg #[aq x,aq y,aq z,aq u])).run prog W=.ok (a == x && (b == y && (c == z && d == u))) W:=by
 have ht:prog.underlying 131=some (.array 4 3):=aK;have au:prog.underlying 3=some (.int .i64):=aK;rw[show(10000:Nat)=9998+1+1 from rfl,Op.equalIn];simp only[Sem.run_bind,Mq ht,CG,akd];rw[Std.Legacy.Range.forIn_eq_forIn_range'];simp only[Std.Legacy.Range.size,List.range',Nat.reduceAdd,Nat.reduceSub,Nat.reduceDiv,List.forIn_cons,List.forIn_nil,Ac,kR,Sem.run_bind,Yq,Yr,Ys,Yt,CG,run_equalIn_int W 9998 _ _ _ _ _ au];have aD:∀p q:Int,(p == q)=decide (p=q):=fun p q=>by by_cases h:p=q <;> simp[h]
 simp only[aD];by_cases h0:a=x <;> by_cases h1:b=y <;> by_cases h2:c=z <;> by_cases h3:d=u <;> simp[h0,h1,h2,h3,Yq,Yr,Ys,Yt,run_equalIn_int _ 9998 _ _ _ _ _ au]
theorem ake(id bits c0 az c2 c3:Int)(m:ai)(w:World)(hc:¬(c0=1/\az=0/\c2=0/\(c3=0\/c3=1))) :
  aF 72 #[.agg #[aq id,aq bits,aq c0,aq az,aq c2,aq c3],aA m] w fun e w' =>
   e=.returned (.tuple #[dK 0 0 0 0 0 0 [] [] 0 0 false 0 0,.bool false])/\aw w w':=by
 have Yv:∀W:World,(Op.equalIn 10000 131 (.agg #[aq c0,aq az,aq c2,aq c3]) (.agg #[aq 1,aq 0,aq 0,aq 0])).run prog W=.ok false W:=fun W=>by{
 have aD:∀p q:Int,(p == q)=decide (p=q):=fun p q=>by by_cases h:p=q <;> simp[h]
 rw[Yu,aD,aD,aD,aD];congr 1;by_cases h0:c0=1 <;> by_cases h1:az=0 <;> by_cases h2:c2=0 <;> by_cases h3:c3=0 <;> simp[h0,h1,h2,h3];exact hc ⟨h0,h1,h2,.inl h3⟩};have arv:∀W:World,(Op.equalIn 10000 131 (.agg #[aq c0,aq az,aq c2,aq c3]) (.agg #[aq 1,aq 0,aq 0,aq 1])).run prog W=.ok false W:=fun W=>by{
 have aD:∀p q:Int,(p == q)=decide (p=q):=fun p q=>by by_cases h:p=q <;> simp[h]
 rw[Yu,aD,aD,aD,aD];congr 1;by_cases h0:c0=1 <;> by_cases h1:az=0 <;> by_cases h2:c2=0 <;> by_cases h3:c3=1 <;> simp[h0,h1,h2,h3];exact hc ⟨h0,h1,h2,.inr h3⟩};clear hc;go_enter func72,ntmps72;go_wp2_with fail;refine df (v:=.tuple #[dK 0 0 0 0 0 0 [] [] 0 0 false 0 0,.bool false]) (by simp[results,results72,go_sem,dK];try rfl) rfl ⟨rfl,?_⟩;have aW:∀(W:World) (o:Nat) (v:Value),aw w W->aw w (W.setCell ⟨w.heap.size+1,o,none⟩ v):=fun W o v hW=>hW.setCell (p:=⟨w.heap.size+1,o,none⟩) (by show w.heap.size<=w.heap.size+1;omega) v;repeat' apply aW
 exact((bj.alloc aB _).alloc ak _).alloc aX _
end Go.Proofs.YtkkpahmoljiepaaGreatDoor
