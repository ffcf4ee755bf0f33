import Derived.Test.YtkkpahmoljiepaaGreatDoorJ03
import Derived.Test.YtkkpahmoljiepaaGreatDoorJ04
import Derived.Conc.LoneSelect
import Derived.Deep.RegionHeld
set_option maxRecDepth 1000000
set_option maxHeartbeats 12800000
set_option linter.unusedSimpArgs false
set_option linter.unusedVariables false
namespace Go.Proofs.YtkkpahmoljiepaaGreatDoor
open Go.RowKit Go.Proofs.Tryz
section
attribute [local go_sem] Oper.semAt_some undef
def ct(rs:List ai)(n:ah):List ai×Bool :=
 if jC rs n then(cB rs n,true)
 else match (cg (ik n)).find? (jC rs)with
  | some a=>((cB rs (42 :: 46 :: a)).map (eM n),decide (0<(cB rs (42 :: 46 :: a)).length))
  | none=>([],false)
def HN(w:World)(v:Value)(b base:Nat)(l:List ai):Prop:=∃b' off',HL v b' off' l/\dG w b' off' l/\(b'=b\/base<=b')
theorem HN.rv{w:World}{v:Value}{b base:Nat}{l:List ai}(h:HN w v b base l):jm w v l:=by obtain⟨b',off',hL,hr,_⟩:=h;rcases hL with h|⟨cap,h1,h2⟩;{exact .inl h};{exact .inr ⟨b',off',cap,h1,h2,hr⟩}
theorem HN.own{w:World}{v:Value}{b base base':Nat}{l:List ai}(h:b_ w base' v l)(hb:b<w.heap.size)(hle:base<=base'):HN w v b base l:=by have pV:=h.rv;rcases pV with⟨rfl,rfl⟩|⟨b',off',cap,rfl,hc,hr⟩;{exact⟨b,0,.inl ⟨rfl,rfl⟩,⟨hb,fun j hj=>by simp at hj⟩,.inl rfl⟩};{exact⟨b',off',.inr ⟨cap,rfl,hc⟩,hr,.inr (a_ hle (h.Ot b' rfl).1)⟩}
theorem als{p:ah->Bool}{l:List ah}{i:Nat}{x:ah}(h:l[i]? = some x):(l.drop i).find? p=if p x then some x else(l.drop (i+1)).find? p:=by obtain⟨ax,rfl⟩:=jX.1 h;rw[ko ax,SG];cases p l[i] <;> rfl
theorem TW(zb b off cap:Nat)(o n:ah)(rs:List ai)(w:World)(hz:iD w zb o b off cap rs)(hg:bK w)(hlen:rs.length<=3001)(hn:n.length<=2900)(ho:∀r∈rs,r.owner.length<=3000) :
  aB 244 #[aM zb,ay n] w fun e w'=>(∃v,e=.returned (.tuple #[v,.bool (ct rs n).2])/\HN w' v b w.heap.size (ct rs n).1)/\au w w':=by
 refine(cj (n:=0)).1 ?_;refine N5 func244 rfl aQ ?_;simp only[ntmps244,pc,bP,fy,Nat.reduceAdd,Nat.reduceSub,o_,pL,pN,pM,gb,fU];have dv:=ag hz;have HG:=ag hg;have HO:=ag ho;have hzb:=hz.1;have CW:=hz.2.2.2.2.1;have hg0:=hg.1;have hmx:prog.follows .mixedOrders=true:=aI;have dX:au w ((((w.alloc (.cells #[.pointer (some ⟨zb,0,none⟩)] 110)).alloc (.cells #[.string (aq n)] 9)).alloc (.cells #[.slice none 0 0] 41)).alloc (.cells #[.bool false] 4)) :=
  (((aO.alloc aA _).alloc ar _).alloc aP _).alloc aP _
 clear hz hg ho;have HP:=ag (aaH zb b off cap o n rs _ (dv.below dX) hlen ae (af HO));gi_wp2_with fail;refine⟨aQ,rfl,?_⟩;refine(cj.2 (af HP)).mono ?_;rintro e W1 ⟨rfl,hb1⟩;have e0:aR W1 w.heap.size (aM zb) 110:=((((aR.l7 _ _ _).alloc _).alloc _).alloc _).below hb1 eI;have e1:aR W1 (w.heap.size+1) (ay n) 9:=by
  have:=(((aR.l7 (w.alloc (.cells #[.pointer (some ⟨zb,0,none⟩)] 110)) (ay n) 9).alloc (.cells #[.slice none 0 0] 41)).alloc (.cells #[.bool false] 4)).below hb1 eI
  rwa [dD]at this
 have e2:aR W1 (w.heap.size+1+1) (aH) 41:=by
  have:=((aR.l7 ((w.alloc (.cells #[.pointer (some ⟨zb,0,none⟩)] 110)).alloc (.cells #[.string (aq n)] 9)) (aH) 41).alloc (.cells #[.bool false] 4)).below hb1 eI
  rwa [dD,dD]at this
 have e3:aR W1 (w.heap.size+1+1+1) (.bool false) 4:=by
  have:=(aR.l7 (((w.alloc (.cells #[.pointer (some ⟨zb,0,none⟩)] 110)).alloc (.cells #[.string (aq n)] 9)).alloc (.cells #[.slice none 0 0] 41)) (.bool false) 4).below hb1 eI
  rwa [dD,dD,dD]at this
 have hB1:au w W1:=dX.trans (hb1.mono eI);have hs1:w.heap.size+4<=W1.heap.size:=by have:=e3.lt;omega
 clear hb1 dX HP;have c0:=e0.cell;have aC:=e1.cell;cases qO:jC rs n
 ·have gM:Hid (ct rs n=match (cg (ik n)).find? (jC rs)with
    | some a=>((cB rs (42 :: 46 :: a)).map (eM n),decide (0<(cB rs (42 :: 46 :: a)).length))
    | none=>([],false)):=by unfold ct;rw[qO];rfl
  have Ky:=ag (alj n W1 (HG.below hB1) ae);gi_wp2_with fail;refine⟨aQ,rfl,?_⟩;refine(cj.2 (af Ky)).mono ?_;rintro e W2 ⟨jz,rfl,ky,ay9,hb2,aaY⟩;have alu:=ag aaY;have i0:=e0.below hb2 e0.lt;have i1:=e1.below hb2 e1.lt;have i2:=e2.below hb2 e2.lt;have i3:=e3.below hb2 e3.lt;have hB2:=hB1.trans (hb2.mono hB1.size);have hs2:w.heap.size+4<=W2.heap.size:=a_ hs1 hb2.size;clear e0 e1 e2 e3 c0 aC aaY;gi_wp2_with fail;have hgrow:∀r,au W2 ((W2.alloc (.deferred (some []))).alloc (.loop r)):=fun r=>(aO.alloc aA _).alloc ar _;refine alf (xs:=cg (ik n)) (encs:=fun e:ah=>#[ay e]) (St:=fun A B=>au A B) (Kp:=fun A B=>A.heap.size<=B.heap.size/\B.heap[0]? = A.heap[0]?) (Kx:=fun _ _=>True)
   (gf:=241) (lb:=#[aM jz]) rfl (enters_of func241 aI rfl) (fun _=>rfl) ?seq
   [0] aP (fun A B h=>h) (fun A B h h'=>⟨h'.1,h _ ar⟩) (fun _ _ _=>aQ)
   (fun i W=>((cg (ik n)).drop i).find? (jC rs)=(cg (ik n)).find? (jC rs)/\au w W/\aR W w.heap.size (aM zb) 110/\aR W (w.heap.size+1) (ay n) 9/\aR W (w.heap.size+1+1) (aH) 41/\aR W (w.heap.size+1+1+1) (.bool false) 4)
   (fun c W=>c=.ret/\au w W/\∃v,b_ W (W2.heap.size+2) v (ct rs n).1/\aR W (w.heap.size+1+1) v 41/\aR W (w.heap.size+1+1+1) (.bool (ct rs n).2) 4)
   (fun i A B h hA hk=>⟨h.1,h.2.1.trans (hk.below ae ae),h.2.2.1.below (hk.below (n:=W2.heap.size) ae hA) ae,h.2.2.2.1.below (hk.below (n:=W2.heap.size) ae hA) ae,h.2.2.2.2.1.below (hk.below (n:=W2.heap.size) ae hA) ae,h.2.2.2.2.2.below (hk.below (n:=W2.heap.size) ae hA) ae⟩)
   (fun c A B h hA hk=>⟨h.1,h.2.1.trans (hk.below ae ae),by
    obtain⟨v,h1,h2,h3⟩:=h.2.2;exact⟨v,h1.keeps hk ae,h2.below (hk.below (n:=W2.heap.size) ae ae) ae,h3.below (hk.below (n:=W2.heap.size) ae ae) ae⟩⟩)
   ⟨rfl,hB2,i0,i1,i2,i3⟩
   ?round ?done ?stop
  case seq =>
   intro r;have hg:=hgrow r;exact Oo _ _ _ ((hg.cell (p:=⟨jz,0,none⟩) (by show jz<W2.heap.size;omega)).trans (af alu)) ((HG.below hB2).below hg) (by
    by_cases h:n = []
    ·subst h;decide
    ·have:=CS n h;omega)
  case round =>
   intro l' i x V W hx hI hsz;gi_wp2_with fail;refine⟨aQ,?_⟩;obtain⟨hf,hB,j0,j1,j2,j3⟩:=hI;have uK:(ik n).length<=n.length:=by
    by_cases h:n = []
    ·subst h;decide
    ·have:=CS n h;omega
   have g_:=Ol (ux hx);have zu:=dv.below hB;have aaM:=ag zu;have cn:=j0.cell;have cm:=j1.cell;have hst:=als (p:=jC rs) hx;rw[hf]at hst;have HS:=ag hst;have J0:=ag j0;have J1:=ag j1;have J2:=ag j2;have Kz:=ag j3;have alv:=j3.lt;have HP:=ag (aaH zb b off cap o x rs W zu hlen ae (af HO));clear hf hst zu j0 j1 j2 j3 hx i0 i1 i2 i3;cases ht:jC rs x
   ·have aW:Hid (((cg (ik n)).drop (i+1)).find? (jC rs)=(cg (ik n)).find? (jC rs)):=by rw[Hid,af HS,ht];rfl
    gi_wp2_with fail;refine⟨aQ,rfl,?_⟩;refine(CallsIn.inRound l' (cj.2 (af HP))).mono ?_;rintro e W4 ⟨rfl,hb4⟩;have bf:Hid (cz W2.heap.size W W4/\(∀k∈[0],W4.heap[k]? = W.heap[k]?)/\(((cg (ik n)).drop (i+1)).find? (jC rs)=(cg (ik n)).find? (jC rs)/\au w W4/\aR W4 w.heap.size (aM zb) 110/\aR W4 (w.heap.size+1) (ay n) 9/\aR W4 (w.heap.size+1+1) (aH) 41/\aR W4 (w.heap.size+1+1+1) (.bool false) 4)) :=
     ⟨cz.xR hb4,fun k hk=>hb4.block k (by simp at hk;omega),aW,hB.trans (hb4.mono hB.size),J0.below hb4 ae,J1.below hb4 ae,J2.below hb4 ae,Kz.below hb4 ae⟩
    gi_wp2_with fail;exact bf
   ·have dA:Hid (ct rs n=((cB rs (42 :: 46 :: x)).map (eM n),decide (0<(cB rs (42 :: 46 :: x)).length))):=by
     rw[Hid,af gM,af HS,ht];rfl
    gi_wp2_with fail;refine⟨aQ,rfl,?_⟩;refine(CallsIn.inRound l' (cj.2 (af HP))).mono ?_;rintro e W3 ⟨rfl,hb3⟩;have ig:=hB.trans (hb3.mono hB.size);have l0:=J0.below hb3 ae;have l1:=J1.below hb3 ae;have l2:=J2.below hb3 ae;have l3:=Kz.below hb3 ae;have m0:=l0.cell;have m1:=l1.cell;have hs3:=hb3.size;have alw:(aq x).size<=1000000:=by rw[bJ];omega
    have KA:Hid (∀W',aB 273 #[ay x] W' fun e w'=>e=.returned (ay (42 :: 46 :: x))/\w'=W'):=fun W'=>akq (aq x) W' alw;have px:=ag (aaG zb b off cap o (42 :: 46 :: x) rs W3.drew ((dv.below ig).below aO.drew) hlen)
    -- behind the records of the star
    have lM:Hid (∀(W4:World) (v4:Value),nh b off rs v4 (cB rs (42 :: 46 :: x))->Below W3.drew.heap.size W3.drew W4 ->
      W4.cell? (ak (w.heap.size+1) 0)=some (ay n) /\
      Hid (aB 272 #[ay n,v4] W4 fun e w'=>∃v',e=.returned v'/\b_ w' W4.heap.size v' ((cB rs (42 :: 46 :: x)).map (eM n))/\au W4 w') /\
      (∀(W5:World) (v5:Value),b_ W5 W4.heap.size v5 ((cB rs (42 :: 46 :: x)).map (eM n))->au W4 W5 ->
       Hid ((W5.cell? (ak (w.heap.size+1+1) 0)=some (aH)/\W5.frozen? (ak (w.heap.size+1+1) 0)=false/\W5.cell? (ak (w.heap.size+1+1+1) 0)=some (.bool false)/\W5.frozen? (ak (w.heap.size+1+1+1) 0)=false) /\
        (TH W2.heap.size [0] (fun W=>((cg (ik n)).drop (i+1)).find? (jC rs)=(cg (ik n)).find? (jC rs)/\au w W/\aR W w.heap.size (aM zb) 110/\aR W (w.heap.size+1) (ay n) 9/\aR W (w.heap.size+1+1) (aH) 41/\aR W (w.heap.size+1+1+1) (.bool false) 4)
         (fun c W=>c=.ret/\au w W/\∃v,b_ W (W2.heap.size+2) v (ct rs n).1/\aR W (w.heap.size+1+1) v 41/\aR W (w.heap.size+1+1+1) (.bool (ct rs n).2) 4) W .ret { tmps:=#[],defers:=[] }
         ((W5.setCell ⟨w.heap.size+1+1,0,none⟩ v5).setCell ⟨w.heap.size+1+1+1,0,none⟩ (.bool (decide (0<(cB rs (42 :: 46 :: x)).length)))))))):=by
     intro W4 v4 hv4 hb4;have xV:au W3 W4:=(aO.drew).trans hb4;have gH:=ig.trans (xV.mono ig.size);have gj:=xV.size;refine⟨(l1.below xV l1.lt).cell,alm n v4 _ W4 (hv4.rv (dv.below gH).2.2.2.2) (a_ hv4.len hlen),fun W5 v5 iL hb5=>?_⟩;have ni:=gH.trans (hb5.mono gH.size);have k2:=(l2.below xV l2.lt).below hb5 (by have:=l2.lt;omega);have k3:=(l3.below xV l3.lt).below hb5 (by have:=l3.lt;omega);refine⟨⟨k2.cell,k2.frozen,k3.cell,k3.frozen⟩,?_⟩;have hs5:=hb5.size;have alx:=xV.trans (hb5.mono xV.size);refine⟨?_,rfl,(ni.setCell (by show w.heap.size<=w.heap.size+1+1;omega) _).setCell (by show w.heap.size<=w.heap.size+1+1+1;omega) _,v5,?_,?_,?_⟩
     ·exact((cz.xR (hb3.trans (alx.mono hs3))).trans (cz.setCell W5 _ _ ae)).trans (cz.setCell _ _ _ ae)
     ·rw[af dA];exact((iL.aaO (k:=w.heap.size+1+1) ae _).aaO (k:=w.heap.size+1+1+1) ae _).base ae
     ·exact(cZ _ _ _ _ (by show w.heap.size+1+1≠w.heap.size+1+1+1;omega)).trans (k2.set _)
     ·rw[af dA];exact(show aR (W5.setCell ⟨w.heap.size+1+1,0,none⟩ v5) (w.heap.size+1+1+1) (.bool false) 4 from(cZ _ _ _ _ (by show w.heap.size+1+1+1≠w.heap.size+1+1;omega)).trans k3).set _
    clear HP J0 J1 J2 Kz l0 l1 l2 l3 HS gM dA;gi_wp2_with fail;refine E5 hmx (AZ aI) ?_;refine jw 2 ?_;refine wm (rs:=[0,1,3]) aI ar ?_;refine lf rfl (fun K hK=>?_) (lf rfl (fun K hK=>?_) (lf rfl (fun K hK=>?_) wj))
    ·go_simp;refine hK _ _ ?_;clear hK K;refine wm (rs:=[1,3]) aI ar ?_;refine lf rfl (fun K hK=>?_) (lf rfl (fun K hK=>?_) wj)
     ·go_simp;refine hK _ _ ?_;clear hK K;refine eD 3 fun K hK=>?_;go_simp;refine⟨aQ,rfl,?_⟩;refine(cj.2 (KA _)).mono ?_;rintro e D3 ⟨rfl,A4⟩;subst A4;refine hK _ _ ?_;clear hK K;refine eD 4 fun K hK=>?_;go_simp;refine⟨aQ,rfl,?_⟩;refine(cj.2 (af px)).mono ?_;rintro e W4 ⟨⟨v4,rfl,hv4⟩,hb4⟩;obtain⟨d3,nW,mg⟩:=af lM W4 v4 hv4 hb4;clear hv4;refine hK _ _ ?_;clear hK K;refine eD 5 fun K hK=>?_;go_simp;refine⟨aQ,rfl,?_⟩;refine(cj.2 (af nW)).mono ?_;rintro e W5 ⟨v5,rfl,iL,hb5⟩;obtain⟨a5,gh,rfl⟩:=iL.slice;have jr:=mg W5 _ iL hb5;rw[bY]at jr;obtain⟨k1,k2,k3,k4⟩:=jr.1;clear iL mg lM;refine hK _ _ ?_;clear hK K;refine eD 6 fun K hK=>?_;go_simp;refine hK _ _ ?_;clear hK K;refine nR aI ?_ _;gi_wp2_with fail;exact jr.2
     ·go_simp;refine⟨aQ,rfl,?_⟩;refine(cj.2 (KA _)).mono ?_;rintro e D3 ⟨rfl,A4⟩;subst A4;refine hK _ _ ?_;clear hK K;refine eD 1 fun K hK=>?_;go_simp;refine hK _ _ ?_;clear hK K;refine eD 4 fun K hK=>?_;go_simp;refine⟨aQ,rfl,?_⟩;refine(cj.2 (af px)).mono ?_;rintro e W4 ⟨⟨v4,rfl,hv4⟩,hb4⟩;obtain⟨d3,nW,mg⟩:=af lM W4 v4 hv4 hb4;clear hv4;refine hK _ _ ?_;clear hK K;refine eD 5 fun K hK=>?_;go_simp;refine⟨aQ,rfl,?_⟩;refine(cj.2 (af nW)).mono ?_;rintro e W5 ⟨v5,rfl,iL,hb5⟩;obtain⟨a5,gh,rfl⟩:=iL.slice;have jr:=mg W5 _ iL hb5;rw[bY]at jr;obtain⟨k1,k2,k3,k4⟩:=jr.1;clear iL mg lM;refine hK _ _ ?_;clear hK K;refine eD 6 fun K hK=>?_;go_simp;refine hK _ _ ?_;clear hK K;refine nR aI ?_ _;gi_wp2_with fail;exact jr.2
    ·go_simp;refine hK _ _ ?_;clear hK K;refine wm (rs:=[0,3]) aI ar ?_;refine lf rfl (fun K hK=>?_) (lf rfl (fun K hK=>?_) wj)
     ·go_simp;refine hK _ _ ?_;clear hK K;refine eD 3 fun K hK=>?_;go_simp;refine⟨aQ,rfl,?_⟩;refine(cj.2 (KA _)).mono ?_;rintro e D3 ⟨rfl,A4⟩;subst A4;refine hK _ _ ?_;clear hK K;refine eD 4 fun K hK=>?_;go_simp;refine⟨aQ,rfl,?_⟩;refine(cj.2 (af px)).mono ?_;rintro e W4 ⟨⟨v4,rfl,hv4⟩,hb4⟩;obtain⟨d3,nW,mg⟩:=af lM W4 v4 hv4 hb4;clear hv4;refine hK _ _ ?_;clear hK K;refine eD 5 fun K hK=>?_;go_simp;refine⟨aQ,rfl,?_⟩;refine(cj.2 (af nW)).mono ?_;rintro e W5 ⟨v5,rfl,iL,hb5⟩;obtain⟨a5,gh,rfl⟩:=iL.slice;have jr:=mg W5 _ iL hb5;rw[bY]at jr;obtain⟨k1,k2,k3,k4⟩:=jr.1;clear iL mg lM;refine hK _ _ ?_;clear hK K;refine eD 6 fun K hK=>?_;go_simp;refine hK _ _ ?_;clear hK K;refine nR aI ?_ _;gi_wp2_with fail;exact jr.2
     ·go_simp;refine⟨aQ,rfl,?_⟩;refine(cj.2 (KA _)).mono ?_;rintro e D3 ⟨rfl,A4⟩;subst A4;refine hK _ _ ?_;clear hK K;refine wm (rs:=[0,4]) aI ar ?_;refine lf rfl (fun K hK=>?_) (lf rfl (fun K hK=>?_) wj)
      ·go_simp;refine hK _ _ ?_;clear hK K;refine eD 4 fun K hK=>?_;go_simp;refine⟨aQ,rfl,?_⟩;refine(cj.2 (af px)).mono ?_;rintro e W4 ⟨⟨v4,rfl,hv4⟩,hb4⟩;obtain⟨d3,nW,mg⟩:=af lM W4 v4 hv4 hb4;clear hv4;refine hK _ _ ?_;clear hK K;refine eD 5 fun K hK=>?_;go_simp;refine⟨aQ,rfl,?_⟩;refine(cj.2 (af nW)).mono ?_;rintro e W5 ⟨v5,rfl,iL,hb5⟩;obtain⟨a5,gh,rfl⟩:=iL.slice;have jr:=mg W5 _ iL hb5;rw[bY]at jr;obtain⟨k1,k2,k3,k4⟩:=jr.1;clear iL mg lM;refine hK _ _ ?_;clear hK K;refine eD 6 fun K hK=>?_;go_simp;refine hK _ _ ?_;clear hK K;refine nR aI ?_ _;gi_wp2_with fail;exact jr.2
      ·go_simp;refine⟨aQ,rfl,?_⟩;refine(cj.2 (af px)).mono ?_;rintro e W4 ⟨⟨v4,rfl,hv4⟩,hb4⟩;obtain⟨d3,nW,mg⟩:=af lM W4 v4 hv4 hb4;clear hv4;refine hK _ _ ?_;clear hK K;refine eD 0 fun K hK=>?_;go_simp;refine hK _ _ ?_;clear hK K;refine eD 5 fun K hK=>?_;go_simp;refine⟨aQ,rfl,?_⟩;refine(cj.2 (af nW)).mono ?_;rintro e W5 ⟨v5,rfl,iL,hb5⟩;obtain⟨a5,gh,rfl⟩:=iL.slice;have jr:=mg W5 _ iL hb5;rw[bY]at jr;obtain⟨k1,k2,k3,k4⟩:=jr.1;clear iL mg lM;refine hK _ _ ?_;clear hK K;refine eD 6 fun K hK=>?_;go_simp;refine hK _ _ ?_;clear hK K;refine nR aI ?_ _;gi_wp2_with fail;exact jr.2
    ·go_simp;refine⟨aQ,rfl,?_⟩;refine(cj.2 (KA _)).mono ?_;rintro e D3 ⟨rfl,A4⟩;subst A4;refine hK _ _ ?_;clear hK K;refine wm (rs:=[0,1]) aI ar ?_;refine lf rfl (fun K hK=>?_) (lf rfl (fun K hK=>?_) wj)
     ·go_simp;refine hK _ _ ?_;clear hK K;refine eD 1 fun K hK=>?_;go_simp;refine hK _ _ ?_;clear hK K;refine eD 4 fun K hK=>?_;go_simp;refine⟨aQ,rfl,?_⟩;refine(cj.2 (af px)).mono ?_;rintro e W4 ⟨⟨v4,rfl,hv4⟩,hb4⟩;obtain⟨d3,nW,mg⟩:=af lM W4 v4 hv4 hb4;clear hv4;refine hK _ _ ?_;clear hK K;refine eD 5 fun K hK=>?_;go_simp;refine⟨aQ,rfl,?_⟩;refine(cj.2 (af nW)).mono ?_;rintro e W5 ⟨v5,rfl,iL,hb5⟩;obtain⟨a5,gh,rfl⟩:=iL.slice;have jr:=mg W5 _ iL hb5;rw[bY]at jr;obtain⟨k1,k2,k3,k4⟩:=jr.1;clear iL mg lM;refine hK _ _ ?_;clear hK K;refine eD 6 fun K hK=>?_;go_simp;refine hK _ _ ?_;clear hK K;refine nR aI ?_ _;gi_wp2_with fail;exact jr.2
     ·go_simp;refine hK _ _ ?_;clear hK K;refine wm (rs:=[0,4]) aI ar ?_;refine lf rfl (fun K hK=>?_) (lf rfl (fun K hK=>?_) wj)
      ·go_simp;refine hK _ _ ?_;clear hK K;refine eD 4 fun K hK=>?_;go_simp;refine⟨aQ,rfl,?_⟩;refine(cj.2 (af px)).mono ?_;rintro e W4 ⟨⟨v4,rfl,hv4⟩,hb4⟩;obtain⟨d3,nW,mg⟩:=af lM W4 v4 hv4 hb4;clear hv4;refine hK _ _ ?_;clear hK K;refine eD 5 fun K hK=>?_;go_simp;refine⟨aQ,rfl,?_⟩;refine(cj.2 (af nW)).mono ?_;rintro e W5 ⟨v5,rfl,iL,hb5⟩;obtain⟨a5,gh,rfl⟩:=iL.slice;have jr:=mg W5 _ iL hb5;rw[bY]at jr;obtain⟨k1,k2,k3,k4⟩:=jr.1;clear iL mg lM;refine hK _ _ ?_;clear hK K;refine eD 6 fun K hK=>?_;go_simp;refine hK _ _ ?_;clear hK K;refine nR aI ?_ _;gi_wp2_with fail;exact jr.2
      ·go_simp;refine⟨aQ,rfl,?_⟩;refine(cj.2 (af px)).mono ?_;rintro e W4 ⟨⟨v4,rfl,hv4⟩,hb4⟩;obtain⟨d3,nW,mg⟩:=af lM W4 v4 hv4 hb4;clear hv4;refine hK _ _ ?_;clear hK K;refine eD 0 fun K hK=>?_;go_simp;refine hK _ _ ?_;clear hK K;refine eD 5 fun K hK=>?_;go_simp;refine⟨aQ,rfl,?_⟩;refine(cj.2 (af nW)).mono ?_;rintro e W5 ⟨v5,rfl,iL,hb5⟩;obtain⟨a5,gh,rfl⟩:=iL.slice;have jr:=mg W5 _ iL hb5;rw[bY]at jr;obtain⟨k1,k2,k3,k4⟩:=jr.1;clear iL mg lM;refine hK _ _ ?_;clear hK K;refine eD 6 fun K hK=>?_;go_simp;refine hK _ _ ?_;clear hK K;refine nR aI ?_ _;gi_wp2_with fail;exact jr.2
  case done =>
   intro W hI cT hsz;obtain⟨hf,hB,j0,j1,j2,j3⟩:=hI;have dA:Hid (ct rs n=([],false)):=by
    rw[Hid,af gM,<- hf,sX aA];rfl
   have k2:=j2.cell;have f2:=j2.frozen;have k3:=j3.cell;have f3:=j3.frozen;have J2:=ag j2;have Kz:=ag j3;clear hf j0 j1 j2 j3;gi_wp2_with fail;have uJ:=(cZ (W.setCell ⟨w.heap.size+1+1,0,none⟩ (.slice none 0 0)) (ak (w.heap.size+1+1+1) 0) (.bool false) W2.heap.size (by show W2.heap.size≠w.heap.size+1+1+1;omega)).trans ((cZ W (ak (w.heap.size+1+1) 0) (aH) W2.heap.size (by show W2.heap.size≠w.heap.size+1+1;omega)).trans cT);refine⟨ar,.inl ⟨_,_,rfl,EX uJ,?_⟩⟩;have b2:aR ((W.setCell ⟨w.heap.size+1+1,0,none⟩ (.slice none 0 0)).setCell ⟨w.heap.size+1+1+1,0,none⟩ (.bool false)) (w.heap.size+1+1) (aH) 41:=(cZ _ _ _ _ (by show w.heap.size+1+1≠w.heap.size+1+1+1;omega)).trans (J2.set _);have b3:aR ((W.setCell ⟨w.heap.size+1+1,0,none⟩ (.slice none 0 0)).setCell ⟨w.heap.size+1+1+1,0,none⟩ (.bool false)) (w.heap.size+1+1+1) (.bool false) 4 :=
    (show aR (W.setCell ⟨w.heap.size+1+1,0,none⟩ (.slice none 0 0)) (w.heap.size+1+1+1) (.bool false) 4 from(cZ _ _ _ _ (by show w.heap.size+1+1+1≠w.heap.size+1+1;omega)).trans (af Kz)).set _
   have KB:=(b2.put (d:=W2.heap.size) (o:=.deferred none) ae).cell;have cr3:=(b3.put (d:=W2.heap.size) (o:=.deferred none) ae).cell;have jA:=((hB.setCell (p:=⟨w.heap.size+1+1,0,none⟩) (by show w.heap.size<=w.heap.size+1+1;omega) (aH)).setCell (p:=⟨w.heap.size+1+1+1,0,none⟩) (by show w.heap.size<=w.heap.size+1+1+1;omega) (.bool false)).trans (CJ (w:=W2) (show w.heap.size<=W2.heap.size by omega) _ _ _ (.deferred none) aA uJ rfl rfl);refine⟨.tuple #[aH,.bool false],by simp[results,results244,go_sem,KB,cr3],⟨_,by rw[af dA],?_⟩,jA⟩;rw[af dA];exact⟨b,off,.inl ⟨rfl,rfl⟩,⟨dP CW jA.size,fun j hj=>by simp at hj⟩,.inl rfl⟩
  case stop =>
   intro c W hI cT hsz;obtain⟨rfl,hB,v,hown,k2,k3⟩:=hI;have HOW:=ag hown;obtain⟨va,vc,rfl⟩:=hown.slice;have K2:=ag k2;have K3:=ag k3;clear hown k2 k3;gi_wp2_with fail;refine⟨ar,.inl ⟨_,_,rfl,EX cT,?_⟩⟩;have KB:=(K2.put (d:=W2.heap.size) (o:=.deferred none) ae).cell;have cr3:=(K3.put (d:=W2.heap.size) (o:=.deferred none) ae).cell;have jA:=hB.trans (CJ (w:=W2) (show w.heap.size<=W2.heap.size by omega) W _ _ (.deferred none) aA cT rfl rfl);refine⟨.tuple #[_,.bool (ct rs n).2],by simp[results,results244,go_sem,KB,cr3];rfl,⟨_,rfl,?_⟩,jA⟩;exact HN.own (b_.keeps (af HOW) (dF.put (d:=W2.heap.size) W W2.heap.size (.deferred none)) ae) (dP CW jA.size) ae
 ·have dA:Hid (ct rs n=(cB rs n,true)):=by unfold ct;rw[Hid,qO];rfl
  have px:=ag (aaG zb b off cap o n rs W1 (dv.below hB1) hlen);gi_wp2_with fail;refine⟨aQ,rfl,?_⟩;refine(cj.2 (af px)).mono ?_;rintro e W4 ⟨⟨v4,rfl,hv4⟩,hb4⟩;obtain⟨a4,aV,rfl⟩:=hv4.slice;have zy:=ag hv4;have k2:=e2.below hb4 e2.lt;have k3:=e3.below hb4 e3.lt;have q2:=k2.cell;have f2:=k2.frozen;have q3:=k3.cell;have f3:=k3.frozen;have K2:=ag k2;have K3:=ag k3;clear hv4 k2 k3 e0 e1 e2 e3;gi_wp2_with fail;have b2:aR ((W4.setCell ⟨w.heap.size+1+1,0,none⟩ (.slice a4 (cB rs n).length aV)).setCell ⟨w.heap.size+1+1+1,0,none⟩ (.bool true)) (w.heap.size+1+1) (.slice a4 (cB rs n).length aV) 41:=(cZ _ _ _ _ (by show w.heap.size+1+1≠w.heap.size+1+1+1;omega)).trans (K2.set _);have b3:aR ((W4.setCell ⟨w.heap.size+1+1,0,none⟩ (.slice a4 (cB rs n).length aV)).setCell ⟨w.heap.size+1+1+1,0,none⟩ (.bool true)) (w.heap.size+1+1+1) (.bool true) 4 :=
   (show aR (W4.setCell ⟨w.heap.size+1+1,0,none⟩ (.slice a4 (cB rs n).length aV)) (w.heap.size+1+1+1) (.bool false) 4 from(cZ _ _ _ _ (by show w.heap.size+1+1+1≠w.heap.size+1+1;omega)).trans (af K3)).set _
  have KB:=b2.cell;have cr3:=b3.cell;have jA:=(((hB1.trans (hb4.mono hB1.size)).setCell (p:=⟨w.heap.size+1+1,0,none⟩) (by show w.heap.size<=w.heap.size+1+1;omega) (.slice a4 (cB rs n).length aV)).setCell (p:=⟨w.heap.size+1+1+1,0,none⟩) (by show w.heap.size<=w.heap.size+1+1+1;omega) (.bool true))
  refine⟨.tuple #[_,.bool true],by simp[results,results244,go_sem,KB,cr3];rfl,⟨_,by rw[af dA],?_⟩,jA⟩;rw[af dA];obtain⟨o',h1,h2,_⟩:=zy.at (dv.below jA).2.2.2.2;exact⟨b,o',h2,h1,.inl rfl⟩
end
section
variable {P:Program} {ops:Array Oper} {C:World->Prop} {l:Nat}
theorem aly{o:Oper}{a:Act}{K:Act->Prop}{K':Act->World->Prop}{Q':Exit->Act->World->Prop}{w:World}(hw:C w)(h:∀a w',C w'->K a->K' a w')(hh:o.quiet P a C K):o.wpIn Fence.wide 0 P a w K' Q':=by
 obtain⟨v,hv,hk⟩:=hh;have h3:=hv w hw;unfold Oper.quietAt at h3;unfold Oper.wpIn;refine⟨fun _ _=>aQ,?_⟩;rw[show Fence.wide.round=none from rfl,Oper.semAt_none];generalize (execOp a.eval o).run P w=r at *;cases r with
 | ok x w' =>
  cases x <;> simp only[Oper.quietUpon]at h3
  ·obtain⟨rfl,rfl⟩:=h3;exact h _ _ hw hk
  all_goals first
   | (obtain⟨rfl,rfl⟩:=h3;exact h _ _ hw hk)
   | (obtain⟨rfl,hc⟩:=h3
      refine⟨fun h'=>by simp[Fence.wide]at h',callsIn_wide.2 (hc.mono fun e w'' he=>?_)⟩;obtain⟨rfl,hw''⟩:=he;exact h _ _ hw'' hk)
   | exact h3.elim
 | halt x w'=>simp only[Oper.quietUpon]at h3
theorem alz{i:Nat}{a:Act}{K:Act->Prop}{K':Act->World->Prop}{Q':Exit->Act->World->Prop}{w:World}(hC:C w)(h:∀a w',C w'->K a->K' a w')(hh:qOp P ops C i K a):wpOpIn Fence.wide 0 P ops Q' i K' a w:=by unfold qOp at hh;unfold wpOpIn;split;{rename_i ho;simp only[ho]at hh;exact h _ _ hC hh};{rename_i o ho;simp only[ho]at hh;split;{rename_i hw;simp only[hw,gZ]at hh;exact aly hC h hh};{rename_i hw;simp only[hw]at hh;exact⟨fun _ _=>aQ,h _ _ hC hh⟩}}
theorem aaZ{md:Region.Mode}{Q:Act->Prop}{Q':Exit->Act->World->Prop}(hQ:∀a w,C w->Q a->Q' .normal a w):∀(fuel:Nat) (listed:Array Bool) (a:Act) (w:World),C w ->
  wpAnyQ P md ops C Q fuel listed a->wpAnyIn Fence.wide 0 P md ops Q' fuel listed a w
 | 0,_,_,_,hw,h=>⟨h.1,hQ _ _ hw h.2⟩
 | fuel+1,_,_,_,hw,h=>⟨fun h0=>hQ _ _ hw (h.1 h0),fun i ax=>alz hw (fun a' w' hw'=>aaZ hQ fuel _ a' w' hw') (h.2 i ax)⟩
theorem aa0{id:Nat}{Q:Exit->Act->World->Prop}{a:Act}{w:World}{ls:List Oper}(hm:P.follows .mixedOrders=true)(gz:∀(i:Nat) (o:Oper),ls.toArray[i]? = some o->∀c,o.op≠.defer c)(hB:Region.lexB .any ls.toArray=true)
  (h:wpQuiet P ls.toArray (fun w'=>∃n,w'=w.drewN n) (fun a'=>∀w',(∃n,w'=w.drewN n)->Q .normal a' w') ls a):(Code.region id ls.toArray true).wpIn (Fence.wide.inRound l) 0 P Q a w:=by simp only[Region.lexB,cY]at hB;refine E5 hm gz (aaZ (C:=fun w'=>∃n,w'=w.drewN n) (Q:=fun a'=>∀w',(∃n,w'=w.drewN n)->Q .normal a' w') (fun _ w' hw' h=>h w' hw') _ _ _ _ ⟨1,rfl⟩ ?_);have:=wpAnyQ_lex (C:=fun w'=>∃n,w'=w.drewN n) (md:=.any) hB.1 ls 0 (Array.replicate ls.toArray.size false) a ar (by simpa using hB.2) h;simpa using this
end
section
attribute [local go_sem] Oper.semAt_some
def dQ(w:World)(sb zb:Nat)(k rc:Int)(bw:Bool)(va vb vc:Value)(cb:Nat):Prop :=
 w.heap[sb]? = some (.cells #[.pointer (some ⟨zb,0,none⟩),.int .i64 k,.int .i64 rc,.bool bw,va,vb,vc,.pointer (some ⟨cb,0,none⟩)] 210)
structure bn(p:Nat->Prop)(A B:World):Prop where
 os:B.os=A.os
 tape:B.tape=A.tape
 output:B.output=A.output
 size:A.heap.size<=B.heap.size
 block:∀k,k<A.heap.size->p k->B.heap[k]? = A.heap[k]?
theorem bn.refl(p:Nat->Prop)(A:World):bn p A A:=⟨rfl,rfl,rfl,bH _,fun _ _ _=>rfl⟩
theorem bn.trans{p:Nat->Prop}{A B C:World}(h:bn p A B)(k:bn p B C):bn p A C :=
 ⟨k.os.trans h.os,k.tape.trans h.tape,k.output.trans h.output,a_ h.size k.size,fun i ax hp=>(k.block i (dP ax h.size) hp).trans (h.block i ax hp)⟩
theorem bn.mono{p q:Nat->Prop}{A B:World}(h:bn p A B)(hq:∀k,k<A.heap.size->q k->p k):bn q A B:=⟨h.os,h.tape,h.output,h.size,fun k hk hp=>h.block k hk (hq k hk hp)⟩
theorem bn.uM{p:Nat->Prop}{A B:World}(h:au A B):bn p A B:=⟨h.os,h.tape,h.output,h.size,fun k hk _=>h.block k hk⟩
theorem bn.OA{p:Nat->Prop}{A B:World}{row:Option Nat}(h:A.grownBy B row)(hp:∀k,p k->some k≠row):bn p A B:=⟨h.os,h.tape,h.output,h.size,fun k hk gF=>h.block k hk (hp k gF)⟩
theorem bn.jD{p:Nat->Prop}{A:World}{a:Addr}(u:Value)(hp:∀k,p k->k≠a.block):bn p A (A.setCell a u):=⟨rfl,rfl,rfl,by simp[World.setCell],fun k _ hk=>cZ _ _ _ _ (hp k hk)⟩
theorem bn.below{p:Nat->Prop}{A B:World}{n:Nat}(h:bn p A B)(hp:∀k,k<n->p k)(hn:n<=A.heap.size):Below n A B:=⟨h.os,h.tape,h.output,h.size,fun k hk=>h.block k ae (hp k hk)⟩
theorem bn.wF{d:Nat}{A B:World}(h:dF d A B):bn (fun k=>k≠d) A B:=⟨h.os,h.tape,h.output,h.size,h.block⟩
section
variable {w:World} {sb zb cb:Nat} {k rc:Int} {bw:Bool} {va vb vc:Value}
theorem dQ.lt(h:dQ w sb zb k rc bw va vb vc cb):sb<w.heap.size:=(bV.1 h).1
theorem dQ.cells(h:dQ w sb zb k rc bw va vb vc cb):w.cell? (ak sb 0)=some (aM zb)/\w.cell? (ak sb 1)=some (aj k)/\w.cell? (ak sb 2)=some (aj rc)/\w.cell? (ak sb 3)=some (.bool bw)/\w.cell? (ak sb 4)=some va/\w.cell? (ak sb 5)=some vb/\w.cell? (ak sb 6)=some vc/\w.cell? (ak sb 7)=some (aM cb):=by unfold dQ at h;refine⟨?_,?_,?_,?_,?_,?_,?_,?_⟩ <;> simp[World.cell?,h]
theorem dQ.frozen(h:dQ w sb zb k rc bw va vb vc cb)(i:Nat):w.frozen? (ak sb i)=false:=by unfold dQ at h;simp[World.frozen?,h]
theorem dQ.kept{w':World}(h:dQ w sb zb k rc bw va vb vc cb)(hb:w'.heap[sb]? = w.heap[sb]?):dQ w' sb zb k rc bw va vb vc cb:=hb.trans h
theorem dQ.set2(h:dQ w sb zb k rc bw va vb vc cb)(x:Int):dQ (w.setCell ⟨sb,2,none⟩ (.int .i64 x)) sb zb k x bw va vb vc cb:=by unfold dQ at *; simp only[World.setCell];rw[fw,aJ rfl,h];rfl
theorem dQ.iM(h:dQ w sb zb k rc bw va vb vc cb)(x:Bool):dQ (w.setCell ⟨sb,3,none⟩ (.bool x)) sb zb k rc x va vb vc cb:=by unfold dQ at *; simp only[World.setCell];rw[fw,aJ rfl,h];rfl
theorem dQ.lj(h:dQ w sb zb k rc bw va vb vc cb)(x:Value):dQ (w.setCell ⟨sb,4,none⟩ x) sb zb k rc bw x vb vc cb:=by unfold dQ at *; simp only[World.setCell];rw[fw,aJ rfl,h];rfl
theorem dQ.oF(h:dQ w sb zb k rc bw va vb vc cb)(x:Value):dQ (w.setCell ⟨sb,5,none⟩ x) sb zb k rc bw va x vc cb:=by unfold dQ at *; simp only[World.setCell];rw[fw,aJ rfl,h];rfl
theorem dQ.rT(h:dQ w sb zb k rc bw va vb vc cb)(x:Value):dQ (w.setCell ⟨sb,6,none⟩ x) sb zb k rc bw va vb x cb:=by unfold dQ at *; simp only[World.setCell];rw[fw,aJ rfl,h];rfl
end
theorem b_.kept{w w':World}{base:Nat}{v:Value}{rs:List ai}(h:b_ w base v rs)(hg:∀g,v.ownBlock=some g->w'.heap[g]? = w.heap[g]?):b_ w' base v rs:=by obtain⟨h1,h2⟩:=h;refine⟨h1,?_⟩;rcases h2 with h2|⟨g,cap,cur,rfl,hb,aZ,hr⟩;{exact .inl h2};{exact .inr ⟨g,cap,cur,rfl,hb,(hg g rfl).trans aZ,hr⟩}
theorem b_.oG{w:World}{base:Nat}{v:Value}{rs:List ai}(h:b_ w base v rs):∀g,v.ownBlock=some g->base<=g/\g<w.heap.size:=iW h
def kA(k:Int)(x:Nat×List ai):Bool:=k == 255 || k == l_ x
def nX(k:Int)(l:List (Nat×List ai)):List ai:=(l.filter (kA k)).flatMap (·.2)
def kB(k:Int)(l:List ai):List ai:=nX k (bz bu l)
def tE(k:Int)(l:List ai):Bool:=(bz bu l).any (kA k)
theorem alA{k:Int}{l:List (Nat×List ai)}{i:Nat}{x:Nat×List ai}(h:l[i]? = some x)(hk:kA k x=false):nX k (l.take (i+1))=nX k (l.take i)/\(l.take (i+1)).any (kA k)=(l.take i).any (kA k):=by rw[Kw h];unfold nX;simp[vV,hk]
theorem alB{k:Int}{l:List (Nat×List ai)}{i:Nat}{x:Nat×List ai}(h:l[i]? = some x)(hk:kA k x=true):nX k (l.take (i+1))=nX k (l.take i)++x.2/\(l.take (i+1)).any (kA k)=true:=by rw[Kw h];unfold nX;simp[vV,hk]
theorem KC(bN:ai->ai->Bool):∀(f k:Nat) (l:List ai),l.length<=f->(jy bN f k l).flatMap (·.2)=l
 | 0,k,l,h=>by obtain rfl:l = []:=fp ae;rfl
 | f+1,k,[],h=>rfl
 | f+1,k,r :: t,h=>by have hd:(t.dropWhile (bN r)).length<=t.length:=by{have:=dE List.length (xM (p:=bN r) (l:=t));rw[bj]at this;omega};rw[jy,iV,KC bN f _ _ (by simp at h;omega)];simp[xM]
theorem aa1(k:Int):∀(l:List (Nat×List ai)),(nX k l).length<=(l.flatMap (·.2)).length
 | []=>by simp[nX]
 | x :: t=>by have ih:=aa1 k t;unfold nX at *;rw[NL];split;{simp only[iV,bj];omega};{simp only[iV,bj];omega}
theorem alC(k:Int)(l:List ai)(i:Nat):(nX k ((bz bu l).take i)).length<=l.length:=by
 have h1:=aa1 k ((bz bu l).take i);have h2:(((bz bu l).take i).flatMap (·.2)).length<=((bz bu l).flatMap (·.2)).length:=by{
 conv=>rhs;rw[<- j9 i (bz bu l),sZ,bj]
 omega};have h3:(bz bu l).flatMap (·.2)=l:=KC bu _ _ _ aA;rw[h3]at h2;omega
theorem aa2(a b:List ai):gW (a++b)=gW a++gW b:=by simp[gW]
theorem TX(base:Nat)(va:Value)(ans xs:List ai)(b off c:Nat)(w:World)(ho:b_ w base va ans)(hr:dG w b off xs)(hb:base<=w.heap.size)(hl:ans.length+xs.length<=100000) :
  ∃v' w',(Builtin.append_ #[41,41] 41 #[va,aD b off xs.length c]).run prog w=.ok v' w'/\b_ w' base v' (ans++xs)/\w.grownBy w' va.ownBlock/\(v'.ownBlock=va.ownBlock\/v'.ownBlock=some w.heap.size):=by obtain⟨i0,ax,hz0,hz1,hz2⟩:=kJ HE;obtain⟨v',w',h1,h2,h3,_,h5⟩:=run_append_own_at (P:=prog) w base 41 41 47 i0 _ 4 48 Od ax hz0 hz1 hz2 rfl ae va ans.length (gW ans) ho (ak b off) xs.length c (gW xs) (Kj xs) (fun j u hu=>by rw[JS];exact aaP hr j u hu) TU (by simp[maxLen];omega) ae hb;refine⟨v',w',h1,?_,h3,h5⟩;unfold b_;rw[bj,aa2];exact h2
theorem OB{P:Program}{o:Oper}{a:Act}{w:World}{K:Act->World->Prop}{Q:Exit->Act->World->Prop}(s x:Operand)(t:TypeId)(ho:o.op=.call { callee:=.builtin .append,args:=#[s,x],argTypes:=#[t,t] })(v xv v':Value)(w':World)(hs:a.eval s=v)(hx:a.eval x=xv)
  (hr:(Builtin.append_ #[t,t] o.type #[v,xv]).run P w=.ok v' w') (h:K (a.put o.dst v') w'):o.wpIn Fence.wide 0 P a w K Q:=by unfold Oper.wpIn;refine⟨fun _ _=>aQ,?_⟩;rw[show Fence.wide.round=none from rfl,Oper.semAt_none];unfold execOp;simp only[ho,resolve,invoke,builtin,Sem.run_bind,JT,EL,J5,jL,rI,hs,hx,hr];exact h
def HQ(sb zb cb:Nat)(k rc:Int)(bw:Bool)(va vb vc:Value)(ans:List ai)(base d nj:Nat)(w0:World)(pre:List ai)(got:Bool)(W:World):Prop :=
 ∃df,dQ W sb zb k rc bw df vb vc cb/\b_ W (sb+1) df (ans++pre)/\(df.ownBlock=va.ownBlock\/∃g,df.ownBlock=some g/\d+2<=g)/\(∀g,va.ownBlock=some g->g<base)/\aR W nj (.bool got) 4/\bn (fun j=>j≠sb/\some j≠va.ownBlock/\j≠nj/\j<d) w0 W
theorem HQ.keeps{sb zb cb:Nat}{k rc:Int}{bw:Bool}{va vb vc:Value}{ans:List ai}{base d nj:Nat}{w0:World}{pre:List ai}{got:Bool}{A B:World}(h:HQ sb zb cb k rc bw va vb vc ans base d nj w0 pre got A)(hk:dF (d+1) A B)(h1:sb<d)(h2:base<=d)(h3:nj<d)(h4:d<=A.heap.size) :
  HQ sb zb cb k rc bw va vb vc ans base d nj w0 pre got B:=by obtain⟨df,hs,ho,ha,hb,hx,hf⟩:=h;refine⟨df,hs.kept (hk.block sb hs.lt ae),ho.kept (fun g hg=>hk.block g (ho.oG g hg).2 ?_),ha,hb,hx.below (hk.below (n:=d) ae h4) h3,hf.trans ((bn.wF hk).mono (fun j _ hj=>ae))⟩;rcases ha with ha|⟨g',pq,hge⟩;{have:=hb g (by rw[<- ha];exact hg);omega};{rw[hg]at pq;cases pq;omega}
theorem aa3(sb zb cb b off:Nat)(k rc:Int)(bw:Bool)(va vb vc v:Value)(ans l:List ai)(w:World)(hs:dQ w sb zb k rc bw va vb vc cb)(ho:b_ w (sb+1) va ans)
  (hL:HL v b off l) (hr:dG w b off l) (hb1:b≠sb) (hb2:va.ownBlock≠some b) (hl:l.length<=3001) (ha:ans.length<=90000) :
  aB 248 #[aM sb,v] w fun e w'=>e=.returned (.bool (tE k l))/\(∃df,dQ w' sb zb k rc bw df vb vc cb/\b_ w' (sb+1) df (ans++kB k l))/\bn (fun j=>j≠sb/\some j≠va.ownBlock) w w':=by
 refine(cj (n:=0)).1 ?_;refine N5 func248 rfl aQ ?_;simp only[ntmps248,pc,bP,fy,Nat.reduceAdd,Nat.reduceSub,o_,pL,pN,pM,gb,fU];have qQ:=hs.lt;have CW:=hr.1;have hown:=ho.oG;have HS:=ag hs;have HO:=ag ho;have bC:=ag hr;have ej:=ag hL;have pW:=ag hown;have hmx:prog.follows .mixedOrders=true:=aI;have pV:jm w v l:=by{rcases hL with h|⟨cap,h1,h2⟩;{exact .inl h};{exact .inr ⟨b,off,cap,h1,h2,hr⟩}};have dX:au w ((w.alloc (.cells #[.pointer (some ⟨sb,0,none⟩)] 206)).alloc (.cells #[.bool false] 4)):=(aO.alloc aA _).alloc ar _;have gR:=ag (pV.below dX);obtain⟨av,cv,rfl⟩:=Fa pV;clear hs ho hr hL pV hown;gi_wp2_with fail;refine⟨aQ,rfl,?_⟩;refine(cj.2 (TI _ l _ (af gR))).mono ?_;rintro e W2 ⟨rfl,e4,xW,e2,e3⟩;have e0:aR W2 w.heap.size (aM sb) 206:=((aR.l7 _ _ _).alloc _).below xW eI;have e1:aR W2 (w.heap.size+1) (.bool false) 4:=by{have:=(aR.l7 (w.alloc (.cells #[.pointer (some ⟨sb,0,none⟩)] 206)) (.bool false) 4).below xW eI;rwa [dD]at this};have e5:au w W2:=dX.trans (xW.mono eI);simp only[dD]at e4 e2 e3;clear dX xW gR;gi_wp2_with fail;have hgrow:∀r,au W2 ((W2.alloc (.deferred (some []))).alloc (.loop r)):=fun r=>(aO.alloc aA _).alloc ar _;have kP:=ag (bC.below e5);have jQ:=ag (HS.kept (e5.block sb qQ));have gv:=ag (HO.below e5);refine alg (xs:=bz bu l) (encs:=fun x:Nat×List ai=>#[aD b (off+x.1*4) x.2.length x.2.length]) (St:=fun A B=>au A B) (Kp:=j_ (w.heap.size+1+1) (w.heap.size+1+1+1) b) (Kx:=fun _ _=>True) (gf:=233) (lb:=#[aM (w.heap.size+1+1),aM (w.heap.size+1+1+1)]) rfl (enters_of func233 aI rfl) (fun _=>rfl) ?seq [w.heap.size+1+1,w.heap.size+1+1+1,b] aP (fun A B h=>h) (fun A B h h'=>⟨h',h _ ar,h _ ar,h _ ar⟩) (fun _ _=>aQ) (fun i W=>HQ sb zb cb k rc bw va vb vc ans w.heap.size W2.heap.size (w.heap.size+1) W2 (nX k ((bz bu l).take i)) (((bz bu l).take i).any (kA k)) W) (fun _ _=>False) (fun i A B h hA hk=>h.keeps hk ae ae ae hA) (fun c A B h hA hk=>h) ⟨va,jQ,by simpa [nX]using af gv,.inl rfl,fun g hg=>(pW g hg).2,e1,bn.refl _ _⟩ ?round ?done ?stop;case seq =>(intro r;have hg:=hgrow r;exact TJ _ b off _ _ l _ (af ej) ((hg.cell (p:=⟨w.heap.size+1+1,0,none⟩) (by show w.heap.size+1+1<W2.heap.size;omega)).trans e2) ((hg.cell (p:=⟨w.heap.size+1+1+1,0,none⟩) (by show w.heap.size+1+1+1<W2.heap.size;omega)).trans e3) (kP.below hg) (by have:=hg.size;omega) (by have:=hg.size;omega) hl)
 case round =>(
 intro l' i x V0 W hx hI hsz;gi_wp2_with fail;refine⟨aQ,?_⟩;have eG:=ag hI;obtain⟨df,zB,mG,KD,eJ,tF,py⟩:=hI;have hmem:x∈bz bu l:=ux hx;have nT:=(wD hmem).2.1;have hrl:=CQ hmem;have nY:W.heap[b]? = W2.heap[b]?:=py.block b ae ⟨hb1,fun h=>hb2 h.symm,ae,ae⟩;have gM:=E6 (AW (af kP) py.size nY) hmem;obtain⟨q0,q1,q2,q3⟩:=gM.four 0 nT;clear q0 q1 q3;rw[rK,gK,aaD x nT]at q2;have aaw:(0:Int)<(x.2.length:Int):=ae;have aa4:W.cell? (ak w.heap.size 0)=some (aM sb):=(dh (py.block w.heap.size ae ⟨ae,fun h=>by have:=eJ _ h.symm;omega,ae,ae⟩)).trans e0.cell;obtain⟨s0,s1,s2,s3,s4,s5,s6,s7⟩:=zB.cells;clear s0 s2 s3 s5 s6 s7;have cu:=ag hx;have bI:=ag gM;have pX:=ag zB;have HOW:=ag mG;have uN:=ag KD;have qR:=ag eJ;have aa5:=ag tF;have CX:=ag py;have kL:=alC k l i;have ay_:(nX k ((bz bu l).take i)).length<=3001:=ae;clear hx gM zB mG KD eJ tF py hmem;cases ht:kA k x;{
 have bf:Hid (∀nq,Oj W2.heap.size [w.heap.size+1+1,w.heap.size+1+1+1,b] (fun W=>HQ sb zb cb k rc bw va vb vc ans w.heap.size W2.heap.size (w.heap.size+1) W2 (nX k ((bz bu l).take (i+1))) (((bz bu l).take (i+1)).any (kA k)) W) (fun _ _=>False) W .normal { tmps:=#[],defers:=[] } (W.drewN nq)):=fun nq=>by{obtain⟨t1,t2⟩:=alA (af cu) ht;refine⟨⟨bH _,rfl,rfl⟩,fun _ _=>rfl,?_⟩;rw[t1,t2];exact eG.keeps (dF.zt (pj (bR _ W) nq)) ae ae ae ae};have gS:(k == 255)=false:=by unfold kA at ht;rw[JR]at ht;exact ht.1
 have alD:(k == l_ x)=false:=by unfold kA at ht;rw[JR]at ht;exact ht.2
 clear ht;gi_wp2_with fail;refine aa0 hmx (AZ aI) aI ?_;repeat (go_big_quiet_step (fail))
 refine wpQuiet_nil ?_;intro _ hw';obtain⟨nq,rfl⟩:=hw';gi_wp2_with fail;exact bf nq};{
 have alE:k=255\/((k == 255)=false/\(k == l_ x)=true):=by{unfold kA at ht;cases h:k == 255;{rw[h]at ht;exact .inr ⟨rfl,ht⟩};{exact .inl (by simpa using h)}};have wG:Hid (∀nq,∃v' w',(∃a2 n2 c2,v'=Value.slice a2 n2 c2)/\(Builtin.append_ #[41,41] 41 #[df,aD b (off+x.1*4) x.2.length x.2.length]).run prog (W.drewN nq).drew=.ok v' w' /\ w'.cell? (ak w.heap.size 0)=some (aM sb)/\w'.cell? (ak sb 4)=some df/\w'.frozen? (ak sb 4)=false /\ (w'.setCell ⟨sb,4,none⟩ v').cell? (ak (w.heap.size+1) 0)=some (.bool (((bz bu l).take i).any (kA k)))/\(w'.setCell ⟨sb,4,none⟩ v').frozen? (ak (w.heap.size+1) 0)=false /\ Hid (Oj W2.heap.size [w.heap.size+1+1,w.heap.size+1+1+1,b] (fun W=>HQ sb zb cb k rc bw va vb vc ans w.heap.size W2.heap.size (w.heap.size+1) W2 (nX k ((bz bu l).take (i+1))) (((bz bu l).take (i+1)).any (kA k)) W) (fun _ _=>False) W .normal { tmps:=#[],defers:=[] } ((w'.setCell ⟨sb,4,none⟩ v').setCell ⟨w.heap.size+1,0,none⟩ (.bool true)))):=fun nq=>by{have hD:au W (W.drewN nq).drew:=(pj (bR _ W) nq).drew;have aza:(W.drewN nq).drew.heap.size=W.heap.size:=rfl;obtain⟨t1,t2⟩:=alB (af cu) ht;obtain⟨v',w',hrun,hown',hgr,hat⟩:=TX (sb+1) df _ x.2 b (off+x.1*4) x.2.length (W.drewN nq).drew (HOW.below hD) (bI.below hD) ae (by rw[bj];omega);have alF:=pX.lt;have rU:∀j,(j<=sb\/(w.heap.size<=j/\j<W2.heap.size+2))->some j≠df.ownBlock:=by{intro j hj e;have h1:=HOW.oG j e.symm;rcases af uN with h|⟨g,h2,h3⟩;{have:=af qR j (by rw[<- h];exact e.symm);omega};{rw[<- e]at h2;cases h2;omega}};have uO:some b≠df.ownBlock:=by{intro e;rcases af uN with h|⟨g,h2,h3⟩;{rw[h]at e;exact hb2 e.symm};{rw[<- e]at h2;cases h2;omega}};have hblk:∀j,j<W.heap.size->some j≠df.ownBlock->w'.heap[j]? = W.heap[j]?:=fun j hj h=>(hgr.block j hj h).trans rfl;have hsw:dQ w' sb zb k rc bw df vb vc cb:=pX.kept (hblk sb alF (rU sb ae));have aa6:W.heap.size<=w'.heap.size:=hgr.size;have TY:aR (w'.setCell ⟨sb,4,none⟩ v') (w.heap.size+1) (.bool (((bz bu l).take i).any (kA k))) 4 := (cZ _ _ _ _ (by show w.heap.size+1≠sb;omega)).trans ((hblk (w.heap.size+1) ae (rU _ ae)).trans (af aa5));have hfr:bn (fun j=>j≠sb/\some j≠df.ownBlock/\j≠w.heap.size+1) W ((w'.setCell ⟨sb,4,none⟩ v').setCell ⟨w.heap.size+1,0,none⟩ (.bool true)) := (((bn.uM hD).trans (bn.OA hgr (fun j hj=>hj.2.1))).trans (bn.jD v' (fun j hj=>hj.1))).trans (bn.jD (.bool true) (fun j hj=>hj.2.2));have hnew:v'.ownBlock=va.ownBlock\/∃g,v'.ownBlock=some g/\W2.heap.size+2<=g:=by{rcases hat with h|h;{rw[h];exact uN};{exact .inr ⟨_,h,hsz⟩}};refine⟨v',w',by obtain⟨a2,c2,h⟩:=hown'.slice;exact⟨a2,_,c2,h⟩,hrun,(dh (hblk w.heap.size ae (rU _ ae))).trans aa4,hsw.cells.2.2.2.2.1,hsw.frozen 4,TY.cell,TY.frozen,⟨⟨hfr.size,hfr.block _ ae ⟨ae,rU _ ae,ae⟩,hfr.block _ ae ⟨ae,rU _ ae,ae⟩⟩,?_,?_⟩⟩;{intro j hj;simp only[ei,vX,tk]at hj;rcases hj with rfl|rfl|rfl;{exact hfr.block _ ae ⟨ae,rU _ ae,ae⟩};{exact hfr.block _ ae ⟨ae,rU _ ae,ae⟩};{exact hfr.block _ ae ⟨hb1,uO,ae⟩}};{rw[t1,t2];refine⟨v',?_,?_,hnew,qR,TY.set _,CX.trans (hfr.mono ?_)⟩;{exact(hsw.lj v').kept (cZ _ _ _ _ (by show sb≠w.heap.size+1;omega))};{rw[<- fP];refine(hown'.kept ?_);intro g hg;have h1:=hown'.oG g hg;have Ff:g≠w.heap.size+1:=by{rcases hnew with h|⟨g',h2,h3⟩;{have:=af qR g (by rw[<- h];exact hg);omega};{rw[hg]at h2;cases h2;omega}};exact(cZ _ _ _ _ Ff).trans (cZ _ _ _ _ (by show g≠sb;omega))};{intro j _ hj;refine⟨hj.1,?_,hj.2.2.1⟩;intro e;rcases af uN with h|⟨g,h2,h3⟩;{rw[h]at e;exact hj.2.1 e};{rw[<- e]at h2;cases h2;omega}}}};clear eG cu bI pX HOW uN qR aa5 CX ht kP jQ gv e2 e3 e0 e1 hgrow;rcases alE with rfl|⟨gS,alD⟩;all_goals(
 gi_wp2_with fail;refine aa0 hmx (AZ aI) aI ?_;repeat (go_big_quiet_step (fail))
 refine wpQuiet_nil ?_;intro _ hw';obtain⟨nq,rfl⟩:=hw';obtain⟨v',w',⟨a2,n2,c2,rfl⟩,hrun,p1,fh,eK,p4,p5,CY⟩:=af wG nq;have azb:(W.drewN nq).drew.cell? (ak w.heap.size 0)=some (aM sb):=aa4;have azc:(W.drewN nq).drew.cell? (ak sb 4)=some df:=s4;clear wG;gi_wp2_with fail;refine E5 hmx (AZ aI) ?_;refine jw 6 ?_;refine wm (rs:=[0,1]) aI ar ?_;refine lf rfl (fun K hK=>?_) (lf rfl (fun K hK=>?_) wj);{go_simp;refine hK _ _ ?_;clear hK K;refine eD 1 fun K hK=>?_;go_simp;refine hK _ _ ?_;clear hK K;refine jw 2 ?_;refine jw 3 ?_;refine jw 4 ?_;refine eD 5 fun K hK=>?_;go_simp;refine hK _ _ ?_;clear hK K;refine eD 7 fun K hK=>?_;rw[aJ ee];refine OB (.tmp 31) (.tmp 32) 41 rfl _ _ _ w' rfl rfl hrun ?_;refine hK _ _ ?_;clear hK K;refine jw 8 ?_;refine jw 9 ?_;refine jw 10 ?_;refine eD 11 fun K hK=>?_;go_simp;refine hK _ _ ?_;clear hK K;refine nR aI ?_ _;gi_wp2_with fail;exact CY};{go_simp;refine hK _ _ ?_;clear hK K;refine jw 2 ?_;refine jw 3 ?_;refine jw 4 ?_;refine wm (rs:=[0,5]) aI ar ?_;refine lf rfl (fun K hK=>?_) (lf rfl (fun K hK=>?_) wj);{go_simp;refine hK _ _ ?_;clear hK K;refine eD 5 fun K hK=>?_;go_simp;refine hK _ _ ?_;clear hK K;refine eD 7 fun K hK=>?_;rw[aJ ee];refine OB (.tmp 31) (.tmp 32) 41 rfl _ _ _ w' rfl rfl hrun ?_;refine hK _ _ ?_;clear hK K;refine jw 8 ?_;refine jw 9 ?_;refine jw 10 ?_;refine eD 11 fun K hK=>?_;go_simp;refine hK _ _ ?_;clear hK K;refine nR aI ?_ _;gi_wp2_with fail;exact CY};{go_simp;refine hK _ _ ?_;clear hK K;refine wm (rs:=[0,7]) aI ar ?_;refine lf rfl (fun K hK=>?_) (lf rfl (fun K hK=>?_) wj);{go_simp;refine hK _ _ ?_;clear hK K;refine eD 7 fun K hK=>?_;rw[aJ ee];refine OB (.tmp 31) (.tmp 32) 41 rfl _ _ _ w' rfl rfl hrun ?_;refine hK _ _ ?_;clear hK K;refine jw 8 ?_;refine jw 9 ?_;refine jw 10 ?_;refine eD 11 fun K hK=>?_;go_simp;refine hK _ _ ?_;clear hK K;refine nR aI ?_ _;gi_wp2_with fail;exact CY};{rw[aJ ee];refine OB (.tmp 31) (.tmp 32) 41 rfl _ _ _ w' rfl rfl hrun ?_;refine hK _ _ ?_;clear hK K;refine eD 0 fun K hK=>?_;go_simp;refine hK _ _ ?_;clear hK K;refine jw 8 ?_;refine jw 9 ?_;refine jw 10 ?_;refine eD 11 fun K hK=>?_;go_simp;refine hK _ _ ?_;clear hK K;refine nR aI ?_ _;gi_wp2_with fail;exact CY}}})})
 case done =>(intro W hI cT hsz;rw[gV]at hI;obtain⟨df,zB,mG,KD,eJ,tF,py⟩:=hI;have cb1:=tF.cell;have pX:=ag zB;have HOW:=ag mG;have uN:=ag KD;have CX:=ag py;clear zB mG KD py;gi_wp2_with fail;refine⟨ar,.inl ⟨_,_,rfl,EX cT,?_⟩⟩;refine⟨.bool (tE k l),by simp[results,results248,go_sem];rfl,rfl,⟨df,?_,?_⟩,?_⟩;{exact pX.kept (xO ae)};{refine HOW.kept (fun g hg=>xO ?_);rcases af uN with h|⟨g',h1,h2⟩;{have:=eJ g (by rw[<- h];exact hg);omega};{rw[hg]at h1;cases h1;omega}};{refine⟨CX.os.trans e5.os,CX.tape.trans e5.tape,CX.output.trans e5.output,by rw[EW];exact a_ e5.size CX.size,fun j hj hp=>?_⟩;rw[xO ae,CX.block j ae ⟨hp.1,hp.2,ae,ae⟩];exact e5.block j hj})
 case stop =>(intro c W hI cT hsz;exact hI.elim)
end
def qT(l:List ai):Bool:=l.length == 1 && (l.headD ai.zero).type == 5
def lN(o:ah)(rs:List ai)(n:ah):Int:=if(cU o rs n).length=0 then(if(ct rs n).2 then 0 else 3)else 0
def mH(o:ah)(rs:List ai)(k:Int)(n:ah):List ai:=if(cU o rs n).length=0 then(if(ct rs n).2 then kB k (ct rs n).1 else [])else []
def nZ(o:ah)(rs:List ai)(k:Int)(n:ah):List ai :=
 if(cU o rs n).length=0 then(if(ct rs n).2 then(if tE k (ct rs n).1 then []else fQ o rs)else fQ o rs)else cU o rs n
theorem aa7(v:Value)(l:List ai)(w:World)(hv:jm w v l)(hl:l.length<=3001) :
  aB 246 #[v] w fun e w'=>e=.returned (.bool (qT l))/\w'=w:=by
 rcases hv with⟨rfl,rfl⟩|⟨b,off,cap,rfl,hc,hr⟩;{go_enter func246,ntmps246;go_wp2;go_ret;exact⟨rfl,rfl⟩};{
 by_cases h1:l.length=1;{
 obtain⟨r,rfl⟩:=NN.1 h1;obtain⟨c0,aC,c2,c3⟩:=hr.four 0 ar;simp only[rK,gK,lI]at c2;have aY:Hid (qT [r]=(r.type == 5)):=by unfold qT;rw[Hid];simp
 clear hr c0 aC c3 h1;simp only[bP,fy]at hc ⊢;go_enter func246,ntmps246;go_wp2;go_ret;exact⟨cA aY.symm,rfl⟩};{
 have aY:Hid (qT l=false):=by unfold qT;rw[Hid,d_.2 h1];rfl
 have Fg:((l.length:Int) == 1)=false:=by rw[d_];omega
 clear hr h1;go_enter func246,ntmps246;go_wp2;go_ret;exact⟨cA aY.symm,rfl⟩}}
theorem aa8(o:ah)(rs:List ai)(n:ah):(cU o rs n).length<=rs.length:=by
 unfold cU;generalize (cg n).takeWhile (fun e=>!(e == o))=es;have:∀(es:List ah) (acc:List ai),acc.length<=rs.length->(es.foldl (pw rs) acc).length<=rs.length:=by{
 intro es;induction es with
 | nil=>intro acc h;exact h
 | cons e t ih =>{intro acc h;rw[JX];refine ih _ ?_;unfold pw;split;{exact h};{exact a_ (Ok _ _) (Kt _ _)}}};exact this es [] ar
theorem alG(n:Nat)(w:World)(hn:n<=10000) :
  aB 249 #[aH,aj n] w fun e w'=>∃v,e=.returned v/\b_ w' w.heap.size v []/\au w w':=by obtain⟨i0,ax,hz0,hz1,hz2⟩:=kJ HE;by_cases h0:n=0;{subst h0;refine(Any8.slices_Grow_room Tryz.aaX none 0 0 0 w aA ae ae ae).mono ?_;rintro e w' ⟨rfl,rfl⟩;exact⟨_,rfl,ia _ _ _ _,bR _ _⟩};{refine(Any8.slices_Grow_grow Tryz.aaX i0 _ ax hz0 (by rw[hz1];omega) none 0 0 n [] w aA ae (by rw[hz2];omega) ae ar (fun _=>rfl) (fun a h=>by cases h)).mono ?_;rintro e w' ⟨rfl,rfl⟩;have hge:=grownCap_ge w (0+n) 0 (Tryz.Oz.t 25);have hle:=grownCap_le_maxLen w (0+n) 0 (Tryz.Oz.t 25) (by simp[maxLen];omega);refine⟨_,rfl,⟨rfl,.inr ⟨w.heap.size,_,_,rfl,bH _,N0 w.drew _,cV _,hle,?_,rfl⟩⟩,(aO.drew).alloc aA _⟩;have e1:(Value.cells (.agg #[.string ⟨#[]⟩,.int .i64 0,.int .i64 0,.string ⟨#[]⟩])).size=4:=rfl;rw[Array.size_append,Array.size_append,size_zeroCells,size_zeroCells,e1];have e2:(List.toArray ([]:List Value)).size=0:=rfl;rw[e2];generalize grownCap w (0+n) 0 (Tryz.Oz.t 25)=bK at *;omega}
theorem aa9(base:Nat)(va xv:Value)(ans xs:List ai)(w:World)(ho:b_ w base va ans)(hx:jm w xv xs)(hb:base<=w.heap.size)(hl:ans.length+xs.length<=100000) :
  ∃v' w',(Builtin.append_ #[41,41] 41 #[va,xv]).run prog w=.ok v' w'/\b_ w' base v' (ans++xs)/\Below base w w':=by rcases hx with⟨rfl,rfl⟩|⟨b,off,cap,rfl,hc,hr⟩;{obtain⟨i0,ax,hz0,hz1,hz2⟩:=kJ HE;exact⟨va,w,run_append_owned_none (P:=prog) (w:=w) base 41 41 47 i0 4 Od ax va _ _ ho,by rw[h_];exact ho,bR _ _⟩};{obtain⟨v',w',h1,h2,h3,_⟩:=TX base va ans xs b off cap w ho hr hb hl;exact⟨v',w',h1,h2,(bR _ w).grown h3 hb (fun k hk=>(ho.Ot k hk).1)⟩}
theorem A5{P:Program}{ops:Array Oper}{rest:List Oper}{o:Oper}{a:Act}{w:World}{Q:Exit->Act->World->Prop}(hgd:o.guard=none)(s x:Operand)(t:TypeId)(ho:o.op=.call { callee:=.builtin .append,args:=#[s,x],argTypes:=#[t,t] })(v xv v':Value)(w':World)(hs:a.eval s=v)(hx:a.eval x=xv)
  (hr:(Builtin.append_ #[t,t] o.type #[v,xv]).run P w=.ok v' w') (h:wpList P ops Q rest (a.put o.dst v') w'):wpList P ops Q (o :: rest) a w:=by refine wpList_plain hgd fun K hK=>?_;unfold Oper.wp execOp;simp only[ho,resolve,invoke,builtin,Sem.run_bind,JT,EL,J5,jL,rI,hs,hx,hr];exact hK _ _ h
theorem alH(q:Nat)(va vb:Value)(ans bS:List ai)(w:World)(hq:q<w.heap.size)(h0:w.cell? (ak q 0)=some va)(h1:w.cell? (ak q 1)=some vb)(ha:jm w va ans)(hb:jm w vb bS)(HR:ans.length<=4000)(rV:bS.length<=4000) :
  aB 195 #[aD q 0 2 2] w fun e w'=>∃v,e=.returned v/\b_ w' w.heap.size v (ans++bS)/\au w w':=by
 have eZ:=ag ha;have aX:=ag hb;obtain⟨aa,ca,rfl⟩:=Fa ha;obtain⟨ab,cb,rfl⟩:=Fa hb;clear ha hb;have aa_:=ag (alG (ans.length+bS.length) w ae);go_enter func195,ntmps195;go_wp2_with fail;go_loop [3,11] (fun sz i=>(sz=aj 0/\i=aj 0)\/(sz=aj ans.length/\i=aj 1)\/(sz=aj ((ans.length+bS.length:Nat):Int)/\i=aj 2)) (fun _ i=>2 - (intOf i).toNat);case atStart=>exact .inl ⟨rfl,rfl⟩
 case round =>(
 rcases hrel with⟨rfl,rfl⟩|⟨rfl,rfl⟩|⟨rfl,rfl⟩;{
 go_wp2_with fail;go_round;case rel=>exact .inr (.inl ⟨bW,bW⟩)
 case measure=>simp[intOf]};{
 go_wp2_with fail;go_round;case rel=>exact .inr (.inr ⟨bW,bW⟩)
 case measure=>simp[intOf]};{
 go_wp2_with fail;refine aa_.mono ?_;rintro e w1 ⟨v1,rfl,ho1,hb1⟩;have pz:=ag ho1;clear ho1;go_wp2_with fail;go_loopw [6,27] (fun v i wr=>(i=aj 0/\b_ wr w.heap.size v []/\au w wr)\/(i=aj 1/\b_ wr w.heap.size v ans/\au w wr)\/(i=aj 2/\b_ wr w.heap.size v (ans++bS)/\au w wr)) (fun _ i _=>2 - (intOf i).toNat);case atStart=>exact .inl ⟨rfl,pz,hb1⟩
 case round =>(
 clear pz hb1 aa_;rcases hrel with⟨rfl,qU,hbr⟩|⟨rfl,qU,hbr⟩|⟨rfl,qU,hbr⟩;{
 obtain⟨v',w',hrun,KE,hb'⟩:=aa9 w.heap.size _ _ [] ans wr qU (eZ.below hbr) hbr.size aP;obtain⟨av,cv,rfl⟩:=qU.slice;have q0:=(hbr.cell (p:=⟨q,0,none⟩) hq).trans h0;have bf:Hid (b_ w' w.heap.size v' ans/\au w w'):=⟨KE,hbr.trans hb'⟩;clear qU KE hb';go_wp2_with (at_builtin;refine A5 rfl _ _ 41 rfl _ _ v' w' rfl rfl hrun ?_);go_roundw;case rel=>exact .inr (.inl ⟨bW,bf⟩)
 case measure=>simp[intOf]};{
 obtain⟨v',w',hrun,KE,hb'⟩:=aa9 w.heap.size _ _ ans bS wr qU (aX.below hbr) hbr.size ae;obtain⟨av,cv,rfl⟩:=qU.slice;have q1:=(hbr.cell (p:=⟨q,1,none⟩) hq).trans h1;have bf:Hid (b_ w' w.heap.size v' (ans++bS)/\au w w'):=⟨KE,hbr.trans hb'⟩;clear qU KE hb';go_wp2_with (at_builtin;refine A5 rfl _ _ 41 rfl _ _ v' w' rfl rfl hrun ?_);go_roundw;case rel=>exact .inr (.inr ⟨bW,bf⟩)
 case measure=>simp[intOf]};{have bf:=ag qU;clear qU;go_wp2;go_ret;exact⟨_,rfl,bf,hbr⟩})})
section
open Go.RowKit Go.Conc
def pA(w:World)(cb c:Nat)(shut:Bool):Prop :=
 cb<w.heap.size/\w.cell? (ak cb 0)=some (.chan (some c))/\∃s r tm,w.heap[c]? = some (.chan 0 #[] shut s r tm)
theorem pA.below{w w':World}{cb c n:Nat}{shut:Bool}(h:pA w cb c shut)(hb:Below n w w')(h1:cb<n)(h2:c<n):pA w' cb c shut:=by obtain⟨a,b,s,r,tm,d⟩:=h;exact⟨dP a hb.size,(hb.cell (p:=⟨cb,0,none⟩) h1).trans b,s,r,tm,(hb.block c h2).trans d⟩
theorem pA.lt{w:World}{cb c:Nat}{shut:Bool}(h:pA w cb c shut):c<w.heap.size:=by obtain⟨_,_,_,_,_,h⟩:=h;exact(bV.1 h).1
theorem alI:∃i,prog.info? 332=some i/\i.bytes=0:=by have h:(prog.info? 332).map (·.bytes)=some 0:=aI;obtain⟨i,ax,hb⟩:=ZY.1 h;exact⟨i,ax,hb⟩
theorem alJ(w:World):(Instr.makeChan 270 (aj 0)).run prog w=.ok (.chan (some w.heap.size)) (w.alloc (.chan 0 #[] false 0 0 false)):=by obtain⟨i,ax,hb⟩:=alI;simpa using run_makeChan (P:=prog) (w:=w) underlying270 ax .i64 0 ae (by rw[hb];omega)
theorem alK(w:World) :
  aB 125 #[] w fun e w'=>∃cb c,e=.returned (aM cb)/\pA w' cb c false/\w.heap.size<=cb/\w.heap.size<=c/\cb≠c/\au w w':=by have hmc:=alJ;go_enter func125,ntmps125;go_wp2;go_ret;refine⟨_,w.heap.size,rfl,⟨ar,by go_simp,0,0,false,?_⟩,ae,bH _,ae,(aO.alloc aA _).alloc ar _⟩;exact(cD _ _ _ ar).trans (World.alloc_heap_new w _)
theorem alL(cb c:Nat)(w:World)(h:pA w cb c false) :
  aB 193 #[aM cb] w fun e w'=>e=.returned (.bool false)/\w'=w:=by obtain⟨hlt,hc,s,r,tm,hch⟩:=h;refine calls_of_loneTo fun cs=>?_;have e:Frame.enter prog 193 #[aM cb] .normal=(base 193).at ⟨#[aM cb,undef,undef,undef,undef,undef,undef,undef,undef,undef],[]⟩ [.code (f193.body.getD .skip)]:=by{simp[Frame.enter,Frame.at,func193,base,f193]};rw[e];refine LoneTo.goes (n:=13) ?_;simp only[f193,S9];s_c stepG_seq;s_reg;s_op;s_c stepG_region_end;s_c stepG_seq;s_reg;s_op;s_op;s_op;s_op;s_c stepG_region_end;s_c stepG_seq;s_reg;s_stop;refine LoneTo.step (step_lone_select_default (c:=c) (z:=.agg #[]) (stepG_comm (cases:=#[rcase c (.agg #[])]) (blocking:=false) (shape:=.select) (w':=w) rfl rfl bD (by simp[go_sem,execOp,rcase,Act.eval])) hch) ?_;rw[Frame.finish_at];walk_nrm;refine LoneTo.goes (n:=10) ?_;s_op;s_op;s_c stepG_region_end;s_c stepG_block;s_cond false;s_c stepG_seq;s_reg;s_op;s_c stepG_region_end;s_c stepG_ret';s_stop;refine LoneTo.done ⟨.returned (.bool false),_,rfl,⟨rfl,rfl⟩,rfl,rfl,rfl,rfl,_,func193,by simp[results,f193,Frame.at]⟩
theorem alM(cb c:Nat)(w:World)(h:pA w cb c true) :
  aB 193 #[aM cb] w fun e w'=>e=.returned (.bool true)/\w'=w:=by obtain⟨hlt,hc,s,r,tm,hch⟩:=h;refine calls_of_loneTo fun cs=>?_;have e:Frame.enter prog 193 #[aM cb] .normal=(base 193).at ⟨#[aM cb,undef,undef,undef,undef,undef,undef,undef,undef,undef],[]⟩ [.code (f193.body.getD .skip)]:=by{simp[Frame.enter,Frame.at,func193,base,f193]};rw[e];refine LoneTo.goes (n:=13) ?_;simp only[f193,S9];s_c stepG_seq;s_reg;s_op;s_c stepG_region_end;s_c stepG_seq;s_reg;s_op;s_op;s_op;s_op;s_c stepG_region_end;s_c stepG_seq;s_reg;s_stop;refine LoneTo.step (step_lone_select_recv_shut (c:=c) (z:=.agg #[]) (stepG_comm (cases:=#[rcase c (.agg #[])]) (blocking:=false) (shape:=.select) (w':=w) rfl rfl bD (by simp[go_sem,execOp,rcase,Act.eval])) hch) ?_;rw[Frame.finish_at];walk_nrm;refine LoneTo.goes (n:=10) ?_;s_op;s_op;s_c stepG_region_end;s_c stepG_block;s_cond true;s_c stepG_seq;s_reg;s_op;s_c stepG_region_end;s_c stepG_ret';s_stop;refine LoneTo.done ⟨.returned (.bool true),_,rfl,⟨rfl,rfl⟩,rfl,rfl,rfl,rfl,_,func193,by simp[results,f193,Frame.at]⟩
theorem OC(cb c:Nat)(shut:Bool)(w:World)(h:pA w cb c shut) :
  aB 193 #[aM cb] w fun e w'=>e=.returned (.bool shut)/\w'=w:=by cases shut;{exact alL cb c w h};{exact alM cb c w h}
theorem alN(cb c:Nat)(w:World)(h:pA w cb c false)(hne:cb≠c) :
  aB 275 #[aM cb] w fun e w'=>(∃v,e=.returned v)/\pA w' cb c true/\(∀k,k≠c->w'.heap[k]? = w.heap[k]?)/\w'.heap.size=w.heap.size/\∀B,B<=c->Below B w w':=by have eZ:=ag (OC cb c false w h);have hc:=h.2.1;have hcb:=h.1;obtain⟨s,r,tm,hch⟩:=h.2.2;clear h;have hcl:=fun ats ty=>run_close_open (P:=prog) (w:=w) ats ty hch;go_enter func275,ntmps275;go_wp2_with fail;refine eZ.mono ?_;rintro e w ⟨rfl,rfl⟩;go_wp2_with fail;go_end0;have TZ:∀k,k≠c->(w.heap.setIfInBounds c (.chan 0 #[] true s r tm))[k]? = w.heap[k]?:=fun k hk=>ZI ae;have uL:c<w.heap.size:=(bV.1 hch).1;refine⟨⟨_,rfl⟩,⟨by simpa using hcb,(dh (TZ cb hne)).trans hc,s,r,tm,?_⟩,TZ,ar,fun B hB=>⟨rfl,rfl,rfl,ar,fun k hk=>TZ k ae⟩⟩;show(w.heap.setIfInBounds c (.chan 0 #[] true s r tm))[c]? = _;rw[ZJ uL]
end
section
attribute [local go_sem] Oper.semAt_some
def rW(k:Int)(r:ai):Bool:=r.type != k
def wH(n:ah)(x:Nat×List ai):Bool:=!rO (cQ x) && !x.2.any (rW (if cQ x == n then 2 else 1))
def pY(rs:List ai)(n:ah):Bool:=(uH n rs).all (wH n)
theorem T1{p:Nat×List ai->Bool}{l:List (Nat×List ai)}{i:Nat}{x:Nat×List ai}(h:l[i]? = some x):(l.drop i).all p=(p x && (l.drop (i+1)).all p):=by obtain⟨ax,rfl⟩:=jX.1 h;rw[ko ax,Ct]
theorem alO(r:ai)(k:Int)(bk:Nat)(W:World)(hc:W.cell? (ak bk 0)=some (aj k))(hb:bk<W.heap.size) :
  aB 183 #[.agg #[ay r.owner,aj r.aG,aj r.type,ay r.data],aM bk] W (bQ (.bool (rW k r)) W):=by go_enter func183,ntmps183;go_wp2;go_ret;exact⟨rfl,aO.alloc aA _⟩
theorem alP(k:Int)(bk:Nat)(w:World)(hc:w.cell? (ak bk 0)=some (aj k))(hb:bk<w.heap.size) :
  PredBelow prog 183 #[aM bk] (fun x=>.agg (ai.aS x).toArray) (rW k) w:=by intro W r hB;refine(alO r k bk W ((hB.cell (p:=⟨bk,0,none⟩) hb).trans hc) (dP hb hB.size)).mono ?_;rintro e w' ⟨rfl,hb'⟩;exact⟨rfl,hB.trans (hb'.mono hB.size)⟩
theorem aba(k:Int)(bk b off cap:Nat)(rs:List ai)(w:World)(hc:w.cell? (ak bk 0)=some (aj k))(hb:bk<w.heap.size)(hr:dG w b off rs)(hl:rs.length<=3001) :
  aB 171 #[aD b off rs.length cap,.func (.func 183) #[] #[aM bk]] w fun e w' =>
   e=.returned (.bool (rs.any (rW k)))/\au w w':=by have:=AnyQ.slices_ContainsFunc Tryz.Z2 4 Tryz.isAgg47 Tryz.sizeOf47 ai.aS (fun _=>rfl) (rW k) 183 #[aM bk] (enters_of func183 aI rfl) b off rs.length cap rs w (alP k bk w hc hb) aA ae hr.1 hr.2;rw[gV]at this;exact this
theorem alQ{n:ah}{rs:List ai}{i:Nat}{x:Nat×List ai}(kk:Int)(h:Hid (pY rs n=(wH n x && ((uH n rs).drop (i+1)).all (wH n))))(hs:rO (cQ x)=false)(ho:(if cQ x == n then(2:Int)else 1)=kk) :
  (x.2.any (rW kk)=false->((uH n rs).drop (i+1)).all (wH n)=pY rs n)/\(x.2.any (rW kk)=true->pY rs n=false):=by have h':=af h;have hc:wH n x = !x.2.any (rW kk):=by{unfold wH;rw[hs,ho];rfl};rw[hc]at h';refine⟨fun e=>?_,fun e=>?_⟩;{rw[h',e];rfl};{rw[h',e];rfl}
theorem alR(b off cap:Nat)(n:ah)(rs:List ai)(w:World)(hr:dG w b off rs)(dt:rs.length<=cap)(hlen:rs.length<=3001)(hn:n.length<=3000)(ho:∀r∈rs,r.owner.length<=3000) :
  aB 111 #[ay n,aD b off rs.length cap] w (bQ (.bool (pY rs n)) w):=by
 refine(cj (n:=0)).1 ?_;refine callsIn_of_wp_marks func111 rfl aQ ?_;simp only[ntmps111,pc,bP,fy,Nat.reduceAdd,Nat.reduceSub,o_,pL,pN,pM,gb,fU];have bC:=ag hr;have HO:=ag ho;have hb:=hr.1;clear hr ho;gi_wp2_with fail;refine⟨aQ,rfl,?_⟩;refine(cj.2 (aax _ _ _ _ _)).mono ?_;rintro e W2 ⟨rfl,e4,hb2,e2,e3⟩;have e0:aR W2 w.heap.size (ay n) 9:=((aR.l7 _ _ _).alloc _).below hb2 eI;have e1:aR W2 (w.heap.size+1) (.bool false) 4:=by
  have:=(aR.l7 (w.alloc (.cells #[.string (aq n)] 9)) (.bool false) 4).below hb2 eI
  rwa [dD]at this
 have e5:au w W2:=((aO.alloc aA _).alloc ar _).trans (hb2.mono eI);simp only[dD]at e4 e2 e3;gi_wp2_with fail;have hr2:=ag (bC.below e5);have hgrow:∀r,au W2 ((W2.alloc (.deferred (some []))).alloc (.loop r)):=fun r=>(aO.alloc aA _).alloc ar _;have E8:∀r,((W2.alloc (.deferred (some []))).alloc (.loop r)).heap.size=W2.heap.size+2:=fun r=>by simp
 refine E_ (xs:=uH n rs) (encs:=fun x:Nat×List ai=>#[ay (cQ x),aD b (off+x.1*4) x.2.length x.2.length]) (St:=fun A B=>Below (W2.heap.size+2) A B) (Kp:=fun A B=>(B.heap[b]? = A.heap[b]?/\B.heap[w.heap.size+1+1+1]? = A.heap[w.heap.size+1+1+1]?)/\cz (W2.heap.size+2) A B) (Kx:=fun A B=>cz (W2.heap.size+2) A B)
  (gf:=235) (lb:=#[aM (w.heap.size+1+1),aM (w.heap.size+1+1+1)]) rfl (enters_of func235 aI rfl) (fun _=>rfl) ?seq
  [b,w.heap.size+1+1+1] aP (fun _ _ _ h=>h) (fun A B h h'=>⟨⟨h _ ar,h _ ar⟩,h'⟩) (fun _ _ h=>h)
  (fun i W=>((uH n rs).drop i).all (wH n)=pY rs n/\au w W/\aR W w.heap.size (ay n) 9/\aR W (w.heap.size+1) (.bool false) 4)
  (fun c W=>c=.ret/\pY rs n=false/\au w W/\aR W (w.heap.size+1) (.bool false) 4)
  (fun i A B h hb=>⟨h.1,h.2.1.trans (hb.mono ae),h.2.2.1.below hb ae,h.2.2.2.below hb ae⟩)
  (fun c A B h hb=>⟨h.1,h.2.1,h.2.2.1.trans (hb.mono ae),h.2.2.2.below hb ae⟩)
  ⟨rfl,e5,e0,e1⟩
  ?round ?done ?stop
 case seq =>
  intro r;have hg:=hgrow r;have:=aaz b off cap (w.heap.size+1+1) (w.heap.size+1+1+1) n rs ((W2.alloc (.deferred (some []))).alloc (.loop r)) (hr2.below hg) dt ((hg.cell (p:=⟨w.heap.size+1+1,0,none⟩) (by show w.heap.size+1+1<W2.heap.size;omega)).trans e2) ((hg.cell (p:=⟨w.heap.size+1+1+1,0,none⟩) (by show w.heap.size+1+1+1<W2.heap.size;omega)).trans e3) (by have:=hg.size;omega) (by have:=hg.size;omega) hlen hn (af HO);rw[E8 r]at this;exact this
 case round =>
  intro l' i x V W hx hI hsz;gi_wp2_with fail;refine⟨aQ,?_⟩;obtain⟨hf,hB,hn',hc⟩:=hI;have cn:=hn'.cell;have hmem:x∈bz cN rs:=(fA.1 (ux hx)).1;have gM:=E6 (bC.below hB) hmem;have hrl:=CQ hmem;have hst:=T1 (p:=wH n) hx;rw[hf]at hst;have HS:=ag hst;have CP:=ag hn';have iK:=ag hc;have bI:=ag gM;have lh:((aq (cQ x)).toList == (aq n).toList)=(cQ x == n):=CN;have TN:=hn'.lt;have uL:=hc.lt;clear hf hst hn' hc hmem gM;have hcs:=fun W'=>aab (aq (cQ x)) W';have CT:Hid (∀W',aB 124 #[ay (cQ x)] W' fun e w'=>e=.returned (.bool (rO (cQ x)))/\w'=W'):=hcs;clear hcs
  -- what follows a tested owner,at a world that only has abb
  have fX:∀(kk:Int) (W3 W4:World),au W W3->au W3 W4->rO (cQ x)=false->(if cQ x == n then(2:Int)else 1)=kk ->
    Hid ((x.2.any (rW kk)=false->cz W2.heap.size W W4/\(∀k∈[b,w.heap.size+1+1+1],W4.heap[k]? = W.heap[k]?)/\(((uH n rs).drop (i+1)).all (wH n)=pY rs n/\au w W4/\aR W4 w.heap.size (ay n) 9/\aR W4 (w.heap.size+1) (.bool false) 4)) /\
     (x.2.any (rW kk)=true->cz W2.heap.size W (W4.setCell ⟨w.heap.size+1,0,none⟩ (.bool false))/\pY rs n=false/\au w (W4.setCell ⟨w.heap.size+1,0,none⟩ (.bool false))/\aR (W4.setCell ⟨w.heap.size+1,0,none⟩ (.bool false)) (w.heap.size+1) (.bool false) 4)):=by
   intro kk W3 W4 h3 h4 KF ho;have hs:=alQ kk HS KF ho;have A6:=h3.trans (h4.mono h3.size);have azd:=A6.size;refine⟨fun e=>⟨cz.xR A6,fun k hk=>A6.block k (by simp at hk;omega),hs.1 e,hB.trans (A6.mono hB.size),CP.below A6 TN,iK.below A6 uL⟩,fun e=>⟨(cz.xR A6).trans (cz.setCell W4 _ _ ae),hs.2 e,(hB.trans (A6.mono hB.size)).setCell (by show w.heap.size<=w.heap.size+1;omega) _,(iK.below A6 uL).set _⟩⟩
  cases KF:rO (cQ x)
  ·cases ho:cQ x == n
   ·rw[ho]at lh;gi_wp2_with fail;refine⟨aQ,rfl,?_⟩;refine(CallsIn.inRound l' (cj.2 (CT _))).mono ?_;rintro e W3 ⟨rfl,hW3⟩;have h3:au W W3:=by rw[hW3];exact aO.alloc aA _
    have c3:W3.cell? (ak W.heap.size 0)=some (aj 1):=by rw[hW3];go_simp
    have l3:W.heap.size<W3.heap.size:=by rw[hW3];simp
    clear hW3;have tG:=ag (aba 1 W.heap.size b (off+x.1*4) x.2.length x.2 W3 c3 l3 (bI.below h3) ae);gi_wp2_with fail;refine⟨aQ,rfl,?_⟩;refine(CallsIn.inRound l' (cj.2 (af tG))).mono ?_;rintro e W4 ⟨rfl,hb4⟩;have bf:=fX 1 W3 W4 h3 hb4 KF (by rw[ho];rfl);have b4:=((iK.below h3 uL).below hb4 (dP uL h3.size))
    have TP:=b4.cell;have TQ:=b4.frozen;clear fX b4;cases hm:x.2.any (rW 1)
    ·gi_wp2_with fail;exact bf.1 hm
    ·gi_wp2_with fail;obtain⟨r1,r2⟩:=bf.2 hm;exact⟨r1,rfl,r2⟩
   ·rw[ho]at lh;gi_wp2_with fail;refine⟨aQ,rfl,?_⟩;refine(CallsIn.inRound l' (cj.2 (CT _))).mono ?_;rintro e W3 ⟨rfl,hW3⟩;have h3:au W W3:=by rw[hW3];exact aO.alloc aA _
    have c3:W3.cell? (ak W.heap.size 0)=some (aj 2):=by rw[hW3];go_simp
    have l3:W.heap.size<W3.heap.size:=by rw[hW3];simp
    clear hW3;have tG:=ag (aba 2 W.heap.size b (off+x.1*4) x.2.length x.2 W3 c3 l3 (bI.below h3) ae);gi_wp2_with fail;refine⟨aQ,rfl,?_⟩;refine(CallsIn.inRound l' (cj.2 (af tG))).mono ?_;rintro e W4 ⟨rfl,hb4⟩;have bf:=fX 2 W3 W4 h3 hb4 KF (by rw[ho];rfl);have b4:=((iK.below h3 uL).below hb4 (dP uL h3.size))
    have TP:=b4.cell;have TQ:=b4.frozen;clear fX b4;cases hm:x.2.any (rW 2)
    ·gi_wp2_with fail;exact bf.1 hm
    ·gi_wp2_with fail;obtain⟨r1,r2⟩:=bf.2 hm;exact⟨r1,rfl,r2⟩
  ·have aW:Hid (pY rs n=false):=by
    rw[Hid,af HS,wH,KF];rfl
   clear fX;cases ho:cQ x == n
   all_goals
    rw[ho]at lh;gi_wp2_with fail;refine⟨aQ,rfl,?_⟩;refine(CallsIn.inRound l' (cj.2 (CT _))).mono ?_;rintro e W3 ⟨rfl,hW3⟩;have h3:au W W3:=by
     rw[hW3]
     first
     | exact aO.alloc aA _
     | exact((Below.refl _ _).alloc (Nat.le_refl _) _).setCell (p:=⟨W.heap.size,0,none⟩) (Nat.le_refl W.heap.size) _
    clear hW3;have b4:=iK.below h3 uL;have TP:=b4.cell;have TQ:=b4.frozen;have B4:=ag b4;clear b4;have s3:=h3.size;gi_wp2_with fail;refine⟨aQ,?_⟩;gi_wp2_with fail;exact⟨(cz.xR h3).trans (cz.setCell W3 _ _ ae),rfl,aW,(hB.trans (h3.mono hB.size)).setCell (by show w.heap.size<=w.heap.size+1;omega) _,B4.set _⟩
 case done =>
  intro W hI cT hsz;obtain⟨hf,hB,hn',hc⟩:=hI;have cb:=hc.cell;have cf:=hc.frozen;have aW:Hid (pY rs n=true):=by
   rw[Hid,<- hf,sX aA];rfl
  clear hf;gi_wp2_with fail;have uJ:=(cZ W (ak (w.heap.size+1) 0) (.bool true) W2.heap.size (by show W2.heap.size≠w.heap.size+1;omega)).trans cT;refine⟨ar,.inl ⟨_,_,rfl,run_takeDeferred uJ,?_⟩⟩;have cr:=((hc.set (.bool true)).put (d:=W2.heap.size) (o:=.deferred none) ae).cell;refine⟨.bool true,by simp[results,results111,go_sem,cr],by rw[af aW],?_⟩;exact(hB.setCell (by show w.heap.size<=w.heap.size+1;omega) _).trans (belowK_b (w:=W2) ae _ _ _ _ aA uJ rfl rfl)
 case stop =>
  intro c W hI cT hsz;obtain⟨rfl,l9,hB,hc⟩:=hI;have aW:=ag l9;clear l9;have cb:=hc.cell;gi_wp2_with fail;refine⟨ar,.inl ⟨_,_,rfl,run_takeDeferred cT,?_⟩⟩;have cr:=(hc.put (d:=W2.heap.size) (o:=.deferred none) ae).cell;have jA:=hB.trans (belowK_b (w:=W2) (show w.heap.size<=W2.heap.size by omega) W _ _ (.deferred none) aA cT rfl rfl);exact⟨.bool false,by simp[results,results111,go_sem,cr],by rw[af aW],jA⟩
end
section
attribute [local go_sem] Oper.semAt_some undef
def mh(o:ah)(rs:List ai)(n:ah)(l:List ai):Bool :=
 dy n o && !(l.any (lZ 5) && decide (1<l.length)) && (n == o || !l.any (lZ 2) || pY rs n)
def lO(o:ah)(rs:List ai):Bool :=
 (bz bu rs).all (fun x=>pS x.2) && ((bz cN rs).all (fun x=>mh o rs (cQ x) x.2) && decide (0<(gi (cB rs o) 2).length))
theorem alS(l:List ai)(b off:Nat)(w:World)(hr:dG w b off l)(nT:0<l.length)(hl:l.length<=3001) :
  aB 108 #[aD b off l.length l.length] w (bQ (.bool (pS l)) w):=by
 cases l with
 | nil=>simp at nT
 | cons r t=>exact ak1 r t b off _ w hr hl aA
theorem alT(a:Option Addr)(n c:Nat)(w:World) :
  aB 109 #[.slice a n c] w fun e w'=>e=.returned (.func (.func 179) #[] #[aM w.heap.size])/\w'.heap.size=w.heap.size+1/\au w w'/\w'.cell? (ak w.heap.size 0)=some (.slice a n c):=by refine(TD _ _ _ _).mono ?_;rintro e w' ⟨rfl,rfl⟩;exact⟨rfl,ar,aO.alloc aA _,by go_simp⟩
theorem abc(b off cap:Nat)(o:ah)(rs:List ai)(w:World)(hr:dG w b off rs)(dt:rs.length<=cap)(hlen:rs.length<=3001)(gX:o.length<=3000)(ho:∀r∈rs,r.owner.length<=3000) :
  aB 60 #[ay o,aD b off rs.length cap] w (bQ (.bool (lO o rs)) w):=by
 refine(cj (n:=0)).1 ?_;refine callsIn_of_wp_marks func60 rfl aQ ?_;simp only[ntmps60,pc,bP,fy,Nat.reduceAdd,Nat.reduceSub,o_,pL,pN,pM,gb,fU];have bC:=ag hr;have HO:=ag ho;have hb:=hr.1;have dX:au w (((w.alloc (.cells #[.string (aq o)] 9)).alloc (.cells #[.slice (some ⟨b,off,none⟩) rs.length cap] 41)).alloc (.cells #[.bool false] 4)):=((aO.alloc aA _).alloc ar _).alloc aP _;have gR:=ag (show jm _ (aD b off rs.length cap) rs from .inr ⟨b,off,cap,rfl,dt,hr.below dX⟩);clear hr ho;gi_wp2_with fail;refine⟨aQ,rfl,?_⟩;refine(cj.2 (TI _ rs _ (af gR))).mono ?_;rintro e W2 ⟨rfl,e4,hb2,e2,e3⟩;have e0:aR W2 w.heap.size (ay o) 9:=(((aR.l7 _ _ _).alloc _).alloc _).below hb2 eI;have e1:aR W2 (w.heap.size+1) (aD b off rs.length cap) 41:=by
  have:=((aR.l7 (w.alloc (.cells #[.string (aq o)] 9)) (aD b off rs.length cap) 41).alloc (.cells #[.bool false] 4)).below hb2 eI
  rwa [dD]at this
 have alU:aR W2 (w.heap.size+1+1) (.bool false) 4:=by
  have:=(aR.l7 ((w.alloc (.cells #[.string (aq o)] 9)).alloc (.cells #[.slice (some ⟨b,off,none⟩) rs.length cap] 41)) (.bool false) 4).below hb2 eI
  rwa [dD,dD]at this
 have e5:au w W2:=dX.trans (hb2.mono eI);simp only[dD]at e4 e2 e3;clear dX hb2 gR;gi_wp2_with fail;have hgrow:∀r,au W2 ((W2.alloc (.deferred (some []))).alloc (.loop r)):=fun r=>(aO.alloc aA _).alloc ar _;have kP:=ag (bC.below e5);refine E_ (xs:=bz bu rs) (encs:=fun x:Nat×List ai=>#[aD b (off+x.1*4) x.2.length x.2.length]) (St:=fun A B=>au A B) (Kp:=j_ (w.heap.size+1+1+1) (w.heap.size+1+1+1+1) b) (Kx:=fun _ _=>True)
  (gf:=233) (lb:=#[aM (w.heap.size+1+1+1),aM (w.heap.size+1+1+1+1)]) rfl (enters_of func233 aI rfl) (fun _=>rfl) ?HI
  [w.heap.size+1+1+1,w.heap.size+1+1+1+1,b] aP (fun A B hA h=>h.mono hA) (fun A B h h'=>⟨h'.1,h _ ar,h _ ar,h _ ar⟩) (fun _ _ _=>aQ)
  (fun i W=>((bz bu rs).drop i).all (fun x=>pS x.2)=(bz bu rs).all (fun x=>pS x.2)/\au w W/\aR W w.heap.size (ay o) 9/\aR W (w.heap.size+1) (aD b off rs.length cap) 41/\aR W (w.heap.size+1+1) (.bool false) 4)
  (fun c W=>c=.ret/\lO o rs=false/\au w W/\aR W (w.heap.size+1+1) (.bool false) 4)
  (fun i A B h hb=>⟨h.1,h.2.1.trans (hb.mono ae),h.2.2.1.below hb ae,h.2.2.2.1.below hb ae,h.2.2.2.2.below hb ae⟩)
  (fun c A B h hb=>⟨h.1,h.2.1,h.2.2.1.trans (hb.mono ae),h.2.2.2.below hb ae⟩)
  ⟨rfl,e5,e0,e1,alU⟩
  ?round ?done ?stop
 case HI =>
  intro r;have hg:=hgrow r;exact HI b off cap _ _ rs _ ((hg.cell (p:=⟨w.heap.size+1+1+1,0,none⟩) (by show w.heap.size+1+1+1<W2.heap.size;omega)).trans e2) ((hg.cell (p:=⟨w.heap.size+1+1+1+1,0,none⟩) (by show w.heap.size+1+1+1+1<W2.heap.size;omega)).trans e3) (kP.below hg) (by have:=hg.size;omega) (by have:=hg.size;omega) hlen dt
 case round =>
  intro l' i x V W hx hI hsz;gi_wp2_with fail;refine⟨aQ,?_⟩;obtain⟨hf,hB,eQ,mI,hc⟩:=hI;have hmem:x∈bz bu rs:=ux hx;have gM:=E6 (bC.below hB) hmem;have nT:=(wD hmem).2.1;have hrl:=CQ hmem;have hst:=T1 (p:=fun x=>pS x.2) hx;rw[hf]at hst;have HS:=ag hst;have HC:=ag (alS x.2 b (off+x.1*4) W gM nT ae);have hE:=ag eQ;have ll:=ag mI;have iK:=ag hc;clear hf hst eQ mI hc hmem gM;cases hs:pS x.2
  ·have aW:Hid (lO o rs=false):=by unfold lO;rw[Hid,af HS,hs];rfl
   gi_wp2_with fail;refine⟨aQ,rfl,?_⟩;refine(CallsIn.inRound l' (cj.2 (af HC))).mono ?_;rintro e W4 ⟨rfl,hb4⟩;have hb5:=iK.below hb4 iK.lt;have cb:=hb5.cell;have cf:=hb5.frozen;have fR:=ag hb5;have TS:=hb4.size;clear hb5;gi_wp2_with fail;exact⟨(cz.xR hb4).trans (cz.setCell W4 _ _ ae),rfl,aW,(hB.trans (hb4.mono hB.size)).setCell (by show w.heap.size<=w.heap.size+1+1;omega) _,fR.set _⟩
  ·have aW:Hid (((bz bu rs).drop (i+1)).all (fun x=>pS x.2)=(bz bu rs).all (fun x=>pS x.2)):=by rw[Hid,af HS,hs];rfl
   gi_wp2_with fail;refine⟨aQ,rfl,?_⟩;refine(CallsIn.inRound l' (cj.2 (af HC))).mono ?_;rintro e W4 ⟨rfl,hb4⟩;have alV:=ag (hE.below hb4 hE.lt);have alW:=ag (ll.below hb4 ll.lt);have alX:=ag (iK.below hb4 iK.lt);gi_wp2_with fail;exact⟨cz.xR hb4,fun k hk=>hb4.block k (by simp at hk;omega),aW,hB.trans (hb4.mono hB.size),alV,alW,alX⟩
 case stop =>
  intro c W hI cT hsz;obtain⟨rfl,l9,hB,hc⟩:=hI;have aW:=ag l9;clear l9;have cb:=hc.cell;gi_wp2_with fail;refine⟨ar,.inl ⟨_,_,rfl,run_takeDeferred cT,?_⟩⟩;have cr:=(hc.put (d:=W2.heap.size) (o:=.deferred none) ae).cell;have jA:=hB.trans (belowK_b (w:=W2) (show w.heap.size<=W2.heap.size by omega) W _ _ (.deferred none) aA cT rfl rfl);exact⟨.bool false,by simp[results,results60,go_sem,cr],by rw[af aW],jA⟩
 case done =>
  intro W hI cT hsz;obtain⟨hf,hB,eQ,mI,hc⟩:=hI;have hall:(bz bu rs).all (fun x=>pS x.2)=true:=by
   rw[<- hf,sX aA];rfl
  have HT:Hid (lO o rs=((bz cN rs).all (fun x=>mh o rs (cQ x) x.2) && decide (0<(gi (cB rs o) 2).length))):=by unfold lO;rw[Hid,hall];rfl
  clear hf hall;have abd:=mI.cell;have hE:=ag eQ;have ll:=ag mI;have iK:=ag hc;clear eQ mI hc;gi_wp2_with fail;refine⟨aQ,rfl,?_⟩;refine(cj.2 (alT _ _ _ _)).mono ?_;rintro e W5 ⟨rfl,e7,e8,e6⟩;rw[e4]at cT hsz;have alY:=hB.size;have n9:=ag ((bC.below hB).below e8);have I0:=ag (hE.below e8 hE.lt);have I1:=ag (ll.below e8 ll.lt);have I2:=ag (iK.below e8 iK.lt);clear abd;gi_wp2_with fail;have abe:∀r,au W5 ((W5.alloc (.deferred (some []))).alloc (.loop r)):=fun r=>(aO.alloc aA _).alloc ar _;have abf:∀r,((W5.alloc (.deferred (some []))).alloc (.loop r)).heap.size=W5.heap.size+2:=fun r=>by simp
  refine E_ (xs:=bz cN rs) (encs:=fun x:Nat×List ai=>#[ay (cQ x),aD b (off+x.1*4) x.2.length x.2.length]) (St:=fun A B=>Below (W5.heap.size+2) A B) (Kp:=fun A B=>B.heap[b]? = A.heap[b]?/\cz (W5.heap.size+2) A B) (Kx:=fun A B=>cz (W5.heap.size+2) A B)
   (gf:=179) (lb:=#[aM W.heap.size]) rfl (enters_of func179 aI rfl) (fun _=>rfl) ?seq2
   [b] aP (fun _ _ _ h=>h) (fun A B h h'=>⟨h _ ar,h'⟩) (fun _ _ h=>h)
   (fun i V=>((bz cN rs).drop i).all (fun x=>mh o rs (cQ x) x.2)=(bz cN rs).all (fun x=>mh o rs (cQ x) x.2)/\au w V/\aR V w.heap.size (ay o) 9/\aR V (w.heap.size+1) (aD b off rs.length cap) 41/\aR V (w.heap.size+1+1) (.bool false) 4/\V.heap[w.heap.size+5]? = some (.deferred (some [])))
   (fun c V=>c=.ret/\lO o rs=false/\au w V/\aR V (w.heap.size+1+1) (.bool false) 4/\V.heap[w.heap.size+5]? = some (.deferred (some [])))
   (fun i A B h hb=>⟨h.1,h.2.1.trans (hb.mono ae),h.2.2.1.below hb ae,h.2.2.2.1.below hb ae,h.2.2.2.2.1.below hb ae,(hb.block _ ae).trans h.2.2.2.2.2⟩)
   (fun c A B h hb=>⟨h.1,h.2.1,h.2.2.1.trans (hb.mono ae),h.2.2.2.1.below hb ae,(hb.block _ ae).trans h.2.2.2.2⟩)
   ⟨rfl,hB.trans (e8.mono alY),I0,I1,I2,(e8.block _ ae).trans cT⟩
   ?alZ ?done2 ?stop2
  case seq2 =>
   intro r;have hg:=abe r;have:=TE b off cap W.heap.size rs ((W5.alloc (.deferred (some []))).alloc (.loop r)) ((hg.cell (p:=⟨W.heap.size,0,none⟩) (by show W.heap.size<W5.heap.size;omega)).trans e6) (n9.below hg) (by have:=hg.size;omega) hlen dt;rw[abf r]at this;exact this
  case alZ =>
   intro l' i x V' V hx hI CM;gi_wp2_with fail;refine⟨aQ,?_⟩;obtain⟨hf,wI,eQ,mI,hc,eP⟩:=hI;have hmem:x∈bz cN rs:=ux hx;have gM:=E6 (bC.below wI) hmem;have hrl:=CQ hmem;obtain⟨r,E9,hro⟩:=aay hmem;have g_:(cQ x).length<=3000:=by rw[<- hro];exact HO r E9
   have hst:=T1 (p:=fun x=>mh o rs (cQ x) x.2) hx;rw[hf]at hst;have HS:=ag hst;have al0:=eQ.cell;have hE:=ag eQ;have ll:=ag mI;have uP:=ag hc;have rX:=ag eP;have bI:=ag gM;have zr:Hid (aB 110 #[ay (cQ x),ay o] V fun e w'=>e=.returned (.bool (dy (cQ x) o))/\w'=V) :=
    Kh (aq (cQ x)) (aq o) V (by rw[bJ];omega) (by rw[bJ];omega)
   have CZ:Hid (mh o rs (cQ x) x.2=false->∀W4,au V W4->cz W5.heap.size V (W4.setCell ⟨w.heap.size+1+1,0,none⟩ (.bool false))/\lO o rs=false/\au w (W4.setCell ⟨w.heap.size+1+1,0,none⟩ (.bool false))/\aR (W4.setCell ⟨w.heap.size+1+1,0,none⟩ (.bool false)) (w.heap.size+1+1) (.bool false) 4/\(W4.setCell ⟨w.heap.size+1+1,0,none⟩ (.bool false)).heap[w.heap.size+5]? = some (.deferred (some []))):=by
    intro hs W4 hb4;have TS:=hb4.size;have aW:lO o rs=false:=by rw[af HT,af HS,hs];rfl
    exact⟨(cz.xR hb4).trans (cz.setCell W4 _ _ ae),aW,(wI.trans (hb4.mono wI.size)).setCell (by show w.heap.size<=w.heap.size+1+1;omega) _,(uP.below hb4 uP.lt).set _,(cZ _ _ _ _ (by show w.heap.size+5≠w.heap.size+1+1;omega)).trans ((hb4.block _ ae).trans (af rX))⟩
   have wG:Hid (mh o rs (cQ x) x.2=true->∀W4,au V W4->cz W5.heap.size V W4/\(∀k∈[b],W4.heap[k]? = V.heap[k]?)/\(((bz cN rs).drop (i+1)).all (fun x=>mh o rs (cQ x) x.2)=(bz cN rs).all (fun x=>mh o rs (cQ x) x.2)/\au w W4/\aR W4 w.heap.size (ay o) 9/\aR W4 (w.heap.size+1) (aD b off rs.length cap) 41/\aR W4 (w.heap.size+1+1) (.bool false) 4/\W4.heap[w.heap.size+5]? = some (.deferred (some [])))):=by
    intro hs W4 hb4;exact⟨cz.xR hb4,fun k hk=>hb4.block k (by simp at hk;omega),by rw[af HS,hs];rfl,wI.trans (hb4.mono wI.size),hE.below hb4 hE.lt,ll.below hb4 ll.lt,uP.below hb4 uP.lt,(hb4.block _ ae).trans (af rX)⟩
   have nk:Hid (∀W4,au V W4->W4.cell? (ak w.heap.size 0)=some (ay o)/\W4.cell? (ak (w.heap.size+1) 0)=some (aD b off rs.length cap)/\W4.cell? (ak (w.heap.size+1+1) 0)=some (.bool false)/\W4.frozen? (ak (w.heap.size+1+1) 0)=false):=fun W4 hb4 =>
    ⟨(hE.below hb4 hE.lt).cell,(ll.below hb4 ll.lt).cell,(uP.below hb4 uP.lt).cell,(uP.below hb4 uP.lt).frozen⟩
   have KG:Hid (∀W4,au V W4->jm W4 (aD b (off+x.1*4) x.2.length x.2.length) x.2):=fun W4 hb4=>.inr ⟨b,off+x.1*4,x.2.length,rfl,bH _,bI.below hb4⟩;have T9:Hid (∀W4,au V W4->dG W4 b off rs):=fun W4 hb4=>(bC.below wI).below hb4;clear hf hst eQ mI hc hmem gM hro E9 eP;have lh:((aq (cQ x)).toList == (aq o).toList)=(cQ x == o):=CN;cases hu:dy (cQ x) o
   ·have hs:mh o rs (cQ x) x.2=false:=by unfold mh;rw[hu];rfl
    have bf:=ag (CZ hs V aO);obtain⟨_,_,cb,cf⟩:=af nk V aO;gi_wp2_with fail;refine⟨aQ,rfl,?_⟩;refine(CallsIn.inRound l' (cj.2 (af zr))).mono ?_;rintro e V ⟨rfl,rfl⟩;clear CZ wG nk KG T9 zr bI rX uP ll hE HS hs lh abf abe I0 I1 I2 n9 hx;gi_wp2_with fail;refine⟨aQ,?_⟩;gi_wp2_with fail;exact⟨bf.1,rfl,bf.2⟩
   cases h5:x.2.any (lZ 5) && decide (1<x.2.length)
   ·have hr1:Hid (mh o rs (cQ x) x.2=(cQ x == o || !x.2.any (lZ 2) || pY rs (cQ x))):=by unfold mh;rw[hu,h5];rfl
    have OD:(x.2.any (lZ 5)=false)\/(x.2.any (lZ 5)=true/\(x.2.length:Int)<=1):=by
     cases hh:x.2.any (lZ 5)
     ·exact .inl rfl
     ·rw[hh]at h5;simp at h5;exact .inr ⟨rfl,ae⟩
    clear h5;have xX:=ag (fun W4 (h:au V W4)=>Ts 5 _ x.2 W4 (KG W4 h) ae);have n_:=ag (fun W4 (h:au V W4)=>Ts 2 _ x.2 W4 (KG W4 h) ae);have E1:=ag (fun W4 (h:au V W4)=>alR b off cap (cQ x) rs W4 (T9 W4 h) dt hlen g_ (af HO));clear HS bI KG T9 hE ll uP rX;cases hno:cQ x == o
    ·rw[hno]at lh;cases h2:x.2.any (lZ 2)
     ·have hs:=ag (show mh o rs (cQ x) x.2=true by rw[af hr1,hno,h2];rfl);rcases OD with h5|⟨h5,OE⟩
      all_goals
       gi_wp2_with fail;refine⟨aQ,rfl,?_⟩;refine(CallsIn.inRound l' (cj.2 (af zr))).mono ?_;rintro e V ⟨rfl,rfl⟩;gi_wp2_with fail;refine⟨aQ,rfl,?_⟩;refine(CallsIn.inRound l' (cj.2 (xX _ aO))).mono ?_;rintro e W4 ⟨rfl,hb4⟩;obtain⟨gu,d1,d2,d3⟩:=af nk W4 hb4;gi_wp2_with fail;refine⟨aQ,rfl,?_⟩;refine(CallsIn.inRound l' (cj.2 (n_ _ hb4))).mono ?_;rintro e W6 ⟨rfl,dR⟩;have bf:=ag (wG hs W6 (hb4.trans (dR.mono hb4.size)));clear wG;gi_wp2_with fail;refine⟨aQ,?_⟩;gi_wp2_with fail;exact bf
     ·cases abg:pY rs (cQ x)
      ·have hs:=ag (show mh o rs (cQ x) x.2=false by rw[af hr1,hno,h2,abg];rfl);rcases OD with h5|⟨h5,OE⟩
       all_goals
        gi_wp2_with fail;refine⟨aQ,rfl,?_⟩;refine(CallsIn.inRound l' (cj.2 (af zr))).mono ?_;rintro e V ⟨rfl,rfl⟩;gi_wp2_with fail;refine⟨aQ,rfl,?_⟩;refine(CallsIn.inRound l' (cj.2 (xX _ aO))).mono ?_;rintro e W4 ⟨rfl,hb4⟩;obtain⟨gu,d1,d2,d3⟩:=af nk W4 hb4;gi_wp2_with fail;refine⟨aQ,rfl,?_⟩;refine(CallsIn.inRound l' (cj.2 (n_ _ hb4))).mono ?_;rintro e W6 ⟨rfl,dR⟩;have A7:=hb4.trans (dR.mono hb4.size);obtain⟨f0,f1,f2,f3⟩:=af nk W6 A7;gi_wp2_with fail;refine⟨aQ,rfl,?_⟩;refine(CallsIn.inRound l' (cj.2 (E1 _ A7))).mono ?_;rintro e W7 ⟨rfl,di⟩;have abh:=A7.trans (di.mono A7.size);obtain⟨g0,g1,g2,g3⟩:=af nk W7 abh;have bf:=ag (CZ hs W7 abh);clear CZ wG;gi_wp2_with fail;exact⟨bf.1,rfl,bf.2⟩
      ·have hs:=ag (show mh o rs (cQ x) x.2=true by rw[af hr1,hno,h2,abg];rfl);rcases OD with h5|⟨h5,OE⟩
       all_goals
        gi_wp2_with fail;refine⟨aQ,rfl,?_⟩;refine(CallsIn.inRound l' (cj.2 (af zr))).mono ?_;rintro e V ⟨rfl,rfl⟩;gi_wp2_with fail;refine⟨aQ,rfl,?_⟩;refine(CallsIn.inRound l' (cj.2 (xX _ aO))).mono ?_;rintro e W4 ⟨rfl,hb4⟩;obtain⟨gu,d1,d2,d3⟩:=af nk W4 hb4;gi_wp2_with fail;refine⟨aQ,rfl,?_⟩;refine(CallsIn.inRound l' (cj.2 (n_ _ hb4))).mono ?_;rintro e W6 ⟨rfl,dR⟩;have A7:=hb4.trans (dR.mono hb4.size);obtain⟨f0,f1,f2,f3⟩:=af nk W6 A7;gi_wp2_with fail;refine⟨aQ,rfl,?_⟩;refine(CallsIn.inRound l' (cj.2 (E1 _ A7))).mono ?_;rintro e W7 ⟨rfl,di⟩;have bf:=ag (wG hs W7 (A7.trans (di.mono A7.size)));clear CZ wG;gi_wp2_with fail;exact bf
    ·rw[hno]at lh;have hs:=ag (show mh o rs (cQ x) x.2=true by rw[af hr1,hno];rfl);rcases OD with h5|⟨h5,OE⟩
     all_goals
      gi_wp2_with fail;refine⟨aQ,rfl,?_⟩;refine(CallsIn.inRound l' (cj.2 (af zr))).mono ?_;rintro e V ⟨rfl,rfl⟩;gi_wp2_with fail;refine⟨aQ,rfl,?_⟩;refine(CallsIn.inRound l' (cj.2 (xX _ aO))).mono ?_;rintro e W4 ⟨rfl,hb4⟩;obtain⟨gu,d1,d2,d3⟩:=af nk W4 hb4;have bf:=ag (wG hs W4 hb4);clear CZ wG;gi_wp2_with fail;refine⟨aQ,?_⟩;gi_wp2_with fail;refine⟨aQ,?_⟩;gi_wp2_with fail;exact bf
   ·have hs:=ag (show mh o rs (cQ x) x.2=false by unfold mh;rw[hu,h5];rfl);rw[cY]at h5;obtain⟨aze,Fh⟩:=h5;have OE:(1:Int)<(x.2.length:Int):=by simp at Fh;omega
    clear Fh;have xX:=ag (Ts 5 _ x.2 V (KG V aO) ae);gi_wp2_with fail;refine⟨aQ,rfl,?_⟩;refine(CallsIn.inRound l' (cj.2 (af zr))).mono ?_;rintro e V ⟨rfl,rfl⟩;gi_wp2_with fail;refine⟨aQ,rfl,?_⟩;refine(CallsIn.inRound l' (cj.2 (af xX))).mono ?_;rintro e W4 ⟨rfl,hb4⟩;obtain⟨gu,d1,d2,d3⟩:=af nk W4 hb4;have bf:=ag (CZ hs W4 hb4);clear CZ wG;gi_wp2_with fail;exact⟨bf.1,rfl,bf.2⟩
  case stop2 =>
   intro c V hI KH CM;obtain⟨rfl,l9,wI,hc,eP⟩:=hI;have aW:=ag l9;clear l9;have cb:=hc.cell;gi_wp2_with fail;refine⟨ar,.inl ⟨_,_,rfl,run_takeDeferred KH,?_⟩⟩;have KI:=(World.putObj_heap_other (w:=V) (o:=.deferred none) (show w.heap.size+5≠W5.heap.size by omega)).trans eP;refine⟨ar,.inl ⟨_,_,rfl,run_takeDeferred KI,?_⟩⟩;have cr:=((hc.put (d:=W5.heap.size) (o:=.deferred none) ae).put (d:=w.heap.size+5) (o:=.deferred none) ae).cell;have hB1:=wI.trans (belowK_b (w:=W5) (show w.heap.size<=W5.heap.size by omega) V _ _ (.deferred none) aA KH rfl rfl);have hB2:=hB1.trans (belowK_b (w:=w) aA _ (w.heap.size+5) _ (.deferred none) ae KI rfl rfl);exact⟨.bool false,by simp[results,results60,go_sem,cr],by rw[af aW],hB2⟩
  case done2 =>
   intro V hI KH CM;rw[e7]at KH CM;obtain⟨hf,wI,eQ,mI,hc,eP⟩:=hI;have hall:(bz cN rs).all (fun x=>mh o rs (cQ x) x.2)=true:=by
    rw[<- hf,sX aA];rfl
   have aW:Hid (lO o rs=decide (0<(gi (cB rs o) 2).length)):=by rw[Hid,af HT,hall];rfl
   clear hf hall;have al0:=eQ.cell;have abd:=mI.cell;have T_:=ag (bC.below wI);have uP:=ag hc;have rX:=ag eP;have hmx:prog.follows .mixedOrders=true:=aI;clear eQ mI hc eP;gi_wp2_with fail;refine⟨aQ,rfl,?_⟩;refine(cj.2 (aaE b off cap o 2 rs _ (af T_) dt hlen)).mono ?_;rintro e V2 ⟨⟨v,rfl,hv⟩,hb4⟩;obtain⟨a4,aV,rfl⟩:=hv.slice;have hb5:=uP.below hb4 uP.lt;have fR:=ag hb5;have zy:=ag hb4;have azf:=hb5.cell;have azg:=hb5.frozen;clear hv hb5 hb4;gi_wp2_with fail;have hb4:=af zy;have TS:V.heap.size<=V2.heap.size:=hb4.size
   first|rw[e7]|skip
   have abj:(V2.setCell ⟨w.heap.size+1+1,0,none⟩ (.bool (decide (0<(gi (cB rs o) 2).length)))).heap[(W.heap.size+1)]? = some (.deferred (some [])) :=
    (cZ _ _ _ _ (by show(W.heap.size+1)≠w.heap.size+1+1;omega)).trans ((hb4.block _ (by show(W.heap.size+1)<V.heap.size;omega)).trans KH)
   refine⟨ar,.inl ⟨_,_,rfl,run_takeDeferred abj,?_⟩⟩;have KI:((V2.setCell ⟨w.heap.size+1+1,0,none⟩ (.bool (decide (0<(gi (cB rs o) 2).length)))).putObj (W.heap.size+1) (.deferred none)).heap[w.heap.size+5]? = some (.deferred (some [])) :=
    (World.putObj_heap_other ae).trans ((cZ _ _ _ _ (by show w.heap.size+5≠w.heap.size+1+1;omega)).trans ((hb4.block _ (by show w.heap.size+5<V.heap.size;omega)).trans (af rX)))
   refine⟨ar,.inl ⟨_,_,rfl,run_takeDeferred KI,?_⟩⟩;have cr:=(((fR.set (.bool (decide (0<(gi (cB rs o) 2).length)))).put (d:=(W.heap.size+1)) (o:=.deferred none) ae).put (d:=w.heap.size+5) (o:=.deferred none) ae).cell;have hB0:=(wI.trans (hb4.mono wI.size)).setCell (p:=⟨w.heap.size+1+1,0,none⟩) (by show w.heap.size<=w.heap.size+1+1;omega) (.bool (decide (0<(gi (cB rs o) 2).length)));have hB1:=hB0.trans (belowK_b (w:=W) (show w.heap.size<=W.heap.size by omega) _ _ _ (.deferred none) (Nat.le_succ _) abj rfl rfl);have hB2:=hB1.trans (belowK_b (w:=w) aA _ (w.heap.size+5) _ (.deferred none) ae KI rfl rfl);refine⟨_,by simp[results,results60,go_sem,cr];rfl,?_,hB2⟩;refine cA ?_;rw[af aW]
end
theorem al1(s:ByteArray)(w:World):aB 174 #[.string s] w fun e w'=>e=.returned (.bool false)/\w'=w:=by go_enter func174,ntmps174;go_wp2;go_ret;exact⟨ar,rfl⟩
def Fi(a b:ah):Int:=if Op.bytesLess a b then -1 else if a == b then 0 else 1
theorem al2(s t:ByteArray)(w:World):aB 105 #[.string s,.string t] w fun e w'=>e=.returned (aj (Fi s.data.toList t.data.toList))/\w'=w:=by go_enter func105,ntmps105;go_wp2_with (go_at_call 174;refine(al1 _ _).mono ?_;rintro e w ⟨rfl,rfl⟩);all_goals(go_ret;refine⟨EY ?_,rfl⟩;unfold Fi;simp only[nQ]at *;simp_all)
def HV(x y:Int):Int:=if x=0 then y else x
theorem al3(x y:Int)(b c:Nat)(w:World)(h0:w.cell? (ak b 0)=some (aj x))(h1:w.cell? (ak b 1)=some (aj y)) :
  aB 104 #[aD b 0 2 c] w fun e w'=>e=.returned (aj (HV x y))/\w'=w:=by
 by_cases hx:x=0;{
 have aY:Hid (HV x y=y):=aJ hx;subst hx;by_cases hy:y=0;{
 subst hy;go_enter func104,ntmps104;go_wp2;go_loop [8] (fun i=>∃k:Nat,k<=2/\i=aj k) (fun i=>2 - (intOf i).toNat);case atStart=>exact⟨0,ae,rfl⟩
 case round =>(
 obtain⟨k,hk,rfl⟩:=hrel;match k,hk with
 | 0,_ =>{
 go_wp2;go_round;case rel=>exact⟨1,ae,bW⟩
 case measure=>simp[intOf]}
 | 1,_ =>{
 go_wp2;go_round;case rel=>exact⟨2,ae,bW⟩
 case measure=>simp[intOf]}
 | 2,_ =>{go_wp2;go_ret;exact⟨EY aY.symm,rfl⟩})};{
 have hyb:(y != 0)=true:=by rw[qJ];exact hy
 go_enter func104,ntmps104;go_wp2;go_loop [8] (fun i=>∃k:Nat,k<=1/\i=aj k) (fun i=>2 - (intOf i).toNat);case atStart=>exact⟨0,ae,rfl⟩
 case round =>(
 obtain⟨k,hk,rfl⟩:=hrel;match k,hk with
 | 0,_ =>{
 go_wp2;go_round;case rel=>exact⟨1,ae,bW⟩
 case measure=>simp[intOf]}
 | 1,_ =>{go_wp2;go_ret;exact⟨EY aY.symm,rfl⟩})}};{
 have hxb:(x != 0)=true:=by rw[qJ];exact hx
 have aY:Hid (HV x y=x):=aF hx;go_enter func104,ntmps104;go_wp2;go_loop [8] (fun i=>i=aj 0) (fun i=>2 - (intOf i).toNat);case atStart=>rfl
 case round =>(obtain rfl:=hrel;go_wp2;go_ret;exact⟨EY aY.symm,rfl⟩)}
def mJ(r s:ai):Int:=HV (Fi r.owner s.owner) (Lib.compareInt r.type s.type)
theorem OG(r s:ai)(w:World) :
  aB 103 #[.agg #[ay r.owner,aj r.aG,aj r.type,ay r.data],.agg #[ay s.owner,aj s.aG,aj s.type,ay s.data]] w fun e w' =>
   e=.returned (aj (mJ r s))/\∃q os',w'=Sort.grow (w.drewN q) os':=by
 have hc1:∀W,aB 105 #[ay r.owner,ay s.owner] W fun e w'=>e=.returned (aj (Fi r.owner s.owner))/\w'=W:=fun W=>al2 _ _ W;have hc2:∀W,aB 106 #[aj r.type,aj s.type] W fun e w'=>e=.returned (aj (Lib.compareInt r.type s.type))/\w'=W:=fun W=>Tryz.cmp_Compare_int _ _ W;have og:=ag hc1;have n_:=ag hc2;have aY:Hid (mJ r s=HV (Fi r.owner s.owner) (Lib.compareInt r.type s.type)):=rfl;generalize Fi r.owner s.owner=x at *;generalize Lib.compareInt r.type s.type=y at *;clear hc1 hc2;go_enter func103,ntmps103;go_wp2_with fail
 go_region_held (fun w'=>w'.cell? (ak w.heap.size 0)=some (ay r.owner)/\w'.cell? (ak w.heap.size 2)=some (aj r.type)/\w'.cell? (ak (w.heap.size+1) 0)=some (ay s.owner)/\w'.cell? (ak (w.heap.size+1) 2)=some (aj s.type)) (go_keep)
  (first
   | (go_at_call 105;refine(og _).mono ?_;rintro e w' ⟨rfl,rfl⟩)
   | (go_at_call 106;refine(n_ _).mono ?_;rintro e w' ⟨rfl,rfl⟩)
   | (go_at_call 104;refine(al3 x y _ _ _ (by go_simp) (by go_simp)).mono ?_;rintro e w' ⟨rfl,rfl⟩))
 all_goals
  go_wp2;go_ret;refine⟨EY aY.symm,1,#[.cells #[.string (aq r.owner),.int .i64 r.aG,.int .i64 r.type,.string (aq r.data)] 47,.cells #[.string (aq s.owner),.int .i64 s.aG,.int .i64 s.type,.string (aq s.data)] 47,.cells #[.int .i64 x,.int .i64 y] 3],?_⟩;rw[Sort.alloc_eq_grow,Sort.alloc_eq_grow,Sort.alloc_eq_grow,Sort.grow_grow,Sort.grow_grow];rfl
section
open Go.RowKit Go.Sort
def aN(rs:List ai):List ai:=(Sort.insertionSort (ltOf mJ) rs.toArray 0 rs.length).toList
theorem abk{w:World}{g:Nat}{cur:Array Value}{e:TypeId}{rs:List ai}(hg:w.heap[g]? = some (.cells cur e))(hr:dG w g 0 rs):HoldsK ai.aS 4 w g 0 rs.toArray:=by
 intro j hj;rw[size_flatK]at hj;simp only[pc]at hj;rw[get_flatK _ _ _ _ (by simpa using hj)];refine⟨?_,by simp[World.frozen?,hg]⟩;have Ou:j/4<rs.length:=ae;have hlen:(ai.aS rs[j/4]!).length=4:=rfl;have h1:(ai.aS rs[j/4]!)[j%4]? = some (ai.aS rs[j/4]!)[j%4]!:=by{
 have hk:j%4<(ai.aS rs[j/4]!).length:=by rw[hlen];omega
 rw[iw hk,Hz (ai.aS rs[j/4]!) (j%4) hk]};have:=hr.2 (j/4) Ou (j%4) _ h1;rw[show 0+j/4*4+j%4=0+j from ae]at this;rw[this];simp
theorem al4{w:World}{g:Nat}{rs:List ai}(hg:g<w.heap.size)(h:HoldsK ai.aS 4 w g 0 rs.toArray):dG w g 0 rs:=by
 refine⟨hg,fun j hj i u hu=>?_⟩;have ax:i<4:=by have:=(jX.1 hu).1;exact this
 have hc:=(h.cell (i:=j) (c:=i) (by simpa using hj) ax).1;rw[hc];have e:rs.toArray[j]! = rs[j]!:=ar;rw[e];rw[jX]at hu;obtain⟨h1,h2⟩:=hu;rw[Hz (ai.aS rs[j]!) i h1,h2]
theorem al5(blk off size:Nat)(w:World):CmpLays prog 103 #[] ai.aS 4 mJ blk off size w :=
 fun _ _ _ _ x y=>OG x y _
theorem Ua(lt:ai->ai->Bool)(a:Nat):∀(j:Nat) (d:Array ai),(insInner lt a j d).size=d.size
 | 0,d=>rfl
 | j+1,d=>by rw[insInner];split;{rw[Ua lt a j,size_swp]};{rfl}
theorem abl(lt:ai->ai->Bool)(a b:Nat):∀(f i:Nat) (d:Array ai),b - i<=f->(insOuter lt a b i d).size=d.size
 | 0,i,d,h=>by rw[insOuter,aF ae]
 | f+1,i,d,h=>by rw[insOuter];split;{rw[abl lt a b f _ _ ae,Ua]};{rfl}
theorem OH(lt:ai->ai->Bool)(d:Array ai)(a b:Nat):(Sort.insertionSort lt d a b).size=d.size:=abl lt a b _ _ d aA
theorem abm(rs:List ai):(aN rs).length=rs.length:=by unfold aN;rw[uv,OH];simp
theorem al6{p:ai->Prop}{d:Array ai}(h:∀k,k<d.size->p d[k]!){i j:Nat}(ax:i<d.size)(hj:j<d.size):∀k,k<(swp d i j).size->p (swp d i j)[k]!:=by
 intro k hk;rw[size_swp]at hk;unfold swp;have kO:k<(d.setIfInBounds i d[j]!).size:=by simpa using hk
 have hk2:k<((d.setIfInBounds i d[j]!).setIfInBounds j d[i]!).size:=by simpa using hk
 rw[Hz _ k hk2,ZL kO];split;{exact h i ax};{rw[ZL hk];split;{exact h j hj};{rw[<- Hz d k hk];exact h k hk}}
theorem abn{p:ai->Prop}(lt:ai->ai->Bool)(a:Nat):∀(j:Nat) (d:Array ai),j<d.size->(∀k,k<d.size->p d[k]!)->∀k,k<(insInner lt a j d).size->p (insInner lt a j d)[k]!
 | 0,d,_,h=>h
 | j+1,d,hj,h=>by rw[insInner];split;{exact abn lt a j _ (by rw[size_swp];omega) (al6 h hj ae)};{exact h}
theorem abo{p:ai->Prop}(lt:ai->ai->Bool)(a b:Nat):∀(f i:Nat) (d:Array ai),b - i<=f->b<=d.size->(∀k,k<d.size->p d[k]!)->∀k,k<(insOuter lt a b i d).size->p (insOuter lt a b i d)[k]!
 | 0,i,d,hf,hb,h=>by rw[insOuter,aF ae];exact h
 | f+1,i,d,hf,hb,h=>by rw[insOuter];split;{exact abo lt a b f _ _ ae (by rw[Ua];exact hb) (abn lt a i d ae h)};{exact h}
theorem al7{p:ai->Prop}{rs:List ai}(h:∀r∈rs,p r):∀r∈aN rs,p r:=by
 intro r hr;obtain⟨k,hk,rfl⟩:=List.getElem_of_mem hr;have gF:k<(Sort.insertionSort (ltOf mJ) rs.toArray 0 rs.length).size:=by unfold aN at hk;simpa using hk
 have:=abo (p:=p) (ltOf mJ) 0 rs.length _ 1 rs.toArray aA ar (fun k hk=>by{
 have hk2:k<rs.length:=by simpa using hk
 have e:rs.toArray[k]! = rs[k]:=by simp[hk2]
 rw[e];exact h _ (cM _)}) k gF
 have e:(aN rs)[k]=(Sort.insertionSort (ltOf mJ) rs.toArray 0 rs.length)[k]!:=by{unfold aN;rw[Hz _ k gF];simp};exact e ▸ this
theorem al8{B g n:Nat}{a w:World}{dk:Array ai}{os:Array Obj}(h:Below B a w)(hg:B<=g)(hB:B<=w.heap.size):Below B a (sortWorldK ai.aS 4 w g 0 n dk os):=by refine h.trans ⟨rfl,rfl,rfl,?_,fun k hk=>?_⟩;{exact size_sortWorldK_c ai.aS 4 w g 0 n dk os};{unfold sortWorldK putRowK putRow mapBlock Sort.grow Sort.ahead;show((w.heap.modify g _)++os)[k]? = w.heap[k]?;rw[ZG (by rw[Array.size_modify];omega),fw,aF ae]}
end
def il(t:ah):Option (ah×List ai) :=
 (jl t).bind fun x=>if lL x.1 x.2 && lO x.1 (aN x.2)then some (x.1,aN x.2)else none
def al9(o:Option (ah×List ai))(base:Nat)(e:Ending)(w':World):Prop :=
 match o with
 | none=>e=.returned (.tuple #[.pointer none,aj 1])
 | some (o,rs)=>∃zb g cap,e=.returned (.tuple #[aM zb,aj 0])/\base<=zb/\base<=g/\iD w' zb o g 0 cap rs
theorem al_(s:ByteArray)(w:World)(hs:s.size<=281474976710656) :
  aB 57 #[.string s] w (bQ (.string s) w):=by go_enter func57,ntmps57;go_wp2_with fail;refine(Tryz.stringslite_Clone s w hs).mono ?_;rintro e w1 ⟨rfl,hb⟩;go_wp2;go_ret;exact⟨rfl,hb⟩
theorem ama(o:ah)(b off n cap:Nat)(w:World) :
  aB 61 #[ay o,aD b off n cap] w fun e w'=>e=.returned (aM w.heap.size)/\au w w'/\w.heap.size<w'.heap.size /\
   w'.cell? (ak w.heap.size 0)=some (ay o)/\w'.cell? (ak w.heap.size 1)=some (aD b off n cap):=by go_enter func61,ntmps61;go_wp2;go_ret;exact⟨rfl,aO.alloc aA _,ar,by go_simp,by go_simp⟩
theorem abp{w:World}{base:Nat}{v:Value}{rs:List ai}(h:wz w base v rs)(hne:rs≠[]) :
  ∃g cap cur,v=aD g 0 rs.length cap/\base<=g/\w.heap[g]? = some (.cells cur 47)/\rs.length<=cap/\dG w g 0 rs:=by have pV:=h.rv;obtain⟨⟨hlen,hv⟩,hnil⟩:=h;rcases hv with⟨rfl,h0⟩|⟨g,cap,cur,rfl,hb,aZ,hc,hm,hsz,ja⟩;{exact absurd (hnil.1 rfl) hne};{refine⟨g,cap,cur,rfl,hb,aZ,hc,?_⟩;rcases pV with⟨e,_⟩|⟨b',off',cap',e,_,hr⟩;{cases e};{cases e;exact hr}}
end Go.Proofs.YtkkpahmoljiepaaGreatDoor
