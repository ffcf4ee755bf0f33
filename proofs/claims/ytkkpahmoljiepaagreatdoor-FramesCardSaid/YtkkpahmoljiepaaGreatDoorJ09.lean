import Derived.Test.YtkkpahmoljiepaaGreatDoorJ07
import Derived.Deep.RegionHeld
import Derived.Test.YtkkpahmoljiepaaGreatDoorJ08
import Derived.Conc.LoneSelect
set_option maxRecDepth 1000000
set_option maxHeartbeats 12800000
set_option linter.unusedSimpArgs false
set_option linter.unusedVariables false
namespace Go.Proofs.YtkkpahmoljiepaaGreatDoor
open Go.RowKit Go.Proofs.Tryz
section
attribute [local go_sem] Oper.semAt_some undef
def gv(o:ah)(c:List aj)(b:ah)(a:List aj):Bool :=
 dU b o && !(a.any (gt 5)&&decide (1<a.length))&&(b==o || !a.any (gt 2)||rE c b)
def mO(o:ah)(a:List aj):Bool :=
 (be bH a).all (fun b=>rf b.2)&&((be di a).all (fun b=>gv o a (bO b) b.2)&&decide (0<(gU (cM a o) 2).length))
theorem RM(a:List aj)(b c:Nat)(w:World)(e:cy w b c a)(g:0<a.length)(d:a.length<=3001):az 108 #[aF b c a.length a.length] w (aP (.bool (rf a)) w):=by
 cases a with
 | nil=>simp at g
 | cons h i=>exact PW h i b c _ w e d av
theorem RN(c:Option Addr)(g d:Nat)(a:World):az 109 #[.slice c g d] a fun e b=>e=.returned (.func (.func 179) #[] #[aO a.heap.size])/\b.heap.size=a.heap.size+1/\ax a b/\b.cell? (aq a.heap.size 0)=some (.slice c g d):=by refine(y7 _ _ _ _).mono ?_;rintro e b ⟨rfl,rfl⟩;exact⟨rfl,am,aE.alloc av _,by go_simp⟩
theorem EX{P:Prop}(h:P:=by show w.heap.size+5≠w.heap.size+1+1;omega):P:=h
theorem Io(i l y:Nat)(o:ah)(b:List aj)(w:World)(aY:cy w i l b)(aG:b.length<=y)(aX:b.length<=3001)(cp:o.length<=3000)(bI:∀u∈b,u.owner.length<=3000):az 60 #[au o,aF i l b.length y] w (aP (.bool (mO o b)) w):=by
 refine(bK (n:=0)).1 ?_;refine callsIn_of_wp_marks func60 rfl aL ?_;simp only[ntmps60,ib,bi,cW,Nat.reduceAdd,Nat.reduceSub,h_,ik,im,il,dJ,dF];have ab:=af aY;have bl:=af bI;have t:=aY.1;have a5:ax w (((w.alloc (.cells #[.string (ai o)] 9)).alloc (.cells #[.slice (some ⟨i,l,none⟩) b.length y] 41)).alloc (.cells #[.bool false] 4)):=((aE.alloc av _).alloc am _).alloc aA _;have bM:=af (show eZ _ (aF i l b.length y) b from .inr ⟨i,l,y,rfl,aG,aY.below a5⟩);clear aY bI;gi_wp2_with fail;refine⟨aL,rfl,?_⟩;refine(bK.2 (Ar _ b _ (ag bM))).mono ?_;rintro k W2 ⟨rfl,bE,aM,bB,bD⟩;have bZ:aW W2 w.heap.size (au o) 9:=(((aW.mZ _ _ _).alloc _).alloc _).below aM cu;have b0:aW W2 (w.heap.size+1) (aF i l b.length y) 41:=by
  have:=((aW.mZ (w.alloc (.cells #[.string (ai o)] 9)) (aF i l b.length y) 41).alloc (.cells #[.bool false] 4)).below aM cu
  rwa [cv]at this
 have bR:aW W2 (w.heap.size+1+1) (.bool false) 4:=by
  have:=(aW.mZ ((w.alloc (.cells #[.string (ai o)] 9)).alloc (.cells #[.slice (some ⟨i,l,none⟩) b.length y] 41)) (.bool false) 4).below aM cu
  rwa [cv,cv]at this
 have bF:ax w W2:=a5.trans (aM.mono cu);simp only[cv]at bE bB bD;clear a5 aM bM;gi_wp2_with fail;have b8:∀u,ax W2 ((W2.alloc (.deferred (some []))).alloc (.loop u)):=fun u=>(aE.alloc av _).alloc am _;have cc:=af (ab.below bF);refine pF (xs:=be bH b) (encs:=fun a:Nat×List aj=>#[aF i (l+a.1*4) a.2.length a.2.length]) (St:=fun z A=>ax z A) (Kp:=fI (w.heap.size+1+1+1) (w.heap.size+1+1+1+1) i) (Kx:=fun _ _=>True)
  (gf:=233) (lb:=#[aO (w.heap.size+1+1+1),aO (w.heap.size+1+1+1+1)]) rfl (enters_of func233 aB rfl) (fun _=>rfl) ?qV
  [w.heap.size+1+1+1,w.heap.size+1+1+1+1,i] aA (fun z A b6 h=>h.mono b6) (fun z A h a8=>⟨a8.1,h _ am,h _ am,h _ am⟩) (fun _ _ _=>aL)
  (fun S j=>((be bH b).drop S).all (fun a=>rf a.2)=(be bH b).all (fun a=>rf a.2)/\ax w j/\aW j w.heap.size (au o) 9/\aW j (w.heap.size+1) (aF i l b.length y) 41/\aW j (w.heap.size+1+1) (.bool false) 4)
  (fun X j=>X=.ret/\mO o b=false/\ax w j/\aW j (w.heap.size+1+1) (.bool false) 4)
  (fun S z A h t=>⟨h.1,h.2.1.trans (t.mono ae),h.2.2.1.below t ae,h.2.2.2.1.below t ae,h.2.2.2.2.below t ae⟩)
  (fun X z A h t=>⟨h.1,h.2.1,h.2.2.1.trans (t.mono ae),h.2.2.2.below t ae⟩)
  ⟨rfl,bF,bZ,b0,bR⟩
  ?round ?done ?stop
 case qV =>
  intro u;have hg:=b8 u;exact qV i l y _ _ b _ ((hg.cell (p:=⟨w.heap.size+1+1+1,0,none⟩) Cm).trans bB) ((hg.cell (p:=⟨w.heap.size+1+1+1+1,0,none⟩) (by show w.heap.size+1+1+1+1<W2.heap.size;omega)).trans bD) (cc.below hg) ij ij aX aG
 case round =>
  intro r S a g j ak M bc;gi_wp2_with fail;refine⟨aL,?_⟩;obtain⟨N,L,F,I,x⟩:=M;have R:=ki ak;have aC:=pj (ab.below L) R;have ce:=(ll R).2.1;have b_:=oo R;have Z:=Ag (p:=fun a=>rf a.2) ak;rw[N]at Z;have W:=af Z;have bk:=af (RM a.2 i (l+a.1*4) j aC ce ae);have G:=af F;have H:=af I;have aa:=af x;clear N Z F I x R aC;cases q:rf a.2
  ·have K:Hid (mO o b=false):=by unfold mO;rw[Hid,ag W,q];rfl
   gi_wp2_with fail;refine⟨aL,rfl,?_⟩;refine(CallsIn.inRound r (bK.2 (ag bk))).mono ?_;rintro k e ⟨rfl,c⟩;have Q:=aa.below c aa.lt;have a3:=Q.cell;have bY:=Q.frozen;have a6:=af Q;have bs:=c.size;clear Q;gi_wp2_with fail;exact⟨(bw.zq c).trans (bw.setCell e _ _ ae),rfl,K,(L.trans (c.mono L.size)).setCell sq _,a6.set _⟩
  ·have K:Hid (((be bH b).drop (S+1)).all (fun a=>rf a.2)=(be bH b).all (fun a=>rf a.2)):=by rw[Hid,ag W,q];rfl
   gi_wp2_with fail;refine⟨aL,rfl,?_⟩;refine(CallsIn.inRound r (bK.2 (ag bk))).mono ?_;rintro k e ⟨rfl,c⟩;have bS:=af (G.below c G.lt);have bT:=af (H.below c H.lt);have bU:=af (aa.below c aa.lt);gi_wp2_with fail;exact⟨bw.zq c,fun al hk=>c.block al ux,K,L.trans (c.mono L.size),bS,bT,bU⟩
 case stop =>
  intro X j M aH bc;obtain⟨rfl,aN,L,x⟩:=M;have K:=af aN;clear aN;have a3:=x.cell;gi_wp2_with fail;refine⟨am,.inl ⟨_,_,rfl,run_takeDeferred aH,?_⟩⟩;have aD:=(x.put (d:=W2.heap.size) (o:=.deferred none) ae).cell;have cb:=L.trans (belowK_b (w:=W2) (show w.heap.size<=W2.heap.size by omega) j _ _ (.deferred none) av aH rfl rfl);exact⟨.bool false,by simp[results,results60,go_sem,aD],by rw[ag K],cb⟩
 case done =>
  intro j M aH bc;obtain⟨N,L,F,I,x⟩:=M;have aJ:(be bH b).all (fun a=>rf a.2)=true:=by
   rw[<- N,jr av];rfl
  have bq:Hid (mO o b=((be di b).all (fun a=>gv o b (bO a) a.2)&&decide (0<(gU (cM b o) 2).length))):=by unfold mO;rw[Hid,aJ];rfl
  clear N aJ;have bt:=I.cell;have G:=af F;have H:=af I;have aa:=af x;clear F I x;gi_wp2_with fail;refine⟨aL,rfl,?_⟩;refine(bK.2 (RN _ _ _ _)).mono ?_;rintro k B ⟨rfl,bG,ac,b1⟩;rw[bE]at aH bc;have bV:=L.size;have bN:=af ((ab.below L).below ac);have bn:=af (G.below ac G.lt);have bo:=af (H.below ac H.lt);have bp:=af (aa.below ac aa.lt);clear bt;gi_wp2_with fail;have bu:∀u,ax B ((B.alloc (.deferred (some []))).alloc (.loop u)):=fun u=>(aE.alloc av _).alloc am _;have bv:∀u,((B.alloc (.deferred (some []))).alloc (.loop u)).heap.size=B.heap.size+2:=fun u=>by simp
  refine pF (xs:=be di b) (encs:=fun a:Nat×List aj=>#[au (bO a),aF i (l+a.1*4) a.2.length a.2.length]) (St:=fun z A=>Below (B.heap.size+2) z A) (Kp:=fun z A=>A.heap[i]? = z.heap[i]?/\bw (B.heap.size+2) z A) (Kx:=fun z A=>bw (B.heap.size+2) z A)
   (gf:=179) (lb:=#[aO j.heap.size]) rfl (enters_of func179 aB rfl) (fun _=>rfl) ?seq2
   [i] aA (fun _ _ _ h=>h) (fun z A h a8=>⟨h _ am,a8⟩) (fun _ _ h=>h)
   (fun S g=>((be di b).drop S).all (fun a=>gv o b (bO a) a.2)=(be di b).all (fun a=>gv o b (bO a) a.2)/\ax w g/\aW g w.heap.size (au o) 9/\aW g (w.heap.size+1) (aF i l b.length y) 41/\aW g (w.heap.size+1+1) (.bool false) 4/\g.heap[w.heap.size+5]? = some (.deferred (some [])))
   (fun X g=>X=.ret/\mO o b=false/\ax w g/\aW g (w.heap.size+1+1) (.bool false) 4/\g.heap[w.heap.size+5]? = some (.deferred (some [])))
   (fun S z A h t=>⟨h.1,h.2.1.trans (t.mono ae),h.2.2.1.below t ae,h.2.2.2.1.below t ae,h.2.2.2.2.1.below t ae,(t.block _ ae).trans h.2.2.2.2.2⟩)
   (fun X z A h t=>⟨h.1,h.2.1,h.2.2.1.trans (t.mono ae),h.2.2.2.1.below t ae,(t.block _ ae).trans h.2.2.2.2⟩)
   ⟨rfl,L.trans (ac.mono bV),bn,bo,bp,(ac.block _ ae).trans aH⟩
   ?aql ?done2 ?stop2
  case seq2 =>
   intro u;have hg:=bu u;have:=zp i l y j.heap.size b ((B.alloc (.deferred (some []))).alloc (.loop u)) ((hg.cell (p:=⟨j.heap.size,0,none⟩) (by show j.heap.size<B.heap.size;omega)).trans b1) (bN.below hg) ij aX aG;rw[bv u]at this;exact this
  case aql =>
   intro r S a cg g ak M a0;gi_wp2_with fail;refine⟨aL,?_⟩;obtain⟨N,J,F,I,x,Y⟩:=M;have R:=ki ak;have aC:=pj (ab.below J) R;have b_:=oo R;obtain⟨u,bj,bJ⟩:=Gi R;have ca:(bO a).length<=3000:=by rw[<- bJ];exact bl u bj
   have Z:=Ag (p:=fun a=>gv o b (bO a) a.2) ak;rw[N]at Z;have W:=af Z;have bX:=F.cell;have G:=af F;have H:=af I;have E:=af x;have an:=af Y;have a2:=af aC;have V:Hid (az 110 #[au (bO a),au o] g fun k cf=>k=.returned (.bool (dU (bO a) o))/\cf=g) :=
    tt (ai (bO a)) (ai o) g gB gB
   have U:Hid (gv o b (bO a) a.2=false->∀e,ax g e->bw B.heap.size g (e.setCell ⟨w.heap.size+1+1,0,none⟩ (.bool false))/\mO o b=false/\ax w (e.setCell ⟨w.heap.size+1+1,0,none⟩ (.bool false))/\aW (e.setCell ⟨w.heap.size+1+1,0,none⟩ (.bool false)) (w.heap.size+1+1) (.bool false) 4/\(e.setCell ⟨w.heap.size+1+1,0,none⟩ (.bool false)).heap[w.heap.size+5]? = some (.deferred (some []))):=by
    intro q e c;have bs:=c.size;have K:mO o b=false:=by rw[ag bq,ag W,q];rfl
    exact⟨(bw.zq c).trans (bw.setCell e _ _ ae),K,(J.trans (c.mono J.size)).setCell sq _,(E.below c E.lt).set _,(bC _ _ _ _ EX).trans ((c.block _ ae).trans (ag an))⟩
   have T:Hid (gv o b (bO a) a.2=true->∀e,ax g e->bw B.heap.size g e/\(∀al∈[i],e.heap[al]? = g.heap[al]?)/\(((be di b).drop (S+1)).all (fun a=>gv o b (bO a) a.2)=(be di b).all (fun a=>gv o b (bO a) a.2)/\ax w e/\aW e w.heap.size (au o) 9/\aW e (w.heap.size+1) (aF i l b.length y) 41/\aW e (w.heap.size+1+1) (.bool false) 4/\e.heap[w.heap.size+5]? = some (.deferred (some [])))):=by
    intro q e c;exact⟨bw.zq c,fun al hk=>c.block al ux,by rw[ag W,q];rfl,J.trans (c.mono J.size),G.below c G.lt,H.below c H.lt,E.below c E.lt,(c.block _ ae).trans (ag an)⟩
   have O:Hid (∀e,ax g e->e.cell? (aq w.heap.size 0)=some (au o)/\e.cell? (aq (w.heap.size+1) 0)=some (aF i l b.length y)/\e.cell? (aq (w.heap.size+1+1) 0)=some (.bool false)/\e.frozen? (aq (w.heap.size+1+1) 0)=false):=fun e c =>
    ⟨(G.below c G.lt).cell,(H.below c H.lt).cell,(E.below c E.lt).cell,(E.below c E.lt).frozen⟩
   have ap:Hid (∀e,ax g e->eZ e (aF i (l+a.1*4) a.2.length a.2.length) a.2):=fun e c=>.inr ⟨i,l+a.1*4,a.2.length,rfl,bb _,a2.below c⟩;have a1:Hid (∀e,ax g e->cy e i l b):=fun e c=>(ab.below J).below c;clear N Z F I x R aC bJ bj Y;have bg:((ai (bO a)).toList==(ai o).toList)=(bO a==o):=oi;cases bd:dU (bO a) o
   ·have q:gv o b (bO a) a.2=false:=by unfold gv;rw[bd];rfl
    have D:=af (U q g aE);obtain⟨_,_,a3,bY⟩:=ag O g aE;gi_wp2_with fail;refine⟨aL,rfl,?_⟩;refine(CallsIn.inRound r (bK.2 (ag V))).mono ?_;rintro k g ⟨rfl,rfl⟩;clear U T O ap a1 V a2 an E H G W q bg bv bu bn bo bp bN ak;gi_wp2_with fail;refine⟨aL,?_⟩;gi_wp2_with fail;exact⟨D.1,rfl,D.2⟩
   cases C:a.2.any (gt 5)&&decide (1<a.2.length)
   ·have aZ:Hid (gv o b (bO a) a.2=(bO a==o || !a.2.any (gt 2)||rE b (bO a))):=by unfold gv;rw[bd,C];rfl
    have aQ:(a.2.any (gt 5)=false)\/(a.2.any (gt 5)=true/\(a.2.length:Int)<=1):=by
     cases b9:a.2.any (gt 5)
     ·exact nj
     ·rw[b9]at C;simp at C;exact .inr ⟨rfl,ae⟩
    clear C;have ao:=af (fun e (h:ax g e)=>zm 5 _ a.2 e (ap e h) ae);have bf:=af (fun e (h:ax g e)=>zm 2 _ a.2 e (ap e h) ae);have bh:=af (fun e (h:ax g e)=>RL i l y (bO a) b e (a1 e h) aG aX ca (ag bl));clear W a2 ap a1 G H E an;cases ad:bO a==o
    ·rw[ad]at bg;cases a9:a.2.any (gt 2)
     ·have q:=af (show gv o b (bO a) a.2=true by rw[ag aZ,ad,a9];rfl);rcases aQ with C|⟨C,aR⟩
      all_goals
       gi_wp2_with fail;refine⟨aL,rfl,?_⟩;refine(CallsIn.inRound r (bK.2 (ag V))).mono ?_;rintro k g ⟨rfl,rfl⟩;gi_wp2_with fail;refine⟨aL,rfl,?_⟩;refine(CallsIn.inRound r (bK.2 (ao _ aE))).mono ?_;rintro k e ⟨rfl,c⟩;obtain⟨cU,aT,aU,aV⟩:=ag O e c;gi_wp2_with fail;refine⟨aL,rfl,?_⟩;refine(CallsIn.inRound r (bK.2 (bf _ c))).mono ?_;rintro k ay ⟨rfl,aI⟩;have D:=af (T q ay (c.trans (aI.mono c.size)));clear T;gi_wp2_with fail;refine⟨aL,?_⟩;gi_wp2_with fail;exact D
     ·cases bx:rE b (bO a)
      ·have q:=af (show gv o b (bO a) a.2=false by rw[ag aZ,ad,a9,bx];rfl);rcases aQ with C|⟨C,aR⟩
       all_goals
        gi_wp2_with fail;refine⟨aL,rfl,?_⟩;refine(CallsIn.inRound r (bK.2 (ag V))).mono ?_;rintro k g ⟨rfl,rfl⟩;gi_wp2_with fail;refine⟨aL,rfl,?_⟩;refine(CallsIn.inRound r (bK.2 (ao _ aE))).mono ?_;rintro k e ⟨rfl,c⟩;obtain⟨cU,aT,aU,aV⟩:=ag O e c;gi_wp2_with fail;refine⟨aL,rfl,?_⟩;refine(CallsIn.inRound r (bK.2 (bf _ c))).mono ?_;rintro k ay ⟨rfl,aI⟩;have P:=c.trans (aI.mono c.size);obtain⟨b2,b3,b4,b5⟩:=ag O ay P;gi_wp2_with fail;refine⟨aL,rfl,?_⟩;refine(CallsIn.inRound r (bK.2 (bh _ P))).mono ?_;rintro k aS ⟨rfl,a4⟩;have bz:=P.trans (a4.mono P.size);obtain⟨cl,cm,cn,co⟩:=ag O aS bz;have D:=af (U q aS bz);clear U T;gi_wp2_with fail;exact⟨D.1,rfl,D.2⟩
      ·have q:=af (show gv o b (bO a) a.2=true by rw[ag aZ,ad,a9,bx];rfl);rcases aQ with C|⟨C,aR⟩
       all_goals
        gi_wp2_with fail;refine⟨aL,rfl,?_⟩;refine(CallsIn.inRound r (bK.2 (ag V))).mono ?_;rintro k g ⟨rfl,rfl⟩;gi_wp2_with fail;refine⟨aL,rfl,?_⟩;refine(CallsIn.inRound r (bK.2 (ao _ aE))).mono ?_;rintro k e ⟨rfl,c⟩;obtain⟨cU,aT,aU,aV⟩:=ag O e c;gi_wp2_with fail;refine⟨aL,rfl,?_⟩;refine(CallsIn.inRound r (bK.2 (bf _ c))).mono ?_;rintro k ay ⟨rfl,aI⟩;have P:=c.trans (aI.mono c.size);obtain⟨b2,b3,b4,b5⟩:=ag O ay P;gi_wp2_with fail;refine⟨aL,rfl,?_⟩;refine(CallsIn.inRound r (bK.2 (bh _ P))).mono ?_;rintro k aS ⟨rfl,a4⟩;have D:=af (T q aS (P.trans (a4.mono P.size)));clear U T;gi_wp2_with fail;exact D
    ·rw[ad]at bg;have q:=af (show gv o b (bO a) a.2=true by rw[ag aZ,ad];rfl);rcases aQ with C|⟨C,aR⟩
     all_goals
      gi_wp2_with fail;refine⟨aL,rfl,?_⟩;refine(CallsIn.inRound r (bK.2 (ag V))).mono ?_;rintro k g ⟨rfl,rfl⟩;gi_wp2_with fail;refine⟨aL,rfl,?_⟩;refine(CallsIn.inRound r (bK.2 (ao _ aE))).mono ?_;rintro k e ⟨rfl,c⟩;obtain⟨cU,aT,aU,aV⟩:=ag O e c;have D:=af (T q e c);clear U T;gi_wp2_with fail;refine⟨aL,?_⟩;gi_wp2_with fail;refine⟨aL,?_⟩;gi_wp2_with fail;exact D
   ·have q:=af (show gv o b (bO a) a.2=false by unfold gv;rw[bd,C];rfl);rw[bW]at C;obtain⟨ci,bm⟩:=C;have aR:(1:Int)<(a.2.length:Int):=by simp at bm;omega
    clear bm;have ao:=af (zm 5 _ a.2 g (ap g aE) ae);gi_wp2_with fail;refine⟨aL,rfl,?_⟩;refine(CallsIn.inRound r (bK.2 (ag V))).mono ?_;rintro k g ⟨rfl,rfl⟩;gi_wp2_with fail;refine⟨aL,rfl,?_⟩;refine(CallsIn.inRound r (bK.2 (ag ao))).mono ?_;rintro k e ⟨rfl,c⟩;obtain⟨cU,aT,aU,aV⟩:=ag O e c;have D:=af (U q e c);clear U T;gi_wp2_with fail;exact⟨D.1,rfl,D.2⟩
  case stop2 =>
   intro X g M ar a0;obtain⟨rfl,aN,J,x,Y⟩:=M;have K:=af aN;clear aN;have a3:=x.cell;gi_wp2_with fail;refine⟨am,.inl ⟨_,_,rfl,run_takeDeferred ar,?_⟩⟩;have aw:=(World.putObj_heap_other (w:=g) (o:=.deferred none) (show w.heap.size+5≠B.heap.size by omega)).trans Y;refine⟨am,.inl ⟨_,_,rfl,run_takeDeferred aw,?_⟩⟩;have aD:=((x.put (d:=B.heap.size) (o:=.deferred none) ae).put (d:=w.heap.size+5) (o:=.deferred none) ae).cell;have a_:=J.trans (belowK_b (w:=B) (show w.heap.size<=B.heap.size by omega) g _ _ (.deferred none) av ar rfl rfl);have ba:=a_.trans (belowK_b (w:=w) av _ (w.heap.size+5) _ (.deferred none) ae aw rfl rfl);exact⟨.bool false,by simp[results,results60,go_sem,aD],by rw[ag K],ba⟩
  case done2 =>
   intro g M ar a0;rw[bG]at ar a0;obtain⟨N,J,F,I,x,Y⟩:=M;have aJ:(be di b).all (fun a=>gv o b (bO a) a.2)=true:=by
    rw[<- N,jr av];rfl
   have K:Hid (mO o b=decide (0<(gU (cM b o) 2).length)):=by rw[Hid,ag bq,aJ];rfl
   clear N aJ;have bX:=F.cell;have bt:=I.cell;have bQ:=af (ab.below J);have E:=af x;have an:=af Y;have cq:prog.follows .mixedOrders=true:=aB;clear F I x Y;gi_wp2_with fail;refine⟨aL,rfl,?_⟩;refine(bK.2 (Hs i l y o 2 b _ (ag bQ) aG aX)).mono ?_;rintro k br ⟨⟨v,rfl,bL⟩,c⟩;obtain⟨ch,aK,rfl⟩:=bL.slice;have Q:=E.below c E.lt;have a6:=af Q;have bP:=af c;have cj:=Q.cell;have ck:=Q.frozen;clear bL Q c;gi_wp2_with fail;have c:=ag bP;have bs:=c.size
   first|rw[bG]|skip
   have bA:(br.setCell ⟨w.heap.size+1+1,0,none⟩ (.bool (decide (0<(gU (cM b o) 2).length)))).heap[(j.heap.size+1)]? = some (.deferred (some [])) :=
    (bC _ _ _ _ (by show(j.heap.size+1)≠w.heap.size+1+1;omega)).trans ((c.block _ (by show(j.heap.size+1)<g.heap.size;omega)).trans ar)
   refine⟨am,.inl ⟨_,_,rfl,run_takeDeferred bA,?_⟩⟩;have aw:((br.setCell ⟨w.heap.size+1+1,0,none⟩ (.bool (decide (0<(gU (cM b o) 2).length)))).putObj (j.heap.size+1) (.deferred none)).heap[w.heap.size+5]? = some (.deferred (some [])) :=
    (World.putObj_heap_other ae).trans ((bC _ _ _ _ EX).trans ((c.block _ (by show w.heap.size+5<g.heap.size;omega)).trans (ag an)))
   refine⟨am,.inl ⟨_,_,rfl,run_takeDeferred aw,?_⟩⟩;have aD:=(((a6.set (.bool (decide (0<(gU (cM b o) 2).length)))).put (d:=(j.heap.size+1)) (o:=.deferred none) ae).put (d:=w.heap.size+5) (o:=.deferred none) ae).cell;have b7:=(J.trans (c.mono J.size)).setCell (p:=⟨w.heap.size+1+1,0,none⟩) sq (.bool (decide (0<(gU (cM b o) 2).length)));have a_:=b7.trans (belowK_b (w:=j) (show w.heap.size<=j.heap.size by omega) _ _ _ (.deferred none) (Nat.le_succ _) bA rfl rfl);have ba:=a_.trans (belowK_b (w:=w) av _ (w.heap.size+5) _ (.deferred none) ae aw rfl rfl);refine⟨_,by simp[results,results60,go_sem,aD];rfl,?_,ba⟩;refine cd ?_;rw[ag K]
end
theorem RO(s:ByteArray)(a:World):az 174 #[.string s] a fun b c=>b=.returned (.bool false)/\c=a:=by go_enter func174,ntmps174;go_wp2;go_ret;exact⟨am,rfl⟩
def pQ(a b:ah):Int:=if Op.bytesLess a b then -1 else if a==b then 0 else 1
theorem RP(s c:ByteArray)(a:World):az 105 #[.string s,.string c] a fun b d=>b=.returned (ak (pQ s.data.toList c.data.toList))/\d=a:=by go_enter func105,ntmps105;go_wp2_with (go_at_call 174;refine(RO _ _).mono ?_;rintro b a ⟨rfl,rfl⟩);all_goals(go_ret;refine⟨sP ?_,rfl⟩;unfold pQ;simp only[c7]at *;simp_all)
def qK(a b:Int):Int:=if a=0 then b else a
theorem Ci{P:Prop}(h:P:=by go_wp2;go_ret;exact⟨sP bp.symm,rfl⟩):P:=h
theorem ED{P:Prop}(h:P:=by
 {
 go_wp2;go_round;case rel=>exact⟨1,ae,bq⟩
 case measure=>simp[intOf]}):P:=h
theorem RQ(c d:Int)(h k:Nat)(g:World)(o:g.cell? (aq h 0)=some (ak c))(p:g.cell? (aq h 1)=some (ak d)):az 104 #[aF h 0 2 k] g fun l n=>l=.returned (ak (qK c d))/\n=g:=by
 by_cases e:c=0;{
 have bp:Hid (qK c d=d):=ay e;subst e;by_cases j:d=0;{
 subst j;go_enter func104,ntmps104;go_wp2;go_loop [8] (fun a=>∃b:Nat,b<=2/\a=ak b) (fun a=>2-(intOf a).toNat);case atStart=>exact sr
 case round =>(
 obtain⟨b,i,rfl⟩:=hrel;match b,i with
 | 0,_ =>exact ED
 | 1,_ =>{
 go_wp2;go_round;case rel=>exact⟨2,ae,bq⟩
 case measure=>simp[intOf]}
 | 2,_ =>{exact Ci})};{
 have r:(d != 0)=true:=by rw[o9];exact j
 go_enter func104,ntmps104;go_wp2;go_loop [8] (fun a=>∃b:Nat,b<=1/\a=ak b) (fun a=>2-(intOf a).toNat);case atStart=>exact sr
 case round =>(
 obtain⟨b,i,rfl⟩:=hrel;match b,i with
 | 0,_ =>exact ED
 | 1,_ =>{exact Ci})}};{
 have q:(c != 0)=true:=by rw[o9];exact e
 have bp:Hid (qK c d=c):=ar e;go_enter func104,ntmps104;go_wp2;go_loop [8] (fun a=>a=ak 0) (fun a=>2-(intOf a).toNat);case atStart=>rfl
 case round =>(obtain rfl:=hrel;exact Ci)}
def gH(a s:aj):Int:=qK (pQ a.owner s.owner) (Lib.compareInt a.type s.type)
theorem wj(a s:aj)(e:World):az 103 #[.agg #[au a.owner,ak a.aI,ak a.type,au a.data],.agg #[au s.owner,ak s.aI,ak s.type,au s.data]] e fun d b=>d=.returned (ak (gH a s))/\∃p o,b=Sort.grow (e.drewN p) o:=by
 have g:∀c,az 105 #[au a.owner,au s.owner] c fun d b=>d=.returned (ak (pQ a.owner s.owner))/\b=c:=fun c=>RP _ _ c;have h:∀c,az 106 #[ak a.type,ak s.type] c fun d b=>d=.returned (ak (Lib.compareInt a.type s.type))/\b=c:=fun c=>Tryz.cmp_Compare_int _ _ c;have l:=af g;have n:=af h;have k:Hid (gH a s=qK (pQ a.owner s.owner) (Lib.compareInt a.type s.type)):=rfl;generalize pQ a.owner s.owner=i at *;generalize Lib.compareInt a.type s.type=j at *;clear g h;go_enter func103,ntmps103;go_wp2_with fail
 go_region_held (fun b=>b.cell? (aq e.heap.size 0)=some (au a.owner)/\b.cell? (aq e.heap.size 2)=some (ak a.type)/\b.cell? (aq (e.heap.size+1) 0)=some (au s.owner)/\b.cell? (aq (e.heap.size+1) 2)=some (ak s.type)) (go_keep)
  (first
   | (go_at_call 105;refine(l _).mono ?_;rintro d b ⟨rfl,rfl⟩)
   | (go_at_call 106;refine(n _).mono ?_;rintro d b ⟨rfl,rfl⟩)
   | (go_at_call 104;refine(RQ i j _ _ _ (by go_simp) (by go_simp)).mono ?_;rintro d b ⟨rfl,rfl⟩))
 all_goals
  go_wp2;go_ret;refine⟨sP k.symm,1,#[.cells #[.string (ai a.owner),.int .i64 a.aI,.int .i64 a.type,.string (ai a.data)] 47,.cells #[.string (ai s.owner),.int .i64 s.aI,.int .i64 s.type,.string (ai s.data)] 47,.cells #[.int .i64 i,.int .i64 j] 3],?_⟩;rw[Sort.alloc_eq_grow,Sort.alloc_eq_grow,Sort.alloc_eq_grow,Sort.grow_grow,Sort.grow_grow];rfl
section
open Go.RowKit Go.Sort
def aS(rs:List aj):List aj:=(Sort.insertionSort (ltOf gH) rs.toArray 0 rs.length).toList
theorem Ip{d:World}{c:Nat}{h:Array Value}{i:TypeId}{b:List aj}(k:d.heap[c]? = some (.cells h i))(n:cy d c 0 b):HoldsK aj.aX 4 d c 0 b.toArray:=by
 intro a hj;rw[size_flatK]at hj;simp only[ib]at hj;rw[get_flatK _ _ _ _ uD];refine⟨?_,by simp[World.frozen?,k]⟩;have g:a/4<b.length:=ae;have l:(aj.aX b[a/4]!).length=4:=rfl;have j:(aj.aX b[a/4]!)[a%4]? = some (aj.aX b[a/4]!)[a%4]!:=by{
 have e:a%4<(aj.aX b[a/4]!).length:=by rw[l];omega
 rw[dV e,qM (aj.aX b[a/4]!) (a%4) e]};have:=n.2 (a/4) g (a%4) _ j;rw[show 0+a/4*4+a%4=0+a from ae]at this;rw[this];simp
theorem RR{g:World}{d:Nat}{a:List aj}(o:d<g.heap.size)(j:HoldsK aj.aX 4 g d 0 a.toArray):cy g d 0 a:=by
 refine⟨o,fun b hj i p e=>?_⟩;have ao:i<4:=by have:=(fy.1 e).1;exact this
 have n:=(j.cell (i:=b) (c:=i) uD ao).1;rw[n];have h:a.toArray[b]! = a[b]!:=am;rw[h];rw[fy]at e;obtain⟨k,l⟩:=e;rw[qM (aj.aX a[b]!) i k,l]
theorem RS(a b c:Nat)(d:World):CmpLays prog 103 #[] aj.aX 4 gH a b c d :=
 fun _ _ _ _ e g=>wj e g _
theorem Al(d:aj->aj->Bool)(c:Nat):∀(b:Nat) (a:Array aj),(insInner d c b a).size=a.size
 | 0,a=>rfl
 | b+1,a=>by rw[insInner];split;{rw[Al d c b,size_swp]};{rfl}
theorem Iq(e:aj->aj->Bool)(d c:Nat):∀(f b:Nat) (a:Array aj),c-b<=f->(insOuter e d c b a).size=a.size
 | 0,b,a,g=>by rw[insOuter,ar ae]
 | f+1,b,a,g=>by rw[insOuter];split;{rw[Iq e d c f _ _ ae,Al]};{rfl}
theorem wl(d:aj->aj->Bool)(b:Array aj)(a c:Nat):(Sort.insertionSort d b a c).size=b.size:=Iq d a c _ _ b av
theorem Ir(a:List aj):(aS a).length=a.length:=by unfold aS;rw[kf,wl];simp
theorem RT{g:aj->Prop}{a:Array aj}(e:∀b,b<a.size->g a[b]!){c d:Nat}(ao:c<a.size)(i:d<a.size):∀b,b<(swp a c d).size->g (swp a c d)[b]!:=by
 intro b hk;rw[size_swp]at hk;unfold swp;have h:b<(a.setIfInBounds c a[d]!).size:=qt
 have j:b<((a.setIfInBounds c a[d]!).setIfInBounds d a[c]!).size:=qt
 rw[qM _ b j,GJ h];split;{exact e c ao};{rw[GJ hk];split;{exact e d i};{rw[<- qM a b hk];exact e b hk}}
theorem Is{h:aj->Prop}(g:aj->aj->Bool)(e:Nat):∀(b:Nat) (a:Array aj),b<a.size->(∀c,c<a.size->h a[c]!)->∀c,c<(insInner g e b a).size->h (insInner g e b a)[c]!
 | 0,a,_,d=>d
 | b+1,a,i,d=>by rw[insInner];split;{exact Is g e b _ (by rw[size_swp];omega) (RT d i ae)};{exact d}
theorem It{p:aj->Prop}(h:aj->aj->Bool)(e c:Nat):∀(f b:Nat) (a:Array aj),c-b<=f->c<=a.size->(∀d,d<a.size->p a[d]!)->∀d,d<(insOuter h e c b a).size->p (insOuter h e c b a)[d]!
 | 0,b,a,j,i,g=>by rw[insOuter,ar ae];exact g
 | f+1,b,a,j,i,g=>by rw[insOuter];split;{exact It h e c f _ _ ae (by rw[Al];exact i) (Is h e b a ae g)};{exact g}
theorem RU{p:aj->Prop}{a:List aj}(g:∀c∈a,p c):∀c∈aS a,p c:=by
 intro c i;obtain⟨b,hk,rfl⟩:=List.getElem_of_mem i;have e:b<(Sort.insertionSort (ltOf gH) a.toArray 0 a.length).size:=by unfold aS at hk;simpa using hk
 have:=It (p:=p) (ltOf gH) 0 a.length _ 1 a.toArray av am (fun b hk=>by{
 have h:b<a.length:=qt
 have d:a.toArray[b]! = a[b]:=by simp[h]
 rw[d];exact g _ (bM _)}) b e
 have d:(aS a)[b]=(Sort.insertionSort (ltOf gH) a.toArray 0 a.length)[b]!:=by{unfold aS;rw[qM _ b e];simp};exact d ▸ this
theorem RV{b c i:Nat}{e a:World}{g:Array aj}{d:Array Obj}(j:Below b e a)(l:b<=c)(k:b<=a.heap.size):Below b e (sortWorldK aj.aX 4 a c 0 i g d):=by refine j.trans ⟨rfl,rfl,rfl,?_,fun h n=>?_⟩;{exact size_sortWorldK_c aj.aX 4 a c 0 i g d};{unfold sortWorldK putRowK putRow mapBlock Sort.grow Sort.ahead;show((a.heap.modify c _)++d)[h]? = a.heap[h]?;rw[GD (by rw[Array.size_modify];omega),j0,ar ae]}
end
def er(b:ah):Option (ah×List aj) :=
 (eX b).bind fun a=>if mI a.1 a.2&&mO a.1 (aS a.2)then some (a.1,aS a.2)else none
def RW(a:Option (ah×List aj))(c:Nat)(d:Ending)(i:World):Prop :=
 match a with
 | none=>d=.returned (.tuple #[.pointer none,ak 1])
 | some (a,h)=>∃b e g,d=.returned (.tuple #[aO b,ak 0])/\c<=b/\c<=e/\e6 i b a e 0 g h
theorem RX(s:ByteArray)(a:World)(c:s.size<=281474976710656):az 57 #[.string s] a (aP (.string s) a):=by go_enter func57,ntmps57;go_wp2_with fail;refine(Tryz.stringslite_Clone s a c).mono ?_;rintro d e ⟨rfl,b⟩;go_wp2;go_ret;exact⟨rfl,b⟩
theorem RY(g:ah)(c h e d:Nat)(a:World):az 61 #[au g,aF c h e d] a fun i b=>i=.returned (aO a.heap.size)/\ax a b/\a.heap.size<b.heap.size/\b.cell? (aq a.heap.size 0)=some (au g)/\b.cell? (aq a.heap.size 1)=some (aF c h e d):=by go_enter func61,ntmps61;go_wp2;go_ret;exact⟨rfl,aE.alloc av _,am,by go_simp,by go_simp⟩
theorem Iv{g:World}{h:Nat}{v:Value}{b:List aj}(i:kZ g h v b)(n:b≠[]):∃a c d,v=aF a 0 b.length c/\h<=a/\g.heap[a]? = some (.cells d 47)/\b.length<=c/\cy g a 0 b:=by have r:=i.rv;obtain⟨⟨x,q⟩,o⟩:=i;rcases q with⟨rfl,w⟩|⟨a,c,d,rfl,k,j,l,y,z,A⟩;{exact absurd (o.1 rfl) n};{refine⟨a,c,d,rfl,k,j,l,?_⟩;rcases r with⟨e,_⟩|⟨t,B,u,e,_,p⟩;{cases e};{cases e;exact p}}
def iP(a:List aj):Bool:=a.length==1&&(a.headD aj.zero).type==5
def gE(c:ah)(b:List aj)(a:ah):Int:=if(ca c b a).length=0 then(if(cG b a).2 then 0 else 3)else 0
def gZ(c:ah)(b:List aj)(k:Int)(a:ah):List aj:=if(ca c b a).length=0 then(if(cG b a).2 then fC k (cG b a).1 else [])else []
def h6(c:ah)(a:List aj)(k:Int)(b:ah):List aj :=
 if(ca c a b).length=0 then(if(cG a b).2 then(if jH k (cG a b).1 then []else eo c a)else eo c a)else ca c a b
theorem E2{P:Prop}(h:P:=by go_enter func246,ntmps246;go_wp2;go_ret;exact⟨cd bp.symm,rfl⟩):P:=h
theorem Iw(v:Value)(a:List aj)(d:World)(l:eZ d v a)(q:a.length<=3001):az 246 #[v] d fun j n=>j=.returned (.bool (iP a))/\n=d:=by
 rcases l with⟨rfl,rfl⟩|⟨o,r,p,rfl,k,c⟩;{go_enter func246,ntmps246;go_wp2;go_ret;exact dX};{
 by_cases b:a.length=1;{
 obtain⟨e,rfl⟩:=vB.1 b;obtain⟨g,ap,h,i⟩:=c.four 0 am;simp only[i4,dT,cw]at h;have bp:Hid (iP [e]=(e.type==5)):=by unfold iP;rw[Hid];simp
 clear c g ap i b;simp only[bi,cW]at k ⊢;exact E2};{
 have bp:Hid (iP a=false):=by unfold iP;rw[Hid,eW.2 b];rfl
 have t:((a.length:Int)==1)=false:=eP
 clear c b;exact E2}}
theorem Ix(h:ah)(b:List aj)(g:ah):(ca h b g).length<=b.length:=by
 unfold ca;generalize (bo g).takeWhile (fun e=>!(e==h))=a;have:∀(a:List ah) (c:List aj),c.length<=b.length->(a.foldl (ii b) c).length<=b.length:=by{
 intro a;induction a with
 | nil=>intro c d;exact d
 | cons e j i =>{intro c d;rw[sT];refine i _ ?_;unfold ii;split;{exact d};{exact aZ (vm _ _) (s6 _ _)}}};exact this a [] am
theorem RZ(b:Nat)(a:World)(q:b<=10000):az 249 #[aJ,ak b] a fun e w'=>∃v,e=.returned v/\cA w' a.heap.size v []/\ax a w':=by obtain⟨n,ao,j,k,l⟩:=fO qT;by_cases h:b=0;{subst h;refine(Any8.slices_Grow_room Tryz.aeq none 0 0 0 a av ae ae ae).mono ?_;exact FL};{refine(Any8.slices_Grow_grow Tryz.aeq n _ ao j (by rw[k];omega) none 0 0 b [] a av ae (by rw[l];omega) ae am (fun _=>rfl) (fun o g=>by cases g)).mono ?_;rintro e w' ⟨rfl,rfl⟩;have p:=vT a (0+b) 0 (Tryz.Rf.t 25);have i:=grownCap_le_maxLen a (0+b) 0 (Tryz.Rf.t 25) sw;refine⟨_,rfl,⟨rfl,.inr ⟨a.heap.size,_,_,rfl,bb _,vU a.drew _,b6 _,i,?_,rfl⟩⟩,(aE.drew).alloc av _⟩;have c:(Value.cells (.agg #[.string ⟨#[]⟩,.int .i64 0,.int .i64 0,.string ⟨#[]⟩])).size=4:=rfl;rw[Array.size_append,Array.size_append,size_zeroCells,size_zeroCells,c];have d:(List.toArray ([]:List Value)).size=0:=rfl;rw[d];generalize grownCap a (0+b) 0 (Tryz.Rf.t 25)=bT at *;omega}
theorem IB(a:Nat)(b j:Value)(d h:List aj)(w:World)(e:cA w a b d)(u:eZ w j h)(i:a<=w.heap.size)(r:d.length+h.length<=100000):∃g c,(Builtin.append_ #[41,41] 41 #[b,j]).run prog w=.ok g c/\cA c a g (d++h)/\Below a w c:=by rcases u with⟨rfl,rfl⟩|⟨k,z,l,rfl,A,t⟩;{obtain⟨x,ao,B,C,D⟩:=fO qT;exact⟨b,w,run_append_owned_none (P:=prog) (w:=w) a 41 41 47 x 4 vi ao b _ _ e,by rw[eu];exact e,bk _ _⟩};{obtain⟨g,c,n,o,p,_⟩:=AB a b d h k z l w e t i r;exact⟨g,c,n,o,(bk _ w).grown p i (fun y q=>(e.QS y q).1)⟩}
theorem ny{P:Program}{d:Array Oper}{rest:List Oper}{b:Oper}{a:Act}{g:World}{c:Exit->Act->World->Prop}(n:b.guard=none)(s i:Operand)(t:TypeId)(o:b.op=.call { callee:=.builtin .append,args:=#[s,i],argTypes:=#[t,t] })(v j e:Value)(h:World)(q:a.eval s=v)(r:a.eval i=j)(p:(Builtin.append_ #[t,t] b.type #[v,j]).run P g=.ok e h) (k:wpList P d c rest (a.put b.dst e) h):wpList P d c (b::rest) a g:=by refine wpList_plain n fun u l=>?_;unfold Oper.wp execOp;simp only[o,resolve,invoke,builtin,Sem.run_bind,uM,qC,uN,fl,kK,q,r,p];exact l _ _ k
theorem R0(i:Nat)(B C:Value)(b h:List aj)(a:World)(z:i<a.heap.size)(H:a.cell? (aq i 0)=some B)(I:a.cell? (aq i 1)=some C)(o:eZ a B b)(q:eZ a C h)(J:b.length<=4000)(Q:h.length<=4000):az 195 #[aF i 0 2 2] a fun w g=>∃v,w=.returned v/\cA g a.heap.size v (b++h)/\ax a g:=by
 have F:=af o;have D:=af q;obtain⟨K,M,rfl⟩:=pk o;obtain⟨L,N,rfl⟩:=pk q;clear o q;have u:=af (RZ (b.length+h.length) a ae);go_enter func195,ntmps195;go_wp2_with fail;go_loop [3,11] (fun t d=>(t=ak 0/\d=ak 0)\/(t=ak b.length/\d=ak 1)\/(t=ak ((b.length+h.length:Nat):Int)/\d=ak 2)) (fun _ d=>2-(intOf d).toNat);case atStart=>exact .inl ⟨rfl,rfl⟩
 case round =>(
 rcases hrel with⟨rfl,rfl⟩|⟨rfl,rfl⟩|⟨rfl,rfl⟩;{
 go_wp2_with fail;go_round;case rel=>exact .inr (.inl ⟨bq,bq⟩)
 case measure=>simp[intOf]};{
 go_wp2_with fail;go_round;case rel=>exact .inr (.inr ⟨bq,bq⟩)
 case measure=>simp[intOf]};{
 go_wp2_with fail;refine u.mono ?_;rintro w S ⟨R,rfl,y,x⟩;have A:=af y;clear y;go_wp2_with fail;go_loopw [6,27] (fun v d wr=>(d=ak 0/\cA wr a.heap.size v []/\ax a wr)\/(d=ak 1/\cA wr a.heap.size v b/\ax a wr)\/(d=ak 2/\cA wr a.heap.size v (b++h)/\ax a wr)) (fun _ d _=>2-(intOf d).toNat);case atStart=>exact .inl ⟨rfl,A,x⟩
 case round =>(
 clear A x u;rcases hrel with⟨rfl,e,c⟩|⟨rfl,e,c⟩|⟨rfl,e,c⟩;{
 obtain⟨n,g,r,j,l⟩:=IB a.heap.size _ _ [] b wr e (F.below c) c.size aA;obtain⟨E,G,rfl⟩:=e.slice;have O:=(c.cell (p:=⟨i,0,none⟩) z).trans H;have k:Hid (cA g a.heap.size n b/\ax a g):=⟨j,c.trans l⟩;clear e j l;go_wp2_with (at_builtin;refine ny rfl _ _ 41 rfl _ _ n g rfl rfl r ?_);go_roundw;case rel=>exact .inr (.inl ⟨bq,k⟩)
 case measure=>simp[intOf]};{
 obtain⟨n,g,r,j,l⟩:=IB a.heap.size _ _ b h wr e (D.below c) c.size ae;obtain⟨E,G,rfl⟩:=e.slice;have P:=(c.cell (p:=⟨i,1,none⟩) z).trans I;have k:Hid (cA g a.heap.size n (b++h)/\ax a g):=⟨j,c.trans l⟩;clear e j l;go_wp2_with (at_builtin;refine ny rfl _ _ 41 rfl _ _ n g rfl rfl r ?_);go_roundw;case rel=>exact .inr (.inr ⟨bq,k⟩)
 case measure=>simp[intOf]};{have k:=af e;clear e;go_wp2;go_ret;exact⟨_,rfl,k,c⟩})})
section
open Go.RowKit Go.Conc
def h7(w:World)(a c:Nat)(d:Bool):Prop :=
 a<w.heap.size/\w.cell? (aq a 0)=some (.chan (some c))/\∃s b e,w.heap[c]? = some (.chan 0 #[] d s b e)
theorem h7.below{w e:World}{b a n:Nat}{d:Bool}(j:h7 w b a d)(c:Below n w e)(k:b<n)(l:a<n):h7 e b a d:=by obtain⟨g,h,s,o,q,i⟩:=j;exact⟨cp g c.size,(c.cell (p:=⟨b,0,none⟩) k).trans h,s,o,q,(c.block a l).trans i⟩
theorem h7.lt{w:World}{b a:Nat}{c:Bool}(h:h7 w b a c):a<w.heap.size:=by obtain⟨_,_,_,_,_,h⟩:=h;exact(bn.1 h).1
theorem Ri:∃a,prog.info? 332=some a/\a.bytes=0:=by have b:(prog.info? 332).map (·.bytes)=some 0:=aB;obtain⟨a,ao,c⟩:=G0.1 b;exact⟨a,ao,c⟩
theorem Rj(w:World):(Instr.makeChan 270 (ak 0)).run prog w=.ok (.chan (some w.heap.size)) (w.alloc (.chan 0 #[] false 0 0 false)):=by obtain⟨b,ao,a⟩:=Ri;simpa using run_makeChan (P:=prog) (w:=w) underlying270 ao .i64 0 ae (by rw[a];omega)
theorem Rk(w:World):az 125 #[] w fun d c=>∃a b,d=.returned (aO a)/\h7 c a b false/\w.heap.size<=a/\w.heap.size<=b/\a≠b/\ax w c:=by have e:=Rj;go_enter func125,ntmps125;go_wp2;go_ret;refine⟨_,w.heap.size,rfl,⟨am,by go_simp,0,0,false,?_⟩,ae,bb _,ae,(aE.alloc av _).alloc am _⟩;exact yx
theorem D6{P:Prop}(h:P:=by{simp[Frame.enter,Frame.at,func193,base,f193]}):P:=h
theorem Rl(a c:Nat)(b:World)(e:h7 b a c false):az 193 #[aO a] b fun d w'=>d=.returned (.bool false)/\w'=b:=by obtain⟨j,i,s,k,l,g⟩:=e;refine calls_of_loneTo fun h=>?_;have d:Frame.enter prog 193 #[aO a] .normal=(base 193).at ⟨#[aO a,undef,undef,undef,undef,undef,undef,undef,undef,undef],[]⟩ [.code (f193.body.getD .skip)]:=D6;rw[d];refine LoneTo.goes (n:=13) ?_;simp only[f193,zS];s_c stepG_seq;s_reg;s_op;s_c stepG_region_end;s_c stepG_seq;s_reg;s_op;s_op;s_op;s_op;s_c stepG_region_end;s_c stepG_seq;s_reg;s_stop;refine LoneTo.step (step_lone_select_default (c:=c) (z:=.agg #[]) (stepG_comm (cases:=#[rcase c (.agg #[])]) (blocking:=false) (shape:=.select) (w':=b) rfl rfl ba (by simp[go_sem,execOp,rcase,Act.eval])) g) ?_;rw[Frame.finish_at];walk_nrm;refine LoneTo.goes (n:=10) ?_;s_op;s_op;s_c stepG_region_end;s_c stepG_block;s_cond false;s_c stepG_seq;s_reg;s_op;s_c stepG_region_end;s_c stepG_ret';s_stop;refine LoneTo.done ⟨.returned (.bool false),_,rfl,⟨rfl,rfl⟩,rfl,rfl,rfl,rfl,_,func193,by simp[results,f193,Frame.at]⟩
theorem Rm(a c:Nat)(b:World)(e:h7 b a c true):az 193 #[aO a] b fun d w'=>d=.returned (.bool true)/\w'=b:=by obtain⟨j,i,s,k,l,g⟩:=e;refine calls_of_loneTo fun h=>?_;have d:Frame.enter prog 193 #[aO a] .normal=(base 193).at ⟨#[aO a,undef,undef,undef,undef,undef,undef,undef,undef,undef],[]⟩ [.code (f193.body.getD .skip)]:=D6;rw[d];refine LoneTo.goes (n:=13) ?_;simp only[f193,zS];s_c stepG_seq;s_reg;s_op;s_c stepG_region_end;s_c stepG_seq;s_reg;s_op;s_op;s_op;s_op;s_c stepG_region_end;s_c stepG_seq;s_reg;s_stop;refine LoneTo.step (step_lone_select_recv_shut (c:=c) (z:=.agg #[]) (stepG_comm (cases:=#[rcase c (.agg #[])]) (blocking:=false) (shape:=.select) (w':=b) rfl rfl ba (by simp[go_sem,execOp,rcase,Act.eval])) g) ?_;rw[Frame.finish_at];walk_nrm;refine LoneTo.goes (n:=10) ?_;s_op;s_op;s_c stepG_region_end;s_c stepG_block;s_cond true;s_c stepG_seq;s_reg;s_op;s_c stepG_region_end;s_c stepG_ret';s_stop;refine LoneTo.done ⟨.returned (.bool true),_,rfl,⟨rfl,rfl⟩,rfl,rfl,rfl,rfl,_,func193,by simp[results,f193,Frame.at]⟩
theorem wq(a b:Nat)(c:Bool)(w:World)(d:h7 w a b c):az 193 #[aO a] w fun e g=>e=.returned (.bool c)/\g=w:=by cases c;{exact Rl a b w d};{exact Rm a b w d}
theorem Ro(c a:Nat)(w:World)(d:h7 w c a false)(t:c≠a):az 275 #[aO c] w fun k e=>(∃v,k=.returned v)/\h7 e c a true/\(∀b,b≠a->e.heap[b]? = w.heap[b]?)/\e.heap.size=w.heap.size/\∀g,g<=a->Below g w e:=by have o:=af (wq c a false w d);have p:=d.2.1;have q:=d.1;obtain⟨s,i,j,l⟩:=d.2.2;clear d;have z:=fun n u=>run_close_open (P:=prog) (w:=w) n u l;go_enter func275,ntmps275;go_wp2_with fail;refine o.mono ?_;rintro k w ⟨rfl,rfl⟩;go_wp2_with fail;go_end0;have h:∀b,b≠a->(w.heap.setIfInBounds a (.chan 0 #[] true s i j))[b]? = w.heap[b]?:=fun b r=>GF ae;have x:=(bn.1 l).1;refine⟨⟨_,rfl⟩,⟨by simpa using q,(b7 (h c t)).trans p,s,i,j,?_⟩,h,am,fun g y=>⟨rfl,rfl,rfl,am,fun b r=>h b ae⟩⟩;show(w.heap.setIfInBounds a (.chan 0 #[] true s i j))[a]? = _;rw[GG x]
end
def IC:Value->Nat
 | .bool true=>1
 | _=>0
def eM(e:World)(d:Nat)(a ap b c aK:Value):Prop:=e.heap[d]? = some (.cells #[a,ap,b,c,aK] 43)
theorem eM.cells{w:World}{a:Nat}{b ap c d aK:Value}(h:eM w a b ap c d aK):w.cell? (aq a 0)=some b/\w.cell? (aq a 1)=some ap/\w.cell? (aq a 2)=some c/\w.cell? (aq a 3)=some d/\w.cell? (aq a 4)=some aK:=by unfold eM at h;exact BC
theorem eM.frozen{w:World}{a:Nat}{b ap c d aK:Value}(h:eM w a b ap c d aK)(i:Nat):w.frozen? (aq a i)=false:=by unfold eM at h;exact jW
theorem eM.set0{d:World}{a:Nat}{e ap b c aK:Value}(h:eM d a e ap b c aK)(x:Value):eM (d.setCell ⟨a,0,none⟩ x) a x ap b c aK:=by unfold eM at *;exact gX
theorem eM.set1{e:World}{a:Nat}{b ap c d aK:Value}(h:eM e a b ap c d aK)(g:Value):eM (e.setCell ⟨a,1,none⟩ g) a b g c d aK:=by unfold eM at *;exact gX
theorem eM.set2{d:World}{a:Nat}{b ap g c aK:Value}(h:eM d a b ap g c aK)(e:Value):eM (d.setCell ⟨a,2,none⟩ e) a b ap e c aK:=by unfold eM at *;exact gX
theorem eM.jv{d:World}{a:Nat}{b ap c g aK:Value}(h:eM d a b ap c g aK)(e:Value):eM (d.setCell ⟨a,3,none⟩ e) a b ap c e aK:=by unfold eM at *;exact gX
theorem eM.mh{e:World}{a:Nat}{b ap c d aK:Value}(h:eM e a b ap c d aK)(g:Value):eM (e.setCell ⟨a,4,none⟩ g) a b ap c d g:=by unfold eM at *;exact gX
def ml(b:List (ah×Nat)):List Value:=b.flatMap fun a=>[au a.1,ak (a.2:Int)]
def fY(c:World)(b:Nat)(v:Value)(a:List (ah×Nat)):Prop:=c.ownsRow b 343 2 v a.length (ml a)
theorem Rp:(prog.info? 343).map (fun a=>(a.zero,a.size,a.bytes))=some (some (.agg #[.string ⟨#[]⟩,ak 0]),2,24):=aB
theorem Rq:prog.underlying 281=some (.slice 343):=aB
theorem Rr(b:List (ah×Nat))(a:ah×Nat):ml (b++[a])=ml b++[au a.1,ak (a.2:Int)]:=by simp[ml]
theorem ID:∀(c:List (ah×Nat)) (a:Nat) (b:a<c.length),(ml c)[a*2]? = some (.string (ai c[a].1))/\(ml c)[a*2+1]? = some (ak (c[a].2:Int))
 | [],a,b=>by simp at b
 | d::e,0,b=>by simp[ml]
 | d::e,a+1,b=>by
  have:=ID e a (by simpa using b);have g:ml (d::e)=au d.1::ak (d.2:Int)::ml e:=by simp[ml]
  rw[g,show(a+1)*2=a*2+1+1 by omega];simpa using this
theorem Am{d:World}{c e:Nat}{j k v:Value}{i:List (ah×Nat)}(g:bJ d c j k)(h:fY d e v i):some c≠v.ownBlock:=fun a=>by
 obtain⟨_,⟨rfl,_⟩|⟨o,l,n,rfl,_,b,_⟩⟩:=h
 ·simp[Value.ownBlock]at a
 ·simp only[Value.ownBlock,nr]at a;subst a;rw[g]at b;simp at b
theorem IE(a:World):az 130 #[] a fun h b=>h=.returned (aO (a.heap.size+1))/\(∃g,bJ b (a.heap.size+1) g (aJ)/\dA b a.heap.size g (List.replicate 12 0))/\ax a b:=by
 have i:∀a:World,(Instr.makeSlice 58 (ak 12) (ak 12)).run prog a=.ok (aF a.heap.size 0 12 12) (a.alloc (.cells (Array.replicate 12 (.int .u8 0)) 5)):=fun _=>by kernel_rfl
 generalize d:(Array.replicate 12 (Value.int .u8 0))=c at *;go_enter func130,ntmps130;go_wp2;go_ret;have e:=World.alloc_heap_new (a.alloc (.cells c 5)) (.cells #[.slice (some ⟨a.heap.size,0,none⟩) 12 12,.slice none 0 0] 283);simp only[cv]at e;refine⟨rfl,⟨_,e,am,.inr ⟨a.heap.size,12,c,rfl,bb _,(bx _ _ _ am).trans (World.alloc_heap_new a _),am,gW,by rw[<- d];rfl,by rw[<- d];rfl⟩⟩,(aE.alloc av _).alloc am _⟩
theorem IF(c l:Nat)(B:ah)(g:Nat)(L k:Value)(n:List (ah×Nat))(b:World)(u:bJ b c L k)(J:fY b l k n)(Z:l<=b.heap.size)(ai:n.length<=30000)(aj:g<16384):az 202 #[aO c,au B,ak (g:Int)] b fun d A=>d=.returned (.tuple #[])/\∃q,bJ A c L q/\fY A l q (n++[(B,g)])/\(q.ownBlock=k.ownBlock\/∃i,q.ownBlock=some i/\b.heap.size<=i)/\kQ c b A/\bG (fun a=>a≠c/\some a≠k.ownBlock) b A:=by
 obtain⟨T,ao,Q,R,S⟩:=fO Rp;have ac:=u.cells.2;have p:=af u;have o:=af J;have O:=u.lt;have X:(g:Int)<16384:=ae;clear u J;go_enter func202,ntmps202;go_wp2_with (at_builtin;go_loud (refine Hi _ rfl (.tmp 12) (.tmp 16) 281 rfl l 343 T (.agg #[.string ⟨#[]⟩,ak 0]) 2 24 Rq ao Q R S rfl ba _ n.length _ rfl (o.alloc _) (aq b.heap.size 0) 1 1 [au B,ak (g:Int)] ba rfl rfl ?ap ?c2 ?c3 ?aK ?b9 ?_))
 case ap =>
  intro U V hj
  match U,hj with
  | 0,hj=>exact uz
  | 1,hj=>exact uz
  | g+2,hj=>simp at hj
 case c2=>intro V K;simp at K;rcases K with rfl|rfl<;>rfl
 case c3=>exact lC
 case aK=>omega
 case b9=>simp;omega
 intro al F D j G I;obtain⟨x,z,y,rfl⟩:=i8 D;have H:Hid (fY F l (.slice x z y) (n++[(B,g)])):=by
  unfold Hid fY;rw[a6,Rr];exact D
 have r:=fun a ao w =>
  (j.block a aA w).trans (bx _ _ _ ao)
 have w:=Am (ag p) (ag o);have e:=af (p.kept (r c O w));have E:Hid (bG (fun a=>a≠c/\some a≠k.ownBlock) b F) :=
  ⟨j.os,j.tape,j.output,aZ am j.size,fun a ao P=>r a ao P.2⟩
 have N:Hid ((Value.slice x z y).ownBlock=k.ownBlock\/∃i,(Value.slice x z y).ownBlock=some i/\b.heap.size<=i):=by
  rcases I with h|h
  ·exact iG
  ·exact .inr ⟨_,h,am⟩
 have W:Hid (kQ c b (F.setCell ⟨c,1,none⟩ (.slice x z y))):=by
  refine kQ.of (ag p) (e.set1 _) ?_ (((Hj b _ _ _ _).trans G am).trans (oA (ag e) ba _ _ _ _) E.size);refine iJ.trans (iJ.same _ _ fun a aa t=>r a (bn.1 t).1 fun d=>?_) (oA (ag e) ba _ _ _ _) E.size;obtain⟨_,⟨C,_⟩|⟨i,Y,ab,C,_,M,_⟩⟩:=ag o
  ·rw[C]at d;simp[Value.ownBlock]at d
  ·rw[C]at d;simp only[Value.ownBlock,nr]at d;subst d;rw[M]at t;simp at t
 have ad:=e.frozen;have t:=e.cells.2;clear D j G I r w p o;go_wp2_with fail;refine iI (v:=.tuple #[]) (by simp[results,results202]) rfl ?_;refine⟨rfl,_,e.set1 _,?_,N,W,E.trans (bG.kA _ fun a h=>h.1)⟩;exact pe (ag H) (Am (ag e) (ag H)) _ _
theorem Rs(c e:Nat)(k:ah)(g:Nat)(j d:Value)(h:List (ah×Nat))(a:World)(r:bJ a c j d)(u:fY a e d h)(p:e<=a.heap.size)(q:h.length<=30000)(t:g<16384):az 202 #[aO c,au k,ak (g:Int)] a fun l i=>l=.returned (.tuple #[])/\∃b,bJ i c j b/\fY i e b (h++[(k,g)])/\(b.ownBlock=d.ownBlock\/∃n,b.ownBlock=some n/\a.heap.size<=n)/\bG (fun o=>o≠c/\some o≠d.ownBlock) a i:=by refine(IF c e k g j d h a r u p q t).mono ?_;rintro l i ⟨rfl,b,w,x,y,_,z⟩;exact⟨rfl,b,w,x,y,z⟩
theorem IG{e:World}{k:Nat}{v:Value}{b:List (ah×Nat)}(g:fY e k v b)(hne:b≠[]):∃c d,v=aF c 0 b.length d/\c<e.heap.size/\b.length<=d/\∀a (j:a<b.length),e.cell? (aq c (a*2))=some (.string (ai b[a].1))/\e.cell? (aq c (a*2+1))=some (ak (b[a].2:Int)):=by have h:=g;obtain⟨_,⟨rfl,hz⟩|⟨c,d,p,rfl,q,l,o,_⟩⟩:=g;{exact us};{refine⟨c,d,rfl,(bn.1 l).1,o,fun a j=>?_⟩;have i:=ID b a j;have n:=kj h (a*2) ae;have ap:=kj h (a*2+1) ae;exact⟨n.trans i.1,ap.trans i.2⟩}
theorem Rt(y F c:Nat)(g:ah)(O B:Value)(b:List (ah×Nat))(e:World)(t:bJ e y O B)(u:fY e F B b)(K:c<b.length)(q:b[c].1=g)(n:∀x (l:x<c),(b[x].1==g)=false)(T:b.length<=30000):az 339 #[aO y,au g] e fun I P=>I=.returned (.tuple #[ak (b[c].2:Int),.bool true])/\ax e P:=by
 obtain⟨k,Q,rfl,r,R,o⟩:=IG u (by intro l;subst l;simp at K);have S:=t.cells.2;have C:=af o;have D:=af n;have G:=af q;clear t u o n q;go_enter func339,ntmps339;go_wp2_with fail;go_loopw [13] (fun h wr=>∃a:Nat,h=ak a/\a<=c/\ax e wr) (fun h _=>b.length-(intOf h).toNat);case atStart=>exact⟨0,rfl,b6 _,bk _ _⟩
 case round =>(
 obtain⟨a,rfl,L,d⟩:=hrel;have J:a<b.length:=ae;have U:(a:Int)<(b.length:Int):=ae;obtain⟨j,ap⟩:=ag C a J;have cU:=(d.cell (p:=⟨k,a*2,none⟩) r).trans j;have H:=(d.cell (p:=⟨k,a*2+1,none⟩) r).trans ap;have z:((ai b[a].1).toList==(ai g).toList)=(b[a].1==g):=oi;have A:=af d;have w:=d.size;clear j ap d;by_cases M:a=c;{subst M;clear z L;rw[ag G]at cU;obtain⟨N,i⟩:=a2 (b[a].2);rw[<- i]at H;have E:=af i;clear i;go_wp2;go_ret2;refine⟨?_,A.alloc w _⟩;rw[<- ag E];rfl};{
 rw[ag D a ae]at z;generalize b[a].2=N at *;generalize ai b[a].1=V at *;go_wp2_with fail;go_roundw;case rel=>exact⟨a+1,bq,ae,A.alloc w _⟩
 case measure=>exact gz})
def Ru(g:Nat)(d:World)(a:Nat)(c:List kR):Prop:=a<d.heap.size/\a≠g/\(∀e,d.heap[a]?≠some (.cells e 5 (0,0)))/\∀b (h:b<c.length),d.cell? (aq a b)=some (.iface c[b].t c[b].x)
theorem An{g:World}{e:Nat}{v:Value}{c:ah}(i:dA g e v c)(hne:c≠[]):∃b a d,v=aF b 0 c.length a/\e<=b/\g.heap[b]? = some (.cells d 5 (0,0))/\c.length<=a/\a<=maxLen:=by obtain⟨_,⟨rfl,hz⟩|⟨b,a,d,rfl,j,h,k,l,_⟩⟩:=i;{exact us};{exact⟨b,a,d,rfl,j,h,k,l⟩}
theorem H4{j:World}{h a i d:Nat}{g:ah}(n:dA j h (aF a 0 i d) g)(b:Nat)(c:UInt8)(ao:b<g.length):dA (j.setCell ⟨a,b,none⟩ (.int .u8 c.toNat)) h (aF a 0 i d) (g.set b c):=by obtain⟨x,⟨e,y⟩|⟨w,u,l,e,o,k,p,q,r,t⟩⟩:=n;{cases e};{cases e;refine⟨am,.inr ⟨a,d,l.setIfInBounds b (.int .u8 c.toNat),am,o,?_,by rw[s1];exact p,q,by rw[Array.size_setIfInBounds];exact r,?_⟩⟩;{simp only[World.setCell];rw[j0,ay rfl,k];rfl};{rw[yW,List.take_set];rw[s1,t];rw[zF]}}
theorem Rv{e:World}{b:Nat}{v:Value}{a:ah}(c:dA e b v a):G5 v=a.length:=by obtain⟨_,⟨rfl,d⟩|⟨i,g,h,rfl,_⟩⟩:=c;{exact d.symm};{rfl}
theorem Rw (b : Option Addr) (d c : Nat) (a : World) : (method 521 293 (.slice b d c) "beacon/wire.writeTo").run prog a = .ok (342, .slice b d c) a := by kernel_rfl
theorem Rx(b:Array Value)(a:World):(callFunc 342 b).run prog a=.ok (.enter 342 b) a:=aB
section
variable {P:Program} {α:Type}
theorem Ry{H:Operand}{l:Array Tmp}{assign body:Code}{u:Exit->Act->World->Prop}{d:Act}{w:World}{j:Nat} {r:Array Value} (R:d.eval H=.func (.func j) #[] r) (N:∀args w,(callFunc j args).run P w=.ok (.enter j args) w){q:α->Array Value} {C:List α} {o D E:World->World->Prop} (Z:∀e,(q e).size=l.size)(V:∀a,jE P j r q C o D E ((w.alloc (.deferred (some []))).alloc (.loop a)))(b:Nat->World->Prop) (g:Code->World->Prop)(lA:∀A B,w.heap.size+2<=A.heap.size->o A B->fi w.heap.size A B)(hI:∀i A B,b i A->o A B->b i B) (om:∀c A B,g c A->o A B->g c B)(wm:∀i A a k,b i A->A.heap[w.heap.size+1]? = some (.loop a)->b i (A.putObj (w.heap.size+1) k))(tN:∀c A a k,g c A->A.heap[w.heap.size+1]? = some (.loop a)->g c (A.putObj (w.heap.size+1) k))(h0:∀a,b 0 ((w.alloc (.deferred (some []))).alloc (.loop a)))(Kb:World->World->Prop)(qY:∀W a n z h,W.heap[w.heap.size+1]? = some (.loop a)->Kb (W.putObj (w.heap.size+1) (.loop n)) h->fi w.heap.size (W.putObj (w.heap.size+1) (.loop n)) h->D W (h.putObj (w.heap.size+1) (.loop z)))(qX:World->World->Prop)(hKx:∀W a n z h,W.heap[w.heap.size+1]? = some (.loop a)->qX (W.putObj (w.heap.size+1) (.loop n)) h->fi w.heap.size (W.putObj (w.heap.size+1) (.loop n)) h->E W (h.putObj (w.heap.size+1) (.loop z)))(ad:∀(J i:Nat) (e:α) (F W:World),C[i]? = some e->b i W->w.heap.size+2<=W.heap.size->W.heap[w.heap.size]? = some (.deferred (some []))->(∃a,W.heap[w.heap.size+1]? = some (.loop a)) ->
   assign.wpIn (Fence.wide.inRound J) 0 P (Exit.then (fun M K=>K=F/\body.wpIn (Fence.wide.inRound J) 0 P (zf w.heap.size Kb qX (b (i+1)) g W) M W) (fun _ _ _=>False)) { tmps:=(l.zip (q e)).foldl (fun t (aa,v)=>t.setIfInBounds aa v) d.tmps,defers:=[] } F)(hdone:∀W,b C.length W->W.heap[w.heap.size]? = some (.deferred (some []))->w.heap.size+2<=W.heap.size->u .normal { d with defers:={ target:=.collected w.heap.size,args:=#[] }::d.defers } W)(wo:∀c W,g c W->W.heap[w.heap.size]? = some (.deferred (some []))->w.heap.size+2<=W.heap.size->c.wpIn Fence.wide 0 P u { d with defers:={ target:=.collected w.heap.size,args:=#[] }::d.defers } W):(Code.rangeFunc H l assign body).wpIn Fence.wide 0 P u d w:=by
 refine wpIn_rangeFunc fun fn Q=>?_;obtain⟨af,al⟩:=a2 w.heap.size;obtain⟨rec,dn⟩:∃rec:LoopState->Option Code->Loop,rec=fun ac ab=>{ state:=ac,pending:=ab,fn,tmps:=d.tmps,params:=l,assign,body,defers:=w.heap.size }:=⟨_,rfl⟩
 have L:=run_enterLoop_outer (P:=P) (w:=w) fn d.tmps l assign body;refine⟨w.heap.size+1,[{ target:=.collected w.heap.size,args:=#[] }],(w.alloc (.deferred (some []))).alloc (.loop (rec .ready none)),
  { target:=.fn (.func j) r,args:=#[.func (.yield (w.heap.size+1)) #[] #[]] },(w.alloc (.deferred (some []))).alloc (.loop (rec .ready none)),j,
  #[.func (.yield (w.heap.size+1)) #[] #[]]++r,(w.alloc (.deferred (some []))).alloc (.loop (rec .ready none)),?_,?_,fun _ _=>aL,?_,fun x=>by simp[Fence.wide]at x,?_⟩
 ·rw[dn];exact L
 ·simp only[resolve,R];simp[go_sem]
 ·simp[invoke,go_sem,N]
 ·obtain⟨p,hW1⟩:∃p,(w.alloc (.deferred (some []))).alloc (.loop (rec .ready none))=p:=⟨_,rfl⟩
  have ee:p.heap[w.heap.size+1]? = some (.loop (rec .ready none)):=by
   exact DX
  have fD:p.heap[w.heap.size]? = some (.deferred (some [])):=by
   rw[<- hW1];exact yx
  have hsz:∀W:World,(∃k,W.heap[w.heap.size+1]? = some k)->w.heap.size+2<=W.heap.size:=fun W ⟨k,x⟩=>by
   have:=(bn.1 x).1;omega
  have U:=V (rec .ready none) (w.heap.size+1)
   (fun i W=>b i W/\W.heap[w.heap.size+1]? = some (.loop (rec .ready none))/\W.heap[w.heap.size]? = some (.deferred (some [])))
   (fun W=>∃c,g c W/\W.heap[w.heap.size+1]? = some (.loop (rec .done (some c)))/\W.heap[w.heap.size]? = some (.deferred (some [])))
   (fun i A B hA hst=>by
    exact E_)
   (fun A B hA hst=>by
    exact Eu)
   (fun i e W X S=>by
    obtain⟨h1,h2,h3⟩:=S;have I:=run_yield (P:=P) (args:=q e) h2 (by rw[dn];exact Z e);rw[dn]at I;have T:=(bn.1 h2).1;have e2:(W.putObj (w.heap.size+1) (.loop { rec .ready none with state:=.busy })).heap[w.heap.size+1]? = some (.loop { rec .ready none with state:=.busy }):=World.putObj_heap_same T;have e3:(W.putObj (w.heap.size+1) (.loop { rec .ready none with state:=.busy })).heap[w.heap.size]? = some (.deferred (some [])):=(World.putObj_heap_other ae).trans h3;refine⟨fn,_,assign,body,I,roundIn_of_wpIn Q (wpIn_mono (ad _ i e W (W.putObj (w.heap.size+1) (.loop { rec .ready none with state:=.busy })) X (wm i W _ _ h1 h2) BS e3 ⟨_,e2⟩) ?_)⟩;rintro e0 ai ag jT;have O:e0=.normal:=yh
    subst O;obtain⟨y,Y⟩:=jT
    replace y:=y.symm
    subst y;refine⟨_,run_beginRound h2 (by rw[dn]),wpIn_mono Y ?_⟩;have fin:∀(jump:Option Code) (W3:World),fi w.heap.size (W.putObj (w.heap.size+1) (.loop { rec .ready none with state:=.busy })) W3 ->
      (Instr.endRound (w.heap.size+1) jump).run P W3=.ok (.bool jump.isNone) (W3.putObj (w.heap.size+1) (.loop (rec (if jump.isNone then .ready else .done) jump))) /\
      W3.heap[w.heap.size+1]? = some (.loop { rec .ready none with state:=.busy }) /\
      (W3.putObj (w.heap.size+1) (.loop (rec (if jump.isNone then .ready else .done) jump))).heap[w.heap.size+1]? = some (.loop (rec (if jump.isNone then .ready else .done) jump)) /\
      (W3.putObj (w.heap.size+1) (.loop (rec (if jump.isNone then .ready else .done) jump))).heap[w.heap.size]? = some (.deferred (some [])):=fun jump W3 hL=>by
     exact FR
    rintro G aj W3 hp;cases G with
    | normal =>
     exact Ey
    | ret =>
     exact Fe
    | exit id =>
     exact DN
    | goto t =>
     exact Fv
    | panic ak=>exact ch
    | outgrown=>exact ch)
   Ek
  refine U.mono ?_;rintro G ah ⟨⟨v,rfl⟩,⟨ao,hl,hk⟩|⟨c,ao,hl,hk⟩⟩
  ·exact DL
  ·exact Fa
theorem Ao{x:Operand}{q:Array Tmp}{t u:Code}{n:Exit->Act->World->Prop}{b:Act}{w:World}{gf:Nat} {lb:Array Value} (J:b.eval x=.func (.func gf) #[] lb) (E:∀args w,(callFunc gf args).run P w=.ok (.enter gf args) w){encs:α->Array Value} {xs:List α} {St Kp Kx:World->World->Prop} (N:∀d,(encs d).size=q.size)(K:∀r,jE P gf lb encs xs St Kp Kx ((w.alloc (.deferred (some []))).alloc (.loop r)))(j:List Nat) (oq:∀k∈j,k<w.heap.size)(lA:∀A B,St A B->ax A B)(qY:∀A B,(∀k∈j,B.heap[k]? = A.heap[k]?)->A.heap.size<=B.heap.size->Kp A B)(H:∀A B,Kx A B)(a:Nat->World->Prop) (e:Code->World->Prop)(hI:∀i A B,a i A->w.heap.size<=A.heap.size->dz (w.heap.size+1) A B->a i B) (om:∀c A B,e c A->w.heap.size+2<=A.heap.size->dz (w.heap.size+1) A B->e c B)(h0:a 0 w)(S:∀(l i:Nat) (d:α) (g W:World),xs[i]? = some d->a i W->w.heap.size+2<=W.heap.size->W.heap[w.heap.size]? = some (.deferred (some []))->(∃r,W.heap[w.heap.size+1]? = some (.loop r)) ->
   t.wpIn (Fence.wide.inRound l) 0 P (Exit.then (fun C z=>z=g/\u.wpIn (Fence.wide.inRound l) 0 P (vh w.heap.size j (a (i+1)) e W) C W) (fun _ _ _=>False)) { tmps:=(q.zip (encs d)).foldl (fun y (p,v)=>y.setIfInBounds p v) b.tmps,defers:=[] } g)(I:∀W,a xs.length W->W.heap[w.heap.size]? = some (.deferred (some []))->w.heap.size+2<=W.heap.size->n .normal { b with defers:={ target:=.collected w.heap.size,args:=#[] }::b.defers } W)(R:∀c W,e c W->W.heap[w.heap.size]? = some (.deferred (some []))->w.heap.size+2<=W.heap.size->c.wpIn Fence.wide 0 P n { b with defers:={ target:=.collected w.heap.size,args:=#[] }::b.defers } W):(Code.rangeFunc x q t u).wpIn Fence.wide 0 P n b w:=by
 have hput:∀(A:World) (r:Loop) (o:Obj),A.heap[w.heap.size+1]? = some (.loop r)->dz (w.heap.size+1) A (A.putObj (w.heap.size+1) o):=fun A r o dn=>dz.put A _ o;refine Ry (Kb:=fun A B=>∀k∈j,B.heap[k]? = A.heap[k]?) (qX:=fun _ _=>True) J E N K (fun i W=>a i W/\w.heap.size+2<=W.heap.size) (fun c W=>e c W/\w.heap.size+2<=W.heap.size) ?_ ?_ ?_ ?_ ?_ ?_ ?_ ?_ ?_ (fun W h=>I W h.1) (fun c W h=>R c W h.1);{exact BJ};{exact Cw};{exact BR};{exact Cx};{exact Ca};{exact B8};{exact EL};{intro W r r' r'' Wc dn hk hL;exact H _ _};{
 intro l i d g W L ao hsz F Q;refine wpIn_mono (S l i d g W L ao.1 hsz F Q) ?_;rintro e0 V T jT;have G:e0=.normal:=yh
 subst G;obtain⟨O,M⟩:=jT;refine⟨O,wpIn_mono M ?_⟩;rintro D X U hp;cases D with
 | normal=>exact⟨hp.1,hp.2.1,hp.2.2,aZ hsz hp.1.1⟩
 | ret=>exact sH
 | exit Z=>exact sH
 | goto y=>exact sH
 | panic Y=>exact ch
 | outgrown=>exact ch}
theorem aW.kept{W a:World}{k:Nat}{v:Value}{t:TypeId}(c:aW W k v t)(b:a.heap[k]? = W.heap[k]?):aW a k v t:=b.trans c
end
section
attribute [local go_sem] Oper.semAt_some undef
theorem iv{e i:World}{a b c:Nat}{d:TypeId}{v:Value}{j:List Value}(h:e.ownsRow a d c v b j)(hg:∀g,v.ownBlock=some g->i.heap[g]? = e.heap[g]?):i.ownsRow a d c v b j:=by exact F5
theorem nZ{a:World}{c b:Nat}{v:Value}{d:ah}(h:dA a c v d)(hg:v.ownBlock=some b):∃cur,a.heap[b]? = some (.cells cur 5 (0,0)):=by exact BG
theorem Rz(a:Nat)(e:a<16384):bits .or .i64 49152 (a:Int)=((49152+a:Nat):Int):=by
 have c:=tv 49152 a ae ae;have d:49152+a=49152 ||| a:=Nat.two_pow_add_eq_or_of_lt (i:=14) (b:=a) ae 3
 rw[d];exact c
theorem RA (s : ByteArray) (a : World) : (method 521 291 (.string s) "beacon/wire.writeTo").run prog a = .ok (338, .string s) a := by kernel_rfl
theorem RB(b:Array Value)(a:World):(callFunc 338 b).run prog a=.ok (.enter 338 b) a:=aB
def ws(a:Nat):ah:=[ao (49152+a),aV (49152+a)]
end
end Go.Proofs.YtkkpahmoljiepaaGreatDoor
