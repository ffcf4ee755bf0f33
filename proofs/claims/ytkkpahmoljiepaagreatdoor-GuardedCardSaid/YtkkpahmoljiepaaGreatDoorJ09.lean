import Derived.Test.YtkkpahmoljiepaaGreatDoorJ07
import Derived.Deep.RegionHeld
import Derived.Test.YtkkpahmoljiepaaGreatDoorJ08
import Derived.Conc.LoneSelect
set_option maxRecDepth 1000000
set_option maxHeartbeats 12800000
set_option linter.unusedSimpArgs false
set_option linter.unusedVariables false
namespace Go.Proofs.YtkkpahmoljiepaaGreatDoor
open Go.RowKit Go.Proofs.Tryz
section
attribute [local go_sem] Oper.semAt_some undef
def lU(o:ai)(rs:List aj)(n:ai)(l:List aj):Bool :=
 dU n o && !(l.any (nH 5) && decide (1<l.length)) && (n == o || !l.any (nH 2) || rh rs n)
def o8(o:ai)(rs:List aj):Bool :=
 (bC bJ rs).all (fun x=>pU x.2) && ((bC dw rs).all (fun x=>lU o rs (cO x) x.2) && decide (0<(fz (cK rs o) 2).length))
theorem aeJ(l:List aj)(b off:Nat)(w:World)(hr:dz w b off l)(pT:0<l.length)(hl:l.length<=3001) :
  aF 108 #[aU b off l.length l.length] w (cS (.bool (pU l)) w):=by
 cases l with
 | nil=>simp at pT
 | cons r t=>exact adn r t b off _ w hr hl aB
theorem aeK(a:Option Addr)(n c:Nat)(w:World) :
  aF 109 #[.slice a n c] w fun e w'=>e=.returned (.func (.func 179) #[] #[aO w.heap.size])/\w'.heap.size=w.heap.size+1/\aw w w'/\w'.cell? (ar w.heap.size 0)=some (.slice a n c):=by refine(Nr _ _ _ _).mono ?_;rintro e w' ⟨rfl,rfl⟩;exact⟨rfl,ak,bj.alloc aB _,by go_simp⟩
theorem UJ(b off cap:Nat)(o:ai)(rs:List aj)(w:World)(hr:dz w b off rs)(fw:rs.length<=cap)(hlen:rs.length<=3001)(eR:o.length<=3000)(ho:∀r∈rs,r.owner.length<=3000) :
  aF 60 #[aA o,aU b off rs.length cap] w (cS (.bool (o8 o rs)) w):=by
 refine(bR (n:=0)).1 ?_;refine callsIn_of_wp_marks func60 rfl aY ?_;simp only[ntmps60,lK,cU,fV,Nat.reduceAdd,Nat.reduceSub,l_,mf,mh,mg,fF,dX];have aT:=ag hr;have HO:=ag ho;have hb:=hr.1;have eM:aw w (((w.alloc (.cells #[.string (ah o)] 9)).alloc (.cells #[.slice (some ⟨b,off,none⟩) rs.length cap] 41)).alloc (.cells #[.bool false] 4)):=((bj.alloc aB _).alloc ak _).alloc aX _;have ia:=ag (show gV _ (aU b off rs.length cap) rs from .inr ⟨b,off,cap,rfl,fw,hr.below eM⟩);clear hr ho;gi_wp2_with fail;refine⟨aY,rfl,?_⟩;refine(bR.2 (Nv _ rs _ (af ia))).mono ?_;rintro e W2 ⟨rfl,e4,hb2,e2,e3⟩;have e0:aM W2 w.heap.size (aA o) 9:=(((aM.ke _ _ _).alloc _).alloc _).below hb2 c5;have e1:aM W2 (w.heap.size+1) (aU b off rs.length cap) 41:=by
  have:=((aM.ke (w.alloc (.cells #[.string (ah o)] 9)) (aU b off rs.length cap) 41).alloc (.cells #[.bool false] 4)).below hb2 c5
  rwa [dI]at this
 have aeL:aM W2 (w.heap.size+1+1) (.bool false) 4:=by
  have:=(aM.ke ((w.alloc (.cells #[.string (ah o)] 9)).alloc (.cells #[.slice (some ⟨b,off,none⟩) rs.length cap] 41)) (.bool false) 4).below hb2 c5
  rwa [dI,dI]at this
 have e5:aw w W2:=eM.trans (hb2.mono c5);simp only[dI]at e4 e2 e3;clear eM hb2 ia;gi_wp2_with fail;have hgrow:∀r,aw W2 ((W2.alloc (.deferred (some []))).alloc (.loop r)):=fun r=>(bj.alloc aB _).alloc ak _;have gv:=ag (aT.below e5);refine Ao (xs:=bC bJ rs) (encs:=fun x:Nat×List aj=>#[aU b (off+x.1*4) x.2.length x.2.length]) (St:=fun A B=>aw A B) (Kp:=iK (w.heap.size+1+1+1) (w.heap.size+1+1+1+1) b) (Kx:=fun _ _=>True)
  (gf:=233) (lb:=#[aO (w.heap.size+1+1+1),aO (w.heap.size+1+1+1+1)]) rfl (enters_of func233 aK rfl) (fun _=>rfl) ?C6
  [w.heap.size+1+1+1,w.heap.size+1+1+1+1,b] aX (fun A B hA h=>h.mono hA) (fun A B h h'=>⟨h'.1,h _ ak,h _ ak,h _ ak⟩) (fun _ _ _=>aY)
  (fun i W=>((bC bJ rs).drop i).all (fun x=>pU x.2)=(bC bJ rs).all (fun x=>pU x.2)/\aw w W/\aM W w.heap.size (aA o) 9/\aM W (w.heap.size+1) (aU b off rs.length cap) 41/\aM W (w.heap.size+1+1) (.bool false) 4)
  (fun c W=>c=.ret/\o8 o rs=false/\aw w W/\aM W (w.heap.size+1+1) (.bool false) 4)
  (fun i A B h hb=>⟨h.1,h.2.1.trans (hb.mono ae),h.2.2.1.below hb ae,h.2.2.2.1.below hb ae,h.2.2.2.2.below hb ae⟩)
  (fun c A B h hb=>⟨h.1,h.2.1,h.2.2.1.trans (hb.mono ae),h.2.2.2.below hb ae⟩)
  ⟨rfl,e5,e0,e1,aeL⟩
  ?round ?done ?stop
 case C6 =>
  intro r;have hg:=hgrow r;exact C6 b off cap _ _ rs _ ((hg.cell (p:=⟨w.heap.size+1+1+1,0,none⟩) (by show w.heap.size+1+1+1<W2.heap.size;omega)).trans e2) ((hg.cell (p:=⟨w.heap.size+1+1+1+1,0,none⟩) (by show w.heap.size+1+1+1+1<W2.heap.size;omega)).trans e3) (gv.below hg) (by have:=hg.size;omega) (by have:=hg.size;omega) hlen fw
 case round =>
  intro l' i x V W hx hI hsz;gi_wp2_with fail;refine⟨aY,?_⟩;obtain⟨hf,hB,eY,nM,hc⟩:=hI;have hmem:x∈bC bJ rs:=qH hx;have bZ:=Ax (aT.below hB) hmem;have pT:=(r_ hmem).2.1;have hrl:=yw hmem;have hst:=NW (p:=fun x=>pU x.2) hx;rw[hf]at hst;have HS:=ag hst;have HC:=ag (aeJ x.2 b (off+x.1*4) W bZ pT ae);have ie:=ag eY;have o5:=ag nM;have kx:=ag hc;clear hf hst eY nM hc hmem bZ;cases hs:pU x.2
  ·have bg:Hid (o8 o rs=false):=by unfold o8;rw[Hid,af HS,hs];rfl
   gi_wp2_with fail;refine⟨aY,rfl,?_⟩;refine(CallsIn.inRound l' (bR.2 (af HC))).mono ?_;rintro e W4 ⟨rfl,hb4⟩;have hb5:=kx.below hb4 kx.lt;have cb:=hb5.cell;have cf:=hb5.frozen;have uf:=ag hb5;have NF:=hb4.size;clear hb5;gi_wp2_with fail;exact⟨(b_.tN hb4).trans (b_.setCell W4 _ _ ae),rfl,bg,(hB.trans (hb4.mono hB.size)).setCell (by show w.heap.size<=w.heap.size+1+1;omega) _,uf.set _⟩
  ·have bg:Hid (((bC bJ rs).drop (i+1)).all (fun x=>pU x.2)=(bC bJ rs).all (fun x=>pU x.2)):=by rw[Hid,af HS,hs];rfl
   gi_wp2_with fail;refine⟨aY,rfl,?_⟩;refine(CallsIn.inRound l' (bR.2 (af HC))).mono ?_;rintro e W4 ⟨rfl,hb4⟩;have aeM:=ag (ie.below hb4 ie.lt);have aeN:=ag (o5.below hb4 o5.lt);have aeO:=ag (kx.below hb4 kx.lt);gi_wp2_with fail;exact⟨b_.tN hb4,fun k hk=>hb4.block k (by simp at hk;omega),bg,hB.trans (hb4.mono hB.size),aeM,aeN,aeO⟩
 case stop =>
  intro c W hI cD hsz;obtain⟨rfl,lN,hB,hc⟩:=hI;have bg:=ag lN;clear lN;have cb:=hc.cell;gi_wp2_with fail;refine⟨ak,.inl ⟨_,_,rfl,run_takeDeferred cD,?_⟩⟩;have cr:=(hc.put (d:=W2.heap.size) (o:=.deferred none) ae).cell;have jJ:=hB.trans (belowK_b (w:=W2) (show w.heap.size<=W2.heap.size by omega) W _ _ (.deferred none) aB cD rfl rfl);exact⟨.bool false,by simp[results,results60,go_sem,cr],by rw[af bg],jJ⟩
 case done =>
  intro W hI cD hsz;obtain⟨hf,hB,eY,nM,hc⟩:=hI;have hall:(bC bJ rs).all (fun x=>pU x.2)=true:=by
   rw[<- hf,pJ aB];rfl
  have Dl:Hid (o8 o rs=((bC dw rs).all (fun x=>lU o rs (cO x) x.2) && decide (0<(fz (cK rs o) 2).length))):=by unfold o8;rw[Hid,hall];rfl
  clear hf hall;have UK:=nM.cell;have ie:=ag eY;have o5:=ag nM;have kx:=ag hc;clear eY nM hc;gi_wp2_with fail;refine⟨aY,rfl,?_⟩;refine(bR.2 (aeK _ _ _ _)).mono ?_;rintro e W5 ⟨rfl,e7,e8,e6⟩;rw[e4]at cD hsz;have aeP:=hB.size;have mV:=ag ((aT.below hB).below e8);have I0:=ag (ie.below e8 ie.lt);have I1:=ag (o5.below e8 o5.lt);have I2:=ag (kx.below e8 kx.lt);clear UK;gi_wp2_with fail;have UL:∀r,aw W5 ((W5.alloc (.deferred (some []))).alloc (.loop r)):=fun r=>(bj.alloc aB _).alloc ak _;have UM:∀r,((W5.alloc (.deferred (some []))).alloc (.loop r)).heap.size=W5.heap.size+2:=fun r=>by simp
  refine Ao (xs:=bC dw rs) (encs:=fun x:Nat×List aj=>#[aA (cO x),aU b (off+x.1*4) x.2.length x.2.length]) (St:=fun A B=>Below (W5.heap.size+2) A B) (Kp:=fun A B=>B.heap[b]? = A.heap[b]?/\b_ (W5.heap.size+2) A B) (Kx:=fun A B=>b_ (W5.heap.size+2) A B)
   (gf:=179) (lb:=#[aO W.heap.size]) rfl (enters_of func179 aK rfl) (fun _=>rfl) ?seq2
   [b] aX (fun _ _ _ h=>h) (fun A B h h'=>⟨h _ ak,h'⟩) (fun _ _ h=>h)
   (fun i V=>((bC dw rs).drop i).all (fun x=>lU o rs (cO x) x.2)=(bC dw rs).all (fun x=>lU o rs (cO x) x.2)/\aw w V/\aM V w.heap.size (aA o) 9/\aM V (w.heap.size+1) (aU b off rs.length cap) 41/\aM V (w.heap.size+1+1) (.bool false) 4/\V.heap[w.heap.size+5]? = some (.deferred (some [])))
   (fun c V=>c=.ret/\o8 o rs=false/\aw w V/\aM V (w.heap.size+1+1) (.bool false) 4/\V.heap[w.heap.size+5]? = some (.deferred (some [])))
   (fun i A B h hb=>⟨h.1,h.2.1.trans (hb.mono ae),h.2.2.1.below hb ae,h.2.2.2.1.below hb ae,h.2.2.2.2.1.below hb ae,(hb.block _ ae).trans h.2.2.2.2.2⟩)
   (fun c A B h hb=>⟨h.1,h.2.1,h.2.2.1.trans (hb.mono ae),h.2.2.2.1.below hb ae,(hb.block _ ae).trans h.2.2.2.2⟩)
   ⟨rfl,hB.trans (e8.mono aeP),I0,I1,I2,(e8.block _ ae).trans cD⟩
   ?aeQ ?done2 ?stop2
  case seq2 =>
   intro r;have hg:=UL r;have:=Ns b off cap W.heap.size rs ((W5.alloc (.deferred (some []))).alloc (.loop r)) ((hg.cell (p:=⟨W.heap.size,0,none⟩) (by show W.heap.size<W5.heap.size;omega)).trans e6) (mV.below hg) (by have:=hg.size;omega) hlen fw;rw[UM r]at this;exact this
  case aeQ =>
   intro l' i x V' V hx hI yq;gi_wp2_with fail;refine⟨aY,?_⟩;obtain⟨hf,sG,eY,nM,hc,fH⟩:=hI;have hmem:x∈bC dw rs:=qH hx;have bZ:=Ax (aT.below sG) hmem;have hrl:=yw hmem;obtain⟨r,cV,hro⟩:=TG hmem;have lR:(cO x).length<=3000:=by rw[<- hro];exact HO r cV
   have hst:=NW (p:=fun x=>lU o rs (cO x) x.2) hx;rw[hf]at hst;have HS:=ag hst;have aeR:=eY.cell;have ie:=ag eY;have o5:=ag nM;have ri:=ag hc;have o9:=ag fH;have bG:=ag bZ;have vD:Hid (aF 110 #[aA (cO x),aA o] V fun e w'=>e=.returned (.bool (dU (cO x) o))/\w'=V) :=
    Fl (ah (cO x)) (ah o) V (by rw[dt];omega) (by rw[dt];omega)
   have yK:Hid (lU o rs (cO x) x.2=false->∀W4,aw V W4->b_ W5.heap.size V (W4.setCell ⟨w.heap.size+1+1,0,none⟩ (.bool false))/\o8 o rs=false/\aw w (W4.setCell ⟨w.heap.size+1+1,0,none⟩ (.bool false))/\aM (W4.setCell ⟨w.heap.size+1+1,0,none⟩ (.bool false)) (w.heap.size+1+1) (.bool false) 4/\(W4.setCell ⟨w.heap.size+1+1,0,none⟩ (.bool false)).heap[w.heap.size+5]? = some (.deferred (some []))):=by
    intro hs W4 hb4;have NF:=hb4.size;have bg:o8 o rs=false:=by rw[af Dl,af HS,hs];rfl
    exact⟨(b_.tN hb4).trans (b_.setCell W4 _ _ ae),bg,(sG.trans (hb4.mono sG.size)).setCell (by show w.heap.size<=w.heap.size+1+1;omega) _,(ri.below hb4 ri.lt).set _,(bf _ _ _ _ (by show w.heap.size+5≠w.heap.size+1+1;omega)).trans ((hb4.block _ ae).trans (af o9))⟩
   have sk:Hid (lU o rs (cO x) x.2=true->∀W4,aw V W4->b_ W5.heap.size V W4/\(∀k∈[b],W4.heap[k]? = V.heap[k]?)/\(((bC dw rs).drop (i+1)).all (fun x=>lU o rs (cO x) x.2)=(bC dw rs).all (fun x=>lU o rs (cO x) x.2)/\aw w W4/\aM W4 w.heap.size (aA o) 9/\aM W4 (w.heap.size+1) (aU b off rs.length cap) 41/\aM W4 (w.heap.size+1+1) (.bool false) 4/\W4.heap[w.heap.size+5]? = some (.deferred (some [])))):=by
    intro hs W4 hb4;exact⟨b_.tN hb4,fun k hk=>hb4.block k (by simp at hk;omega),by rw[af HS,hs];rfl,sG.trans (hb4.mono sG.size),ie.below hb4 ie.lt,o5.below hb4 o5.lt,ri.below hb4 ri.lt,(hb4.block _ ae).trans (af o9)⟩
   have p3:Hid (∀W4,aw V W4->W4.cell? (ar w.heap.size 0)=some (aA o)/\W4.cell? (ar (w.heap.size+1) 0)=some (aU b off rs.length cap)/\W4.cell? (ar (w.heap.size+1+1) 0)=some (.bool false)/\W4.frozen? (ar (w.heap.size+1+1) 0)=false):=fun W4 hb4 =>
    ⟨(ie.below hb4 ie.lt).cell,(o5.below hb4 o5.lt).cell,(ri.below hb4 ri.lt).cell,(ri.below hb4 ri.lt).frozen⟩
   have F_:Hid (∀W4,aw V W4->gV W4 (aU b (off+x.1*4) x.2.length x.2.length) x.2):=fun W4 hb4=>.inr ⟨b,off+x.1*4,x.2.length,rfl,aL _,bG.below hb4⟩;have NX:Hid (∀W4,aw V W4->dz W4 b off rs):=fun W4 hb4=>(aT.below sG).below hb4;clear hf hst eY nM hc hmem bZ hro cV fH;have h_:((ah (cO x)).toList == (ah o).toList)=(cO x == o):=yu;cases hu:dU (cO x) o
   ·have hs:lU o rs (cO x) x.2=false:=by unfold lU;rw[hu];rfl
    have bu:=ag (yK hs V bj);obtain⟨_,_,cb,cf⟩:=af p3 V bj;gi_wp2_with fail;refine⟨aY,rfl,?_⟩;refine(CallsIn.inRound l' (bR.2 (af vD))).mono ?_;rintro e V ⟨rfl,rfl⟩;clear yK sk p3 F_ NX vD bG o9 ri o5 ie HS hs h_ UM UL I0 I1 I2 mV hx;gi_wp2_with fail;refine⟨aY,?_⟩;gi_wp2_with fail;exact⟨bu.1,rfl,bu.2⟩
   cases h5:x.2.any (nH 5) && decide (1<x.2.length)
   ·have hr1:Hid (lU o rs (cO x) x.2=(cO x == o || !x.2.any (nH 2) || rh rs (cO x))):=by unfold lU;rw[hu,h5];rfl
    have JE:(x.2.any (nH 5)=false)\/(x.2.any (nH 5)=true/\(x.2.length:Int)<=1):=by
     cases hh:x.2.any (nH 5)
     ·exact .inl rfl
     ·rw[hh]at h5;simp at h5;exact .inr ⟨rfl,ae⟩
    clear h5;have ug:=ag (fun W4 (h:aw V W4)=>Nh 5 _ x.2 W4 (F_ W4 h) ae);have jA:=ag (fun W4 (h:aw V W4)=>Nh 2 _ x.2 W4 (F_ W4 h) ae);have FB:=ag (fun W4 (h:aw V W4)=>aeI b off cap (cO x) rs W4 (NX W4 h) fw hlen lR (af HO));clear HS bG F_ NX ie o5 ri o9;cases hno:cO x == o
    ·rw[hno]at h_;cases h2:x.2.any (nH 2)
     ·have hs:=ag (show lU o rs (cO x) x.2=true by rw[af hr1,hno,h2];rfl);rcases JE with h5|⟨h5,JF⟩
      all_goals
       gi_wp2_with fail;refine⟨aY,rfl,?_⟩;refine(CallsIn.inRound l' (bR.2 (af vD))).mono ?_;rintro e V ⟨rfl,rfl⟩;gi_wp2_with fail;refine⟨aY,rfl,?_⟩;refine(CallsIn.inRound l' (bR.2 (ug _ bj))).mono ?_;rintro e W4 ⟨rfl,hb4⟩;obtain⟨bI,d1,d2,d3⟩:=af p3 W4 hb4;gi_wp2_with fail;refine⟨aY,rfl,?_⟩;refine(CallsIn.inRound l' (bR.2 (jA _ hb4))).mono ?_;rintro e W6 ⟨rfl,p7⟩;have bu:=ag (sk hs W6 (hb4.trans (p7.mono hb4.size)));clear sk;gi_wp2_with fail;refine⟨aY,?_⟩;gi_wp2_with fail;exact bu
     ·cases UN:rh rs (cO x)
      ·have hs:=ag (show lU o rs (cO x) x.2=false by rw[af hr1,hno,h2,UN];rfl);rcases JE with h5|⟨h5,JF⟩
       all_goals
        gi_wp2_with fail;refine⟨aY,rfl,?_⟩;refine(CallsIn.inRound l' (bR.2 (af vD))).mono ?_;rintro e V ⟨rfl,rfl⟩;gi_wp2_with fail;refine⟨aY,rfl,?_⟩;refine(CallsIn.inRound l' (bR.2 (ug _ bj))).mono ?_;rintro e W4 ⟨rfl,hb4⟩;obtain⟨bI,d1,d2,d3⟩:=af p3 W4 hb4;gi_wp2_with fail;refine⟨aY,rfl,?_⟩;refine(CallsIn.inRound l' (bR.2 (jA _ hb4))).mono ?_;rintro e W6 ⟨rfl,p7⟩;have xl:=hb4.trans (p7.mono hb4.size);obtain⟨f0,f1,f2,f3⟩:=af p3 W6 xl;gi_wp2_with fail;refine⟨aY,rfl,?_⟩;refine(CallsIn.inRound l' (bR.2 (FB _ xl))).mono ?_;rintro e W7 ⟨rfl,oA⟩;have UO:=xl.trans (oA.mono xl.size);obtain⟨g0,g1,g2,g3⟩:=af p3 W7 UO;have bu:=ag (yK hs W7 UO);clear yK sk;gi_wp2_with fail;exact⟨bu.1,rfl,bu.2⟩
      ·have hs:=ag (show lU o rs (cO x) x.2=true by rw[af hr1,hno,h2,UN];rfl);rcases JE with h5|⟨h5,JF⟩
       all_goals
        gi_wp2_with fail;refine⟨aY,rfl,?_⟩;refine(CallsIn.inRound l' (bR.2 (af vD))).mono ?_;rintro e V ⟨rfl,rfl⟩;gi_wp2_with fail;refine⟨aY,rfl,?_⟩;refine(CallsIn.inRound l' (bR.2 (ug _ bj))).mono ?_;rintro e W4 ⟨rfl,hb4⟩;obtain⟨bI,d1,d2,d3⟩:=af p3 W4 hb4;gi_wp2_with fail;refine⟨aY,rfl,?_⟩;refine(CallsIn.inRound l' (bR.2 (jA _ hb4))).mono ?_;rintro e W6 ⟨rfl,p7⟩;have xl:=hb4.trans (p7.mono hb4.size);obtain⟨f0,f1,f2,f3⟩:=af p3 W6 xl;gi_wp2_with fail;refine⟨aY,rfl,?_⟩;refine(CallsIn.inRound l' (bR.2 (FB _ xl))).mono ?_;rintro e W7 ⟨rfl,oA⟩;have bu:=ag (sk hs W7 (xl.trans (oA.mono xl.size)));clear yK sk;gi_wp2_with fail;exact bu
    ·rw[hno]at h_;have hs:=ag (show lU o rs (cO x) x.2=true by rw[af hr1,hno];rfl);rcases JE with h5|⟨h5,JF⟩
     all_goals
      gi_wp2_with fail;refine⟨aY,rfl,?_⟩;refine(CallsIn.inRound l' (bR.2 (af vD))).mono ?_;rintro e V ⟨rfl,rfl⟩;gi_wp2_with fail;refine⟨aY,rfl,?_⟩;refine(CallsIn.inRound l' (bR.2 (ug _ bj))).mono ?_;rintro e W4 ⟨rfl,hb4⟩;obtain⟨bI,d1,d2,d3⟩:=af p3 W4 hb4;have bu:=ag (sk hs W4 hb4);clear yK sk;gi_wp2_with fail;refine⟨aY,?_⟩;gi_wp2_with fail;refine⟨aY,?_⟩;gi_wp2_with fail;exact bu
   ·have hs:=ag (show lU o rs (cO x) x.2=false by unfold lU;rw[hu,h5];rfl);rw[fo]at h5;obtain⟨aqd,Dm⟩:=h5;have JF:(1:Int)<(x.2.length:Int):=by simp at Dm;omega
    clear Dm;have ug:=ag (Nh 5 _ x.2 V (F_ V bj) ae);gi_wp2_with fail;refine⟨aY,rfl,?_⟩;refine(CallsIn.inRound l' (bR.2 (af vD))).mono ?_;rintro e V ⟨rfl,rfl⟩;gi_wp2_with fail;refine⟨aY,rfl,?_⟩;refine(CallsIn.inRound l' (bR.2 (af ug))).mono ?_;rintro e W4 ⟨rfl,hb4⟩;obtain⟨bI,d1,d2,d3⟩:=af p3 W4 hb4;have bu:=ag (yK hs W4 hb4);clear yK sk;gi_wp2_with fail;exact⟨bu.1,rfl,bu.2⟩
  case stop2 =>
   intro c V hI yL yq;obtain⟨rfl,lN,sG,hc,fH⟩:=hI;have bg:=ag lN;clear lN;have cb:=hc.cell;gi_wp2_with fail;refine⟨ak,.inl ⟨_,_,rfl,run_takeDeferred yL,?_⟩⟩;have Ga:=(World.putObj_heap_other (w:=V) (o:=.deferred none) (show w.heap.size+5≠W5.heap.size by omega)).trans fH;refine⟨ak,.inl ⟨_,_,rfl,run_takeDeferred Ga,?_⟩⟩;have cr:=((hc.put (d:=W5.heap.size) (o:=.deferred none) ae).put (d:=w.heap.size+5) (o:=.deferred none) ae).cell;have hB1:=sG.trans (belowK_b (w:=W5) (show w.heap.size<=W5.heap.size by omega) V _ _ (.deferred none) aB yL rfl rfl);have hB2:=hB1.trans (belowK_b (w:=w) aB _ (w.heap.size+5) _ (.deferred none) ae Ga rfl rfl);exact⟨.bool false,by simp[results,results60,go_sem,cr],by rw[af bg],hB2⟩
  case done2 =>
   intro V hI yL yq;rw[e7]at yL yq;obtain⟨hf,sG,eY,nM,hc,fH⟩:=hI;have hall:(bC dw rs).all (fun x=>lU o rs (cO x) x.2)=true:=by
    rw[<- hf,pJ aB];rfl
   have bg:Hid (o8 o rs=decide (0<(fz (cK rs o) 2).length)):=by rw[Hid,af Dl,hall];rfl
   clear hf hall;have aeR:=eY.cell;have UK:=nM.cell;have NY:=ag (aT.below sG);have ri:=ag hc;have o9:=ag fH;have hmx:prog.follows .mixedOrders=true:=aK;clear eY nM hc fH;gi_wp2_with fail;refine⟨aY,rfl,?_⟩;refine(bR.2 (TM b off cap o 2 rs _ (af NY) fw hlen)).mono ?_;rintro e V2 ⟨⟨v,rfl,hv⟩,hb4⟩;obtain⟨a4,bw,rfl⟩:=hv.slice;have hb5:=ri.below hb4 ri.lt;have uf:=ag hb5;have FQ:=ag hb4;have aqe:=hb5.cell;have aqf:=hb5.frozen;clear hv hb5 hb4;gi_wp2_with fail;have hb4:=af FQ;have NF:V.heap.size<=V2.heap.size:=hb4.size
   first|rw[e7]|skip
   have UQ:(V2.setCell ⟨w.heap.size+1+1,0,none⟩ (.bool (decide (0<(fz (cK rs o) 2).length)))).heap[(W.heap.size+1)]? = some (.deferred (some [])) :=
    (bf _ _ _ _ (by show(W.heap.size+1)≠w.heap.size+1+1;omega)).trans ((hb4.block _ (by show(W.heap.size+1)<V.heap.size;omega)).trans yL)
   refine⟨ak,.inl ⟨_,_,rfl,run_takeDeferred UQ,?_⟩⟩;have Ga:((V2.setCell ⟨w.heap.size+1+1,0,none⟩ (.bool (decide (0<(fz (cK rs o) 2).length)))).putObj (W.heap.size+1) (.deferred none)).heap[w.heap.size+5]? = some (.deferred (some [])) :=
    (World.putObj_heap_other ae).trans ((bf _ _ _ _ (by show w.heap.size+5≠w.heap.size+1+1;omega)).trans ((hb4.block _ (by show w.heap.size+5<V.heap.size;omega)).trans (af o9)))
   refine⟨ak,.inl ⟨_,_,rfl,run_takeDeferred Ga,?_⟩⟩;have cr:=(((uf.set (.bool (decide (0<(fz (cK rs o) 2).length)))).put (d:=(W.heap.size+1)) (o:=.deferred none) ae).put (d:=w.heap.size+5) (o:=.deferred none) ae).cell;have hB0:=(sG.trans (hb4.mono sG.size)).setCell (p:=⟨w.heap.size+1+1,0,none⟩) (by show w.heap.size<=w.heap.size+1+1;omega) (.bool (decide (0<(fz (cK rs o) 2).length)));have hB1:=hB0.trans (belowK_b (w:=W) (show w.heap.size<=W.heap.size by omega) _ _ _ (.deferred none) (Nat.le_succ _) UQ rfl rfl);have hB2:=hB1.trans (belowK_b (w:=w) aB _ (w.heap.size+5) _ (.deferred none) ae Ga rfl rfl);refine⟨_,by simp[results,results60,go_sem,cr];rfl,?_,hB2⟩;refine fu ?_;rw[af bg]
end
theorem aeS(s:ByteArray)(w:World):aF 174 #[.string s] w fun e w'=>e=.returned (.bool false)/\w'=w:=by go_enter func174,ntmps174;go_wp2;go_ret;exact⟨ak,rfl⟩
def A0(a b:ai):Int:=if Op.bytesLess a b then -1 else if a == b then 0 else 1
theorem aeT(s t:ByteArray)(w:World):aF 105 #[.string s,.string t] w fun e w'=>e=.returned (aq (A0 s.data.toList t.data.toList))/\w'=w:=by go_enter func105,ntmps105;go_wp2_with (go_at_call 174;refine(aeS _ _).mono ?_;rintro e w ⟨rfl,rfl⟩);all_goals(go_ret;refine⟨ym ?_,rfl⟩;unfold A0;simp only[gO]at *;simp_all)
def Dn(x y:Int):Int:=if x=0 then y else x
theorem aeU(x y:Int)(b c:Nat)(w:World)(h0:w.cell? (ar b 0)=some (aq x))(h1:w.cell? (ar b 1)=some (aq y)) :
  aF 104 #[aU b 0 2 c] w fun e w'=>e=.returned (aq (Dn x y))/\w'=w:=by
 by_cases hx:x=0;{
 have aJ:Hid (Dn x y=y):=aP hx;subst hx;by_cases hy:y=0;{
 subst hy;go_enter func104,ntmps104;go_wp2;go_loop [8] (fun i=>∃k:Nat,k<=2/\i=aq k) (fun i=>2 - (intOf i).toNat);case atStart=>exact⟨0,ae,rfl⟩
 case round =>(
 obtain⟨k,hk,rfl⟩:=hrel;match k,hk with
 | 0,_ =>{
 go_wp2;go_round;case rel=>exact⟨1,ae,dD⟩
 case measure=>simp[intOf]}
 | 1,_ =>{
 go_wp2;go_round;case rel=>exact⟨2,ae,dD⟩
 case measure=>simp[intOf]}
 | 2,_ =>{go_wp2;go_ret;exact⟨ym aJ.symm,rfl⟩})};{
 have hyb:(y != 0)=true:=by rw[Fg];exact hy
 go_enter func104,ntmps104;go_wp2;go_loop [8] (fun i=>∃k:Nat,k<=1/\i=aq k) (fun i=>2 - (intOf i).toNat);case atStart=>exact⟨0,ae,rfl⟩
 case round =>(
 obtain⟨k,hk,rfl⟩:=hrel;match k,hk with
 | 0,_ =>{
 go_wp2;go_round;case rel=>exact⟨1,ae,dD⟩
 case measure=>simp[intOf]}
 | 1,_ =>{go_wp2;go_ret;exact⟨ym aJ.symm,rfl⟩})}};{
 have hxb:(x != 0)=true:=by rw[Fg];exact hx
 have aJ:Hid (Dn x y=x):=aG hx;go_enter func104,ntmps104;go_wp2;go_loop [8] (fun i=>i=aq 0) (fun i=>2 - (intOf i).toNat);case atStart=>rfl
 case round =>(obtain rfl:=hrel;go_wp2;go_ret;exact⟨ym aJ.symm,rfl⟩)}
def kD(r s:aj):Int:=Dn (A0 r.owner s.owner) (Lib.compareInt r.type s.type)
theorem JG(r s:aj)(w:World) :
  aF 103 #[.agg #[aA r.owner,aq r.aV,aq r.type,aA r.data],.agg #[aA s.owner,aq s.aV,aq s.type,aA s.data]] w fun e w' =>
   e=.returned (aq (kD r s))/\∃q os',w'=Sort.grow (w.drewN q) os':=by
 have hc1:∀W,aF 105 #[aA r.owner,aA s.owner] W fun e w'=>e=.returned (aq (A0 r.owner s.owner))/\w'=W:=fun W=>aeT _ _ W;have hc2:∀W,aF 106 #[aq r.type,aq s.type] W fun e w'=>e=.returned (aq (Lib.compareInt r.type s.type))/\w'=W:=fun W=>Tryz.cmp_Compare_int _ _ W;have f_:=ag hc1;have jA:=ag hc2;have aJ:Hid (kD r s=Dn (A0 r.owner s.owner) (Lib.compareInt r.type s.type)):=rfl;generalize A0 r.owner s.owner=x at *;generalize Lib.compareInt r.type s.type=y at *;clear hc1 hc2;go_enter func103,ntmps103;go_wp2_with fail
 go_region_held (fun w'=>w'.cell? (ar w.heap.size 0)=some (aA r.owner)/\w'.cell? (ar w.heap.size 2)=some (aq r.type)/\w'.cell? (ar (w.heap.size+1) 0)=some (aA s.owner)/\w'.cell? (ar (w.heap.size+1) 2)=some (aq s.type)) (go_keep)
  (first
   | (go_at_call 105;refine(f_ _).mono ?_;rintro e w' ⟨rfl,rfl⟩)
   | (go_at_call 106;refine(jA _).mono ?_;rintro e w' ⟨rfl,rfl⟩)
   | (go_at_call 104;refine(aeU x y _ _ _ (by go_simp) (by go_simp)).mono ?_;rintro e w' ⟨rfl,rfl⟩))
 all_goals
  go_wp2;go_ret;refine⟨ym aJ.symm,1,#[.cells #[.string (ah r.owner),.int .i64 r.aV,.int .i64 r.type,.string (ah r.data)] 47,.cells #[.string (ah s.owner),.int .i64 s.aV,.int .i64 s.type,.string (ah s.data)] 47,.cells #[.int .i64 x,.int .i64 y] 3],?_⟩;rw[Sort.alloc_eq_grow,Sort.alloc_eq_grow,Sort.alloc_eq_grow,Sort.grow_grow,Sort.grow_grow];rfl
section
open Go.RowKit Go.Sort
def aQ(rs:List aj):List aj:=(Sort.insertionSort (ltOf kD) rs.toArray 0 rs.length).toList
theorem UR{w:World}{g:Nat}{cur:Array Value}{e:TypeId}{rs:List aj}(hg:w.heap[g]? = some (.cells cur e))(hr:dz w g 0 rs):HoldsK aj.aN 4 w g 0 rs.toArray:=by
 intro j hj;rw[size_flatK]at hj;simp only[lK]at hj;rw[get_flatK _ _ _ _ (by simpa using hj)];refine⟨?_,by simp[World.frozen?,hg]⟩;have Js:j/4<rs.length:=ae;have hlen:(aj.aN rs[j/4]!).length=4:=rfl;have h1:(aj.aN rs[j/4]!)[j%4]? = some (aj.aN rs[j/4]!)[j%4]!:=by{
 have hk:j%4<(aj.aN rs[j/4]!).length:=by rw[hlen];omega
 rw[mM hk,CR (aj.aN rs[j/4]!) (j%4) hk]};have:=hr.2 (j/4) Js (j%4) _ h1;rw[show 0+j/4*4+j%4=0+j from ae]at this;rw[this];simp
theorem aeV{w:World}{g:Nat}{rs:List aj}(hg:g<w.heap.size)(h:HoldsK aj.aN 4 w g 0 rs.toArray):dz w g 0 rs:=by
 refine⟨hg,fun j hj i u hu=>?_⟩;have au:i<4:=by have:=(iu.1 hu).1;exact this
 have hc:=(h.cell (i:=j) (c:=i) (by simpa using hj) au).1;rw[hc];have e:rs.toArray[j]! = rs[j]!:=ak;rw[e];rw[iu]at hu;obtain⟨h1,h2⟩:=hu;rw[CR (aj.aN rs[j]!) i h1,h2]
theorem aeW(JH off size:Nat)(w:World):CmpLays prog 103 #[] aj.aN 4 kD JH off size w :=
 fun _ _ _ _ x y=>JG x y _
theorem NZ(lt:aj->aj->Bool)(a:Nat):∀(j:Nat) (d:Array aj),(insInner lt a j d).size=d.size
 | 0,d=>rfl
 | j+1,d=>by rw[insInner];split;{rw[NZ lt a j,size_swp]};{rfl}
theorem UT(lt:aj->aj->Bool)(a b:Nat):∀(f i:Nat) (d:Array aj),b - i<=f->(insOuter lt a b i d).size=d.size
 | 0,i,d,h=>by rw[insOuter,aG ae]
 | f+1,i,d,h=>by rw[insOuter];split;{rw[UT lt a b f _ _ ae,NZ]};{rfl}
theorem JI(lt:aj->aj->Bool)(d:Array aj)(a b:Nat):(Sort.insertionSort lt d a b).size=d.size:=UT lt a b _ _ d aB
theorem UU(rs:List aj):(aQ rs).length=rs.length:=by unfold aQ;rw[qC,JI];simp
theorem aeX{p:aj->Prop}{d:Array aj}(h:∀k,k<d.size->p d[k]!){i j:Nat}(au:i<d.size)(hj:j<d.size):∀k,k<(swp d i j).size->p (swp d i j)[k]!:=by
 intro k hk;rw[size_swp]at hk;unfold swp;have dN:k<(d.setIfInBounds i d[j]!).size:=by simpa using hk
 have hk2:k<((d.setIfInBounds i d[j]!).setIfInBounds j d[i]!).size:=by simpa using hk
 rw[CR _ k hk2,Sb dN];split;{exact h i au};{rw[Sb hk];split;{exact h j hj};{rw[<- CR d k hk];exact h k hk}}
theorem UW{p:aj->Prop}(lt:aj->aj->Bool)(a:Nat):∀(j:Nat) (d:Array aj),j<d.size->(∀k,k<d.size->p d[k]!)->∀k,k<(insInner lt a j d).size->p (insInner lt a j d)[k]!
 | 0,d,_,h=>h
 | j+1,d,hj,h=>by rw[insInner];split;{exact UW lt a j _ (by rw[size_swp];omega) (aeX h hj ae)};{exact h}
theorem UX{p:aj->Prop}(lt:aj->aj->Bool)(a b:Nat):∀(f i:Nat) (d:Array aj),b - i<=f->b<=d.size->(∀k,k<d.size->p d[k]!)->∀k,k<(insOuter lt a b i d).size->p (insOuter lt a b i d)[k]!
 | 0,i,d,hf,hb,h=>by rw[insOuter,aG ae];exact h
 | f+1,i,d,hf,hb,h=>by rw[insOuter];split;{exact UX lt a b f _ _ ae (by rw[NZ];exact hb) (UW lt a i d ae h)};{exact h}
theorem aeY{p:aj->Prop}{rs:List aj}(h:∀r∈rs,p r):∀r∈aQ rs,p r:=by
 intro r hr;obtain⟨k,hk,rfl⟩:=List.getElem_of_mem hr;have gU:k<(Sort.insertionSort (ltOf kD) rs.toArray 0 rs.length).size:=by unfold aQ at hk;simpa using hk
 have:=UX (p:=p) (ltOf kD) 0 rs.length _ 1 rs.toArray aB ak (fun k hk=>by{
 have hk2:k<rs.length:=by simpa using hk
 have e:rs.toArray[k]! = rs[k]:=by simp[hk2]
 rw[e];exact h _ (iV _)}) k gU
 have e:(aQ rs)[k]=(Sort.insertionSort (ltOf kD) rs.toArray 0 rs.length)[k]!:=by{unfold aQ;rw[CR _ k gU];simp};exact e ▸ this
theorem aeZ{B g n:Nat}{a w:World}{dk:Array aj}{os:Array Obj}(h:Below B a w)(hg:B<=g)(hB:B<=w.heap.size):Below B a (sortWorldK aj.aN 4 w g 0 n dk os):=by refine h.trans ⟨rfl,rfl,rfl,?_,fun k hk=>?_⟩;{exact size_sortWorldK_c aj.aN 4 w g 0 n dk os};{unfold sortWorldK putRowK putRow mapBlock Sort.grow Sort.ahead;show((w.heap.modify g _)++os)[k]? = w.heap[k]?;rw[R_ (by rw[Array.size_modify];omega),iq,aG ae]}
end
def rj(t:ai):Option (ai×List aj) :=
 (ku t).bind fun x=>if qP x.1 x.2 && o8 x.1 (aQ x.2)then some (x.1,aQ x.2)else none
def ae0(o:Option (ai×List aj))(base:Nat)(e:Ending)(w':World):Prop :=
 match o with
 | none=>e=.returned (.tuple #[.pointer none,aq 1])
 | some (o,rs)=>∃zb g cap,e=.returned (.tuple #[aO zb,aq 0])/\base<=zb/\base<=g/\fA w' zb o g 0 cap rs
theorem UY(s:ByteArray)(w:World)(hs:s.size<=281474976710656) :
  aF 57 #[.string s] w (cS (.string s) w):=by go_enter func57,ntmps57;go_wp2_with fail;refine(Tryz.stringslite_Clone s w hs).mono ?_;rintro e w1 ⟨rfl,hb⟩;go_wp2;go_ret;exact⟨rfl,hb⟩
theorem ae1(o:ai)(b off n cap:Nat)(w:World) :
  aF 61 #[aA o,aU b off n cap] w fun e w'=>e=.returned (aO w.heap.size)/\aw w w'/\w.heap.size<w'.heap.size /\
   w'.cell? (ar w.heap.size 0)=some (aA o)/\w'.cell? (ar w.heap.size 1)=some (aU b off n cap):=by go_enter func61,ntmps61;go_wp2;go_ret;exact⟨rfl,bj.alloc aB _,ak,by go_simp,by go_simp⟩
theorem UZ{w:World}{base:Nat}{v:Value}{rs:List aj}(h:rX w base v rs)(hne:rs≠[]) :
  ∃g cap cur,v=aU g 0 rs.length cap/\base<=g/\w.heap[g]? = some (.cells cur 47)/\rs.length<=cap/\dz w g 0 rs:=by have nJ:=h.rv;obtain⟨⟨hlen,hv⟩,hnil⟩:=h;rcases hv with⟨rfl,h0⟩|⟨g,cap,cur,rfl,hb,bp,hc,hm,hsz,pV⟩;{exact absurd (hnil.1 rfl) hne};{refine⟨g,cap,cur,rfl,hb,bp,hc,?_⟩;rcases nJ with⟨e,_⟩|⟨b',off',cap',e,_,hr⟩;{cases e};{cases e;exact hr}}
def rk(l:List aj):Bool:=l.length == 1 && (l.headD aj.zero).type == 5
def jO(o:ai)(rs:List aj)(n:ai):Int:=if(dn o rs n).length=0 then(if(cg rs n).2 then 0 else 3)else 0
def kE(o:ai)(rs:List aj)(k:Int)(n:ai):List aj:=if(dn o rs n).length=0 then(if(cg rs n).2 then jz k (cg rs n).1 else [])else []
def lV(o:ai)(rs:List aj)(k:Int)(n:ai):List aj :=
 if(dn o rs n).length=0 then(if(cg rs n).2 then(if sj k (cg rs n).1 then []else fB o rs)else fB o rs)else dn o rs n
theorem U0(v:Value)(l:List aj)(w:World)(hv:gV w v l)(hl:l.length<=3001) :
  aF 246 #[v] w fun e w'=>e=.returned (.bool (rk l))/\w'=w:=by
 rcases hv with⟨rfl,rfl⟩|⟨b,off,cap,rfl,hc,hr⟩;{go_enter func246,ntmps246;go_wp2;go_ret;exact⟨rfl,rfl⟩};{
 by_cases h1:l.length=1;{
 obtain⟨r,rfl⟩:=IG.1 h1;obtain⟨c0,az,c2,c3⟩:=hr.four 0 ak;simp only[Ad,tI,dS]at c2;have aJ:Hid (rk [r]=(r.type == 5)):=by unfold rk;rw[Hid];simp
 clear hr c0 az c3 h1;simp only[cU,fV]at hc ⊢;go_enter func246,ntmps246;go_wp2;go_ret;exact⟨fu aJ.symm,rfl⟩};{
 have aJ:Hid (rk l=false):=by unfold rk;rw[Hid,gL.2 h1];rfl
 have U1:((l.length:Int) == 1)=false:=by rw[gL];omega
 clear hr h1;go_enter func246,ntmps246;go_wp2;go_ret;exact⟨fu aJ.symm,rfl⟩}}
theorem U2(o:ai)(rs:List aj)(n:ai):(dn o rs n).length<=rs.length:=by
 unfold dn;generalize (cu n).takeWhile (fun e=>!(e == o))=es;have:∀(es:List ai) (acc:List aj),acc.length<=rs.length->(es.foldl (mR rs) acc).length<=rs.length:=by{
 intro es;induction es with
 | nil=>intro acc h;exact h
 | cons e t ih =>{intro acc h;rw[abZ];refine ih _ ?_;unfold mR;split;{exact h};{exact a_ (Jm _ _) (FL _ _)}}};exact this es [] ak
theorem ae2(n:Nat)(w:World)(hn:n<=10000) :
  aF 249 #[bK,aq n] w fun e w'=>∃v,e=.returned v/\bT w' w.heap.size v []/\aw w w':=by obtain⟨i0,au,hz0,hz1,hz2⟩:=kS CZ;by_cases h0:n=0;{subst h0;refine(Any8.slices_Grow_room Tryz.UI none 0 0 0 w aB ae ae ae).mono ?_;rintro e w' ⟨rfl,rfl⟩;exact⟨_,rfl,iI _ _ _ _,bW _ _⟩};{refine(Any8.slices_Grow_grow Tryz.UI i0 _ au hz0 (by rw[hz1];omega) none 0 0 n [] w aB ae (by rw[hz2];omega) ae ak (fun _=>rfl) (fun a h=>by cases h)).mono ?_;rintro e w' ⟨rfl,rfl⟩;have hge:=MP w (0+n) 0 (Tryz.JD.t 25);have hle:=grownCap_le_maxLen w (0+n) 0 (Tryz.JD.t 25) (by simp[maxLen];omega);refine⟨_,rfl,⟨rfl,.inr ⟨w.heap.size,_,_,rfl,aL _,I4 w.drew _,dY _,hle,?_,rfl⟩⟩,(bj.drew).alloc aB _⟩;have e1:(Value.cells (.agg #[.string ⟨#[]⟩,.int .i64 0,.int .i64 0,.string ⟨#[]⟩])).size=4:=rfl;rw[Array.size_append,Array.size_append,size_zeroCells,size_zeroCells,e1];have e2:(List.toArray ([]:List Value)).size=0:=rfl;rw[e2];generalize grownCap w (0+n) 0 (Tryz.JD.t 25)=bH at *;omega}
theorem U3(base:Nat)(va xv:Value)(ans xs:List aj)(w:World)(ho:bT w base va ans)(hx:gV w xv xs)(hb:base<=w.heap.size)(hl:ans.length+xs.length<=100000) :
  ∃v' w',(Builtin.append_ #[41,41] 41 #[va,xv]).run prog w=.ok v' w'/\bT w' base v' (ans++xs)/\Below base w w':=by rcases hx with⟨rfl,rfl⟩|⟨b,off,cap,rfl,hc,hr⟩;{obtain⟨i0,au,hz0,hz1,hz2⟩:=kS CZ;exact⟨va,w,run_append_owned_none (P:=prog) (w:=w) base 41 41 47 i0 4 Jg au va _ _ ho,by rw[jt];exact ho,bW _ _⟩};{obtain⟨v',w',h1,h2,h3,_⟩:=NL base va ans xs b off cap w ho hr hb hl;exact⟨v',w',h1,h2,(bW _ w).grown h3 hb (fun k hk=>(ho.Jr k hk).1)⟩}
theorem JJ{P:Program}{ops:Array Oper}{rest:List Oper}{o:Oper}{a:Act}{w:World}{Q:Exit->Act->World->Prop}(hgd:o.guard=none)(s x:Operand)(t:TypeId)(ho:o.op=.call { callee:=.builtin .append,args:=#[s,x],argTypes:=#[t,t] })(v xv v':Value)(w':World)(hs:a.eval s=v)(hx:a.eval x=xv)
  (hr:(Builtin.append_ #[t,t] o.type #[v,xv]).run P w=.ok v' w') (h:wpList P ops Q rest (a.put o.dst v') w'):wpList P ops Q (o :: rest) a w:=by refine wpList_plain hgd fun K hK=>?_;unfold Oper.wp execOp;simp only[ho,resolve,invoke,builtin,Sem.run_bind,Iw,CG,IJ,og,ye,hs,hx,hr];exact hK _ _ h
theorem ae3(q:Nat)(va vb:Value)(ans eB:List aj)(w:World)(hq:q<w.heap.size)(h0:w.cell? (ar q 0)=some va)(h1:w.cell? (ar q 1)=some vb)(ha:gV w va ans)(hb:gV w vb eB)(ae4:ans.length<=4000)(xm:eB.length<=4000) :
  aF 195 #[aU q 0 2 2] w fun e w'=>∃v,e=.returned v/\bT w' w.heap.size v (ans++eB)/\aw w w':=by
 have dV:=ag ha;have aZ:=ag hb;obtain⟨aa,ca,rfl⟩:=AA ha;obtain⟨ab,cb,rfl⟩:=AA hb;clear ha hb;have U4:=ag (ae2 (ans.length+eB.length) w ae);go_enter func195,ntmps195;go_wp2_with fail;go_loop [3,11] (fun sz i=>(sz=aq 0/\i=aq 0)\/(sz=aq ans.length/\i=aq 1)\/(sz=aq ((ans.length+eB.length:Nat):Int)/\i=aq 2)) (fun _ i=>2 - (intOf i).toNat);case atStart=>exact .inl ⟨rfl,rfl⟩
 case round =>(
 rcases hrel with⟨rfl,rfl⟩|⟨rfl,rfl⟩|⟨rfl,rfl⟩;{
 go_wp2_with fail;go_round;case rel=>exact .inr (.inl ⟨dD,dD⟩)
 case measure=>simp[intOf]};{
 go_wp2_with fail;go_round;case rel=>exact .inr (.inr ⟨dD,dD⟩)
 case measure=>simp[intOf]};{
 go_wp2_with fail;refine U4.mono ?_;rintro e w1 ⟨v1,rfl,ho1,hb1⟩;have ij:=ag ho1;clear ho1;go_wp2_with fail;go_loopw [6,27] (fun v i wr=>(i=aq 0/\bT wr w.heap.size v []/\aw w wr)\/(i=aq 1/\bT wr w.heap.size v ans/\aw w wr)\/(i=aq 2/\bT wr w.heap.size v (ans++eB)/\aw w wr)) (fun _ i _=>2 - (intOf i).toNat);case atStart=>exact .inl ⟨rfl,ij,hb1⟩
 case round =>(
 clear ij hb1 U4;rcases hrel with⟨rfl,oB,hbr⟩|⟨rfl,oB,hbr⟩|⟨rfl,oB,hbr⟩;{
 obtain⟨v',w',hrun,xn,hb'⟩:=U3 w.heap.size _ _ [] ans wr oB (dV.below hbr) hbr.size aX;obtain⟨av,cv,rfl⟩:=oB.slice;have q0:=(hbr.cell (p:=⟨q,0,none⟩) hq).trans h0;have bu:Hid (bT w' w.heap.size v' ans/\aw w w'):=⟨xn,hbr.trans hb'⟩;clear oB xn hb';go_wp2_with (at_builtin;refine JJ rfl _ _ 41 rfl _ _ v' w' rfl rfl hrun ?_);go_roundw;case rel=>exact .inr (.inl ⟨dD,bu⟩)
 case measure=>simp[intOf]};{
 obtain⟨v',w',hrun,xn,hb'⟩:=U3 w.heap.size _ _ ans eB wr oB (aZ.below hbr) hbr.size ae;obtain⟨av,cv,rfl⟩:=oB.slice;have q1:=(hbr.cell (p:=⟨q,1,none⟩) hq).trans h1;have bu:Hid (bT w' w.heap.size v' (ans++eB)/\aw w w'):=⟨xn,hbr.trans hb'⟩;clear oB xn hb';go_wp2_with (at_builtin;refine JJ rfl _ _ 41 rfl _ _ v' w' rfl rfl hrun ?_);go_roundw;case rel=>exact .inr (.inr ⟨dD,bu⟩)
 case measure=>simp[intOf]};{have bu:=ag oB;clear oB;go_wp2;go_ret;exact⟨_,rfl,bu,hbr⟩})})
section
open Go.RowKit Go.Conc
def mW(w:World)(cb c:Nat)(shut:Bool):Prop :=
 cb<w.heap.size/\w.cell? (ar cb 0)=some (.chan (some c))/\∃s r tm,w.heap[c]? = some (.chan 0 #[] shut s r tm)
theorem mW.below{w w':World}{cb c n:Nat}{shut:Bool}(h:mW w cb c shut)(hb:Below n w w')(h1:cb<n)(h2:c<n):mW w' cb c shut:=by obtain⟨a,b,s,r,tm,d⟩:=h;exact⟨eQ a hb.size,(hb.cell (p:=⟨cb,0,none⟩) h1).trans b,s,r,tm,(hb.block c h2).trans d⟩
theorem mW.lt{w:World}{cb c:Nat}{shut:Bool}(h:mW w cb c shut):c<w.heap.size:=by obtain⟨_,_,_,_,_,h⟩:=h;exact(di.1 h).1
theorem ae5:∃i,prog.info? 332=some i/\i.bytes=0:=by have h:(prog.info? 332).map (·.bytes)=some 0:=aK;obtain⟨i,au,hb⟩:=SH.1 h;exact⟨i,au,hb⟩
theorem ae6(w:World):(Instr.makeChan 270 (aq 0)).run prog w=.ok (.chan (some w.heap.size)) (w.alloc (.chan 0 #[] false 0 0 false)):=by obtain⟨i,au,hb⟩:=ae5;simpa using run_makeChan (P:=prog) (w:=w) underlying270 au .i64 0 ae (by rw[hb];omega)
theorem ae7(w:World) :
  aF 125 #[] w fun e w'=>∃cb c,e=.returned (aO cb)/\mW w' cb c false/\w.heap.size<=cb/\w.heap.size<=c/\cb≠c/\aw w w':=by have hmc:=ae6;go_enter func125,ntmps125;go_wp2;go_ret;refine⟨_,w.heap.size,rfl,⟨ak,by go_simp,0,0,false,?_⟩,ae,aL _,ae,(bj.alloc aB _).alloc ak _⟩;exact(bV _ _ _ ak).trans (World.alloc_heap_new w _)
theorem ae8(cb c:Nat)(w:World)(h:mW w cb c false) :
  aF 193 #[aO cb] w fun e w'=>e=.returned (.bool false)/\w'=w:=by obtain⟨hlt,hc,s,r,tm,hch⟩:=h;refine calls_of_loneTo fun cs=>?_;have e:Frame.enter prog 193 #[aO cb] .normal=(base 193).at ⟨#[aO cb,undef,undef,undef,undef,undef,undef,undef,undef,undef],[]⟩ [.code (f193.body.getD .skip)]:=by{simp[Frame.enter,Frame.at,func193,base,f193]};rw[e];refine LoneTo.goes (n:=13) ?_;simp only[f193,IY];s_c stepG_seq;s_reg;s_op;s_c stepG_region_end;s_c stepG_seq;s_reg;s_op;s_op;s_op;s_op;s_c stepG_region_end;s_c stepG_seq;s_reg;s_stop;refine LoneTo.step (step_lone_select_default (c:=c) (z:=.agg #[]) (stepG_comm (cases:=#[rcase c (.agg #[])]) (blocking:=false) (shape:=.select) (w':=w) rfl rfl aC (by simp[go_sem,execOp,rcase,Act.eval])) hch) ?_;rw[Frame.finish_at];walk_nrm;refine LoneTo.goes (n:=10) ?_;s_op;s_op;s_c stepG_region_end;s_c stepG_block;s_cond false;s_c stepG_seq;s_reg;s_op;s_c stepG_region_end;s_c stepG_ret';s_stop;refine LoneTo.done ⟨.returned (.bool false),_,rfl,⟨rfl,rfl⟩,rfl,rfl,rfl,rfl,_,func193,by simp[results,f193,Frame.at]⟩
theorem ae9(cb c:Nat)(w:World)(h:mW w cb c true) :
  aF 193 #[aO cb] w fun e w'=>e=.returned (.bool true)/\w'=w:=by obtain⟨hlt,hc,s,r,tm,hch⟩:=h;refine calls_of_loneTo fun cs=>?_;have e:Frame.enter prog 193 #[aO cb] .normal=(base 193).at ⟨#[aO cb,undef,undef,undef,undef,undef,undef,undef,undef,undef],[]⟩ [.code (f193.body.getD .skip)]:=by{simp[Frame.enter,Frame.at,func193,base,f193]};rw[e];refine LoneTo.goes (n:=13) ?_;simp only[f193,IY];s_c stepG_seq;s_reg;s_op;s_c stepG_region_end;s_c stepG_seq;s_reg;s_op;s_op;s_op;s_op;s_c stepG_region_end;s_c stepG_seq;s_reg;s_stop;refine LoneTo.step (step_lone_select_recv_shut (c:=c) (z:=.agg #[]) (stepG_comm (cases:=#[rcase c (.agg #[])]) (blocking:=false) (shape:=.select) (w':=w) rfl rfl aC (by simp[go_sem,execOp,rcase,Act.eval])) hch) ?_;rw[Frame.finish_at];walk_nrm;refine LoneTo.goes (n:=10) ?_;s_op;s_op;s_c stepG_region_end;s_c stepG_block;s_cond true;s_c stepG_seq;s_reg;s_op;s_c stepG_region_end;s_c stepG_ret';s_stop;refine LoneTo.done ⟨.returned (.bool true),_,rfl,⟨rfl,rfl⟩,rfl,rfl,rfl,rfl,_,func193,by simp[results,f193,Frame.at]⟩
theorem JK(cb c:Nat)(shut:Bool)(w:World)(h:mW w cb c shut) :
  aF 193 #[aO cb] w fun e w'=>e=.returned (.bool shut)/\w'=w:=by cases shut;{exact ae8 cb c w h};{exact ae9 cb c w h}
theorem ae_(cb c:Nat)(w:World)(h:mW w cb c false)(hne:cb≠c) :
  aF 275 #[aO cb] w fun e w'=>(∃v,e=.returned v)/\mW w' cb c true/\(∀k,k≠c->w'.heap[k]? = w.heap[k]?)/\w'.heap.size=w.heap.size/\∀B,B<=c->Below B w w':=by have dV:=ag (JK cb c false w h);have hc:=h.2.1;have hcb:=h.1;obtain⟨s,r,tm,hch⟩:=h.2.2;clear h;have hcl:=fun ats ty=>run_close_open (P:=prog) (w:=w) ats ty hch;go_enter func275,ntmps275;go_wp2_with fail;refine dV.mono ?_;rintro e w ⟨rfl,rfl⟩;go_wp2_with fail;go_end0;have N0:∀k,k≠c->(w.heap.setIfInBounds c (.chan 0 #[] true s r tm))[k]? = w.heap[k]?:=fun k hk=>Sa ae;have qU:c<w.heap.size:=(di.1 hch).1;refine⟨⟨_,rfl⟩,⟨by simpa using hcb,(dC (N0 cb hne)).trans hc,s,r,tm,?_⟩,N0,ak,fun B hB=>⟨rfl,rfl,rfl,ak,fun k hk=>N0 k ae⟩⟩;show(w.heap.setIfInBounds c (.chan 0 #[] true s r tm))[c]? = _;rw[abV qU]
end
def U5:Value->Nat
 | .bool true=>1
 | _=>0
def dG(w:World)(rb:Nat)(c0 az c2 c3 bw:Value):Prop:=w.heap[rb]? = some (.cells #[c0,az,c2,c3,bw] 43)
theorem dG.cells{w:World}{rb:Nat}{c0 az c2 c3 bw:Value}(h:dG w rb c0 az c2 c3 bw):w.cell? (ar rb 0)=some c0/\w.cell? (ar rb 1)=some az/\w.cell? (ar rb 2)=some c2/\w.cell? (ar rb 3)=some c3/\w.cell? (ar rb 4)=some bw:=by unfold dG at h;refine⟨?_,?_,?_,?_,?_⟩ <;> simp[World.cell?,h]
theorem dG.frozen{w:World}{rb:Nat}{c0 az c2 c3 bw:Value}(h:dG w rb c0 az c2 c3 bw)(i:Nat):w.frozen? (ar rb i)=false:=by unfold dG at h;simp[World.frozen?,h]
theorem dG.set0{w:World}{rb:Nat}{c0 az c2 c3 bw:Value}(h:dG w rb c0 az c2 c3 bw)(x:Value):dG (w.setCell ⟨rb,0,none⟩ x) rb x az c2 c3 bw:=by unfold dG at *; simp only[World.setCell];rw[iq,aP rfl,h];rfl
theorem dG.set1{w:World}{rb:Nat}{c0 az c2 c3 bw:Value}(h:dG w rb c0 az c2 c3 bw)(x:Value):dG (w.setCell ⟨rb,1,none⟩ x) rb c0 x c2 c3 bw:=by unfold dG at *; simp only[World.setCell];rw[iq,aP rfl,h];rfl
theorem dG.set2{w:World}{rb:Nat}{c0 az c2 c3 bw:Value}(h:dG w rb c0 az c2 c3 bw)(x:Value):dG (w.setCell ⟨rb,2,none⟩ x) rb c0 az x c3 bw:=by unfold dG at *; simp only[World.setCell];rw[iq,aP rfl,h];rfl
theorem dG.De{w:World}{rb:Nat}{c0 az c2 c3 bw:Value}(h:dG w rb c0 az c2 c3 bw)(x:Value):dG (w.setCell ⟨rb,3,none⟩ x) rb c0 az c2 x bw:=by unfold dG at *; simp only[World.setCell];rw[iq,aP rfl,h];rfl
theorem dG.AO{w:World}{rb:Nat}{c0 az c2 c3 bw:Value}(h:dG w rb c0 az c2 c3 bw)(x:Value):dG (w.setCell ⟨rb,4,none⟩ x) rb c0 az c2 c3 x:=by unfold dG at *; simp only[World.setCell];rw[iq,aP rfl,h];rfl
def vI(ps:List (ai×Nat)):List Value:=ps.flatMap fun p=>[aA p.1,aq (p.2:Int)]
def jC(w:World)(base:Nat)(v:Value)(ps:List (ai×Nat)):Prop:=w.ownsRow base 343 2 v ps.length (vI ps)
theorem afa:(prog.info? 343).map (fun i=>(i.zero,i.size,i.bytes))=some (some (.agg #[.string ⟨#[]⟩,aq 0]),2,24):=aK
theorem afb:prog.underlying 281=some (.slice 343):=aK
theorem afc(ps:List (ai×Nat))(p:ai×Nat):vI (ps++[p])=vI ps++[aA p.1,aq (p.2:Int)]:=by simp[vI]
theorem U6:∀(ps:List (ai×Nat)) (j:Nat) (h:j<ps.length),(vI ps)[j*2]? = some (.string (ah ps[j].1))/\(vI ps)[j*2+1]? = some (aq (ps[j].2:Int))
 | [],j,h=>by simp at h
 | p :: t,0,h=>by simp[vI]
 | p :: t,j+1,h=>by
  have:=U6 t j (by simpa using h);have e:vI (p :: t)=aA p.1 :: aq (p.2:Int) :: vI t:=by simp[vI]
  rw[e,show(j+1)*2=j*2+1+1 by omega];simpa using this
theorem N1{w:World}{mb base:Nat}{vb vp v:Value}{ps:List (ai×Nat)}(hm:cG w mb vb vp)(ho:jC w base v ps):some mb≠v.ownBlock:=fun e=>by
 obtain⟨_,⟨rfl,_⟩|⟨g,cap,cur,rfl,_,bp,_⟩⟩:=ho
 ·simp[Value.ownBlock]at e
 ·simp only[Value.ownBlock,pL]at e;subst e;rw[hm]at bp;simp at bp
theorem U7(w:World) :
  aF 130 #[] w fun e w'=>e=.returned (aO (w.heap.size+1))/\(∃vb,cG w' (w.heap.size+1) vb (bK)/\d_ w' w.heap.size vb (List.replicate 12 0))/\aw w w':=by
 have hmk:∀w:World,(Instr.makeSlice 58 (aq 12) (aq 12)).run prog w=.ok (aU w.heap.size 0 12 12) (w.alloc (.cells (Array.replicate 12 (.int .u8 0)) 5)):=fun _=>by kernel_rfl
 generalize JL:(Array.replicate 12 (Value.int .u8 0))=R at *;go_enter func130,ntmps130;go_wp2;go_ret;have hnew:=World.alloc_heap_new (w.alloc (.cells R 5)) (.cells #[.slice (some ⟨w.heap.size,0,none⟩) 12 12,.slice none 0 0] 283);simp only[dI]at hnew;refine⟨rfl,⟨_,hnew,ak,.inr ⟨w.heap.size,12,R,rfl,aL _,(bV _ _ _ ak).trans (World.alloc_heap_new w _),ak,by unfold maxLen;omega,by rw[<- JL];rfl,by rw[<- JL];rfl⟩⟩,(bj.alloc aB _).alloc ak _⟩
theorem U8(mb base:Nat)(x:ai)(n:Nat)(vb vp:Value)(ps:List (ai×Nat))(w:World)(hm:cG w mb vb vp)(ho:jC w base vp ps)(bL:base<=w.heap.size)(hl:ps.length<=30000)(hn:n<16384) :
  aF 202 #[aO mb,aA x,aq (n:Int)] w fun e w' =>
   e=.returned (.tuple #[])/\∃cC,cG w' mb vb cC/\jC w' base cC (ps++[(x,n)])/\(cC.ownBlock=vp.ownBlock\/∃g,cC.ownBlock=some g/\w.heap.size<=g)/\iC mb w w'/\bh (fun i=>i≠mb/\some i≠vp.ownBlock) w w':=by
 obtain⟨i0,au,hz0,hz1,hz2⟩:=kS afa;have hc0:=hm.cells.2;have bA:=ag hm;have HO:=ag ho;have hlt:=hm.lt;have afd:(n:Int)<16384:=ae;clear hm ho;go_enter func202,ntmps202;go_wp2_with (at_builtin;go_loud (refine UD _ rfl (.tmp 12) (.tmp 16) 281 rfl base 343 i0 (.agg #[.string ⟨#[]⟩,aq 0]) 2 24 afb au hz0 hz1 hz2 rfl aC _ ps.length _ rfl (HO.alloc _) (ar w.heap.size 0) 1 1 [aA x,aq (n:Int)] aC rfl rfl ?az ?c2 ?c3 ?bw ?dm ?_))
 case az =>
  intro j u hj
  match j,hj with
  | 0,hj=>simp at hj;subst hj;simp[Addr.add]
  | 1,hj=>simp at hj;subst hj;simp[Addr.add]
  | n+2,hj=>simp at hj
 case c2=>intro u hu;simp at hu;rcases hu with rfl|rfl <;> rfl
 case c3=>unfold maxLen;omega
 case bw=>omega
 case dm=>simp;omega
 intro v' w3 hown' hgrow yJ hat;obtain⟨va,vn,vc,rfl⟩:=oy hown';have eV:Hid (jC w3 base (.slice va vn vc) (ps++[(x,n)])):=by
  unfold Hid jC;rw[bU,afc];exact hown'
 have hblk:∀i,i<w.heap.size->some i≠vp.ownBlock->w3.heap[i]? = w.heap[i]?:=fun i au hne =>
  (hgrow.block i aX hne).trans (bV _ _ _ au)
 have hne:some mb≠vp.ownBlock:=N1 (af bA) (af HO);have eN:=ag (bA.kept (hblk mb hlt hne));have fY:Hid (bh (fun i=>i≠mb/\some i≠vp.ownBlock) w w3) :=
  ⟨hgrow.os,hgrow.tape,hgrow.output,a_ ak hgrow.size,fun i au hp=>hblk i au hp.2⟩
 have dV:Hid ((Value.slice va vn vc).ownBlock=vp.ownBlock\/∃g,(Value.slice va vn vc).ownBlock=some g/\w.heap.size<=g):=by
  rcases hat with h|h
  ·exact .inl h
  ·exact .inr ⟨_,h,ak⟩
 have ot:Hid (iC mb w (w3.setCell ⟨mb,1,none⟩ (.slice va vn vc))):=by
  refine iC.of (af bA) (eN.set1 _) ?_ (((UE w _ _ _ _).trans yJ ak).trans (yI (af eN) aC _ _ _ _) fY.size);refine fR.trans (fR.same _ _ fun i cur hc=>hblk i (di.1 hc).1 fun e=>?_) (yI (af eN) aC _ _ _ _) fY.size;obtain⟨_,⟨h0,_⟩|⟨g,cap,cur',h0,_,bp,_⟩⟩:=af HO
  ·rw[h0]at e;simp[Value.ownBlock]at e
  ·rw[h0]at e;simp only[Value.ownBlock,pL]at e;subst e;rw[bp]at hc;simp at hc
 have hfz:=eN.frozen;have hc:=eN.cells.2;clear hown' hgrow yJ hat hblk hne bA HO;go_wp2_with fail;refine fy (v:=.tuple #[]) (by simp[results,results202]) rfl ?_;refine⟨rfl,_,eN.set1 _,?_,dV,ot,fY.trans (bh.gF _ fun i h=>h.1)⟩;exact jm (af eV) (N1 (af eN) (af eV)) _ _
theorem afe(mb base:Nat)(x:ai)(n:Nat)(vb vp:Value)(ps:List (ai×Nat))(w:World)(hm:cG w mb vb vp)(ho:jC w base vp ps)(bL:base<=w.heap.size)(hl:ps.length<=30000)(hn:n<16384) :
  aF 202 #[aO mb,aA x,aq (n:Int)] w fun e w' =>
   e=.returned (.tuple #[])/\∃cC,cG w' mb vb cC/\jC w' base cC (ps++[(x,n)])/\(cC.ownBlock=vp.ownBlock\/∃g,cC.ownBlock=some g/\w.heap.size<=g)/\bh (fun i=>i≠mb/\some i≠vp.ownBlock) w w':=by refine(U8 mb base x n vb vp ps w hm ho bL hl hn).mono ?_;rintro e w' ⟨rfl,cC,k1,k2,k3,_,k4⟩;exact⟨rfl,cC,k1,k2,k3,k4⟩
theorem U9{w:World}{base:Nat}{v:Value}{ps:List (ai×Nat)}(h:jC w base v ps)(hne:ps≠[]):∃g cap,v=aU g 0 ps.length cap/\g<w.heap.size/\ps.length<=cap/\∀j (hj:j<ps.length),w.cell? (ar g (j*2))=some (.string (ah ps[j].1))/\w.cell? (ar g (j*2+1))=some (aq (ps[j].2:Int)):=by have h0:=h;obtain⟨_,⟨rfl,hz⟩|⟨g,cap,cur,rfl,hb,bp,hc,_⟩⟩:=h;{exact absurd (gS hz) hne};{refine⟨g,cap,rfl,(di.1 bp).1,hc,fun j hj=>?_⟩;have hg:=U6 ps j hj;have c0:=Aj h0 (j*2) ae;have az:=Aj h0 (j*2+1) ae;exact⟨c0.trans hg.1,az.trans hg.2⟩}
theorem aff(mb base j0:Nat)(x:ai)(vb vp:Value)(ps:List (ai×Nat))(w:World)(hm:cG w mb vb vp)(ho:jC w base vp ps)(hj:j0<ps.length)(he:ps[j0].1=x)(hb:∀j (h:j<j0),(ps[j].1 == x)=false)(hl:ps.length<=30000) :
  aF 339 #[aO mb,aA x] w fun e w' =>
   e=.returned (.tuple #[aq (ps[j0].2:Int),.bool true])/\aw w w':=by
 obtain⟨g,cap,rfl,hg,fw,hcell⟩:=U9 ho (by intro h;subst h;simp at hj);have hc0:=hm.cells.2;have HC:=ag hcell;have aZ:=ag hb;have bu:=ag he;clear hm ho hcell hb he;go_enter func339,ntmps339;go_wp2_with fail;go_loopw [13] (fun i wr=>∃k:Nat,i=aq k/\k<=j0/\aw w wr) (fun i _=>ps.length - (intOf i).toNat);case atStart=>exact⟨0,rfl,dY _,bW _ _⟩
 case round =>(
 obtain⟨k,rfl,hk,hbr⟩:=hrel;have eJ:k<ps.length:=ae;have tQ:(k:Int)<(ps.length:Int):=ae;obtain⟨c0,az⟩:=af HC k eJ;have bI:=(hbr.cell (p:=⟨g,k*2,none⟩) hg).trans c0;have d1:=(hbr.cell (p:=⟨g,k*2+1,none⟩) hg).trans az;have h_:((ah ps[k].1).toList == (ah x).toList)=(ps[k].1 == x):=yu;have kF:=ag hbr;have hs:=hbr.size;clear c0 az hbr;by_cases hkj:k=j0;{subst hkj;clear h_ hk;rw[af bu]at bI;obtain⟨pn,vJ⟩:=bP (ps[k].2);rw[<- vJ]at d1;have afg:=ag vJ;clear vJ;go_wp2;go_ret2;refine⟨?_,kF.alloc hs _⟩;rw[<- af afg];rfl};{
 rw[af aZ k ae]at h_;generalize ps[k].2=pn at *;generalize ah ps[k].1=pb at *;go_wp2_with fail;go_roundw;case rel=>exact⟨k+1,dD,ae,kF.alloc hs _⟩
 case measure=>simp[intOf];omega})
def afh(mb:Nat)(w:World)(g:Nat)(fs:List iD):Prop:=g<w.heap.size/\g≠mb/\(∀cur,w.heap[g]?≠some (.cells cur 5 (0,0)))/\∀j (h:j<fs.length),w.cell? (ar g j)=some (.iface fs[j].t fs[j].x)
theorem N2{w:World}{base:Nat}{v:Value}{l:ai}(h:d_ w base v l)(hne:l≠[]):∃g cap cur,v=aU g 0 l.length cap/\base<=g/\w.heap[g]? = some (.cells cur 5 (0,0))/\l.length<=cap/\cap<=maxLen:=by obtain⟨_,⟨rfl,hz⟩|⟨g,cap,cur,rfl,hb,bp,hc,hm,_⟩⟩:=h;{exact absurd (gS hz) hne};{exact⟨g,cap,cur,rfl,hb,bp,hc,hm⟩}
theorem U_{w:World}{base g n cap:Nat}{l:ai}(h:d_ w base (aU g 0 n cap) l)(i:Nat)(c:UInt8)(au:i<l.length) :
  d_ (w.setCell ⟨g,i,none⟩ (.int .u8 c.toNat)) base (aU g 0 n cap) (l.set i c):=by obtain⟨h1,⟨e,hz⟩|⟨g',cap',cur,e,hb,bp,hc,hm,hs,ht⟩⟩:=h;{cases e};{cases e;refine⟨ak,.inr ⟨g,cap,cur.setIfInBounds i (.int .u8 c.toNat),ak,hb,?_,by rw[CN];exact hc,hm,by rw[Array.size_setIfInBounds];exact hs,?_⟩⟩;{simp only[World.setCell];rw[iq,aP rfl,bp];rfl};{rw[Mi,List.take_set];rw[CN,ht];rw[II]}}
theorem afi{w:World}{base:Nat}{v:Value}{l:ai}(h:d_ w base v l):AX v=l.length:=by obtain⟨_,⟨rfl,h0⟩|⟨g,cap,cur,rfl,_⟩⟩:=h;{exact h0.symm};{rfl}
theorem afj (a : Option Addr) (n c : Nat) (W : World) : (method 521 293 (.slice a n c) "beacon/wire.writeTo").run prog W = .ok (342, .slice a n c) W := by kernel_rfl
theorem afk(args:Array Value)(W:World):(callFunc 342 args).run prog W=.ok (.enter 342 args) W:=aK
end Go.Proofs.YtkkpahmoljiepaaGreatDoor
