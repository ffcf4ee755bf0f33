import Derived.Test.YtkkpahmoljiepaaGreatDoorJ04
import Derived.Lib.SmallJoins
set_option maxRecDepth 1000000
set_option maxHeartbeats 12800000
set_option linter.unusedSimpArgs false
set_option linter.unusedVariables false
namespace Go.Proofs.YtkkpahmoljiepaaGreatDoor
open Go.RowKit Go.Proofs.Tryz
section
attribute [local go_sem] Oper.semAt_some
def cK(rs:List aj)(n:ai):List aj :=
 match (bC dw rs).find? (fun x=>cO x == n)with
 | some x=>x.2
 | none=>[]
def C8(v:Value)(b off:Nat)(rs:List aj):Prop:=(v=bK/\rs = [])\/∃cap,v=aU b off rs.length cap/\rs.length<=cap
def lg(b off:Nat)(rs:List aj)(v:Value)(l:List aj):Prop:=(v=bK/\l = [])\/∃k,(v=aU b (off+k*4) l.length l.length/\k+l.length<=rs.length/\l=(rs.drop k).take l.length)
theorem lg.at{w:World}{b off:Nat}{rs l:List aj}{v:Value}(h:lg b off rs v l)(hr:dz w b off rs):∃o',dz w b o' l/\C8 v b o' l/\∀bS,∀x∈bC bS l,lg b off rs (aU b (o'+x.1*4) x.2.length x.2.length) x.2:=by
 rcases h with⟨rfl,rfl⟩|⟨k,rfl,hk,hl⟩;{exact⟨off,⟨hr.1,fun j hj=>by simp at hj⟩,.inl ⟨rfl,rfl⟩,fun bS x hx=>by simp[bC,iL]at hx⟩};{
 refine⟨off+k*4,by rw[hl];exact(hr.drop k).take _,.inr ⟨_,rfl,aL _⟩,fun bS x hx=>.inr ⟨k+x.1,?_,?_,?_⟩⟩;{rw[uX,<- IV]};{have:=(r_ hx).1;omega};{
 obtain⟨h1,_,h3⟩:=r_ hx;conv=>lhs;rw[h3,hl]
 rw[List.drop_take,List.take_take,qE,uY ae]}}
theorem lg.rv{w:World}{b off:Nat}{rs l:List aj}{v:Value}(h:lg b off rs v l)(hr:dz w b off rs):gV w v l:=by obtain⟨o',h1,h2,_⟩:=h.at hr;rcases h2 with h2|⟨cap,rfl,hc⟩;{exact .inl h2};{exact .inr ⟨b,o',cap,rfl,hc,h1⟩}
theorem lg.slice{b off:Nat}{rs l:List aj}{v:Value}(h:lg b off rs v l):∃a c,v=.slice a l.length c:=by rcases h with⟨rfl,rfl⟩|⟨k,rfl,_,_⟩;{exact⟨none,0,rfl⟩};{exact⟨_,_,rfl⟩}
theorem lg.len{b off:Nat}{rs l:List aj}{v:Value}(h:lg b off rs v l):l.length<=rs.length:=by rcases h with⟨rfl,rfl⟩|⟨k,rfl,_,_⟩;{simp};{omega}
theorem lg.adB{b off:Nat}{rs:List aj}{bS:aj->aj->Bool}{x:Nat×List aj}(hx:x∈bC bS rs):lg b off rs (aU b (off+x.1*4) x.2.length x.2.length) x.2 :=
 .inr ⟨x.1,rfl,(r_ hx).1,(r_ hx).2.2⟩
theorem TI{p:Nat×List aj->Bool}{l:List (Nat×List aj)}{i:Nat}{x:Nat×List aj}(h:l[i]? = some x):(l.drop i).find? p=if p x then some x else(l.drop (i+1)).find? p:=by obtain⟨au,rfl⟩:=iu.1 h;rw[nA au,Mv];cases p l[i] <;> rfl
theorem TJ(b off cap:Nat)(n:ai)(rs:List aj)(w:World)(hr:dz w b off rs)(fw:rs.length<=cap)(hlen:rs.length<=3001) :
  aF 184 #[aU b off rs.length cap,aA n] w fun e w'=>(∃v,e=.returned v/\lg b off rs v (cK rs n))/\aw w w':=by
 refine(bR (n:=0)).1 ?_;refine callsIn_of_wp_marks func184 rfl aY ?_;simp only[ntmps184,lK,cU,fV,Nat.reduceAdd,Nat.reduceSub,l_,mf,mh,mg,fF,dX];have aT:=ag hr;have hb:=hr.1;clear hr;gi_wp2_with (refine⟨aY,rfl,?_⟩;gi_at_call 109;refine(bR.2 (Nr _ _ _ _)).mono ?_;rintro e w' ⟨rfl,rfl⟩);have e0:aM (((w.alloc (.cells #[.string (ah n)] 9)).alloc (.cells #[.slice none 0 0] 41)).alloc (.cells #[.slice (some ⟨b,off,none⟩) rs.length cap] 41)) w.heap.size (aA n) 9:=((aM.ke _ _ _).alloc _).alloc _;have e1:aM (((w.alloc (.cells #[.string (ah n)] 9)).alloc (.cells #[.slice none 0 0] 41)).alloc (.cells #[.slice (some ⟨b,off,none⟩) rs.length cap] 41)) (w.heap.size+1) (bK) 41:=by{have:=(aM.ke (w.alloc (.cells #[.string (ah n)] 9)) (bK) 41).alloc (.cells #[.slice (some ⟨b,off,none⟩) rs.length cap] 41);rwa [dI]at this};have e2:(((w.alloc (.cells #[.string (ah n)] 9)).alloc (.cells #[.slice none 0 0] 41)).alloc (.cells #[.slice (some ⟨b,off,none⟩) rs.length cap] 41)).cell? (ar (w.heap.size+1+1) 0)=some (aU b off rs.length cap):=by go_simp
 have e4:(((w.alloc (.cells #[.string (ah n)] 9)).alloc (.cells #[.slice none 0 0] 41)).alloc (.cells #[.slice (some ⟨b,off,none⟩) rs.length cap] 41)).heap.size=w.heap.size+3:=ak;have e5:aw w (((w.alloc (.cells #[.string (ah n)] 9)).alloc (.cells #[.slice none 0 0] 41)).alloc (.cells #[.slice (some ⟨b,off,none⟩) rs.length cap] 41)):=((bj.alloc aB _).alloc ak _).alloc aX _;generalize ((w.alloc (.cells #[.string (ah n)] 9)).alloc (.cells #[.slice none 0 0] 41)).alloc (.cells #[.slice (some ⟨b,off,none⟩) rs.length cap] 41)=W2 at *;have hgrow:∀r,aw W2 ((W2.alloc (.deferred (some []))).alloc (.loop r)):=fun r=>(bj.alloc aB _).alloc ak _;have Az:∀r,((W2.alloc (.deferred (some []))).alloc (.loop r)).heap.size=W2.heap.size+2:=fun r=>by simp
 refine Ao (xs:=bC dw rs) (encs:=fun x:Nat×List aj=>#[aA (cO x),aU b (off+x.1*4) x.2.length x.2.length]) (St:=fun A B=>Below (W2.heap.size+2) A B) (Kp:=fun A B=>B.heap[b]? = A.heap[b]?/\b_ (W2.heap.size+2) A B) (Kx:=fun A B=>b_ (W2.heap.size+2) A B) (gf:=179) (lb:=#[aO (w.heap.size+1+1)]) rfl (enters_of func179 aK rfl) (fun _=>rfl) ?seq [b] aX (fun _ _ _ h=>h) (fun A B h h'=>⟨h _ ak,h'⟩) (fun _ _ h=>h) (fun i W=>((bC dw rs).drop i).find? (fun x=>cO x == n)=(bC dw rs).find? (fun x=>cO x == n)/\aw w W/\aM W w.heap.size (aA n) 9/\aM W (w.heap.size+1) (bK) 41) (fun c W=>c=.ret/\aw w W/\∃x,x∈bC dw rs/\cK rs n=x.2/\aM W (w.heap.size+1) (aU b (off+x.1*4) x.2.length x.2.length) 41) (fun i A B h hb=>⟨h.1,h.2.1.trans (hb.mono ae),h.2.2.1.below hb ae,h.2.2.2.below hb ae⟩) (fun c A B h hb=>⟨h.1,h.2.1.trans (hb.mono ae),by obtain⟨x,h1,h2,h3⟩:=h.2.2;exact⟨x,h1,h2,h3.below hb ae⟩⟩) ⟨rfl,e5,e0,e1⟩ ?round ?done ?stop;case seq =>(intro r;have hg:=hgrow r;have:=Ns b off cap (w.heap.size+1+1) rs ((W2.alloc (.deferred (some []))).alloc (.loop r)) ((hg.cell (p:=⟨w.heap.size+1+1,0,none⟩) (by show w.heap.size+1+1<W2.heap.size;omega)).trans e2) ((aT.below e5).below hg) (by have:=hg.size;omega) hlen fw;rw[Az r]at this;exact this)
 case round =>(intro l' i x V W hx hI hsz;gi_wp2_with fail;refine⟨aY,?_⟩;obtain⟨hf,hB,hn',hc⟩:=hI;have cn:=hn'.cell;have cb:=hc.cell;have cf:=hc.frozen;have h_:((ah (cO x)).toList == (ah n).toList)=(cO x == n):=yu;have hst:=TI (p:=fun x=>cO x == n) hx;rw[hf]at hst;have HS:=ag hst;have FK:=ag hn';have kx:=ag hc;clear hf hst hn' hc;cases ho:cO x == n;{rw[ho]at h_;have bg:Hid (((bC dw rs).drop (i+1)).find? (fun x=>cO x == n)=(bC dw rs).find? (fun x=>cO x == n)):=by{rw[Hid,af HS,aG (by simp[ho])]};gi_wp2_with fail;exact⟨b_.refl _ _,ak,bg,hB,FK,kx⟩};{rw[ho]at h_;have bg:Hid (cK rs n=x.2):=by{unfold cK;rw[Hid,af HS,aP ho]};gi_wp2_with fail;exact⟨b_.setCell W _ _ ae,rfl,hB.setCell (by show w.heap.size<=w.heap.size+1;omega) _,x,qH hx,bg,kx.set _⟩})
 case done =>(intro W hI cD hsz;obtain⟨hf,hB,hn',hc⟩:=hI;have cb:=hc.cell;have cf:=hc.frozen;have bg:Hid (cK rs n = []):=by{unfold cK;rw[Hid,<- hf,pJ aB];rfl};clear hf;gi_wp2_with fail;have qR:=(bf W (ar (w.heap.size+1) 0) (bK) W2.heap.size (by show W2.heap.size≠w.heap.size+1;omega)).trans cD;refine⟨ak,.inl ⟨_,_,rfl,run_takeDeferred qR,?_⟩⟩;have cr:=((hc.set (bK)).put (d:=W2.heap.size) (o:=.deferred none) ae).cell;refine⟨bK,by simp[results,results184,go_sem,cr],⟨_,rfl,.inl ⟨rfl,bg⟩⟩,?_⟩;exact(hB.setCell (by show w.heap.size<=w.heap.size+1;omega) _).trans (belowK_b (w:=W2) ae _ _ _ _ aB qR rfl rfl))
 case stop =>(intro c W hI cD hsz;obtain⟨rfl,hB,x,hx,lN,hc⟩:=hI;have bg:=ag lN;clear lN;have cb:=hc.cell;gi_wp2_with fail;refine⟨ak,.inl ⟨_,_,rfl,run_takeDeferred cD,?_⟩⟩;have cr:=(hc.put (d:=W2.heap.size) (o:=.deferred none) ae).cell;have jJ:=hB.trans (belowK_b (w:=W2) (show w.heap.size<=W2.heap.size by omega) W _ _ (.deferred none) aB cD rfl rfl);refine⟨_,by simp[results,results184,go_sem,cr];rfl,⟨_,rfl,?_⟩,jJ⟩;rw[af bg];exact lg.adB hx)
end
section
attribute [local go_sem] Oper.semAt_some
def lO(x:Nat×List aj):Int:=(x.2.headD aj.zero).type
def fz(rs:List aj)(k:Int):List aj :=
 match (bC bJ rs).find? (fun x=>lO x == k)with
 | some x=>x.2
 | none=>[]
theorem TK(a:Option Addr)(n c:Nat)(w:World) :
  aF 107 #[.slice a n c] w fun e w'=>e=.returned (.func (.func 233) #[] #[aO w.heap.size,aO (w.heap.size+1)])/\w'=(w.alloc (.cells #[.slice a n c] 41)).alloc (.cells #[.func (.func 177) #[] #[]] 261):=by go_enter func107,ntmps107;go_wp2_with (go_at_call 176;refine(TA _ _ _ _ _).mono ?_;rintro e w' ⟨rfl,rfl⟩);go_ret;exact⟨rfl,rfl⟩
theorem TL(x:Nat×List aj)(h:0<x.2.length):x.2[0].type=lO x:=by
 obtain⟨k,l⟩:=x;cases l with
 | nil=>simp at h
 | cons a t=>rfl
theorem AA{w:World}{v:Value}{rs:List aj}(h:gV w v rs):∃a c,v=.slice a rs.length c:=by rcases h with⟨rfl,rfl⟩|⟨b,off,cap,rfl,_,_⟩;{exact⟨none,0,rfl⟩};{exact⟨_,_,rfl⟩}
theorem Nv(v:Value)(rs:List aj)(w:World)(hv:gV w v rs) :
  aF 107 #[v] w fun e w'=>e=.returned (.func (.func 233) #[] #[aO w.heap.size,aO (w.heap.size+1)])/\w'.heap.size=w.heap.size+2/\aw w w' /\
   w'.cell? (ar w.heap.size 0)=some v/\w'.cell? (ar (w.heap.size+1) 0)=some (.func (.func 177) #[] #[]):=by obtain⟨a,c,rfl⟩:=AA hv;refine(TK a rs.length c w).mono ?_;rintro e w' ⟨rfl,rfl⟩;exact⟨rfl,ak,(bj.alloc aB _).alloc ak _,by go_simp,by go_simp⟩
theorem Nw(v:Value)(b off bl bs:Nat)(rs:List aj)(W0:World)(hv:C8 v b off rs)
  (hl:W0.cell? (ar bl 0)=some v) (hs:W0.cell? (ar bs 0)=some (.func (.func 177) #[] #[]))
  (hr:dz W0 b off rs) (h1:bl<W0.heap.size) (h2:bs<W0.heap.size) (hlen:rs.length<=3001) :
  pQ prog 233 #[aO bl,aO bs] (fun x:Nat×List aj=>#[aU b (off+x.1*4) x.2.length x.2.length]) (bC bJ rs)
   (fun A B=>aw A B) (iK bl bs b) (fun _ _=>True) W0:=by rcases hv with⟨rfl,rfl⟩|⟨cap,rfl,hc⟩;{exact adt b off bl bs W0 hl _};{exact C6 b off cap bl bs rs W0 hl hs hr h1 h2 hlen hc}
theorem yw{bS:aj->aj->Bool}{rs:List aj}{x:Nat×List aj}(h:x∈bC bS rs):x.2.length<=rs.length:=by have:=(r_ h).1;omega
theorem FL(rs:List aj)(n:ai):(cK rs n).length<=rs.length:=by unfold cK;split;{rename_i x hx;exact yw (IK hx)};{simp}
theorem Jm(rs:List aj)(k:Int):(fz rs k).length<=rs.length:=by unfold fz;split;{rename_i x hx;exact yw (IK hx)};{simp}
theorem TM(b off cap:Nat)(n:ai)(k:Int)(l0:List aj)(w:World)(hr:dz w b off l0)(fw:l0.length<=cap)(FM:l0.length<=3001) :
  aF 112 #[aU b off l0.length cap,aA n,aq k] w fun e w'=>(∃v,e=.returned v/\lg b off l0 v (fz (cK l0 n) k))/\aw w w':=by
 refine(bR (n:=0)).1 ?_;refine I6 func112 rfl aY ?_;simp only[ntmps112,lK,cU,fV,Nat.reduceAdd,Nat.reduceSub,l_,mf,mh,mg,fF,dX];have hlen:=FL l0 n;have eM:aw w ((w.alloc (.cells #[.int .i64 k] 3)).alloc (.cells #[.slice none 0 0] 41)):=(bj.alloc aB _).alloc ak _;have HC:=ag (TJ b off cap n l0 _ (hr.below eM) fw FM);have sg:=ag hr;have hb:=hr.1;clear hr;gi_wp2_with fail;refine⟨aY,rfl,?_⟩;refine(bR.2 (af HC)).mono ?_;rintro e w1 ⟨⟨v,rfl,hv⟩,hb1⟩;have e0:aM w1 w.heap.size (aq k) 3:=((aM.ke _ _ _).alloc _).below hb1 c5;have e1:aM w1 (w.heap.size+1) (bK) 41:=by{have:=(aM.ke (w.alloc (.cells #[.int .i64 k] 3)) (bK) 41).below hb1 c5;rwa [dI]at this};have hB1:aw w w1:=eM.trans (hb1.mono c5);have hs1:w.heap.size+2<=w1.heap.size:=by have:=hb1.size;simp at this;omega
 generalize mO:cK l0 n=rs at *;clear hb1 eM;obtain⟨o',hr,hL,FN⟩:=hv.at (af sg);have aT:=ag hr;have adC:=ag hL;have C9:=ag FN;have ia:=ag (hv.rv (sg.below hB1));obtain⟨av,cv,rfl⟩:=hv.slice;clear hv hr hL FN;gi_wp2_with fail;refine⟨aY,rfl,?_⟩;refine(bR.2 (Nv _ rs _ (af ia))).mono ?_;rintro e W2 ⟨rfl,e4,hb2,e2,e3⟩;have e0':=e0.below hb2 e0.lt;have e1':=e1.below hb2 e1.lt;have e5:=hB1.trans (hb2.mono hB1.size);have gv:=ag (aT.below e5);clear e0 e1;gi_wp2_with fail;have hgrow:∀r,aw W2 ((W2.alloc (.deferred (some []))).alloc (.loop r)):=fun r=>(bj.alloc aB _).alloc ak _;refine Ao (xs:=bC bJ rs) (encs:=fun x:Nat×List aj=>#[aU b (o'+x.1*4) x.2.length x.2.length]) (St:=fun A B=>aw A B) (Kp:=iK w1.heap.size (w1.heap.size+1) b) (Kx:=fun _ _=>True) (gf:=233) (lb:=#[aO w1.heap.size,aO (w1.heap.size+1)]) rfl (enters_of func233 aK rfl) (fun _=>rfl) ?C6 [w1.heap.size,w1.heap.size+1,b] aX (fun A B hA h=>h.mono hA) (fun A B h h'=>⟨h'.1,h _ ak,h _ ak,h _ ak⟩) (fun _ _ _=>aY) (fun i W=>((bC bJ rs).drop i).find? (fun x=>lO x == k)=(bC bJ rs).find? (fun x=>lO x == k)/\aw w W/\aM W w.heap.size (aq k) 3/\aM W (w.heap.size+1) (bK) 41) (fun c W=>c=.ret/\aw w W/\∃x,x∈bC bJ rs/\fz rs k=x.2/\aM W (w.heap.size+1) (aU b (o'+x.1*4) x.2.length x.2.length) 41) (fun i A B h hb'=>⟨h.1,h.2.1.trans (hb'.mono ae),h.2.2.1.below hb' ae,h.2.2.2.below hb' ae⟩) (fun c A B h hb'=>⟨h.1,h.2.1.trans (hb'.mono ae),by obtain⟨x,h1,h2,h3⟩:=h.2.2;exact⟨x,h1,h2,h3.below hb' ae⟩⟩) ⟨rfl,e5,e0',e1'⟩ ?round ?done ?stop;case C6 =>(intro r;have hg:=hgrow r;exact Nw _ b o' _ _ rs _ (af adC) ((hg.cell (p:=⟨w1.heap.size,0,none⟩) (by show w1.heap.size<W2.heap.size;omega)).trans e2) ((hg.cell (p:=⟨w1.heap.size+1,0,none⟩) (by show w1.heap.size+1<W2.heap.size;omega)).trans e3) (gv.below hg) (by have:=hg.size;omega) (by have:=hg.size;omega) ae)
 case round =>(intro l' i x V W hx hI hsz;gi_wp2_with fail;refine⟨aY,?_⟩;obtain⟨hf,hB,hn',hc⟩:=hI;have cn:=hn'.cell;have cb:=hc.cell;have cf:=hc.frozen;have hmem:x∈bC bJ rs:=qH hx;have bZ:=Ax (aT.below hB) hmem;have pT:=(r_ hmem).2.1;obtain⟨q0,q1,q2,q3⟩:=bZ.four 0 pT;clear q0 q1 q3 bZ;rw[Ad,tI,TL x pT]at q2;have TE:(0:Int)<(x.2.length:Int):=ae;have hmx:prog.follows .mixedOrders=true:=aK;have hst:=TI (p:=fun x=>lO x == k) hx;rw[hf]at hst;have HS:=ag hst;have FK:=ag hn';have kx:=ag hc;have bA:=ag hmem;clear hf hst hn' hc hmem;cases ho:lO x == k;{have bg:Hid (((bC bJ rs).drop (i+1)).find? (fun x=>lO x == k)=(bC bJ rs).find? (fun x=>lO x == k)):=by{rw[Hid,af HS,aG (by simp[ho])]};have bu:Hid (b_ W2.heap.size W W.drew/\(∀k'∈[w1.heap.size,w1.heap.size+1,b],W.drew.heap[k']? = W.heap[k']?)/\(((bC bJ rs).drop (i+1)).find? (fun x=>lO x == k)=(bC bJ rs).find? (fun x=>lO x == k)/\aw w W.drew/\aM W.drew w.heap.size (aq k) 3/\aM W.drew (w.heap.size+1) (bK) 41)) := ⟨b_.refl _ W,fun _ _=>rfl,bg,hB.drew,FK,kx⟩;gi_wp2_with fail;refine Aw hmx (wZ aK) ?_;refine hZ 0 ?_;refine hZ 1 ?_;refine hZ 2 ?_;refine rS (rs:=[3,4]) aK ak ?_;refine ju rfl (fun K hK=>?_) (ju rfl (fun K hK=>?_) rR);{go_simp;refine hK _ _ ?_;clear hK K;refine dM 4 fun K hK=>?_;go_simp;refine hK _ _ ?_;clear hK K;refine dM 5 fun K hK=>?_;go_simp;refine hK _ _ ?_;clear hK K;refine lL aK ?_ _;gi_wp2_with fail;exact bu};{go_simp;refine hK _ _ ?_;clear hK K;refine dM 3 fun K hK=>?_;go_simp;refine hK _ _ ?_;clear hK K;refine dM 5 fun K hK=>?_;go_simp;refine hK _ _ ?_;clear hK K;refine lL aK ?_ _;gi_wp2_with fail;exact bu}};{have bg:Hid (fz rs k=x.2):=by{unfold fz;rw[Hid,af HS,aP ho]};have bu:Hid (b_ W2.heap.size W (W.setCell ⟨w.heap.size+1,0,none⟩ (.slice (some ⟨b,o'+x.1*4,none⟩) x.2.length x.2.length)).drew/\(aw w (W.setCell ⟨w.heap.size+1,0,none⟩ (.slice (some ⟨b,o'+x.1*4,none⟩) x.2.length x.2.length)).drew/\∃x',x'∈bC bJ rs/\fz rs k=x'.2/\aM (W.setCell ⟨w.heap.size+1,0,none⟩ (.slice (some ⟨b,o'+x.1*4,none⟩) x.2.length x.2.length)).drew (w.heap.size+1) (aU b (o'+x'.1*4) x'.2.length x'.2.length) 41)) := ⟨b_.setCell W _ _ ae,(hB.setCell (by show w.heap.size<=w.heap.size+1;omega) _).drew,x,bA,bg,kx.set _⟩;gi_wp2_with fail;refine Aw hmx (wZ aK) ?_;refine hZ 0 ?_;refine hZ 1 ?_;refine hZ 2 ?_;refine rS (rs:=[3,4]) aK ak ?_;refine ju rfl (fun K hK=>?_) (ju rfl (fun K hK=>?_) rR);{go_simp;refine hK _ _ ?_;clear hK K;refine dM 4 fun K hK=>?_;go_simp;refine hK _ _ ?_;clear hK K;refine dM 5 fun K hK=>?_;go_simp;refine hK _ _ ?_;clear hK K;refine lL aK ?_ _;gi_wp2_with fail;exact⟨bu.1,rfl,bu.2⟩};{go_simp;refine hK _ _ ?_;clear hK K;refine dM 3 fun K hK=>?_;go_simp;refine hK _ _ ?_;clear hK K;refine dM 5 fun K hK=>?_;go_simp;refine hK _ _ ?_;clear hK K;refine lL aK ?_ _;gi_wp2_with fail;exact⟨bu.1,rfl,bu.2⟩}})
 case done =>(intro W hI cD hsz;obtain⟨hf,hB,hn',hc⟩:=hI;have cb:=hc.cell;have cf:=hc.frozen;have bg:Hid (fz rs k = []):=by{unfold fz;rw[Hid,<- hf,pJ aB];rfl};clear hf;gi_wp2_with fail;have qR:=(bf W (ar (w.heap.size+1) 0) (bK) W2.heap.size (by show W2.heap.size≠w.heap.size+1;omega)).trans cD;refine⟨ak,.inl ⟨_,_,rfl,Al qR,?_⟩⟩;have cr:=((hc.set (bK)).put (d:=W2.heap.size) (o:=.deferred none) ae).cell;refine⟨bK,by simp[results,results112,go_sem,cr],⟨_,rfl,.inl ⟨rfl,by rw[mO];exact bg⟩⟩,?_⟩;exact(hB.setCell (by show w.heap.size<=w.heap.size+1;omega) _).trans (yg (w:=W2) ae _ _ _ _ aB qR rfl rfl))
 case stop =>(intro c W hI cD hsz;obtain⟨rfl,hB,x,hx,lN,hc⟩:=hI;have bg:=ag lN;clear lN;have cb:=hc.cell;gi_wp2_with fail;refine⟨ak,.inl ⟨_,_,rfl,Al cD,?_⟩⟩;have cr:=(hc.put (d:=W2.heap.size) (o:=.deferred none) ae).cell;have jJ:=hB.trans (yg (w:=W2) (show w.heap.size<=W2.heap.size by omega) W _ _ (.deferred none) aB cD rfl rfl);refine⟨_,by simp[results,results112,go_sem,cr];rfl,⟨_,rfl,?_⟩,jJ⟩;rw[mO,af bg];exact C9 _ x hx)
end
section
attribute [local go_sem] Oper.semAt_some
def fA(w:World)(zb:Nat)(o:ai)(b off cap:Nat)(rs:List aj):Prop :=
 zb<w.heap.size/\w.cell? (ar zb 0)=some (aA o)/\w.cell? (ar zb 1)=some (aU b off rs.length cap)/\rs.length<=cap/\dz w b off rs
theorem fA.below{w w':World}{zb b off cap:Nat}{o:ai}{rs:List aj}(h:fA w zb o b off cap rs)(hb:aw w w'):fA w' zb o b off cap rs :=
 ⟨eQ h.1 hb.size,(hb.cell (p:=⟨zb,0,none⟩) h.1).trans h.2.1,(hb.cell (p:=⟨zb,1,none⟩) h.1).trans h.2.2.1,h.2.2.2.1,h.2.2.2.2.below hb⟩
theorem fA.low{w w':World}{zb b off cap n:Nat}{o:ai}{rs:List aj}(h:fA w zb o b off cap rs)(hb:Below n w w')(h1:zb<n)(h2:b<n):fA w' zb o b off cap rs :=
 ⟨eQ h.1 hb.size,(hb.cell (p:=⟨zb,0,none⟩) h1).trans h.2.1,(hb.cell (p:=⟨zb,1,none⟩) h1).trans h.2.2.1,h.2.2.2.1,adp h.2.2.2.2 hb h2⟩
def w_(o:ai)(rs:List aj):Prop:=rs.length<=3001/\o.length<=3000/\∀r∈rs,r.owner.length<=3000/\r.data.length<=3000
def ic(rs:List aj)(n:ai):Bool:=!(sf n rs).isEmpty
theorem TN(zb b off cap:Nat)(o n:ai)(rs:List aj)(w:World)(hz:fA w zb o b off cap rs)(hlen:rs.length<=3001) :
  aF 270 #[aO zb,aA n] w fun e w'=>(∃v,e=.returned v/\lg b off rs v (cK rs n))/\aw w w':=by obtain⟨hzb,hz0,hz1,fw,hr⟩:=hz;have HC:=ag (TJ b off cap n rs w hr fw hlen);clear hr;go_enter func270,ntmps270;go_wp2_with fail;refine HC.mono ?_;rintro e w1 ⟨⟨v,rfl,hv⟩,hb1⟩;have ia:=ag hv;clear hv;go_wp2;go_ret;exact⟨⟨_,rfl,ia⟩,hb1⟩
theorem Nx(zb b off cap:Nat)(o n:ai)(k:Int)(rs:List aj)(w:World)(hz:fA w zb o b off cap rs)(hlen:rs.length<=3001) :
  aF 192 #[aO zb,aA n,aq k] w fun e w'=>(∃v,e=.returned v/\lg b off rs v (fz (cK rs n) k))/\aw w w':=by obtain⟨hzb,hz0,hz1,fw,hr⟩:=hz;have HC:=ag (TM b off cap n k rs w hr fw hlen);clear hr;go_enter func192,ntmps192;go_wp2_with fail;refine HC.mono ?_;rintro e w1 ⟨⟨v,rfl,hv⟩,hb1⟩;have ia:=ag hv;clear hv;go_wp2;go_ret;exact⟨⟨_,rfl,ia⟩,hb1⟩
theorem TP(zb b off cap:Nat)(o n:ai)(rs:List aj)(w:World)(hz:fA w zb o b off cap rs)(hlen:rs.length<=3001)(hn:n.length<=3000)(ho:∀r∈rs,r.owner.length<=3000) :
  aF 269 #[aO zb,aA n] w (cS (.bool (ic rs n)) w):=by
 refine(bR (n:=0)).1 ?_;refine callsIn_of_wp_marks func269 rfl aY ?_;simp only[ntmps269,lK,cU,fV,Nat.reduceAdd,Nat.reduceSub,l_,mf,mh,mg,fF,dX];have HO:=ag ho;obtain⟨hzb,hz0,hz1,fw,hr⟩:=hz;have aT:=ag hr;have hb:=hr.1;clear hr ho;gi_wp2_with fail;refine⟨aY,rfl,?_⟩;refine(bR.2 (TF _ _ _ _ _)).mono ?_;rintro e W2 ⟨rfl,e4,hb2,e1,e2⟩;have e0:aM W2 w.heap.size (.bool false) 4:=(aM.ke _ _ _).below hb2 c5;have e5:aw w W2:=(bj.alloc aB _).trans (hb2.mono c5);simp only[dI]at e4 e1 e2;gi_wp2_with fail;have hgrow:∀r,aw W2 ((W2.alloc (.deferred (some []))).alloc (.loop r)):=fun r=>(bj.alloc aB _).alloc ak _;have Az:∀r,((W2.alloc (.deferred (some []))).alloc (.loop r)).heap.size=W2.heap.size+2:=fun r=>by simp
 refine Ao (xs:=sf n rs) (encs:=fun x:Nat×List aj=>#[aA (cO x),aU b (off+x.1*4) x.2.length x.2.length]) (St:=fun A B=>Below (W2.heap.size+2) A B) (Kp:=fun A B=>(B.heap[b]? = A.heap[b]?/\B.heap[w.heap.size+1+1]? = A.heap[w.heap.size+1+1]?)/\b_ (W2.heap.size+2) A B) (Kx:=fun A B=>b_ (W2.heap.size+2) A B) (gf:=235) (lb:=#[aO (w.heap.size+1),aO (w.heap.size+1+1)]) rfl (enters_of func235 aK rfl) (fun _=>rfl) ?seq [b,w.heap.size+1+1] aX (fun _ _ _ h=>h) (fun A B h h'=>⟨⟨h _ ak,h _ ak⟩,h'⟩) (fun _ _ h=>h) (fun i W=>i=0/\aw w W/\aM W w.heap.size (.bool false) 4) (fun c W=>c=.ret/\ic rs n=true/\aw w W/\aM W w.heap.size (.bool true) 4) (fun i A B h hb=>⟨h.1,h.2.1.trans (hb.mono ae),h.2.2.below hb ae⟩) (fun c A B h hb=>⟨h.1,h.2.1,h.2.2.1.trans (hb.mono ae),h.2.2.2.below hb ae⟩) ⟨rfl,e5,e0⟩ ?round ?done ?stop;case seq =>(intro r;have hg:=hgrow r;have:=TH b off cap (w.heap.size+1) (w.heap.size+1+1) n rs ((W2.alloc (.deferred (some []))).alloc (.loop r)) ((aT.below e5).below hg) fw ((hg.cell (p:=⟨w.heap.size+1,0,none⟩) (by show w.heap.size+1<W2.heap.size;omega)).trans e1) ((hg.cell (p:=⟨w.heap.size+1+1,0,none⟩) (by show w.heap.size+1+1<W2.heap.size;omega)).trans e2) (by have:=hg.size;omega) (by have:=hg.size;omega) hlen hn (af HO);rw[Az r]at this;exact this)
 case round =>(
 intro l' i x V W hx hI hsz;gi_wp2_with fail;refine⟨aY,?_⟩;obtain⟨rfl,hB,hc⟩:=hI;have cb:=hc.cell;have cf:=hc.frozen;have C_:ic rs n=true:=by{
 unfold ic;cases h:sf n rs with
 | nil=>rw[h]at hx;simp at hx
 | cons y t=>rfl};gi_wp2_with fail;exact⟨b_.setCell W _ _ ae,rfl,C_,hB.setCell aB _,hc.set _⟩)
 case done =>(
 intro W hI cD hsz;obtain⟨h0,hB,hc⟩:=hI;have cb:=hc.cell;have cf:=hc.frozen;have C_:ic rs n=false:=by{
 unfold ic;cases h:sf n rs with
 | nil=>rfl
 | cons y t=>rw[h]at h0;simp at h0};gi_wp2_with fail;refine⟨ak,.inl ⟨_,_,rfl,run_takeDeferred ((bf _ _ _ _ (by show W2.heap.size≠w.heap.size;omega)).trans cD),?_⟩⟩;have cr:=((hc.set (.bool false)).put (d:=W2.heap.size) (o:=.deferred none) ae).cell;refine⟨.bool false,by simp[results,results269,go_sem,cr],by rw[C_],?_⟩;exact(hB.setCell aB _).trans (belowK_b (w:=W2) ae _ _ _ _ aB ((bf _ _ _ _ (by show W2.heap.size≠w.heap.size;omega)).trans cD) rfl rfl))
 case stop =>(intro c W hI cD hsz;obtain⟨rfl,ht,hB,hc⟩:=hI;have cb:=hc.cell;gi_wp2_with fail;refine⟨ak,.inl ⟨_,_,rfl,run_takeDeferred cD,?_⟩⟩;have cr:=(hc.put (d:=W2.heap.size) (o:=.deferred none) ae).cell;refine⟨.bool true,by simp[results,results269,go_sem,cr],by rw[ht],?_⟩;exact hB.trans (belowK_b (w:=W2) ae _ _ _ _ aB cD rfl rfl))
end
section
attribute [local go_sem] Oper.semAt_some
def fW(l:ai):ai:=(Lib.cut l [46]).2.1
def AB:Nat->ai->List ai
 | 0,_=>[]
 | f+1,l=>if l = []then []else l :: AB f (fW l)
def cu(l:ai):List ai:=AB l.length l
theorem AE(a b:ai)(h:(46:UInt8) ∉ a):fW (a++46 :: b)=b:=by unfold fW Lib.cut;rw[Lib.index_one,I_ 46 a b h,aP ae];simp[Iz]
theorem Da(l:ai)(h:(46:UInt8) ∉ l):fW l = []:=by unfold fW Lib.cut;rw[Lib.index_one,I9 46 l h,aG aC]
theorem yx(l:ai)(h:l≠[]):(fW l).length<l.length:=by
 by_cases hc:(46:UInt8)∈l;{obtain⟨a,b,rfl,ha⟩:=E_ hc;rw[AE a b ha];simp;omega};{
 rw[Da l hc];cases l with
 | nil=>exact absurd rfl h
 | cons x t=>simp}
theorem Ny:∀(f:Nat) (l:ai),l.length<=f->AB f l=AB l.length l
 | 0,l,h=>by obtain rfl:l = []:=gS ae;rfl
 | f+1,l,h=>by by_cases hl:l = [];{subst hl;rfl};{have h1:=yx l hl;obtain⟨k,hk⟩:∃k,l.length=k+1:=⟨l.length - 1,by cases l with|nil=>exact absurd rfl hl|cons x t=>simp⟩;rw[hk,AB,AB,aG hl,aG hl,Ny f _ ae,Ny k _ ae]}
theorem oW:cu [] = []:=rfl
theorem pW(l:ai)(h:l≠[]):cu l=l :: cu (fW l):=by have h1:=yx l h;unfold cu;obtain⟨k,hk⟩:∃k,l.length=k+1:=⟨l.length - 1,by cases l with|nil=>exact absurd rfl h|cons x t=>simp⟩;rw[hk,AB,aG h,Ny k _ ae]
theorem TQ:∀(f:Nat) (l:ai),l.length<=f->∀x∈cu l,x.length<=l.length
 | 0,l,h,x,hx=>by obtain rfl:l = []:=gS ae;simp[oW]at hx
 | f+1,l,h,x,hx=>by by_cases hl:l = [];{subst hl;simp[oW]at hx};{rw[pW l hl,eK]at hx;have h1:=yx l hl;rcases hx with rfl|hx;{exact aL _};{have:=TQ f (fW l) ae x hx;omega}}
theorem Jn{l x:ai}(hx:x∈cu l):x.length<=l.length:=TQ _ _ aB x hx
def TS:Value->Nat
 | .string s=>s.size
 | _=>0
theorem Jo(n:ai)(w:World) :
  aF 191 #[aA n] w fun e w'=>e=.returned (.func (.func 241) #[] #[aO w.heap.size])/\w'.heap.size=w.heap.size+1/\aw w w'/\w'.cell? (ar w.heap.size 0)=some (aA n):=by go_enter func191,ntmps191;go_wp2;go_ret;exact⟨rfl,ak,bj.alloc aB _,by go_simp⟩
theorem TT(e:ai)(w:World)(hg:bH w)(he:e.length<=3000) :
  aF 242 #[aA e,.string ⟨#[46]⟩] w fun x w'=>(∃b c,x=.returned (.tuple #[aA b,aA (fW e),.bool c]))/\aw w w':=by obtain⟨_,m,hm⟩:=hg;refine(Tryz.strings_Cut (ah e) ⟨#[46]⟩ m w (by rw[dt];omega) hm).mono ?_;rintro x w' ⟨rfl,k,rfl⟩;exact⟨⟨_,_,rfl⟩,vv (bW _ w) k⟩
theorem adD(n:ai)(w:World)(hg:bH w)(hn:n.length<=3000) :
  aF 271 #[aA n] w fun e w'=>∃iz,e=.returned (.func (.func 241) #[] #[aO iz])/\iz<w'.heap.size/\w.heap.size<=iz/\aw w w'/\w'.cell? (ar iz 0)=some (aA (fW n)):=by have HC:=ag (TT n w hg hn);clear hg;go_enter func271,ntmps271;go_wp2_with fail;refine HC.mono ?_;rintro e w1 ⟨⟨b,c,rfl⟩,hb1⟩;go_wp2_with fail;refine(Jo (fW n) w1).mono ?_;rintro e w2 ⟨rfl,hs2,hb2,c2⟩;have C2:=ag c2;clear c2;go_wp2;go_ret;have:=hb1.size;exact⟨_,rfl,ae,ae,hb1.trans (hb2.mono hb1.size),C2⟩
theorem Jp(iz:Nat)(n:ai)(W0:World)(hc:W0.cell? (ar iz 0)=some (aA n))(hg:bH W0)(hn:n.length<=3000) :
  pQ prog 241 #[aO iz] (fun e:ai=>#[aA e]) (cu n)
   (fun A B=>aw A B) (fun A B=>A.heap.size<=B.heap.size/\B.heap[0]? = A.heap[0]?) (fun _ _=>True) W0:=by
 intro l J Jx hJ qQ hY h0;have jw:=ag hY;have jx:=ag hJ;have HG:=ag hg;clear hY hJ qQ hg;refine SL func241 rfl aY ?_;simp only[ntmps241,lK,cU,fV,Nat.reduceAdd,Nat.reduceSub,l_,mf,mh,mg,fF,dX];gi_wp2;gi_loopw [3] (fun s wr=>∃(i:Nat) (e:ai),s=aA e/\e.length<=n.length/\i<=(cu n).length/\(cu n).drop i=cu e/\J i wr/\(W0.heap.size<=wr.heap.size/\wr.heap[0]? = W0.heap[0]?)) (fun s _=>TS s);case atStart=>exact⟨0,n,rfl,aL _,dY _,rfl,h0,aL _,rfl⟩
 case round =>(
 obtain⟨i,e,rfl,hel,au,hdr,oV,hB⟩:=hrel;have HD:=ag hdr;have r9:=ag oV;clear hdr oV;by_cases he:e = [];{
 have hne:((ah e).toList == [])=true:=by rw[he,gO];rfl
 have aJ:Hid (i=(cu n).length):=by{have:=ek List.length (af HD);rw[iW,he,oW,fV]at this;rw[Hid];omega};clear hc jw jx HG HD hel au hB he;gi_wp2;go_end0;exact⟨⟨_,rfl⟩,.inl (by rw[<- af aJ];exact r9)⟩};{have hne:((ah e).toList == [])=false:=by{rw[gL,gO];exact he};have vz:Hid ((cu n)[i]? = some e):=by{have:=ek (fun l:List ai=>l[0]?) (af HD);rw[pW e he]at this;rw[Hid];simpa using this};have jh:Hid ((cu n).drop (i+1)=cu (fW e)):=by{rw[Hid,<- qE,af HD,pW e he];rfl};have vA:Hid (i+1<=(cu n).length):=(iu.1 (af vz)).1;have yr:=yx e he;have lf:=af jw i e wr (af vz) (af r9);obtain⟨fn,tmps,assign,body,hy,hR⟩:=lf;gi_wp2_with fail;refine⟨rfl,hR.mono ?_⟩;rintro x W3 (⟨rfl,gC,hk4⟩|⟨rfl,ov,_⟩);{have mP:=ag gC;have iM:W0.heap.size<=W3.heap.size/\W3.heap[0]? = W0.heap[0]?:=⟨a_ hB.1 hk4.1,hk4.2.trans hB.2⟩;have AG:bH W3:=by{obtain⟨g0,m,hm⟩:=af HG;exact⟨eQ g0 iM.1,m,(dC iM.2).trans hm⟩};have HC:=ag (TT e W3 AG ae);have adE:=AG.1;clear gC hk4 AG;gi_wp2_with fail;refine⟨aY,rfl,?_⟩;refine(bR.2 (af HC)).mono ?_;rintro x W5 ⟨⟨b,c,rfl⟩,hb5⟩;have bu:=ag (jx _ _ _ mP hb5);have tT:W0.heap.size<=W5.heap.size/\W5.heap[0]? = W0.heap[0]?:=⟨a_ iM.1 hb5.size,(hb5.block 0 adE).trans iM.2⟩;gi_wp2_with fail;exact⟨⟨i+1,fW e,rfl,ae,vA,jh,bu,tT⟩,by simp only[TS,dt];omega⟩};{gi_wp2;refine df (wP rfl _ _ _) rfl ?_;exact⟨⟨_,rfl⟩,.inr ov⟩}})
end
def Db(w:World)(b:Nat)(l:ai):Prop:=b<w.heap.size/\(∀j (h:j<l.length),w.cell? (ar b j)=some (.int .u8 l[j].toNat))/\∀j,j<l.length->w.frozen? (ar b j)=false
theorem Db.set{w:World}{b:Nat}{l:ai}(h:Db w b l)(k:Nat)(c:UInt8)(hk:k<l.length):Db (w.setCell ⟨b,k,none⟩ (.int .u8 c.toNat)) b (l.set k c):=by obtain⟨h1,h2,h3⟩:=h;refine⟨by simpa [World.setCell]using h1,fun j hj=>?_,fun j hj=>?_⟩;{rw[CN]at hj;by_cases e:k=j;{subst e;rw[World.cell?_setCell_same _ _ _ (h2 k hj)];simp};{rw[E8 _ _ _ _ (fun x=>e (ek Addr.off x)),h2 j hj];simp[List.getElem_set,e]}};{rw[CN]at hj;rw[World.frozen?_setCell];exact h3 j hj}
theorem TU(w:World)(l:ai)(cap:Nat):Db (w.drew.alloc (.cells (bytesRow (ah l) cap) 5 ((bytesRow (ah l) cap).size,(bytesRow (ah l) cap).size+1))) w.heap.size l:=by
 have hn:(w.drew.alloc (.cells (bytesRow (ah l) cap) 5 ((bytesRow (ah l) cap).size,(bytesRow (ah l) cap).size+1))).heap[w.heap.size]? = some (.cells (bytesRow (ah l) cap) 5 ((bytesRow (ah l) cap).size,(bytesRow (ah l) cap).size+1)):=World.alloc_heap_new w.drew _;have hs:l.length<=(bytesRow (ah l) cap).size:=by simp[bytesRow,ah]
 refine⟨ak,fun j hj=>?_,fun j hj=>?_⟩;{have:=bytesRow_at (ah l) cap j (by simpa [ah]using hj);simp only[World.cell?,hn];rw[this];rfl};{simp only[World.frozen?,hn];simp;omega}
def iY(c:UInt8):UInt8:=if 65<=c.toNat/\c.toNat<=90 then UInt8.ofNat (c.toNat+32)else if c.toNat=46 then 80 else c
theorem adF(l:ai)(k:Nat)(c:UInt8)(h:k<l.length):((l.take k).map iY++l.drop k).set k (iY l[k])=(l.take (k+1)).map iY++l.drop (k+1):=by have e1:((l.take k).map iY).length=k:=aX;rw[nA h,kQ h,MF,aG ae,e1,wO,n_,g_,CP];rfl
theorem adG(l:ai)(k:Nat)(h:k<l.length)(hc:iY l[k]=l[k]):(l.take (k+1)).map iY++l.drop (k+1)=(l.take k).map iY++l.drop k:=by rw[nA h,kQ h,n_,g_];simp only[og,ye,hc,ab4]
theorem adH(l:ai)(w:World)(hl:l.length<=1000) :
  aF 252 #[aA l] w (cS (aA (l.map iY)) w):=by
 have kb:=SM (P:=prog) w 9 58 5 (ah l) underlying9 underlying58 underlying5;have dV:=ag (TU w l (grownCap w (ah l).size 0 5));have aZ:=ag ((bW w.heap.size w).drew.alloc (aL w.heap.size) (.cells (bytesRow (ah l) (grownCap w (ah l).size 0 5)) 5 ((bytesRow (ah l) (grownCap w (ah l).size 0 5)).size,(bytesRow (ah l) (grownCap w (ah l).size 0 5)).size+1)));have fw:l.length<=grownCap w (ah l).size 0 5:=by{have:=MP w (ah l).size 0 5;rw[dt]at this ⊢;exact this};generalize grownCap w (ah l).size 0 5=cap at *;generalize w.drew.alloc (.cells (bytesRow (ah l) cap) 5 ((bytesRow (ah l) cap).size,(bytesRow (ah l) cap).size+1))=W at *;have hs:(ah l).size=l.length:=dt l;go_enter func252,ntmps252;go_wp2_with fail;go_loopw [10] (fun i wr=>∃k:Nat,i=aq k/\k<=l.length/\Db wr w.heap.size ((l.take k).map iY++l.drop k)/\aw w wr) (fun i _=>l.length - (intOf i).toNat);case atStart=>exact⟨0,rfl,dY _,by simpa using af dV,aZ⟩
 case round =>(
 obtain⟨k,rfl,hk,eZ,hb⟩:=hrel;have mo:=ag eZ;have nI:=ag hb;clear eZ hb;by_cases hlk:k<l.length;{
 have hlen:((l.take k).map iY++l.drop k).length=l.length:=aX;have hcell:wr.cell? (ar w.heap.size k)=some (.int .u8 l[k].toNat):=by{rw[mo.2.1 k ae];rw[ID aX,IE];simp[uY hk]};have hfz:wr.frozen? (ar w.heap.size k)=false:=mo.2.2 k ae;have bA:=ag (adF l k 0 hlk);have HS:=ag (mo.set k (iY l[k]) ae);have cN:=ag (adG l k hlk);generalize l[k]=c at *;have hc:=jX c;have ia:Hid (((iY c).toNat:Int)=if 65<=c.toNat/\c.toNat<=90 then(c.toNat:Int)+32 else if c.toNat=46 then 80 else c.toNat):=by{unfold Hid iY;split;{simp[rQ];omega};{split <;> rfl}};have HC:Hid (iY c=c->Db wr w.heap.size ((l.take (k+1)).map iY++l.drop (k+1))):=fun h=>by rw[af cN h];exact mo
 rw[af bA]at HS;have fp:Hid (¬(65<=c.toNat/\c.toNat<=90)->¬c.toNat=46->iY c=c):=fun h1 h2=>by unfold iY;rw[aG h1,aG h2]
 generalize hn:c.toNat=n at *;clear hlen;by_cases h1:65<=n/\n<=90;{
 have hv:((iY c).toNat:Int)=(n:Int) - 65+97:=by rw[af ia,aP h1];omega
 rw[hv]at HS;clear hv;obtain⟨h1,h2⟩:=h1;go_wp2;exact⟨⟨k+1,dD,ae,HS,nI.setCell aB _⟩,gN⟩};{
 by_cases h2:n=46;{
 have hv:((iY c).toNat:Int)=80:=by rw[af ia,aG h1,aP h2]
 rw[hv]at HS;clear hv;subst h2;go_wp2;exact⟨⟨k+1,dD,ae,HS,nI.setCell aB _⟩,gN⟩};{have bg:=ag (HC (fp h1 h2));have h3:((n:Int) == 46)=false:=aX;by_cases h4:65<=n;{have h5:¬n<=90:=ae;clear h1;go_wp2;exact⟨⟨k+1,dD,ae,bg,nI⟩,gN⟩};{clear h1;go_wp2;exact⟨⟨k+1,dD,ae,bg,nI⟩,gN⟩}}}};{
 have eJ:k=l.length:=ae;have hend:Hid ((l.take k).map iY++l.drop k=l.map iY):=by rw[Hid,eJ];simp
 have eZ:=af mo;rw[af hend]at eZ;have qT:(l.map iY).length=l.length:=ak;have kc:=SN (P:=prog) wr 58 9 5 (ar w.heap.size 0) cap (l.map iY) underlying58 underlying5 underlying9 (fun j hj=>by{
 have e:((ar w.heap.size 0):Addr).add j=(ar w.heap.size j):=by unfold Addr.add;by_cases h:j=0 <;> simp[h]
 rw[e];exact eZ.2.1 j hj})
 rw[qT]at kc;clear eZ qT;subst eJ;go_wp2;go_ret;exact⟨rfl,nI⟩})
theorem adI(l:ai)(w:World)(hg:bH w)(hl:l.length<=3000) :
  aF 340 #[aA l] w (cS (aA (Lib.cut l [46]).1) w):=by obtain⟨_,m,hm⟩:=hg;have HC:=ag (Tryz.strings_Cut (ah l) ⟨#[46]⟩ m w (by rw[dt];omega) hm);clear hm;go_enter func340,ntmps340;go_wp2_with fail;refine HC.mono ?_;rintro e w1 ⟨rfl,n,rfl⟩;go_wp2;go_ret;exact⟨rfl,vv (bW _ w) n⟩
def mQ(w:World)(g:Nat)(l:List ai):Prop:=w.heap[g]? = some (.cells ((l.map fun x=>Value.string (ah x)).toArray) 9)
section
variable {w:World} {g:Nat} {l:List ai}
theorem mQ.lt(h:mQ w g l):g<w.heap.size:=(di.1 h).1
theorem mQ.cell(h:mQ w g l)(i:Nat)(au:i<l.length):w.cell? (ar g i)=some (.string (ah l[i])):=by unfold mQ at h;simp[World.cell?,h,au]
theorem mQ.frozen(h:mQ w g l)(i:Nat):w.frozen? (ar g i)=false:=by unfold mQ at h;simp[World.frozen?,h]
theorem mQ.set(h:mQ w g l)(i:Nat)(x:ai):mQ (w.setCell ⟨g,i,none⟩ (.string (ah x))) g (l.set i x):=by unfold mQ at *; simp only[World.setCell];rw[iq,aP rfl,h];simp
theorem mQ.below{w':World}(h:mQ w g l)(hb:aw w w'):mQ w' g l:=(hb.block g h.lt).trans h
end
def TV(w:World)(v:Value)(ls:List ai):Prop:=(v=bK/\ls = [])\/∃g c,v=aU g 0 ls.length c/\ls.length<=c/\g<w.heap.size/\∀j (h:j<ls.length),w.cell? (ar g j)=some (.string (ah ls[j]))
def lQ(l:ai):ai:=l.map iY
theorem Nz(l:ai):(lQ l).length=l.length:=by simp[lQ]
def cJ(ls:List ai):ai:=Lib.join (ls.map lQ) [46]
theorem adJ(w:World)(n:Nat):mQ (w.alloc (.cells (madeCells (Value.string ⟨#[]⟩).cells n) 9)) w.heap.size (List.replicate n []):=by have e:madeCells (Value.string ⟨#[]⟩).cells n=((List.replicate n ([]:ai)).map fun x=>Value.string (ah x)).toArray:=by{apply Ip;simp only[madeCells,Value.cells,Array.toList_map,Array.toList_range];apply List.ext_getElem;{simp};{intro i h1 h2;simp[ah,Nat.mod_one]}};rw[e];exact World.alloc_heap_new w _
theorem adK(ls:List ai)(k:Nat)(h:k<ls.length):(((ls.take k).map lQ)++List.replicate (ls.length - k) []).set k (lQ ls[k])=((ls.take (k+1)).map lQ)++List.replicate (ls.length - (k+1)) []:=by have e1:((ls.take k).map lQ).length=k:=aX;rw[MF,aG ae,e1,wO,kQ h,show ls.length - k=(ls.length - (k+1))+1 from ae,List.replicate_succ,CP,n_,g_];rfl
theorem TW(l:List ai):(l.map ah).map (·.data.toList)=l:=by rw[pK];exact List.map_id' l
theorem TX(M:Nat):∀xs:List ai,(∀x∈xs,x.length<=M)->(Lib.join xs [46]).length<=xs.length*(M+1)
 | [],_=>by simp[Lib.join,List.intercalate]
 | [x],h=>by have:=h x ak;simp[Lib.join,List.intercalate];omega
 | x :: y :: t,h=>by have ih:=TX M (y :: t) (fun z hz=>h z (nB _ hz));have hx:=h x ak;simp only[Lib.join,List.intercalate]at ih ⊢;rw[List.intersperse];simp only[List.flatten_cons,bU,cU,fV]at ih ⊢;{rw[Nat.succ_mul];omega};{intro e;cases e}
theorem adL(v:Value)(ls:List ai)(w:World)(hv:TV w v ls)(hn:ls.length<=1000)(hl:∀l∈ls,l.length<=1000) :
  aF 200 #[v] w (cS (aA (cJ ls)) w):=by
 obtain⟨i0,au,hz0,hz1,hz2⟩:=kS Tn;have km:=MQ (P:=prog) w 49 9 i0 (.string ⟨#[]⟩) Tp au hz0 .i64 .i64 ls.length ls.length ae (Mr _) (by rw[hz2];omega) ae;rw[hz1]at km;simp only[Iz,Ac]at km;have dJ:=ag (adJ w ls.length);have aZ:=ag ((bW w.heap.size w).alloc aB (.cells (madeCells (Value.string ⟨#[]⟩).cells ls.length) 9));have jx:=ag (Any.strings_Join Tryz.lays156 Tryz.Builder_Extra_156);have ia:=ag hv;have eE:=ag hl;generalize w.alloc (.cells (madeCells (Value.string ⟨#[]⟩).cells ls.length) 9)=W at *;clear au hz0 hz1 hz2 i0 hl;rcases hv with⟨rfl,rfl⟩|⟨g,c,rfl,hc,hg,oX⟩;{
 have dv:=ag (fun W:World=>Any.strings_Join_none Tryz.lays156 Tryz.Builder_Extra_156 (some (ar w.heap.size 0)) 0 ⟨#[46]⟩ W);clear jx;simp only[fV]at km dJ aZ;have apX:(Instr.makeSlice 49 (aq 0) (aq 0)).run prog w=.ok (aU w.heap.size 0 0 0) W:=km;clear km;go_enter func200,ntmps200;go_wp2_with fail;go_loopw [11] (fun i wr=>i=aq 0/\wr=W) (fun _ _=>0);case atStart=>exact⟨rfl,rfl⟩
 case round =>(obtain⟨rfl,rfl⟩:=hrel;go_wp2_with fail;refine(dv _).mono ?_;rintro e w2 ⟨rfl,rfl⟩;go_wp2;go_ret;exact⟨rfl,aZ⟩)};{
 have HC:=ag oX;clear oX;go_enter func200,ntmps200;go_wp2_with fail;go_loopw [11] (fun i wr=>∃k:Nat,i=aq k/\k<=ls.length/\mQ wr w.heap.size (((ls.take k).map lQ)++List.replicate (ls.length - k) [])/\aw w wr) (fun i _=>ls.length - (intOf i).toNat);case atStart=>exact⟨0,rfl,dY _,by simpa using af dJ,aZ⟩
 case round =>(
 obtain⟨k,rfl,hk,xd,hb⟩:=hrel;have TY:=ag xd;have nI:=ag hb;clear xd hb;by_cases hlk:k<ls.length;{have hcell:wr.cell? (ar g k)=some (.string (ah ls[k])):=(nI.cell (p:=⟨g,k,none⟩) hg).trans (HC k hlk);have HS:=ag (adK ls k hlk);have adM:=af eE ls[k] (iV hlk);have hlen:(((ls.take k).map lQ)++List.replicate (ls.length - k) []).length=ls.length:=aX;generalize ls[k]=x at *;have bg:=ag (show aF 252 #[aA x] wr fun e w'=>e=.returned (aA (lQ x))/\aw wr w' from adH x wr adM);go_wp2_with fail;refine bg.mono ?_;rintro e w2 ⟨rfl,hb2⟩;have pX:=TY.below hb2;have apY:=pX.cell k ae;have apZ:=pX.frozen k;have ji:=ag (pX.set k (lQ x));have eu:=ag ((nI.trans (hb2.mono nI.size)).setCell (p:=⟨w.heap.size,k,none⟩) aB (aA (lQ x)));rw[af HS]at ji;clear hb2 pX;go_wp2;exact⟨⟨k+1,dD,ae,ji,eu⟩,gN⟩};{
 have eJ:k=ls.length:=ae;subst eJ;have TZ:Hid (mQ wr w.heap.size (ls.map lQ)):=by{have:=af TY;rw[jV,wO,List.replicate_zero,jt]at this;exact this};have vB:=ag (jx w.heap.size 0 ls.length ((ls.map lQ).map ah) ⟨#[46]⟩ wr ?az TZ.lt ?c2 ?c3 ?bw);case az =>(intro j x hx;rw[kR];rw[CL,SH]at hx;obtain⟨y,hy,rfl⟩:=hx;obtain⟨hj,rfl⟩:=iu.1 hy;exact TZ.cell j hj)
 case c2=>simp;omega
 case c3=>simp
 case bw =>(rw[TW];refine a_ (TX 1000 _ ?_) ?_;{intro x hx;obtain⟨y,hy,rfl⟩:=oh.1 hx;rw[Nz];exact eE y hy};{rw[hE];omega})
 rw[TW,hE,hE]at vB;go_wp2_with fail;refine vB.mono ?_;rintro e w2 ⟨rfl,hb2⟩;go_wp2;go_ret;exact⟨rfl,nI.trans (hb2.mono nI.size)⟩})}
section
attribute [local go_sem] Oper.semAt_some undef
def mR(rs:List aj)(acc:List aj)(e:ai):List aj:=if(fz (cK rs e) 2).length=0 then acc else fz (cK rs e) 2
def dn(o:ai)(rs:List aj)(n:ai):List aj:=((cu n).takeWhile (fun e=>!(e == o))).foldl (mR rs) []
theorem T1{α:Type}(p:α->Bool):∀(l:List α),l.all p=true->l.takeWhile p=l
 | [],_=>rfl
 | x :: t,h=>by rw[zV,fo]at h;rw[IQ h.1,T1 p t h.2]
theorem NA{α:Type}(p:α->Bool):∀(l:List α) (i:Nat) (x:α),l[i]? = some x->(l.take i).all p=true->p x=false->l.takeWhile p=l.take i
 | [],i,x,h,_,_=>by simp at h
 | y :: t,0,x,h,_,hp=>by simp at h;subst h;rw[MH (by simp[hp])];rfl
 | y :: t,i+1,x,h,ha,hp=>by rw[MJ,zV,fo]at ha;rw[IQ ha.1,MJ,NA p t i x (by simpa using h) ha.2 hp]
theorem FO{α:Type}{l:List α}{i:Nat}{x:α}(h:l[i]? = some x):l.take (i+1)=l.take i++[x]:=by obtain⟨au,rfl⟩:=iu.1 h;exact kQ au
theorem Jq(zb b off cap:Nat)(o n:ai)(rs:List aj)(w:World)(hz:fA w zb o b off cap rs)(hg:bH w)(hlen:rs.length<=3001)(hn:n.length<=3000)(eR:o.length<=3000) :
  aF 126 #[aO zb,aA n] w fun e w'=>(∃v,e=.returned v/\lg b off rs v (dn o rs n))/\aw w w':=by
 refine(bR (n:=0)).1 ?_;refine callsIn_of_wp_marks func126 rfl aY ?_;simp only[ntmps126,lK,cU,fV,Nat.reduceAdd,Nat.reduceSub,l_,mf,mh,mg,fF,dX];have eT:=ag hz;have HG:=ag hg;have hzb:=hz.1;have hg0:=hg.1;clear hz hg;gi_wp2_with fail;refine⟨aY,rfl,?_⟩;refine(bR.2 (Jo _ _)).mono ?_;rintro e W2 ⟨rfl,e4,hb2,e2⟩;have e0:aM W2 w.heap.size (aO zb) 110:=((aM.ke _ _ _).alloc _).below hb2 c5;have e1:aM W2 (w.heap.size+1) (bK) 41:=by{have:=(aM.ke (w.alloc (.cells #[.pointer (some ⟨zb,0,none⟩)] 110)) (bK) 41).below hb2 c5;rwa [dI]at this};have e5:aw w W2:=((bj.alloc aB _).alloc ak _).trans (hb2.mono c5);simp only[dI]at e4 e2;gi_wp2_with fail;have hgrow:∀r,aw W2 ((W2.alloc (.deferred (some []))).alloc (.loop r)):=fun r=>(bj.alloc aB _).alloc ak _;refine Ao (xs:=cu n) (encs:=fun e:ai=>#[aA e]) (St:=fun A B=>aw A B) (Kp:=fun A B=>A.heap.size<=B.heap.size/\B.heap[0]? = A.heap[0]?) (Kx:=fun _ _=>True) (gf:=241) (lb:=#[aO (w.heap.size+1+1)]) rfl (enters_of func241 aK rfl) (fun _=>rfl) ?seq [0] aX (fun A B hA h=>h.mono hA) (fun A B h h'=>⟨h'.1,h _ ak⟩) (fun _ _ _=>aY) (fun i W=>((cu n).take i).all (fun e=>!(e == o))=true/\aw w W/\aM W w.heap.size (aO zb) 110/\∃v,lg b off rs v (((cu n).take i).foldl (mR rs) [])/\aM W (w.heap.size+1) v 41) (fun c W=>c=.exit 0/\aw w W/\∃v,lg b off rs v (dn o rs n)/\aM W (w.heap.size+1) v 41) (fun i A B h hb=>⟨h.1,h.2.1.trans (hb.mono ae),h.2.2.1.below hb ae,by obtain⟨v,h1,h2⟩:=h.2.2.2;exact⟨v,h1,h2.below hb ae⟩⟩) (fun c A B h hb=>⟨h.1,h.2.1.trans (hb.mono ae),by obtain⟨v,h1,h2⟩:=h.2.2;exact⟨v,h1,h2.below hb ae⟩⟩) ⟨rfl,e5,e0,_,.inl ⟨rfl,rfl⟩,e1⟩ ?round ?done ?stop;case seq =>(intro r;have hg:=hgrow r;exact Jp _ n _ ((hg.cell (p:=⟨w.heap.size+1+1,0,none⟩) (by show w.heap.size+1+1<W2.heap.size;omega)).trans e2) ((HG.below e5).below hg) hn)
 case round =>(
 intro l' i x V W hx hI hsz;gi_wp2_with fail;refine⟨aY,?_⟩;obtain⟨hall,hB,eY,v,hv,hc⟩:=hI;have lR:=Jn (qH hx);have yy:=eT.below hB;have z0:=yy.2.1;have T7:=ag yy;have cn:=eY.cell;have h_:((ah x).toList == (ah o).toList)=(x == o):=yu;have ie:=ag eY;have kx:=ag hc;have cN:=ag hx;have T8:=ag hall;have ia:=ag hv;have qU:=hc.lt;have NB:=eY.lt;have T9:=yy.1;clear eY hc hx hall hv yy;cases ho:x == o;{
 rw[ho]at h_;have rW:Hid (((cu n).take (i+1)).all (fun e=>!(e == o))=true):=by{rw[Hid,FO (af cN),IA,af T8];simp[ho]};have dQ:Hid (((cu n).take (i+1)).foldl (mR rs) []=mR rs (((cu n).take i).foldl (mR rs) []) x):=by{rw[Hid,FO (af cN),CH];rfl};have FP:=ag (Nx zb b off cap o x 2 rs W (af T7) hlen);gi_wp2_with fail;refine⟨aY,rfl,?_⟩;refine(CallsIn.inRound l' (bR.2 (af FP))).mono ?_;rintro e W4 ⟨⟨v4,rfl,hv4⟩,hb4⟩;obtain⟨a4,bw,rfl⟩:=hv4.slice;have FQ:=ag hv4;have b4:=kx.below hb4 qU;have NC:=b4.cell;have ND:=b4.frozen;have AH:=ag b4;have T_:=ag (ie.below hb4 NB);have NF:=hb4.size;clear hv4 b4;by_cases hm:(fz (cK rs x) 2).length=0;{
 have bu:Hid (((cu n).take (i+1)).foldl (mR rs) []=((cu n).take i).foldl (mR rs) []):=by rw[Hid,af dQ,mR,aP hm]
 have vC:¬(0:Int)<((fz (cK rs x) 2).length:Int):=ae;gi_wp2_with fail;exact⟨b_.tN hb4,fun k hk=>hb4.block k (by simp at hk;omega),rW,hB.trans (hb4.mono hB.size),T_,v,by rw[af bu];exact ia,AH⟩};{
 have bu:Hid (((cu n).take (i+1)).foldl (mR rs) []=fz (cK rs x) 2):=by rw[Hid,af dQ,mR,aG hm]
 have vC:(0:Int)<((fz (cK rs x) 2).length:Int):=ae;clear hm;gi_wp2_with fail;refine⟨(b_.tN hb4).trans (b_.setCell W4 _ _ ae),fun k hk=>?_,rW,(hB.trans (hb4.mono hB.size)).setCell (by show w.heap.size<=w.heap.size+1;omega) _,?_,_,by rw[af bu];exact FQ,AH.set _⟩;{
 obtain rfl:k=0:=by simpa using hk
 exact(bf _ _ _ _ (by show 0≠w.heap.size+1;omega)).trans (hb4.block 0 ae)};{exact(bf _ _ _ _ (by show w.heap.size≠w.heap.size+1;omega)).trans (af T_)}}};{rw[ho]at h_;have bu:Hid (dn o rs n=((cu n).take i).foldl (mR rs) []):=by{rw[Hid,dn,NA _ _ i x (af cN) (af T8) (by simp[ho])]};gi_wp2_with fail;exact⟨b_.refl _ _,rfl,hB,v,by rw[af bu];exact ia,kx⟩})
 case done =>(
 intro W hI cD hsz;obtain⟨hall,hB,eY,v,hv,hc⟩:=hI;rw[jV]at hall hv;have bu:Hid (dn o rs n=(cu n).foldl (mR rs) []):=by rw[Hid,dn,T1 _ _ hall]
 have ia:=ag hv;clear hall hv eY;have cb:=hc.cell;gi_wp2_with fail;refine⟨ak,.inl ⟨_,_,rfl,run_takeDeferred cD,?_⟩⟩;have jJ:=hB.trans (belowK_b (w:=W2) (show w.heap.size<=W2.heap.size by omega) W _ _ (.deferred none) aB cD rfl rfl);refine⟨v,by simp[results,results126,go_sem],⟨v,rfl,?_⟩,jJ⟩;rw[af bu];exact ia)
 case stop =>(intro c W hI cD hsz;obtain⟨rfl,hB,v,hv,hc⟩:=hI;have ia:=ag hv;clear hv;have cb:=hc.cell;gi_wp2_with fail;refine⟨ak,.inl ⟨_,_,rfl,run_takeDeferred cD,?_⟩⟩;have jJ:=hB.trans (belowK_b (w:=W2) (show w.heap.size<=W2.heap.size by omega) W _ _ (.deferred none) aB cD rfl rfl);exact⟨v,by simp[results,results126,go_sem],⟨v,rfl,ia⟩,jJ⟩)
end
def bT(w:World)(base:Nat)(v:Value)(rs:List aj):Prop:=w.ownsRow base 47 4 v rs.length (fM rs)
def ig(n:ai)(r:aj):aj:=(n,r.aV,r.type,r.data)
def fX(l:ai):ai:=l.drop (Lib.lastIndexByte (ah l) 32+1).toNat
def NG(r:aj):Nat:=((Lib.atoi (fX r.data)).getD 0).toNat
def AK(r:aj):Prop:=(fX r.data).length<=18/\∃m:Nat,Lib.atoi (fX r.data)=some (m:Int)/\m<=1000000000
def tU(r:aj):aj:=(r.owner,min r.aV (NG r),r.type,r.data)
def fB(o:ai)(rs:List aj):List aj:=(fz (cK rs o) 6).map tU
section
theorem bT.below{w w':World}{base:Nat}{v:Value}{rs:List aj}(h:bT w base v rs)(hb:aw w w'):bT w' base v rs:=oq h hb
theorem bT.base{w:World}{base base':Nat}{v:Value}{rs:List aj}(h:bT w base v rs)(hb:base'<=base):bT w base' v rs:=Jf h hb
theorem bT.keeps{w w':World}{base d:Nat}{v:Value}{rs:List aj}(h:bT w base v rs)(hk:cF d w w')(aD:d<base):bT w' base v rs:=by obtain⟨h1,h2⟩:=h;refine⟨h1,?_⟩;rcases h2 with h2|⟨g,cap,cur,e,hb,bp,hr⟩;{exact .inl h2};{exact .inr ⟨g,cap,cur,e,hb,(hk.block g (di.1 bp).1 ae).trans bp,hr⟩}
theorem bT.Ua{w:World}{base k:Nat}{v:Value}{rs:List aj}(h:bT w base v rs)(hk:k<base)(u:Value):bT (w.setCell ⟨k,0,none⟩ u) base v rs:=ownsRow_setCell_below h hk u
theorem bT.ky{w:World}{base k i:Nat}{v:Value}{rs:List aj}(h:bT w base v rs)(hk:k<base)(u:Value):bT (w.setCell ⟨k,i,none⟩ u) base v rs:=ownsRow_setCell_below h hk u
theorem bT.Jr{w:World}{base:Nat}{v:Value}{rs:List aj}(h:bT w base v rs):∀g,v.ownBlock=some g->base<=g/\g<w.heap.size:=nC h
theorem bT.slice{w:World}{base:Nat}{v:Value}{rs:List aj}(h:bT w base v rs):∃a c,v=.slice a rs.length c:=by rcases h.2 with⟨rfl,h0⟩|⟨g,cap,cur,rfl,_⟩;{exact⟨none,0,by rw[h0]⟩};{exact⟨_,_,rfl⟩}
theorem bT.rv{w:World}{base:Nat}{v:Value}{rs:List aj}(h:bT w base v rs):gV w v rs:=by rcases h.2 with⟨rfl,h0⟩|⟨g,cap,cur,rfl,hb,bp,hc,hm,hsz,pV⟩;{exact .inl ⟨rfl,gS h0⟩};{refine .inr ⟨g,0,cap,rfl,hc,Tt ((di.1 bp).1) (fun j u hu=>?_)⟩;have:=Aj h j (by have:=(iu.1 hu).1;rw[Fv]at this;exact this);rw[kR,this,hu]}
end
theorem Ub{w:World}{b off:Nat}{rs:List aj}(h:dz w b off rs):∀j u,(fM rs)[j]? = some u->w.cell? (ar b (off+j))=some u:=by
 intro j u hu;have hj:j<rs.length*4:=by have:=(iu.1 hu).1;rwa [Fv]at this
 have Js:j/4<rs.length:=ae;have e:j=j/4*4+j%4:=ae;rw[e,Ts rs (j/4) (j%4) Js ae]at hu;have:=h.2 (j/4) Js (j%4) u hu;rw[uX,<- e]at this;exact this
theorem NH{rs:List aj} : ∀u∈fM rs,u.oneCell'=true:=by intro u hu;unfold fM at hu;obtain⟨r,_,hr⟩:=zZ.1 hu;simp[aj.aN]at hr;rcases hr with rfl|rfl|rfl|rfl <;> rfl
theorem Jt(v:Value)(rs:List aj)(w:World)(hv:gV w v rs)(hl:rs.length<=3001) :
  aF 243 #[v] w fun e w'=>∃v',e=.returned v'/\bT w' w.heap.size v' rs/\aw w w':=by rcases hv with⟨rfl,rfl⟩|⟨b,off,cap,rfl,fw,hr⟩;{refine(AnyE.slices_Clone_nil Tryz.Tf 0 0 w).mono ?_;rintro e w' ⟨rfl,rfl⟩;exact⟨_,rfl,iI _ _ _ _,bW _ _⟩};{obtain⟨i0,au,hz0,hz1,hz2⟩:=kS CZ;refine(AnyE.slices_Clone Tryz.Tf i0 _ 4 48 au hz0 hz1 hz2 rfl ae Tryz.sizeOf47 b off rs.length cap (fM rs) w (Fv rs) (by simp[maxLen];omega) ae (Ub hr) NH).mono ?_;rintro e w' ⟨v',rfl,h1,_,h2⟩;exact⟨v',rfl,h1,h2⟩}
theorem Uc(n:ai):∀(rs:List aj) (i:Nat) (h:i<rs.length),(fM rs).set (i*4) (aA n)=fM (rs.set i (ig n rs[i]))
 | [],i,h=>by simp at h
 | r :: t,0,_=>by simp[fM,aj.aN,ig,aj.owner,aj.aV,aj.type,aj.data]
 | r :: t,i+1,h=>by have ih:=Uc n t i (by simpa using h);have e:(i+1)*4=i*4+1+1+1+1:=ae;simp only[fM,tG,IM,ej]at ih ⊢;rw[<- ih,e];simp[aj.aN]
theorem Ud{f:aj->aj}{rs:List aj}{k:Nat}(hk:k<rs.length) :
  ∃h:k<((rs.take k).map f++rs.drop k).length,((rs.take k).map f++rs.drop k)[k]=rs[k]/\((rs.take k).map f++rs.drop k).set k (f rs[k])=(rs.take (k+1)).map f++rs.drop (k+1):=by have hl:((rs.take k).map f).length=k:=aX;refine⟨aX,?_,?_⟩;{rw[ID ae];simp only[hl,wO,IE,tI]};{rw[Fb _ _ ae,hl,wO,nA hk,CP,kQ hk,n_];simp}
theorem Ju{f:aj->aj}{rs:List aj}{k:Nat}(hk:k<=rs.length):((rs.take k).map f++rs.drop k).length=rs.length:=aX
theorem adN(n:ai)(v:Value)(rs:List aj)(w:World)(hv:gV w v rs)(hl:rs.length<=3001) :
  aF 272 #[aA n,v] w fun e w'=>∃v',e=.returned v'/\bT w' w.heap.size v' (rs.map (ig n))/\aw w w':=by
 have HC:=ag (Jt v rs w hv hl);clear hv;go_enter func272,ntmps272;go_wp2_with fail;refine HC.mono ?_;rintro e w1 ⟨v',rfl,hown,hb1⟩;obtain⟨a,c,rfl⟩:=hown.slice;have HO:=ag hown;clear hown;go_wp2_with fail;go_loopw [10] (fun i wr=>∃k:Nat,i=aq k/\k<=rs.length/\bT wr w.heap.size (.slice a rs.length c) ((rs.take k).map (ig n)++rs.drop k)/\aw w wr) (fun i _=>rs.length - (intOf i).toNat);case atStart=>exact⟨0,rfl,dY _,by simpa using af HO,hb1⟩
 case round =>(
 obtain⟨k,rfl,hk,hown,hb⟩:=hrel;clear HO hb1;by_cases hlt:k<rs.length;{
 obtain⟨gU,ou,iZ⟩:=Ud (f:=ig n) hlt;have gW:=Ju (f:=ig n) hk;have hown':wr.ownsRow w.heap.size 47 4 (.slice a rs.length c) rs.length (fM ((rs.take k).map (ig n)++rs.drop k)):=by{have:=hown;unfold bT at this;rwa [gW]at this};rcases hown'.2 with⟨e1,e2⟩|⟨g,cap,cur,e1,hbg,bp,hcc,hcm,adO,pV⟩;{omega};{
 cases e1;have hst:=hown'.stored (k*4) (aA n);have hfr:=hown'.frozenAt (k*4);have hce:=hown'.cellAt (k*4) ae;rw[Uc n _ k gU,ou,iZ]at hst;have hcs:∃u,wr.cell? (ar g (k*4))=some u:=by{
 rw[hce];have:k*4<(fM ((rs.take k).map (ig n)++rs.drop k)).length:=by rw[Fv,gW];omega
 exact⟨_,mM this⟩};obtain⟨u,hu⟩:=hcs;have HST:=ag hst;have Ue:=ag (hb.setCell (p:=⟨g,k*4,none⟩) hbg (aA n));clear hst hown hown' hce bp pV ou iZ;go_wp2_with fail;go_roundw;case rel =>(refine⟨k+1,dD,ae,?_,by simpa using af Ue⟩;have:=HST.1;unfold bT;rw[Ju ae];simpa using this)
 case measure=>simp[intOf];omega}};{obtain rfl:k=rs.length:=ae;have HO:=ag hown;clear hown;go_wp2;go_ret;refine⟨_,rfl,?_,hb⟩;have:=af HO;rw[jV,x_,jt]at this;exact this})
end Go.Proofs.YtkkpahmoljiepaaGreatDoor
