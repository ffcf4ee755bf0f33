import Derived.Test.YtkkpahmoljiepaaGreatDoorJ05
import Derived.Deep.AppendLies
set_option maxRecDepth 1000000
set_option maxHeartbeats 12800000
set_option linter.unusedSimpArgs false
set_option linter.unusedVariables false
namespace Go.Proofs.YtkkpahmoljiepaaGreatDoor
open Go.RowKit Go.Proofs.Tryz
def abq:Value->Nat
 | .bool true=>1
 | _=>0
def dY(w:World)(rb:Nat)(c0 aC c2 c3 aV:Value):Prop:=w.heap[rb]? = some (.cells #[c0,aC,c2,c3,aV] 43)
theorem dY.cells{w:World}{rb:Nat}{c0 aC c2 c3 aV:Value}(h:dY w rb c0 aC c2 c3 aV):w.cell? (ak rb 0)=some c0/\w.cell? (ak rb 1)=some aC/\w.cell? (ak rb 2)=some c2/\w.cell? (ak rb 3)=some c3/\w.cell? (ak rb 4)=some aV:=by unfold dY at h;refine⟨?_,?_,?_,?_,?_⟩ <;> simp[World.cell?,h]
theorem dY.frozen{w:World}{rb:Nat}{c0 aC c2 c3 aV:Value}(h:dY w rb c0 aC c2 c3 aV)(i:Nat):w.frozen? (ak rb i)=false:=by unfold dY at h;simp[World.frozen?,h]
theorem dY.set0{w:World}{rb:Nat}{c0 aC c2 c3 aV:Value}(h:dY w rb c0 aC c2 c3 aV)(x:Value):dY (w.setCell ⟨rb,0,none⟩ x) rb x aC c2 c3 aV:=by unfold dY at *; simp only[World.setCell];rw[fw,aJ rfl,h];rfl
theorem dY.set1{w:World}{rb:Nat}{c0 aC c2 c3 aV:Value}(h:dY w rb c0 aC c2 c3 aV)(x:Value):dY (w.setCell ⟨rb,1,none⟩ x) rb c0 x c2 c3 aV:=by unfold dY at *; simp only[World.setCell];rw[fw,aJ rfl,h];rfl
theorem dY.set2{w:World}{rb:Nat}{c0 aC c2 c3 aV:Value}(h:dY w rb c0 aC c2 c3 aV)(x:Value):dY (w.setCell ⟨rb,2,none⟩ x) rb c0 aC x c3 aV:=by unfold dY at *; simp only[World.setCell];rw[fw,aJ rfl,h];rfl
theorem dY.iM{w:World}{rb:Nat}{c0 aC c2 c3 aV:Value}(h:dY w rb c0 aC c2 c3 aV)(x:Value):dY (w.setCell ⟨rb,3,none⟩ x) rb c0 aC c2 x aV:=by unfold dY at *; simp only[World.setCell];rw[fw,aJ rfl,h];rfl
theorem dY.lj{w:World}{rb:Nat}{c0 aC c2 c3 aV:Value}(h:dY w rb c0 aC c2 c3 aV)(x:Value):dY (w.setCell ⟨rb,4,none⟩ x) rb c0 aC c2 c3 x:=by unfold dY at *; simp only[World.setCell];rw[fw,aJ rfl,h];rfl
theorem amb(W:World)(b:Nat)(hb:b=W.heap.size)(r:ai)(t:TypeId):∀(j:Nat) (u:Value),(gW [r])[j]? = some u->(W.alloc (.cells #[.string (aq r.owner),.int .i64 r.aG,.int .i64 r.type,.string (aq r.data)] t)).cell? (((ak b 0):Addr).add j)=some u:=fun j u hj=>by
 subst hb;simp only[gW,ai.aS,iV,Hr,h_]at hj;have hn:=World.alloc_heap_new W (.cells #[.string (aq r.owner),.int .i64 r.aG,.int .i64 r.type,.string (aq r.data)] t);generalize W.alloc (.cells #[.string (aq r.owner),.int .i64 r.aG,.int .i64 r.type,.string (aq r.data)] t)=W' at hn ⊢;generalize W.heap.size=b at hn ⊢
 match j,hj with
 | 0,hj=>simp at hj;subst hj;simp[Addr.add,World.cell?,hn]
 | 1,hj=>simp at hj;subst hj;simp[Addr.add,World.cell?,hn]
 | 2,hj=>simp at hj;subst hj;simp[Addr.add,World.cell?,hn]
 | 3,hj=>simp at hj;subst hj;simp[Addr.add,World.cell?,hn]
 | n+4,hj=>simp at hj
theorem amc(sb zb cb b off cap:Nat)(k:Int)(bw:Bool)(va vb vc:Value)(o:ah)(rs ans:List ai)(r:ai)(w:World)(hs:dQ w sb zb k 0 bw va vb vc cb)(ho:b_ w (sb+1) va ans)
  (hz:iD w zb o b off cap rs) (hzs:zb<sb) (hd:r.data.length<=3000) (gX:o.length<=3000) (h8:ans.length<8) :
  aB 247 #[aM sb,r.tB] w fun e w'=>e=.returned (.tuple #[ay r.data,.bool (dy r.data o)])/\(∃df,dQ w' sb zb k 0 bw df vb vc cb/\b_ w' (sb+1) df (ans++[r]))/\Below sb w w':=by
 obtain⟨i0,ax,hz0,hz1,hz2⟩:=kJ HE;obtain⟨aa,ac,rfl⟩:=ho.slice;have qQ:=hs.lt;have hown:=ho.oG;have hne:some sb≠(Value.slice aa ans.length ac).ownBlock:=fun e=>by have:=hown sb e.symm;omega
 have hnz:some zb≠(Value.slice aa ans.length ac).ownBlock:=fun e=>by have:=hown zb e.symm;omega
 have Fj:some w.heap.size≠(Value.slice aa ans.length ac).ownBlock:=fun e=>by have:=hown _ e.symm;omega
 obtain⟨s0,s1,s2,s3,s4,s5,s6,s7⟩:=hs.cells;have Ub:((ans.length:Int) == 8)=false:=by rw[d_];omega
 have HU:Hid (∀W,aB 110 #[ay r.data,ay o] W fun e w'=>e=.returned (.bool (dy r.data o))/\w'=W):=fun W=>by
  have:=Kh (aq r.data) (aq o) W (by rw[bJ];omega) (by rw[bJ];omega);rw[tA,tA]at this;exact this
 generalize dy r.data o=ud at HU ⊢;have HS:=ag hs;have HO:=ag ho;have pW:=ag hown;have hz0':=hz.2.1;have aaN:=hz.1;clear hs ho hown hz s0 s1 s2 s3 s5 s6 s7;unfold ai.tB;go_enter func247,ntmps247;go_upto_region 4 with fail
 go_region_law (first|(refine step_append_lies _ rfl (.tmp 25) (.tmp 27) 41 rfl (sb+1) 47 i0 _ 4 48 Od ax hz0 hz1 hz2 rfl bD _ ans.length (gW ans) rfl ((HO.alloc _).alloc _) _ 1 1 (gW [r]) rfl rfl (amb _ _ ar r _) TU bD (by unfold maxLen;omega) ae aP (w.heap.size+2) ar ?_;intro g cap' w3 hown hgrow hat hlt3;have hblk:∀i,i<w.heap.size+1->some i≠(Value.slice aa ans.length ac).ownBlock->w3.heap[i]? = (w.alloc (.cells #[.string (aq r.owner),.int .i64 r.aG,.int .i64 r.type,.string (aq r.data)] 47)).heap[i]?:=(fun i ax hn=>(hgrow.block i aP hn).trans (cD _ _ _ aP));have hs3:dQ w3 sb zb k 0 bw (.slice aa ans.length ac) vb vc cb:=HS.kept ((hblk sb ae hne).trans (cD _ _ _ qQ));have hf3:=hs3.frozen;have t4:=hs3.cells.2.2.2.2.1))
 all_goals
  have hown':b_ w3 (sb+1) (aD g 0 (ans.length+1) cap') (ans++[r]):=by
   unfold b_;rw[bj,aa2];exact hown
  have hgr:(Value.slice (some (ak g 0)) (ans.length+1) cap').ownBlock=some g:=rfl;have KJ:w3.heap[w.heap.size]? = some (.cells #[.string (aq r.owner),.int .i64 r.aG,.int .i64 r.type,.string (aq r.data)] 47):=(hblk w.heap.size ae Fj).trans (World.alloc_heap_new w _);have hzz:w3.cell? (ak zb 0)=some (ay o):=(dh ((hblk zb ae hnz).trans (cD _ _ _ aaN))).trans hz0';have hge:sb+1<=g:=(hown'.oG g hgr).1;have aX:Hid (Below sb w w3):=⟨hgrow.os,hgrow.tape,hgrow.output,a_ aP hgrow.size,fun i ax=>(hblk i ae (fun e=>by have:=af pW i e.symm;omega)).trans (cD _ _ _ ae)⟩
  have Fk:=ag (hs3.lj (aD g 0 (ans.length+1) cap'));have KL:=ag (hown'.mF (k:=sb) (i:=4) ae (aD g 0 (ans.length+1) cap'));have q3:(w3.setCell ⟨sb,4,none⟩ (.slice (some ⟨g,0,none⟩) (ans.length+1) cap')).cell? (ak w.heap.size 3)=some (ay r.data):=by
   rw[Sz _ _ _ _ (fun x=>by have:=dE Addr.block x;simp at this;omega)];simp[World.cell?,KJ]
  have qz:(w3.setCell ⟨sb,4,none⟩ (.slice (some ⟨g,0,none⟩) (ans.length+1) cap')).cell? (ak zb 0)=some (ay o):=by
   rw[Sz _ _ _ _ (fun x=>by have:=dE Addr.block x;simp at this;omega)];exact hzz
  have q0:=Fk.cells.1;clear hown hgrow hat hblk hs3 hown' KJ hzz hf3 t4;go_wp2_with fail
  go_region_held (fun w'=>w'.cell? (ak w.heap.size 3)=some (ay r.data)/\w'.cell? (ak sb 0)=some (aM zb)/\w'.cell? (ak zb 0)=some (ay o)) (first|assumption|exact⟨q3,q0,qz⟩|go_keep)
   (first|(go_at_call 110;refine(HU _).mono ?_;rintro e w' ⟨rfl,rfl⟩))
  all_goals
   go_wp2;go_ret2;have rY:=aX.setCell (p:=⟨sb,4,none⟩) (bH sb) (aD g 0 (ans.length+1) cap');exact⟨rfl,⟨_,Fk,KL⟩,⟨rY.os,rY.tape,rY.output,rY.size,rY.block⟩⟩
theorem amd(sb zb cb c:Nat)(k:Int)(bw:Bool)(va vb vc:Value)(ans:List ai)(r:ai)(w:World)(hs:dQ w sb zb k 0 bw va vb vc cb)(ho:b_ w (sb+1) va ans)(hc:pA w cb c false)(hne:cb≠c)(hcs:c<sb)(h8:ans.length=8) :
  aB 247 #[aM sb,r.tB] w fun e w'=>e=.returned (.tuple #[ay r.data,.bool true])/\dQ w' sb zb k 0 bw va vb vc cb/\pA w' cb c true/\∀n,n<=c->Below n w w':=by
 obtain⟨aa,ac,rfl⟩:=ho.slice;have qQ:=hs.lt;have uL:=hc.lt;obtain⟨s0,s1,s2,s3,s4,s5,s6,s7⟩:=hs.cells;have Ub:((ans.length:Int) == 8)=true:=by rw[fe];omega
 have dX:au w (w.alloc (.cells #[.string (aq r.owner),.int .i64 r.aG,.int .i64 r.type,.string (aq r.data)] 47)):=aO.alloc aA _;have HC:=ag (alN cb c _ (hc.below dX hc.1 uL) hne);have KJ:(w.alloc (.cells #[.string (aq r.owner),.int .i64 r.aG,.int .i64 r.type,.string (aq r.data)] 47)).heap[w.heap.size]? = some (.cells #[.string (aq r.owner),.int .i64 r.aG,.int .i64 r.type,.string (aq r.data)] 47):=World.alloc_heap_new w _;have HS:=ag hs;clear hs ho hc s0 s1 s2 s3 s5 s6;unfold ai.tB;go_enter func247,ntmps247;go_wp2_with fail;refine HC.mono ?_;rintro e w1 ⟨⟨v,rfl⟩,hc1,hblk,hsz,hB⟩;have q3:w1.cell? (ak w.heap.size 3)=some (ay r.data):=by{have:=(hblk w.heap.size ae).trans KJ;simp[World.cell?,this]};have tH:=ag (HS.kept ((hblk sb ae).trans (cD _ _ _ qQ)));have og:=ag hc1;have aX:=ag hB;clear hc1 hblk hB KJ;go_wp2;go_ret2;exact⟨rfl,tH,og,fun n hn=>(dX.mono ae).trans (aX n hn)⟩
def iE(o:ah)(rs:List ai)(n:ah):Option ai:=if(cU o rs n).length=0/\(ct rs n).2=true/\qT (ct rs n).1=true then some ((ct rs n).1.headD ai.zero)else none
def gA(o:ah)(rs:List ai):Nat->ah->Option (List ai×Option ah)
 | 0,n=>match iE o rs n with
  | none=>some ([],some n)
  | some _=>none
 | m+1,n=>match iE o rs n with
  | none=>some ([],some n)
  | some r=>if dy r.data o=true then(gA o rs m r.data).map (fun x=>(r :: x.1,x.2))else some ([r],none)
def A8(o:ah)(rs:List ai):Option ah->Int
 | some x=>lN o rs x
 | none=>0
def zC(o:ah)(rs:List ai)(k:Int):Option ah->List ai
 | some x=>mH o rs k x
 | none=>[]
def A_(o:ah)(rs:List ai)(k:Int):Option ah->List ai
 | some x=>nZ o rs k x
 | none=>[]
theorem abr(sb zb cb b off cap:Nat)(k:Int)(bw:Bool)(va vb vc:Value)(o n:ah)(rs:List ai)(r:ai)(t:Bool)(R:World->Prop)(w:World)(hs:dQ w sb zb k 0 bw va vb vc cb)
  (hz:iD w zb o b off cap rs) (hg:bK w) (kC:A0 o rs) (hn:n.length<=2900) (h5:(k == 5)=false) (gS:(k == 255)=false)
  (hc:(cU o rs n).length=0) (hm:(ct rs n).2=true) (hr:(ct rs n).1 = [r]) (uK:qT [r]=true)
  (ej:∀W,au w W->aB 247 #[aM sb,r.tB] W fun e w'=>e=.returned (.tuple #[ay r.data,.bool t])/\R w') :
  aB 194 #[aM sb,ay n] w fun e w'=>e=.returned (.tuple #[ay r.data,.bool t])/\R w':=by
 obtain⟨hlen,gX,hrl⟩:=kC;have Fh:(k != 5)=true:=by unfold bne;rw[h5];rfl
 have Uc:(k != 255)=true:=by unfold bne;rw[gS];rfl
 clear h5 gS;have qQ:=hs.lt;obtain⟨s0,s1,_⟩:=hs.cells;have dv:=ag hz;have HG:=ag hg;have HC:=ag (Oq zb b off cap o n rs w hz hg hlen ae gX);have tI:Hid (∀W,au w W->dQ W sb zb k 0 bw va vb vc cb):=fun W hb=>hs.kept (hb.block sb qQ);have OI:=ag ej;clear hs hz hg ej;have xY:¬(0:Int)<((cU o rs n).length:Int):=ae;clear hc;have dA:=ag (fun W (hb:au w W)=>TW zb b off cap o n rs W (dv.below hb) (HG.below hb) hlen hn (fun r hr=>(hrl r hr).1));go_enter func194,ntmps194;go_wp2_with fail;refine HC.mono ?_;rintro e w1 ⟨⟨v1,rfl,kz⟩,hb1⟩;obtain⟨a1,aC,rfl⟩:=kz.slice;clear kz;obtain⟨t0,t1,_⟩:=(tI w1 hb1).cells;go_wp2_with fail;refine(dA w1 hb1).mono ?_;rintro e w2 ⟨⟨v2,rfl,hv2⟩,hb2⟩;rw[hm];rw[hr]at hv2;have eF:=hb1.trans (hb2.mono hb1.size);have hs2:=af tI w2 eF;obtain⟨u0,u1,u2,u3,u4,u5,u6,u7⟩:=hs2.cells;have uQ:=ag (aa7 v2 _ w2 hv2.rv ar);rw[uK]at uQ;have pV:=hv2.rv;clear hv2 hs2 u0 u2 u3 u4 u5 u6 u7;rcases pV with⟨_,h⟩|⟨b',off',cap',rfl,qM,hr2⟩;{cases h};obtain⟨c0,c1',c2,c3⟩:=hr2.four 0 ar;simp only[rK,gK,lI]at c0 c1' c2 c3;have CV:=ag (OI w2 eF);unfold ai.tB at CV;clear hr2 OI;simp only[bP,fy]at qM uQ ⊢;go_wp2_with fail;refine uQ.mono ?_;rintro e w2 ⟨rfl,rfl⟩;go_wp2_with fail;refine CV.mono ?_;rintro e w3 ⟨rfl,hR⟩;have bC:=ag hR;clear hR;go_wp2;go_ret2;exact⟨rfl,bC⟩
theorem ame{w w':World}{n:Nat}(h:bK w)(hb:Below n w w')(h0:0<n):bK w':=by obtain⟨h1,m,h2⟩:=h;exact⟨dP h1 hb.size,m,(hb.cell (p:=⟨0,0,none⟩) h0).trans h2⟩
theorem Ud{o:ah}{rs:List ai}{n:ah}{r:ai}(h:iE o rs n=some r):(cU o rs n).length=0/\(ct rs n).2=true/\(ct rs n).1 = [r]/\qT [r]=true:=by unfold iE at h;split at h;{rename_i hh;obtain⟨h1,h2,h3⟩:=hh;have h4:=h3;unfold qT at h4;simp only[cY,fe]at h4;obtain⟨x,hx⟩:=NN.1 h4.1;rw[hx]at h h3;simp only[List.headD_cons,xN]at h;subst h;exact⟨h1,h2,hx,h3⟩};{cases h}
theorem amf{o:ah}{rs:List ai}{n:ah}(h:iE o rs n=none):(cU o rs n).length=0->(ct rs n).2=true->qT (ct rs n).1=false:=fun h1 h2=>by
 unfold iE at h;split at h
 ·cases h
 ·rename_i hh;cases e:qT (ct rs n).1
  ·rfl
  ·exact absurd ⟨h1,h2,e⟩ hh
def uR(v u:Value):Prop:=∀g,v.ownBlock=some g->u.ownBlock≠some g
theorem amg(sb zb cb b off cap:Nat)(k:Int)(bw:Bool)(va vb vc:Value)(o n:ah)(rs ans:List ai)(w:World)(hs:dQ w sb zb k 0 bw va vb vc cb)(ho:b_ w (sb+1) va ans)(uO:vb=aH)
  (hz:iD w zb o b off cap rs) (hg:bK w) (hzs:zb<sb) (bX:b<sb) (h0:0<sb) (kC:A0 o rs) (hn:n.length<=2900) (ha:ans.length<=90000)
  (bq:∀r∈gi (cB rs o) 6,Fe r/\r.data.length<=3000/\r.aG<=1000000000) (h5:(k == 5)=false) (gS:(k == 255)=false) (uK:(cU o rs n).length=0->(ct rs n).2=true->qT (ct rs n).1=false) (jc:(ct rs n).1.length<=3001) :
  aB 194 #[aM sb,ay n] w fun e w'=>e=.returned (.tuple #[.string ⟨#[]⟩,.bool false])/\(∃df cJ,dQ w' sb zb k (lN o rs n) bw df cJ vc cb/\b_ w' (sb+1) df (ans++mH o rs k n)/\b_ w' (sb+1) cJ (nZ o rs k n)/\uR df cJ)/\Below sb w w':=by
 subst uO;obtain⟨hlen,gX,hrl⟩:=kC;have Fh:(k != 5)=true:=by unfold bne;rw[h5];rfl
 have Uc:(k != 255)=true:=by unfold bne;rw[gS];rfl
 clear h5 gS;have qQ:=hs.lt;have hown:=ho.oG;obtain⟨s0,s1,_⟩:=hs.cells;have HS:=ag hs;have HO:=ag ho;have dv:=ag hz;have HG:=ag hg;have cF:=ag bq;have HC:=ag (Oq zb b off cap o n rs w hz hg hlen ae gX);have tI:Hid (∀W,au w W->dQ W sb zb k 0 bw va (aH) vc cb):=fun W hb=>hs.kept (hb.block sb qQ);have pW:=ag hown;clear hs ho hz hg bq hown;have hcl:(cU o rs n).length<=3001:=a_ (aa8 o rs n) hlen;by_cases hc:(cU o rs n).length=0;{
 have xY:¬(0:Int)<((cU o rs n).length:Int):=ae;have amh:=ag (uK hc);clear uK;have e1:Hid (lN o rs n=if(ct rs n).2 then 0 else 3):=by unfold lN;rw[Hid,aJ hc]
 have e2:Hid (mH o rs k n=if(ct rs n).2 then kB k (ct rs n).1 else []):=by unfold mH;rw[Hid,aJ hc]
 have e3:Hid (nZ o rs k n=if(ct rs n).2 then(if tE k (ct rs n).1 then []else fQ o rs)else fQ o rs):=by unfold nZ;rw[Hid,aJ hc]
 clear hc;have dA:=ag (fun W (hb:au w W)=>TW zb b off cap o n rs W (dv.below hb) (HG.below hb) hlen hn (fun r hr=>(hrl r hr).1));cases hm:(ct rs n).2;{
 rw[hm]at e1 e2 e3;go_enter func194,ntmps194;go_wp2_with fail;refine HC.mono ?_;rintro e w1 ⟨⟨v1,rfl,kz⟩,hb1⟩;obtain⟨a1,aC,rfl⟩:=kz.slice;clear kz;obtain⟨t0,t1,_⟩:=(tI w1 hb1).cells;go_wp2_with fail;refine(dA w1 hb1).mono ?_;rintro e w2 ⟨⟨v2,rfl,hv2⟩,hb2⟩;rw[hm];clear hv2;have eF:=hb1.trans (hb2.mono hb1.size);have hs2:=af tI w2 eF;obtain⟨u0,u1,u2,u3,u4,u5,u6,u7⟩:=hs2.cells;have f2:=hs2.frozen 2;have S3:=ag (hs2.set2 3);have hs3:=hs2.set2 3;obtain⟨y0,_⟩:=hs3.cells;have hb3:Below sb w (w2.setCell ⟨sb,2,none⟩ (.int .i64 3)):=(eF.mono (show sb<=w.heap.size by omega)).setCell (p:=⟨sb,2,none⟩) (bH sb) _;have hz3:iD (w2.setCell ⟨sb,2,none⟩ (.int .i64 3)) zb o b off cap rs:=dv.low hb3 hzs bX;have HD:=ag (Ox zb b off cap o rs _ hz3 hlen (af cF));have eE:=ag ((HO.below eF).mF (k:=sb) (i:=2) ae (aj 3));have rZ:(w2.setCell ⟨sb,2,none⟩ (.int .i64 3)).heap.size=w2.heap.size:=by simp[World.setCell]
 clear hs2 hs3 u0 u1 u3 u4 u6 u7;go_wp2_with fail;refine HD.mono ?_;rintro e w4 ⟨v4,rfl,kR,hb4⟩;obtain⟨a4,aV,rfl⟩:=kR.slice;have gj:=S3.kept (hb4.block sb (by rw[rZ];exact dP qQ eF.size));obtain⟨z0,z1,z2,z3,z4,z5,z6,z7⟩:=gj.cells;have g5:=gj.frozen 5;have S5:=ag (gj.oF (.slice a4 (fQ o rs).length aV));have xZ:=ag ((eE.below hb4).mF (k:=sb) (i:=5) ae (.slice a4 (fQ o rs).length aV));have pZ:=ag (kR.mF (k:=sb) (i:=5) (by rw[rZ];exact dP qQ eF.size) (.slice a4 (fQ o rs).length aV));have hb5:Below sb w (w4.setCell ⟨sb,5,none⟩ (.slice a4 (fQ o rs).length aV)):=(hb3.trans (hb4.mono (show sb<=_ by rw[rZ];have:=eF.size;omega))).setCell (p:=⟨sb,5,none⟩) (bH sb) _;clear gj kR z0 z1 z2 z3 z4 z6 z7;go_wp2;go_ret2;refine⟨rfl,⟨va,.slice a4 (fQ o rs).length aV,?_,?_,?_,?_⟩,hb5⟩;{rw[af e1];exact S5};{rw[af e2];simpa using af xZ};{rw[af e3];exact pZ.base (by rw[rZ];have:=eF.size;omega)};{exact fun g h1 h2=>by have k1:=(pW g h1).2;have k2:=(pZ.oG g h2).1;rw[rZ]at k2;have:=eF.size;omega}};{
 rw[hm]at e1 e2 e3;go_enter func194,ntmps194;go_wp2_with fail;refine HC.mono ?_;rintro e w1 ⟨⟨v1,rfl,kz⟩,hb1⟩;obtain⟨a1,aC,rfl⟩:=kz.slice;clear kz;obtain⟨t0,t1,_⟩:=(tI w1 hb1).cells;go_wp2_with fail;refine(dA w1 hb1).mono ?_;rintro e w2 ⟨⟨v2,rfl,hv2⟩,hb2⟩;rw[hm];have eF:=hb1.trans (hb2.mono hb1.size);have hs2:=af tI w2 eF;obtain⟨u0,u1,u2,u3,u4,u5,u6,u7⟩:=hs2.cells;have uQ:=ag (aa7 v2 _ w2 hv2.rv jc);obtain⟨b',off',hL2,hr2,lq⟩:=hv2;have hs1:=hb1.size;have Ue:b'≠sb:=by rcases lq with h|h <;> omega
 have Uf:va.ownBlock≠some b':=by{intro h;have:=af pW b' h;rcases lq with h|h <;> omega};have cS:=ag (aa3 sb zb cb b' off' k 0 bw va (aH) vc v2 ans _ w2 hs2 (HO.below eF) hL2 hr2 Ue Uf jc ha);clear hs2 hL2 hr2 lq u0 u2 u3 u4 u5 u6 u7;rw[af amh hm]at uQ;go_wp2_with fail;refine uQ.mono ?_;rintro e w2 ⟨rfl,rfl⟩;go_wp2_with fail;refine cS.mono ?_;rintro e w3 ⟨rfl,⟨df,hs3,wJ⟩,hf3⟩;have hb3:Below sb w w3:=(eF.mono (show sb<=w.heap.size by omega)).trans (hf3.below (fun j hj=>⟨ae,fun h=>by have:=af pW j h.symm;omega⟩) (by have:=eF.size;omega));have Ba:=ag hs3;have eE:=ag wJ;obtain⟨y0,_,_,_,_,oH,_,_⟩:=hs3.cells;have KM:=hs3.lt;have hz3:iD w3 zb o b off cap rs:=dv.low hb3 hzs bX;have HD:=ag (Ox zb b off cap o rs w3 hz3 hlen (af cF));clear hs3 wJ hz3 hf3;cases ht:tE k (ct rs n).1;{rw[ht]at e3;go_wp2_with fail;refine HD.mono ?_;rintro e w4 ⟨v4,rfl,kR,hb4⟩;obtain⟨a4,aV,rfl⟩:=kR.slice;have gj:=Ba.kept (hb4.block sb KM);obtain⟨z0,z1,z2,z3,z4,z5,z6,z7⟩:=gj.cells;have g5:=gj.frozen 5;have S5:=ag (gj.oF (.slice a4 (fQ o rs).length aV));have xZ:=ag ((eE.below hb4).mF (k:=sb) (i:=5) ae (.slice a4 (fQ o rs).length aV));have pZ:=ag (kR.mF (k:=sb) (i:=5) KM (.slice a4 (fQ o rs).length aV));have hb5:Below sb w (w4.setCell ⟨sb,5,none⟩ (.slice a4 (fQ o rs).length aV)):=(hb3.trans (hb4.mono (show sb<=_ by omega))).setCell (p:=⟨sb,5,none⟩) (bH sb) _;clear gj kR z0 z1 z2 z3 z4 z6 z7;go_wp2;go_ret2;refine⟨rfl,⟨df,.slice a4 (fQ o rs).length aV,?_,?_,?_,?_⟩,hb5⟩;{rw[af e1];exact S5};{rw[af e2];exact xZ};{rw[af e3];exact pZ.base ae};{exact fun g h1 h2=>by have k1:=(eE.oG g h1).2;have k2:=(pZ.oG g h2).1;omega}};{rw[ht]at e3;go_wp2;go_ret2;refine⟨rfl,⟨df,aH,?_,?_,?_,?_⟩,hb3⟩;{rw[af e1];exact Ba};{rw[af e2];exact eE};{rw[af e3];exact ia _ _ _ _};{exact fun g _ h2=>by cases h2}}}};{
 have xY:(0:Int)<((cU o rs n).length:Int):=ae;clear uK;have e1:Hid (lN o rs n=0):=by unfold lN;rw[Hid,aF hc]
 have e2:Hid (mH o rs k n = []):=by unfold mH;rw[Hid,aF hc]
 have e3:Hid (nZ o rs k n=cU o rs n):=by unfold nZ;rw[Hid,aF hc]
 clear hc;go_enter func194,ntmps194;go_wp2_with fail;refine HC.mono ?_;rintro e w1 ⟨⟨v1,rfl,kz⟩,hb1⟩;have Fl:=ag (Ov v1 _ w1 (kz.rv (dv.below hb1).2.2.2.2) hcl);obtain⟨a1,aC,rfl⟩:=kz.slice;clear kz;go_wp2_with fail;refine Fl.mono ?_;rintro e w4 ⟨v4,rfl,kR,hb4⟩;obtain⟨a4,aV,rfl⟩:=kR.slice;have mC:=hb1.trans (hb4.mono hb1.size);have gj:=af tI w4 mC;obtain⟨z0,z1,z2,z3,z4,z5,z6,z7⟩:=gj.cells;have g5:=gj.frozen 5;have S5:=ag (gj.oF (.slice a4 (cU o rs n).length aV));have xZ:=ag ((HO.below mC).mF (k:=sb) (i:=5) ae (.slice a4 (cU o rs n).length aV));have pZ:=ag (kR.mF (k:=sb) (i:=5) (by have:=hb1.size;omega) (.slice a4 (cU o rs n).length aV));have hb5:Below sb w (w4.setCell ⟨sb,5,none⟩ (.slice a4 (cU o rs n).length aV)):=(mC.mono (show sb<=_ by omega)).setCell (p:=⟨sb,5,none⟩) (bH sb) _;clear gj kR z0 z1 z2 z3 z4 z6 z7;go_wp2;go_ret2;refine⟨rfl,⟨va,.slice a4 (cU o rs n).length aV,?_,?_,?_,?_⟩,hb5⟩;{rw[af e1];exact S5};{rw[af e2];simpa using af xZ};{rw[af e3];exact pZ.base (by have:=hb1.size;omega)};{exact fun g h1 h2=>by have k1:=(pW g h1).2;have k2:=(pZ.oG g h2).1;have:=hb1.size;omega}}
theorem ami(sb zb cb b off cap:Nat)(k:Int)(bw:Bool)(va vb vc:Value)(o n:ah)(rs ans:List ai)(w:World)(hs:dQ w sb zb k 0 bw va vb vc cb)(ho:b_ w (sb+1) va ans)(uO:vb=aH)
  (hz:iD w zb o b off cap rs) (hg:bK w) (hzs:zb<sb) (bX:b<sb) (h0:0<sb) (kC:A0 o rs) (hn:n.length<=2900) (ha:ans.length<=90000)
  (bq:∀r∈gi (cB rs o) 6,Fe r/\r.data.length<=3000/\r.aG<=1000000000) (hk:k=5\/k=255) (jc:(ct rs n).1.length<=3001) :
  aB 194 #[aM sb,ay n] w fun e w'=>e=.returned (.tuple #[.string ⟨#[]⟩,.bool false])/\(∃df cJ,dQ w' sb zb k (lN o rs n) bw df cJ vc cb/\b_ w' (sb+1) df (ans++mH o rs k n)/\b_ w' (sb+1) cJ (nZ o rs k n)/\uR df cJ)/\Below sb w w':=by
 subst uO;obtain⟨hlen,gX,hrl⟩:=kC;have amj:(k != 5)=false\/((k != 5)=true/\(k != 255)=false):=by{rcases hk with h|h;{left;rw[h];rfl};{right;rw[h];exact⟨rfl,rfl⟩}};clear hk;have qQ:=hs.lt;have hown:=ho.oG;obtain⟨s0,s1,_⟩:=hs.cells;have HS:=ag hs;have HO:=ag ho;have dv:=ag hz;have HG:=ag hg;have cF:=ag bq;have HC:=ag (Oq zb b off cap o n rs w hz hg hlen ae gX);have tI:Hid (∀W,au w W->dQ W sb zb k 0 bw va (aH) vc cb):=fun W hb=>hs.kept (hb.block sb qQ);have pW:=ag hown;clear hs ho hz hg bq hown;have hcl:(cU o rs n).length<=3001:=a_ (aa8 o rs n) hlen;by_cases hc:(cU o rs n).length=0;{
 have xY:¬(0:Int)<((cU o rs n).length:Int):=ae;have e1:Hid (lN o rs n=if(ct rs n).2 then 0 else 3):=by unfold lN;rw[Hid,aJ hc]
 have e2:Hid (mH o rs k n=if(ct rs n).2 then kB k (ct rs n).1 else []):=by unfold mH;rw[Hid,aJ hc]
 have e3:Hid (nZ o rs k n=if(ct rs n).2 then(if tE k (ct rs n).1 then []else fQ o rs)else fQ o rs):=by unfold nZ;rw[Hid,aJ hc]
 clear hc;have dA:=ag (fun W (hb:au w W)=>TW zb b off cap o n rs W (dv.below hb) (HG.below hb) hlen hn (fun r hr=>(hrl r hr).1));cases hm:(ct rs n).2;{
 rw[hm]at e1 e2 e3;go_enter func194,ntmps194;go_wp2_with fail;refine HC.mono ?_;rintro e w1 ⟨⟨v1,rfl,kz⟩,hb1⟩;obtain⟨a1,aC,rfl⟩:=kz.slice;clear kz;obtain⟨t0,t1,_⟩:=(tI w1 hb1).cells;go_wp2_with fail;refine(dA w1 hb1).mono ?_;rintro e w2 ⟨⟨v2,rfl,hv2⟩,hb2⟩;rw[hm];clear hv2;have eF:=hb1.trans (hb2.mono hb1.size);have hs2:=af tI w2 eF;obtain⟨u0,u1,u2,u3,u4,u5,u6,u7⟩:=hs2.cells;have f2:=hs2.frozen 2;have S3:=ag (hs2.set2 3);have hs3:=hs2.set2 3;obtain⟨y0,_⟩:=hs3.cells;have hb3:Below sb w (w2.setCell ⟨sb,2,none⟩ (.int .i64 3)):=(eF.mono (show sb<=w.heap.size by omega)).setCell (p:=⟨sb,2,none⟩) (bH sb) _;have hz3:iD (w2.setCell ⟨sb,2,none⟩ (.int .i64 3)) zb o b off cap rs:=dv.low hb3 hzs bX;have HD:=ag (Ox zb b off cap o rs _ hz3 hlen (af cF));have eE:=ag ((HO.below eF).mF (k:=sb) (i:=2) ae (aj 3));have rZ:(w2.setCell ⟨sb,2,none⟩ (.int .i64 3)).heap.size=w2.heap.size:=by simp[World.setCell]
 clear hs2 hs3 u0 u1 u3 u4 u6 u7;go_wp2_with fail;refine HD.mono ?_;rintro e w4 ⟨v4,rfl,kR,hb4⟩;obtain⟨a4,aV,rfl⟩:=kR.slice;have gj:=S3.kept (hb4.block sb (by rw[rZ];exact dP qQ eF.size));obtain⟨z0,z1,z2,z3,z4,z5,z6,z7⟩:=gj.cells;have g5:=gj.frozen 5;have S5:=ag (gj.oF (.slice a4 (fQ o rs).length aV));have xZ:=ag ((eE.below hb4).mF (k:=sb) (i:=5) ae (.slice a4 (fQ o rs).length aV));have pZ:=ag (kR.mF (k:=sb) (i:=5) (by rw[rZ];exact dP qQ eF.size) (.slice a4 (fQ o rs).length aV));have hb5:Below sb w (w4.setCell ⟨sb,5,none⟩ (.slice a4 (fQ o rs).length aV)):=(hb3.trans (hb4.mono (show sb<=_ by rw[rZ];have:=eF.size;omega))).setCell (p:=⟨sb,5,none⟩) (bH sb) _;clear gj kR z0 z1 z2 z3 z4 z6 z7;go_wp2;go_ret2;refine⟨rfl,⟨va,.slice a4 (fQ o rs).length aV,?_,?_,?_,?_⟩,hb5⟩;{rw[af e1];exact S5};{rw[af e2];simpa using af xZ};{rw[af e3];exact pZ.base (by rw[rZ];have:=eF.size;omega)};{exact fun g h1 h2=>by have k1:=(pW g h1).2;have k2:=(pZ.oG g h2).1;rw[rZ]at k2;have:=eF.size;omega}};{
 rw[hm]at e1 e2 e3;go_enter func194,ntmps194;go_wp2_with fail;refine HC.mono ?_;rintro e w1 ⟨⟨v1,rfl,kz⟩,hb1⟩;obtain⟨a1,aC,rfl⟩:=kz.slice;clear kz;obtain⟨t0,t1,_⟩:=(tI w1 hb1).cells;go_wp2_with fail;refine(dA w1 hb1).mono ?_;rintro e w2 ⟨⟨v2,rfl,hv2⟩,hb2⟩;rw[hm];have eF:=hb1.trans (hb2.mono hb1.size);have hs2:=af tI w2 eF;obtain⟨u0,u1,u2,u3,u4,u5,u6,u7⟩:=hs2.cells;obtain⟨b',off',hL2,hr2,lq⟩:=hv2;have hs1:=hb1.size;have Ue:b'≠sb:=by rcases lq with h|h <;> omega
 have Uf:va.ownBlock≠some b':=by{intro h;have:=af pW b' h;rcases lq with h|h <;> omega};have cS:=ag (aa3 sb zb cb b' off' k 0 bw va (aH) vc v2 ans _ w2 hs2 (HO.below eF) hL2 hr2 Ue Uf jc ha);clear hs2 hL2 hr2 lq u0 u2 u3 u4 u5 u6 u7;rcases amj with Fh|⟨Fh,Uc⟩;all_goals(go_wp2_with fail;refine cS.mono ?_;rintro e w3 ⟨rfl,⟨df,hs3,wJ⟩,hf3⟩;have hb3:Below sb w w3:=(eF.mono (show sb<=w.heap.size by omega)).trans (hf3.below (fun j hj=>⟨ae,fun h=>by have:=af pW j h.symm;omega⟩) (by have:=eF.size;omega));have Ba:=ag hs3;have eE:=ag wJ;obtain⟨y0,_,_,_,_,oH,_,_⟩:=hs3.cells;have KM:=hs3.lt;have hz3:iD w3 zb o b off cap rs:=dv.low hb3 hzs bX;have HD:=ag (Ox zb b off cap o rs w3 hz3 hlen (af cF));clear hs3 wJ hz3 hf3;cases ht:tE k (ct rs n).1;{rw[ht]at e3;go_wp2_with fail;refine HD.mono ?_;rintro e w4 ⟨v4,rfl,kR,hb4⟩;obtain⟨a4,aV,rfl⟩:=kR.slice;have gj:=Ba.kept (hb4.block sb KM);obtain⟨z0,z1,z2,z3,z4,z5,z6,z7⟩:=gj.cells;have g5:=gj.frozen 5;have S5:=ag (gj.oF (.slice a4 (fQ o rs).length aV));have xZ:=ag ((eE.below hb4).mF (k:=sb) (i:=5) ae (.slice a4 (fQ o rs).length aV));have pZ:=ag (kR.mF (k:=sb) (i:=5) KM (.slice a4 (fQ o rs).length aV));have hb5:Below sb w (w4.setCell ⟨sb,5,none⟩ (.slice a4 (fQ o rs).length aV)):=(hb3.trans (hb4.mono (show sb<=_ by omega))).setCell (p:=⟨sb,5,none⟩) (bH sb) _;clear gj kR z0 z1 z2 z3 z4 z6 z7;go_wp2;go_ret2;refine⟨rfl,⟨df,.slice a4 (fQ o rs).length aV,?_,?_,?_,?_⟩,hb5⟩;{rw[af e1];exact S5};{rw[af e2];exact xZ};{rw[af e3];exact pZ.base ae};{exact fun g h1 h2=>by have k1:=(eE.oG g h1).2;have k2:=(pZ.oG g h2).1;omega}};{rw[ht]at e3;go_wp2;go_ret2;refine⟨rfl,⟨df,aH,?_,?_,?_,?_⟩,hb3⟩;{rw[af e1];exact Ba};{rw[af e2];exact eE};{rw[af e3];exact ia _ _ _ _};{exact fun g _ h2=>by cases h2}})}};{
 have xY:(0:Int)<((cU o rs n).length:Int):=ae;have e1:Hid (lN o rs n=0):=by unfold lN;rw[Hid,aF hc]
 have e2:Hid (mH o rs k n = []):=by unfold mH;rw[Hid,aF hc]
 have e3:Hid (nZ o rs k n=cU o rs n):=by unfold nZ;rw[Hid,aF hc]
 clear hc;go_enter func194,ntmps194;go_wp2_with fail;refine HC.mono ?_;rintro e w1 ⟨⟨v1,rfl,kz⟩,hb1⟩;have Fl:=ag (Ov v1 _ w1 (kz.rv (dv.below hb1).2.2.2.2) hcl);obtain⟨a1,aC,rfl⟩:=kz.slice;clear kz;go_wp2_with fail;refine Fl.mono ?_;rintro e w4 ⟨v4,rfl,kR,hb4⟩;obtain⟨a4,aV,rfl⟩:=kR.slice;have mC:=hb1.trans (hb4.mono hb1.size);have gj:=af tI w4 mC;obtain⟨z0,z1,z2,z3,z4,z5,z6,z7⟩:=gj.cells;have g5:=gj.frozen 5;have S5:=ag (gj.oF (.slice a4 (cU o rs n).length aV));have xZ:=ag ((HO.below mC).mF (k:=sb) (i:=5) ae (.slice a4 (cU o rs n).length aV));have pZ:=ag (kR.mF (k:=sb) (i:=5) (by have:=hb1.size;omega) (.slice a4 (cU o rs n).length aV));have hb5:Below sb w (w4.setCell ⟨sb,5,none⟩ (.slice a4 (cU o rs n).length aV)):=(mC.mono (show sb<=_ by omega)).setCell (p:=⟨sb,5,none⟩) (bH sb) _;clear gj kR z0 z1 z2 z3 z4 z6 z7;go_wp2;go_ret2;refine⟨rfl,⟨va,.slice a4 (cU o rs n).length aV,?_,?_,?_,?_⟩,hb5⟩;{rw[af e1];exact S5};{rw[af e2];simpa using af xZ};{rw[af e3];exact pZ.base (by have:=hb1.size;omega)};{exact fun g h1 h2=>by have k1:=(pW g h1).2;have k2:=(pZ.oG g h2).1;have:=hb1.size;omega}}
structure amk(o n:ah)(rs:List ai)(k:Int):Prop where
 fit:A0 o rs
 len:n.length<=2900
 Ug:∀r∈gi (cB rs o) 6,Fe r/\r.data.length<=3000/\r.aG<=1000000000
 kk:k=5\/k=255
 Uh:(ct rs n).1.length<=3001
structure aml(V:ah->Prop)(o:ah)(rs:List ai)(k:Int):Prop where
 fit:A0 o rs
 Ug:∀r∈gi (cB rs o) 6,Fe r/\r.data.length<=3000/\r.aG<=1000000000
 Ui:(k == 5)=false
 Uj:(k == 255)=false
 Uh:∀n,V n->(ct rs n).1.length<=3001
 abt:∀n r,V n->iE o rs n=some r->r.data.length<=2900/\V r.data
def OJ(sb zb cb:Nat)(k:Int)(bw:Bool)(vc:Value)(o:ah)(rs ls:List ai)(fin:Option ah)(w':World):Prop :=
 ∃df cJ,dQ w' sb zb k (A8 o rs fin) bw df cJ vc cb/\b_ w' (sb+1) df (ls++zC o rs k fin)/\b_ w' (sb+1) cJ (A_ o rs k fin)/\uR df cJ
theorem amm(V:ah->Prop)(sb zb cb c b off cap base:Nat)(k:Int)(bw:Bool)(vc:Value)(o n:ah)(rs:List ai)(w:World)(hs:dQ w sb zb k 0 bw (aH) (aH) vc cb)
  (hz:iD w zb o b off cap rs) (hg:bK w) (hzs:zb<sb) (bX:b<sb) (h0:0<sb) (hc:pA w cb c false) (hne:cb≠c) (hcb:cb<sb) (hcs:c<sb) (dw:base<=c) (hn:n.length<=2900) (hv:V n) (hp:aml V o rs k) :
  aB 127 #[aM sb,ay n] w fun e w' =>
   (gA o rs 8 n=none/\e=.returned (.bool false)/\Below base w w')\/(∃ls fin,gA o rs 8 n=some (ls,fin)/\ls.length<=8/\e=.returned (.bool true)/\OJ sb zb cb k bw vc o rs ls fin w'/\Below sb w w'):=by
 obtain⟨_,_,_,_,_,_,_,s7⟩:=hs.cells;have qQ:=hs.lt;have HS:=ag hs;have dv:=ag hz;have HG:=ag hg;have HC:=ag hc;have bI:=ag hp;clear hs hz hg hc hp;go_enter func127,ntmps127;go_wp2_with fail
 go_loopg [1,5] 10 (fun g1 nm C0 wr =>
  (∃(ls:List ai) (n':ah) (va:Value),nm=ay n'/\C0=.bool true/\ls.length<=8/\g1+ls.length=10/\Hid (gA o rs 8 n=(gA o rs (8 - ls.length) n').map (fun x=>(ls++x.1,x.2)))/\n'.length<=2900/\Hid (V n')/\Hid (dQ wr sb zb k 0 bw va (aH) vc cb)/\Hid (b_ wr (sb+1) va ls)/\Hid (Below sb w wr)) \/
  (g1=1/\C0=.bool true/\Hid (gA o rs 8 n=none)/\Hid (∃va,dQ wr sb zb k 0 bw va (aH) vc cb)/\Hid (pA wr cb c true)/\Hid (Below base w wr)) \/
  (C0=.bool false/\Hid (∃ls fin,gA o rs 8 n=some (ls,fin)/\ls.length<=8/\OJ sb zb cb k bw vc o rs ls fin wr/\Below sb w wr)))
 case atStart =>
  refine .inl ⟨[],n,aH,rfl,rfl,ar,ar,?_,hn,hv,HS,ia _ _ _ _,bR _ _⟩;rw[Hid];simp
 case round =>
  rcases hrel with⟨ls,n',va,rfl,rfl,Uk,np,hch,hn',hv',hs1,ho1,hb1⟩|⟨rfl,rfl,hch,hs1,hc1,hb1⟩|⟨rfl,aY⟩
  ·have fk:=af hs1;obtain⟨_,_,_,_,_,_,_,r7⟩:=fk.cells;have hcr:=HC.below hb1 hcb hcs;have Fm:=dv.low (af hb1) hzs bX;have hgr:=ame (af HG) (af hb1) h0;have HAS:=ag (OC cb c false wr hcr);have azh:=ag hcr;cases hlk:iE o rs n' with
   | none =>
    have HST:=ag (amg sb zb cb b off cap k bw va (aH) vc o n' rs ls wr fk (af ho1) rfl Fm hgr hzs bX h0 bI.fit hn' ae bI.Ug bI.Ui bI.Uj (amf hlk) (bI.Uh n' (af hv')));have hend:Hid (gA o rs 8 n=some (ls,some n')):=by
     rw[Hid,af hch];have:gA o rs (8 - ls.length) n'=some ([],some n'):=by
      cases e:8 - ls.length with
      | zero=>rw[gA,hlk]
      | succ m=>rw[gA,hlk]
     rw[this];simp
    clear fk hcr Fm hgr hs1 ho1 hch;go_wp2_with fail;refine HAS.mono ?_;rintro e wr ⟨rfl,rfl⟩;go_wp2_with fail;refine HST.mono ?_;rintro e w2 ⟨rfl,⟨df,cJ,hs2,ha2,hb2,oI⟩,hbl⟩;have aW:Hid (∃ls fin,gA o rs 8 n=some (ls,fin)/\ls.length<=8/\OJ sb zb cb k bw vc o rs ls fin w2/\Below sb w w2):=⟨ls,some n',hend,Uk,⟨df,cJ,hs2,ha2,hb2,oI⟩,hb1.trans hbl⟩
    clear hs2 ha2 hb2 hbl oI;go_wp2_with fail
    go_roundg 0
    case rel=>exact .inr (.inr ⟨rfl,aW⟩)
    case measure=>omega
   | some r =>
    obtain⟨kO,hk2,hk3,hk4⟩:=Ud hlk;have wK:=(bI.abt n' r (af hv') hlk).1;have amn:=ag (bI.abt n' r (af hv') hlk).2;have gX:o.length<=3000:=bI.fit.2.1;by_cases hl:ls.length=8
    ·have qV:∀W,au wr W->aB 247 #[aM sb,r.tB] W fun e w'=>e=.returned (.tuple #[ay r.data,.bool true])/\(dQ w' sb zb k 0 bw va (aH) vc cb/\pA w' cb c true/\Below base wr w'):=fun W hW=>by
      have zB:=fk.kept (hW.block sb fk.lt);refine(amd sb zb cb c k bw va _ vc ls r W zB (ho1.below hW) (hcr.below hW hcr.1 hcr.lt) hne hcs hl).mono ?_;rintro e w' ⟨rfl,h1,h2,h3⟩;exact⟨rfl,h1,h2,(hW.mono (by have:=hcr.lt;omega)).trans (h3 base dw)⟩
     have HST:=ag (abr sb zb cb b off cap k bw va _ vc o n' rs r true _ wr fk Fm hgr bI.fit hn' bI.Ui bI.Uj kO hk2 hk3 hk4 qV);have hend:Hid (gA o rs 8 n=none):=by
      rw[Hid,af hch,hl,rJ,gA,hlk];rfl
     clear fk hcr Fm hgr hs1 ho1 hch qV;go_wp2_with fail;refine HAS.mono ?_;rintro e wr ⟨rfl,rfl⟩;go_wp2_with fail;refine HST.mono ?_;rintro e w2 ⟨rfl,h1,h2,h3⟩;have H1:=ag h1;have Bb:=ag h2;have HX:=ag ((hb1.mono (show base<=sb by omega)).trans h3);clear h1 h2 h3;go_wp2_with fail
     go_roundg 1
     case rel=>exact .inr (.inl ⟨rfl,rfl,hend,⟨_,H1⟩,Bb,HX⟩)
     case measure=>omega
    ·have qV:∀W,au wr W->aB 247 #[aM sb,r.tB] W fun e w'=>e=.returned (.tuple #[ay r.data,.bool (dy r.data o)])/\((∃df,dQ w' sb zb k 0 bw df (aH) vc cb/\b_ w' (sb+1) df (ls++[r]))/\Below sb wr w'):=fun W hW=>by
      have zB:=fk.kept (hW.block sb fk.lt);refine(amc sb zb cb b off cap k bw va _ vc o rs ls r W zB (ho1.below hW) (Fm.below hW) hzs ae gX ae).mono ?_;rintro e w' ⟨rfl,h1,h2⟩;exact⟨rfl,h1,(hW.mono (by have:=fk.lt;omega)).trans h2⟩
     have HST:=ag (abr sb zb cb b off cap k bw va _ vc o n' rs r _ _ wr fk Fm hgr bI.fit hn' bI.Ui bI.Uj kO hk2 hk3 hk4 qV);obtain⟨m,hm⟩:∃m,8 - ls.length=m+1:=⟨7 - ls.length,ae⟩
     have hstep:Hid (gA o rs 8 n=if dy r.data o=true then(gA o rs (8 - (ls++[r]).length) r.data).map (fun x=>((ls++[r])++x.1,x.2))else some (ls++[r],none)):=by
      rw[Hid,af hch,hm,gA,hlk];have e:8 - (ls++[r]).length=m:=aP;rw[e];dsimp only;split
      ·cases gA o rs m r.data <;> simp
      ·simp
     clear fk hcr Fm hgr hs1 ho1 hch qV;go_wp2_with fail;refine HAS.mono ?_;rintro e wr ⟨rfl,rfl⟩;go_wp2_with fail;refine HST.mono ?_;rintro e w2 ⟨rfl,⟨df,h1,h2⟩,h3⟩;have H1:=ag h1;have Bb:=ag h2;have HX:=ag (hb1.trans h3);clear h1 h2 h3;cases hu:dy r.data o
     ·have aW:Hid (∃ls fin,gA o rs 8 n=some (ls,fin)/\ls.length<=8/\OJ sb zb cb k bw vc o rs ls fin w2/\Below sb w w2):=by
       refine⟨ls++[r],none,?_,aP,⟨df,aH,H1,?_,ia _ _ _ _,fun g _ h2=>by cases h2⟩,HX⟩
       ·rw[af hstep,hu];rfl
       ·unfold zC;rw[h_];exact Bb
      go_wp2_with fail
      go_roundg 0
      case rel=>exact .inr (.inr ⟨rfl,aW⟩)
      case measure=>omega
     ·have aW:Hid (gA o rs 8 n=(gA o rs (8 - (ls++[r]).length) r.data).map (fun x=>((ls++[r])++x.1,x.2))):=by
       rw[Hid,af hstep,hu];rfl
      go_wp2_with fail
      go_roundg (9 - ls.length)
      case rel=>exact .inl ⟨ls++[r],r.data,df,rfl,rfl,aP,aP,aW,wK,amn,H1,Bb,HX⟩
      case measure=>omega
  ·obtain⟨va,fk⟩:=af hs1;obtain⟨_,_,_,_,_,_,_,r7⟩:=fk.cells;have HAS:=ag (OC cb c true wr (af hc1));clear fk;go_wp2_with fail;refine HAS.mono ?_;rintro e wr ⟨rfl,rfl⟩;go_wp2;go_ret;exact .inl ⟨hch,rfl,hb1⟩
  ·go_wp2;go_ret;obtain⟨ls,fin,h1,h2,h3,h4⟩:=af aY;exact .inr ⟨ls,fin,h1,h2,rfl,h3,h4⟩
theorem amo(sb zb cb c b off cap:Nat)(k:Int)(bw:Bool)(va vb vc:Value)(o n:ah)(rs:List ai)(w:World)(hs:dQ w sb zb k 0 bw va vb vc cb)(rU:va=aH)(uO:vb=aH)
  (hz:iD w zb o b off cap rs) (hg:bK w) (hzs:zb<sb) (bX:b<sb) (h0:0<sb) (hc:pA w cb c false) (hp:amk o n rs k) :
  aB 127 #[aM sb,ay n] w fun e w'=>e=.returned (.bool true)/\(∃df cJ,dQ w' sb zb k (lN o rs n) bw df cJ vc cb/\b_ w' (sb+1) df (mH o rs k n)/\b_ w' (sb+1) cJ (nZ o rs k n)/\uR df cJ)/\Below sb w w':=by
 have HST:=ag (ami sb zb cb b off cap k bw va vb vc o n rs [] w hs (by subst rU;exact ia _ _ _ _) uO hz hg hzs bX h0 hp.fit hp.len ar hp.Ug hp.kk hp.Uh);have HAS:=ag (OC cb c false w hc);obtain⟨s0,s1,s2,s3,s4,s5,s6,s7⟩:=hs.cells;clear hs hz hg hc hp s0 s1 s2 s3 s4 s5 s6;go_enter func127,ntmps127;go_wp2_with fail;go_loopw [1,5] (fun nm C0 wr=>(nm=ay n/\C0=.bool true/\wr=w)\/(C0=.bool false/\(∃df cJ,dQ wr sb zb k (lN o rs n) bw df cJ vc cb/\b_ wr (sb+1) df (mH o rs k n)/\b_ wr (sb+1) cJ (nZ o rs k n)/\uR df cJ)/\Below sb w wr)) (fun _ C0 _=>abq C0);case atStart=>exact .inl ⟨rfl,rfl,rfl⟩
 case round =>(
 rcases hrel with⟨rfl,rfl,rfl⟩|⟨rfl,Bc⟩;{
 go_wp2_with fail;refine HAS.mono ?_;rintro e w ⟨rfl,rfl⟩;go_wp2_with fail;refine HST.mono ?_;rintro e w1 ⟨rfl,Bc⟩;rw[gb]at Bc;have bI:=ag Bc;clear Bc;go_wp2_with fail;go_roundw;case rel=>exact .inr ⟨rfl,bI⟩
 case measure=>simp[abq]};{have bI:=ag Bc;clear Bc;go_wp2;go_ret;exact⟨rfl,bI⟩})
theorem abu(d:Nat)(A:World):dF d A A:=⟨rfl,rfl,rfl,bH _,fun _ _ _=>rfl⟩
theorem OL{d:Nat}{A B C:World}(h:dF d A B)(k:dF d B C):dF d A C :=
 ⟨k.os.trans h.os,k.tape.trans h.tape,k.output.trans h.output,a_ h.size k.size,fun i ax hd=>(k.block i (dP ax h.size) hd).trans (h.block i ax hd)⟩
theorem KN{d:Nat}{A B:World}(h:dF d A B)(o:Nat)(v:Value):dF d A (B.setCell ⟨d,o,none⟩ v) :=
 OL h ⟨rfl,rfl,rfl,by simp[World.setCell],fun k _ hk=>cZ _ _ _ _ hk⟩
def eO(w:World)(b:Nat)(s:ah)(br:Bool):Prop:=w.heap[b]? = some (.cells #[.string (aq s),.bool br] 215)
section
variable {w:World} {b:Nat} {s:ah} {br:Bool}
theorem eO.lt(h:eO w b s br):b<w.heap.size:=(bV.1 h).1
theorem eO.cells(h:eO w b s br):w.cell? (ak b 0)=some (.string (aq s))/\w.cell? (ak b 1)=some (.bool br):=by unfold eO at h;constructor <;> simp[World.cell?,h]
theorem eO.frozen(h:eO w b s br)(i:Nat):w.frozen? (ak b i)=false:=by unfold eO at h;simp[World.frozen?,h]
theorem eO.set0(h:eO w b s br)(t:ah):eO (w.setCell ⟨b,0,none⟩ (.string (aq t))) b t br:=by unfold eO at *; simp only[World.setCell];rw[fw,aJ rfl,h];rfl
theorem eO.set1(h:eO w b s br)(t:Bool):eO (w.setCell ⟨b,1,none⟩ (.bool t)) b s t:=by unfold eO at *; simp only[World.setCell];rw[fw,aJ rfl,h];rfl
end
theorem OM(s:ah)(n:Nat)(h:n<=s.length):(aq s).extract 0 n=aq (s.take n):=by apply NI;simp[aq,NH]
theorem OO(s:ah)(n m:Nat)(h:m=s.length):(aq s).extract n m=aq (s.drop n):=by subst h;apply NI;simp[aq,NH];exact pd ar
theorem Ul(b n:Nat)(s:ah)(br:Bool)(w:World)(h:eO w b s br)(hn:n<=s.length)(hl:s.length<=1000000000) :
  aB 148 #[aM b,aj n] w fun e w' =>
   e=.returned (.string (aq (s.take n)))/\eO w' b (s.drop n) br/\dF b w w'/\w'.heap.size=w.heap.size:=by obtain⟨h0,h1⟩:=h.cells;have hf:=h.frozen;have bC:=ag h;clear h;have hs:(aq s).size=s.length:=bJ s;have cS:=ag (OM s n hn);have HD:=ag (OO s n _ rfl);have hd:¬s.length<n:=ae;go_enter func148,ntmps148;go_wp2;go_ret;rw[af HD];refine⟨?_,bC.set0 _,KN (abu _ _) _ _,by simp[World.setCell]⟩;show Ending.returned (.string ((aq s).extract 0 n))=_;rw[af cS]
theorem Um(b n:Nat)(s:ah)(br:Bool)(w:World)(h:eO w b s br)(hn:s.length<n)(hl:n<=1000000000) :
  aB 148 #[aM b,aj n] w fun e w' =>
   e=.returned (.string (aq []))/\eO w' b [] true/\dF b w w'/\w'.heap.size=w.heap.size:=by obtain⟨h0,h1⟩:=h.cells;have hf:=h.frozen;have bC:=ag h;clear h;have hs:(aq s).size=s.length:=bJ s;go_enter func148,ntmps148;go_wp2;go_ret;exact⟨rfl,(bC.set1 _).set0 [],KN (KN (abu _ _) _ _) _ _,by simp[World.setCell]⟩
theorem amp(b:Nat)(c:UInt8)(s:ah)(br:Bool)(w:World)(h:eO w b (c :: s) br)(hl:s.length<1000000000) :
  aB 198 #[aM b] w fun e w' =>
   e=.returned (aj c.toNat)/\eO w' b s br/\dF b w w'/\w'.heap.size=w.heap.size:=by have HC:=ag (Ul b 1 (c :: s) br w h ar aP);clear h;go_enter func198,ntmps198;go_wp2_with fail;refine HC.mono ?_;rintro e w1 ⟨rfl,hr,hk,hz⟩;have aW:=ag (bg hr (bg hk hz));clear hr hk hz HC;have e1:aq (List.take 1 (c :: s))=⟨#[c]⟩:=rfl;rw[e1];have HW:Hid (wrap64 (c.toNat:Int)=c.toNat):=by{have:=kZ c;show wrap64 _=_;unfold wrap64;omega};go_wp2;go_ret;refine⟨?_,aW⟩;show Ending.returned (aj (wrap64 (c.toNat:Int)))=_;rw[af HW]
theorem amq(b:Nat)(br:Bool)(w:World)(h:eO w b [] br) :
  aB 198 #[aM b] w fun e w' =>
   e=.returned (aj 0)/\eO w' b [] true/\dF b w w'/\w'.heap.size=w.heap.size:=by have HC:=ag (Um b 1 [] br w h ar ae);clear h;go_enter func198,ntmps198;go_wp2_with fail;refine HC.mono ?_;rintro e w1 ⟨rfl,hr,hk,hz⟩;have aW:=ag (bg hr (bg hk hz));clear hr hk hz HC;have e1:aq []=⟨#[]⟩:=rfl;rw[e1];go_wp2;go_ret;exact⟨rfl,aW⟩
def dx:ah->Bool->Nat×ah×Bool
 | [],_=>(0,[],true)
 | c :: s,br=>(c.toNat,s,br)
theorem HY(s:ah)(br:Bool):(dx s br).1<256:=by cases s <;> simp[dx];exact kZ _
theorem zD(s:ah)(br:Bool):(dx s br).2.1.length<=s.length:=by cases s <;> simp[dx]
theorem Fo(b:Nat)(s:ah)(br:Bool)(w:World)(h:eO w b s br)(hl:s.length<=1000000000) :
  aB 198 #[aM b] w fun e w' =>
   e=.returned (aj (dx s br).1)/\eO w' b (dx s br).2.1 (dx s br).2.2/\dF b w w'/\w'.heap.size=w.heap.size:=by
 cases s with
 | nil=>exact amq b br w h
 | cons c s=>exact amp b c s br w h (by simp at hl;omega)
theorem KO(a b:Nat)(ha:a<9223372036854775808)(hb:b<9223372036854775808):bits .or .i64 (a:Int) (b:Int)=((a ||| b:Nat):Int):=by
 have hx:a ||| b<2 ^ 63:=J_ ae ae
 show IntKind.i64.wrap ((BitVec.ofInt 64 (a:Int) ||| BitVec.ofInt 64 (b:Int)).toNat:Int)=_;rw[BitVec.toNat_or,ofInt_u64 a ae,ofInt_u64 b ae];generalize a ||| b=x at *
 rw[fF];first|omega|(unfold wrap64;omega)
theorem amr(a b:Nat)(ha:a<256)(hb:b<256):bits .or .i64 ((a:Int)*256) b=((a*256+b:Nat):Int):=by have e:((a:Int)*256)=((a*256:Nat):Int):=ae;rw[e,KO _ _ ae ae,<- Nat.shiftLeft_eq a 8,Nat.shiftLeft_add_eq_or_of_lt ae]
def dI(s:ah)(br:Bool):Nat×ah×Bool :=
 let x:=dx s br
 let y:=dx x.2.1 x.2.2
 (x.1*256+y.1,y.2.1,y.2.2)
theorem C3(b:Nat)(s:ah)(br:Bool)(w:World)(h:eO w b s br)(hl:s.length<=1000000000) :
  aB 129 #[aM b] w fun e w' =>
   e=.returned (aj (dI s br).1)/\eO w' b (dI s br).2.1 (dI s br).2.2/\dF b w w'/\w'.heap.size=w.heap.size:=by have HC:=ag (Fo b s br w h hl);have ej:=ag (zD s br);have h1:=HY s br;have bf:Hid (dI s br=((dx s br).1*256+(dx (dx s br).2.1 (dx s br).2.2).1,(dx (dx s br).2.1 (dx s br).2.2).2.1,(dx (dx s br).2.1 (dx s br).2.2).2.2)):=rfl;generalize dx s br=x at *;obtain⟨n1,s1,b1⟩:=x;simp only at HC ej h1 bf;clear h;go_enter func129,ntmps129;go_wp2_with fail;refine HC.mono ?_;rintro e w1 ⟨rfl,hr,hk,hz⟩;have HD:=ag (Fo b s1 b1 w1 hr (a_ (af ej) hl));have aW:=ag (bg hk hz);have h2:=HY s1 b1;generalize dx s1 b1=y at *;obtain⟨n2,s2,b2⟩:=y;simp only at HD h2 bf;clear hr hk hz HC;go_wp2_with fail;refine HD.mono ?_;rintro e w2 ⟨rfl,hr,hk,hz⟩;have HG:=ag (bg hr (bg (OL aW.1 hk) (hz.trans aW.2)));clear hr hk hz HD aW;go_wp2;go_ret;rw[af bf];refine⟨?_,HG⟩;show Ending.returned (aj (bits .or .i64 ((n1:Int)*256) n2))=.returned (aj ((n1*256+n2:Nat):Int));rw[amr n1 n2 h1 h2]
def mK(w:World)(base:Nat)(v:Value)(ls:List ah):Prop:=w.ownsRow base 9 1 v ls.length (ls.map fun l=>ay l)/\(v=aH ↔ ls = [])
theorem HZ:(prog.info? 9).map (fun i=>(i.zero,i.size,i.bytes))=some (some (.string ⟨#[]⟩),1,16):=aI
theorem OQ:prog.underlying 49=some (.slice 9):=aI
def fY(s:ah)(br:Bool)(n:Nat):ah×ah×Bool:=if n<=s.length then(s.take n,s.drop n,br)else([],[],true)
theorem abv(s:ah)(br:Bool)(n:Nat):(fY s br n).2.1.length<=s.length:=by unfold fY;split <;> simp
theorem ams(b n:Nat)(s:ah)(br:Bool)(w:World)(h:eO w b s br)(hn:n<=1000000000)(hl:s.length<=1000000000) :
  aB 148 #[aM b,aj n] w fun e w' =>
   e=.returned (ay (fY s br n).1)/\eO w' b (fY s br n).2.1 (fY s br n).2.2/\dF b w w'/\w'.heap.size=w.heap.size:=by by_cases hc:n<=s.length;{unfold fY;rw[aJ hc];exact Ul b n s br w h hc hl};{unfold fY;rw[aF hc];exact Um b n s br w h ae hn}
def nu:Nat->Nat->ah->Bool->Nat->List ah->List ah×ah×Bool
 | 0,_,s,br,_,acc=>(acc,s,br)
 | f+1,n,s,br,size,acc =>
  if n=0 then(acc,s,br)
  else if 63<n\/255<size+1+n then([],s,true)
  else nu f (dx (fY s br n).2.1 (fY s br n).2.2).1 (dx (fY s br n).2.1 (fY s br n).2.2).2.1 (dx (fY s br n).2.1 (fY s br n).2.2).2.2 (size+1+n) (acc++[(fY s br n).1])
def tJ(s:ah)(br:Bool):List ah×ah×Bool:=nu 256 (dx s br).1 (dx s br).2.1 (dx s br).2.2 1 []
theorem amt{d:Nat}{w A C:World}{row:Option Nat}(h:dF d w A)(hg:A.grownBy C row)(hr:∀k,row=some k->w.heap.size<=k):dF d w C :=
 ⟨hg.os.trans h.os,hg.tape.trans h.tape,hg.output.trans h.output,a_ h.size hg.size,
  fun k hk hd=>(hg.block k (dP hk h.size) (fun e=>by have:=hr k e.symm;omega)).trans (h.block k hk hd)⟩
theorem amu{d:Nat}{w A:World}(h:dF d w A)(o:Obj):dF d w (A.alloc o) :=
 ⟨h.os,h.tape,h.output,a_ h.size ar,fun k hk hd=>(cD _ _ _ (dP hk h.size)).trans (h.block k hk hd)⟩
theorem abw{w w':World}{base d:Nat}{t:TypeId}{sz n:Nat}{v:Value}{xs:List Value}(h:w.ownsRow base t sz v n xs)(hk:dF d w w')(hd:d<base):w'.ownsRow base t sz v n xs:=by obtain⟨h1,h2⟩:=h;refine⟨h1,?_⟩;rcases h2 with h2|⟨g,cap,cur,rfl,hb,aZ,hr⟩;{exact .inl h2};{exact .inr ⟨g,cap,cur,rfl,hb,(hk.block g (bV.1 aZ).1 ae).trans aZ,hr⟩}
theorem amv(b:Nat)(s:ah)(br:Bool)(w:World)(h:eO w b s br)(hl:s.length<=1000000000) :
  aB 201 #[aM b] w fun e w' =>
   ∃v,e=.returned v/\mK w' w.heap.size v (tJ s br).1/\eO w' b (tJ s br).2.1 (tJ s br).2.2/\dF b w w':=by
 have ij:=h.lt;have HC:=ag (Fo b s br w h hl);have ej:=ag (a_ (zD s br) hl);have dm:=ag (HY s br);have bf:Hid (tJ s br=nu 256 (dx s br).1 (dx s br).2.1 (dx s br).2.2 1 []):=rfl;generalize dx s br=x at *;obtain⟨n0,s0,amw⟩:=x;simp only at HC ej dm bf;clear h hl;generalize tJ s br=R at *;go_enter func201,ntmps201;go_wp2_with fail;refine HC.mono ?_;rintro e w1 ⟨rfl,hr1,kO,hz1⟩;have nw:=ag hr1;have amx:=ag kO;clear hr1 kO HC;go_wp2_with fail;go_loopw [3,4,5] (fun v sz n wr=>∃(f size k:Nat) (t:ah) (bt:Bool) (acc:List ah),sz=aj size/\n=aj k/\k<256/\size<=255/\256<=f+size/\0<f/\t.length<=1000000000/\acc.length<=size/\eO wr b t bt/\mK wr w.heap.size v acc/\dF b w wr/\R=nu f k t bt size acc) (fun _ sz _ _=>256 - (intOf sz).toNat);case atStart=>exact⟨256,1,n0,s0,amw,[],rfl,rfl,dm,ae,ae,ae,ej,ar,nw,⟨ia _ _ _ _,ar⟩,amx,bf⟩
 case round =>(
 obtain⟨f,size,k,t,bt,acc,rfl,rfl,hk,hsize,hf,hf0,kL,uK,wK,hown,tK,hR⟩:=hrel;have zF:=ag wK;have HO:=ag hown;have tL:=ag tK;have bC:=ag hR;have hfz:=wK.frozen;have hc1:=wK.cells.2;have hsz:=tK.size;clear wK hown tK hR;obtain⟨f,rfl⟩:∃g,f=g+1:=⟨f - 1,ae⟩;by_cases h0:k=0;{
 subst h0;have aW:Hid (R=(acc,t,bt)):=by rw[Hid,af bC];simp[nu]
 clear bC;go_wp2;go_ret;rw[af aW];exact⟨_,rfl,HO,zF,tL⟩};{
 by_cases uS:63<k\/255<size+1+k;{
 have aW:Hid (R=([],t,true)):=by rw[Hid,af bC,nu,aF h0,aJ uS]
 clear bC;have nT:0<k:=ae;by_cases h63:63<k;{go_wp2;go_ret;rw[af aW];exact⟨_,rfl,⟨ia _ _ _ _,ar⟩,zF.set1 _,KN (af tL) _ _⟩};{have gS:255<size+1+k:=ae;go_wp2;go_ret;rw[af aW];exact⟨_,rfl,⟨ia _ _ _ _,ar⟩,zF.set1 _,KN (af tL) _ _⟩}};{
 have nT:0<k:=ae;have h63:¬63<k:=ae;have gS:¬255<size+1+k:=ae;have aW:Hid (R=nu f (dx (fY t bt k).2.1 (fY t bt k).2.2).1 (dx (fY t bt k).2.1 (fY t bt k).2.2).2.1 (dx (fY t bt k).2.1 (fY t bt k).2.2).2.2 (size+1+k) (acc++[(fY t bt k).1])):=by{rw[Hid,af bC,nu,aF h0,aF uS]};have cS:=ag (ams b k t bt wr (af zF) ae kL);have H0:=ag (a_ (abv t bt k) kL);generalize fY t bt k=y at *;obtain⟨t1,t2,KP⟩:=y;simp only at aW cS H0;obtain⟨i0,ax,hz0,amy,hz2⟩:=kJ HZ;clear bC;go_wp2_with fail;refine cS.mono ?_;rintro e w2 ⟨rfl,hr2,hk2,hs2⟩;have gv:=ag (abw HO.1 hk2 ij);have Un:=ag hr2;have Fp:=ag (OL (af tL) hk2);have jQ:=ag hs2;clear hr2 hk2 hs2 cS;go_wp2_with (at_builtin;go_loud (refine N3 _ rfl (.tmp 25) (.tmp 29) 49 rfl w.heap.size 9 i0 (.string ⟨#[]⟩) 1 16 OQ ax hz0 amy hz2 rfl bD _ acc.length _ rfl (gv.alloc _) (ak w2.heap.size 0) 1 1 [ay t1] rfl rfl ?aC ?c2 ?c3 ?aV ?gh ?_));case aC =>(
 intro j u hj;match j,hj with
 | 0,hj=>simp at hj;subst hj;simp[Addr.add]
 | n+1,hj=>simp at hj)
 case c2=>intro u hu;simp at hu;subst hu;rfl
 case c3=>unfold maxLen;omega
 case aV=>omega
 case gh=>have:=af jQ;simp;omega
 intro v' w3 hown' hgrow hnil;have eE:Hid (mK w3 w.heap.size v' (acc++[t1])):=by{refine⟨?_,fun h=>absurd h hnil,fun h=>by simp at h⟩;rw[bj,gJ];exact hown'};have amz:Hid (dF b w w3):=amt (amu (af Fp) _) hgrow fun k' gF=>(gv.lt k' gF).1;have OS:Hid (eO w3 b t2 KP):=by{have hlt:=Un.lt;refine(hgrow.block b aP ?_).trans ((cD _ _ _ hlt).trans Un);intro e;have:=(gv.lt b e.symm).1;omega};have HC:=ag (Fo b t2 KP w3 (af OS) (af H0));have H2:=ag (a_ (zD t2 KP) (af H0));have wL:=ag (HY t2 KP);generalize dx t2 KP=z at *;obtain⟨n4,t4,amA⟩:=z;simp only at HC H2 wL aW;clear hown' hgrow hnil OS Un gv Fp;go_wp2_with fail;refine HC.mono ?_;rintro e w4 ⟨rfl,hr4,hk4,gj⟩;have x8:=ag hr4;have amB:=ag (OL (af amz) hk4);have KL:Hid (mK w4 w.heap.size v' (acc++[t1])):=⟨abw eE.1 hk4 ij,eE.2⟩;clear hr4 hk4 gj HC;go_wp2_with fail;go_roundw;case rel=>exact⟨f,size+1+k,n4,t4,amA,acc++[t1],bW,rfl,wL,ae,ae,ae,H2,aP,x8,KL,amB,aW⟩
 case measure=>simp[intOf];omega}})
def Bd(c:UInt8)(s:ah)(i f:Nat)(L:List ah):Prop:=(i<=s.length/\f<=i/\c ∉ (s.drop f).take (i - f)/\az c s=L++az c (s.drop f))\/(i=s.length+1/\L=az c s)
section
variable {c:UInt8} {s:ah} {i f:Nat} {L:List ah}
theorem Bd.OT(h:Bd c s i f L)(ax:i<=s.length):f<=i/\c ∉ (s.drop f).take (i - f)/\az c s=L++az c (s.drop f):=by rcases h with h|h;{exact h.2};{omega}
theorem amC(h:Bd c s s.length f L):Bd c s (s.length+1) (s.length+1) (L++[(s.drop f).take (s.length - f)]):=by obtain⟨h1,h2,h3⟩:=h.OT aA;have e:(s.drop f).take (s.length - f)=s.drop f:=pd ar;rw[e]at h2 ⊢;exact .inr ⟨rfl,by rw[h3,AK c _ h2]⟩
theorem amD(h:Bd c s i f L)(ax:i<s.length)(hc:s[i]=c):Bd c s (i+1) (i+1) (L++[(s.drop f).take (i - f)]):=by
 obtain⟨h1,h2,h3⟩:=h.OT ae;refine .inl ⟨ae,bH _,ar,?_⟩;have e:s.drop f=(s.drop f).take (i - f)++c :: s.drop (i+1):=by{have:=(j9 (i - f) (s.drop f)).symm;rw[rF,show f+(i - f)=i by omega,ko ax,hc]at this;exact this};rw[h3];conv=>lhs;rw[e,AL c _ _ h2]
 simp
theorem amE(h:Bd c s i f L)(ax:i<s.length)(hc:s[i]≠c):Bd c s (i+1) f L:=by obtain⟨h1,h2,h3⟩:=h.OT ae;refine .inl ⟨ae,ae,?_,h3⟩;have e:(s.drop f).take (i+1 - f)=(s.drop f).take (i - f)++[s[i]]:=by{rw[show i+1 - f=i - f+1 by omega,gp aP,Cw];simp only[show f+(i - f)=i by omega]};rw[e,gm];rintro(h|h);{exact h2 h};{simp at h;exact hc h.symm}
end
theorem KQ(s:ah)(i j:Nat):(aq s).extract i j=aq ((s.drop i).take (j - i)):=by
 have ext:∀ {a b:ByteArray},a.data=b.data->a=b:=fun {a b} h=>by cases a;cases b;exact dE _ h
 apply ext;apply Array.ext';simp[aq,NH,List.extract_eq_take_drop]
theorem H3(s:ah)(c:UInt8)(w:World)(hl:s.length<=2000000) :
  aB 62 #[ay s,.int .u8 c.toNat] w fun e w'=>(∃v,e=.returned v/\mK w' w.heap.size v (az c s))/\au w w':=by
 obtain⟨i0,lQ,hz0,hz1,hz2⟩:=kJ HZ;have hs:(aq s).size=s.length:=bJ s;go_enter func62,ntmps62;go_wp2_with fail;go_loopw [5,6,7] (fun v vf vi wr=>∃(i f:Nat) (L:List ah),vi=aj i/\vf=aj f/\i<=s.length+1/\f<=s.length+1/\L.length<=i/\Bd c s i f L/\wr.ownsRow w.heap.size 9 1 v L.length (L.map fun l=>ay l)/\(v=aH ↔ L = [])/\au w wr) (fun _ _ i _=>s.length+1 - (intOf i).toNat);case atStart=>exact⟨0,0,[],rfl,rfl,ae,ae,ar,.inl ⟨ae,ae,ar,rfl⟩,ia _ _ _ _,ar,bR _ _⟩
 case round =>(
 obtain⟨i,f,L,rfl,rfl,ax,hf,azi,hat,hown,hnil,hb⟩:=hrel;have nV:=ag hat;have HO:=ag (bg hown (bg hnil hb));have bX:=hb.size;clear hat hown hnil hb;by_cases hlt:i<=s.length;{
 have gy:(i:Int)<=(s.length:Int):=ae;obtain⟨h1,_,_⟩:=nV.OT hlt;have cu:=ag (KQ s f i);by_cases he:i=s.length;{
 have abx:((i:Int) == (s.length:Int))=true:=by rw[fe];omega
 have bf:=ag he;clear he;go_wp2_with (at_builtin;go_loud (refine CH _ rfl (.tmp 25) (.tmp 30) 49 rfl w.heap.size 9 i0 (.string ⟨#[]⟩) 1 16 OQ lQ hz0 hz1 hz2 rfl bD _ L.length _ rfl (HO.1.alloc _) (ak wr.heap.size 0) 1 1 [.string ((aq s).extract f i)] rfl rfl (N4 _ _ _) (fun u hu=>by simp at hu;subst hu;rfl) (by unfold maxLen;omega) ae aP ?_));intro v' w3 hown' hgrow x9 _;have eE:Hid (w3.ownsRow w.heap.size 9 1 v' (L++[(s.drop f).take (i - f)]).length ((L++[(s.drop f).take (i - f)]).map fun l=>ay l)/\(v'=aH ↔ L++[(s.drop f).take (i - f)] = [])/\au w w3):=by{rw[Hid,bj,gJ];refine⟨by rw[af cu]at hown';exact hown',⟨fun h=>absurd h (by simpa using x9),fun h=>by simp at h⟩,?_⟩;have hB:=HO.2.2;exact(hB.alloc bX _).trans ⟨hgrow.os,hgrow.tape,hgrow.output,hgrow.size,fun k hk=>hgrow.block k aP (fun e=>by have:=(iW HO.1 k e.symm).1;omega)⟩};clear hown' hgrow x9;go_wp2_with fail;obtain⟨k1,k2,k3⟩:=af eE;exact⟨⟨i+1,i+1,_,bW,bW,ae,ae,aP,by have h:=af nV;rw[af bf]at h ⊢; exact amC h,k1,k2,k3⟩,c5⟩};{
 have abx:((i:Int) == (s.length:Int))=false:=by rw[d_];omega
 have hlt2:i<s.length:=ae;obtain⟨x,hx⟩:=bF (s[i]);have g1:∀h:i<(aq s).size,(aq s)[i]=x:=fun h=>hx.symm;have zG:=ag hx;clear he hx;by_cases hc:x=c;{
 have xY:((x.toNat:Int) == (c.toNat:Int))=true:=by rw[hc];simp
 have HC:=ag hc;clear hc;go_wp2_with (at_builtin;go_loud (refine CH _ rfl (.tmp 25) (.tmp 30) 49 rfl w.heap.size 9 i0 (.string ⟨#[]⟩) 1 16 OQ lQ hz0 hz1 hz2 rfl bD _ L.length _ rfl (HO.1.alloc _) (ak wr.heap.size 0) 1 1 [.string ((aq s).extract f i)] rfl rfl (N4 _ _ _) (fun u hu=>by simp at hu;subst hu;rfl) (by unfold maxLen;omega) ae aP ?_));intro v' w3 hown' hgrow x9 _;have eE:Hid (w3.ownsRow w.heap.size 9 1 v' (L++[(s.drop f).take (i - f)]).length ((L++[(s.drop f).take (i - f)]).map fun l=>ay l)/\(v'=aH ↔ L++[(s.drop f).take (i - f)] = [])/\au w w3):=by{rw[Hid,bj,gJ];refine⟨by rw[af cu]at hown';exact hown',⟨fun h=>absurd h (by simpa using x9),fun h=>by simp at h⟩,?_⟩;have hB:=HO.2.2;exact(hB.alloc bX _).trans ⟨hgrow.os,hgrow.tape,hgrow.output,hgrow.size,fun k hk=>hgrow.block k aP (fun e=>by have:=(iW HO.1 k e.symm).1;omega)⟩};clear hown' hgrow x9;go_wp2_with fail;obtain⟨k1,k2,k3⟩:=af eE;exact⟨⟨i+1,i+1,_,bW,bW,ae,ae,aP,amD (af nV) hlt2 (zG.symm.trans HC),k1,k2,k3⟩,c5⟩};{have xY:((x.toNat:Int) == (c.toNat:Int))=false:=by{rw[d_];intro h;exact hc (CG.1 ae)};have HC:=ag hc;clear hc;go_wp2_with fail;obtain⟨k1,k2,k3⟩:=af HO;exact⟨⟨i+1,f,L,bW,rfl,ae,ae,ae,amE (af nV) hlt2 (fun h=>af HC (zG.trans h)),k1,k2,k3⟩,c5⟩}}};{have gy:¬(i:Int)<=(s.length:Int):=ae;go_wp2;go_ret;obtain⟨k1,k2,k3⟩:=af HO;rcases af nV with h|⟨_,h⟩;{omega};{rw[<- h];exact⟨⟨_,rfl,k1,k2⟩,k3⟩}})
theorem aby(s:ah)(k:Nat)(h:k<s.length):s.take (k+1)=s.take k++[s[k]]:=gp h
theorem amF(x:UInt8):(rM x=true/\((97<=(x.toNat:Int)/\(x.toNat:Int)<=122)\/(48<=(x.toNat:Int)/\(x.toNat:Int)<=57)\/(x.toNat:Int)=45\/(x.toNat:Int)=95)) \/
  (rM x=false/\(((x.toNat:Int)<45)\/(45<(x.toNat:Int)/\(x.toNat:Int)<48)\/(57<(x.toNat:Int)/\(x.toNat:Int)<95)\/((x.toNat:Int)=96)\/(122<(x.toNat:Int)))):=by unfold rM N6;generalize (x.toNat:Int)=n;by_cases h1:97<=n/\n<=122;{left;simp[h1]};by_cases h2:48<=n/\n<=57;{left;simp[h2]};by_cases h3:n=45;{left;simp[h3]};by_cases h4:n=95;{left;simp[h4]};right;refine⟨?_,ae⟩;rw[Bool.eq_false_iff];simp only[ne_eq,xK,cY,tj,fe];omega
theorem amG(s:ah)(w:World)(hl:s.length<=2000000) :
  aB 113 #[ay s] w fun e w'=>e=.returned (.bool (jx s))/\w'=w:=by
 have hs:(aq s).size=s.length:=bJ s;go_enter func113,ntmps113;go_wp2_with fail;go_loopw [3] (fun i wr=>∃k:Nat,k<=s.length/\i=aj k/\(s.take k).all rM=true/\wr=w) (fun i _=>s.length - (intOf i).toNat);case atStart=>exact⟨0,cV _,rfl,rfl,rfl⟩
 case round =>(
 obtain⟨k,hk,rfl,hall,rfl⟩:=hrel;have H:=ag hall;clear hall;by_cases hlt:k<s.length;{
 have gy:(k:Int)<(s.length:Int):=ae;have wu:=ag (aby s k hlt);obtain⟨x,hx⟩:=bF (s[k]);have g1:∀h:k<(aq s).size,(aq s)[k]=x:=fun h=>hx.symm;have cu:=ag hx;clear hx;rcases amF x with⟨hb,h⟩|⟨hb,h⟩;{
 have HS:=ag hb;clear hb;have fin:∀v:Value,v=aj ((k:Int)+1)->∃k':Nat,k'<=s.length/\v=aj k'/\(s.take k').all rM=true:=fun v hv=>⟨k+1,ae,by rw[hv];go_num,by rw[af wu,EN,af H,<- af cu];simp[af HS]⟩;have fX:=ag fin;clear fin;rcases h with h|h|h|h;case' inr.inr.inl=>have n1:((x.toNat:Int) != 45)=false:=by rw[h];rfl
 case' inr.inr.inr =>(
 have n1:((x.toNat:Int) != 45)=true:=by rw[h];rfl
 have n2:((x.toNat:Int) != 95)=false:=by rw[h];rfl)
 all_goals(go_wp2_with fail;obtain⟨k',k1,k2,k3⟩:=af fX _ rfl;exact⟨⟨k',k1,k2,k3,by first|rfl|trivial⟩,c5⟩)};{
 have HS:=ag hb;clear hb;have n1:((x.toNat:Int) != 45)=true:=by rw[qJ];omega
 have n2:((x.toNat:Int) != 95)=true:=by rw[qJ];omega
 rcases h with h|h|h|h|h;all_goals(go_wp2;go_ret;refine⟨cA ?_,rfl⟩;have hmem:s[k]∈s:=cM hlt;symm;unfold jx;rw[EJ];right;rw[Hp];exact⟨_,hmem,by rw[<- af cu,af HS];simp⟩)}};{have gy:¬(k:Int)<(s.length:Int):=ae;have ng:k=s.length:=ae;have hfull:=af H;rw[ng,gV]at hfull;have aW:=ag hfull;clear hfull;by_cases z1:(0:Int)<(s.length:Int);{by_cases z2:(s.length:Int)<=20;{go_wp2;go_ret;refine⟨cA ?_,rfl⟩;unfold jx;rw[af aW];simp;omega};{go_wp2;go_ret;refine⟨cA ?_,rfl⟩;unfold jx;rw[af aW];simp;omega}};{go_wp2;go_ret;refine⟨cA ?_,rfl⟩;unfold jx;rw[af aW];simp;omega}})
def mL:Nat->ah->Option Nat
 | n,[]=>some n
 | n,c :: r=>if rN c.toNat then mL (10*n+(c.toNat - 48)) r else none
theorem Uo:∀(l:ah) (n v:Nat),mL n l=some v->n*10 ^ l.length<=v
 | [],n,v,h=>by simp[mL]at h;simp[h]
 | c :: r,n,v,h=>by
  unfold mL at h;split at h
  ·have:=Uo r _ v h;rw[bP,Nat.pow_succ]
   calc n*(10 ^ r.length*10)=(10*n)*10 ^ r.length:=by rw[CE (10 ^ r.length) 10,<- Nat.mul_assoc,CE n 10]
    _<=(10*n+(c.toNat - 48))*10 ^ r.length:=ES _ ae
    _<=v:=this
  ·cases h
theorem Uq(most:Nat):∀(l:ah) (n:Nat),n<=most->nS most n l=(match mL n l with
  | some v=>if v<=most then some v else none
  | none=>none)
 | [],n,hn=>by simp[nS,mL,hn]
 | c :: r,n,hn=>by
  unfold nS mL;split;{
  split;{exact Uq most r _ ‹_›};{
  rename_i Ff;cases hd:mL (10*n+(c.toNat - 48)) r with
  | none=>rfl
  | some v =>{have:=Uo r _ v hd;have h1:1<=10 ^ r.length:=Nat.one_le_pow _ _ ae;have:10*n+(c.toNat - 48)<=v:=a_ (Nat.le_mul_of_pos_right _ ae) this;simp;omega}}};{rfl}
def qW(s:ah):Option Nat:=if 1<=s.length/\s.length<=10/\¬(s.head? = some 48/\1<s.length)then mL 0 s else none
theorem abz(most:Nat)(hm:most<10000000000)(s:ah):tq most s=(match qW s with
  | some v=>if v<=most then some v else none
  | none=>none):=by
 unfold qW;cases s with
 | nil=>simp[tq]
 | cons c r =>
  show(if c.toNat=48/\r≠[]then none else nS most 0 (c :: r))=_;by_cases hz:c.toNat=48/\r≠[]
  ·have hc:c=48:=CG.1 hz.1;have hr:1<(c :: r).length:=by
    rcases r with _|⟨x,t⟩
    ·exact absurd rfl hz.2
    ·simp
   rw[aJ hz,aF (fun h=>h.2.2 ⟨by rw[hc];rfl,hr⟩)]
  ·rw[aF hz];have hnz:¬((c :: r).head? = some 48/\1<(c :: r).length):=by
    rintro⟨h1,h2⟩;refine hz ⟨?_,?_⟩
    ·have:c=48:=by simpa using h1
     rw[this];rfl
    ·rintro rfl;simp at h2
   by_cases hl:(c :: r).length<=10
   ·rw[aJ ⟨ar,hl,hnz⟩];exact Uq most _ 0 (cV _)
   ·rw[aF (fun h=>hl h.2.1),Uq most _ 0 (cV _)];cases hd:mL 0 (c :: r)with
    | none=>rfl
    | some v =>
     unfold mL at hd;split at hd
     ·rename_i abA;have:=Uo r _ v hd;have abB:10<=r.length:=by simp at hl;omega
      have hp:10000000000<=10 ^ r.length:=by
       calc 10000000000=10 ^ 10:=rfl
        _<=10 ^ r.length:=Nat.pow_le_pow_right ae abB
      have hc:1<=c.toNat - 48:=by
       unfold rN at abA;simp at abA;have:c.toNat≠48:=fun h=>hz ⟨h,by rintro rfl;simp at abB⟩;omega
      have:10 ^ r.length<=v:=a_ (by
       calc 10 ^ r.length=1*10 ^ r.length:=(NY _).symm
        _<=(10*0+(c.toNat - 48))*10 ^ r.length:=ES _ ae) this
      simp;omega
     ·cases hd
theorem OU(most:Nat)(hm:most<10000000000)(s:ah):dz most s=(match qW s with
  | some v=>decide (v<=most)
  | none=>false):=by
 unfold dz;rw[abz most hm];cases qW s with
 | none=>rfl
 | some v=>by_cases h:v<=most <;> simp[h]
theorem Ur(most:Nat)(hm:most<10000000000)(s:ah)(v:Nat)(h:qW s=some v)(hv:v<=most):iY most s=v:=by unfold iY;rw[abz most hm,h];simp[hv]
theorem Fq(s:ah)(most:Nat)(w:World)(hl:s.length<=1000000)(hm:most<10000000000) :
  aB 115 #[ay s,aj most] w fun e w'=>(∃v:Nat,e=.returned (.tuple #[aj v,.bool (dz most s)])/\(dz most s=true->v=iY most s))/\w'=w:=by
 have hs:(aq s).size=s.length:=bJ s;have CP:=ag (OU most hm s);have H4:=ag (Ur most hm s);have none_end:qW s=none->∃v:Nat,Ending.returned (.tuple #[aj 0,.bool false])=.returned (.tuple #[aj v,.bool (dz most s)])/\(dz most s=true->v=iY most s):=fun h=>by{have hb:=af CP;rw[h]at hb;refine⟨0,by rw[hb];rfl,fun h2=>?_⟩;rw[hb]at h2;cases h2};have p2:=ag none_end;clear none_end;by_cases z1:(s.length:Int)<1;{have hf:Hid (qW s=none):=aF (fun h=>ae);go_enter func115,ntmps115;go_wp2;go_ret2;exact⟨af p2 (af hf),rfl⟩};by_cases z2:(10:Int)<(s.length:Int);{have hf:Hid (qW s=none):=aF (fun h=>ae);go_enter func115,ntmps115;go_wp2;go_ret2;exact⟨af p2 (af hf),rfl⟩};have h0:0<s.length:=ae;obtain⟨x0,hx0⟩:∃x,x=s[0]:=⟨_,rfl⟩;have g0:∀h:0<(aq s).size,(aq s)[0]=x0:=fun h=>hx0.symm;have OV:s.head? = some x0:=by rw[hx0,List.head?_eq_getElem?,iw h0]
 by_cases z3:(x0.toNat:Int)=48/\(1:Int)<(s.length:Int);{have hf:Hid (qW s=none):=aF (fun h=>h.2.2 ⟨by rw[OV];exact dE some (CG.1 (by show x0.toNat=48;omega)),ae⟩);obtain⟨y1,y2⟩:=z3;clear OV hx0;go_enter func115,ntmps115;go_wp2;go_ret2;exact⟨af p2 (af hf),rfl⟩};have hf:Hid (qW s=mL 0 s):=aJ ⟨ae,ae,fun h=>z3 ⟨by{
 have h1:=h.1;rw[OV]at h1;have:x0=48:=by simpa using h1
 rw[this];rfl},ae⟩⟩
 have z4:((x0.toNat:Int)=48/\(s.length:Int)<=1)\/¬(x0.toNat:Int)=48:=ae;clear z3 OV hx0;rcases z4 with⟨y1,y2⟩|y1;all_goals(
 go_enter func115,ntmps115;go_wp2_with fail;go_loopw [6,7] (fun vn vi wr=>∃k m:Nat,k<=s.length/\vi=aj k/\vn=aj m/\m<10 ^ k/\mL m (s.drop k)=mL 0 s/\wr=w) (fun _ i _=>s.length - (intOf i).toNat);case atStart=>exact⟨0,0,cV _,rfl,rfl,ar,by rw[Aw],rfl⟩
 case round =>(
 obtain⟨k,m,hk,rfl,rfl,hmk,hd,rfl⟩:=hrel;have amH:10 ^ k<=10 ^ 10:=Nat.pow_le_pow_right ae ae;have amI:(10:Nat) ^ 10=10000000000:=rfl;have Us:m<10000000000:=ae;clear amH amI;have HD:=ag hd;have uG:=ag hmk;clear hd hmk g0;by_cases hlt:k<s.length;{
 have gy:(k:Int)<(s.length:Int):=ae;obtain⟨x,hx⟩:=bF (s[k]);have g1:∀h:k<(aq s).size,(aq s)[k]=x:=fun h=>hx.symm;have HC:Hid (s.drop k=x :: s.drop (k+1)):=by rw[Hid,hx];exact ko hlt
 clear hx;by_cases aC:(x.toNat:Int)<48;{have hn:Hid (qW s=none):=by{rw[Hid,af hf,<- af HD,af HC,mL,aF (by unfold rN;simp;omega)]};go_wp2;go_ret2;exact⟨af p2 (af hn),rfl⟩};by_cases c2:(57:Int)<(x.toNat:Int);{have hn:Hid (qW s=none):=by{rw[Hid,af hf,<- af HD,af HC,mL,aF (by unfold rN;simp;omega)]};go_wp2;go_ret2;exact⟨af p2 (af hn),rfl⟩};have amJ:IntKind.u8.wrap ((x.toNat:Int) - 48)=((x.toNat - 48:Nat):Int):=by rw[AB];omega
 have dm:Hid (mL (10*m+(x.toNat - 48)) (s.drop (k+1))=mL 0 s):=by{rw[Hid,<- af HD,af HC,mL,aJ (by unfold rN;simp;omega)]};have tM:Hid (10*m+(x.toNat - 48)<10 ^ (k+1)):=by{have:=af uG;rw[Hid,Nat.pow_succ];omega};have gR:Hid ((10:Int)*(m:Int)+((x.toNat:Int) - 48)=((10*m+(x.toNat - 48):Nat):Int)):=by rw[Hid];omega
 go_wp2_with fail;refine⟨⟨k+1,10*m+(x.toNat - 48),ae,bW,?_,tM,dm,by first|rfl|trivial⟩,c5⟩;first|exact dE (Value.int .i64) (af gR)|exact dE (Value.int .i64) ae|(rw[<- af gR])|trace_state};{have gy:¬(k:Int)<(s.length:Int):=ae;have ng:k=s.length:=ae;have hfr:qW s=some m:=by{have:=af HD;rw[ng,vU]at this;rw[af hf,<- this];rfl};have nU:=ag hfr;have hb:=af CP;rw[hfr]at hb;have hv:=af H4 m hfr;have aX:=ag hb;have gR:=ag hv;clear hb hv hfr;go_wp2_with fail;all_goals(go_ret2;refine⟨⟨m,by rw[af aX];first|rfl|simp[*],fun h=>?_⟩,rfl⟩;have h1:=af aX;rw[h]at h1;exact(gR (by simpa using h1.symm)).symm)}))
theorem amK(s:ah)(w:World) :
  aB 114 #[ay s] w fun e w'=>e=.returned (aj (gL s))/\w'=w:=by go_enter func114,ntmps114;go_wp2;all_goals(go_ret;refine⟨EY ?_,rfl⟩;unfold gL;simp only[nQ,tA,fe,d_,ne_eq]at *;simp[*])
def wM(star:Bool)(i:Nat)(l:ah):Bool:=jx l || (i == 0 && l == [42] && star)
def lu(star:Bool):Nat->List ah->Bool
 | _,[]=>true
 | i,h :: t=>wM star i h && lu star (i+1) t
theorem abC(star:Bool)(x:ah):∀(l:List ah) (i:Nat),lu star i (l++[x])=(lu star i l && wM star (i+l.length) x)
 | [],i=>by simp[lu]
 | h :: t,i=>by rw[fU,lu,abC star x t (i+1),lu,bP,Bool.and_assoc,show i+1+t.length=i+(t.length+1) by omega]
theorem abD(star:Bool):∀(l:List ah) (i k:Nat) (h:k<l.length),wM star (i+k) l[k]=false->lu star i l=false
 | h :: t,i,0,_,hb=>by rw[lu];simp at hb;rw[hb];rfl
 | h :: t,i,k+1,hk,hb=>by rw[lu,abD star t (i+1) k (by simpa using hk) (by simpa [show i+1+k=i+(k+1) by omega]using hb),JQ]
def gT(star:Bool)(s:ah):Option (List ah):=if s.length<=60/\lu star 0 (az 46 s)=true then some (az 46 s)else none
def fS(w:World)(g off:Nat)(ls:List ah):Prop:=g<w.heap.size/\∀j (h:j<ls.length),w.cell? (ak g (off+j))=some (.string (aq ls[j]))
theorem fS.below{w w':World}{g off:Nat}{ls:List ah}(h:fS w g off ls)(hb:Below w.heap.size w w'):fS w' g off ls :=
 ⟨dP h.1 hb.size,fun j hj=>(hb.cell (p:=⟨g,off+j,none⟩) h.1).trans (h.2 j hj)⟩
def en(w:World)(v:Value)(ls:List ah):Prop:=∃g off cap,v=aD g off ls.length cap/\ls.length<=cap/\fS w g off ls
theorem en.below{w w':World}{v:Value}{ls:List ah}(h:en w v ls)(hb:Below w.heap.size w w'):en w' v ls:=by obtain⟨g,off,cap,h1,h2,h3⟩:=h;exact⟨g,off,cap,h1,h2,h3.below hb⟩
theorem zH{w:World}{base:Nat}{v:Value}{ls:List ah}(h:mK w base v ls)(hne:ls≠[]):∃g cap,v=aD g 0 ls.length cap/\ls.length<=cap/\base<=g/\fS w g 0 ls:=by have h0:=h.1;obtain⟨_,⟨_,hz⟩|⟨g,cap,cur,rfl,hb,aZ,hc,_⟩⟩:=h.1;{exact absurd (fp hz) hne};{refine⟨g,cap,rfl,hc,hb,(bV.1 aZ).1,fun j hj=>?_⟩;rw[eY,uy h0 j ae,Cv,iw hj];rfl}
def tN(w:World)(base:Nat)(v:Value)(o:Option (List ah)):Prop:=match o with
 | none=>v=aH
 | some l=>l≠[]/\∃g cap,v=aD g 0 l.length cap/\l.length<=cap/\base<=g/\fS w g 0 l
theorem Ut(x:ah):((aq x).toList == [42])=(x == [42]):=by rw[nQ];rfl
theorem H5(s:ah)(star:Bool)(w:World)(hl:s.length<=2000000) :
  aB 63 #[ay s,.bool star] w fun e w'=>(∃v,e=.returned v/\tN w' w.heap.size v (gT star s))/\Below w.heap.size w w':=by
 have hs:(aq s).size=s.length:=bJ s;by_cases Tu:(60:Int)<(s.length:Int);{have hn:Hid (gT star s=none):=aF (fun h=>ae);go_enter func63,ntmps63;go_wp2;go_ret;rw[af hn];exact⟨⟨_,rfl,rfl⟩,bR _ _⟩};have r8:=ag (H3 s 46 w hl);have hlen:(az 46 s).length<=61:=by have:=pQ 46 s;omega
 have hmem:∀x∈az 46 s,x.length<=60:=fun x hx=>by have:=qK 46 s.length s aA x hx;omega
 have x_:Hid (∀b,lu star 0 (az 46 s)=b->gT star s=if b then some (az 46 s)else none):=fun b hb=>by{unfold gT;rw[hb];cases b;{exact aF (fun h=>by cases h.2)};{exact aJ ⟨ae,rfl⟩}};have r9:=ag hmem;have p2:Hid (az 46 s≠[]):=pP 46 s;clear hmem;generalize az 46 s=L at *;go_enter func63,ntmps63;go_wp2_with fail;refine r8.mono ?_;rintro e w1 ⟨⟨v,rfl,hown⟩,hb1⟩;obtain⟨g,cap,rfl,dt,hbg,fZ⟩:=zH hown (af p2);have HO:=ag (bg hbg (bg fZ hb1));have jq:=fZ.1;clear hown hb1 r8 hbg fZ;go_wp2_with fail;go_loopw [6] (fun i wr=>∃k:Nat,k<=L.length/\i=aj k/\lu star 0 (L.take k)=true/\wr=w1) (fun i _=>L.length - (intOf i).toNat);case atStart=>exact⟨0,cV _,rfl,rfl,rfl⟩
 case round =>(
 obtain⟨k,hk,rfl,hall,rfl⟩:=hrel;have H:=ag hall;clear hall;by_cases hlt:k<L.length;{
 have gy:(k:Int)<(L.length:Int):=ae;have wu:=ag (gp hlt);obtain⟨x,hx⟩:=bF (L[k]);have g_:x.length<=60:=by rw[hx];exact r9 _ (cM hlt)
 have hcell:wr.cell? (ak g k)=some (ay x):=by{have:=HO.2.1.2 k hlt;rw[eY]at this;rw[hx];exact this};have cu:=ag hx;clear hx;have Fs:=ag (fun W=>amG x W ae);have yb:=Ut x;have abE:Hid (wM star k x=true->lu star 0 (L.take (k+1))=true):=fun h=>by{rw[af wu,abC,af H,gD,v_ hk,eY,<- af cu,h];rfl};have amL:Hid (wM star k x=false->gT star s=none):=fun h=>by{have:=abD star L 0 k hlt (by rw[eY,<- af cu];exact h);rw[af x_ false this];rfl};have cF:Hid (wM star k x=(jx x || (k == 0 && x == [42] && star))):=rfl;cases rV:jx x;{have OW:=ag rV;rw[rV]at Fs cF;clear rV;have uS:Hid ((k == 0 && x == [42] && star)=false->∃v,Ending.returned (aH)=.returned v/\tN wr w.heap.size v (gT star s)):=fun h=>by{rw[af amL (by rw[af cF,h];rfl)];exact⟨_,rfl,rfl⟩};by_cases hk0:k=0;{subst hk0;cases hst:(x == [42]);{have HST:=ag hst;rw[hst]at yb;clear hst;go_wp2_with fail;refine(Fs _).mono ?_;rintro e w2 ⟨rfl,rfl⟩;go_wp2;go_ret;exact⟨af uS (by rw[af HST];rfl),HO.2.2⟩};{have HST:=ag hst;rw[hst]at yb;clear hst;cases star;{go_wp2_with fail;refine(Fs _).mono ?_;rintro e w2 ⟨rfl,rfl⟩;go_wp2;go_ret;exact⟨af uS (by rw[af HST];rfl),HO.2.2⟩};{have Fu:=af abE (by rw[af cF,af HST];rfl);have H6:=ag Fu;clear Fu;go_wp2_with fail;refine(Fs _).mono ?_;rintro e w2 ⟨rfl,rfl⟩;go_wp2;exact⟨⟨0+1,ae,by first|rfl|go_num,H6,by first|rfl|trivial⟩,c5⟩}}};{have rR:(0:Int)<(k:Int):=ae;go_wp2_with fail;refine(Fs _).mono ?_;rintro e w2 ⟨rfl,rfl⟩;go_wp2;go_ret;exact⟨af uS (by rw[show(k == 0)=false by simpa using hk0];rfl),HO.2.2⟩}};{rw[rV]at Fs cF;clear rV;have Fu:=af abE (by rw[af cF];rfl);have H6:=ag Fu;clear Fu;go_wp2_with fail;refine(Fs _).mono ?_;rintro e w2 ⟨rfl,rfl⟩;go_wp2;exact⟨⟨k+1,ae,by first|rfl|go_num,H6,by first|rfl|trivial⟩,c5⟩}};{have gy:¬(k:Int)<(L.length:Int):=ae;have ng:k=L.length:=ae;have hfull:=af H;rw[ng,gV]at hfull;have aW:=ag (x_ true hfull);clear hfull;go_wp2;go_ret;rw[af aW];exact⟨⟨_,rfl,p2,g,cap,rfl,dt,HO.1,HO.2.1⟩,HO.2.2⟩})
theorem abF(x y:ah):((aq x).toList == (aq y).toList)=(x == y):=by rw[nQ,nQ];rfl
theorem amM{ls ms:List ah}{k:Nat}(h1:k<ls.length)(h2:k<ms.length)(h:ls.take k=ms.take k)(hx:ls[k]=ms[k]):ls.take (k+1)=ms.take (k+1):=by rw[gp h1,gp h2,h,hx]
theorem yc(v u:Value)(ls ms:List ah)(w:World)(h1:en w v ls)(h2:en w u ms)(hl:ls.length<=1000)(hm:ms.length<=1000) :
  aB 117 #[v,u] w (bQ (.bool (decide (ls=ms))) w):=by
 obtain⟨g,off,cap,rfl,hc1,ye⟩:=h1;obtain⟨g',off',cap',rfl,hc2,Be⟩:=h2;have hg1:=ye.1;have hg2:=Be.1;by_cases hne:ls.length=ms.length;{
 have H7:((ls.length:Int) != (ms.length:Int))=false:=by rw[bne_eq_false_iff_eq];omega
 have kg:=ag ye;have tO:=ag Be;have bf:=ag hne;clear hne ye Be;go_enter func117,ntmps117;go_wp2_with fail;go_loopw [5] (fun i wr=>∃k:Nat,k<=ls.length/\i=aj k/\ls.take k=ms.take k/\au w wr) (fun i _=>ls.length - (intOf i).toNat);case atStart=>exact⟨0,cV _,rfl,rfl,bR _ _⟩
 case round =>(
 obtain⟨k,hk,rfl,heq,hb⟩:=hrel;have dn:=ag heq;have aX:=ag hb;by_cases hlt:k<ls.length;{
 have gy:(k:Int)<(ls.length:Int):=ae;have hlt2:k<ms.length:=by have:=af bf;omega
 have azj:(k:Int)<(ms.length:Int):=ae;have aC:=(kg.below hb).2 k hlt;have c2:=(tO.below hb).2 k hlt2;obtain⟨x,hx⟩:=bF (ls[k]);obtain⟨y,hy⟩:=bF (ms[k]);rw[<- hx]at aC;rw[<- hy]at c2;have yb:=abF x y;have zI:=ag (bg hx hy);clear hx hy heq hb;cases uT:(x == y);{have dm:=ag uT;rw[uT]at yb;clear uT;go_wp2_with fail;go_quiet (fail);go_wp2;go_ret;refine⟨cA ?_,pj (af aX) nq⟩;rw[iB];rintro rfl;have h:=af dm;rw[zI.1,zI.2]at h;simp at h};{have dm:=ag uT;rw[uT]at yb;clear uT;go_wp2_with fail;go_quiet (fail);go_wp2_with fail;refine⟨⟨k+1,ae,bW,amM hlt hlt2 (af dn) ?_,pj (af aX) nq⟩,c5⟩;have h:=af dm;rw[zI.1,zI.2]at h;simpa using h}};{have gy:¬(k:Int)<(ls.length:Int):=ae;have hk2:k=ls.length:=ae;have HM:Hid (ls=ms):=by{have h:=af dn;rw[hk2,gV,af bf,gV]at h;exact h};clear heq hb;go_wp2;go_ret;exact⟨cA (by rw[iy (af HM)]),aX⟩})};{
 have H7:((ls.length:Int) != (ms.length:Int))=true:=by rw[qJ];omega
 go_enter func117,ntmps117;go_wp2;go_ret;exact⟨cA (by rw[iB (fun h=>hne (by rw[h]))]),bR _ _⟩}
def lR(ls ms:List ah):Bool:=decide (ms.length<=ls.length) && decide (ls.drop (ls.length - ms.length)=ms)
theorem OX{w:World}{g off cap:Nat}{ls:List ah}(h:fS w g off ls)(hc:ls.length<=cap)(k:Nat)(hk:k<=ls.length):en w (aD g (off+k) (ls.length - k) (cap - k)) (ls.drop k):=by refine⟨g,off+k,cap - k,by rw[fM],by rw[fM];omega,h.1,fun j hj=>?_⟩;rw[fM]at hj;rw[CB,h.2 (k+j) ae,Cw]
theorem OY(v u:Value)(ls ms:List ah)(w:World)(h1:en w v ls)(h2:en w u ms)(hl:ls.length<=1000)(hm:ms.length<=1000)(f_:0<ms.length) :
  aB 119 #[v,u] w (bQ (.bool (lR ls ms)) w):=by
 have OZ:=ag h2;obtain⟨g,off,cap,rfl,hc1,ye⟩:=h1;obtain⟨g',off',cap',rfl,hc2,_⟩:=h2;have hg1:=ye.1;by_cases hne:ms.length<=ls.length;{
 have H7:¬(ls.length:Int)<(ms.length:Int):=ae;have HS:=ag (yc _ _ _ ms w (OX ye hc1 (ls.length - ms.length) ae) (af OZ) (by rw[fM];omega) hm);have HU:Hid (lR ls ms=decide (ls.drop (ls.length - ms.length)=ms)):=by unfold lR;rw[Hid,iy hne];rfl
 obtain⟨d,hd⟩:=bF (ls.length - ms.length);rw[<- hd]at HS HU;have azk:(ls.length:Int) - (ms.length:Int)=(d:Int):=ae;have kQ:d<=ls.length:=ae;clear ye hd hne;go_enter func119,ntmps119;have KR:¬cap=d:=ae;go_wp2_with fail;refine HS.mono ?_;rintro e w1 ⟨rfl,hb1⟩;go_wp2;go_ret;exact⟨cA HU.symm,hb1⟩};{have H7:(ls.length:Int)<(ms.length:Int):=ae;go_enter func119,ntmps119;go_wp2;go_ret;exact⟨cA (by unfold lR;rw[iB hne];rfl),bR _ _⟩}
def C5:List ah->ah
 | []=>[]
 | [x]=>x
 | x :: y :: t=>x++46 :: C5 (y :: t)
theorem O0(c:ah):C5 (az 46 c)=c:=by
 have key:∀(n:Nat) (c:ah),c.length<=n->C5 (az 46 c)=c:=by{
 intro n;induction n with
 | zero=>intro c h;obtain rfl:c = []:=fp ae;rfl
 | succ n ih =>{
 intro c h;cases c with
 | nil=>rfl
 | cons x r =>{
 have hr:=ih r (by simp at h;omega);unfold az;split;{
 rename_i hx;subst hx;have hne:=pP 46 r;cases hs:az 46 r with
 | nil=>exact absurd hs hne
 | cons a t =>{rw[hs]at hr;rw[C5,hr];rfl}};{
 cases hs:az 46 r with
 | nil=>exact absurd hs (pP 46 r)
 | cons a t =>{
 rw[hs]at hr;cases t with
 | nil=>simp only[C5]at hr ⊢; rw[hr]
 | cons b t=>simp only[C5]at hr ⊢; rw[fU,hr]}}}}};exact key c.length c aA
theorem abG:∀(l:List ah) (i:Nat),lu true i l=tu i l
 | [],_=>rfl
 | h :: t,i=>by rw[lu,tu,abG t (i+1)];unfold wM zi;rw[Sx]
theorem abH:∀(l:List ah) (i:Nat),lu false i l=l.all jx
 | [],_=>rfl
 | h :: t,i=>by rw[lu,abH t (i+1)];unfold wM;rw[JQ,Sy,Ct]
theorem abI:∀(l:List ah) (i:Nat),0<i->tu i l=l.all jx
 | [],_,_=>rfl
 | h :: t,i,ax=>by rw[tu,abI t (i+1) ae,Ct];unfold zi;rw[show(i == 0)=false by simp;omega];simp
theorem KS(s:ah):(gT true s).isSome=iC s:=by unfold gT iC;rw[abG];by_cases h1:s.length<=60 <;> cases h2:tu 0 (az 46 s) <;> simp[h1]
theorem O1{a:ah}{t:List ah}{s:ah}(h:az 46 s=a :: t)(ha:a≠[]):s.head? = a.head?:=by
 have:=O0 s;rw[h]at this;rw[<- this];cases t with
 | nil=>rfl
 | cons b t =>{
 rw[C5];cases a with
 | nil=>exact absurd rfl ha
 | cons x r=>rfl}
theorem zJ(s:ah):(gT false s).isSome=dr s:=by
 unfold gT dr iC rO Lib.hasPrefix;rw[abH];by_cases h1:s.length<=60;{
 have hne:=pP 46 s;cases hs:az 46 s with
 | nil=>exact absurd hs hne
 | cons a t =>{
 rw[tu,abI t 1 ae,Ct];unfold zi;cases hl:jx a;{
 -- no jx: a name only where it is the star
 simp only[NF,Av];by_cases hst:a = [42];{
 have:=O1 hs (by rw[hst];simp);rw[hst]at this;have hp:([42]:ah).isPrefixOf s=true:=by{
 cases s with
 | nil=>simp at this
 | cons x r=>simp at this;subst this;simp[List.isPrefixOf]};rw[hp];simp};{rw[show(a == [42])=false by simpa using hst];simp}};{
 have hp:([42]:ah).isPrefixOf s=false:=by{
 have ha:a≠[]:=by rintro rfl;simp[jx]at hl
 have:=O1 hs ha;cases a with
 | nil=>exact absurd rfl ha
 | cons x r =>{
 cases s with
 | nil=>rfl
 | cons y q =>{
 simp at this;subst this;unfold jx at hl;simp only[cY,Ct]at hl;have hx:rM y=true:=hl.2.1;have:y≠42:=by rintro rfl;revert hx;decide
 simp[List.isPrefixOf,Ht this]}}};rw[hp];cases t.all jx <;> simp[h1]}}};{simp[h1]}
theorem O3(s:ah)(w:World)(hl:s.length<=1000000) :
  aB 63 #[ay s,.bool false] w fun e w'=>((dr s=true/\∃g n c,e=.returned (aD g 0 n c))\/(dr s=false/\e=.returned (aH)))/\au w w':=by
 refine(H5 s false w ae).mono ?_;rintro e w' ⟨⟨v,rfl,hv⟩,hb⟩;refine⟨?_,hb⟩;have hn:=zJ s;cases ho:gT false s with
 | none =>{rw[ho]at hv hn;obtain rfl:v=aH:=hv;exact .inr ⟨hn.symm,rfl⟩}
 | some l =>{rw[ho]at hv hn;obtain⟨_,g,cap,rfl,_⟩:=hv;exact .inl ⟨hn.symm,g,_,cap,rfl⟩}
def O4(f:ah->Bool):List ah->Bool
 | [a]=>f a
 | _=>false
def abJ(f g:ah->Bool):List ah->Bool
 | [a,b]=>f a && g b
 | _=>false
def abK(f:ah->ah->ah->ah->Bool):List ah->Bool
 | [a,b,c,d]=>f a b c d
 | _=>false
theorem Uu{f:ah->Bool}{ls:List ah}(h:ls.length≠1):O4 f ls=false:=by
 match ls,h with
 | [],_=>rfl
 | [x],h=>exact absurd rfl h
 | x :: y :: t,_=>rfl
theorem amN{f g:ah->Bool}{ls:List ah}(h:ls.length≠2):abJ f g ls=false:=by
 match ls,h with
 | [],_=>rfl
 | [x],_=>rfl
 | [x,y],h=>exact absurd rfl h
 | x :: y :: z :: t,_=>rfl
theorem amO{f:ah->ah->ah->ah->Bool}{ls:List ah}(h:ls.length≠4):abK f ls=false:=by
 match ls,h with
 | [],_=>rfl
 | [x],_=>rfl
 | [x,y],_=>rfl
 | [x,y,z],_=>rfl
 | [x,y,z,u],h=>exact absurd rfl h
 | x :: y :: z :: u :: v :: t,_=>rfl
theorem amP(k:Int)(hk:k=2\/k=5)(ls:List ah):cE k ls=O4 dr ls:=by
 rcases hk with rfl|rfl;all_goals(
 match ls with
 | []=>rfl
 | [x]=>rfl
 | x :: y :: t=>rfl)
theorem amQ(ls:List ah):cE 1 ls=O4 AO ls:=by
 match ls with
 | []=>rfl
 | [x]=>rfl
 | x :: y :: t=>rfl
theorem amR(ls:List ah):cE 16 ls=O4 pg ls:=by
 match ls with
 | []=>rfl
 | [x]=>rfl
 | x :: y :: t=>rfl
theorem amS(ls:List ah):cE 15 ls=abJ (dz 65535) dr ls:=by
 match ls with
 | []=>rfl
 | [x]=>rfl
 | [x,y]=>rfl
 | x :: y :: z :: t=>rfl
theorem amT(ls:List ah):cE 6 ls=abK (fun a b c d=>dr a && dr b && dz 4294967295 c && dz 86400 d) ls:=by
 match ls with
 | []=>rfl
 | [x]=>rfl
 | [x,y]=>rfl
 | [x,y,z]=>rfl
 | [x,y,z,u]=>rfl
 | x :: y :: z :: u :: v :: t=>rfl
theorem wN{w:World}{g off:Nat}{ls:List ah}(h:fS w g off ls)(k:Nat)(x:ah)(hx:ls[k]? = some x):w.cell? (ak g (off+k))=some (ay x):=by obtain⟨hk,rfl⟩:=jX.1 hx;exact h.2 k hk
theorem abL(k:Int)(hk:k=2\/k=5)(g off cap:Nat)(ls:List ah)(w:World)(h:fS w g off ls)(hl:ls.length<=3001)(hc:ls.length<=cap)(hw:∀x∈ls,x.length<=3000) :
  aB 116 #[aj k,aD g off ls.length cap] w (bQ (.bool (cE k ls)) w):=by
 have hg:=h.1;have H:=ag h;have HW:=ag hw;clear h hw;have HD:=ag (amP k hk ls);by_cases h1:ls.length=1;{
 obtain⟨x,rfl⟩:∃x,ls = [x]:=by{
 match ls,h1 with
 | [x],_=>exact⟨x,rfl⟩};have c0:=wN (af H) 0 x rfl;rw[gK]at c0;have bI:=ag (O3 x w (by have:=af HW x ar;omega));have hlen:([x]:List ah).length=1:=rfl;rw[hlen]at hc ⊢;clear h1 hl hlen;rcases hk with rfl|rfl;all_goals(go_enter func116,ntmps116;go_wp2_with fail;refine bI.mono ?_;rintro e w1 ⟨⟨hp,g',n',c',rfl⟩|⟨hp,rfl⟩,hb1⟩;{have oh:=ag hp;clear hp;go_wp2;go_ret;exact⟨cA (by rw[af HD];exact oh.symm),hb1⟩};{have oh:=ag hp;clear hp;go_wp2;go_ret;exact⟨cA (by rw[af HD];exact oh.symm),hb1⟩})};{
 have Fg:((ls.length:Int) == 1)=false:=by rw[d_];omega
 have yf:Hid (cE k ls=false):=HD.trans (Uu h1);clear h1;rcases hk with rfl|rfl;all_goals(go_enter func116,ntmps116;go_wp2;go_ret;exact⟨cA yf.symm,bR _ _⟩)}
theorem amU(g off cap:Nat)(ls:List ah)(w:World)(h:fS w g off ls)(hl:ls.length<=3001)(hc:ls.length<=cap)(hw:∀x∈ls,x.length<=3000) :
  aB 116 #[aj 15,aD g off ls.length cap] w (bQ (.bool (cE 15 ls)) w):=by
 have hg:=h.1;have H:=ag h;have HW:=ag hw;clear h hw;have HD:=ag (amS ls);by_cases h1:ls.length=2;{
 obtain⟨x,y,rfl⟩:∃x y,ls = [x,y]:=by{
 match ls,h1 with
 | [x,y],_=>exact⟨x,y,rfl⟩};have c0:=wN (af H) 0 x rfl;have aC:=wN (af H) 1 y rfl;rw[gK]at c0;have bI:=ag (O3 y w (by have:=af HW y ar;omega));have dm:=ag (Fq x 65535 w (by have:=af HW x ar;omega) ae);have hlen:([x,y]:List ah).length=2:=rfl;rw[hlen]at hc ⊢;have mi:Hid (cE 15 [x,y]=(dz 65535 x && dr y)):=af HD;clear h1 hl hlen;go_enter func116,ntmps116;go_wp2_with fail;refine dm.mono ?_;rintro e w1 ⟨⟨v,rfl,_⟩,hw1⟩;subst hw1;cases hn:dz 65535 x;{have x_:=ag hn;clear hn;go_wp2;go_ret;exact⟨cA (by rw[af mi,af x_];rfl),bR _ _⟩};{have x_:=ag hn;clear hn;go_wp2_with fail;refine bI.mono ?_;rintro e w2 ⟨⟨hp,g',n',c',rfl⟩|⟨hp,rfl⟩,hb2⟩;{have oh:=ag hp;clear hp;go_wp2;go_ret;exact⟨cA (by rw[af mi,af x_,af oh];rfl),hb2⟩};{have oh:=ag hp;clear hp;go_wp2;go_ret;exact⟨cA (by rw[af mi,af x_,af oh];rfl),hb2⟩}}};{
 have Fg:((ls.length:Int) != 2)=true:=by rw[qJ];omega
 have yf:Hid (cE 15 ls=false):=HD.trans (amN h1);clear h1;go_enter func116,ntmps116;go_wp2;go_ret;exact⟨cA yf.symm,bR _ _⟩}
theorem amV(g off cap:Nat)(ls:List ah)(w:World)(h:fS w g off ls)(hl:ls.length<=3001)(hc:ls.length<=cap)(hw:∀x∈ls,x.length<=3000) :
  aB 116 #[aj 6,aD g off ls.length cap] w (bQ (.bool (cE 6 ls)) w):=by
 have hg:=h.1;have H:=ag h;have HW:=ag hw;clear h hw;have HD:=ag (amT ls);by_cases h1:ls.length=4;{
 obtain⟨x,y,z,u,rfl⟩:∃x y z u,ls = [x,y,z,u]:=by{
 match ls,h1 with
 | [x,y,z,u],_=>exact⟨x,y,z,u,rfl⟩};have c0:=wN (af H) 0 x rfl;have aC:=wN (af H) 1 y rfl;have c2:=wN (af H) 2 z rfl;have c3:=wN (af H) 3 u rfl;rw[gK]at c0;have amW:=ag (O3 x w (by have:=af HW x ar;omega));have amX:=ag (fun W=>O3 y W (by have:=af HW y ar;omega));have uU:=ag (Fq z 4294967295 w (by have:=af HW z ar;omega) ae);have wL:=ag (Fq u 86400 w (by have:=af HW u ar;omega) ae);have hlen:([x,y,z,u]:List ah).length=4:=rfl;rw[hlen]at hc ⊢;have mi:Hid (cE 6 [x,y,z,u]=(dr x && dr y && dz 4294967295 z && dz 86400 u)):=af HD;clear h1 hl hlen;go_enter func116,ntmps116;go_wp2_with fail;refine uU.mono ?_;rintro e w1 ⟨⟨v,rfl,_⟩,hw1⟩;subst hw1;go_wp2_with fail;refine wL.mono ?_;rintro e w1 ⟨⟨v2,rfl,_⟩,hw1⟩;subst hw1;cases lq:dz 4294967295 z;{have x_:=ag lq;clear lq;go_wp2;go_ret;exact⟨cA (by rw[af mi,af x_];simp),bR _ _⟩};cases yg:dz 86400 u;{have x_:=ag yg;clear yg lq;go_wp2;go_ret;exact⟨cA (by rw[af mi,af x_];simp),bR _ _⟩};have abM:=ag lq;have abN:=ag yg;clear lq yg;go_wp2_with fail;refine amW.mono ?_;rintro e w2 ⟨⟨hp,g',n',c',rfl⟩|⟨hp,rfl⟩,hb2⟩;{have oh:=ag hp;have c1':=(hb2.cell (p:=⟨g,off+1,none⟩) hg).trans aC;clear hp;go_wp2_with fail;refine(amX _).mono ?_;rintro e w3 ⟨⟨hp,g2,n2,c2',rfl⟩|⟨hp,rfl⟩,hb3⟩;{have Uv:=ag hp;clear hp;go_wp2;go_ret;exact⟨cA (by rw[af mi,af abM,af abN,af oh,af Uv];rfl),hb2.trans (hb3.mono hb2.size)⟩};{have Uv:=ag hp;clear hp;go_wp2;go_ret;exact⟨cA (by rw[af mi,af abM,af abN,af oh,af Uv];rfl),hb2.trans (hb3.mono hb2.size)⟩}};{have oh:=ag hp;clear hp;go_wp2;go_ret;exact⟨cA (by rw[af mi,af oh];rfl),hb2⟩}};{
 have Fg:((ls.length:Int) != 4)=true:=by rw[qJ];omega
 have yf:Hid (cE 6 ls=false):=HD.trans (amO h1);clear h1;go_enter func116,ntmps116;go_wp2;go_ret;exact⟨cA yf.symm,bR _ _⟩}
theorem amY(x:UInt8):(AH x.toNat=true/\33<=(x.toNat:Int)/\(x.toNat:Int)<=126)\/(AH x.toNat=false/\((x.toNat:Int)<33\/126<(x.toNat:Int))):=by unfold AH;by_cases h:33<=(x.toNat:Int)/\(x.toNat:Int)<=126;{left;exact⟨aP,h⟩};{right;refine⟨?_,ae⟩;rw[EJ,Hx,Hx];omega}
theorem amZ(g off cap:Nat)(ls:List ah)(w:World)(h:fS w g off ls)(hl:ls.length<=3001)(hc:ls.length<=cap)(hw:∀x∈ls,x.length<=3000) :
  aB 116 #[aj 16,aD g off ls.length cap] w (bQ (.bool (cE 16 ls)) w):=by
 have hg:=h.1;have H:=ag h;have HW:=ag hw;clear h hw;have HD:=ag (amR ls);by_cases h1:ls.length=1;{
 obtain⟨x,rfl⟩:∃x,ls = [x]:=by{
 match ls,h1 with
 | [x],_=>exact⟨x,rfl⟩};have c0:=wN (af H) 0 x rfl;rw[gK]at c0;have g_:=af HW x ar;have uB:(aq x).size=x.length:=bJ x;have hlen:([x]:List ah).length=1:=rfl;rw[hlen]at hc ⊢;have mi:Hid (cE 16 [x]=pg x):=af HD;clear h1 hl hlen HD HW H;by_cases z1:(x.length:Int)<1;{
 have aW:Hid (pg x=false):=by unfold pg;rw[Hid];simp;omega
 go_enter func116,ntmps116;go_wp2;go_ret;exact⟨cA (by rw[af mi,af aW]),bR _ _⟩};by_cases z2:(40:Int)<(x.length:Int);{
 have aW:Hid (pg x=false):=by unfold pg;rw[Hid];simp;omega
 go_enter func116,ntmps116;go_wp2;go_ret;exact⟨cA (by rw[af mi,af aW]),bR _ _⟩};go_enter func116,ntmps116;go_wp2_with fail;go_loopw [11] (fun i wr=>∃k:Nat,k<=x.length/\i=aj k/\(x.take k).all (fun c=>AH c.toNat)=true/\wr=w) (fun i _=>x.length - (intOf i).toNat);case atStart=>exact⟨0,cV _,rfl,rfl,rfl⟩
 case round =>(obtain⟨k,hk,rfl,hall,rfl⟩:=hrel;have eZ:=ag hall;clear hall;by_cases hlt:k<x.length;{have gy:(k:Int)<(x.length:Int):=ae;have wu:=ag (aby x k hlt);obtain⟨y,hy⟩:=bF (x[k]);have g1:∀h:k<(aq x).size,(aq x)[k]=y:=fun h=>hy.symm;have ke:=ag hy;clear hy;rcases amY y with⟨hb,h⟩|⟨hb,h⟩;{have HS:=ag hb;clear hb;go_wp2;exact⟨⟨k+1,ae,bW,by rw[af wu,EN,af eZ,<- af ke];simp[af HS],by first|rfl|trivial⟩,c5⟩};{have HS:=ag hb;clear hb;have aW:Hid (pg x=false):=by{have hmem:x[k]∈x:=cM hlt;rw[Hid];unfold pg;have:x.all (fun c=>AH c.toNat)=false:=by{rw[Hp];exact⟨_,hmem,by rw[<- af ke,af HS];simp⟩};rw[this];rfl};rcases h with h|h;all_goals(go_wp2;go_ret;exact⟨cA (by rw[af mi,af aW]),bR _ _⟩)}};{have gy:¬(k:Int)<(x.length:Int):=ae;have ng:k=x.length:=ae;have aW:Hid (pg x=true):=by{have:=af eZ;rw[ng,gV]at this;rw[Hid];unfold pg;rw[this];simp;omega};go_wp2;go_ret;exact⟨cA (by rw[af mi,af aW]),bR _ _⟩})};{
 have Fg:((ls.length:Int) != 1)=true:=by rw[qJ];omega
 have yf:Hid (cE 16 ls=false):=HD.trans (Uu h1);clear h1;go_enter func116,ntmps116;go_wp2;go_ret;exact⟨cA yf.symm,bR _ _⟩}
theorem am0(g off cap:Nat)(ls:List ah)(w:World)(h:fS w g off ls)(hl:ls.length<=3001)(hc:ls.length<=cap)(hw:∀x∈ls,x.length<=3000) :
  aB 116 #[aj 1,aD g off ls.length cap] w (bQ (.bool (cE 1 ls)) w):=by
 have hg:=h.1;have H:=ag h;have HW:=ag hw;clear h hw;have HD:=ag (amQ ls);by_cases h1:ls.length=1;{
 obtain⟨x,rfl⟩:∃x,ls = [x]:=by{
 match ls,h1 with
 | [x],_=>exact⟨x,rfl⟩};have c0:=wN (af H) 0 x rfl;rw[gK]at c0;have g_:=af HW x ar;have r8:Hid (aB 62 #[ay x,.int .u8 46] w fun e w'=>(∃v,e=.returned v/\mK w' w.heap.size v (az 46 x))/\au w w'):=H3 x 46 w ae;have C6:(az 46 x).length<=3001:=by have:=pQ 46 x;omega
 have r9:Hid (∀y∈az 46 x,y.length<=3000):=fun y hy=>by have:=qK 46 x.length x aA y hy;omega
 have p2:Hid (az 46 x≠[]):=pP 46 x;have hlen:([x]:List ah).length=1:=rfl;rw[hlen]at hc ⊢;have mi:Hid (cE 1 [x]=((az 46 x).all (dz 255) && (az 46 x).length == 4)):=af HD;clear h1 hl hlen HD HW H;generalize az 46 x=L at *;go_enter func116,ntmps116;go_wp2_with fail;refine r8.mono ?_;rintro e w1 ⟨⟨v,rfl,hown⟩,hb1⟩;obtain⟨g2,cap2,rfl,Oh,_,fZ⟩:=zH hown (af p2);have C7:=ag fZ;have bZ:=ag hb1;have hg2:=fZ.1;clear hown hb1 fZ r8 c0;go_wp2_with fail;go_loopw [13] (fun i wr=>∃k:Nat,k<=L.length/\i=aj k/\(L.take k).all (dz 255)=true/\wr=w1) (fun i _=>L.length - (intOf i).toNat);case atStart=>exact⟨0,cV _,rfl,rfl,rfl⟩
 case round =>(
 obtain⟨k,hk,rfl,hall,rfl⟩:=hrel;have eZ:=ag hall;clear hall;by_cases hlt:k<L.length;{
 have gy:(k:Int)<(L.length:Int):=ae;have wu:=ag (gp hlt);obtain⟨y,hy⟩:=bF (L[k]);have aC:wr.cell? (ak g2 k)=some (ay y):=by{have:=C7.2 k hlt;rw[eY]at this;rw[hy];exact this};have O5:y.length<=3000:=by rw[hy];exact r9 _ (cM hlt)
 have dm:=ag (fun W=>Fq y 255 W ae ae);have ke:=ag hy;clear hy;go_wp2_with fail;refine(dm _).mono ?_;rintro e w2 ⟨⟨v,rfl,_⟩,hw2⟩;subst hw2;cases hn:dz 255 y;{have aW:Hid (cE 1 [x]=false):=by{rw[Hid,af mi];have:L.all (dz 255)=false:=by{rw[Hp];exact⟨L[k],cM hlt,by rw[<- af ke,hn];simp⟩};rw[this];rfl};clear hn;go_wp2;go_ret;exact⟨cA aW.symm,bZ⟩};{
 have H8:Hid ((L.take (k+1)).all (dz 255)=true):=by rw[Hid,af wu,EN,af eZ,<- af ke];simp[hn]
 clear hn;go_wp2;exact⟨⟨k+1,ae,bW,H8,by first|rfl|trivial⟩,c5⟩}};{
 have gy:¬(k:Int)<(L.length:Int):=ae;have ng:k=L.length:=ae;have aW:Hid (cE 1 [x]=(L.length == 4)):=by{have:=af eZ;rw[ng,gV]at this;rw[Hid,af mi,this];rfl};by_cases h4:L.length=4;{
 have O6:((L.length:Int) == 4)=true:=by rw[fe];omega
 have wO:=ag h4;clear h4;go_wp2;go_ret;exact⟨cA (by rw[af aW,af wO];rfl),bZ⟩};{
 have O6:((L.length:Int) == 4)=false:=by rw[d_];omega
 have wO:=ag h4;clear h4;go_wp2;go_ret;exact⟨cA (by rw[af aW];exact(d_.2 (af wO)).symm),bZ⟩}})};{
 have Fg:((ls.length:Int) != 1)=true:=by rw[qJ];omega
 have yf:Hid (cE 1 ls=false):=HD.trans (Uu h1);clear h1;go_enter func116,ntmps116;go_wp2;go_ret;exact⟨cA yf.symm,bR _ _⟩}
theorem abO(l:ah):gL l=0\/gL l=1\/gL l=2\/gL l=5\/gL l=6\/gL l=15\/gL l=16:=by unfold gL;split;{simp};split;{simp};split;{simp};split;{simp};split;{simp};split;{simp};{simp}
theorem am1(kd:ah)(hk:0<gL kd)(g off cap:Nat)(ls:List ah)(w:World)(h:fS w g off ls)(hl:ls.length<=3001)(hc:ls.length<=cap)(hw:∀x∈ls,x.length<=3000) :
  aB 116 #[aj (gL kd),aD g off ls.length cap] w (bQ (.bool (cE (gL kd) ls)) w):=by rcases abO kd with e|e|e|e|e|e|e;{omega};{rw[e];exact am0 g off cap ls w h hl hc hw};{rw[e];exact abL 2 (.inl rfl) g off cap ls w h hl hc hw};{rw[e];exact abL 5 (.inr rfl) g off cap ls w h hl hc hw};{rw[e];exact amV g off cap ls w h hl hc hw};{rw[e];exact amU g off cap ls w h hl hc hw};{rw[e];exact amZ g off cap ls w h hl hc hw}
theorem am2(ls:List ah):cE 0 ls=false:=by unfold cE;rw[aF bD,aF bD,aF bD,aF bD,aF bD]
end Go.Proofs.YtkkpahmoljiepaaGreatDoor
