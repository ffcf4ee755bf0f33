import Derived.Test.YtkkpahmoljiepaaGreatDoorJ12
import Derived.Deep.RegionHeldLaw
set_option maxRecDepth 1000000
set_option maxHeartbeats 12800000
set_option linter.unusedSimpArgs false
set_option linter.unusedVariables false
namespace Go.Proofs.YtkkpahmoljiepaaGreatDoor
open Go.RowKit Go.Proofs.Tryz
def vB(w:World)(base:Nat)(v:Value)(fs:List nG):Prop:=w.ownsRow base 297 1 v fs.length (fs.map fun f=>.iface f.t f.x)
theorem afA:(prog.info? 297).map (fun i=>(i.zero,i.size,i.bytes))=some (some .nilIface,1,16):=aI
theorem asw:prog.underlying 293=some (.slice 297):=aI
theorem asx(w:World)(t:TypeId)(s:ByteArray):au w (Lib.bytesWorld w t s):=Go.Joins.below_bytesWorld _ _ _ _ aA
theorem QS(s:ByteArray)(u:Nat)(w:World)(hs:s.size<=3000)(h:Lib.parseUintB 64 s.data.toList=.ok u) :
  aB 280 #[.string s] w (bQ (.int .u64 (u:Int)) w):=by have HC:=ag (Tryz.strconv_ParseUint_10_at64_ok s ae u h w);clear h;go_enter func280,ntmps280;go_wp2_with fail;refine HC.mono ?_;rintro e w1 ⟨rfl,hw1⟩;have hb:au w w1:=by{rcases hw1 with rfl|rfl;{exact bR _ _};{exact asx _ _ _}};clear hw1;go_wp2;go_ret;exact⟨rfl,hb⟩
def Mk(d:ah)(us:List Nat):Prop:=(az 46 d).map (Lib.parseUintB 64)=us.map .ok
def nK(us:List Nat):List nG:=us.map fun u=>oW (UInt8.ofNat u)
theorem asy(d:ah)(us:List Nat)(w:World)(hg:bK w)(hd:d.length<=3000)(hu:Mk d us) :
  aB 281 #[ay d] w fun e w'=>(∃v,e=.returned v/\vB w' w.heap.size v (nK us))/\au w w':=by
 obtain⟨i0,ax,hz0,hz1,hz2⟩:=kJ afA;have hat:=Kf w (gq 46 (aq d));have wy:=zj (aq d) 46 w hg (by rw[bJ];omega);have hb:au w (w.alloc (.cells ((gq 46 (aq d)).map Value.string).toArray 9)):=aO.alloc aA _;have jM:Hid (∀x∈gq 46 (aq d),x.size<=3000):=fun x hx=>by{have:=Ke 46 (aq d) x hx;rw[bJ]at this;omega};have afB:Hid ((gq 46 (aq d)).map (fun x=>Lib.parseUintB 64 x.data.toList)=us.map .ok):=by{have:=wo 46 (aq d);rw[tA]at this;unfold Mk at hu;rw[<- this,kY]at hu;exact hu};have hlen:(gq 46 (aq d)).length=us.length:=by{have:=dE List.length (af afB);simpa using this};have hle:us.length<=3001:=by{have:=pQ 46 (aq d).data.toList;rw[<- wo,bY,tA]at this;omega};generalize gq 46 (aq d)=L at *;generalize w.alloc (.cells (L.map Value.string).toArray 9)=W at *;have HC:=ag wy;have aX:=ag hb;have asz:=hb.size;rw[hlen]at HC;clear wy hb;obtain⟨hsz,hcell⟩:=hat;have ej:=ag hcell;have HLEN:=ag hlen;clear hcell hlen hu hg;go_enter func281,ntmps281;go_wp2_with (go_at_call 97;refine HC.mono ?_;rintro e W ⟨rfl,rfl⟩);go_loopw [9,3] (fun i v wr=>∃(k:Nat) (a:Option Addr) (n c:Nat),i=aj k/\v=.slice a n c/\k<=us.length/\vB wr W.heap.size (.slice a n c) (nK (us.take k))/\au W wr) (fun i _ _=>us.length - (intOf i).toNat);case atStart=>exact⟨0,none,0,0,rfl,rfl,cV _,ia _ _ _ _,bR _ _⟩
 case round =>(
 obtain⟨k,a,n,c,rfl,rfl,hk,l9,hbr⟩:=hrel;have px:=ag l9;have ly:=ag hbr;have fk:=hbr.size;clear l9;by_cases hlt:k<us.length;{
 have D7:k<L.length:=by rw[af HLEN];exact hlt
 have hck:=(hbr.cell (p:=⟨w.heap.size,0+k,none⟩) hsz).trans ((af ej) k D7);rw[eY]at hck;have rR:(k:Int)<(us.length:Int):=ae;have D5:Lib.parseUintB 64 L[k].data.toList=.ok us[k]:=by{have:=dE (fun l:List _=>l[k]?) (af afB);simpa [D7,hlt]using this};have dm:=ag (QS L[k] us[k] wr (jM L[k] (cM D7)) D5);have cS:Hid (nK (us.take (k+1))=nK (us.take k)++[oW (UInt8.ofNat us[k])]):=by{rw[Hid,nK,gp hlt,gJ];rfl};have hwr:(us[k]:Int)%256=((UInt8.ofNat us[k]).toNat:Int):=by{rw[lJ];omega};have yj:=ag hwr;have oM:(nK (us.take k)).length=k:=by simp[nK];omega
 clear D5 hbr hwr;generalize L[k]=x at *;generalize us[k]=u at *;go_wp2_with fail;refine dm.mono ?_;rintro e w2 ⟨rfl,hb2⟩;have gv:Hid (vB w2 W.heap.size (.slice a n c) (nK (us.take k))):=ic (af px) hb2;have hs2:=hb2.size;have bU:=ag (ly.trans (hb2.mono fk));clear hb2;go_wp2_with (at_builtin;go_loud (refine N3 _ rfl (.tmp 13) (.tmp 18) 293 rfl W.heap.size 297 i0 .nilIface 1 16 asw ax hz0 hz1 hz2 rfl bD _ (nK (us.take k)).length _ rfl (gv.alloc _) (ak w2.heap.size 0) 1 1 [.iface 292 (.int .u8 ((u:Int)%256))] rfl rfl ?aC ?c2 ?c3 ?aV ?gh ?_));case aC =>(
 intro j u' hj;match j,hj with
 | 0,hj=>simp at hj;subst hj;simp[Addr.add]
 | n+1,hj=>simp at hj)
 case c2=>intro u' Dl;simp at Dl;subst Dl;rfl
 case c3=>unfold maxLen;omega
 case aV=>omega
 case gh=>simp;omega
 intro v' w3 hown' hgrow _;obtain⟨va,vn,vc,rfl⟩:=sO hown';have eE:Hid (vB w3 W.heap.size (.slice va vn vc) (nK (us.take (k+1)))):=by{unfold Hid vB;rw[af cS,bj,gJ,oM];rw[af yj]at hown';exact hown'};have cK:Hid (au W w3):=(bU.alloc ae _).grown hgrow aP (fun k' gF=>(gv.lt k' gF).1);clear hown' hgrow;go_wp2;exact⟨⟨k+1,_,_,_,bW,rfl,ae,eE,cK⟩,c5⟩};{have fJ:k=us.length:=ae;subst fJ;have gv:=af px;rw[gV]at gv;have eE:=ag gv;clear gv;go_wp2;go_ret;exact⟨⟨_,rfl,EZ (af eE) ae⟩,aX.trans (ly.mono asz)⟩})
theorem asA(r:ai)(us:List Nat)(w:World)(hg:bK w)(ht:r.type=1)(hd:r.data.length<=3000)(hu:Mk r.data us) :
  aB 254 #[.agg #[ay r.owner,aj r.aG,aj r.type,ay r.data]] w fun e w'=>(∃v,e=.returned v/\vB w' w.heap.size v (nK us))/\au w w':=by have hb0:au w (w.alloc (.cells #[.string (aq r.owner),.int .i64 r.aG,.int .i64 r.type,.string (aq r.data)] 47)):=aO.alloc aA _;have hs0:=hb0.size;have HC:=ag (zj (aq r.data) 32 _ (hg.below hb0) (by rw[bJ];omega));have hb1:au w ((w.alloc (.cells #[.string (aq r.owner),.int .i64 r.aG,.int .i64 r.type,.string (aq r.data)] 47)).alloc (.cells ((gq 32 (aq r.data)).map Value.string).toArray 9)):=hb0.alloc ar _;have eZ:=ag (asy r.data us _ (hg.below hb1) hd hu);rw[ht]at *;clear hg ht hu;generalize gq 32 (aq r.data)=L at *;have bZ:=ag hb1;clear hb1 hb0 hs0;go_enter func254,ntmps254;go_wp2_with fail;refine HC.mono ?_;rintro e w1 ⟨rfl,rfl⟩;go_wp2_with fail;refine eZ.mono ?_;rintro e w2 ⟨⟨v,rfl,hv⟩,hb2⟩;have gR:=ag hv;obtain⟨va,vn,vc,rfl⟩:=sO hv;clear hv;have hs1:=bZ.size;go_wp2;go_ret;exact⟨⟨_,rfl,EZ (af gR) hs1⟩,bZ.trans (hb2.mono hs1)⟩
def BS(w:World)(base:Nat)(v:Value)(fs:List dU):Prop:=w.ownsRow base 297 1 v fs.length (fs.map fun f=>.iface f.t f.x)
theorem QT(w:World)(base:Nat)(cs:Array Value)(fs:List dU)(hc:cs.toList=fs.map fun f=>.iface f.t f.x)(hb:base<=w.heap.size)(hl:fs.length<=maxLen)(n g:Nat)(hn:n=fs.length)(hg:g=w.heap.size):BS (w.alloc (.cells cs 297)) base (aD g 0 n n) fs:=by
 subst hn hg;have hs:cs.size=fs.length:=by rw[<- uv,hc,bY]
 exact⟨ar,.inr ⟨w.heap.size,fs.length,cs,rfl,hb,World.alloc_heap_new w _,bH _,hl,by rw[hs,zf],by rw[hc,zf];exact pd ar⟩⟩
def ml(r:ai):Value:=.agg #[.string (aq r.owner),aj r.aG,aj r.type,.string (aq r.data)]
def D8(d:ah):List dU:=[jJ (oW (UInt8.ofNat d.length)),jJ (nH d)]
theorem asB(r:ai)(w:World)(hg:bK w)(ht:r.type=16)(hd:r.data.length<=3000) :
  aB 254 #[ml r] w fun e w'=>(∃v,e=.returned v/\BS w' w.heap.size v (D8 r.data))/\au w w':=by
 obtain⟨oc,oO⟩:=bF (UInt8.ofNat r.data.length);have ho:IntKind.u8.wrap (r.data.length:Int)=(oc.toNat:Int):=by rw[AB,oO,lJ];omega
 have asC:=ag oO;clear oO;have hb0:au w (w.alloc (.cells #[.string (aq r.owner),.int .i64 r.aG,.int .i64 r.type,.string (aq r.data)] 47)):=aO.alloc aA _;have HC:=ag (zj (aq r.data) 32 _ (hg.below hb0) (by rw[bJ];omega));have hs:(aq r.data).size=r.data.length:=bJ _;unfold ml;rw[ht]at HC hb0 ⊢;clear hg ht hb0;generalize gq 32 (aq r.data)=L at *;go_enter func254,ntmps254;go_wp2_with fail;refine HC.mono ?_;rintro e w1 ⟨rfl,rfl⟩;clear HC;go_wp2;go_ret;refine⟨⟨aD (w.heap.size+1+1) 0 2 2,rfl,?_⟩,((aO.alloc aA _).alloc ar _).alloc eI _⟩;rw[show D8 r.data = [jJ (oW oc),jJ (nH r.data)] by rw[af asC];rfl];refine QT _ _ _ [jJ (oW oc),jJ (nH r.data)] ?_ ?_ ?_ 2 _ rfl ?_;{rfl};{first|omega|(simp only[dD];omega)|(simp;omega)};{simp[maxLen]};{simp only[dD]}
theorem afC(r:ai)(w:World)(hg:bK w)(k:Int)(ht:r.type=k)(h6:(k == 6)=false)(h1:(k == 1)=false)(AP:(k == 16)=false)(AQ:(k == 15)=false)(hd:r.data.length<=3000) :
  aB 254 #[ml r] w fun e w'=>(∃v,e=.returned v/\BS w' w.heap.size v [xn r.data])/\au w w':=by have hb0:au w (w.alloc (.cells #[.string (aq r.owner),.int .i64 r.aG,.int .i64 r.type,.string (aq r.data)] 47)):=aO.alloc aA _;have HC:=ag (zj (aq r.data) 32 _ (hg.below hb0) (by rw[bJ];omega));have hs:(aq r.data).size=r.data.length:=bJ _;unfold ml;rw[ht]at HC hb0 ⊢;clear hg ht hb0;generalize gq 32 (aq r.data)=L at *;go_enter func254,ntmps254;go_wp2_with fail;refine HC.mono ?_;rintro e w1 ⟨rfl,rfl⟩;clear HC;go_wp2;go_ret;refine⟨⟨aD (w.heap.size+1+1) 0 1 1,rfl,QT _ _ _ [xn r.data] ?_ ?_ ?_ 1 _ rfl ?_⟩,?_⟩;{rfl};{first|omega|(simp only[dD];omega)|(simp;omega)};{simp[maxLen]};{simp only[dD]};exact((aO.alloc aA _).alloc ar _).alloc eI _
def BU(x0 x1:ah)(n2 n3:Nat):List dU:=[xn x0,xn x1,jJ (yI (n2%4294967296)),jJ (yI 3600),jJ (yI 600),jJ (yI 86400),jJ (yI (n3%4294967296))]
def BV(n0:Nat)(x1:ah):List dU:=[jJ (jT (n0%65536)),xn x1]
theorem asD(r:ai)(w:World)(hg:bK w)(ht:r.type=15)(hd:r.data.length<=3000)(x0 x1:ah)(n0:Nat)(hw:gq 32 (aq r.data) = [aq x0,aq x1])(jo:Lib.parseUintB 64 x0=.ok n0)(hl0:x0.length<=3000) :
  aB 254 #[ml r] w fun e w'=>(∃v,e=.returned v/\BS w' w.heap.size v (BV n0 x1))/\au w w':=by
 have hb0:au w (w.alloc (.cells #[.string (aq r.owner),.int .i64 r.aG,.int .i64 r.type,.string (aq r.data)] 47)):=aO.alloc aA _;have HC:=ag (zj (aq r.data) 32 _ (hg.below hb0) (by rw[bJ];omega));have hs:(aq r.data).size=r.data.length:=bJ _;unfold ml;rw[ht]at HC hb0 ⊢;clear hg ht hb0;rw[hw]at HC;go_enter func254,ntmps254;go_wp2_with fail;refine HC.mono ?_;rintro e w1 ⟨rfl,rfl⟩;clear HC;simp only[jL,rI,bP,fy];have xt:∀W W':World,au W W'->(W.cell? (ak (w.heap.size+1) 0)=some (.string (aq x0))/\W.cell? (ak (w.heap.size+1) 1)=some (.string (aq x1)))->(W'.cell? (ak (w.heap.size+1) 0)=some (.string (aq x0))/\W'.cell? (ak (w.heap.size+1) 1)=some (.string (aq x1))):=fun W W' hb h=>by
  have kp:∀(a:Addr) (v:Value),W.cell? a=some v->W'.cell? a=some v:=fun a v h=>(hb.cell (iz W a h)).trans h;obtain⟨e0,e1⟩:=h;exact⟨kp _ _ e0,kp _ _ e1⟩
 have HK:Hid (∀(W:World) (o:Obj),(W.cell? (ak (w.heap.size+1) 0)=some (.string (aq x0))/\W.cell? (ak (w.heap.size+1) 1)=some (.string (aq x1)))/\au w W->(((W.alloc o).cell? (ak (w.heap.size+1) 0)=some (.string (aq x0))/\(W.alloc o).cell? (ak (w.heap.size+1) 1)=some (.string (aq x1)))/\au w (W.alloc o))):=fun W o h=>⟨xt W _ (aO.alloc aA _) h.1,h.2.alloc h.2.size _⟩
 have hE:Hid (∀W,(W.cell? (ak (w.heap.size+1) 0)=some (.string (aq x0))/\W.cell? (ak (w.heap.size+1) 1)=some (.string (aq x1)))->au w W->aB 280 #[.string (aq x0)] W fun e w'=>e=.returned (.int .u64 (n0:Int))/\(w'.cell? (ak (w.heap.size+1) 0)=some (.string (aq x0))/\w'.cell? (ak (w.heap.size+1) 1)=some (.string (aq x1)))/\au w w'):=fun W h hb=>by
  refine(QS (aq x0) n0 W (by rw[bJ];exact hl0) jo).mono ?_;rintro e w' ⟨rfl,hb'⟩;exact⟨rfl,xt W w' hb' h,hb.trans (hb'.mono hb.size)⟩
 have y0:IntKind.u16.wrap (n0:Int)=((n0%65536:Nat):Int):=by rw[zh];omega
 have ug:((w.alloc (.cells #[.string (aq r.owner),.int .i64 r.aG,.int .i64 15,.string (aq r.data)] 47)).alloc (.cells #[.string (aq x0),.string (aq x1)] 9)).drew.cell? (ak (w.heap.size+1) 0)=some (.string (aq x0))/\((w.alloc (.cells #[.string (aq r.owner),.int .i64 r.aG,.int .i64 15,.string (aq r.data)] 47)).alloc (.cells #[.string (aq x0),.string (aq x1)] 9)).drew.cell? (ak (w.heap.size+1) 1)=some (.string (aq x1)):=by
  have hnew:=World.alloc_heap_new (w.alloc (.cells #[.string (aq r.owner),.int .i64 r.aG,.int .i64 15,.string (aq r.data)] 47)) (.cells #[.string (aq x0),.string (aq x1)] 9);rw[dD]at hnew;refine⟨?_,?_⟩ <;> (show(World.cell? _ _)=_;unfold World.cell?; simp only[World.drew];rw[hnew];rfl)
 have hB0:au w ((w.alloc (.cells #[.string (aq r.owner),.int .i64 r.aG,.int .i64 15,.string (aq r.data)] 47)).alloc (.cells #[.string (aq x0),.string (aq x1)] 9)).drew:=((aO.alloc aA _).alloc ar _).drew;clear xt hw jo hl0;go_wp2_with fail;generalize ((w.alloc (.cells #[.string (aq r.owner),.int .i64 r.aG,.int .i64 15,.string (aq r.data)] 47)).alloc (.cells #[.string (aq x0),.string (aq x1)] 9))=w1 at *
 go_region_held (fun w'=>(w'.cell? (ak (w.heap.size+1) 0)=some (.string (aq x0))/\w'.cell? (ak (w.heap.size+1) 1)=some (.string (aq x1)))/\au w w') (first|exact⟨by assumption,by assumption⟩|(refine af HK _ _ ?_;exact⟨by assumption,by assumption⟩)|go_keep)
  (first
   | (go_at_call_of 280 (Value.string (aq x0));go_loud (refine(hE _ ?_ ?_).mono ?_;assumption;assumption;rintro e w' ⟨rfl,hq,pG⟩)))
 have z0:(n0:Int)%65536=((n0%65536:Nat):Int):=ae;rw[z0];have bX:=pG.size;have aW:=ag pG;clear HK hE ug hB0 hq pG;go_wp2;go_ret;refine⟨⟨aD w'.heap.size 0 2 2,rfl,QT _ _ _ (BV n0 x1) ?_ ?_ ?_ 2 _ rfl rfl⟩,?_⟩
 ·rfl
 ·exact bX
 ·simp[maxLen,BV]
 ·exact aW.alloc bX _
theorem asE(r:ai)(w:World)(hg:bK w)(ht:r.type=6)(hd:r.data.length<=3000)(x0 x1 x2 x3:ah)(n2 n3:Nat)(hw:gq 32 (aq r.data) = [aq x0,aq x1,aq x2,aq x3])(D9:Lib.parseUintB 64 x2=.ok n2)(p7:Lib.parseUintB 64 x3=.ok n3)(hl2:x2.length<=3000)(hl3:x3.length<=3000) :
  aB 254 #[ml r] w fun e w'=>(∃v,e=.returned v/\BS w' w.heap.size v (BU x0 x1 n2 n3))/\au w w':=by
 have hb0:au w (w.alloc (.cells #[.string (aq r.owner),.int .i64 r.aG,.int .i64 r.type,.string (aq r.data)] 47)):=aO.alloc aA _;have HC:=ag (zj (aq r.data) 32 _ (hg.below hb0) (by rw[bJ];omega));have hs:(aq r.data).size=r.data.length:=bJ _;unfold ml;rw[ht]at HC hb0 ⊢;clear hg ht hb0;rw[hw]at HC;go_enter func254,ntmps254;go_wp2_with fail;refine HC.mono ?_;rintro e w1 ⟨rfl,rfl⟩;clear HC;simp only[jL,rI,bP,fy];have xt:∀W W':World,au W W'->(W.cell? (ak (w.heap.size+1) 0)=some (.string (aq x0))/\W.cell? (ak (w.heap.size+1) 1)=some (.string (aq x1))/\W.cell? (ak (w.heap.size+1) 2)=some (.string (aq x2))/\W.cell? (ak (w.heap.size+1) 3)=some (.string (aq x3)))->(W'.cell? (ak (w.heap.size+1) 0)=some (.string (aq x0))/\W'.cell? (ak (w.heap.size+1) 1)=some (.string (aq x1))/\W'.cell? (ak (w.heap.size+1) 2)=some (.string (aq x2))/\W'.cell? (ak (w.heap.size+1) 3)=some (.string (aq x3))):=fun W W' hb h=>by
  have kp:∀(a:Addr) (v:Value),W.cell? a=some v->W'.cell? a=some v:=fun a v h=>(hb.cell (iz W a h)).trans h;obtain⟨e0,e1,e2,e3⟩:=h;exact⟨kp _ _ e0,kp _ _ e1,kp _ _ e2,kp _ _ e3⟩
 have HK:Hid (∀(W:World) (o:Obj),(W.cell? (ak (w.heap.size+1) 0)=some (.string (aq x0))/\W.cell? (ak (w.heap.size+1) 1)=some (.string (aq x1))/\W.cell? (ak (w.heap.size+1) 2)=some (.string (aq x2))/\W.cell? (ak (w.heap.size+1) 3)=some (.string (aq x3)))/\au w W->(((W.alloc o).cell? (ak (w.heap.size+1) 0)=some (.string (aq x0))/\(W.alloc o).cell? (ak (w.heap.size+1) 1)=some (.string (aq x1))/\(W.alloc o).cell? (ak (w.heap.size+1) 2)=some (.string (aq x2))/\(W.alloc o).cell? (ak (w.heap.size+1) 3)=some (.string (aq x3)))/\au w (W.alloc o))):=fun W o h=>⟨xt W _ (aO.alloc aA _) h.1,h.2.alloc h.2.size _⟩
 have uU:Hid (∀W,(W.cell? (ak (w.heap.size+1) 0)=some (.string (aq x0))/\W.cell? (ak (w.heap.size+1) 1)=some (.string (aq x1))/\W.cell? (ak (w.heap.size+1) 2)=some (.string (aq x2))/\W.cell? (ak (w.heap.size+1) 3)=some (.string (aq x3)))->au w W->aB 280 #[.string (aq x2)] W fun e w'=>e=.returned (.int .u64 (n2:Int))/\(w'.cell? (ak (w.heap.size+1) 0)=some (.string (aq x0))/\w'.cell? (ak (w.heap.size+1) 1)=some (.string (aq x1))/\w'.cell? (ak (w.heap.size+1) 2)=some (.string (aq x2))/\w'.cell? (ak (w.heap.size+1) 3)=some (.string (aq x3)))/\au w w'):=fun W h hb=>by
  refine(QS (aq x2) n2 W (by rw[bJ];exact hl2) D9).mono ?_;rintro e w' ⟨rfl,hb'⟩;exact⟨rfl,xt W w' hb' h,hb.trans (hb'.mono hb.size)⟩
 have y2:IntKind.u32.wrap (n2:Int)=((n2%4294967296:Nat):Int):=by rw[NZ];omega
 have wL:Hid (∀W,(W.cell? (ak (w.heap.size+1) 0)=some (.string (aq x0))/\W.cell? (ak (w.heap.size+1) 1)=some (.string (aq x1))/\W.cell? (ak (w.heap.size+1) 2)=some (.string (aq x2))/\W.cell? (ak (w.heap.size+1) 3)=some (.string (aq x3)))->au w W->aB 280 #[.string (aq x3)] W fun e w'=>e=.returned (.int .u64 (n3:Int))/\(w'.cell? (ak (w.heap.size+1) 0)=some (.string (aq x0))/\w'.cell? (ak (w.heap.size+1) 1)=some (.string (aq x1))/\w'.cell? (ak (w.heap.size+1) 2)=some (.string (aq x2))/\w'.cell? (ak (w.heap.size+1) 3)=some (.string (aq x3)))/\au w w'):=fun W h hb=>by
  refine(QS (aq x3) n3 W (by rw[bJ];exact hl3) p7).mono ?_;rintro e w' ⟨rfl,hb'⟩;exact⟨rfl,xt W w' hb' h,hb.trans (hb'.mono hb.size)⟩
 have y3:IntKind.u32.wrap (n3:Int)=((n3%4294967296:Nat):Int):=by rw[NZ];omega
 have ug:((w.alloc (.cells #[.string (aq r.owner),.int .i64 r.aG,.int .i64 6,.string (aq r.data)] 47)).alloc (.cells #[.string (aq x0),.string (aq x1),.string (aq x2),.string (aq x3)] 9)).drew.cell? (ak (w.heap.size+1) 0)=some (.string (aq x0))/\((w.alloc (.cells #[.string (aq r.owner),.int .i64 r.aG,.int .i64 6,.string (aq r.data)] 47)).alloc (.cells #[.string (aq x0),.string (aq x1),.string (aq x2),.string (aq x3)] 9)).drew.cell? (ak (w.heap.size+1) 1)=some (.string (aq x1))/\((w.alloc (.cells #[.string (aq r.owner),.int .i64 r.aG,.int .i64 6,.string (aq r.data)] 47)).alloc (.cells #[.string (aq x0),.string (aq x1),.string (aq x2),.string (aq x3)] 9)).drew.cell? (ak (w.heap.size+1) 2)=some (.string (aq x2))/\((w.alloc (.cells #[.string (aq r.owner),.int .i64 r.aG,.int .i64 6,.string (aq r.data)] 47)).alloc (.cells #[.string (aq x0),.string (aq x1),.string (aq x2),.string (aq x3)] 9)).drew.cell? (ak (w.heap.size+1) 3)=some (.string (aq x3)):=by
  have hnew:=World.alloc_heap_new (w.alloc (.cells #[.string (aq r.owner),.int .i64 r.aG,.int .i64 6,.string (aq r.data)] 47)) (.cells #[.string (aq x0),.string (aq x1),.string (aq x2),.string (aq x3)] 9);rw[dD]at hnew;refine⟨?_,?_,?_,?_⟩ <;> (show(World.cell? _ _)=_;unfold World.cell?; simp only[World.drew];rw[hnew];rfl)
 have hB0:au w ((w.alloc (.cells #[.string (aq r.owner),.int .i64 r.aG,.int .i64 6,.string (aq r.data)] 47)).alloc (.cells #[.string (aq x0),.string (aq x1),.string (aq x2),.string (aq x3)] 9)).drew:=((aO.alloc aA _).alloc ar _).drew;clear xt hw D9 hl2 p7 hl3;go_wp2_with fail;generalize ((w.alloc (.cells #[.string (aq r.owner),.int .i64 r.aG,.int .i64 6,.string (aq r.data)] 47)).alloc (.cells #[.string (aq x0),.string (aq x1),.string (aq x2),.string (aq x3)] 9))=w1 at *
 go_region_held (fun w'=>(w'.cell? (ak (w.heap.size+1) 0)=some (.string (aq x0))/\w'.cell? (ak (w.heap.size+1) 1)=some (.string (aq x1))/\w'.cell? (ak (w.heap.size+1) 2)=some (.string (aq x2))/\w'.cell? (ak (w.heap.size+1) 3)=some (.string (aq x3)))/\au w w') (first|exact⟨by assumption,by assumption⟩|(refine af HK _ _ ?_;exact⟨by assumption,by assumption⟩)|go_keep)
  (first
   | (go_at_call_of 280 (Value.string (aq x2));go_loud (refine(uU _ ?_ ?_).mono ?_;assumption;assumption;rintro e w' ⟨rfl,hq,pG⟩))
   | (go_at_call_of 280 (Value.string (aq x3));go_loud (refine(wL _ ?_ ?_).mono ?_;assumption;assumption;rintro e w' ⟨rfl,hq,pG⟩)))
 have z2:(n2:Int)%4294967296=((n2%4294967296:Nat):Int):=ae;have z3:(n3:Int)%4294967296=((n3%4294967296:Nat):Int):=ae;rw[z2,z3];have bX:=pG.size;have aW:=ag pG;clear HK uU wL ug hB0 hq pG;go_wp2;go_ret;refine⟨⟨aD w'.heap.size 0 7 7,rfl,QT _ _ _ (BU x0 x1 n2 n3) ?_ ?_ ?_ 7 _ rfl rfl⟩,?_⟩
 ·rfl
 ·exact bX
 ·simp[maxLen,BU]
 ·exact aW.alloc bX _
def asF(r:ai):Value:=.agg #[ay r.owner,aj r.aG,aj r.type,ay r.data]
theorem asG{mb base:Nat}{w:World}{v:Value}{fs:List nG}(h:vB w base v fs)(hne:fs≠[])(hm:mb<base):∃g cap,v=aD g 0 fs.length cap/\fs.length<=cap/\ar1 mb w g fs:=by have h0:=h;obtain⟨_,⟨rfl,hz⟩|⟨g,cap,cur,rfl,hb,aZ,hc,_⟩⟩:=h;{exact absurd (fp hz) hne};{refine⟨g,cap,rfl,hc,(bV.1 aZ).1,ae,fun c hcc=>?_,fun j hj=>?_⟩;{rw[aZ]at hcc;simp at hcc};{have:=uy h0 j ae;rw[this];simp[hj]}}
def sQ(W:World)(b:Nat)(r:ai):Prop:=W.heap[b]? = some (.cells #[.string (aq r.owner),.int .i64 r.aG,.int .i64 r.type,.string (aq r.data)] 47)
theorem sQ.cells{W:World}{b:Nat}{r:ai}(h:sQ W b r):W.cell? (ak b 0)=some (ay r.owner)/\W.cell? (ak b 1)=some (aj r.aG)/\W.cell? (ak b 2)=some (aj r.type)/\W.cell? (ak b 3)=some (ay r.data):=by unfold sQ at h;refine⟨?_,?_,?_,?_⟩ <;> simp[World.cell?,h]
theorem afD{w:World}{base:Nat}{v:Value}{l:ah}(h:gC w base v l):∃a c,v=.slice a l.length c:=by obtain⟨_,⟨rfl,hz⟩|⟨g,cap,cur,rfl,_⟩⟩:=h;{exact⟨none,0,by rw[hz]⟩};{exact⟨_,_,rfl⟩}
structure pH(r:ai)(aK:List dU):Prop where
 own:r.owner.length<=300
 typ:r.type=(r.type.toNat:Int)/\r.type.toNat<65536
 aG:r.aG<4294967296
 data:∀W,bK W->aB 254 #[asF r] W fun e w'=>(∃v,e=.returned v/\BS w' W.heap.size v aK)/\au W w'
 ok:∀(mb base:Nat) (I:World->Prop),(∀w,I w->bK w)->0<base->0<mb->∀f∈aK,f.yK mb base I
 ne:aK≠[]
 few:aK.length<=1000
def D_(r:ai)(g cap:Nat)(aK:List dU):List dU:=[xn r.owner,jJ (jT r.type.toNat),jJ (jT 1),jJ (yI r.aG),QR g cap aK]
def iP(r:ai)(aK:List dU)(l:ah)(ps:cI):ah×cI:=eU (D_ r 0 0 aK) l ps
def cH(aK:ai->List dU)(rs:List ai)(l:ah)(ps:cI):ah×cI:=rs.foldl (fun s r=>iP r (aK r) s.1 s.2) (l,ps)
theorem afE(aK:ai->List dU)(rs:List ai)(k:Nat)(h:k<rs.length)(l:ah)(ps:cI):cH aK (rs.take (k+1)) l ps=iP rs[k] (aK rs[k]) (cH aK (rs.take k) l ps).1 (cH aK (rs.take k) l ps).2:=by rw[gp h,cH,Ax];rfl
theorem afF(aK:ai->List dU)(rs qs:List ai)(l:ah)(ps:cI):cH aK (rs++qs) l ps=cH aK qs (cH aK rs l ps).1 (cH aK rs l ps).2:=by rw[cH,Ax];rfl
theorem afG{mb base:Nat}{w:World}{v:Value}{fs:List dU}(h:BS w base v fs)(hne:fs≠[])(hm:mb<base):∃g cap,v=aD g 0 fs.length cap/\fs.length<=cap/\pF mb w g fs:=by have h0:=h;obtain⟨_,⟨rfl,hz⟩|⟨g,cap,cur,rfl,hb,aZ,hc,_⟩⟩:=h;{exact absurd (fp hz) hne};{refine⟨g,cap,rfl,hc,ae,⟨_,_,aZ,bD,bD⟩,fun j hj=>?_⟩;have:=uy h0 j ae;rw[this];simp[hj]}
theorem afH{mb base g:Nat}{aK:List dU}(hb0:0<base)(hm0:0<mb):I8 mb base (fun w=>bK w/\pF mb w g aK):=fun w w' h ht=>⟨h.1.tg ht hb0 hm0,h.2.tg ht⟩
theorem afI{r:ai}{aK:List dU}(hr:pH r aK)(mb base g cap:Nat)(hb0:0<base)(hm0:0<mb)(dt:aK.length<=cap):∀f∈D_ r g cap aK,f.yK mb base (fun w=>bK w/\pF mb w g aK):=by intro f hf;simp only[D_,ei,vX,tk]at hf;rcases hf with rfl|rfl|rfl|rfl|rfl;{exact I_ _ hr.own _ _ _ (fun _ h=>h.1) hb0 hm0};{exact ru (BO _ hr.typ.2) _ _ _};{exact ru (BO _ ae) _ _ _};{exact ru (I5 _ hr.aG) _ _ _};{exact afz mb base g cap _ aK (afH hb0 hm0) (fun _ h=>h.2) (hr.ok _ _ _ (fun _ h=>h.1) hb0 hm0) dt (by have:=hr.few;omega)}
theorem afJ{r:ai}{aK:List dU}(hr:pH r aK)(l:ah)(ps:cI):l.length<=(iP r aK l ps).1.length/\ps.length<=(iP r aK l ps).2.length/\(iH ps->iH (iP r aK l ps).2) :=
 I9 (D_ r 0 aK.length aK) (afI hr 1 1 0 aK.length ae ae aA) l ps
theorem Jb(aK:ai->List dU):∀(rs:List ai),(∀r∈rs,pH r (aK r))->∀l ps,l.length<=(cH aK rs l ps).1.length/\ps.length<=(cH aK rs l ps).2.length/\(iH ps->iH (cH aK rs l ps).2)
 | [],_,l,ps=>⟨bH _,bH _,id⟩
 | r :: rs,h,l,ps=>by have h1:=afJ (h r ar) l ps;have h2:=Jb aK rs (fun g hg=>h g (by simp[hg])) (iP r (aK r) l ps).1 (iP r (aK r) l ps).2;exact⟨a_ h1.1 h2.1,a_ h1.2.1 h2.2.1,fun h=>h2.2.2 (h1.2.2 h)⟩
theorem afK(aK:ai->List dU)(rs:List ai)(bq:∀r∈rs,pH r (aK r))(l:ah)(ps:cI)(k:Nat):(cH aK (rs.take k) l ps).1.length<=(cH aK rs l ps).1.length/\(cH aK (rs.take k) l ps).2.length<=(cH aK rs l ps).2.length:=by
 have e:cH aK rs l ps=cH aK (rs.drop k) (cH aK (rs.take k) l ps).1 (cH aK (rs.take k) l ps).2:=by rw[<- afF,j9]
 have:=Jb aK (rs.drop k) (fun f hf=>bq f (NR hf)) (cH aK (rs.take k) l ps).1 (cH aK (rs.take k) l ps).2;rw[e];exact⟨this.1,this.2.1⟩
theorem afL(mb base g cap:Nat)(r:ai)(aK:List dU)(hr:pH r aK)(hb0:0<base)(hm0:0<mb)(l:ah)(ps:cI)(w:World)(hG:bK w)(hF:pF mb w g aK)(dt:aK.length<=cap)(hm:dK w mb base l ps)(mP:iH ps)(bX:base<=w.heap.size)
  (hl:(iP r aK l ps).1.length<=50000) (hp:(iP r aK l ps).2.length<=20000) :
  aB 139 #[aM mb,aD w.heap.size 0 5 5] (w.alloc (.cells #[.iface 291 (.string (aq r.owner)),.iface 284 (.int .u16 r.type.toNat),.iface 284 (.int .u16 1),.iface 344 (.int .u32 r.aG),.iface 293 (.slice (some ⟨g,0,none⟩) aK.length cap)] 297)) fun e w' =>
   e=.returned (.tuple #[])/\dK w' mb base (iP r aK l ps).1 (iP r aK l ps).2/\bG mb base w w':=by
 have hnew:=World.alloc_heap_new w (.cells #[.iface 291 (.string (aq r.owner)),.iface 284 (.int .u16 r.type.toNat),.iface 284 (.int .u16 1),.iface 344 (.int .u32 r.aG),.iface 293 (.slice (some ⟨g,0,none⟩) aK.length cap)] 297);have dw:au w (w.alloc (.cells #[.iface 291 (.string (aq r.owner)),.iface 284 (.int .u16 r.type.toNat),.iface 284 (.int .u16 1),.iface 344 (.int .u32 r.aG),.iface 293 (.slice (some ⟨g,0,none⟩) aK.length cap)] 297)):=aO.alloc aA _;have BB:bG mb base w _:=bG.pE dw;have DY:=hm.lt;have hst:=afH (mb:=mb) (base:=base) (g:=g) (aK:=aK) hb0 hm0;refine(WS mb base w.heap.size 5 (fun w=>bK w/\pF mb w g aK) (D_ r g cap aK) l ps _ (hst _ _ ⟨hG,hF⟩ BB) hst (hm.below dw) aP mP (afI hr mb base g cap hb0 hm0 dt) ⟨ae,⟨_,_,hnew,bD,bD⟩,?_⟩ (by simp[D_]) (by simp[D_]) hl hp).mono ?_;{
 intro j hj;match j,hj with
 | 0,_=>unfold World.cell?; rw[hnew];rfl
 | 1,_=>unfold World.cell?; rw[hnew];rfl
 | 2,_=>unfold World.cell?; rw[hnew];rfl
 | 3,_=>unfold World.cell?; rw[hnew];rfl
 | 4,_=>unfold World.cell?; rw[hnew];rfl
 | j+5,hj=>simp[D_]at hj;omega};rintro e w2 ⟨rfl,h1,h2⟩;exact⟨rfl,h1,BB.trans h2⟩
theorem afM{W W':World}{b mb base:Nat}{r:ai}(h:sQ W b r)(ht:bG mb base W W')(hb:b≠mb):sQ W' b r:=ht.box h hb bD bD
theorem asH(mb base b off cap:Nat)(size:Int)(aK:ai->List dU)(rs:List ai)(ps:cI)(l:ah)(w:World)(hm:dK w mb base l ps)(mP:iH ps)(hg:bK w)(bX:base<=w.heap.size)(hb0:0<base)(hm0:0<mb)
  (hr:dG w b off rs) (nY:b<base) (BW:b≠mb) (dt:rs.length<=cap) (hlen:rs.length<=3001) (bq:∀r∈rs,pH r (aK r)) (hl:(cH aK rs l ps).1.length<=50000) (hp:(cH aK rs l ps).2.length<=20000) (hsz:((cH aK rs l ps).1.length:Int)<=size) :
  aB 203 #[aM mb,aj size,aD b off rs.length cap] w fun e w' =>
   e=.returned (.bool true)/\dK w' mb base (cH aK rs l ps).1 (cH aK rs l ps).2/\bG mb base w w':=by
 have F_:=ag hm;obtain⟨vb,vp,vC,ho,BX⟩:=hm;obtain⟨a1,n1,aC,rfl⟩:=sO ho;obtain⟨a2,n2,c2,rfl⟩:=sO BX;obtain⟨m0,m1⟩:=vC.cells;have DY:=vC.lt;have Ml:bG mb base w (w.alloc (.cells #[.slice a1 n1 aC,.slice a2 n2 c2] 283)):=bG.pE (aO.alloc aA _);have dA:=ag (show dK (w.alloc (.cells #[.slice a1 n1 aC,.slice a2 n2 c2] 283)) mb base l ps from F_.below (aO.alloc aA _));have kg:=ag Ml;have HG:=ag hg;have bC:=ag hr;have cF:=ag bq;have vA:=ag mP;have CW:=hr.1;clear vC ho BX hg hr bq Ml F_ mP;go_enter func203,ntmps203;go_wp2_with fail
 go_loopw [15] (fun i wr=>∃(k:Nat),i=aj k/\k<=rs.length/\dK wr mb base (cH aK (rs.take k) l ps).1 (cH aK (rs.take k) l ps).2/\bG mb base w wr) (fun i _=>rs.length - (intOf i).toNat)
 case atStart=>exact⟨0,rfl,cV _,dA,kg⟩
 case round =>
  obtain⟨k,rfl,hk,qp,qq⟩:=hrel;have Mm:=ag qp;have WX:=ag qq;have fk:=qq.size;by_cases hlt:k<rs.length
  ·have rR:(k:Int)<(rs.length:Int):=ae;have om:=AW (af bC) qq.size (qq.block b CW BW (.inl nY));obtain⟨q0,q1,q2,q3⟩:=om.four k hlt;have iQ:=af cF rs[k] (cM hlt);have Bu:=ag (afE aK rs k hlt l ps);have Ac:=ag (afK aK rs (af cF) l ps (k+1));have Bt:=ag ((Jb aK (rs.take k) (fun f hf=>af cF f (Az hf)) l ps).2.2 (af vA));have hgr:=(HG.tg qq hb0 hm0)
   have hW0:au wr (wr.alloc (.cells #[.string (aq rs[k].owner),.int .i64 rs[k].aG,.int .i64 rs[k].type,.string (aq rs[k].data)] 47)):=aO.alloc aA _;have BZ:sQ (wr.alloc (.cells #[.string (aq rs[k].owner),.int .i64 rs[k].aG,.int .i64 rs[k].type,.string (aq rs[k].data)] 47)) wr.heap.size rs[k]:=World.alloc_heap_new wr _;obtain⟨r,yG⟩:=bF (rs[k]);rw[<- yG]at q0 q1 q2 q3 iQ hW0 BZ;obtain⟨l1,p1,B0⟩:∃l1 p1,cH aK (rs.take k) l ps=(l1,p1):=⟨_,_,rfl⟩
   have Gp:Hid (cH aK (rs.take (k+1)) l ps=iP r (aK r) l1 p1):=by
    have:=af Bu;rw[B0,<- yG]at this;exact this
   have WY:Hid (dK wr mb base l1 p1):=by rw[B0]at qp;exact qp
   have WZ:Hid (iH p1):=by have:=af Bt;rw[B0]at this;exact this
   clear om qp qq yG Bu B0 Mm Bt;have dX:wr.heap.size≠mb:=ae;have HD:Hid (∀W1,au wr W1->sQ W1 wr.heap.size r->aB 254 #[.agg #[ay r.owner,aj r.aG,aj r.type,ay r.data]] W1.drew fun e w'=>∃g cp,e=.returned (aD g 0 (aK r).length cp) /\
     (w'.cell? (ak wr.heap.size 0)=some (ay r.owner)/\w'.cell? (ak wr.heap.size 1)=some (aj r.aG)/\w'.cell? (ak wr.heap.size 2)=some (aj r.type)/\w'.cell? (ak wr.heap.size 3)=some (ay r.data)) /\
     Hid ((aK r).length<=cp/\pF mb w' g (aK r)/\sQ w' wr.heap.size r/\dK w' mb base l1 p1/\bK w'/\bG mb base w w')):=by
    intro W1 hb1 hr1;have B6:au wr W1.drew:=hb1.drew;refine(iQ.data W1.drew (hgr.below B6)).mono ?_;rintro e w' ⟨⟨v,rfl,hv⟩,hb2⟩;obtain⟨g,cp,rfl,qM,vD⟩:=afG (mb:=mb) hv iQ.ne (by have:=B6.size;omega);have hr2:sQ w' wr.heap.size r:=(hb2.block _ (bV.1 hr1).1).trans hr1;have hb3:au wr w':=B6.trans (hb2.mono B6.size);have nE:bG mb base wr w':=bG.pE hb3;exact⟨g,cp,rfl,hr2.cells,qM,vD,hr2,WY.below hb3,hgr.below hb3,WX.trans nE⟩
   have oh:Hid (∀g cp W2,Hid ((aK r).length<=cp/\pF mb W2 g (aK r)/\sQ W2 wr.heap.size r/\dK W2 mb base l1 p1/\bK W2/\bG mb base w W2) ->
     aB 139 #[aM mb,aD W2.heap.size 0 5 5] (W2.alloc (.cells #[.iface 291 (.string (aq r.owner)),.iface 284 (.int .u16 r.type.toNat),.iface 284 (.int .u16 1),.iface 344 (.int .u32 r.aG),.iface 293 (.slice (some ⟨g,0,none⟩) (aK r).length cp)] 297)) fun e w' =>
      e=.returned (.tuple #[])/\(w'.cell? (ak wr.heap.size 0)=some (ay r.owner)/\w'.cell? (ak wr.heap.size 1)=some (aj r.aG)/\w'.cell? (ak wr.heap.size 2)=some (aj r.type)/\w'.cell? (ak wr.heap.size 3)=some (ay r.data)) /\
      Hid (dK w' mb base (cH aK (rs.take (k+1)) l ps).1 (cH aK (rs.take (k+1)) l ps).2/\bG mb base w w')):=by
    intro g cp W2 hB;obtain⟨qM,vD,hr2,Gq,Fy,Be⟩:=af hB;have hL:=af Ac;rw[af Gp]at hL;refine(afL mb base g cp r (aK r) iQ hb0 hm0 l1 p1 W2 Fy vD qM Gq (af WZ) (a_ bX Be.size) ae ae).mono ?_;rintro e w' ⟨rfl,h2,h3⟩;refine⟨rfl,(afM hr2 h3 dX).cells,?_,Be.trans h3⟩;rw[af Gp];exact h2
   have x1:IntKind.u16.wrap r.type=(r.type.toNat:Int):=by
    have h1:=iQ.typ.1;have h2:=iQ.typ.2;rw[zh];omega
   have x2:IntKind.u32.wrap (r.aG:Int)=(r.aG:Int):=by
    have h1:=iQ.aG;rw[NZ];omega
   clear iQ Ac hgr Gp;obtain⟨tn,htn⟩:=bF r.type.toNat;rw[<- htn]at x1 oh;clear htn;go_wp2_with fail;have rX:=ag (HD _ hW0 BZ);have hS1:=BZ.cells;clear hW0 BZ HD q0 q1 q2 q3;generalize (wr.alloc (.cells #[.string (aq r.owner),.int .i64 r.aG,.int .i64 r.type,.string (aq r.data)] 47))=W1 at *;have hS:(W1.drew.cell? (ak wr.heap.size 0)=some (ay r.owner)/\W1.drew.cell? (ak wr.heap.size 1)=some (aj r.aG)/\W1.drew.cell? (ak wr.heap.size 2)=some (aj r.type)/\W1.drew.cell? (ak wr.heap.size 3)=some (ay r.data)):=hS1;clear hS1
   go_region_held (fun w'=>w'.cell? (ak wr.heap.size 0)=some (ay r.owner)/\w'.cell? (ak wr.heap.size 1)=some (aj r.aG)/\w'.cell? (ak wr.heap.size 2)=some (aj r.type)/\w'.cell? (ak wr.heap.size 3)=some (ay r.data)) (first|assumption|go_keep)
    (first
     | (go_at_call 254;go_loud (refine rX.mono ?_;rintro e w2 ⟨g,cp,rfl,lz,bU⟩))
     | (go_at_call 139;go_loud (refine(oh _ _ _ bU).mono ?_;rintro e w3 ⟨rfl,B8,cK⟩)))
   rename_i hH;clear hH hS lz B8 bU rX oh;go_wp2_with fail;obtain⟨h1,h3⟩:=af cK;exact⟨⟨k+1,bW,ae,h1,h3⟩,c5⟩
  ·have fJ:k=rs.length:=ae;subst fJ;rw[gV]at qp;have aW:=ag (bg qp qq);obtain⟨vb1,asI,hm1,ho1,_⟩:=qp;obtain⟨ab,cb,rfl⟩:=afD ho1;have c0:=hm1.cells.1;have Ff:¬size<(((cH aK rs l ps).1).length:Int):=ae;clear hm1 ho1 qq Mm;generalize (cH aK rs l ps).1.length=N at *;go_wp2;go_ret;exact⟨rfl,aW.1,aW.2⟩
def iu(i b c0 aC c2 c3:Nat):List nG:=[jT i,jT b,jT c0,jT aC,jT c2,jT c3]
theorem W8(i b c0 aC c2 c3:Nat):(ew (iu i b c0 aC c2 c3)).length=12:=rfl
theorem asJ:prog.underlying 285=some (.slice 297):=aI
theorem asK:(prog.info? 5).map (·.size)=some 1:=aI
theorem asL{P:Program}{ops:Array Oper}{o:Oper}{a:Act}{w:World}{K:Act->World->Prop}{Q:Exit->Act->World->Prop}{E:Prop}
  (hg:o.guard=none) (d x:Operand) (dT sT:TypeId) (hop:o.op=Op.call { callee:=Callee.builtin Builtin.copy,args:=#[d,x],argTypes:=#[dT,sT] })
  (vd vx v:Value) (w':World) (hd:a.eval d=vd) (hx:a.eval x=vx) (hrun:(Builtin.copy_ #[dT,sT] o.type #[vd,vx]).run P w=.ok v w')
  (hK:K (a.put o.dst v) w'):if Region.wanted o (yielded ops a.tmps)=true then Oper.wp P o a w K Q else E:=by
 have hw:Region.wanted o (yielded ops a.tmps)=true:=by simp[Region.wanted,hg]
 rw[aJ hw];unfold Oper.wp;simp[execOp,hop,resolve,invoke,builtin,hd,hx,hrun,Result.andThen];exact hK
theorem asM{w:World}{base g cap:Nat}{l h:ah}(ho:gC w base (aD g 0 l.length cap) l)(hl:h.length<=l.length) :
  ∃cur,w.heap[g]? = some (.cells cur 5 (0,0))/\h.length<=cur.size/\∀w':World,w'.heap[g]? = some (.cells cur 5 (0,0))->gC (w'.setRow g (cur.toList.take 0++Lib.byteCells (aq h).data.toList++cur.toList.drop (0+(aq h).size)).toArray) base (aD g 0 l.length cap) (h++l.drop h.length):=by
 obtain⟨h1,⟨e,hz⟩|⟨g',cap',cur,e,hb,aZ,hc,hm,hs,ht⟩⟩:=ho;{cases e};{
 cases e;refine⟨cur,aZ,ae,fun w' hw'=>?_⟩;have hlen:(h++l.drop h.length).length=l.length:=aP;have bX:(aq h).size=h.length:=bJ h;refine⟨ar,.inr ⟨g,cap,_,by rw[hlen],hb,setRow_heap w' g cur _ 5 (0,0) hw',ae,hm,?_,?_⟩⟩;{
 have:((aq h).data.toList).length=h.length:=by simp[aq]
 simp[Lib.byteCells,bX,aq]at *;omega};{
 rw[hlen,zf];rw[zf]at ht;have e1:(aq h).data.toList=h:=by simp[aq]
 have e2:cur.toList.drop h.length=(cur.toList.take l.length).drop h.length++cur.toList.drop l.length:=by{
 conv=>lhs;rw[<- j9 l.length cur.toList]
 rw[SD aP]};simp only[vZ,gb,e1,bX,eY];rw[e2,ht,<- fP,List.take_left' (by simp[Lib.byteCells];omega)];simp[Lib.byteCells]}}
theorem afN(mb base i b c0 aC c2 c3:Nat)(vb vp:Value)(l:ah)(w:World)(hm:cL w mb vb vp)(ho:gC w base vb l)(bX:base<=w.heap.size)(hl:12<=l.length)(hl2:l.length<=60000)
  (h0:i<65536) (h1:b<65536) (h2:c0<65536) (h3:aC<65536) (h4:c2<65536) (h5:c3<65536) :
  aB 131 #[aM mb,.agg #[aj i,aj b,aj c0,aj aC,aj c2,aj c3]] w fun e w' =>
   e=.returned (ay (ew (iu i b c0 aC c2 c3)++l.drop 12))/\Wy mb base w w':=by
 obtain⟨i0,ax,hz0,hz1,hz2⟩:=kJ afA;obtain⟨g,cap,cur,rfl,hbg,aZ,dt,_⟩:=WE ho (by intro h;subst h;simp at hl);have hmc:=hm.cells.1;have DY:=hm.lt;have jq:=(bV.1 aZ).1;have vz:mb≠g:=fun e=>by
  rw[cL,e,aZ]at hm;simp at hm
 have dA:=ag hm;have HO:=ag ho;clear hm ho aZ;have a0:IntKind.u16.wrap (i:Int)=(i:Int):=by rw[zh];omega
 have a1:IntKind.u16.wrap (b:Int)=(b:Int):=by rw[zh];omega
 have a2:IntKind.u16.wrap (c0:Int)=(c0:Int):=by rw[zh];omega
 have a3:IntKind.u16.wrap (aC:Int)=(aC:Int):=by rw[zh];omega
 have a4:IntKind.u16.wrap (c2:Int)=(c2:Int):=by rw[zh];omega
 have a5:IntKind.u16.wrap (c3:Int)=(c3:Int):=by rw[zh];omega
 have HS:Hid (i<65536/\b<65536/\c0<65536/\aC<65536/\c2<65536/\c3<65536):=⟨h0,h1,h2,h3,h4,h5⟩
 have cu:Hid (∀k:Nat,k<4->∃ck:Nat,(iu i b c0 aC c2 c3).take (2+(k+1))=(iu i b c0 aC c2 c3).take (2+k)++[jT ck]/\IntKind.u16.wrap (ck:Int)=(ck:Int)/\∀W:World,(Instr.index 131 (.agg #[aj c0,aj aC,aj c2,aj c3]) (aj k)).run prog W=.ok (aj ck) W):=by
  intro k hk
  match k,hk with
  | 0,_=>exact⟨c0,rfl,a2,fun _=>aI⟩
  | 1,_=>exact⟨aC,rfl,a3,fun _=>aI⟩
  | 2,_=>exact⟨c2,rfl,a4,fun _=>aI⟩
  | 3,_=>exact⟨c3,rfl,a5,fun _=>aI⟩
  | k+4,h=>omega
 clear h0 h1 h2 h3 h4 h5 a2 a3 a4 a5;go_enter func131,ntmps131;go_wp2_with fail;have afO:Hid (vB ((w.alloc (.cells #[.int .i64 i,.int .i64 b,.int .i64 c0,.int .i64 aC,.int .i64 c2,.int .i64 c3] 133)).alloc (.cells #[.iface 284 (.int .u16 i),.iface 284 (.int .u16 b)] 297)) (w.heap.size+1) (aD (w.heap.size+1) 0 2 2) ((iu i b c0 aC c2 c3).take (2+0))):=by
  have hnew:=World.alloc_heap_new (w.alloc (.cells #[.int .i64 i,.int .i64 b,.int .i64 c0,.int .i64 aC,.int .i64 c2,.int .i64 c3] 133)) (.cells #[.iface 284 (.int .u16 i),.iface 284 (.int .u16 b)] 297);rw[dD]at hnew;exact⟨rfl,.inr ⟨w.heap.size+1,2,_,rfl,bH _,hnew,bH _,by simp[maxLen],rfl,rfl⟩⟩
 have gN:Hid (au w ((w.alloc (.cells #[.int .i64 i,.int .i64 b,.int .i64 c0,.int .i64 aC,.int .i64 c2,.int .i64 c3] 133)).alloc (.cells #[.iface 284 (.int .u16 i),.iface 284 (.int .u16 b)] 297))):=(aO.alloc aA _).alloc ar _
 go_loopw [19,5] (fun ix v wr=>∃(k:Nat) (a:Option Addr) (n c:Nat),ix=aj k/\v=.slice a n c/\k<=4/\vB wr (w.heap.size+1) (.slice a n c) ((iu i b c0 aC c2 c3).take (2+k))/\au w wr/\w.heap.size+1<wr.heap.size) (fun ix _ _=>4 - (intOf ix).toNat)
 case atStart=>exact⟨0,_,_,_,rfl,rfl,ae,afO,gN,ar⟩
 case round =>
  obtain⟨k,a,n,c,rfl,rfl,hk,l9,hbr,bT⟩:=hrel;have px:=ag l9;have ly:=ag hbr;have fk:=hbr.size;clear l9 afO gN;by_cases hlt:k<4
  ·obtain⟨ck,ht,hw,asN⟩:=af cu k hlt;have cS:=ag ht;have rR:(k:Int)<4:=ae;have oM:((iu i b c0 aC c2 c3).take (2+k)).length=2+k:=by simp[iu];omega
   clear ht hbr;go_wp2_with (at_builtin;go_loud (refine N3 _ rfl (.tmp 22) (.tmp 26) 285 rfl (w.heap.size+1) 297 i0 .nilIface 1 16 asJ ax hz0 hz1 hz2 rfl bD _ ((iu i b c0 aC c2 c3).take (2+k)).length _ rfl (px.alloc _) (ak wr.heap.size 0) 1 1 [.iface 284 (.int .u16 ck)] rfl rfl ?aC ?c2 ?c3 ?aV ?gh ?_))
   case aC =>
    intro j u' hj
    match j,hj with
    | 0,hj=>simp at hj;subst hj;simp[Addr.add]
    | n+1,hj=>simp at hj
   case c2=>intro u' Dl;simp at Dl;subst Dl;rfl
   case c3=>unfold maxLen;omega
   case aV=>omega
   case gh=>simp;omega
   intro v' w3 hown' hgrow _;obtain⟨va,vn,vc,rfl⟩:=sO hown';have eE:Hid (vB w3 (w.heap.size+1) (.slice va vn vc) ((iu i b c0 aC c2 c3).take (2+(k+1)))):=by
    unfold Hid vB;rw[af cS,bj,gJ,oM,SM];exact hown'
   have cK:Hid (au w w3/\w.heap.size+1<w3.heap.size):=⟨(ly.alloc ae _).grown hgrow aP (fun k' gF=>by have:=(px.lt k' gF).1;omega),by have:=hgrow.size;simp at this;omega⟩
   clear hown' hgrow asN;go_wp2;exact⟨⟨k+1,_,_,_,bW,rfl,ae,eE,cK.1,cK.2⟩,c5⟩
  ·have fJ:k=4:=ae;subst fJ;have aY:(iu i b c0 aC c2 c3).take (2+4)=iu i b c0 aC c2 c3:=rfl;rw[aY]at px;obtain⟨fg,aAv,hv,asO,vD⟩:=asG (mb:=mb) (af px) (by simp[iu]) ae;cases hv;have hd:au wr wr.drew:=aO.drew;have HW:=ag (arT fg c (iu i b c0 aC c2 c3) wr.drew (fun f hf=>by
    obtain⟨s0,s1,s2,s3,s4,s5⟩:=af HS;simp only[iu,ei,vX,tk]at hf;rcases hf with rfl|rfl|rfl|rfl|rfl|rfl <;> exact BO _ (by assumption)) vD.1 (fun j hj=>vD.2.2.2 j hj) asO (by simp[iu]) (by rw[W8];omega))
   have hmk:=hbr.block mb DY;have W9:wr.drew.cell? (ak mb 0)=some (aD g 0 l.length cap):=(dh hmk).trans hmc;clear vD cu aY;have asP:wr.cell? (ak mb 0)=some (aD g 0 l.length cap):=W9;obtain⟨D6,Mi,CM,hown2⟩:=asM (af HO) (h:=ew (iu i b c0 aC c2 c3)) (by rw[W8];exact hl);obtain⟨pI,QU⟩:∃x,x=ew (iu i b c0 aC c2 c3):=⟨_,rfl⟩
   have Ku:pI.length=12:=by rw[QU];exact W8 i b c0 aC c2 c3
   rw[<- QU]at HW hown2 CM;have Mn:Hid (∀w2,Below wr.drew.heap.size wr.drew w2->(Builtin.copy_ #[58,9] 3 #[aD g 0 l.length cap,ay pI]).run prog w2=.ok (goInt (aq pI).size) (w2.setRow g (D6.toList.take 0++Lib.byteCells (aq pI).data.toList++D6.toList.drop (0+(aq pI).size)).toArray)):=fun w2 hb2=>by
    have e:=((hb2.block g (show g<wr.heap.size by omega)).trans (hbr.block g jq)).trans Mi;exact Lib.run_copy_row_string w2 _ _ _ _ g 0 l.length cap (aq pI) D6 5 Wx asK e (by rw[bJ];omega) (by rw[bJ];omega)
   have Qf:Hid (∀w2,Below wr.drew.heap.size wr.drew w2->gC (w2.setRow g (D6.toList.take 0++Lib.byteCells (aq pI).data.toList++D6.toList.drop (0+(aq pI).size)).toArray) base (aD g 0 l.length cap) (pI++l.drop pI.length)):=fun w2 hb2 =>
    hown2 w2 (((hb2.block g (show g<wr.heap.size by omega)).trans (hbr.block g jq)).trans Mi)
   clear hown2 Mi CM;generalize (D6.toList.take 0++Lib.byteCells (aq pI).data.toList++D6.toList.drop (0+(aq pI).size)).toArray=row at *;have Dk:=ag QU;clear QU hmk;go_wp2_with fail
   go_region_held_law (fun w'=>w'.cell? (ak mb 0)=some (aD g 0 l.length cap)) (first|assumption|exact(cell_setRow_other _ _ _ _ vz).trans (by assumption))
    (first
     | (refine asL rfl (.tmp 32) (.tmp 34) 58 9 rfl _ _ _ _ rfl rfl (Mn _ hb2) ?_)
     | (go_at_call 199;go_loud (refine HW.mono ?_;rintro e w2 ⟨rfl,hb2⟩;have lz:=(hb2.cell (p:=⟨mb,0,none⟩) (show mb<wr.heap.size by omega)).trans W9)))
   rename_i hH;have uY:=af Qf w2 hb2;have hcv:=L8 uY;have Jc:au w w2:=hbr.trans ((aO.drew.trans hb2).mono fk);obtain⟨asQ,afP⟩:=DW (af HO) rfl;have BP:Hid (Wy mb base w (w2.setRow g row)):=⟨Jc.os,Jc.tape,Jc.output,by rw[setRow_size];exact Jc.size,fun k hk hm hp=>by
    by_cases e:k=g
    ·subst e;rcases hp with hp|hp
     ·omega
     ·exact absurd afP (hp asQ)
    ·exact(setRow_other _ _ _ _ e).trans (Jc.block k hk)⟩
   have bf:Hid (pI++List.drop (List.length pI) l=ew (iu i b c0 aC c2 c3)++l.drop 12):=by rw[Hid,Ku,af Dk]
   rw[af bf]at hcv;clear uY Jc afP hb2 lz Mn Qf HW hbr hmc W9 asP bf Ku;generalize w2.setRow g row=w3 at *;go_wp2;go_ret;exact⟨rfl,BP⟩
theorem asR(k:Int)(w:World) :
  aB 140 #[aj k] w fun e w'=>e=.returned (.bool (zZ k))/\w'=w:=by
 obtain⟨r,hr⟩:=bF (zZ k);rw[<- hr];unfold zZ at hr;by_cases h0:k=0;{subst h0;have hr':r=false:=hr;subst hr';clear hr;go_enter func140,ntmps140;go_wp2;go_ret;exact⟨rfl,rfl⟩};{
 have j0:(k != 0)=true:=by simpa using h0
 by_cases h1:k=41;{subst h1;have hr':r=false:=hr;subst hr';clear hr h0 j0;go_enter func140,ntmps140;go_wp2;go_ret;exact⟨rfl,rfl⟩};{
 have j1:(k != 41)=true:=by simpa using h1
 rw[j0,j1]at hr;by_cases h2:k<249;{
 have hr':r=true:=by rw[hr,iy h2];rfl
 subst hr';clear hr h0 h1;go_enter func140,ntmps140;go_wp2;go_ret;exact⟨rfl,rfl⟩};{
 by_cases h3:254<k;{
 have hr':r=true:=by rw[hr,iy h3];simp
 subst hr';clear hr h0 h1;go_enter func140,ntmps140;go_wp2;go_ret;exact⟨rfl,rfl⟩};{
 have hr':r=false:=by rw[hr,iB h2,iB h3];rfl
 subst hr';clear hr h0 h1;go_enter func140,ntmps140;go_wp2;go_ret;exact⟨rfl,rfl⟩}}}}
def Mo(W:World)(n mb:Nat):Prop:=n<=mb/\∃vb base,n<=base/\base<=W.heap.size/\cL W mb vb (aH)/\gC W base vb (List.replicate 12 0)
theorem Mo.below{W W':World}{n mb:Nat}(h:Mo W n mb)(hb:au W W'):Mo W' n mb:=by obtain⟨h0,vb,base,h1,h2,h3,h4⟩:=h;exact⟨h0,vb,base,h1,a_ h2 hb.size,(hb.block mb (bV.1 h3).1).trans h3,ic h4 hb⟩
theorem asS(W:World)(n:Nat)(hn:n<=W.heap.size):aB 130 #[] W fun e w'=>∃mb,e=.returned (aM mb)/\Mo w' n mb/\au W w':=by refine(ae_ W).mono ?_;rintro e w' ⟨rfl,⟨vb,h1,h2⟩,hb⟩;exact⟨_,rfl,⟨ae,vb,W.heap.size,hn,hb.size,h1,h2⟩,hb⟩
theorem afQ{W:World}{n mb:Nat}(h:Mo W n mb)(hn:n<=W.heap.size)(i t:Nat)(ax:i<65536)(ht:t<65536):aB 131 #[aM mb,.agg #[aj i,aj t,aj 0,aj 0,aj 0,aj 0]] W fun e w'=>e=.returned (ay (ew (iu i t 0 0 0 0)))/\Below n W w':=by obtain⟨h0,vb,base,h1,h2,h3,h4⟩:=h;refine(afN mb base i t 0 0 0 0 vb _ (List.replicate 12 0) W h3 h4 h2 ar ar ax ht ae ae ae ae).mono ?_;rintro e w' ⟨rfl,hT⟩;exact⟨ar,hT.os,hT.tape,hT.output,hT.size,fun k hk=>hT.block k ae ae (.inl ae)⟩
theorem afR(i b t rc:Nat)(c0 aC c2 c3:Int)(w:World)(ax:i<65536)(ht:t<65536)(oX:vw b rc=(t:Int)) :
  aB 71 #[.agg #[aj i,aj b,aj c0,aj aC,aj c2,aj c3],aj rc] w (bQ (ay (ew (iu i t 0 0 0 0))) w):=by
 obtain⟨W0,hW0⟩:=bF (w.alloc (.cells #[.int .i64 i,.int .i64 b,.int .i64 c0,.int .i64 aC,.int .i64 c2,.int .i64 c3] 133));have hN:ft W0 w.heap.size [(i:Int),(b:Int),c0,aC,c2,c3] 133:=by rw[hW0];exact World.alloc_heap_new w _
 have hB0:au w W0:=by rw[hW0];exact aO.alloc aA _
 have hH:∀W,au W0 W->W.cell? (ak w.heap.size 0)=some (aj i)/\W.cell? (ak w.heap.size 1)=some (aj b)/\W.cell? (ak w.heap.size 2)=some (aj c0)/\W.cell? (ak w.heap.size 3)=some (aj aC)/\W.cell? (ak w.heap.size 4)=some (aj c2)/\W.cell? (ak w.heap.size 5)=some (aj c3):=fun W hb=>by
  have Jd:ft W w.heap.size [(i:Int),(b:Int),c0,aC,c2,c3] 133:=(hb.block _ hN.lt).trans hN;exact⟨Jd.cell 0 ar,Jd.cell 1 ar,Jd.cell 2 ar,Jd.cell 3 ar,Jd.cell 4 ar,Jd.cell 5 ar⟩
 have HH:=ag hH;have gN:=ag hB0;have hz0:=hB0.size;have cS:Hid (∀W,aB 132 #[.agg #[aj i,aj b,aj c0,aj aC,aj c2,aj c3],aj rc] W (bQ (.agg #[aj i,aj t,aj 0,aj 0,aj 0,aj 0]) W)):=fun W=>by
  have:=aeJ i b c0 aC c2 c3 rc W
  rwa [oX]at this
 have q:=hH W0.drew aO.drew;have Mp:au W0 W0.drew:=aO.drew;clear hN hB0 hH oX;go_enter func71,ntmps71;go_wp2_with fail;rw[<- hW0];clear hW0;obtain⟨q0,q1,q2,q3,q4,q5⟩:=q;go_region_with
  (first
   | (go_at_call 130;(refine(asS _ W0.heap.size (by first|exact Mp.size|exact B4.size)).mono ?_;rintro e w3 ⟨mb,rfl,hM,hb3⟩;have B3:au W0 w3:=(by first|exact B4.trans (hb3.mono B4.size)|exact Mp.trans (hb3.mono Mp.size));obtain⟨r0,r1,r2,r3,r4,r5⟩:=af HH w3 B3))
   | (go_at_call 132;(refine(cS _).mono ?_;rintro e w4 ⟨rfl,hb4⟩;have B4:au W0 w4:=(by first|exact B3.trans (hb4.mono B3.size)|exact Mp.trans (hb4.mono Mp.size));obtain⟨r0,r1,r2,r3,r4,r5⟩:=af HH w4 B4;try have asT:=hM.below hb4))
   | (go_at_call 131;(first|(refine(afQ asT B4.size i t ax ht).mono ?_;rintro e w5 ⟨rfl,hb5⟩;have B5:au W0 w5:=B4.trans hb5)|(refine(afQ hM B3.size i t ax ht).mono ?_;rintro e w5 ⟨rfl,hb5⟩;have B5:au W0 w5:=B3.trans hb5))))
 all_goals
  have fR:=ag (gN.trans (B5.mono hz0));go_wp2;go_ret;exact⟨rfl,fR⟩
def dC(o:ah)(rs:List ai)(T:ah)(k c:Int)(op:Bool)(aU:Int):(Int×Bool×List ai×List ai)×List ai :=
 if op=true/\aU≠0 then((16,false,[],[]),[])else if c≠1\/zZ k=false\/T = []then((5,false,[],[]),[])else(jf o rs k T,sJ o rs k T)
theorem asU{o:ah}(h:dr o=true):dy [] o=false:=by have h1:=(gU h).1;have ho:o≠[]:=fun e=>by{subst e;exact absurd rfl (h1 [] (by simp[AK]))};unfold dy;rw[JR];refine⟨by simpa using ho.symm,?_⟩;unfold Lib.hasSuffix;simp
theorem QV(w:World)(base:Nat)(rc:Int):LS w base (.agg #[aj rc,.bool false,aH,aH,aH]) (rc,false,[],[]) [] :=
 ⟨_,_,_,rfl,ia _ _ _ _,ia _ _ _ _,ia _ _ _ _,BI _,BI _,BI _⟩
theorem asV(zb b off cap:Nat)(t:Int)(o n:ah)(rs:List ai)(w:World)(bq:kE o rs)(hz:iD w zb o b off cap (aN rs))(hg:bK w)(hn:n = []\/fC n)(hl:n.length<=260) :
  aB 69 #[aM zb,ay n,aj t] w fun e w'=>(∃v,e=.returned v/\LS w' w.heap.size v (if n = []then(5,false,[],[])else jf o rs t n) (if n = []then []else sJ o rs t n))/\au w w':=by by_cases h0:n = [];{subst h0;have ho:=(gU bq.org).2;refine(aew zb b off cap t o [] (aN rs) w hz ar ae (asU bq.org)).mono ?_;rintro e w' ⟨rfl,hb⟩;exact⟨⟨_,rfl,QV _ _ _⟩,hb⟩};{rw[aF h0,aF h0];exact aqS zb b off cap t o n rs w bq hz hg (hn.resolve_left h0) hl}
theorem asW(zb b off cap:Nat)(k c:Int)(o n q:ah)(h0 h1 h2 h3 h4 h5:Int)(op:Bool)(sz aU:Int)(rs:List ai)(w:World)(bq:kE o rs)(hz:iD w zb o b off cap (aN rs))(hg:bK w)(hn:n = []\/fC n)(hl:n.length<=260) :
  aB 74 #[eu h0 h1 h2 h3 h4 h5 q n k c op sz aU,aM zb] w fun e w'=>(∃v,e=.returned v/\LS w' w.heap.size v (dC o rs n k c op aU).1 (dC o rs n k c op aU).2)/\au w w':=by
 have eZ:=ag (fun W (hb:au w W)=>asV zb b off cap k o n rs W bq (hz.below hb) (hg.below hb) hn hl);have HK:=ag (asR k);obtain⟨dV,nL⟩:∃dV:Obj,dV=.cells #[.int .i64 h0,.int .i64 h1,.int .i64 h2,.int .i64 h3,.int .i64 h4,.int .i64 h5,.string (aq q),.string (aq n),.int .i64 k,.int .i64 c,.bool op,.int .i64 sz,.int .i64 aU] 137:=⟨_,rfl⟩;obtain⟨dp,lC⟩:∃dp:Obj,dp=.cells #[.int .i64 0,.bool false,.slice none 0 0,.slice none 0 0,.slice none 0 0] 43:=⟨_,rfl⟩;clear hz hg bq hn;unfold eu;by_cases hA:op=true/\aU≠0;{
 have mq:dC o rs n k c op aU=((16,false,[],[]),[]):=by unfold dC;rw[aJ hA]
 rw[mq];have yL:(aU != 0)=true:=by simpa using hA.2
 have hop:=hA.1;subst hop;clear hA mq eZ HK;go_enter func74,ntmps74;go_wp2_with fail;refine fB (v:=.agg #[.int .i64 16,.bool false,.slice none 0 0,.slice none 0 0,.slice none 0 0]) (by simp[results,results74,go_sem]) rfl ⟨⟨_,rfl,QV _ _ _⟩,(aO.alloc aA _).alloc ar _⟩};by_cases hB:c≠1;{
 have mq:dC o rs n k c op aU=((5,false,[],[]),[]):=by unfold dC;rw[aF hA,aJ (.inl hB)]
 rw[mq];have hc1:(c != 1)=true:=by simpa using hB
 have sD:op=false\/(op=true/\(aU != 0)=false):=by{cases op;{exact .inl rfl};{exact .inr ⟨rfl,by simpa using fun h=>hA ⟨rfl,h⟩⟩}};clear hA hB mq eZ HK nL lC;rcases sD with rfl|⟨rfl,yL⟩;all_goals(go_enter func74,ntmps74;go_wp2_with fail;refine fB (v:=.agg #[.int .i64 5,.bool false,.slice none 0 0,.slice none 0 0,.slice none 0 0]) (by simp[results,results74,go_sem]) rfl ⟨⟨_,rfl,QV _ _ _⟩,(aO.alloc aA _).alloc ar _⟩)};obtain rfl:c=1:=Cs hB;have sD:op=false\/(op=true/\(aU != 0)=false):=by{cases op;{exact .inl rfl};{exact .inr ⟨rfl,by simpa using fun h=>hA ⟨rfl,h⟩⟩}};cases hk:zZ k with
 | false =>{
 have mq:dC o rs n k 1 op aU=((5,false,[],[]),[]):=by unfold dC;rw[aF hA,aJ (.inr (.inl hk))]
 rw[mq];have Fp:Hid (∀W:World,aB 140 #[aj k] W fun e w'=>e=.returned (.bool false)/\w'=W):=fun W=>by have:=af HK W;rw[hk]at this;exact this
 clear hA hB mq eZ HK hk nL lC;rcases sD with rfl|⟨rfl,yL⟩;all_goals(go_enter func74,ntmps74;go_wp2_with fail;refine(Fp _).mono ?_;rintro e w1 ⟨rfl,rfl⟩;go_wp2_with fail;refine fB (v:=.agg #[.int .i64 5,.bool false,.slice none 0 0,.slice none 0 0,.slice none 0 0]) (by simp[results,results74,go_sem]) rfl ⟨⟨_,rfl,QV _ _ _⟩,(aO.alloc aA _).alloc ar _⟩)}
 | true =>{
 have mq:dC o rs n k 1 op aU=(if n = []then(5,false,[],[])else jf o rs k n,if n = []then []else sJ o rs k n):=by{unfold dC;rw[aF hA];by_cases h:n = [];{rw[aJ (.inr (.inr h)),aJ h,aJ h]};{rw[aF (by rw[hk];simp[h]),aF h,aF h]}};rw[mq];have Fp:Hid (∀W:World,aB 140 #[aj k] W fun e w'=>e=.returned (.bool true)/\w'=W):=fun W=>by have:=af HK W;rw[hk]at this;exact this
 generalize (if n = []then(5,false,[],[])else jf o rs k n)=Q at *;generalize (if n = []then []else sJ o rs k n)=AD at *;clear hA hB mq HK hk;rcases sD with rfl|⟨rfl,yL⟩;all_goals(have gN:Hid (au w ((w.alloc dV).alloc dp)):=(aO.alloc aA _).alloc ar _;have mf:Hid (dY ((w.alloc dV).alloc dp) (w.heap.size+1) (aj 0) (.bool false) (aH) (aH) (aH)):=by{have:=World.alloc_heap_new (w.alloc dV) dp;rw[dD]at this;unfold dY;rw[Hid,this,lC]};go_enter func74,ntmps74;go_wp2_with fail;refine(Fp _).mono ?_;rintro e w1 ⟨rfl,rfl⟩;go_wp2_with fail;rw[<- nL,<- lC];refine(eZ _ gN).mono ?_;rintro e w7 ⟨⟨v,rfl,va,vb,vd,rfl,p1,fh,eK,p4,p5,p6⟩,di⟩;have hs0:((w.alloc dV).alloc dp).heap.size=w.heap.size+2:=ar;have r7:dY w7 (w.heap.size+1) (aj 0) (.bool false) (aH) (aH) (aH):=(di.block (w.heap.size+1) ae).trans (af mf);have pB:=gN.trans (di.mono gN.size);obtain⟨aa,ca,rfl⟩:=p1.slice;obtain⟨ab,cb',rfl⟩:=fh.slice;obtain⟨ac,cc',rfl⟩:=eK.slice;rw[hs0]at p1 fh eK;have bI:=ag (bg p1 (bg fh (bg eK (bg p4 (bg p5 p6)))));obtain⟨k0,k1,k2,k3,k4⟩:=dY.cells r7;have kf:=dY.frozen r7;have R7:=ag r7;have ri:=ag pB;clear p1 fh eK p4 p5 p6 r7 di pB gN mf Fp eZ hs0 nL lC;go_wp2_with fail;have A9:=((((R7.set0 (aj Q.1)).set1 (.bool Q.2.1)).set2 (.slice aa Q.2.2.1.length ca)).iM (.slice ab Q.2.2.2.length cb')).lj (.slice ac AD.length cc');obtain⟨n0,n1,n2,n3,n4⟩:=A9.cells;obtain⟨p1,fh,eK,p4,p5,p6⟩:=af bI;have pB:=af ri;have eN:∀ {v:Value} {l:List ai} {W:World} (i:Nat) (u:Value),b_ W (w.heap.size+2) v l->b_ (W.setCell ⟨w.heap.size+1,i,none⟩ u) (w.heap.size+2) v l:=fun i u h=>h.mF (k:=w.heap.size+1) (i:=i) ae u;refine fB (v:=.agg #[.int .i64 Q.1,.bool Q.2.1,.slice aa Q.2.2.1.length ca,.slice ab Q.2.2.2.length cb',.slice ac AD.length cc']) ?_ rfl ⟨⟨_,rfl,_,_,_,rfl,?_,?_,?_,p4,p5,p6⟩,?_⟩;{simp[results,results74,go_sem,n0,n1,n2,n3,n4]};{exact(eN 4 _ (eN 3 _ (eN 2 _ (eN 1 _ (eN 0 _ p1))))).base ae};{exact(eN 4 _ (eN 3 _ (eN 2 _ (eN 1 _ (eN 0 _ fh))))).base ae};{exact(eN 4 _ (eN 3 _ (eN 2 _ (eN 1 _ (eN 0 _ eK))))).base ae};{exact((((pB.setCell (p:=⟨w.heap.size+1,0,none⟩) (by show w.heap.size<=w.heap.size+1;omega) _).setCell (p:=⟨w.heap.size+1,1,none⟩) (by show w.heap.size<=w.heap.size+1;omega) _).setCell (p:=⟨w.heap.size+1,2,none⟩) (by show w.heap.size<=w.heap.size+1;omega) _).setCell (p:=⟨w.heap.size+1,3,none⟩) (by show w.heap.size<=w.heap.size+1;omega) _).setCell (p:=⟨w.heap.size+1,4,none⟩) (by show w.heap.size<=w.heap.size+1;omega) _})}
theorem Gr(w:World)(l:ah)(n:Nat)(hn:n=l.length)(hl:l.length<=maxLen):(convert 58 9 (aD w.heap.size 0 n n)).run prog (w.alloc (.cells ((l.map fun c=>Value.int .u8 c.toNat).toArray) 5))=.ok (ay l) (w.alloc (.cells ((l.map fun c=>Value.int .u8 c.toNat).toArray) 5)):=by subst hn;refine L8 (base:=0) ⟨ar,.inr ⟨w.heap.size,l.length,(l.map fun c=>Value.int .u8 c.toNat).toArray,rfl,cV _,World.alloc_heap_new w _,bH _,hl,ar,by rw[zf];exact pd ar⟩⟩
theorem Af(n:Nat)(w:World)(hn:n<65536) :
  aB 83 #[aj n] w (bQ (ay [ax n,bO n]) w):=by
 have kc:=Gr w [ax n,bO n] 2 rfl (by simp[maxLen]);have eh:((ax n).toNat:Int)=(n:Int)/256:=by unfold ax;rw[lJ];omega
 have el:((bO n).toNat:Int)=(n:Int)%256:=by unfold bO;rw[lJ];omega
 simp only[jL,rI,eh,el]at kc;go_enter func83,ntmps83;go_wp2;go_ret;exact⟨rfl,aO.alloc aA _⟩
def fc(n:Nat):ah:=[ax (n/65536),bO (n/65536),ax (n%65536),bO (n%65536)]
theorem Je(n:Nat)(w:World)(hn:n<4294967296) :
  aB 205 #[aj n] w (bQ (ay (fc n)) w):=by
 obtain⟨a,ha⟩:=bF (n/65536);obtain⟨b,hb⟩:=bF (n%65536);have e1:(n:Int)/65536=(a:Int):=ae;have e2:(n:Int)%65536=(b:Int):=ae;have H1:=ag (Af a w ae);have Bb:=ag (fun W=>Af b W ae);have z1:(aq [ax a,bO a]).size=2:=rfl;have z2:(aq [ax b,bO b]).size=2:=rfl;have kc:aq [ax a,bO a]++aq [ax b,bO b]=aq (fc n):=by rw[fc,<- ha,<- hb];rfl
 clear ha hb;go_enter func205,ntmps205;go_wp2_with fail;refine H1.mono ?_;rintro e w1 ⟨rfl,hb1⟩;have bZ:=ag hb1;clear hb1 H1;go_wp2_with fail;refine(Bb w1).mono ?_;rintro e w2 ⟨rfl,hb2⟩;have bU:=ag (bZ.trans (hb2.mono bZ.size));clear hb2 Bb bZ;go_wp2;go_ret;exact⟨rfl,bU⟩
def bp(s:ah)(i:Nat):Nat:=256*(s.getD i 0).toNat+(s.getD (i+1) 0).toNat
theorem asX(s:ah)(i:Nat)(w:World)(ax:i+1<s.length)(hl:s.length<=1000000000) :
  aB 141 #[ay s,aj i] w (bQ (aj (bp s i)) w):=by
 obtain⟨a,ha⟩:∃a:UInt8,a=s[i]:=⟨_,rfl⟩;obtain⟨b,hb⟩:∃b:UInt8,b=s[i+1]:=⟨_,rfl⟩;have eZ:Hid (bp s i=256*a.toNat+b.toNat):=by{rw[Hid,bp,mU,mU,iw ax,iw ae,ha,hb];rfl};obtain⟨i1,Ic⟩:=bF (i+1);have g1:∀h:i<(aq s).size,(aq s)[i]=a:=fun h=>ha.symm;have g2:∀h:i1<(aq s).size,(aq s)[i1]=b:=fun h=>by subst Ic;exact hb.symm
 have hs:(aq s).size=s.length:=bJ s;have x1:IntKind.i64.wrap ((i:Int)+1)=(i1:Int):=by rw[fF];omega
 have l1:(i:Int)<(s.length:Int):=ae;have l2:(i1:Int)<(s.length:Int):=ae;have m1:i<s.length:=ae;have m2:i1<s.length:=ae;obtain⟨x,hx⟩:=bF a.toNat;obtain⟨y,hy⟩:=bF b.toNat;have hxb:x<256:=by rw[hx];exact kZ a
 have hyb:y<256:=by rw[hy];exact kZ b
 have x2:IntKind.i64.wrap (x:Int)=(x:Int):=by rw[fF];omega
 have x3:IntKind.i64.wrap (y:Int)=(y:Int):=by rw[fF];omega
 have x4:IntKind.i64.wrap (256*(x:Int))=256*(x:Int):=by rw[fF];omega
 have x5:IntKind.i64.wrap (256*(x:Int)+(y:Int))=256*(x:Int)+(y:Int):=by rw[fF];omega
 have bf:Hid ((bp s i:Int)=256*(x:Int)+(y:Int)):=by rw[Hid,af eZ,hx,hy];simp
 have W_:Hid (∀n,au w (w.drewN n)):=fun n=>pj aO n;rw[<- hx,<- hy]at eZ;have q1:(a.toNat:Int)=(x:Int):=by rw[hx]
 have q2:(b.toNat:Int)=(y:Int):=by rw[hy]
 clear ha hb Ic hx hy ax;go_enter func141,ntmps141;go_wp2_with fail;go_quiet (fail);go_wp2;go_ret;exact⟨by rw[af bf];rfl,af W_ _⟩
def eV(c:UInt8):UInt8:=if 65<=c.toNat/\c.toNat<=90 then UInt8.ofNat (c.toNat+32)else c
theorem asY(l:ah)(k:Nat)(c:UInt8)(h:k<l.length):((l.take k).map eV++l.drop k).set k (eV l[k])=(l.take (k+1)).map eV++l.drop (k+1):=by have e1:((l.take k).map eV).length=k:=aP;rw[ko h,gp h,NU,aF ae,e1,rJ,gJ,fP,eC];rfl
theorem asZ(l:ah)(k:Nat)(h:k<l.length)(hc:eV l[k]=l[k]):(l.take (k+1)).map eV++l.drop (k+1)=(l.take k).map eV++l.drop k:=by rw[ko h,gp h,gJ,fP];simp only[jL,rI,hc,ZV]
theorem afS(l:ah)(w:World)(hl:l.length<=1000000) :
  aB 142 #[ay l] w (bQ (ay (l.map eV)) w):=by
 have kb:=run_bytes_of_string (P:=prog) w 9 58 5 (aq l) underlying9 underlying58 underlying5;have eZ:=ag (aex w l (grownCap w (aq l).size 0 5));have aX:=ag ((bR w.heap.size w).drew.alloc (bH w.heap.size) (.cells (bytesRow (aq l) (grownCap w (aq l).size 0 5)) 5 ((bytesRow (aq l) (grownCap w (aq l).size 0 5)).size,(bytesRow (aq l) (grownCap w (aq l).size 0 5)).size+1)));have dt:l.length<=grownCap w (aq l).size 0 5:=by{have:=grownCap_ge w (aq l).size 0 5;rw[bJ]at this ⊢;exact this};generalize grownCap w (aq l).size 0 5=cap at *;generalize w.drew.alloc (.cells (bytesRow (aq l) cap) 5 ((bytesRow (aq l) cap).size,(bytesRow (aq l) cap).size+1))=W at *;have hs:(aq l).size=l.length:=bJ l;go_enter func142,ntmps142;go_wp2_with fail;go_loopw [4] (fun i wr=>∃k:Nat,i=aj k/\k<=l.length/\DG wr w.heap.size ((l.take k).map eV++l.drop k)/\au w wr) (fun i _=>l.length - (intOf i).toNat);case atStart=>exact⟨0,rfl,cV _,by simpa using af eZ,aX⟩
 case round =>(
 obtain⟨k,rfl,hk,dw,hb⟩:=hrel;have mD:=ag dw;have rk:=ag hb;clear dw hb;by_cases hlk:k<l.length;{
 have hlen:((l.take k).map eV++l.drop k).length=l.length:=aP;have hcell:wr.cell? (ak w.heap.size k)=some (.int .u8 l[k].toNat):=by{rw[mD.2.1 k ae];rw[JY aP,Cw];simp[v_ hk]};have hfz:wr.frozen? (ak w.heap.size k)=false:=mD.2.2 k ae;have dA:=ag (asY l k 0 hlk);have HS:=ag (mD.set k (eV l[k]) ae);have cu:=ag (asZ l k hlk);generalize l[k]=c at *;have hc:=kZ c;have gR:Hid (((eV c).toNat:Int)=if 65<=c.toNat/\c.toNat<=90 then(c.toNat:Int)+32 else c.toNat):=by{unfold Hid eV;split;{simp[lJ];omega};{rfl}};have HC:Hid (eV c=c->DG wr w.heap.size ((l.take (k+1)).map eV++l.drop (k+1))):=fun h=>by rw[af cu h];exact mD
 rw[af dA]at HS;have eG:Hid (¬(65<=c.toNat/\c.toNat<=90)->eV c=c):=fun h1=>by unfold eV;rw[aF h1]
 generalize hn:c.toNat=n at *;clear hlen;by_cases h1:65<=n/\n<=90;{
 have hv:((eV c).toNat:Int)=(n:Int)+32:=by rw[af gR,aJ h1]
 rw[hv]at HS;clear hv;obtain⟨h1,h2⟩:=h1;go_wp2;exact⟨⟨k+1,bW,ae,HS,rk.setCell aA _⟩,c5⟩};{have aW:=ag (HC (eG h1));by_cases h4:65<=n;{have h5:¬n<=90:=ae;clear h1;go_wp2;exact⟨⟨k+1,bW,ae,aW,rk⟩,c5⟩};{clear h1;go_wp2;exact⟨⟨k+1,bW,ae,aW,rk⟩,c5⟩}}};{
 have fJ:k=l.length:=ae;have hend:Hid ((l.take k).map eV++l.drop k=l.map eV):=by rw[Hid,fJ];simp
 have dw:=af mD;rw[af hend]at dw;have DI:(l.map eV).length=l.length:=ar;have kc:=Ta (P:=prog) wr 58 9 5 (ak w.heap.size 0) cap (l.map eV) underlying58 underlying5 underlying9 (fun j hj=>by{
 have e:((ak w.heap.size 0):Addr).add j=(ak w.heap.size j):=by unfold Addr.add;by_cases h:j=0 <;> simp[h]
 rw[e];exact dw.2.1 j hj})
 rw[DI]at kc;clear dw DI;subst fJ;go_wp2;go_ret;exact⟨rfl,rk⟩})
theorem kU(a b:ah):aq a++aq b=aq (a++b):=by unfold aq;apply NI;simp
theorem QW(s:ah)(w:World)(hl:s.length<=1000000)(hn:dz 4294967295 s=true) :
  aB 206 #[.string (aq s)] w fun e w'=>e=.returned (aj (iY 4294967295 s))/\w'=w:=by have H:=ag (Fq s 4294967295 w hl ae);go_enter func206,ntmps206;go_wp2_with fail;refine H.mono ?_;rintro e w1 ⟨⟨v,rfl,hv⟩,rfl⟩;have hv':=hv hn;subst hv';clear H hv;go_wp2;go_ret;exact⟨rfl,rfl⟩
def uj(c:Nat)(aa tc:Bool):Nat:=128+c/8%16*8+c%2+(if aa=true then 4 else 0)+(if tc=true then 2 else 0)
def qw(l:List Nat):ah:=l.flatMap fun n=>[ax n,bO n]
theorem Xa:∀l:List Nat,(qw l).length=2*l.length
 | []=>rfl
 | n :: l=>by have:=Xa l;unfold qw at this ⊢; simp only[iV,bj,bP,fy];omega
def qx(s:ah)(aa tc:Bool)(rc:Nat)(cs:List Nat):ah:=s.take 2++[UInt8.ofNat (uj (s.getD 2 0).toNat aa tc),UInt8.ofNat (rc%16)]++qw cs
theorem afT(s:ah)(aa tc:Bool)(rc g cap:Nat)(cs:List Nat)(w:World)(hs:12<=s.length)(hl:s.length<=1000000000)(qy:rc<4096)(hcs:cs.length=4)(hcb:∀c∈cs,c<65536)(hg:g<w.heap.size)(hcell:∀j (h:j<cs.length),w.cell? (ak g j)=some (aj (cs[j]:Nat))) :
  aB 75 #[.string (aq s),.bool aa,.bool tc,aj rc,aD g 0 4 cap] w (bQ (.string (aq (qx s aa tc rc cs))) w):=by
 obtain⟨c,hc⟩:∃c:UInt8,c=s[2]:=⟨_,rfl⟩;have hz:(aq s).size=s.length:=bJ s;have g2:∀h:2<(aq s).size,(aq s)[2]=c:=fun h=>hc.symm;obtain⟨x,hx⟩:=bF c.toNat;have hxb:x<256:=by rw[hx];exact kZ c
 have H6:Hid ((s.getD 2 0).toNat=x):=by rw[Hid,mU,iw ae,hx,hc];rfl
 have q1:(c.toNat:Int)=(x:Int):=by rw[hx]
 obtain⟨Gs,afU⟩:∃y,y=x/8:=⟨_,rfl⟩;obtain⟨x16,afV⟩:∃y,y=Gs%16:=⟨_,rfl⟩;obtain⟨x2,hx2⟩:∃y,y=x%2:=⟨_,rfl⟩;obtain⟨b0,hb0⟩:∃y,y=128+x16*8+x2:=⟨_,rfl⟩;have i1:IntKind.i64.wrap (x:Int)=(x:Int):=by rw[fF];omega
 have i2:(x:Int).tdiv 8=(Gs:Int):=by rw[ZN ae];omega
 have as0:(x:Int)/8=(Gs:Int):=ae;have as1:IntKind.i64.wrap (Gs:Int)=(Gs:Int):=by rw[fF];omega
 have i3:(Gs:Int).tmod 16=(x16:Int):=by rw[SB ae];omega
 have as2:(Gs:Int)%16=(x16:Int):=ae;have i4:IntKind.i64.wrap ((x16:Int)*8)=(x16:Int)*8:=by rw[fF];omega
 have i5:IntKind.i64.wrap (128+(x16:Int)*8)=128+(x16:Int)*8:=by rw[fF];omega
 have i6:(x:Int).tmod 2=(x2:Int):=by rw[SB ae];omega
 have as3:(x:Int)%2=(x2:Int):=ae;have i7:IntKind.i64.wrap (128+(x16:Int)*8+(x2:Int))=(b0:Int):=by rw[fF];omega
 have Gt:(2:Int)<(s.length:Int):=ae;have hl2:2<s.length:=ae;have W_:=ag (fun n=>pj (bR w.heap.size w) n);obtain⟨b4,hb4⟩:∃y,y=b0+(if aa=true then 4 else 0):=⟨_,rfl⟩;obtain⟨bt,oX⟩:∃y,y=b4+(if tc=true then 2 else 0):=⟨_,rfl⟩;have afW:Hid (bt=uj (s.getD 2 0).toNat aa tc):=by rw[Hid,uj,af H6,oX,hb4,hb0,afV,afU,hx2]
 have aAw:b0<256:=ae;have aAx:b4<256+8:=by rw[hb4];cases aa <;> simp <;> omega
 have aAy:bt<256+16:=by rw[oX];cases tc <;> simp <;> omega
 obtain⟨r16,afX⟩:∃y,y=rc%16:=⟨_,rfl⟩;have j1:(rc:Int).tmod 16=(r16:Int):=by rw[SB ae];omega
 have j1':(rc:Int)%16=(r16:Int):=ae;obtain⟨u,hu⟩:∃u:UInt8,u=UInt8.ofNat bt:=⟨_,rfl⟩;obtain⟨v,hv⟩:∃v:UInt8,v=UInt8.ofNat r16:=⟨_,rfl⟩;have j2:IntKind.u8.wrap (bt:Int)=(u.toNat:Int):=by rw[AB,hu,lJ];omega
 have j3:IntKind.u8.wrap (r16:Int)=(v.toNat:Int):=by rw[AB,hv,lJ];omega
 have Mq:Hid (qx s aa tc rc cs=s.take 2++[u,v]++qw cs):=by rw[Hid,qx,<- af afW,hu,hv,afX]
 have HC:=ag hcell;have iK:=ag hcb;have CT:=ag hcs;have aAz:r16<16:=ae;have Jf:Hid ((aa=true/\(b0:Int)+4=(b4:Int))\/(aa=false/\b4=b0)):=by{unfold Hid;cases aa;{exact .inr ⟨rfl,by rw[hb4];rfl⟩};{exact .inl ⟨rfl,by rw[hb4];simp⟩}};have tO:Hid ((tc=true/\(b4:Int)+2=(bt:Int))\/(tc=false/\bt=b4)):=by{unfold Hid;cases tc;{exact .inr ⟨rfl,by rw[oX];rfl⟩};{exact .inl ⟨rfl,by rw[oX];simp⟩}};clear hc hx afU afV hx2 hb0 hb4 oX H6 afW afX hu hv hcell hcb hcs;go_enter func75,ntmps75;go_wp2_with fail;go_quiet (fail);have bZ:=ag (W_ nq);generalize w.drewN nq=w1 at *;have kt:(aq s).extract 0 2=aq (s.take 2):=OM s 2 ae;have Xb:(aq (s.take 2)).size=2:=by rw[bJ,gD];omega
 have kc:=Gr w1 [u,v] 2 rfl (by simp[maxLen]);have Mr:(convert 58 9 (aD w1.heap.size 0 2 2)).run prog (w1.alloc (.cells #[.int .u8 u.toNat,.int .u8 v.toNat] 5)).drew=.ok (.string (aq [u,v])) (w1.alloc (.cells #[.int .u8 u.toNat,.int .u8 v.toNat] 5)).drew:=Gr w1.drew [u,v] 2 rfl (by simp[maxLen]);have QX:(aq [u,v]).size=2:=rfl;have xu:aq (s.take 2)++aq [u,v]=aq (s.take 2++[u,v]):=kU _ _;have bU:Hid (au w (w1.alloc (.cells #[.int .u8 u.toNat,.int .u8 v.toNat] 5)).drew):=(bZ.alloc bZ.size _).drew;clear kc g2 q1 i1 i2 as0 as1 i3 as2 i4 i5 i6 as3 i7;rcases af Jf with⟨rfl,r1⟩|⟨rfl,rfl⟩ <;> rcases af tO with⟨rfl,r2⟩|⟨rfl,rfl⟩;all_goals(clear Jf tO;go_wp2_with fail;go_region)
 all_goals(
 generalize (w1.alloc (.cells #[.int .u8 u.toNat,.int .u8 v.toNat] 5)).drew=w2 at *;obtain⟨p4,Gu⟩:∃p4:ah,p4=s.take 2++[u,v]:=⟨_,rfl⟩;have as4:Hid (p4.length=4):=by rw[Hid,Gu,bj,gD];simp;omega
 rw[<- Gu]at Mq;rw[<- Gu];clear Gu xu kt Mr Xb QX;go_wp2_with fail;go_loopw [12,13] (fun out iv wr=>∃k:Nat,out=.string (aq (p4++qw (cs.take k)))/\iv=aj k/\k<=4/\au w wr) (fun _ iv _=>4 - (intOf iv).toNat);case atStart=>exact⟨0,by simp[qw],rfl,ae,bU⟩
 case round =>(
 obtain⟨k,rfl,rfl,hk,hb⟩:=hrel;by_cases hlk:k<4;{
 have Xc:k<cs.length:=by rw[af CT];exact hlk
 have hce:wr.cell? (ak g k)=some (aj (cs[k]:Nat)):=(hb.cell (p:=⟨g,k,none⟩) hg).trans (HC k Xc);have hcb:=af iK cs[k] (cM Xc);have QY:=ag (Af cs[k] wr hcb);have HS:Hid (qw (cs.take (k+1))=qw (cs.take k)++[ax cs[k],bO cs[k]]):=by{rw[Hid,gp Xc,qw,qw,sZ];simp};have hsz:(aq (p4++qw (cs.take k))).size<=100:=by{rw[bJ,bj,af as4];rw[Xa,gD];omega};generalize cs[k]=n at *;have aAA:(aq [ax n,bO n]).size=2:=rfl;have kn:aq (p4++qw (cs.take k))++aq [ax n,bO n]=aq (p4++qw (cs.take (k+1))):=by rw[af HS,<- fP];exact kU _ _
 generalize aq (p4++qw (cs.take k))=pk at *;have cK:=ag hb;have PM:(k:Int)<4:=ae;have qV:=ag hlk;clear hb hk hlk hcb;go_wp2_with fail;refine QY.mono ?_;rintro e w3 ⟨rfl,hb3⟩;have jb:=ag (cK.trans (hb3.mono cK.size));clear hb3 QY cK;go_wp2;exact⟨⟨k+1,rfl,bW,by have:=af qV;omega,jb⟩,by have:=af qV;simp[intOf];omega⟩};{
 obtain rfl:k=4:=ae;have bf:Hid (p4++qw (cs.take 4)=p4++qw cs):=by rw[Hid,pd (by rw[af CT];omega)]
 have cK:=ag hb;clear hb hk hlk;go_wp2;go_ret;exact⟨dE (fun x=>Ending.returned (.string (aq x))) (bf.trans Mq.symm),cK⟩}))
abbrev dN:=List (List ah×Nat)
def Ms(w:World)(v:Value)(es:dN):Prop:=(v=aH/\es = [])\/∃g cap,v=aD g 0 es.length cap/\es.length<=cap/\g<w.heap.size/\∀j (h:j<es.length),∃u,w.cell? (ak g (2*j))=some u/\en w u es[j].1/\w.cell? (ak g (2*j+1))=some (aj (es[j].2:Nat))
theorem Ms.below{w w':World}{v:Value}{es:dN}(h:Ms w v es)(hb:au w w'):Ms w' v es:=by rcases h with h|⟨g,cap,h1,h2,h3,h4⟩;{exact .inl h};{refine .inr ⟨g,cap,h1,h2,dP h3 hb.size,fun j hj=>?_⟩;obtain⟨u,k1,k2,k3⟩:=h4 j hj;exact⟨u,(hb.cell (p:=⟨g,2*j,none⟩) h3).trans k1,k2.below hb,(hb.cell (p:=⟨g,2*j+1,none⟩) h3).trans k3⟩}
def dW(w:World)(wb:Nat)(s:ah)(v:Value):Prop:=w.heap[wb]? = some (.cells #[.string (aq s),v] 229)
section
variable {w:World} {wb:Nat} {s:ah} {v:Value}
theorem dW.lt(h:dW w wb s v):wb<w.heap.size:=(bV.1 h).1
theorem dW.cells(h:dW w wb s v):w.cell? (ak wb 0)=some (ay s)/\w.cell? (ak wb 1)=some v:=by unfold dW at h;exact⟨by simp[World.cell?,h],by simp[World.cell?,h]⟩
theorem dW.below{w':World}(h:dW w wb s v)(hb:au w w'):dW w' wb s v:=(hb.block wb h.lt).trans h
end
def jv(n:List ah):dN->Option Nat
 | []=>none
 | e :: es=>if e.1=n/\e.2<16384 then some e.2 else jv n es
def Gv(x:Option Nat):Int:=match x with
 | some a=>a
 | none=>-1
theorem as5(wb:Nat)(s:ah)(v u:Value)(es:dN)(n:List ah)(w:World)(hw:dW w wb s v)(he:Ms w v es)(hu:en w u n)(hn:n.length<=1000)(hes:∀e∈es,e.1.length<=1000/\e.2<=1000000)(hel:es.length<=1000000) :
  aB 204 #[aM wb,u] w (bQ (aj (Gv (jv n es))) w):=by
 obtain⟨R,hR⟩:=bF (Gv (jv n es));rw[<- hR];have ui:=ag hR;obtain⟨va,vn,vc,hv,Jg⟩:∃va vn vc,v=.slice va vn vc/\Hid (vn=es.length):=by{rcases he with⟨rfl,rfl⟩|⟨g,cap,rfl,_⟩;{exact⟨_,_,_,rfl,rfl⟩};{exact⟨_,_,_,rfl,rfl⟩}};have bf:=ag he;have HW:=ag hw;have HU:=ag hu;have Mt:=ag hes;have Qq:vn<=1000000:=by rw[af Jg];exact hel
 subst hv;clear he hw hu hes hR hel;go_enter func204,ntmps204;go_wp2_with fail;go_loopw [5] (fun iv wr=>∃k:Nat,iv=aj k/\k<=vn/\Gv (jv n (es.drop k))=R/\au w wr) (fun iv _=>vn - (intOf iv).toNat);case atStart=>exact⟨0,rfl,cV _,ui.symm,bR _ _⟩
 case round =>(
 obtain⟨k,rfl,hk,hf,hb⟩:=hrel;have cw:=(HW.below hb).cells.2;have aX:=ag hb;have aW:=ag hf;by_cases hlk:k<vn;{
 have xi:k<es.length:=by rw[<- af Jg];exact hlk
 obtain⟨g,cap,hv,dt,hg,hall⟩:=((bf.below hb)).resolve_left (fun h=>by rw[h.2]at xi;simp at xi);obtain⟨afY,k1,k2,k3⟩:=hall k xi;have hsm:=af Mt es[k] (cM xi);have qh:=ag (yc afY u es[k].1 n wr k2 (HU.below hb) hsm.1 hn);have HD:Hid (Gv (if es[k].1=n/\es[k].2<16384 then some es[k].2 else jv n (es.drop (k+1)))=R):=by{have:=af aW;rw[ko xi,jv]at this;exact this};obtain⟨rfl,rfl,rfl⟩:va=some ⟨g,0,none⟩/\vn=es.length/\vc=cap:=by simpa using hv
 generalize es[k].1=ek at *;generalize es[k].2=Jh at *;have aAB:=hsm.2;have K2:=ag dt;have rR:(k:Int)<(es.length:Int):=ae;have m2:wr.cell? (ak g (k*2))=some afY:=by rw[CE];exact k1
 have m3:wr.cell? (ak g (k*2+1))=some (aj Jh):=by rw[CE];exact k3
 have HG:=ag hg;clear hb hf hall k2 hsm hv dt bf aW hg;go_wp2_with fail;refine qh.mono ?_;rintro e w3 ⟨rfl,hb3⟩;have QZ:=((HW.below aX).below hb3).cells.2;have n3:w3.cell? (ak g (k*2+1))=some (aj Jh):=(hb3.cell (p:=⟨g,k*2+1,none⟩) (af HG)).trans m3;have jb:=ag (aX.trans (hb3.mono aX.size));have qV:=ag hlk;clear hb3 qh cw m2 m3 aX k1 xi hk hlk k3;by_cases h1:ek=n;{have hd:decide (ek=n)=true:=iy h1;rw[hd];by_cases h2:Jh<16384;{have Ab:Hid ((Jh:Int)=R):=by{have:=af HD;rw[aJ ⟨h1,h2⟩]at this;exact this};have Pn:(Jh:Int)<16384:=ae;clear HD hd h1 h2;go_wp2;go_ret;exact⟨dE (fun x=>Ending.returned (aj x)) (af Ab),jb⟩};{have Ab:Hid (Gv (jv n (es.drop (k+1)))=R):=by{have:=af HD;rw[aF (fun h=>h2 h.2)]at this;exact this};have Pn:¬(Jh:Int)<16384:=ae;clear HD hd h1 h2;go_wp2;exact⟨⟨k+1,bW,qV,Ab,jb⟩,by have:=af qV;simp[intOf];omega⟩}};{have hd:decide (ek=n)=false:=iB h1;rw[hd];have Ab:Hid (Gv (jv n (es.drop (k+1)))=R):=by{have:=af HD;rw[aF (fun h=>h1 h.1)]at this;exact this};clear HD hd h1;go_wp2;exact⟨⟨k+1,bW,qV,Ab,jb⟩,by have:=af qV;simp[intOf];omega⟩}};{have fJ:k=vn:=ae;subst fJ;have Ab:Hid ((-1:Int)=R):=by{have:=af aW;rw[af Jg,vU]at this;exact this};have Gt:¬(k:Int)<(k:Int):=ae;clear hb hf aW hk hlk Jg;go_wp2;go_ret;exact⟨dE (fun x=>Ending.returned (aj x)) (af Ab),aX⟩})
def sR(x:Value×List ah×Nat):List Value:=[x.1,aj x.2.2]
def eR(w:World)(base wb:Nat)(v:Value)(es:dN):Prop :=
 ∃xs:List (Value×List ah×Nat),xs.map (·.2)=es/\w.ownsRow base 301 2 v xs.length (xs.flatMap sR) /\
  ∀y∈xs,iq w (fun k=>k=wb\/some k=v.ownBlock) y.1 y.2.1
structure ed(wb:Nat)(w:World)(v:Value)(w':World)(v':Value):Prop where
 fr:bn (fun k=>k≠wb/\some k≠v.ownBlock) w w'
 ob:∀k,v'.ownBlock=some k->v.ownBlock=some k\/w.heap.size<=k
theorem ed.refl(wb:Nat)(w:World)(v:Value):ed wb w v w v:=⟨bn.refl _ _,fun _ h=>.inl h⟩
theorem ed.xw{wb:Nat}{w w':World}{v:Value}(h:au w w'):ed wb w v w' v:=⟨bn.uM h,fun _ h=>.inl h⟩
section
variable {wb:Nat} {w w' w2:World} {v v' v2:Value}
theorem ed.trans(h:ed wb w v w' v')(k:ed wb w' v' w2 v2):ed wb w v w2 v2 where
 fr:=⟨k.fr.os.trans h.fr.os,k.fr.tape.trans h.fr.tape,k.fr.output.trans h.fr.output,a_ h.fr.size k.fr.size,fun i ax hp=>(k.fr.block i (dP ax h.fr.size) ⟨hp.1,fun e=>(h.ob i e.symm).elim (fun e=>hp.2 e.symm) (fun e=>ae)⟩).trans (h.fr.block i ax hp)⟩
 ob:=fun i ax=>(k.ob i ax).elim (h.ob i) (fun e=>.inr (a_ h.fr.size e))
theorem ed.nm(h:ed wb w v w' v'){u:Value}{ls:List ah}(hu:iq w (fun k=>k=wb\/some k=v.ownBlock) u ls):iq w' (fun k=>k=wb\/some k=v'.ownBlock) u ls:=by obtain⟨g,off,cap,h1,h2,h3,h4⟩:=hu;refine⟨g,off,cap,h1,h2,h3.fr h.fr ⟨fun e=>h4 (.inl e),fun e=>h4 (.inr e)⟩,fun hc=>hc.elim (fun e=>h4 (.inl e)) (fun e=>(h.ob g e.symm).elim (fun e=>h4 (.inr e.symm)) (fun e=>?_))⟩;have:=h3.1;omega
end
theorem eR.nil(w:World)(base wb:Nat):eR w base wb (aH) []:=⟨[],rfl,ia w base _ 2,fun y hy=>by cases hy⟩
theorem Xd:∀(ys:List (Value×List ah×Nat)),(ys.flatMap sR).length=ys.length*2
 | []=>rfl
 | z :: ys=>by rw[iV,bj,Xd ys,bP];show 2+_=_;omega
section
variable {w:World} {base wb:Nat} {v:Value} {es:dN} (h:eR w base wb v es)
include h
theorem eR.slice:∃a c,v=.slice a es.length c:=by obtain⟨xs,rfl,h1,_⟩:=h;rw[bY];rcases h1.2 with⟨rfl,h0⟩|⟨g,cap,_,rfl,_⟩;{exact⟨none,0,by rw[h0]⟩};{exact⟨_,_,rfl⟩}
theorem eR.lt:∀k,v.ownBlock=some k->base<=k/\k<w.heap.size:=by obtain⟨xs,_,h1,_⟩:=h;exact iW h1
theorem eR.ne{s:ah}{u:Value}(hw:dW w wb s u):some wb≠v.ownBlock:=fun e=>by
 obtain⟨xs,_,h1,_⟩:=h;rcases h1.2 with⟨rfl,_⟩|⟨g,cap,cur,rfl,_,aZ,_⟩
 ·cases e
 ·have:wb=g:=by simpa [Value.ownBlock]using e
  subst this;rw[hw]at aZ;simp at aZ
theorem eR.below{w':World}(hb:au w w'):eR w' base wb v es:=by obtain⟨xs,h0,h1,h2⟩:=h;exact⟨xs,h0,ic h1 hb,fun y hy=>(h2 y hy).fr (p:=fun _=>True) (bn.uM hb) (fun _ _=>aQ)⟩
theorem eR.set(hne:some wb≠v.ownBlock)(i:Nat)(u:Value):eR (w.setCell ⟨wb,i,none⟩ u) base wb v es:=by obtain⟨xs,h0,h1,h2⟩:=h;have hf:bn (fun k=>k≠wb) w (w.setCell ⟨wb,i,none⟩ u):=bn.jD u (fun _ h=>h);refine⟨xs,h0,⟨h1.1,?_⟩,fun y hy=>(h2 y hy).fr hf (fun k hk e=>hk (.inl e))⟩;rcases h1.2 with hn|⟨g,cap,cur,rfl,hb,zQ,rest⟩;{exact .inl hn};{exact .inr ⟨g,cap,cur,rfl,hb,(hf.block g (bV.1 zQ).1 (fun e=>hne (by rw[e];rfl))).trans zQ,rest⟩}
theorem eR.afZ{s:ah}{u:Value}(hw:dW w wb s u)(i:Nat)(x:Value):eR (w.setCell ⟨wb,i,none⟩ x) base wb v es:=h.set (h.ne hw) i x
theorem eR.ends:Ms w v es:=by
 obtain⟨xs,rfl,h1,h2⟩:=h;rcases h1.2 with⟨hv,hn⟩|⟨g,cap,cur,hv,hg,aZ,dt,_,hsz,ja⟩;{refine .inl ⟨hv,?_⟩;rw[fp hn];rfl};{
 refine .inr ⟨g,cap,by rw[bY];exact hv,by rw[bY];exact dt,(bV.1 aZ).1,fun j hj=>?_⟩;rw[bY]at hj;have flat:∀(ys:List (Value×List ah×Nat)) (k i:Nat) (hk:k<ys.length),i<2->(ys.flatMap sR)[k*2+i]? = (sR ys[k])[i]?:=by{
 intro ys;induction ys with
 | nil=>intro k i hk;simp at hk
 | cons y ys ih =>{
 intro k i hk ax;have h5:(sR y).length=2:=rfl;cases k with
 | zero=>rw[iV,rK,eY,EO ae];rfl
 | succ k =>{rw[iV,y_ ae,h5,show(k+1)*2+i - 2=k*2+i by omega];exact ih k i (by simpa using hk) ax}}};have hcell:∀i,i<2->w.cell? (ak g (2*j+i))=(sR xs[j])[i]?:=by{intro i ax;rw[CE,<- flat xs j i hj ax,<- ja,ze ae];unfold World.cell?;rw[aZ];simp};rw[vW];exact⟨xs[j].1,hcell 0 ae,(h2 xs[j] (cM hj)).nm,hcell 1 ae⟩}
end
theorem af0:prog.underlying 227=some (.slice 301):=aI
theorem af1:(prog.info? 301).map (fun i=>(i.zero,i.size,i.bytes))=some (some (.agg #[aH,aj 0]),2,32):=aI
theorem as6(W:World)(b:Nat)(hb:b=W.heap.size)(x y:Value)(t:TypeId):∀(j:Nat) (u:Value),[x,y][j]? = some u->(W.alloc (.cells #[x,y] t)).cell? (((ak b 0):Addr).add j)=some u:=fun j u hj=>by
 subst hb;have hn:=World.alloc_heap_new W (.cells #[x,y] t);generalize W.alloc (.cells #[x,y] t)=W' at hn ⊢;generalize W.heap.size=b at hn ⊢
 match j,hj with
 | 0,hj=>simp at hj;subst hj;simp[Addr.add,World.cell?,hn]
 | 1,hj=>simp at hj;subst hj;simp[Addr.add,World.cell?,hn]
 | n+2,hj=>simp at hj
def cC(ns:List ah):List ah:=ns.map (List.map eV)
theorem uk(ns:List ah):(cC ns).length=ns.length:=by simp[cC]
theorem as7(ns:List ah)(k:Nat):cC (ns.drop k)=(cC ns).drop k:=by simp[cC,J4]
def bB:List ah->ah->dN->ah×dN
 | [],S,es=>(S++[0],es)
 | x :: t,S,es=>match jv (cC (x :: t)) es with
  | some a=>(S++[ax (49152+a),bO (49152+a)],es)
  | none=>bB t (S++(UInt8.ofNat x.length :: x)) (es++[(cC (x :: t),S.length)])
theorem Ea{x:ah}{t:List ah}{S:ah}{es:dN}{a:Nat}(h:jv (cC (x :: t)) es=some a):bB (x :: t) S es=(S++[ax (49152+a),bO (49152+a)],es):=by rw[bB,h]
theorem yM{x:ah}{t:List ah}{S:ah}{es:dN}(h:jv (cC (x :: t)) es=none):bB (x :: t) S es=bB t (S++(UInt8.ofNat x.length :: x)) (es++[(cC (x :: t),S.length)]):=by rw[bB,h]
theorem dW.frozen{w:World}{wb:Nat}{s:ah}{v:Value}(h:dW w wb s v)(i:Nat):w.frozen? (ak wb i)=false:=by unfold dW at h;simp[World.frozen?,h]
theorem dW.set0{w:World}{wb:Nat}{s:ah}{v:Value}(h:dW w wb s v)(x:ah):dW (w.setCell ⟨wb,0,none⟩ (.string (aq x))) wb x v:=by unfold dW at *;simp only[World.setCell,fw,gZ,h];rfl
theorem dW.set1{w:World}{wb:Nat}{s:ah}{v:Value}(h:dW w wb s v)(x:Value):dW (w.setCell ⟨wb,1,none⟩ x) wb s x:=by unfold dW at *;simp only[World.setCell,fw,gZ,h];rfl
theorem Xe(wb:Nat)(w:World)(v:Value)(i:Nat)(x:Value):ed wb w v (w.setCell ⟨wb,i,none⟩ x) v:=⟨bn.jD x (fun _ h=>h.1),fun _ h=>.inl h⟩
theorem yN{w w2 w3:World}{base wb:Nat}{s:ah}{v oK:Value}{ek:dN}(hw:dW w2 wb s oK)(ho:eR w2 base wb oK ek)(hs:ed wb w v w2 oK)(hb:au w2 w3)(x:ah) :
  dW (w3.setCell ⟨wb,0,none⟩ (.string (aq x))) wb x oK/\eR (w3.setCell ⟨wb,0,none⟩ (.string (aq x))) base wb oK ek/\ed wb w v (w3.setCell ⟨wb,0,none⟩ (.string (aq x))) oK :=
 ⟨(hw.below hb).set0 x,(ho.below hb).afZ (hw.below hb) 0 _,(hs.trans (ed.xw hb)).trans (Xe _ _ _ _ _)⟩
theorem abb{w w3:World}{base wb a:Nat}{v v3 u:Value}{ls:List ah}{xs:List (Value×List ah×Nat)}(h2:∀y∈xs,iq w (fun k=>k=wb\/some k=v.ownBlock) y.1 y.2.1)(hu:iq w (fun k=>k=wb\/some k=v.ownBlock) u ls)(bT:ed wb w v w3 v3)
  (hrow:w3.ownsRow base 301 2 v3 (xs.length+1) (xs.flatMap sR++[u,aj a])):eR w3 base wb v3 (xs.map (·.2)++[(ls,a)]):=by
 refine⟨xs++[(u,ls,a)],by rw[gJ];rfl,by rw[bj,sZ];exact hrow,fun y hy=>?_⟩;rcases gm.1 hy with hy|hy;{exact bT.nm (h2 y hy)};{
 obtain rfl:y=_:=by simpa using hy
 exact bT.nm hu}
theorem af2{n:List ah}{a:Nat} : ∀ {es:dN},jv n es=some a->a<16384
 | e :: es,h=>by unfold jv at h;split at h;{rename_i hc;simp at h;subst h;exact hc.2};{exact af2 h}
theorem Xf(wb base:Nat)(S:ah)(v:Value)(es:dN)(gn no nc:Nat)(ns:List ah)(w:World)(hw:dW w wb S v)(he:eR w base wb v es)(hu:fS w gn no ns)(qa:ns.length<=nc)(Fj:gn≠wb)(pR:some gn≠v.ownBlock)(bX:base<=w.heap.size)(hne:ns≠[])(hn:ns.length<=300)(hnl:∀x∈ns,x.length<=255)
  (hS:S.length<=900000) (hes:∀e∈es,e.1.length<=1000/\e.2<=1000000) (hel:es.length<=900000) :
  aB 144 #[aM wb,aD gn no ns.length nc] w fun e w'=>e=.returned (.tuple #[])/\∃v',dW w' wb (bB ns S es).1 v'/\eR w' base wb v' (bB ns S es).2/\ed wb w v w' v':=by
 obtain⟨i0,lQ,hz0,hz1,hz2⟩:=kJ HZ;obtain⟨Xg,Xh,yJ,hy1,hy2⟩:=kJ af1;obtain⟨R,hR⟩:=bF (bB ns S es);rw[<- hR];have bC:=ag hR;have HW:=ag hw;have bf:=ag he;have HU:=ag hu;have Eb:=ag hnl;have Mt:=ag hes;have hwl:=hw.lt;have np:=hu.1;clear hR hw he hu hnl hes;go_enter func144,ntmps144;go_wp2_with fail;go_loopw [4,5] (fun lv iv wr=>∃k:Nat,iv=aj k/\k<=ns.length/\mK wr w.heap.size lv ((cC ns).take k)/\au w wr) (fun _ iv _=>ns.length - (intOf iv).toNat);case atStart=>exact⟨0,rfl,cV _,⟨ia _ _ _ _,ar⟩,bR _ _⟩
 case round =>(
 obtain⟨k,rfl,hk,nz,hb⟩:=hrel;have aX:=ag hb;have HO:=ag nz;have jO:=hb.size;clear hb nz;by_cases hlk:k<ns.length;{
 have aC:wr.cell? (ak gn (no+k))=some (.string (aq ns[k])):=(aX.cell (p:=⟨gn,no+k,none⟩) np).trans (HU.2 k hlk);have g_:=af Eb ns[k] (cM hlk);have cS:Hid ((cC ns).take (k+1)=(cC ns).take k++[ns[k].map eV]):=by{rw[Hid,gp (by rw[uk];exact hlk)];simp[cC]};have ej:Hid (((cC ns).take k).length=k):=by rw[Hid,gD,uk,v_ hk]
 generalize ns[k]=x at *;have qh:=ag (afS x wr ae);have Gt:(k:Int)<(ns.length:Int):=ae;generalize Xi:(cC ns).take k=L at *;clear Xi g_;go_wp2_with fail;refine qh.mono ?_;rintro e w2 ⟨rfl,hb2⟩;have bU:=ag hb2;have hs2:=hb2.size;have gv:=ag (ic HO.1 hb2);have Q0:=af ej;clear hb2 qh aC;go_wp2_with (at_builtin;go_loud (refine CH _ rfl (.tmp 14) (.tmp 20) 113 rfl w.heap.size 9 i0 (.string ⟨#[]⟩) 1 16 Iw lQ hz0 hz1 hz2 rfl bD _ L.length _ rfl (gv.alloc _) (ak w2.heap.size 0) 1 1 [ay (x.map eV)] rfl rfl (N4 _ _ _) (fun u hu=>by simp at hu;subst hu;rfl) (by unfold maxLen;omega) ae aP ?_));intro v' w3 hown' hgrow x9 _;have eE:Hid (mK w3 w.heap.size v' ((cC ns).take (k+1))/\au w w3):=by{rw[Hid,af cS];refine⟨⟨by rw[bj,gJ,af ej];exact hown',⟨fun h=>absurd h (by simpa using x9),fun h=>by simp at h⟩⟩,?_⟩;have hB:=aX.trans (bU.mono aX.size);exact(hB.alloc ae _).trans ⟨hgrow.os,hgrow.tape,hgrow.output,hgrow.size,fun k hk=>hgrow.block k aP (fun e=>by have:=(iW (af gv) k e.symm).1;omega)⟩};clear hown' hgrow x9;go_wp2;exact⟨⟨k+1,bW,ae,eE.1,eE.2⟩,c5⟩};{
 obtain rfl:k=ns.length:=ae;have nz:=af HO;rw[pd (by rw[uk];exact bH _)]at nz;have yC:=ag nz;clear nz HO hlk hk;have Gt:¬(ns.length:Int)<(ns.length:Int):=ae;obtain⟨gl,lc,hlv,hlc,hbl,fZ⟩:=zH (af yC) (fun h=>hne (by simpa [cC]using h));rw[uk]at hlv hlc;subst hlv;have Q1:some gl≠v.ownBlock:=fun e=>by have:=(bf.lt gl e.symm).2;omega
 have gR:=ag (bg pR Q1);have vk:gl≠wb:=ae;have sH:Hid (dW wr wb S v/\eR wr base wb v es/\ed wb w v wr v):=⟨HW.below aX,bf.below aX,ed.xw (af aX)⟩;have Q2:=ag (HU.below aX);have DJ:=ag fZ;have as8:=fZ.1;clear yC HW bf HU fZ pR Q1;generalize wr=w1 at *;go_wp2_with fail;go_loopw [6] (fun iv wr=>∃(k:Nat) (Sk:ah) (oK:Value) (ek:dN),iv=aj k/\k<=ns.length/\Hid (bB (ns.drop k) Sk ek=R/\dW wr wb Sk oK/\eR wr base wb oK ek/\ed wb w1 v wr oK)/\Sk.length<=900000+k*256/\ek.length<=900000+k/\Hid (∀e∈ek,e.1.length<=1000/\e.2<=1000000)) (fun iv _=>ns.length - (intOf iv).toNat);case atStart=>exact⟨0,S,v,es,rfl,cV _,⟨bC.symm,sH.1,sH.2.1,ed.refl _ _ _⟩,ae,ae,Mt⟩
 case round =>(
 obtain⟨k,Sk,oK,ek,rfl,hk,HK,as9,aAC,af3⟩:=hrel;obtain⟨iQ,vE,bq,bT⟩:=af HK;obtain⟨ka,kc,rfl⟩:=bq.slice;obtain⟨c0,aC⟩:=vE.cells;have hsz:=bT.fr.size;by_cases hlk:k<ns.length;{
 have hT:=Q2.fr bT.fr ⟨Fj,gR.1⟩;have hL:=DJ.fr bT.fr ⟨vk,gR.2⟩;have cn:=hT.2 k hlk;have g_:=af Eb ns[k] (cM hlk);have Xj:ns.drop k=ns[k] :: ns.drop (k+1):=ko hlk;have af4:fS wr gl k ((cC ns).drop k):=⟨hL.1,fun j hj=>by{have:=hL.2 (k+j) (by rw[fM]at hj;omega);rw[eY]at this;rw[Cw];exact this}⟩;have Xk:iq wr (fun q=>q=wb\/some q=(Value.slice ka ek.length kc).ownBlock) (aD gl k (ns.length - k) (lc - k)) ((cC ns).drop k):=⟨gl,k,lc - k,by rw[fM,uk],by rw[fM,uk];omega,af4,fun hc=>hc.elim vk (fun e=>(bT.ob gl e.symm).elim (fun e=>gR.2 e.symm) (fun e=>ae))⟩;have Q3:=as5 wb Sk _ _ ek ((cC ns).drop k) wr vE bq.ends Xk.nm (by rw[fM,uk];omega) (af af3) ae;have ot:Hid (bB (ns[k] :: ns.drop (k+1)) Sk ek=R):=by rw[Hid,<- Xj];exact iQ
 have Mu:Hid (cC (ns[k] :: ns.drop (k+1))=(cC ns).drop k):=by rw[Hid,<- Xj,as7]
 generalize ns[k]=x at *;obtain⟨F,hF⟩:∃F,jv ((cC ns).drop k) ek=F:=⟨_,rfl⟩;rw[hF]at Q3;obtain⟨fi,Gw⟩:∃fi,Gv F=fi:=⟨_,rfl⟩;rw[Gw]at Q3;have Gm:=ag Gw;have aW:=ag hF;have um:=ag Q3;have kN:=ag Xk;have af5:=ag (bg vE (bg bq bT));have Gt:(k:Int)<(ns.length:Int):=ae;clear Gw hF Q3 Xk af4 Xj hT hL vE bq iQ HK bT;go_wp2_with fail;refine um.mono ?_;rintro e w2 ⟨rfl,hb2⟩;obtain⟨vE,bq,bT⟩:=af af5;have Ji:=vE.below hb2;have hs2:=hb2.size;have B9:=Ji.lt;obtain⟨gu,d1⟩:=Ji.cells;have fz:=Ji.frozen;have Xl:w2.cell? (ak gn (no+k))=some (ay x):=(hb2.cell (p:=⟨gn,no+k,none⟩) (by show gn<wr.heap.size;omega)).trans cn;have fO:=ag (bg Ji (bg (bq.below hb2) (bT.trans (ed.xw hb2))));have Xm:=ag ((ed.xw (wb:=wb) hb2).nm (af kN));obtain⟨Sn,Ec⟩:=bF Sk.length;have Jj:(aq Sk).size=Sn:=by rw[bJ,Ec]
 rw[<- Ec]at as9;have Xn:=ag Ec;clear vE bq bT Ji hb2 um af5 kN cn c0 aC Ec;cases F with
 | some a =>{
 have ha:=af2 (af aW);have Gw:fi=(a:Int):=Gm.symm;subst Gw;have uZ:Hid (R=(Sk++[ax (49152+a),bO (49152+a)],ek)):=by rw[Hid,<- af ot];exact Ea (by rw[af Mu];exact aW)
 obtain⟨p,hp⟩:=bF (49152+a);rw[<- hp]at uZ;have lU:p<65536:=ae;have x1:IntKind.i64.wrap (49152+(a:Int))=(p:Int):=by rw[fF];omega
 have K6:(0:Int)<=(a:Int):=ae;have QY:=ag (Af p w2.drew lU);have z2:(aq [ax p,bO p]).size=2:=rfl;have kb:aq Sk++aq [ax p,bO p]=aq (Sk++[ax p,bO p]):=kU _ _;have as_:w2.drew.cell? (ak wb 0)=some (ay Sk):=gu;clear hp aW ot Mu Xm Gm Xl d1;go_wp2_with fail;go_region_with (go_at_call 83;refine QY.mono ?_;rintro e w3 ⟨rfl,hb3⟩;have e0:w3.cell? (ak wb 0)=some (ay Sk):=(hb3.cell (p:=⟨wb,0,none⟩) B9).trans as_;have ef:∀i,w3.frozen? (ak wb i)=false:=fun i=>(AE (hb3.block wb B9)).trans (fz i));all_goals(
 have fX:=ag (yN fO.1 fO.2.1 (sH.2.2.trans fO.2.2) (aO.drew.trans hb3) (Sk++[ax p,bO p]));clear hb3 e0 ef;go_wp2_with fail;try simp only[Exit.inBlock,Exit.then]
 refine fB (zg rfl _ _ _) rfl ?_;rw[af uZ];exact⟨rfl,_,fX⟩)}
 | none =>{
 have Gw:fi = -1:=Gm.symm;subst Gw;have uZ:Hid (bB (ns.drop (k+1)) (Sk++(UInt8.ofNat x.length :: x)) (ek++[((cC ns).drop k,Sk.length)])=R):=by rw[Hid,<- af ot,yM (by rw[af Mu];exact aW),af Mu]
 obtain⟨xs,Gx,hrow,Jk⟩:=fO.2.1;have Ag:xs.length=ek.length:=by rw[<- Gx,bY]
 have Xo:=ag (bg Gx Jk);rw[Ag]at hrow;have FL:=ag hrow;have aAD:¬lc=k:=ae;have af6:=fO.2.1.ne fO.1;clear Gx hrow Jk aW ot Mu Gm;go_wp2_with fail;go_region_law (first|(refine step_append_lies _ rfl (.tmp 50) (.tmp 60) 227 rfl base 301 Xg _ 2 32 af0 Xh yJ hy1 hy2 rfl bD _ (List.length ek) (xs.flatMap sR) rfl (ic (af FL) (aO.alloc aA _).drew) _ 1 1 [aD gl k (ns.length - k) (lc - k),aj Sn] rfl rfl (fun j u hj=>as6 w2 w2.heap.size rfl _ _ _ j u hj) (fun u hu=>by simp at hu;rcases hu with rfl|rfl <;> rfl) bD (by unfold maxLen;omega) ae aP (w2.heap.size+1) ar ?_;intro g cap' w3 hown hgrow hat hlt3;have Mv:dW w3 wb Sk (.slice ka (List.length ek) kc):=((hgrow.block wb aP af6).trans (cD _ _ _ B9)).trans fO.1;have f3:=Mv.frozen;have q1:=Mv.cells.2));all_goals(
 have xx:ed wb w2 (.slice ka (List.length ek) kc) w3 (aD g 0 (List.length ek+1) cap'):=⟨⟨hgrow.os,hgrow.tape,hgrow.output,a_ ar hgrow.size,fun i ax hp=>(hgrow.block i aP hp.2).trans (cD _ _ _ ax)⟩,fun i ax=>by{
 obtain rfl:g=i:=by simpa [Value.ownBlock]using ax
 exact hat.imp id (fun e=>ae)}⟩
 have wJ:=abb Xo.2 (af Xm) xx (by rw[Ag];exact hown);rw[Xo.1]at wJ;have Mw:=Mv.set1 (aD g 0 (List.length ek+1) cap');have kR:=wJ.afZ Mv 1 (aD g 0 (List.length ek+1) cap');have Xp:=(fO.2.2.trans xx).trans (Xe wb w3 _ 1 (aD g 0 (List.length ek+1) cap'));have ata:gn<(w3.setCell ⟨wb,1,none⟩ (.slice (some ⟨g,0,none⟩) (List.length ek+1) cap')).heap.size:=dP np (a_ jO Xp.fr.size);have atb:(w3.setCell ⟨wb,1,none⟩ (.slice (some ⟨g,0,none⟩) (List.length ek+1) cap')).cell? (ak gn (no+k))=some (ay x):=(dh (a:=⟨gn,no+k,none⟩) ((xx.trans (Xe wb w3 _ 1 (aD g 0 (List.length ek+1) cap'))).fr.block gn ae ⟨Fj,fun e=>fO.2.2.ob gn e.symm |>.elim (fun e=>gR.1 e.symm) (fun e=>ae)⟩)).trans Xl;generalize w3.setCell ⟨wb,1,none⟩ (.slice (some ⟨g,0,none⟩) (List.length ek+1) cap')=w4 at *;obtain⟨y0,y1⟩:=Mw.cells;have nC:=Mw.frozen;have af7:=Mw.lt;have Q4:=ag (bg Mw (bg kR Xp));obtain⟨xl,Ed⟩:=bF (List.length x);obtain⟨u,hu⟩:∃u:UInt8,u=UInt8.ofNat xl:=⟨_,rfl⟩;have af8:(aq x).size=xl:=by rw[bJ,Ed]
 have j2:IntKind.u8.wrap (xl:Int)=(u.toNat:Int):=by rw[AB,hu,lJ];omega
 have atc:Hid (bB (ns.drop (k+1)) (Sk++u :: x) (ek++[((cC ns).drop k,Sn)])=R):=by rw[Hid,hu,Ed,af Xn];exact uZ
 have atd:xl<=255:=ae;have Xq:(w4.alloc (.cells #[.int .u8 u.toNat] 5)).drew.cell? (ak wb 0)=some (ay Sk):=(dh (a:=⟨wb,0,none⟩) (cD w4 _ wb af7)).trans y0;have Xr:(w4.alloc (.cells #[.int .u8 u.toNat] 5)).drew.cell? (ak gn (no+k))=some (ay x):=(dh (a:=⟨gn,no+k,none⟩) (cD w4 _ gn ata)).trans atb;have Xs:∀i,(w4.alloc (.cells #[.int .u8 u.toNat] 5)).drew.frozen? (ak wb i)=false:=fun i=>(AE (a:=⟨wb,i,none⟩) (cD w4 _ wb af7)).trans (nC i);have l1:¬9223372036854775807<Sn+1:=ae;have l2:¬9223372036854775807<Sn+1+xl:=ae;have Mr:(convert 58 9 (aD w4.heap.size 0 1 1)).run prog (w4.alloc (.cells #[.int .u8 u.toNat] 5)).drew=.ok (ay [u]) (w4.alloc (.cells #[.int .u8 u.toNat] 5)).drew:=Gr w4.drew [u] 1 rfl (by simp[maxLen]);have QX:(aq [u]).size=1:=rfl;have ate:aq Sk++aq [u]=aq (Sk++[u]):=kU _ _;have kb2:aq (Sk++[u])++aq x=aq (Sk++[u]++x):=kU _ _;have zs1:(aq (Sk++[u])).size=Sn+1:=by rw[bJ,bj,<- af Xn];rfl
 clear xx wJ Mv Mw kR Xp hown hgrow hat f3 q1 hu Ed uZ Xl gu d1 fz Xo Xm FL fO af6 g_ Ag;go_wp2_with fail;go_region;all_goals(
 have hF:=yN Q4.1 Q4.2.1 Q4.2.2 aO (Sk++u :: x);have ni:=((bR _ (w4.setCell ⟨wb,0,none⟩ (.string (aq (Sk++u :: x))))).alloc aA (.cells #[.int .u8 u.toNat] 5)).drew;have fX:=ag (bg (hF.1.below ni) (bg (hF.2.1.below ni) (hF.2.2.trans (ed.xw ni))));have hlen:(Sk++u :: x).length=Sn+1+xl:=by rw[bj,<- af Xn,bP,<- bJ x,af8];omega
 have C6:(ek++[((cC ns).drop k,Sn)]).length=ek.length+1:=ar;have atf:Hid (∀e∈ek++[((cC ns).drop k,Sn)],e.1.length<=1000/\e.2<=1000000):=fun e he=>by{
 rcases gm.1 he with he|he;{exact af3 e he};{
 obtain rfl:e=_:=by simpa using he
 exact⟨by show((cC ns).drop k).length<=1000;rw[fM,uk];omega,by show Sn<=1000000;omega⟩}};clear hF ni;clear Q4 Xq Xr Xs Mr y0 y1 nC;go_wp2;exact⟨⟨k+1,_,_,_,bW,ae,⟨atc,fX.1,fX.2.1,fX.2.2⟩,by rw[hlen];omega,by rw[C6];omega,atf⟩,c5⟩))}};{
 obtain rfl:k=ns.length:=ae;have Qo:Hid (R=(Sk++[0],ek)):=by{rw[Hid,<- iQ,vU];rfl};have Gt:¬(ns.length:Int)<(ns.length:Int):=ae;have fz:=vE.frozen;have fX:=ag (yN vE bq (sH.2.2.trans bT) aO (Sk++[0]));have atg:aq Sk++⟨#[0]⟩=aq (Sk++[0]):=kU Sk [0];have Jj:(aq Sk).size<=1000000:=by rw[bJ];omega
 have zz:ByteArray.size ⟨#[0]⟩=1:=rfl;clear vE bq bT iQ HK hlk;go_wp2_with fail;refine pO (v:=.tuple #[]) (by simp[results,results144]) rfl ?_;rw[af Qo];exact⟨rfl,_,fX⟩})})
end Go.Proofs.YtkkpahmoljiepaaGreatDoor
