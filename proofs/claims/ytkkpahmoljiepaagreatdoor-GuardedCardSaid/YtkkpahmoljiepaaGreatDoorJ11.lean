import Derived.Test.YtkkpahmoljiepaaGreatDoorJ10
import Derived.Deep.RegionHeldLaw
import Derived.Deep.AppendLies
set_option maxRecDepth 1000000
set_option maxHeartbeats 12800000
set_option linter.unusedSimpArgs false
set_option linter.unusedVariables false
namespace Go.Proofs.YtkkpahmoljiepaaGreatDoor
open Go.RowKit Go.Proofs.Tryz
def rq(w:World)(base:Nat)(v:Value)(fs:List iD):Prop:=w.ownsRow base 297 1 v fs.length (fs.map fun f=>.iface f.t f.x)
theorem Vz:(prog.info? 297).map (fun i=>(i.zero,i.size,i.bytes))=some (some .nilIface,1,16):=aK
theorem afM:prog.underlying 293=some (.slice 297):=aK
theorem afN(w:World)(t:TypeId)(s:ByteArray):aw w (Lib.bytesWorld w t s):=Go.Joins.below_bytesWorld _ _ _ _ aB
theorem JV(s:ByteArray)(u:Nat)(w:World)(hs:s.size<=3000)(h:Lib.parseUintB 64 s.data.toList=.ok u) :
  aF 280 #[.string s] w (cS (.int .u64 (u:Int)) w):=by have HC:=ag (Tryz.strconv_ParseUint_10_at64_ok s ae u h w);clear h;go_enter func280,ntmps280;go_wp2_with fail;refine HC.mono ?_;rintro e w1 ⟨rfl,hw1⟩;have hb:aw w w1:=by{rcases hw1 with rfl|rfl;{exact bW _ _};{exact afN _ _ _}};clear hw1;go_wp2;go_ret;exact⟨rfl,hb⟩
def Gl(d:ai)(us:List Nat):Prop:=(aS 46 d).map (Lib.parseUintB 64)=us.map .ok
def ly(us:List Nat):List iD:=us.map fun u=>jN (UInt8.ofNat u)
theorem afO(d:ai)(us:List Nat)(w:World)(hg:bH w)(aD:d.length<=3000)(hu:Gl d us) :
  aF 281 #[aA d] w fun e w'=>(∃v,e=.returned v/\rq w' w.heap.size v (ly us))/\aw w w':=by
 obtain⟨i0,au,hz0,hz1,hz2⟩:=kS Vz;have hat:=Fj w (ft 46 (ah d));have rV:=ve (ah d) 46 w hg (by rw[dt];omega);have hb:aw w (w.alloc (.cells ((ft 46 (ah d)).map Value.string).toArray 9)):=bj.alloc aB _;have iJ:Hid (∀x∈ft 46 (ah d),x.size<=3000):=fun x hx=>by{have:=Fi 46 (ah d) x hx;rw[dt]at this;omega};have VA:Hid ((ft 46 (ah d)).map (fun x=>Lib.parseUintB 64 x.data.toList)=us.map .ok):=by{have:=rU 46 (ah d);rw[qJ]at this;unfold Gl at hu;rw[<- this,pK]at hu;exact hu};have hlen:(ft 46 (ah d)).length=us.length:=by{have:=ek List.length (af VA);simpa using this};have hle:us.length<=3001:=by{have:=yl 46 (ah d).data.toList;rw[<- rU,hE,qJ]at this;omega};generalize ft 46 (ah d)=L at *;generalize w.alloc (.cells (L.map Value.string).toArray 9)=W at *;have HC:=ag rV;have aZ:=ag hb;have afP:=hb.size;rw[hlen]at HC;clear rV hb;obtain⟨hsz,hcell⟩:=hat;have eE:=ag hcell;have HLEN:=ag hlen;clear hcell hlen hu hg;go_enter func281,ntmps281;go_wp2_with (go_at_call 97;refine HC.mono ?_;rintro e W ⟨rfl,rfl⟩);go_loopw [9,3] (fun i v wr=>∃(k:Nat) (a:Option Addr) (n c:Nat),i=aq k/\v=.slice a n c/\k<=us.length/\rq wr W.heap.size (.slice a n c) (ly (us.take k))/\aw W wr) (fun i _ _=>us.length - (intOf i).toNat);case atStart=>exact⟨0,none,0,0,rfl,rfl,dY _,iI _ _ _ _,bW _ _⟩
 case round =>(
 obtain⟨k,a,n,c,rfl,rfl,hk,lN,hbr⟩:=hrel;have iN:=ag lN;have kF:=ag hbr;have fc:=hbr.size;clear lN;by_cases hlt:k<us.length;{
 have Oi:k<L.length:=by rw[af HLEN];exact hlt
 have hck:=(hbr.cell (p:=⟨w.heap.size,0+k,none⟩) hsz).trans ((af eE) k Oi);rw[kR]at hck;have tQ:(k:Int)<(us.length:Int):=ae;have gy:Lib.parseUintB 64 L[k].data.toList=.ok us[k]:=by{have:=ek (fun l:List _=>l[k]?) (af VA);simpa [Oi,hlt]using this};have dv:=ag (JV L[k] us[k] wr (iJ L[k] (iV Oi)) gy);have dJ:Hid (ly (us.take (k+1))=ly (us.take k)++[jN (UInt8.ofNat us[k])]):=by{rw[Hid,ly,kQ hlt,n_];rfl};have hwr:(us[k]:Int)%256=((UInt8.ofNat us[k]).toNat:Int):=by{rw[rQ];omega};have uk:=ag hwr;have sH:(ly (us.take k)).length=k:=by simp[ly];omega
 clear gy hbr hwr;generalize L[k]=x at *;generalize us[k]=u at *;go_wp2_with fail;refine dv.mono ?_;rintro e w2 ⟨rfl,hb2⟩;have h9:Hid (rq w2 W.heap.size (.slice a n c) (ly (us.take k))):=oq (af iN) hb2;have hs2:=hb2.size;have eu:=ag (kF.trans (hb2.mono fc));clear hb2;go_wp2_with (at_builtin;go_loud (refine I5 _ rfl (.tmp 13) (.tmp 18) 293 rfl W.heap.size 297 i0 .nilIface 1 16 afM au hz0 hz1 hz2 rfl aC _ (ly (us.take k)).length _ rfl (h9.alloc _) (ar w2.heap.size 0) 1 1 [.iface 292 (.int .u8 ((u:Int)%256))] rfl rfl ?az ?c2 ?c3 ?bw ?dm ?_));case az =>(
 intro j u' hj;match j,hj with
 | 0,hj=>simp at hj;subst hj;simp[Addr.add]
 | n+1,hj=>simp at hj)
 case c2=>intro u' A_;simp at A_;subst A_;rfl
 case c3=>unfold maxLen;omega
 case bw=>omega
 case dm=>simp;omega
 intro v' w3 hown' hgrow _;obtain⟨va,vn,vc,rfl⟩:=oy hown';have eV:Hid (rq w3 W.heap.size (.slice va vn vc) (ly (us.take (k+1)))):=by{unfold Hid rq;rw[af dJ,bU,n_,sH];rw[af uk]at hown';exact hown'};have jI:Hid (aw W w3):=(eu.alloc ae _).grown hgrow aX (fun k' gU=>(h9.lt k' gU).1);clear hown' hgrow;go_wp2;exact⟨⟨k+1,_,_,_,dD,rfl,ae,eV,jI⟩,gN⟩};{have eJ:k=us.length:=ae;subst eJ;have h9:=af iN;rw[jV]at h9;have eV:=ag h9;clear h9;go_wp2;go_ret;exact⟨⟨_,rfl,Jf (af eV) ae⟩,aZ.trans (kF.mono afP)⟩})
theorem afQ(r:aj)(us:List Nat)(w:World)(hg:bH w)(ht:r.type=1)(aD:r.data.length<=3000)(hu:Gl r.data us) :
  aF 254 #[.agg #[aA r.owner,aq r.aV,aq r.type,aA r.data]] w fun e w'=>(∃v,e=.returned v/\rq w' w.heap.size v (ly us))/\aw w w':=by have hb0:aw w (w.alloc (.cells #[.string (ah r.owner),.int .i64 r.aV,.int .i64 r.type,.string (ah r.data)] 47)):=bj.alloc aB _;have hs0:=hb0.size;have HC:=ag (ve (ah r.data) 32 _ (hg.below hb0) (by rw[dt];omega));have hb1:aw w ((w.alloc (.cells #[.string (ah r.owner),.int .i64 r.aV,.int .i64 r.type,.string (ah r.data)] 47)).alloc (.cells ((ft 32 (ah r.data)).map Value.string).toArray 9)):=hb0.alloc ak _;have dV:=ag (afO r.data us _ (hg.below hb1) aD hu);rw[ht]at *;clear hg ht hu;generalize ft 32 (ah r.data)=L at *;have cM:=ag hb1;clear hb1 hb0 hs0;go_enter func254,ntmps254;go_wp2_with fail;refine HC.mono ?_;rintro e w1 ⟨rfl,rfl⟩;go_wp2_with fail;refine dV.mono ?_;rintro e w2 ⟨⟨v,rfl,hv⟩,hb2⟩;have ia:=ag hv;obtain⟨va,vn,vc,rfl⟩:=oy hv;clear hv;have hs1:=cM.size;go_wp2;go_ret;exact⟨⟨_,rfl,Jf (af ia) hs1⟩,cM.trans (hb2.mono hs1)⟩
def xq(w:World)(base:Nat)(v:Value)(fs:List dH):Prop:=w.ownsRow base 297 1 v fs.length (fs.map fun f=>.iface f.t f.x)
theorem JW(w:World)(base:Nat)(cs:Array Value)(fs:List dH)(hc:cs.toList=fs.map fun f=>.iface f.t f.x)(hb:base<=w.heap.size)(hl:fs.length<=maxLen)(n g:Nat)(hn:n=fs.length)(hg:g=w.heap.size):xq (w.alloc (.cells cs 297)) base (aU g 0 n n) fs:=by
 subst hn hg;have hs:cs.size=fs.length:=by rw[<- qC,hc,hE]
 exact⟨ak,.inr ⟨w.heap.size,fs.length,cs,rfl,hb,World.alloc_heap_new w _,aL _,hl,by rw[hs,Ac],by rw[hc,Ac];exact z8 ak⟩⟩
def yS(r:aj):Value:=.agg #[.string (ah r.owner),aq r.aV,aq r.type,.string (ah r.data)]
def yT(d:ai):List dH:=[ik (jN (UInt8.ofNat d.length)),ik (ct d)]
theorem afR(r:aj)(w:World)(hg:bH w)(ht:r.type=16)(aD:r.data.length<=3000) :
  aF 254 #[yS r] w fun e w'=>(∃v,e=.returned v/\xq w' w.heap.size v (yT r.data))/\aw w w':=by
 obtain⟨oc,A5⟩:=bP (UInt8.ofNat r.data.length);have ho:IntKind.u8.wrap (r.data.length:Int)=(oc.toNat:Int):=by rw[MO,A5,rQ];omega
 have afS:=ag A5;clear A5;have hb0:aw w (w.alloc (.cells #[.string (ah r.owner),.int .i64 r.aV,.int .i64 r.type,.string (ah r.data)] 47)):=bj.alloc aB _;have HC:=ag (ve (ah r.data) 32 _ (hg.below hb0) (by rw[dt];omega));have hs:(ah r.data).size=r.data.length:=dt _;unfold yS;rw[ht]at HC hb0 ⊢;clear hg ht hb0;generalize ft 32 (ah r.data)=L at *;go_enter func254,ntmps254;go_wp2_with fail;refine HC.mono ?_;rintro e w1 ⟨rfl,rfl⟩;clear HC;go_wp2;go_ret;refine⟨⟨aU (w.heap.size+1+1) 0 2 2,rfl,?_⟩,((bj.alloc aB _).alloc ak _).alloc c5 _⟩;rw[show yT r.data = [ik (jN oc),ik (ct r.data)] by rw[af afS];rfl];refine JW _ _ _ [ik (jN oc),ik (ct r.data)] ?_ ?_ ?_ 2 _ rfl ?_;{rfl};{first|omega|(simp only[dI];omega)|(simp;omega)};{simp[maxLen]};{simp only[dI]}
theorem VB(r:aj)(w:World)(hg:bH w)(k:Int)(ht:r.type=k)(h6:(k == 6)=false)(h1:(k == 1)=false)(tL:(k == 16)=false)(tM:(k == 15)=false)(aD:r.data.length<=3000) :
  aF 254 #[yS r] w fun e w'=>(∃v,e=.returned v/\xq w' w.heap.size v [sI r.data])/\aw w w':=by have hb0:aw w (w.alloc (.cells #[.string (ah r.owner),.int .i64 r.aV,.int .i64 r.type,.string (ah r.data)] 47)):=bj.alloc aB _;have HC:=ag (ve (ah r.data) 32 _ (hg.below hb0) (by rw[dt];omega));have hs:(ah r.data).size=r.data.length:=dt _;unfold yS;rw[ht]at HC hb0 ⊢;clear hg ht hb0;generalize ft 32 (ah r.data)=L at *;go_enter func254,ntmps254;go_wp2_with fail;refine HC.mono ?_;rintro e w1 ⟨rfl,rfl⟩;clear HC;go_wp2;go_ret;refine⟨⟨aU (w.heap.size+1+1) 0 1 1,rfl,JW _ _ _ [sI r.data] ?_ ?_ ?_ 1 _ rfl ?_⟩,?_⟩;{rfl};{first|omega|(simp only[dI];omega)|(simp;omega)};{simp[maxLen]};{simp only[dI]};exact((bj.alloc aB _).alloc ak _).alloc c5 _
def xt(x0 x1:ai)(n2 n3:Nat):List dH:=[sI x0,sI x1,ik (ue (n2%4294967296)),ik (ue 3600),ik (ue 600),ik (ue 86400),ik (ue (n3%4294967296))]
def xu(n0:Nat)(x1:ai):List dH:=[ik (dA (n0%65536)),sI x1]
theorem afT(r:aj)(w:World)(hg:bH w)(ht:r.type=15)(aD:r.data.length<=3000)(x0 x1:ai)(n0:Nat)(hw:ft 32 (ah r.data) = [ah x0,ah x1])(jf:Lib.parseUintB 64 x0=.ok n0)(hl0:x0.length<=3000) :
  aF 254 #[yS r] w fun e w'=>(∃v,e=.returned v/\xq w' w.heap.size v (xu n0 x1))/\aw w w':=by
 have hb0:aw w (w.alloc (.cells #[.string (ah r.owner),.int .i64 r.aV,.int .i64 r.type,.string (ah r.data)] 47)):=bj.alloc aB _;have HC:=ag (ve (ah r.data) 32 _ (hg.below hb0) (by rw[dt];omega));have hs:(ah r.data).size=r.data.length:=dt _;unfold yS;rw[ht]at HC hb0 ⊢;clear hg ht hb0;rw[hw]at HC;go_enter func254,ntmps254;go_wp2_with fail;refine HC.mono ?_;rintro e w1 ⟨rfl,rfl⟩;clear HC;simp only[og,ye,cU,fV];have sK:∀W W':World,aw W W'->(W.cell? (ar (w.heap.size+1) 0)=some (.string (ah x0))/\W.cell? (ar (w.heap.size+1) 1)=some (.string (ah x1)))->(W'.cell? (ar (w.heap.size+1) 0)=some (.string (ah x0))/\W'.cell? (ar (w.heap.size+1) 1)=some (.string (ah x1))):=fun W W' hb h=>by
  have kp:∀(a:Addr) (v:Value),W.cell? a=some v->W'.cell? a=some v:=fun a v h=>(hb.cell (qD W a h)).trans h;obtain⟨e0,e1⟩:=h;exact⟨kp _ _ e0,kp _ _ e1⟩
 have HK:Hid (∀(W:World) (o:Obj),(W.cell? (ar (w.heap.size+1) 0)=some (.string (ah x0))/\W.cell? (ar (w.heap.size+1) 1)=some (.string (ah x1)))/\aw w W->(((W.alloc o).cell? (ar (w.heap.size+1) 0)=some (.string (ah x0))/\(W.alloc o).cell? (ar (w.heap.size+1) 1)=some (.string (ah x1)))/\aw w (W.alloc o))):=fun W o h=>⟨sK W _ (bj.alloc aB _) h.1,h.2.alloc h.2.size _⟩
 have ie:Hid (∀W,(W.cell? (ar (w.heap.size+1) 0)=some (.string (ah x0))/\W.cell? (ar (w.heap.size+1) 1)=some (.string (ah x1)))->aw w W->aF 280 #[.string (ah x0)] W fun e w'=>e=.returned (.int .u64 (n0:Int))/\(w'.cell? (ar (w.heap.size+1) 0)=some (.string (ah x0))/\w'.cell? (ar (w.heap.size+1) 1)=some (.string (ah x1)))/\aw w w'):=fun W h hb=>by
  refine(JV (ah x0) n0 W (by rw[dt];exact hl0) jf).mono ?_;rintro e w' ⟨rfl,hb'⟩;exact⟨rfl,sK W w' hb' h,hb.trans (hb'.mono hb.size)⟩
 have y0:IntKind.u16.wrap (n0:Int)=((n0%65536:Nat):Int):=by rw[jZ];omega
 have nS:((w.alloc (.cells #[.string (ah r.owner),.int .i64 r.aV,.int .i64 15,.string (ah r.data)] 47)).alloc (.cells #[.string (ah x0),.string (ah x1)] 9)).drew.cell? (ar (w.heap.size+1) 0)=some (.string (ah x0))/\((w.alloc (.cells #[.string (ah r.owner),.int .i64 r.aV,.int .i64 15,.string (ah r.data)] 47)).alloc (.cells #[.string (ah x0),.string (ah x1)] 9)).drew.cell? (ar (w.heap.size+1) 1)=some (.string (ah x1)):=by
  have hnew:=World.alloc_heap_new (w.alloc (.cells #[.string (ah r.owner),.int .i64 r.aV,.int .i64 15,.string (ah r.data)] 47)) (.cells #[.string (ah x0),.string (ah x1)] 9);rw[dI]at hnew;refine⟨?_,?_⟩ <;> (show(World.cell? _ _)=_;unfold World.cell?; simp only[World.drew];rw[hnew];rfl)
 have hB0:aw w ((w.alloc (.cells #[.string (ah r.owner),.int .i64 r.aV,.int .i64 15,.string (ah r.data)] 47)).alloc (.cells #[.string (ah x0),.string (ah x1)] 9)).drew:=((bj.alloc aB _).alloc ak _).drew;clear sK hw jf hl0;go_wp2_with fail;generalize ((w.alloc (.cells #[.string (ah r.owner),.int .i64 r.aV,.int .i64 15,.string (ah r.data)] 47)).alloc (.cells #[.string (ah x0),.string (ah x1)] 9))=w1 at *
 go_region_held (fun w'=>(w'.cell? (ar (w.heap.size+1) 0)=some (.string (ah x0))/\w'.cell? (ar (w.heap.size+1) 1)=some (.string (ah x1)))/\aw w w') (first|exact⟨by assumption,by assumption⟩|(refine af HK _ _ ?_;exact⟨by assumption,by assumption⟩)|go_keep)
  (first
   | (go_at_call_of 280 (Value.string (ah x0));go_loud (refine(ie _ ?_ ?_).mono ?_;assumption;assumption;rintro e w' ⟨rfl,hq,vP⟩)))
 have z0:(n0:Int)%65536=((n0%65536:Nat):Int):=ae;rw[z0];have bL:=vP.size;have bg:=ag vP;clear HK ie nS hB0 hq vP;go_wp2;go_ret;refine⟨⟨aU w'.heap.size 0 2 2,rfl,JW _ _ _ (xu n0 x1) ?_ ?_ ?_ 2 _ rfl rfl⟩,?_⟩
 ·rfl
 ·exact bL
 ·simp[maxLen,xu]
 ·exact bg.alloc bL _
theorem afU(r:aj)(w:World)(hg:bH w)(ht:r.type=6)(aD:r.data.length<=3000)(x0 x1 x2 x3:ai)(n2 n3:Nat)(hw:ft 32 (ah r.data) = [ah x0,ah x1,ah x2,ah x3])(um:Lib.parseUintB 64 x2=.ok n2)(ru:Lib.parseUintB 64 x3=.ok n3)(hl2:x2.length<=3000)(hl3:x3.length<=3000) :
  aF 254 #[yS r] w fun e w'=>(∃v,e=.returned v/\xq w' w.heap.size v (xt x0 x1 n2 n3))/\aw w w':=by
 have hb0:aw w (w.alloc (.cells #[.string (ah r.owner),.int .i64 r.aV,.int .i64 r.type,.string (ah r.data)] 47)):=bj.alloc aB _;have HC:=ag (ve (ah r.data) 32 _ (hg.below hb0) (by rw[dt];omega));have hs:(ah r.data).size=r.data.length:=dt _;unfold yS;rw[ht]at HC hb0 ⊢;clear hg ht hb0;rw[hw]at HC;go_enter func254,ntmps254;go_wp2_with fail;refine HC.mono ?_;rintro e w1 ⟨rfl,rfl⟩;clear HC;simp only[og,ye,cU,fV];have sK:∀W W':World,aw W W'->(W.cell? (ar (w.heap.size+1) 0)=some (.string (ah x0))/\W.cell? (ar (w.heap.size+1) 1)=some (.string (ah x1))/\W.cell? (ar (w.heap.size+1) 2)=some (.string (ah x2))/\W.cell? (ar (w.heap.size+1) 3)=some (.string (ah x3)))->(W'.cell? (ar (w.heap.size+1) 0)=some (.string (ah x0))/\W'.cell? (ar (w.heap.size+1) 1)=some (.string (ah x1))/\W'.cell? (ar (w.heap.size+1) 2)=some (.string (ah x2))/\W'.cell? (ar (w.heap.size+1) 3)=some (.string (ah x3))):=fun W W' hb h=>by
  have kp:∀(a:Addr) (v:Value),W.cell? a=some v->W'.cell? a=some v:=fun a v h=>(hb.cell (qD W a h)).trans h;obtain⟨e0,e1,e2,e3⟩:=h;exact⟨kp _ _ e0,kp _ _ e1,kp _ _ e2,kp _ _ e3⟩
 have HK:Hid (∀(W:World) (o:Obj),(W.cell? (ar (w.heap.size+1) 0)=some (.string (ah x0))/\W.cell? (ar (w.heap.size+1) 1)=some (.string (ah x1))/\W.cell? (ar (w.heap.size+1) 2)=some (.string (ah x2))/\W.cell? (ar (w.heap.size+1) 3)=some (.string (ah x3)))/\aw w W->(((W.alloc o).cell? (ar (w.heap.size+1) 0)=some (.string (ah x0))/\(W.alloc o).cell? (ar (w.heap.size+1) 1)=some (.string (ah x1))/\(W.alloc o).cell? (ar (w.heap.size+1) 2)=some (.string (ah x2))/\(W.alloc o).cell? (ar (w.heap.size+1) 3)=some (.string (ah x3)))/\aw w (W.alloc o))):=fun W o h=>⟨sK W _ (bj.alloc aB _) h.1,h.2.alloc h.2.size _⟩
 have F0:Hid (∀W,(W.cell? (ar (w.heap.size+1) 0)=some (.string (ah x0))/\W.cell? (ar (w.heap.size+1) 1)=some (.string (ah x1))/\W.cell? (ar (w.heap.size+1) 2)=some (.string (ah x2))/\W.cell? (ar (w.heap.size+1) 3)=some (.string (ah x3)))->aw w W->aF 280 #[.string (ah x2)] W fun e w'=>e=.returned (.int .u64 (n2:Int))/\(w'.cell? (ar (w.heap.size+1) 0)=some (.string (ah x0))/\w'.cell? (ar (w.heap.size+1) 1)=some (.string (ah x1))/\w'.cell? (ar (w.heap.size+1) 2)=some (.string (ah x2))/\w'.cell? (ar (w.heap.size+1) 3)=some (.string (ah x3)))/\aw w w'):=fun W h hb=>by
  refine(JV (ah x2) n2 W (by rw[dt];exact hl2) um).mono ?_;rintro e w' ⟨rfl,hb'⟩;exact⟨rfl,sK W w' hb' h,hb.trans (hb'.mono hb.size)⟩
 have y2:IntKind.u32.wrap (n2:Int)=((n2%4294967296:Nat):Int):=by rw[Ai];omega
 have Au:Hid (∀W,(W.cell? (ar (w.heap.size+1) 0)=some (.string (ah x0))/\W.cell? (ar (w.heap.size+1) 1)=some (.string (ah x1))/\W.cell? (ar (w.heap.size+1) 2)=some (.string (ah x2))/\W.cell? (ar (w.heap.size+1) 3)=some (.string (ah x3)))->aw w W->aF 280 #[.string (ah x3)] W fun e w'=>e=.returned (.int .u64 (n3:Int))/\(w'.cell? (ar (w.heap.size+1) 0)=some (.string (ah x0))/\w'.cell? (ar (w.heap.size+1) 1)=some (.string (ah x1))/\w'.cell? (ar (w.heap.size+1) 2)=some (.string (ah x2))/\w'.cell? (ar (w.heap.size+1) 3)=some (.string (ah x3)))/\aw w w'):=fun W h hb=>by
  refine(JV (ah x3) n3 W (by rw[dt];exact hl3) ru).mono ?_;rintro e w' ⟨rfl,hb'⟩;exact⟨rfl,sK W w' hb' h,hb.trans (hb'.mono hb.size)⟩
 have y3:IntKind.u32.wrap (n3:Int)=((n3%4294967296:Nat):Int):=by rw[Ai];omega
 have nS:((w.alloc (.cells #[.string (ah r.owner),.int .i64 r.aV,.int .i64 6,.string (ah r.data)] 47)).alloc (.cells #[.string (ah x0),.string (ah x1),.string (ah x2),.string (ah x3)] 9)).drew.cell? (ar (w.heap.size+1) 0)=some (.string (ah x0))/\((w.alloc (.cells #[.string (ah r.owner),.int .i64 r.aV,.int .i64 6,.string (ah r.data)] 47)).alloc (.cells #[.string (ah x0),.string (ah x1),.string (ah x2),.string (ah x3)] 9)).drew.cell? (ar (w.heap.size+1) 1)=some (.string (ah x1))/\((w.alloc (.cells #[.string (ah r.owner),.int .i64 r.aV,.int .i64 6,.string (ah r.data)] 47)).alloc (.cells #[.string (ah x0),.string (ah x1),.string (ah x2),.string (ah x3)] 9)).drew.cell? (ar (w.heap.size+1) 2)=some (.string (ah x2))/\((w.alloc (.cells #[.string (ah r.owner),.int .i64 r.aV,.int .i64 6,.string (ah r.data)] 47)).alloc (.cells #[.string (ah x0),.string (ah x1),.string (ah x2),.string (ah x3)] 9)).drew.cell? (ar (w.heap.size+1) 3)=some (.string (ah x3)):=by
  have hnew:=World.alloc_heap_new (w.alloc (.cells #[.string (ah r.owner),.int .i64 r.aV,.int .i64 6,.string (ah r.data)] 47)) (.cells #[.string (ah x0),.string (ah x1),.string (ah x2),.string (ah x3)] 9);rw[dI]at hnew;refine⟨?_,?_,?_,?_⟩ <;> (show(World.cell? _ _)=_;unfold World.cell?; simp only[World.drew];rw[hnew];rfl)
 have hB0:aw w ((w.alloc (.cells #[.string (ah r.owner),.int .i64 r.aV,.int .i64 6,.string (ah r.data)] 47)).alloc (.cells #[.string (ah x0),.string (ah x1),.string (ah x2),.string (ah x3)] 9)).drew:=((bj.alloc aB _).alloc ak _).drew;clear sK hw um hl2 ru hl3;go_wp2_with fail;generalize ((w.alloc (.cells #[.string (ah r.owner),.int .i64 r.aV,.int .i64 6,.string (ah r.data)] 47)).alloc (.cells #[.string (ah x0),.string (ah x1),.string (ah x2),.string (ah x3)] 9))=w1 at *
 go_region_held (fun w'=>(w'.cell? (ar (w.heap.size+1) 0)=some (.string (ah x0))/\w'.cell? (ar (w.heap.size+1) 1)=some (.string (ah x1))/\w'.cell? (ar (w.heap.size+1) 2)=some (.string (ah x2))/\w'.cell? (ar (w.heap.size+1) 3)=some (.string (ah x3)))/\aw w w') (first|exact⟨by assumption,by assumption⟩|(refine af HK _ _ ?_;exact⟨by assumption,by assumption⟩)|go_keep)
  (first
   | (go_at_call_of 280 (Value.string (ah x2));go_loud (refine(F0 _ ?_ ?_).mono ?_;assumption;assumption;rintro e w' ⟨rfl,hq,vP⟩))
   | (go_at_call_of 280 (Value.string (ah x3));go_loud (refine(Au _ ?_ ?_).mono ?_;assumption;assumption;rintro e w' ⟨rfl,hq,vP⟩)))
 have z2:(n2:Int)%4294967296=((n2%4294967296:Nat):Int):=ae;have z3:(n3:Int)%4294967296=((n3%4294967296:Nat):Int):=ae;rw[z2,z3];have bL:=vP.size;have bg:=ag vP;clear HK F0 Au nS hB0 hq vP;go_wp2;go_ret;refine⟨⟨aU w'.heap.size 0 7 7,rfl,JW _ _ _ (xt x0 x1 n2 n3) ?_ ?_ ?_ 7 _ rfl rfl⟩,?_⟩
 ·rfl
 ·exact bL
 ·simp[maxLen,xt]
 ·exact bg.alloc bL _
def afV(r:aj):Value:=.agg #[aA r.owner,aq r.aV,aq r.type,aA r.data]
theorem afW{mb base:Nat}{w:World}{v:Value}{fs:List iD}(h:rq w base v fs)(hne:fs≠[])(hm:mb<base):∃g cap,v=aU g 0 fs.length cap/\fs.length<=cap/\afh mb w g fs:=by have h0:=h;obtain⟨_,⟨rfl,hz⟩|⟨g,cap,cur,rfl,hb,bp,hc,_⟩⟩:=h;{exact absurd (gS hz) hne};{refine⟨g,cap,rfl,hc,(di.1 bp).1,ae,fun c hcc=>?_,fun j hj=>?_⟩;{rw[bp]at hcc;simp at hcc};{have:=Aj h0 j ae;rw[this];simp[hj]}}
def pg(W:World)(b:Nat)(r:aj):Prop:=W.heap[b]? = some (.cells #[.string (ah r.owner),.int .i64 r.aV,.int .i64 r.type,.string (ah r.data)] 47)
theorem pg.cells{W:World}{b:Nat}{r:aj}(h:pg W b r):W.cell? (ar b 0)=some (aA r.owner)/\W.cell? (ar b 1)=some (aq r.aV)/\W.cell? (ar b 2)=some (aq r.type)/\W.cell? (ar b 3)=some (aA r.data):=by unfold pg at h;refine⟨?_,?_,?_,?_⟩ <;> simp[World.cell?,h]
theorem VC{w:World}{base:Nat}{v:Value}{l:ai}(h:d_ w base v l):∃a c,v=.slice a l.length c:=by obtain⟨_,⟨rfl,hz⟩|⟨g,cap,cur,rfl,_⟩⟩:=h;{exact⟨none,0,by rw[hz]⟩};{exact⟨_,_,rfl⟩}
structure na(r:aj)(aI:List dH):Prop where
 own:r.owner.length<=300
 typ:r.type=(r.type.toNat:Int)/\r.type.toNat<65536
 aV:r.aV<4294967296
 data:∀W,bH W->aF 254 #[afV r] W fun e w'=>(∃v,e=.returned v/\xq w' W.heap.size v aI)/\aw W w'
 ok:∀(mb base:Nat) (I:World->Prop),(∀w,I w->bH w)->0<base->0<mb->∀f∈aI,f.uj mb base I
 ne:aI≠[]
 few:aI.length<=1000
def yU(r:aj)(g cap:Nat)(aI:List dH):List dH:=[sI r.owner,ik (dA r.type.toNat),ik (dA 1),ik (ue r.aV),JT g cap aI]
def iE(r:aj)(aI:List dH)(l:ai)(ps:cH):ai×cH:=en (yU r 0 0 aI) l ps
def cT(aI:aj->List dH)(rs:List aj)(l:ai)(ps:cH):ai×cH:=rs.foldl (fun s r=>iE r (aI r) s.1 s.2) (l,ps)
theorem VD(aI:aj->List dH)(rs:List aj)(k:Nat)(h:k<rs.length)(l:ai)(ps:cH):cT aI (rs.take (k+1)) l ps=iE rs[k] (aI rs[k]) (cT aI (rs.take k) l ps).1 (cT aI (rs.take k) l ps).2:=by rw[kQ h,cT,CH];rfl
theorem VE(aI:aj->List dH)(rs qs:List aj)(l:ai)(ps:cH):cT aI (rs++qs) l ps=cT aI qs (cT aI rs l ps).1 (cT aI rs l ps).2:=by rw[cT,CH];rfl
theorem VF{mb base:Nat}{w:World}{v:Value}{fs:List dH}(h:xq w base v fs)(hne:fs≠[])(hm:mb<base):∃g cap,v=aU g 0 fs.length cap/\fs.length<=cap/\mZ mb w g fs:=by have h0:=h;obtain⟨_,⟨rfl,hz⟩|⟨g,cap,cur,rfl,hb,bp,hc,_⟩⟩:=h;{exact absurd (gS hz) hne};{refine⟨g,cap,rfl,hc,ae,⟨_,_,bp,aC,aC⟩,fun j hj=>?_⟩;have:=Aj h0 j ae;rw[this];simp[hj]}
theorem VG{mb base g:Nat}{aI:List dH}(hb0:0<base)(hm0:0<mb):Du mb base (fun w=>bH w/\mZ mb w g aI):=fun w w' h ht=>⟨h.1.tg ht hb0 hm0,h.2.tg ht⟩
theorem VH{r:aj}{aI:List dH}(hr:na r aI)(mb base g cap:Nat)(hb0:0<base)(hm0:0<mb)(fw:aI.length<=cap):∀f∈yU r g cap aI,f.uj mb base (fun w=>bH w/\mZ mb w g aI):=by intro f hf;simp only[yU,eK,uW,uZ]at hf;rcases hf with rfl|rfl|rfl|rfl|rfl;{exact Dx _ hr.own _ _ _ (fun _ h=>h.1) hb0 hm0};{exact oD (kC _ hr.typ.2) _ _ _};{exact oD (kC _ ae) _ _ _};{exact oD (Dk _ hr.aV) _ _ _};{exact Vy mb base g cap _ aI (VG hb0 hm0) (fun _ h=>h.2) (hr.ok _ _ _ (fun _ h=>h.1) hb0 hm0) fw (by have:=hr.few;omega)}
theorem VI{r:aj}{aI:List dH}(hr:na r aI)(l:ai)(ps:cH):l.length<=(iE r aI l ps).1.length/\ps.length<=(iE r aI l ps).2.length/\(gw ps->gw (iE r aI l ps).2) :=
 Dv (yU r 0 aI.length aI) (VH hr 1 1 0 aI.length ae ae aB) l ps
theorem Dz(aI:aj->List dH):∀(rs:List aj),(∀r∈rs,na r (aI r))->∀l ps,l.length<=(cT aI rs l ps).1.length/\ps.length<=(cT aI rs l ps).2.length/\(gw ps->gw (cT aI rs l ps).2)
 | [],_,l,ps=>⟨aL _,aL _,id⟩
 | r :: rs,h,l,ps=>by have h1:=VI (h r ak) l ps;have h2:=Dz aI rs (fun g hg=>h g (by simp[hg])) (iE r (aI r) l ps).1 (iE r (aI r) l ps).2;exact⟨a_ h1.1 h2.1,a_ h1.2.1 h2.2.1,fun h=>h2.2.2 (h1.2.2 h)⟩
theorem VJ(aI:aj->List dH)(rs:List aj)(bE:∀r∈rs,na r (aI r))(l:ai)(ps:cH)(k:Nat):(cT aI (rs.take k) l ps).1.length<=(cT aI rs l ps).1.length/\(cT aI (rs.take k) l ps).2.length<=(cT aI rs l ps).2.length:=by
 have e:cT aI rs l ps=cT aI (rs.drop k) (cT aI (rs.take k) l ps).1 (cT aI (rs.take k) l ps).2:=by rw[<- VE,jH]
 have:=Dz aI (rs.drop k) (fun f hf=>bE f (IL hf)) (cT aI (rs.take k) l ps).1 (cT aI (rs.take k) l ps).2;rw[e];exact⟨this.1,this.2.1⟩
theorem VK(mb base g cap:Nat)(r:aj)(aI:List dH)(hr:na r aI)(hb0:0<base)(hm0:0<mb)(l:ai)(ps:cH)(w:World)(hG:bH w)(hF:mZ mb w g aI)(fw:aI.length<=cap)(hm:dB w mb base l ps)(kG:gw ps)(bL:base<=w.heap.size)
  (hl:(iE r aI l ps).1.length<=50000) (hp:(iE r aI l ps).2.length<=20000) :
  aF 139 #[aO mb,aU w.heap.size 0 5 5] (w.alloc (.cells #[.iface 291 (.string (ah r.owner)),.iface 284 (.int .u16 r.type.toNat),.iface 284 (.int .u16 1),.iface 344 (.int .u32 r.aV),.iface 293 (.slice (some ⟨g,0,none⟩) aI.length cap)] 297)) fun e w' =>
   e=.returned (.tuple #[])/\dB w' mb base (iE r aI l ps).1 (iE r aI l ps).2/\bF mb base w w':=by
 have hnew:=World.alloc_heap_new w (.cells #[.iface 291 (.string (ah r.owner)),.iface 284 (.int .u16 r.type.toNat),.iface 284 (.int .u16 1),.iface 344 (.int .u32 r.aV),.iface 293 (.slice (some ⟨g,0,none⟩) aI.length cap)] 297);have eZ:aw w (w.alloc (.cells #[.iface 291 (.string (ah r.owner)),.iface 284 (.int .u16 r.type.toNat),.iface 284 (.int .u16 1),.iface 344 (.int .u32 r.aV),.iface 293 (.slice (some ⟨g,0,none⟩) aI.length cap)] 297)):=bj.alloc aB _;have xd:bF mb base w _:=bF.mX eZ;have mY:=hm.lt;have hst:=VG (mb:=mb) (base:=base) (g:=g) (aI:=aI) hb0 hm0;refine(Od mb base w.heap.size 5 (fun w=>bH w/\mZ mb w g aI) (yU r g cap aI) l ps _ (hst _ _ ⟨hG,hF⟩ xd) hst (hm.below eZ) aX kG (VH hr mb base g cap hb0 hm0 fw) ⟨ae,⟨_,_,hnew,aC,aC⟩,?_⟩ (by simp[yU]) (by simp[yU]) hl hp).mono ?_;{
 intro j hj;match j,hj with
 | 0,_=>unfold World.cell?; rw[hnew];rfl
 | 1,_=>unfold World.cell?; rw[hnew];rfl
 | 2,_=>unfold World.cell?; rw[hnew];rfl
 | 3,_=>unfold World.cell?; rw[hnew];rfl
 | 4,_=>unfold World.cell?; rw[hnew];rfl
 | j+5,hj=>simp[yU]at hj;omega};rintro e w2 ⟨rfl,h1,h2⟩;exact⟨rfl,h1,xd.trans h2⟩
theorem VL{W W':World}{b mb base:Nat}{r:aj}(h:pg W b r)(ht:bF mb base W W')(hb:b≠mb):pg W' b r:=ht.box h hb aC aC
theorem afX(mb base b off cap:Nat)(size:Int)(aI:aj->List dH)(rs:List aj)(ps:cH)(l:ai)(w:World)(hm:dB w mb base l ps)(kG:gw ps)(hg:bH w)(bL:base<=w.heap.size)(hb0:0<base)(hm0:0<mb)
  (hr:dz w b off rs) (kA:b<base) (sL:b≠mb) (fw:rs.length<=cap) (hlen:rs.length<=3001) (bE:∀r∈rs,na r (aI r)) (hl:(cT aI rs l ps).1.length<=50000) (hp:(cT aI rs l ps).2.length<=20000) (hsz:((cT aI rs l ps).1.length:Int)<=size) :
  aF 203 #[aO mb,aq size,aU b off rs.length cap] w fun e w' =>
   e=.returned (.bool true)/\dB w' mb base (cT aI rs l ps).1 (cT aI rs l ps).2/\bF mb base w w':=by
 have xw:=ag hm;obtain⟨vb,vp,ry,ho,xx⟩:=hm;obtain⟨a1,n1,az,rfl⟩:=oy ho;obtain⟨a2,n2,c2,rfl⟩:=oy xx;obtain⟨m0,m1⟩:=ry.cells;have mY:=ry.lt;have Gm:bF mb base w (w.alloc (.cells #[.slice a1 n1 az,.slice a2 n2 c2] 283)):=bF.mX (bj.alloc aB _);have bA:=ag (show dB (w.alloc (.cells #[.slice a1 n1 az,.slice a2 n2 c2] 283)) mb base l ps from xw.below (bj.alloc aB _));have ja:=ag Gm;have HG:=ag hg;have aT:=ag hr;have ew:=ag bE;have rp:=ag kG;have oY:=hr.1;clear ry ho xx hg hr bE Gm xw kG;go_enter func203,ntmps203;go_wp2_with fail
 go_loopw [15] (fun i wr=>∃(k:Nat),i=aq k/\k<=rs.length/\dB wr mb base (cT aI (rs.take k) l ps).1 (cT aI (rs.take k) l ps).2/\bF mb base w wr) (fun i _=>rs.length - (intOf i).toNat)
 case atStart=>exact⟨0,rfl,dY _,bA,ja⟩
 case round =>
  obtain⟨k,rfl,hk,nR,nT⟩:=hrel;have Gn:=ag nR;have Oj:=ag nT;have fc:=nT.size;by_cases hlt:k<rs.length
  ·have tQ:(k:Int)<(rs.length:Int):=ae;have mz:=vy (af aT) nT.size (nT.block b oY sL (.inl kA));obtain⟨q0,q1,q2,q3⟩:=mz.four k hlt;have iP:=af ew rs[k] (iV hlt);have xy:=ag (VD aI rs k hlt l ps);have vL:=ag (VJ aI rs (af ew) l ps (k+1));have pj:=ag ((Dz aI (rs.take k) (fun f hf=>af ew f (Fa hf)) l ps).2.2 (af rp));have hgr:=(HG.tg nT hb0 hm0)
   have hW0:aw wr (wr.alloc (.cells #[.string (ah rs[k].owner),.int .i64 rs[k].aV,.int .i64 rs[k].type,.string (ah rs[k].data)] 47)):=bj.alloc aB _;have xz:pg (wr.alloc (.cells #[.string (ah rs[k].owner),.int .i64 rs[k].aV,.int .i64 rs[k].type,.string (ah rs[k].data)] 47)) wr.heap.size rs[k]:=World.alloc_heap_new wr _;obtain⟨r,Ba⟩:=bP (rs[k]);rw[<- Ba]at q0 q1 q2 q3 iP hW0 xz;obtain⟨l1,p1,uo⟩:∃l1 p1,cT aI (rs.take k) l ps=(l1,p1):=⟨_,_,rfl⟩
   have Bb:Hid (cT aI (rs.take (k+1)) l ps=iE r (aI r) l1 p1):=by
    have:=af xy;rw[uo,<- Ba]at this;exact this
   have Ok:Hid (dB wr mb base l1 p1):=by rw[uo]at nR;exact nR
   have Ol:Hid (gw p1):=by have:=af pj;rw[uo]at this;exact this
   clear mz nR nT Ba xy uo Gn pj;have eM:wr.heap.size≠mb:=ae;have HD:Hid (∀W1,aw wr W1->pg W1 wr.heap.size r->aF 254 #[.agg #[aA r.owner,aq r.aV,aq r.type,aA r.data]] W1.drew fun e w'=>∃g cp,e=.returned (aU g 0 (aI r).length cp) /\
     (w'.cell? (ar wr.heap.size 0)=some (aA r.owner)/\w'.cell? (ar wr.heap.size 1)=some (aq r.aV)/\w'.cell? (ar wr.heap.size 2)=some (aq r.type)/\w'.cell? (ar wr.heap.size 3)=some (aA r.data)) /\
     Hid ((aI r).length<=cp/\mZ mb w' g (aI r)/\pg w' wr.heap.size r/\dB w' mb base l1 p1/\bH w'/\bF mb base w w')):=by
    intro W1 hb1 hr1;have xA:aw wr W1.drew:=hb1.drew;refine(iP.data W1.drew (hgr.below xA)).mono ?_;rintro e w' ⟨⟨v,rfl,hv⟩,hb2⟩;obtain⟨g,cp,rfl,ml,p9⟩:=VF (mb:=mb) hv iP.ne (by have:=xA.size;omega);have hr2:pg w' wr.heap.size r:=(hb2.block _ (di.1 hr1).1).trans hr1;have hb3:aw wr w':=xA.trans (hb2.mono xA.size);have sM:bF mb base wr w':=bF.mX hb3;exact⟨g,cp,rfl,hr2.cells,ml,p9,hr2,Ok.below hb3,hgr.below hb3,Oj.trans sM⟩
   have Bc:Hid (∀g cp W2,Hid ((aI r).length<=cp/\mZ mb W2 g (aI r)/\pg W2 wr.heap.size r/\dB W2 mb base l1 p1/\bH W2/\bF mb base w W2) ->
     aF 139 #[aO mb,aU W2.heap.size 0 5 5] (W2.alloc (.cells #[.iface 291 (.string (ah r.owner)),.iface 284 (.int .u16 r.type.toNat),.iface 284 (.int .u16 1),.iface 344 (.int .u32 r.aV),.iface 293 (.slice (some ⟨g,0,none⟩) (aI r).length cp)] 297)) fun e w' =>
      e=.returned (.tuple #[])/\(w'.cell? (ar wr.heap.size 0)=some (aA r.owner)/\w'.cell? (ar wr.heap.size 1)=some (aq r.aV)/\w'.cell? (ar wr.heap.size 2)=some (aq r.type)/\w'.cell? (ar wr.heap.size 3)=some (aA r.data)) /\
      Hid (dB w' mb base (cT aI (rs.take (k+1)) l ps).1 (cT aI (rs.take (k+1)) l ps).2/\bF mb base w w')):=by
    intro g cp W2 hB;obtain⟨ml,p9,hr2,fJ,Gp,cL⟩:=af hB;have hL:=af vL;rw[af Bb]at hL;refine(VK mb base g cp r (aI r) iP hb0 hm0 l1 p1 W2 Gp p9 ml fJ (af Ol) (a_ bL cL.size) ae ae).mono ?_;rintro e w' ⟨rfl,h2,h3⟩;refine⟨rfl,(VL hr2 h3 eM).cells,?_,cL.trans h3⟩;rw[af Bb];exact h2
   have x1:IntKind.u16.wrap r.type=(r.type.toNat:Int):=by
    have h1:=iP.typ.1;have h2:=iP.typ.2;rw[jZ];omega
   have x2:IntKind.u32.wrap (r.aV:Int)=(r.aV:Int):=by
    have h1:=iP.aV;rw[Ai];omega
   clear iP vL hgr Bb;obtain⟨tn,htn⟩:=bP r.type.toNat;rw[<- htn]at x1 Bc;clear htn;go_wp2_with fail;have o9:=ag (HD _ hW0 xz);have hS1:=xz.cells;clear hW0 xz HD q0 q1 q2 q3;generalize (wr.alloc (.cells #[.string (ah r.owner),.int .i64 r.aV,.int .i64 r.type,.string (ah r.data)] 47))=W1 at *;have hS:(W1.drew.cell? (ar wr.heap.size 0)=some (aA r.owner)/\W1.drew.cell? (ar wr.heap.size 1)=some (aq r.aV)/\W1.drew.cell? (ar wr.heap.size 2)=some (aq r.type)/\W1.drew.cell? (ar wr.heap.size 3)=some (aA r.data)):=hS1;clear hS1
   go_region_held (fun w'=>w'.cell? (ar wr.heap.size 0)=some (aA r.owner)/\w'.cell? (ar wr.heap.size 1)=some (aq r.aV)/\w'.cell? (ar wr.heap.size 2)=some (aq r.type)/\w'.cell? (ar wr.heap.size 3)=some (aA r.data)) (first|assumption|go_keep)
    (first
     | (go_at_call 254;go_loud (refine o9.mono ?_;rintro e w2 ⟨g,cp,rfl,eU,eu⟩))
     | (go_at_call 139;go_loud (refine(Bc _ _ _ eu).mono ?_;rintro e w3 ⟨rfl,iF,jI⟩)))
   rename_i hH;clear hH hS eU iF eu o9 Bc;go_wp2_with fail;obtain⟨h1,h3⟩:=af jI;exact⟨⟨k+1,dD,ae,h1,h3⟩,gN⟩
  ·have eJ:k=rs.length:=ae;subst eJ;rw[jV]at nR;have bg:=ag (bQ nR nT);obtain⟨vb1,afY,hm1,ho1,_⟩:=nR;obtain⟨ab,cb,rfl⟩:=VC ho1;have c0:=hm1.cells.1;have FY:¬size<(((cT aI rs l ps).1).length:Int):=ae;clear hm1 ho1 nT Gn;generalize (cT aI rs l ps).1.length=N at *;go_wp2;go_ret;exact⟨rfl,bg.1,bg.2⟩
def gG(i b c0 az c2 c3:Nat):List iD:=[dA i,dA b,dA c0,dA az,dA c2,dA c3]
theorem DC(i b c0 az c2 c3:Nat):(bY (gG i b c0 az c2 c3)).length=12:=rfl
theorem afZ:prog.underlying 285=some (.slice 297):=aK
theorem af0:(prog.info? 5).map (·.size)=some 1:=aK
theorem af1{P:Program}{ops:Array Oper}{o:Oper}{a:Act}{w:World}{K:Act->World->Prop}{Q:Exit->Act->World->Prop}{E:Prop}
  (hg:o.guard=none) (d x:Operand) (dT sT:TypeId) (hop:o.op=Op.call { callee:=Callee.builtin Builtin.copy,args:=#[d,x],argTypes:=#[dT,sT] })
  (vd vx v:Value) (w':World) (aD:a.eval d=vd) (hx:a.eval x=vx) (hrun:(Builtin.copy_ #[dT,sT] o.type #[vd,vx]).run P w=.ok v w')
  (hK:K (a.put o.dst v) w'):if Region.wanted o (yielded ops a.tmps)=true then Oper.wp P o a w K Q else E:=by
 have hw:Region.wanted o (yielded ops a.tmps)=true:=by simp[Region.wanted,hg]
 rw[aP hw];unfold Oper.wp;simp[execOp,hop,resolve,invoke,builtin,aD,hx,hrun,Result.andThen];exact hK
theorem af2{w:World}{base g cap:Nat}{l h:ai}(ho:d_ w base (aU g 0 l.length cap) l)(hl:h.length<=l.length) :
  ∃cur,w.heap[g]? = some (.cells cur 5 (0,0))/\h.length<=cur.size/\∀w':World,w'.heap[g]? = some (.cells cur 5 (0,0))->d_ (w'.setRow g (cur.toList.take 0++Lib.byteCells (ah h).data.toList++cur.toList.drop (0+(ah h).size)).toArray) base (aU g 0 l.length cap) (h++l.drop h.length):=by
 obtain⟨h1,⟨e,hz⟩|⟨g',cap',cur,e,hb,bp,hc,hm,hs,ht⟩⟩:=ho;{cases e};{
 cases e;refine⟨cur,bp,ae,fun w' hw'=>?_⟩;have hlen:(h++l.drop h.length).length=l.length:=aX;have bL:(ah h).size=h.length:=dt h;refine⟨ak,.inr ⟨g,cap,_,by rw[hlen],hb,setRow_heap w' g cur _ 5 (0,0) hw',ae,hm,?_,?_⟩⟩;{
 have:((ah h).data.toList).length=h.length:=by simp[ah]
 simp[Lib.byteCells,bL,ah]at *;omega};{
 rw[hlen,Ac];rw[Ac]at ht;have e1:(ah h).data.toList=h:=by simp[ah]
 have e2:cur.toList.drop h.length=(cur.toList.take l.length).drop h.length++cur.toList.drop l.length:=by{
 conv=>lhs;rw[<- jH l.length cur.toList]
 rw[Mt aX]};simp only[IU,fF,e1,bL,kR];rw[e2,ht,<- g_,List.take_left' (by simp[Lib.byteCells];omega)];simp[Lib.byteCells]}}
theorem VM(mb base i b c0 az c2 c3:Nat)(vb vp:Value)(l:ai)(w:World)(hm:cG w mb vb vp)(ho:d_ w base vb l)(bL:base<=w.heap.size)(hl:12<=l.length)(hl2:l.length<=60000)
  (h0:i<65536) (h1:b<65536) (h2:c0<65536) (h3:az<65536) (h4:c2<65536) (h5:c3<65536) :
  aF 131 #[aO mb,.agg #[aq i,aq b,aq c0,aq az,aq c2,aq c3]] w fun e w' =>
   e=.returned (aA (bY (gG i b c0 az c2 c3)++l.drop 12))/\NS mb base w w':=by
 obtain⟨i0,au,hz0,hz1,hz2⟩:=kS Vz;obtain⟨g,cap,cur,rfl,hbg,bp,fw,_⟩:=N2 ho (by intro h;subst h;simp at hl);have hmc:=hm.cells.1;have mY:=hm.lt;have yA:=(di.1 bp).1;have ub:mb≠g:=fun e=>by
  rw[cG,e,bp]at hm;simp at hm
 have bA:=ag hm;have HO:=ag ho;clear hm ho bp;have a0:IntKind.u16.wrap (i:Int)=(i:Int):=by rw[jZ];omega
 have a1:IntKind.u16.wrap (b:Int)=(b:Int):=by rw[jZ];omega
 have a2:IntKind.u16.wrap (c0:Int)=(c0:Int):=by rw[jZ];omega
 have a3:IntKind.u16.wrap (az:Int)=(az:Int):=by rw[jZ];omega
 have a4:IntKind.u16.wrap (c2:Int)=(c2:Int):=by rw[jZ];omega
 have a5:IntKind.u16.wrap (c3:Int)=(c3:Int):=by rw[jZ];omega
 have HS:Hid (i<65536/\b<65536/\c0<65536/\az<65536/\c2<65536/\c3<65536):=⟨h0,h1,h2,h3,h4,h5⟩
 have cN:Hid (∀k:Nat,k<4->∃ck:Nat,(gG i b c0 az c2 c3).take (2+(k+1))=(gG i b c0 az c2 c3).take (2+k)++[dA ck]/\IntKind.u16.wrap (ck:Int)=(ck:Int)/\∀W:World,(Instr.index 131 (.agg #[aq c0,aq az,aq c2,aq c3]) (aq k)).run prog W=.ok (aq ck) W):=by
  intro k hk
  match k,hk with
  | 0,_=>exact⟨c0,rfl,a2,fun _=>aK⟩
  | 1,_=>exact⟨az,rfl,a3,fun _=>aK⟩
  | 2,_=>exact⟨c2,rfl,a4,fun _=>aK⟩
  | 3,_=>exact⟨c3,rfl,a5,fun _=>aK⟩
  | k+4,h=>omega
 clear h0 h1 h2 h3 h4 h5 a2 a3 a4 a5;go_enter func131,ntmps131;go_wp2_with fail;have VN:Hid (rq ((w.alloc (.cells #[.int .i64 i,.int .i64 b,.int .i64 c0,.int .i64 az,.int .i64 c2,.int .i64 c3] 133)).alloc (.cells #[.iface 284 (.int .u16 i),.iface 284 (.int .u16 b)] 297)) (w.heap.size+1) (aU (w.heap.size+1) 0 2 2) ((gG i b c0 az c2 c3).take (2+0))):=by
  have hnew:=World.alloc_heap_new (w.alloc (.cells #[.int .i64 i,.int .i64 b,.int .i64 c0,.int .i64 az,.int .i64 c2,.int .i64 c3] 133)) (.cells #[.iface 284 (.int .u16 i),.iface 284 (.int .u16 b)] 297);rw[dI]at hnew;exact⟨rfl,.inr ⟨w.heap.size+1,2,_,rfl,aL _,hnew,aL _,by simp[maxLen],rfl,rfl⟩⟩
 have ey:Hid (aw w ((w.alloc (.cells #[.int .i64 i,.int .i64 b,.int .i64 c0,.int .i64 az,.int .i64 c2,.int .i64 c3] 133)).alloc (.cells #[.iface 284 (.int .u16 i),.iface 284 (.int .u16 b)] 297))):=(bj.alloc aB _).alloc ak _
 go_loopw [19,5] (fun ix v wr=>∃(k:Nat) (a:Option Addr) (n c:Nat),ix=aq k/\v=.slice a n c/\k<=4/\rq wr (w.heap.size+1) (.slice a n c) ((gG i b c0 az c2 c3).take (2+k))/\aw w wr/\w.heap.size+1<wr.heap.size) (fun ix _ _=>4 - (intOf ix).toNat)
 case atStart=>exact⟨0,_,_,_,rfl,rfl,ae,VN,ey,ak⟩
 case round =>
  obtain⟨k,a,n,c,rfl,rfl,hk,lN,hbr,dP⟩:=hrel;have iN:=ag lN;have kF:=ag hbr;have fc:=hbr.size;clear lN VN ey;by_cases hlt:k<4
  ·obtain⟨ck,ht,hw,af3⟩:=af cN k hlt;have dJ:=ag ht;have tQ:(k:Int)<4:=ae;have sH:((gG i b c0 az c2 c3).take (2+k)).length=2+k:=by simp[gG];omega
   clear ht hbr;go_wp2_with (at_builtin;go_loud (refine I5 _ rfl (.tmp 22) (.tmp 26) 285 rfl (w.heap.size+1) 297 i0 .nilIface 1 16 afZ au hz0 hz1 hz2 rfl aC _ ((gG i b c0 az c2 c3).take (2+k)).length _ rfl (iN.alloc _) (ar wr.heap.size 0) 1 1 [.iface 284 (.int .u16 ck)] rfl rfl ?az ?c2 ?c3 ?bw ?dm ?_))
   case az =>
    intro j u' hj
    match j,hj with
    | 0,hj=>simp at hj;subst hj;simp[Addr.add]
    | n+1,hj=>simp at hj
   case c2=>intro u' A_;simp at A_;subst A_;rfl
   case c3=>unfold maxLen;omega
   case bw=>omega
   case dm=>simp;omega
   intro v' w3 hown' hgrow _;obtain⟨va,vn,vc,rfl⟩:=oy hown';have eV:Hid (rq w3 (w.heap.size+1) (.slice va vn vc) ((gG i b c0 az c2 c3).take (2+(k+1)))):=by
    unfold Hid rq;rw[af dJ,bU,n_,sH,MA];exact hown'
   have jI:Hid (aw w w3/\w.heap.size+1<w3.heap.size):=⟨(kF.alloc ae _).grown hgrow aX (fun k' gU=>by have:=(iN.lt k' gU).1;omega),by have:=hgrow.size;simp at this;omega⟩
   clear hown' hgrow af3;go_wp2;exact⟨⟨k+1,_,_,_,dD,rfl,ae,eV,jI.1,jI.2⟩,gN⟩
  ·have eJ:k=4:=ae;subst eJ;have aJ:(gG i b c0 az c2 c3).take (2+4)=gG i b c0 az c2 c3:=rfl;rw[aJ]at iN;obtain⟨fg,aqk,hv,af4,p9⟩:=afW (mb:=mb) (af iN) (by simp[gG]) ae;cases hv;have aD:aw wr wr.drew:=bj.drew;have HW:=ag (NV fg c (gG i b c0 az c2 c3) wr.drew (fun f hf=>by
    obtain⟨s0,s1,s2,s3,s4,s5⟩:=af HS;simp only[gG,eK,uW,uZ]at hf;rcases hf with rfl|rfl|rfl|rfl|rfl|rfl <;> exact kC _ (by assumption)) p9.1 (fun j hj=>p9.2.2.2 j hj) af4 (by simp[gG]) (by rw[DC];omega))
   have hmk:=hbr.block mb mY;have Om:wr.drew.cell? (ar mb 0)=some (aU g 0 l.length cap):=(dC hmk).trans hmc;clear p9 cN aJ;have af5:wr.cell? (ar mb 0)=some (aU g 0 l.length cap):=Om;obtain⟨yR,Gj,yq,hown2⟩:=af2 (af HO) (h:=bY (gG i b c0 az c2 c3)) (by rw[DC];exact hl);obtain⟨nc,Gq⟩:∃x,x=bY (gG i b c0 az c2 c3):=⟨_,rfl⟩
   have FM:nc.length=12:=by rw[Gq];exact DC i b c0 az c2 c3
   rw[<- Gq]at HW hown2 yq;have VO:Hid (∀w2,Below wr.drew.heap.size wr.drew w2->(Builtin.copy_ #[58,9] 3 #[aU g 0 l.length cap,aA nc]).run prog w2=.ok (goInt (ah nc).size) (w2.setRow g (yR.toList.take 0++Lib.byteCells (ah nc).data.toList++yR.toList.drop (0+(ah nc).size)).toArray)):=fun w2 hb2=>by
    have e:=((hb2.block g (show g<wr.heap.size by omega)).trans (hbr.block g yA)).trans Gj;exact Lib.run_copy_row_string w2 _ _ _ _ g 0 l.length cap (ah nc) yR 5 AY af0 e (by rw[dt];omega) (by rw[dt];omega)
   have JX:Hid (∀w2,Below wr.drew.heap.size wr.drew w2->d_ (w2.setRow g (yR.toList.take 0++Lib.byteCells (ah nc).data.toList++yR.toList.drop (0+(ah nc).size)).toArray) base (aU g 0 l.length cap) (nc++l.drop nc.length)):=fun w2 hb2 =>
    hown2 w2 (((hb2.block g (show g<wr.heap.size by omega)).trans (hbr.block g yA)).trans Gj)
   clear hown2 Gj yq;generalize (yR.toList.take 0++Lib.byteCells (ah nc).data.toList++yR.toList.drop (0+(ah nc).size)).toArray=row at *;have af6:=ag Gq;clear Gq hmk;go_wp2_with fail
   go_region_held_law (fun w'=>w'.cell? (ar mb 0)=some (aU g 0 l.length cap)) (first|assumption|exact(cell_setRow_other _ _ _ _ ub).trans (by assumption))
    (first
     | (refine af1 rfl (.tmp 32) (.tmp 34) 58 9 rfl _ _ _ _ rfl rfl (VO _ hb2) ?_)
     | (go_at_call 199;go_loud (refine HW.mono ?_;rintro e w2 ⟨rfl,hb2⟩;have eU:=(hb2.cell (p:=⟨mb,0,none⟩) (show mb<wr.heap.size by omega)).trans Om)))
   rename_i hH;have VP:=af JX w2 hb2;have hcv:=JC VP;have DD:aw w w2:=hbr.trans ((bj.drew.trans hb2).mono fc);obtain⟨af7,VQ⟩:=yM (af HO) rfl;have nQ:Hid (NS mb base w (w2.setRow g row)):=⟨DD.os,DD.tape,DD.output,by rw[setRow_size];exact DD.size,fun k hk hm hp=>by
    by_cases e:k=g
    ·subst e;rcases hp with hp|hp
     ·omega
     ·exact absurd VQ (hp af7)
    ·exact(setRow_other _ _ _ _ e).trans (DD.block k hk)⟩
   have bu:Hid (nc++List.drop (List.length nc) l=bY (gG i b c0 az c2 c3)++l.drop 12):=by rw[Hid,FM,af af6]
   rw[af bu]at hcv;clear VP DD VQ hb2 eU VO JX HW hbr hmc Om af5 bu FM;generalize w2.setRow g row=w3 at *;go_wp2;go_ret;exact⟨rfl,nQ⟩
theorem af8(W:World)(b:Nat)(hb:b=W.heap.size)(r:aj)(t:TypeId):∀(j:Nat) (u:Value),(fM [r])[j]? = some u->(W.alloc (.cells #[.string (ah r.owner),.int .i64 r.aV,.int .i64 r.type,.string (ah r.data)] t)).cell? (((ar b 0):Addr).add j)=some u:=fun j u hj=>by
 subst hb;simp only[fM,aj.aN,tG,Sp,jt]at hj;have hn:=World.alloc_heap_new W (.cells #[.string (ah r.owner),.int .i64 r.aV,.int .i64 r.type,.string (ah r.data)] t);generalize W.alloc (.cells #[.string (ah r.owner),.int .i64 r.aV,.int .i64 r.type,.string (ah r.data)] t)=W' at hn ⊢;generalize W.heap.size=b at hn ⊢
 match j,hj with
 | 0,hj=>simp at hj;subst hj;simp[Addr.add,World.cell?,hn]
 | 1,hj=>simp at hj;subst hj;simp[Addr.add,World.cell?,hn]
 | 2,hj=>simp at hj;subst hj;simp[Addr.add,World.cell?,hn]
 | 3,hj=>simp at hj;subst hj;simp[Addr.add,World.cell?,hn]
 | n+4,hj=>simp at hj
theorem af9(sb zb cb b off cap:Nat)(k:Int)(bz:Bool)(va vb vc:Value)(o:ai)(rs ans:List aj)(r:aj)(w:World)(hs:dF w sb zb k 0 bz va vb vc cb)(ho:bT w (sb+1) va ans)
  (hz:fA w zb o b off cap rs) (hzs:zb<sb) (aD:r.data.length<=3000) (eR:o.length<=3000) (h8:ans.length<8) :
  aF 247 #[aO sb,r.pP] w fun e w'=>e=.returned (.tuple #[aA r.data,.bool (dU r.data o)])/\(∃dr,dF w' sb zb k 0 bz dr vb vc cb/\bT w' (sb+1) dr (ans++[r]))/\Below sb w w':=by
 obtain⟨i0,au,hz0,hz1,hz2⟩:=kS CZ;obtain⟨aa,ac,rfl⟩:=ho.slice;have ow:=hs.lt;have hown:=ho.mr;have hne:some sb≠(Value.slice aa ans.length ac).ownBlock:=fun e=>by have:=hown sb e.symm;omega
 have hnz:some zb≠(Value.slice aa ans.length ac).ownBlock:=fun e=>by have:=hown zb e.symm;omega
 have af_:some w.heap.size≠(Value.slice aa ans.length ac).ownBlock:=fun e=>by have:=hown _ e.symm;omega
 obtain⟨s0,s1,s2,s3,s4,s5,s6,s7⟩:=hs.cells;have aga:((ans.length:Int) == 8)=false:=by rw[gL];omega
 have HU:Hid (∀W,aF 110 #[aA r.data,aA o] W fun e w'=>e=.returned (.bool (dU r.data o))/\w'=W):=fun W=>by
  have:=Fl (ah r.data) (ah o) W (by rw[dt];omega) (by rw[dt];omega);rw[qJ,qJ]at this;exact this
 generalize dU r.data o=ud at HU ⊢;have HS:=ag hs;have HO:=ag ho;have qV:=ag hown;have hz0':=hz.2.1;have T9:=hz.1;clear hs ho hown hz s0 s1 s2 s3 s5 s6 s7;unfold aj.pP;go_enter func247,ntmps247;go_upto_region 4 with fail
 go_region_law (first|(refine step_append_lies _ rfl (.tmp 25) (.tmp 27) 41 rfl (sb+1) 47 i0 _ 4 48 Jg au hz0 hz1 hz2 rfl aC _ ans.length (fM ans) rfl ((HO.alloc _).alloc _) _ 1 1 (fM [r]) rfl rfl (af8 _ _ ak r _) NH aC (by unfold maxLen;omega) ae aX (w.heap.size+2) ak ?_;intro g cap' w3 hown hgrow hat hlt3;have hblk:∀i,i<w.heap.size+1->some i≠(Value.slice aa ans.length ac).ownBlock->w3.heap[i]? = (w.alloc (.cells #[.string (ah r.owner),.int .i64 r.aV,.int .i64 r.type,.string (ah r.data)] 47)).heap[i]?:=(fun i au hn=>(hgrow.block i aX hn).trans (bV _ _ _ aX));have hs3:dF w3 sb zb k 0 bz (.slice aa ans.length ac) vb vc cb:=HS.kept ((hblk sb ae hne).trans (bV _ _ _ ow));have hf3:=hs3.frozen;have t4:=hs3.cells.2.2.2.2.1))
 all_goals
  have hown':bT w3 (sb+1) (aU g 0 (ans.length+1) cap') (ans++[r]):=by
   unfold bT;rw[bU,Uo];exact hown
  have hgr:(Value.slice (some (ar g 0)) (ans.length+1) cap').ownBlock=some g:=rfl;have Gr:w3.heap[w.heap.size]? = some (.cells #[.string (ah r.owner),.int .i64 r.aV,.int .i64 r.type,.string (ah r.data)] 47):=(hblk w.heap.size ae af_).trans (World.alloc_heap_new w _);have hzz:w3.cell? (ar zb 0)=some (aA o):=(dC ((hblk zb ae hnz).trans (bV _ _ _ T9))).trans hz0';have hge:sb+1<=g:=(hown'.mr g hgr).1;have aZ:Hid (Below sb w w3):=⟨hgrow.os,hgrow.tape,hgrow.output,a_ aX hgrow.size,fun i au=>(hblk i ae (fun e=>by have:=af qV i e.symm;omega)).trans (bV _ _ _ ae)⟩
  have fP:=ag (hs3.AO (aU g 0 (ans.length+1) cap'));have Nf:=ag (hown'.ky (k:=sb) (i:=4) ae (aU g 0 (ans.length+1) cap'));have q3:(w3.setCell ⟨sb,4,none⟩ (.slice (some ⟨g,0,none⟩) (ans.length+1) cap')).cell? (ar w.heap.size 3)=some (aA r.data):=by
   rw[E8 _ _ _ _ (fun x=>by have:=ek Addr.block x;simp at this;omega)];simp[World.cell?,Gr]
  have qz:(w3.setCell ⟨sb,4,none⟩ (.slice (some ⟨g,0,none⟩) (ans.length+1) cap')).cell? (ar zb 0)=some (aA o):=by
   rw[E8 _ _ _ _ (fun x=>by have:=ek Addr.block x;simp at this;omega)];exact hzz
  have q0:=fP.cells.1;clear hown hgrow hat hblk hs3 hown' Gr hzz hf3 t4;go_wp2_with fail
  go_region_held (fun w'=>w'.cell? (ar w.heap.size 3)=some (aA r.data)/\w'.cell? (ar sb 0)=some (aO zb)/\w'.cell? (ar zb 0)=some (aA o)) (first|assumption|exact⟨q3,q0,qz⟩|go_keep)
   (first|(go_at_call 110;refine(HU _).mono ?_;rintro e w' ⟨rfl,rfl⟩))
  all_goals
   go_wp2;go_ret2;have rz:=aZ.setCell (p:=⟨sb,4,none⟩) (aL sb) (aU g 0 (ans.length+1) cap');exact⟨rfl,⟨_,fP,Nf⟩,⟨rz.os,rz.tape,rz.output,rz.size,rz.block⟩⟩
theorem agb(sb zb cb c:Nat)(k:Int)(bz:Bool)(va vb vc:Value)(ans:List aj)(r:aj)(w:World)(hs:dF w sb zb k 0 bz va vb vc cb)(ho:bT w (sb+1) va ans)(hc:mW w cb c false)(hne:cb≠c)(hcs:c<sb)(h8:ans.length=8) :
  aF 247 #[aO sb,r.pP] w fun e w'=>e=.returned (.tuple #[aA r.data,.bool true])/\dF w' sb zb k 0 bz va vb vc cb/\mW w' cb c true/\∀n,n<=c->Below n w w':=by
 obtain⟨aa,ac,rfl⟩:=ho.slice;have ow:=hs.lt;have qU:=hc.lt;obtain⟨s0,s1,s2,s3,s4,s5,s6,s7⟩:=hs.cells;have aga:((ans.length:Int) == 8)=true:=by rw[iv];omega
 have eM:aw w (w.alloc (.cells #[.string (ah r.owner),.int .i64 r.aV,.int .i64 r.type,.string (ah r.data)] 47)):=bj.alloc aB _;have HC:=ag (ae_ cb c _ (hc.below eM hc.1 qU) hne);have Gr:(w.alloc (.cells #[.string (ah r.owner),.int .i64 r.aV,.int .i64 r.type,.string (ah r.data)] 47)).heap[w.heap.size]? = some (.cells #[.string (ah r.owner),.int .i64 r.aV,.int .i64 r.type,.string (ah r.data)] 47):=World.alloc_heap_new w _;have HS:=ag hs;clear hs ho hc s0 s1 s2 s3 s5 s6;unfold aj.pP;go_enter func247,ntmps247;go_wp2_with fail;refine HC.mono ?_;rintro e w1 ⟨⟨v,rfl⟩,hc1,hblk,hsz,hB⟩;have q3:w1.cell? (ar w.heap.size 3)=some (aA r.data):=by{have:=(hblk w.heap.size ae).trans Gr;simp[World.cell?,this]};have fE:=ag (HS.kept ((hblk sb ae).trans (bV _ _ _ ow)));have f_:=ag hc1;have aZ:=ag hB;clear hc1 hblk hB Gr;go_wp2;go_ret2;exact⟨rfl,fE,f_,fun n hn=>(eM.mono ae).trans (aZ n hn)⟩
def iQ(o:ai)(rs:List aj)(n:ai):Option aj:=if(dn o rs n).length=0/\(cg rs n).2=true/\rk (cg rs n).1=true then some ((cg rs n).1.headD aj.zero)else none
def fx(o:ai)(rs:List aj):Nat->ai->Option (List aj×Option ai)
 | 0,n=>match iQ o rs n with
  | none=>some ([],some n)
  | some _=>none
 | m+1,n=>match iQ o rs n with
  | none=>some ([],some n)
  | some r=>if dU r.data o=true then(fx o rs m r.data).map (fun x=>(r :: x.1,x.2))else some ([r],none)
def xB(o:ai)(rs:List aj):Option ai->Int
 | some x=>jO o rs x
 | none=>0
def vQ(o:ai)(rs:List aj)(k:Int):Option ai->List aj
 | some x=>kE o rs k x
 | none=>[]
def xC(o:ai)(rs:List aj)(k:Int):Option ai->List aj
 | some x=>lV o rs k x
 | none=>[]
theorem VR(sb zb cb b off cap:Nat)(k:Int)(bz:Bool)(va vb vc:Value)(o n:ai)(rs:List aj)(r:aj)(t:Bool)(R:World->Prop)(w:World)(hs:dF w sb zb k 0 bz va vb vc cb)
  (hz:fA w zb o b off cap rs) (hg:bH w) (lT:w_ o rs) (hn:n.length<=2900) (h5:(k == 5)=false) (iw:(k == 255)=false)
  (hc:(dn o rs n).length=0) (hm:(cg rs n).2=true) (hr:(cg rs n).1 = [r]) (yr:rk [r]=true)
  (eE:∀W,aw w W->aF 247 #[aO sb,r.pP] W fun e w'=>e=.returned (.tuple #[aA r.data,.bool t])/\R w') :
  aF 194 #[aO sb,aA n] w fun e w'=>e=.returned (.tuple #[aA r.data,.bool t])/\R w':=by
 obtain⟨hlen,eR,hrl⟩:=lT;have Dm:(k != 5)=true:=by unfold bne;rw[h5];rfl
 have VS:(k != 255)=true:=by unfold bne;rw[iw];rfl
 clear h5 iw;have ow:=hs.lt;obtain⟨s0,s1,_⟩:=hs.cells;have eT:=ag hz;have HG:=ag hg;have HC:=ag (Jq zb b off cap o n rs w hz hg hlen ae eR);have nd:Hid (∀W,aw w W->dF W sb zb k 0 bz va vb vc cb):=fun W hb=>hs.kept (hb.block sb ow);have uq:=ag eE;clear hs hz hg eE;have Gs:¬(0:Int)<((dn o rs n).length:Int):=ae;clear hc;have bA:=ag (fun W (hb:aw w W)=>NJ zb b off cap o n rs W (eT.below hb) (HG.below hb) hlen hn (fun r hr=>(hrl r hr).1));go_enter func194,ntmps194;go_wp2_with fail;refine HC.mono ?_;rintro e w1 ⟨⟨v1,rfl,jy⟩,hb1⟩;obtain⟨a1,az,rfl⟩:=jy.slice;clear jy;obtain⟨t0,t1,_⟩:=(nd w1 hb1).cells;go_wp2_with fail;refine(bA w1 hb1).mono ?_;rintro e w2 ⟨⟨v2,rfl,hv2⟩,hb2⟩;rw[hm];rw[hr]at hv2;have dZ:=hb1.trans (hb2.mono hb1.size);have hs2:=af nd w2 dZ;obtain⟨u0,u1,u2,u3,u4,u5,u6,u7⟩:=hs2.cells;have DF:=ag (U0 v2 _ w2 hv2.rv ak);rw[yr]at DF;have nJ:=hv2.rv;clear hv2 hs2 u0 u2 u3 u4 u5 u6 u7;rcases nJ with⟨_,h⟩|⟨b',off',cap',rfl,ml,hr2⟩;{cases h};obtain⟨c0,c1',c2,c3⟩:=hr2.four 0 ak;simp only[Ad,tI,dS]at c0 c1' c2 c3;have yB:=ag (uq w2 dZ);unfold aj.pP at yB;clear hr2 uq;simp only[cU,fV]at ml DF ⊢;go_wp2_with fail;refine DF.mono ?_;rintro e w2 ⟨rfl,rfl⟩;go_wp2_with fail;refine yB.mono ?_;rintro e w3 ⟨rfl,hR⟩;have aT:=ag hR;clear hR;go_wp2;go_ret2;exact⟨rfl,aT⟩
theorem agc{w w':World}{n:Nat}(h:bH w)(hb:Below n w w')(h0:0<n):bH w':=by obtain⟨h1,m,h2⟩:=h;exact⟨eQ h1 hb.size,m,(hb.cell (p:=⟨0,0,none⟩) h0).trans h2⟩
theorem Oo{o:ai}{rs:List aj}{n:ai}{r:aj}(h:iQ o rs n=some r):(dn o rs n).length=0/\(cg rs n).2=true/\(cg rs n).1 = [r]/\rk [r]=true:=by unfold iQ at h;split at h;{rename_i hh;obtain⟨h1,h2,h3⟩:=hh;have h4:=h3;unfold rk at h4;simp only[fo,iv]at h4;obtain⟨x,hx⟩:=IG.1 h4.1;rw[hx]at h h3;simp only[List.headD_cons,pL]at h;subst h;exact⟨h1,h2,hx,h3⟩};{cases h}
theorem agd{o:ai}{rs:List aj}{n:ai}(h:iQ o rs n=none):(dn o rs n).length=0->(cg rs n).2=true->rk (cg rs n).1=false:=fun h1 h2=>by
 unfold iQ at h;split at h
 ·cases h
 ·rename_i hh;cases e:rk (cg rs n).1
  ·rfl
  ·exact absurd ⟨h1,h2,e⟩ hh
end Go.Proofs.YtkkpahmoljiepaaGreatDoor
