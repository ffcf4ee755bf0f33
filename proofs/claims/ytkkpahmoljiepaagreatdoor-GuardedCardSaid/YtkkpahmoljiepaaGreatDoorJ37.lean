import Derived.Test.YtkkpahmoljiepaaGreatDoorJ36
set_option maxRecDepth 1000000
set_option maxHeartbeats 12800000
set_option linter.unusedSimpArgs false
set_option linter.unusedVariables false
namespace Go.Proofs.YtkkpahmoljiepaaGreatDoor
open Go.RowKit Go.Proofs.Tryz
def E2(w':World)(xb zb rb sb mb bb base:Nat)(ax ip bs:ai):Prop:=aiI w' xb zb rb sb mb bb base ax ip (Kl bs) false 0 276 8 0 (G6 8) 0 0 (G6 0) 0 0 0 false/\ko w' mb bb base (Kl bs) false 0 276 (false,true,true)
def abz(s:ai)(w w':World)(zb base xb:Nat):Prop:=∃p g cap,oO s=some p/\l7 p.1 p.2/\fA w' zb p.1 g 0 cap (aQ p.2)/\w.heap.size<=zb/\w.heap.size<=g/\zb<base/\g<base/\zb≠xb/\g≠xb
def x9(s ax ip bs:ai)(mb bb:Nat)(w:World)(e:Ending)(w':World):Prop :=
 if(oO s).isSome=true then
  if x8 ax ip=true then ∃xb zb rb sb base,e=.returned (.tuple #[.pointer (some ⟨xb,0,none⟩),.int .i64 0])/\E2 w' xb zb rb sb mb bb base ax ip bs/\(xb<base/\base<=rb/\base<=sb/\w.heap.size<=xb)/\(∀i,i<w.heap.size->i≠mb->i≠bb->w'.heap[i]? = w.heap[i]?)/\(w'.os=w.os/\w'.tape=w.tape/\w'.output=w.output)/\abz s w w' zb base xb
  else e=.returned (.tuple #[.pointer none,.int .i64 3])/\Below w.heap.size w w'
 else e=.returned (.tuple #[.pointer none,.int .i64 1])/\Below w.heap.size w w'
theorem abA{w:World}{zb g off cap:Nat}{o:ai}{rs:List aj}(h:fA w zb o g off cap rs):g<w.heap.size:=h.2.2.2.2.1
theorem abB{w w':World}{zb g off cap:Nat}{o:ai}{rs:List aj}(h:fA w zb o g off cap rs)(hs:w.heap.size<=w'.heap.size)(h1:w'.heap[zb]? = w.heap[zb]?)(h2:w'.heap[g]? = w.heap[g]?):fA w' zb o g off cap rs :=
 ⟨eQ h.1 hs,(dC h1).trans h.2.1,(dC h1).trans h.2.2.1,h.2.2.2.1,vy h.2.2.2.2 hs h2⟩
theorem aow(bs:ai):(Bz bs).2.1=8:=rfl
theorem aox(bs:ai):(Bz bs).2.2=G6 8:=rfl
theorem CA{w w':World}{mb bb:Nat}{bs:ai}(h:s9 w mb bb bs)(hb:Below w.heap.size w w'):s9 w' mb bb bs:=⟨gZ h.1 (hb.block mb (qh h.1)),iH h.2 (hb.block bb h.2.2.lt)⟩
theorem aoy:O6 (false,false,false)=(false,true,true):=aK
theorem aoz(b5 b10 xb zb mb bb:Nat)(ax ip bs:ai)(w:World)(h5:ay w b5 [.iface 71 (.pointer (some ⟨mb,0,none⟩))] 160)(h10:ay w b10 [.pointer (some ⟨xb,0,none⟩)] 73)
  (hx:ay w xb [.pointer (some ⟨zb,0,none⟩),.string (ah ax),.string (ah ip),.pointer none,.pointer none,.int .i64 0,.int .i64 0,.int .i64 0,.bool false] 165) (hm:s9 w mb bb bs) :
  Calls prog 89 #[.pointer (some ⟨b5,0,none⟩),.pointer (some ⟨b10,0,none⟩)] w fun e w' =>
   e=.returned (.bool true)/\E2 w' xb zb w.heap.size (w.heap.size+1) mb bb w.heap.size ax ip bs/\(∀i,i<w.heap.size->i≠xb->i≠mb->i≠bb->w'.heap[i]? = w.heap[i]?)/\w'.os=w.os/\w'.tape=w.tape/\w'.output=w.output/\w.heap.size+2<=w'.heap.size:=by
 have n1:xb≠mb:=eP hx hm.1 aC;have n2:xb≠bb:=eP hx hm.2.2 aC;have lR:=hx.lt;have eE:=ag (ahv mb bb w.heap.size false 0 0 _ bs w.drew (XX hm w.heap.size) (aL _) ae);rw[aow,aox,aoy]at eE;have ua:w.drew.cell? ⟨b10,0,none⟩=some (.pointer (some ⟨xb,0,none⟩)):=ay.cell h10 0 ak;have dm:w.drew.cell? ⟨b5,0,none⟩=some (.iface 71 (.pointer (some ⟨mb,0,none⟩))):=ay.cell h5 0 ak;have cN:=ag hx;have aoA:=ag h10;have abC:b10≠mb/\b10≠bb:=⟨eP h10 hm.1 aC,eP h10 hm.2.2 aC⟩
 have hb5:b5≠mb/\b5≠bb:=⟨eP h5 hm.1 aC,eP h5 hm.2.2 aC⟩
 have aoB:b10≠xb:=eP h10 hx aC;have aoC:b5≠xb:=eP h5 hx aC;have aoD:=ag h5;clear h5 h10 hx hm;obtain⟨rs,mO⟩:=bP w.heap.size;have aoE:Hid (Calls prog 90 #[.iface 71 (.pointer (some ⟨mb,0,none⟩))] w.drew fun e w'=>e=.returned (.tuple #[.pointer (some ⟨rs,0,none⟩),.pointer (some ⟨rs+1,0,none⟩)])/\(ko w' mb bb rs (Kl bs) false 0 276 (false,true,true)/\dy w' rs 240 mb 0 1024 8 0 (G6 8)/\dy w' (rs+1) 241 mb 512 13312 0 0 (G6 0)/\(∀i,i<rs->i≠mb->i≠bb->w'.heap[i]? = w.heap[i]?)/\w'.os=w.os/\w'.tape=w.tape/\w'.output=w.output/\rs+2<=w'.heap.size)):=by
  rw[mO];refine(af eE).mono ?_;rintro e w' ⟨rfl,my,hr',hs',gU,xn,HY,A_,hz'⟩;exact⟨rfl,by simpa using my,hr',hs',fun i au h1 h2=>gU i au h1 h2 (.inl au),xn,HY,A_,hz'⟩
 rw[<- mO]at lR ⊢;have GI:=ag mO;have aoF:b10<rs:=by rw[mO];exact(af aoA).lt
 have uN:b5<rs:=by rw[mO];exact(af aoD).lt
 have nd:Hid (∀(W:World) (o:Nat) (v:Value),(W.cell? ⟨b10,0,none⟩=some (.pointer (some ⟨xb,0,none⟩))/\W.cell? ⟨b5,0,none⟩=some (.iface 71 (.pointer (some ⟨mb,0,none⟩))))->((W.setCell ⟨xb,o,none⟩ v).cell? ⟨b10,0,none⟩=some (.pointer (some ⟨xb,0,none⟩))/\(W.setCell ⟨xb,o,none⟩ v).cell? ⟨b5,0,none⟩=some (.iface 71 (.pointer (some ⟨mb,0,none⟩))))):=fun W o v h =>
  ⟨(dC (bf _ _ _ _ aoB)).trans h.1,(dC (bf _ _ _ _ aoC)).trans h.2⟩
 clear eE mO;go_enter func89,ntmps89;go_wp2_with (fail)
 go_region_held (fun w'=>w'.cell? ⟨b10,0,none⟩=some (.pointer (some ⟨xb,0,none⟩))/\w'.cell? ⟨b5,0,none⟩=some (.iface 71 (.pointer (some ⟨mb,0,none⟩)))) (first|assumption|exact⟨ua,dm⟩|exact⟨q10,q5⟩|exact af nd _ _ _ ⟨q10,q5⟩|exact af nd _ _ _ (af nd _ _ _ ⟨q10,q5⟩)|go_keep)
  (first|(go_at_call 90;go_loud (refine(af aoE).mono ?_;rintro e w2 ⟨rfl,bZ⟩;have hx2:=(bZ.2.2.2.1 xb lR n1 n2).trans (af cN);have q3:=ay.cell hx2 3 ak;have q4:=ay.cell hx2 4 ak;have aoG:=ay.frozen hx2;have q10:w2.cell? ⟨b10,0,none⟩=some (.pointer (some ⟨xb,0,none⟩)):=(dC (bZ.2.2.2.1 b10 aoF abC.1 abC.2)).trans ua;have q5:w2.cell? ⟨b5,0,none⟩=some (.iface 71 (.pointer (some ⟨mb,0,none⟩))):=(dC (bZ.2.2.2.1 b5 uN hb5.1 hb5.2)).trans dm)))
 all_goals
  obtain⟨fJ,hr2,hs2,hk2,ho2,cL,hu2,hz2⟩:=bZ;have fq:Hid (∀W',(W'=(w2.setCell ⟨xb,3,none⟩ (.pointer (some ⟨rs,0,none⟩))).setCell ⟨xb,4,none⟩ (.pointer (some ⟨rs+1,0,none⟩))\/W'=(w2.setCell ⟨xb,4,none⟩ (.pointer (some ⟨rs+1,0,none⟩))).setCell ⟨xb,3,none⟩ (.pointer (some ⟨rs,0,none⟩))) ->
    E2 W' xb zb rs (rs+1) mb bb rs ax ip bs/\(∀i,i<rs->i≠xb->i≠mb->i≠bb->W'.heap[i]? = w.heap[i]?)/\W'.os=w.os/\W'.tape=w.tape/\W'.output=w.output/\rs+2<=W'.heap.size):=fun W' jG=>by
   have hX:pC W' xb zb rs (rs+1) ax ip 0 0 0 false:=by
    rcases jG with rfl|rfl
    ·exact ay.set (ay.set hx2 3 _) 4 _
    ·exact ay.set (ay.set hx2 4 _) 3 _
   have oG:∀i,i≠xb->W'.heap[i]? = w2.heap[i]?:=fun i hne=>by
    rcases jG with rfl|rfl <;> exact(bf _ _ _ _ hne).trans (bf _ _ _ _ hne)
   have hsz:W'.heap.size=w2.heap.size:=by rcases jG with rfl|rfl <;> simp[World.setCell]
   have RV:W'.os=w2.os/\W'.tape=w2.tape/\W'.output=w2.output:=by rcases jG with rfl|rfl <;> exact⟨rfl,rfl,rfl⟩
   have hmx:=Kf fJ xb _ _ hx2 aC aC n1 n2 (fun i _ hne=>oG i hne);refine⟨⟨⟨⟨_,hmx⟩,(oG rs ae).trans hr2,(oG (rs+1) ae).trans hs2,hX,ae⟩,hmx⟩,fun i au h0 h1 h2=>(oG i h0).trans (hk2 i au h1 h2),RV.1.trans ho2,RV.2.1.trans cL,RV.2.2.trans hu2,ae⟩
  clear fJ hr2 hs2 hk2 ho2 cL hu2 hz2 hx2 q3 q4 aoG q10 q5;go_wp2_with (fail);go_ret;exact⟨rfl,af fq _ (by first|exact .inl rfl|exact .inr rfl)⟩
theorem aoH:∀n:Nat,n<256->bits .and .u8 (n:Int) 1=((n%2:Nat):Int):=by decide +kernel
theorem aoI(ax ip:ai)(w:World):Calls prog 87 #[.agg #[.string (ah ax),.string (ah ip)]] w fun e w'=>e=.returned (.bool (x8 ax ip))/\Below w.heap.size w w':=by
 obtain⟨c0,hc0⟩:∃c0:UInt8,c0=ax.getD 0 0:=⟨_,rfl⟩;have g0:∀h:0<(ah ax).size,(ah ax)[0]=c0:=fun h=>by{rw[hc0,uV,mM (by rw[dt]at h;exact h)];rfl};obtain⟨r,hr⟩:=bP (c0.toNat%2);have b0:bits .and .u8 (c0.toNat:Int) 1=(r:Int):=by rw[aoH _ (jX c0),hr]
 have ew:Hid (x8 ax ip=((ah ax).size == 6 && r == 0 && (ah ip).size == 4)):=by{rw[Hid,x8,dt,dt,hr,hc0]};have aZ:=ag ((bW w.heap.size w).alloc (aL _) (.cells #[.string (ah ax),.string (ah ip)] 62));have hr2:r<2:=ae;clear hc0 hr;generalize ah ax=m at *;generalize ah ip=i at *;generalize x8 ax ip=ok at *;go_enter func87,ntmps87;by_cases h6:m.size=6;{
 have j6:((m.size:Int) == 6)=true:=by simp[h6]
 by_cases h2:r=0;{
 have j2:((r:Int) == 0)=true:=by simp[h2]
 by_cases h4:i.size=4;{
 have bE:ok=true:=by rw[af ew,h6,h2,h4];rfl
 have j4:((i.size:Int) == 4)=true:=by simp[h4]
 subst bE h2;go_wp2;go_ret;exact⟨rfl,af aZ⟩};{
 have bE:ok=false:=by rw[af ew];simp[h4]
 have j4:((i.size:Int) == 4)=false:=aX;subst bE h2;go_wp2;go_ret;exact⟨rfl,af aZ⟩}};{
 have bE:ok=false:=by rw[af ew];simp[h2]
 have j2:((r:Int) == 0)=false:=aX;have h2':¬(r:Int)=0:=ae;subst bE;go_wp2;go_ret;exact⟨rfl,af aZ⟩}};{
 have bE:ok=false:=by rw[af ew];simp[h6]
 have j6:((m.size:Int) == 6)=false:=aX;subst bE;go_wp2;go_ret;exact⟨rfl,af aZ⟩}
abbrev tz:Obj:=.cells #[.pointer none] 73
abbrev Cp(ax ip:ai)(zb:Nat):Obj:=.cells #[.pointer (some ⟨zb,0,none⟩),.string (ah ax),.string (ah ip),.pointer none,.pointer none,.int .i64 0,.int .i64 0,.int .i64 0,.bool false] 165
theorem abD{X w3:World}(hb:Below (X.alloc tz).heap.size (X.alloc tz) w3):ay w3 X.heap.size [.pointer none] 73:=(hb.block X.heap.size ak).trans (World.alloc_heap_new X tz)
theorem aoJ{X w3:World}(hb:Below (X.alloc tz).drew.heap.size (X.alloc tz).drew w3):ay w3 X.heap.size [.pointer none] 73:=abD (X:=X) ⟨hb.os,hb.tape,hb.output,hb.size,hb.block⟩
theorem aoK{W w3:World}{k:Nat}(h:ay W k [.pointer none] 73)(hb:Below W.heap.size W w3):ay w3 k [.pointer none] 73:=(hb.block k h.lt).trans h
def RX(ax ip:ai)(W3:World)(zb xb b10:Nat):Prop:=ay W3 xb [.pointer (some ⟨zb,0,none⟩),.string (ah ax),.string (ah ip),.pointer none,.pointer none,.int .i64 0,.int .i64 0,.int .i64 0,.bool false] 165/\ay W3 b10 [.pointer (some ⟨xb,0,none⟩)] 73
theorem abE{ax ip:ai}{w':World}{zb:Nat} : RX ax ip ((w'.alloc (Cp ax ip zb)).alloc (.cells #[.pointer (some ⟨w'.heap.size,0,none⟩)] 73)) zb w'.heap.size (w'.heap.size+1):=by have h1:=ay.eo (w'.alloc (Cp ax ip zb)) [.pointer (some ⟨w'.heap.size,0,none⟩)] 73;rw[dI]at h1;exact⟨(bV _ _ _ ak).trans (World.alloc_heap_new w' _),h1⟩
theorem abF{ax ip:ai}{w':World}{zb:Nat} : RX ax ip ((w'.alloc (.cells #[.pointer (some ⟨w'.heap.size+1,0,none⟩)] 73)).alloc (Cp ax ip zb)) zb (w'.heap.size+1) w'.heap.size:=by have h1:=World.alloc_heap_new (w'.alloc (.cells #[.pointer (some ⟨w'.heap.size+1,0,none⟩)] 73)) (Cp ax ip zb);rw[dI]at h1;exact⟨h1,(ay.eo w' [.pointer (some ⟨w'.heap.size+1,0,none⟩)] 73).alloc _⟩
theorem Md{ax ip:ai}{w':World}{zb b10:Nat}(h:ay w' b10 [.pointer none] 73):RX ax ip ((w'.setCell ⟨b10,0,none⟩ (.pointer (some ⟨w'.heap.size,0,none⟩))).alloc (Cp ax ip zb)) zb w'.heap.size b10:=by have h1:=World.alloc_heap_new (w'.setCell ⟨b10,0,none⟩ (.pointer (some ⟨w'.heap.size,0,none⟩))) (Cp ax ip zb);rw[show(w'.setCell ⟨b10,0,none⟩ (.pointer (some ⟨w'.heap.size,0,none⟩))).heap.size=w'.heap.size by simp[World.setCell]]at h1;exact⟨h1,(ay.set h 0 (.pointer (some ⟨w'.heap.size,0,none⟩))).alloc _⟩
theorem abG{n:Nat}{w2 w4:World}(h:Below n w2 w4)(hn:n<=w4.heap.size)(o o':Obj):Below n w2 ((w4.alloc o).alloc o'):=(h.alloc hn o).alloc aX o'
theorem abH{n b:Nat}{w2 w4:World}(h:Below n w2 w4)(hn:n<=w4.heap.size)(hb:n<=b)(v:Value)(o:Obj):Below n w2 ((w4.setCell ⟨b,0,none⟩ v).alloc o):=(h.setCell (p:=⟨b,0,none⟩) hb v).alloc (by simp[World.setCell];omega) o
theorem aoL{w2 w3:World}(hb:Below w2.drew.heap.size w2.drew w3):Below w2.heap.size w2 w3:=(bW _ _).drew.trans hb
theorem aoM{w2 w3:World}(hb:Below (w2.alloc tz).drew.heap.size (w2.alloc tz).drew w3):Below w2.heap.size w2 w3:=(((bW _ _).alloc (aL _) tz).drew).trans (hb.mono (by show w2.heap.size<=(w2.alloc tz).heap.size;simp))
theorem aoN{w2 w3 w4:World}(h:Below w2.heap.size w2 w3)(hb:Below w3.heap.size w3 w4):Below w2.heap.size w2 w4:=h.trans (hb.mono h.size)
theorem aoO{w2 w3 w4:World}(h:Below w2.heap.size w2 w3)(hb:Below (w3.alloc tz).heap.size (w3.alloc tz) w4):Below w2.heap.size w2 w4:=(h.alloc h.size tz).trans (hb.mono (by have:=h.size;simp;omega))
theorem aoP(s ax ip:ai)(mb bb:Nat)(bs:ai)(w:World)(hg:bH w)(hm:s9 w mb bb bs) :
  Calls prog 43 #[.string (ah s),.agg #[.string (ah ax),.string (ah ip)],.iface 71 (.pointer (some ⟨mb,0,none⟩))] w fun e w'=>x9 s ax ip bs mb bb w e w':=by
 obtain⟨mY,oY⟩:=Ec (KN hm 0);obtain⟨E3,CB⟩:=bP ((w.alloc (.cells #[.string (ah ax),.string (ah ip)] 62)).alloc (.cells #[.iface 71 (.pointer (some ⟨mb,0,none⟩))] 160));have h_:Below w.heap.size w E3:=by rw[CB];exact((bW _ _).alloc (aL _) _).alloc ak _
 have Me:E3.heap.size=w.heap.size+2:=by rw[CB];simp
 have hc0:ay E3 w.heap.size [.string (ah ax),.string (ah ip)] 62:=by rw[CB];exact(ay.eo w _ _).alloc _
 have hc1:ay E3 (w.heap.size+1) [.iface 71 (.pointer (some ⟨mb,0,none⟩))] 160:=by
  have:=ay.eo (w.alloc (.cells #[.string (ah ax),.string (ah ip)] 62)) [.iface 71 (.pointer (some ⟨mb,0,none⟩))] 160;rw[dI]at this;rw[CB];exact this
 have bG:=ag (RU s E3 (hg.below h_));have fJ:=CA hm h_;rw[CB]at bG;have nI:=ag h_;have fQ:=ag hc0;have f_:=ag hc1;have bA:=ag fJ;have Kk:=ag Me;clear hg hm h_ hc0 hc1 fJ Me;go_enter func43,ntmps43;go_wp2_with (fail);refine(af bG).mono ?_;rw[<- CB];rintro e w1 ⟨hz,hb1⟩;have Me:=af Kk;have hB1:Below w.heap.size w w1:=(af nI).trans (hb1.mono ae);have hz1:=hb1.size;have Mf:ay w1 w.heap.size [.string (ah ax),.string (ah ip)] 62:=(hb1.block _ ae).trans (af fQ);have mH:ay w1 (w.heap.size+1) [.iface 71 (.pointer (some ⟨mb,0,none⟩))] 160:=(hb1.block _ ae).trans (af f_);have cQ:=CA (af bA) hb1;have bI:w1.cell? ⟨w.heap.size,0,none⟩=some (.string (ah ax)):=ay.cell Mf 0 ak;have d1:w1.cell? ⟨w.heap.size,1,none⟩=some (.string (ah ip)):=ay.cell Mf 1 ak;have aT:=ag (aoI ax ip w1);have cM:=ag hB1;have RY:=ag Mf;have RZ:=ag mH;have c4:=ag cQ;have eT:Hid (w.heap.size+2<=w1.heap.size):=by unfold Hid;omega
 have yP:Hid (w.heap.size<=E3.heap.size):=by unfold Hid;omega
 clear bG CB Me Kk hb1 hz1 hB1 Mf mH cQ fQ f_ bA nI;unfold Cz at hz;cases hp:oO s with
 | none =>
 rw[hp]at hz;subst hz;have E5:Hid (∀W,Below w.heap.size w W->x9 s ax ip bs mb bb w (.returned (.tuple #[.pointer none,.int .i64 1])) W):=fun W hW=>by
  unfold x9;rw[hp];exact⟨rfl,hW⟩
 clear hp aT;go_wp2;refine df (v:=.tuple #[.pointer none,.int .i64 1]) ?_ rfl (af E5 _ (af cM));simp[results,results43,go_sem]
 | some p =>
 rw[hp]at hz;obtain⟨abI,zb,g,cap,rfl,hzl,Dw,hT⟩:=hz;have hsome:(oO s).isSome=true:=by rw[hp];rfl
 have abJ:Hid (oO s=some p/\l7 p.1 p.2/\fA w1 zb p.1 g 0 cap (aQ p.2)/\w.heap.size<=zb/\w.heap.size<=g):=⟨hp,abI,hT,a_ (af yP) hzl,a_ (af yP) Dw⟩
 clear hp abI hT hzl Dw;go_wp2_with (fail);refine(af aT).mono ?_;rintro e w2 ⟨rfl,hb2⟩;have hz2:=hb2.size;by_cases bE:x8 ax ip=true
 case neg =>
  have abK:x8 ax ip=false:=by simpa using bE
  have E5:Hid (x9 s ax ip bs mb bb w (.returned (.tuple #[.pointer none,.int .i64 3])) w2):=by
   unfold Hid x9;rw[aP hsome,aG bE];exact⟨rfl,(af cM).trans (hb2.mono (af cM).size)⟩
  rw[abK];clear bE abK hsome aT hb2;go_wp2;refine df (v:=.tuple #[.pointer none,.int .i64 3]) ?_ rfl (af E5);simp[results,results43,go_sem]
 have E5:Hid (∀xb zb rb sb base W,E2 W xb zb rb sb mb bb base ax ip bs->(xb<base/\base<=rb/\base<=sb/\w.heap.size<=xb)->(∀i,i<w.heap.size->i≠mb->i≠bb->W.heap[i]? = w.heap[i]?)->W.os=w.os/\W.tape=w.tape/\W.output=w.output->abz s w W zb base xb->x9 s ax ip bs mb bb w (.returned (.tuple #[.pointer (some ⟨xb,0,none⟩),.int .i64 0])) W):=fun xb zb rb sb base W h1 h2 h3 h4 h5=>by
  unfold x9;rw[aP hsome,aP bE];exact⟨xb,zb,rb,sb,base,rfl,h1,h2,h3,h4,h5⟩
 have lm:(ah ax).size<=281474976710656:=by
  have:=bE;unfold x8 at this;rw[fo,fo,iv]at this;rw[dt,this.1.1];omega
 have li:(ah ip).size<=281474976710656:=by
  have:=bE;unfold x8 at this;rw[fo,iv (a:=ip.length)]at this;rw[dt,this.2];omega
 rw[bE];clear bE hsome;have R1:ay w2 w.heap.size [.string (ah ax),.string (ah ip)] 62:=(hb2.block _ (af RY).lt).trans (af RY);have abL:ay w2 (w.heap.size+1) [.iface 71 (.pointer (some ⟨mb,0,none⟩))] 160:=(hb2.block _ (af RZ).lt).trans (af RZ);have kj:=CA (af c4) hb2;have hB2:=(af cM).trans (hb2.mono (af cM).size);have ji:=ag ((af abJ).2.2.1.below hb2);have f0:w2.cell? ⟨w.heap.size,0,none⟩=some (.string (ah ax)):=ay.cell R1 0 ak;have f1:w2.cell? ⟨w.heap.size,1,none⟩=some (.string (ah ip)):=ay.cell R1 1 ak;have B9:=ag (fun(x:ByteArray) (W:World) (h:x.size<=281474976710656)=>UY x W h);have Im:Hid (∀(W3:World) (xb b10:Nat),Below w2.heap.size w2 W3->w2.heap.size<=xb->ay W3 xb [.pointer (some ⟨zb,0,none⟩),.string (ah ax),.string (ah ip),.pointer none,.pointer none,.int .i64 0,.int .i64 0,.int .i64 0,.bool false] 165->ay W3 b10 [.pointer (some ⟨xb,0,none⟩)] 73 ->
   Calls prog 88 #[.pointer (some ⟨xb,0,none⟩),.func (.func 89) #[] #[.pointer (some ⟨w.heap.size+1,0,none⟩),.pointer (some ⟨b10,0,none⟩)]] W3 fun e w'=>e=.returned (.tuple #[])/\w'.cell? ⟨b10,0,none⟩=some (.pointer (some ⟨xb,0,none⟩)) /\
    x9 s ax ip bs mb bb w (.returned (.tuple #[.pointer (some ⟨xb,0,none⟩),.int .i64 0])) w'):=fun W3 xb b10 gu lR hX h10=>by
  have z5:=af eT;have hz3:=gu.size;have hgb:=XK W3 xb;have ad7:=ajb W3 xb;have mE:=CA (CA kj gu) hgb;have aoQ:=(hgb.block xb hX.lt).trans hX;have R2:=(hgb.block b10 h10.lt).trans h10;have aoR:ay (js W3 xb) (w.heap.size+1) [.iface 71 (.pointer (some ⟨mb,0,none⟩))] 160:=(hgb.block _ ae).trans ((gu.block _ ae).trans abL);have aoS:b10≠xb:=eP h10 hX aC;have aoT:b10≠mb:=eP R2 mE.1 aC;have aoU:b10≠bb:=eP R2 mE.2.2 aC;refine(ajc xb (w.heap.size+1) b10 W3 (fun W'=>E2 W' xb zb (js W3 xb).heap.size ((js W3 xb).heap.size+1) mb bb (js W3 xb).heap.size ax ip bs/\(∀i,i<(js W3 xb).heap.size->i≠xb->i≠mb->i≠bb->W'.heap[i]? = (js W3 xb).heap[i]?)/\W'.os=(js W3 xb).os/\W'.tape=(js W3 xb).tape/\W'.output=(js W3 xb).output/\(js W3 xb).heap.size+2<=W'.heap.size)
   ((aoz (w.heap.size+1) b10 xb zb mb bb ax ip bs (js W3 xb) aoR R2 aoQ mE).mono (by
     rintro e W' ⟨rfl,pI,hk,ho⟩;refine⟨rfl,⟨pI,hk,ho⟩,(hk (W3.heap.size+1) ae (by have:=hX.lt;omega) (by have:=(Ec (KN (CA kj gu) 0)).1;omega) (by have:=(Ec (KN (CA kj gu) 0)).2;omega)).trans (Ep W3 xb)⟩))).mono ?_
  rintro e w' ⟨rfl,W',⟨⟨pI,R3⟩,hk,ho1,ho2,qa,jS⟩,tX,rfl⟩;have l10:=h10.lt;have ar6:=hX.lt;have hsz:(W'.setCell ⟨W3.heap.size+1,0,none⟩ (.bool true)).heap.size=W'.heap.size:=by simp[World.setCell]
  have aoV:E2 (W'.setCell ⟨W3.heap.size+1,0,none⟩ (.bool true)) xb zb (js W3 xb).heap.size ((js W3 xb).heap.size+1) mb bb (js W3 xb).heap.size ax ip bs:=by
   obtain⟨⟨az,h1⟩,⟨c2,h2⟩⟩:=aiJ pI.mem;have oG:∀i,i≠W3.heap.size+1->(W'.setCell ⟨W3.heap.size+1,0,none⟩ (.bool true)).heap[i]? = W'.heap[i]?:=fun i hne=>bf _ _ _ _ hne;have hmx:=Kf R3 (W3.heap.size+1) _ _ tX aC aC (eP tX h1 aC) (eP tX h2 aC) (fun i _ hne=>oG i hne);exact⟨⟨⟨_,hmx⟩,(oG _ (eP pI.rr tX aC)).trans pI.rr,(oG _ (eP pI.sr tX aC)).trans pI.sr,(oG _ (eP pI.ax tX aC)).trans pI.ax,by rw[hsz];exact pI.hb⟩,hmx⟩
  have Mg:∀i,i<W3.heap.size->i≠xb->i≠mb->i≠bb->(W'.setCell ⟨W3.heap.size+1,0,none⟩ (.bool true)).heap[i]? = W3.heap[i]?:=fun i au h1 h2 h3=>(bf _ _ _ _ (by show i≠W3.heap.size+1;omega)).trans ((hk i ae h1 h2 h3).trans (hgb.block i au));refine⟨rfl,(dC (Mg b10 l10 aoS aoT aoU)).trans (ay.cell h10 0 ak),af E5 xb zb _ _ _ _ aoV ⟨ae,aL _,ae,ae⟩ (fun i au h2 h3=>?_) ⟨?_,?_,?_⟩ ?_⟩
  ·exact(Mg i ae ae h2 h3).trans ((gu.block i ae).trans (hB2.block i au))
  ·exact ho1.trans (hgb.os.trans (gu.os.trans hB2.os))
  ·exact ho2.trans (hgb.tape.trans (gu.tape.trans hB2.tape))
  ·exact qa.trans (hgb.output.trans (gu.output.trans hB2.output))
  ·obtain⟨z1,z2,_,z4,z5'⟩:=af abJ;have Jk:=(af ji).1;have ar7:g<w2.heap.size:=abA (af ji);have ar8:=(Ec (KN kj 0))
   refine⟨p,g,cap,z1,z2,abB ((af ji).below gu) (by rw[hsz];omega) (Mg zb ae ae (fun e=>?_) (fun e=>?_)) (Mg g ae ae (fun e=>?_) (fun e=>?_)),z4,z5',ae,ae,ae,ae⟩
   all_goals omega
 clear hb2 R1 abL kj hB2 cM RY RZ c4 aT bI d1 E5;have Bl:∀(fn:Fn) (first cap:Array Value) (w:World),(Instr.makeFunc fn first cap).run prog w=.ok (.func fn first cap) w:=fun _ _ _ _=>rfl;have ar9:w.heap.size<w2.heap.size:=by have z5:=af eT;omega
 have ar_:w2.drew.cell? ⟨w.heap.size,0,none⟩=some (.string (ah ax)):=f0;have f1':w2.drew.cell? ⟨w.heap.size,1,none⟩=some (.string (ah ip)):=f1;have asa:¬w.heap.size=w2.heap.size:=ae;have asb:w2.drew.heap.size=w2.heap.size:=rfl;go_wp2_with (fail);go_region_with
  (first|(go_at_call 57;(refine(af B9 (ah ax) _ lm).mono ?_;rintro e w3 ⟨rfl,hb3⟩;have hz3:=hb3.size;have s0:w3.cell? ⟨w.heap.size,0,none⟩=some (.string (ah ax)):=(hb3.cell (p:=⟨w.heap.size,0,none⟩) (by first|(dsimp only;omega)|(simp <;> omega))).trans (by first|assumption|go_keep);have s1:w3.cell? ⟨w.heap.size,1,none⟩=some (.string (ah ip)):=(hb3.cell (p:=⟨w.heap.size,1,none⟩) (by first|(dsimp only;omega)|(simp <;> omega))).trans (by first|assumption|go_keep);have aoW:w.heap.size<w3.heap.size:=(by first|omega|(simp at hz3 <;> omega));have OQ:¬w.heap.size=w3.heap.size:=Fe aoW;have hw3:Hid (Below w2.heap.size w2 w3):=(by first|exact aoL hb3|exact aoM hb3);(first|(have fD:ay w3 w2.heap.size [.pointer none] 73:=aoJ hb3;have asc:w3.cell? ⟨w2.heap.size,0,none⟩=some (.pointer none):=ay.cell fD 0 ML;have ase:=ay.frozen fD 0;have asf:w2.heap.size<w3.heap.size:=fD.lt;have asg:¬w2.heap.size=w3.heap.size:=Fe fD.lt)|skip)))|(go_at_call 57;(refine(af B9 (ah ip) _ li).mono ?_;rintro e w4 ⟨rfl,hb4⟩;have Ph:=hb4.size;have s0:w4.cell? ⟨w.heap.size,0,none⟩=some (.string (ah ax)):=(hb4.cell (p:=⟨w.heap.size,0,none⟩) (by first|(dsimp only;omega)|(simp <;> omega))).trans (by first|assumption|go_keep);have s1:w4.cell? ⟨w.heap.size,1,none⟩=some (.string (ah ip)):=(hb4.cell (p:=⟨w.heap.size,1,none⟩) (by first|(dsimp only;omega)|(simp <;> omega))).trans (by first|assumption|go_keep);have aoX:w.heap.size<w4.heap.size:=(by first|omega|(simp at Ph <;> omega));have JU:¬w.heap.size=w4.heap.size:=Fe aoX;have hw4:Hid (Below w2.heap.size w2 w4):=(by first|exact aoN (af hw3) hb4|exact aoO (af hw3) hb4);(first|(have p4:ay w4 w2.heap.size [.pointer none] 73:=aoK fD hb4;have ash:w4.cell? ⟨w2.heap.size,0,none⟩=some (.pointer none):=ay.cell p4 0 ML;have asi:=ay.frozen p4 0;have asj:w2.heap.size<w4.heap.size:=p4.lt;have asl:¬w2.heap.size=w4.heap.size:=Fe p4.lt)|(have q4:ay w4 w3.heap.size [.pointer none] 73:=abD hb4;have asm:w4.cell? ⟨w3.heap.size,0,none⟩=some (.pointer none):=ay.cell q4 0 ML;have asn:=ay.frozen q4 0;have aso:w3.heap.size<w4.heap.size:=q4.lt;have asp:¬w3.heap.size=w4.heap.size:=Fe q4.lt)|skip))))
 all_goals
  have zS:=(af hw4).size;go_wp2_with (fail)
  first
   | refine(af Im _ w4.heap.size w2.heap.size (abH (af hw4) zS (aL _) _ _) zS (Md p4).1 (Md p4).2).mono ?_
   | refine(af Im _ w4.heap.size w3.heap.size (abH (af hw4) zS (af hw3).size _ _) zS (Md q4).1 (Md q4).2).mono ?_
   | refine(af Im _ w4.heap.size (w4.heap.size+1) (abG (af hw4) zS _ _) zS abE.1 abE.2).mono ?_
   | refine(af Im _ (w4.heap.size+1) w4.heap.size (abG (af hw4) zS _ _) (Nat.le_succ_of_le zS) abF.1 abF.2).mono ?_
  rintro e w' ⟨rfl,asq,K6⟩;have aoY:=ag K6;clear K6 Im B9;go_wp2_with (fail);refine df (v:=.tuple #[.pointer (some ⟨_,0,none⟩),.int .i64 0]) ?_ rfl (af aoY);simp[results,results43,go_sem]
end Go.Proofs.YtkkpahmoljiepaaGreatDoor
