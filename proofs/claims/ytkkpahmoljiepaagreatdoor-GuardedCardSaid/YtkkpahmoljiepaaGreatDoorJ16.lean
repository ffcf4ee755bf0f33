import Derived.Test.YtkkpahmoljiepaaGreatDoorJ15
set_option maxRecDepth 1000000
set_option maxHeartbeats 12800000
set_option linter.unusedSimpArgs false
set_option linter.unusedVariables false
namespace Go.Proofs.YtkkpahmoljiepaaGreatDoor
open Go.RowKit Go.Proofs.Tryz
abbrev jP:=Bool×Bool×Bool
def D7(f:jP)(n:Nat):jP:=if n=130\/n=131 then(f.1,true,f.2.2)else if n=642\/n=643 then(f.1,f.2.1,true)else(f.1 || (if n<512\/(1024<=n/\n<13312)then f.2.1 else f.2.2),f.2.1,f.2.2)
def ko(w:World)(mb bb base:Nat)(bs:ai)(bm:gY)(aH st:Nat)(f:jP):Prop:=∃vl vm ns,cX w mb bb vl vm bm aH f.1 f.2.1 f.2.2 st/\eI w bb bs/\qf w base vl ns/\(ns.length<=aH/\bm.ns ns)/\DZ w base vm st
def jr(w:World)(mb bb base:Nat)(bs:ai)(bm:gY)(aH st:Nat):Prop:=∃f,ko w mb bb base bs bm aH st f
structure kM(mb bb base:Nat)(A B:World):Prop where
 os:B.os=A.os
 tape:B.tape=A.tape
 output:B.output=A.output
 size:A.heap.size<=B.heap.size
 block:∀i,i<A.heap.size->i≠mb->i≠bb->(i<base\/((∀cur,A.heap[i]?≠some (.cells cur 3 (0,0)))/\∀cur,A.heap[i]?≠some (.cells cur 177 (0,0))))->B.heap[i]? = A.heap[i]?
structure ni(mb bb base:Nat)(A B:World):Prop where
 os:B.os=A.os
 tape:B.tape=A.tape
 output:B.output=A.output
 size:A.heap.size<=B.heap.size
 block:∀i,i<A.heap.size->i≠mb->i≠bb->(i<base\/∀cur,A.heap[i]?≠some (.cells cur 177 (0,0)))->B.heap[i]? = A.heap[i]?
theorem Wq(mb bb base:Nat)(w:World):kM mb bb base w w:=⟨rfl,rfl,rfl,aL _,fun _ _ _ _ _=>rfl⟩
theorem vY{mb bb base:Nat}{A B C:World}(h:kM mb bb base A B)(k:kM mb bb base B C):kM mb bb base A C :=
 ⟨k.os.trans h.os,k.tape.trans h.tape,k.output.trans h.output,a_ h.size k.size,fun i au h1 h2 hp=>by
  have e:=h.block i au h1 h2 hp;refine(k.block i (eQ au h.size) h1 h2 ?_).trans e;rw[e];exact hp⟩
theorem Kc{mb bb base:Nat}{A B:World}(h:Below A.heap.size A B):kM mb bb base A B:=⟨h.os,h.tape,h.output,h.size,fun i au _ _ _=>h.block i au⟩
theorem Ws(mb bb base:Nat)(w:World):ni mb bb base w w:=⟨rfl,rfl,rfl,aL _,fun _ _ _ _ _=>rfl⟩
theorem zg{mb bb base:Nat}{A B C:World}(h:ni mb bb base A B)(k:ni mb bb base B C):ni mb bb base A C :=
 ⟨k.os.trans h.os,k.tape.trans h.tape,k.output.trans h.output,a_ h.size k.size,fun i au h1 h2 hp=>by
  have e:=h.block i au h1 h2 hp;refine(k.block i (eQ au h.size) h1 h2 ?_).trans e;rw[e];exact hp⟩
theorem OT{mb bb base:Nat}{A B:World}(h:Below A.heap.size A B):ni mb bb base A B:=⟨h.os,h.tape,h.output,h.size,fun i au _ _ _=>h.block i au⟩
theorem vZ{mb bb base:Nat}{A B:World}(h:ni mb bb base A B):kM mb bb base A B:=⟨h.os,h.tape,h.output,h.size,fun i au h1 h2 hp=>h.block i au h1 h2 (hp.imp id Io)⟩
theorem ahg{n rg:Nat}(f:jP)(h:D5 n rg):D7 f n=(f.1,J8 n f.2.1,J9 n f.2.2):=by rcases h with⟨rfl,rfl⟩|⟨rfl,rfl⟩|⟨rfl,rfl⟩|⟨rfl,rfl⟩ <;> rfl
theorem ahh{n rg:Nat}(f:jP)(h:GF n rg)(h0:n≠130+512*rg)(h1:n≠131+512*rg):D7 f n=(f.1 || Wi rg f.2.1 f.2.2,f.2.1,f.2.2):=by unfold D7;unfold GF at h;rw[aG ae,aG ae];rcases h with⟨rfl,q⟩|⟨rfl,q⟩|⟨rfl,q⟩|⟨rfl,q⟩;{rw[aP ae];rfl};{rw[aP ae];rfl};{rw[aG ae];rfl};{rw[aG ae];rfl}
theorem Wu(mb bb base n:Nat)(c:UInt8)(bm:gY)(aH st:Nat)(f:jP)(bs:ai)(w:World)(h:ko w mb bb base bs bm aH st f)(bL:base<=w.heap.size)(hn:n<25600)(hst:st<=1000000) :
  Calls prog 155 #[.pointer (some ⟨mb,0,none⟩),.int .i64 n,.int .u8 c.toNat] w fun e w'=>e=.returned (.tuple #[])/\ko w' mb bb base (bs.set n c) bm aH (st+1) (D7 f n)/\ni mb bb base w w':=by obtain⟨vl,vm,ns,hm,hr,ho,hl,ms,eC,gW⟩:=h;have nm:∀ {g},vl.ownBlock=some g->g≠mb:=fun hg e=>iG hm ho aC (by rw[hg,e]);have nb:∀ {g},vl.ownBlock=some g->g≠bb:=fun hg e=>iG hr.2 ho aC (by rw[hg,e]);have mm:∀ {g},vm.ownBlock=some g->g≠mb:=fun hg e=>iG hm eC aC (by rw[hg,e]);have mn:∀ {g},vm.ownBlock=some g->g≠bb:=fun hg e=>iG hr.2 eC aC (by rw[hg,e]);have hex:∃rg,GF n rg/\(D5 n rg\/(n≠130+512*rg/\n≠131+512*rg)):=by{unfold GF D5;by_cases h1:n<512;{exact⟨0,.inl ⟨rfl,h1⟩,ae⟩};by_cases h2:n<1024;{exact⟨1,.inr (.inr (.inl ⟨rfl,ae,h2⟩)),ae⟩};by_cases h3:n<13312;{exact⟨0,.inr (.inl ⟨rfl,ae,h3⟩),ae⟩};{exact⟨1,.inr (.inr (.inr ⟨rfl,ae⟩)),ae⟩}};obtain⟨rg,hrg,hix|⟨hx0,hx1⟩⟩:=hex;{rw[ahg f hix];rcases tD ms with rfl|⟨l,⟨x,y⟩,rfl⟩;{refine(ahc mb bb base n c vl bm f.1 f.2.1 f.2.2 aH st bs vm w hm eC hr bL ae (by unfold D5 at hix;omega)).mono ?_;rintro e w' ⟨rfl,⟨lW,aD,hmk⟩,hr',hF⟩;refine⟨rfl,⟨vl,lW,ns,aD,hr',jq ho fun g hg=>hF.block g (lB ho hg) ⟨nm hg,nb hg,OM ho eC aC hg⟩,hl,D6 hmk ae⟩,hF.os,hF.tape,hF.output,hF.size,fun i au h1 h2 hp=>hF.block i au ⟨h1,h2,fun e=>?_⟩⟩;obtain⟨hb,cur,hc⟩:=px eC e.symm;rcases hp with hp|hp;{omega};{exact hp cur hc}};{rw[tC]at eC gW;obtain⟨g,cap,hv⟩:∃g cap,vm=.slice (some ⟨g,0,none⟩) (l.length+1) cap:=by{have h':=eC;obtain⟨_,⟨_,h0⟩|⟨g,cap,cur,hv,_⟩⟩:=h';{simp at h0};{exact⟨g,cap,by rw[hv];simp⟩}};subst hv;have hg0:(Value.slice (some ⟨g,0,none⟩) (l.length+1) cap).ownBlock=some g:=rfl;by_cases kL:x=rg/\y=aH;{obtain⟨rfl,rfl⟩:=kL;obtain⟨az,c2⟩:=Wp rfl eC;refine(ahd mb bb g cap l.length n rg c vl bm f.1 f.2.1 f.2.2 aH st bs w hm hr ae (by simp at gW;omega) hix az c2 (mm hg0) (mn hg0)).mono ?_;rintro e w' ⟨rfl,aD,hr',hF⟩;exact⟨rfl,⟨vl,_,ns,aD,hr',jq ho fun g hg=>hF.block g (lB ho hg) ⟨nm hg,nb hg⟩,hl,_,jq eC fun g hg=>hF.block g (lB eC hg) ⟨mm hg,mn hg⟩,ae⟩,hF.os,hF.tape,hF.output,hF.size,fun i au h1 h2 hp=>hF.block i au ⟨h1,h2⟩⟩};{refine(ahf mb bb base g cap n rg l.length c vl bm f.1 f.2.1 f.2.2 aH st bs l x y w hm eC hr bL ae (by simp at gW;omega) rfl hix ((Classical.em (x=rg)).elim (fun hh=>.inr ⟨hh,fun h=>kL ⟨hh,h⟩⟩) (fun hh=>.inl hh))).mono ?_;rintro e w' ⟨rfl,⟨lW,aD,hmk⟩,hr',hF⟩;refine⟨rfl,⟨vl,lW,ns,aD,hr',jq ho fun g' hg=>hF.block g' (lB ho hg) ⟨nm hg,nb hg,fun e=>OM ho eC aC hg (ek some e)⟩,hl,D6 hmk (by simp at gW;omega)⟩,hF.os,hF.tape,hF.output,hF.size,fun i au h1 h2 hp=>hF.block i au ⟨h1,h2,fun e=>?_⟩⟩;obtain⟨hb,cur,hc⟩:=px eC hg0;subst e;rcases hp with hp|hp;{omega};{exact hp cur hc}}}};{rw[ahh f hrg hx0 hx1];refine(ag3 mb bb n rg c vl vm bm f.1 f.2.1 f.2.2 aH st bs w hm hr hn ae hrg hx0 hx1).mono ?_;rintro e w' ⟨rfl,aD,hr',hF⟩;exact⟨rfl,⟨vl,vm,ns,aD,hr',jq ho fun g hg=>hF.block g (lB ho hg) ⟨nm hg,nb hg⟩,hl,ms,jq eC fun g hg=>hF.block g (lB eC hg) ⟨mm hg,mn hg⟩,ae⟩,hF.os,hF.tape,hF.output,hF.size,fun i au h1 h2 hp=>hF.block i au ⟨h1,h2⟩⟩}
theorem Wv(mb bb base n:Nat)(c:UInt8)(bm:gY)(aH st:Nat)(bs:ai)(w:World)(h:jr w mb bb base bs bm aH st)(bL:base<=w.heap.size)(hn:n<25600)(hst:st<=1000000) :
  Calls prog 155 #[.pointer (some ⟨mb,0,none⟩),.int .i64 n,.int .u8 c.toNat] w fun e w'=>e=.returned (.tuple #[])/\jr w' mb bb base (bs.set n c) bm aH (st+1)/\ni mb bb base w w':=by obtain⟨f,h⟩:=h;exact(Wu mb bb base n c bm aH st f bs w h bL hn hst).mono fun e w' ⟨a,b,c⟩=>⟨a,⟨_,b⟩,c⟩
def dy(w:World)(rb:Nat)(t:TypeId)(mb ba bB av us:Nat)(out:List Bool):Prop :=
 ay w rb ([.iface 71 (.pointer (some ⟨mb,0,none⟩)),.int .i64 ba,.int .i64 bB,.int .u16 av,.int .u16 us]++out.map Value.bool) t
def fS(bs:ai)(p v:Nat):Nat->ai
 | 0=>bs
 | k+1=>(fS bs p v k).set (p+k) (UInt8.ofNat (v/2 ^ (8*k)))
def kN(f:jP)(p:Nat):Nat->jP
 | 0=>f
 | k+1=>D7 (kN f p k) (p+k)
theorem OU (mb : Nat) (W : World) : (method 521 71 (.pointer (some ⟨mb, 0, none⟩)) "Store").run prog W = .ok (155, .pointer (some ⟨mb, 0, none⟩)) W := by kernel_rfl
theorem Ww (mb : Nat) (W : World) : (method 521 71 (.pointer (some ⟨mb, 0, none⟩)) "Load").run prog W = .ok (159, .pointer (some ⟨mb, 0, none⟩)) W := by kernel_rfl
theorem OV(args:Array Value)(W:World):(callFunc 155 args).run prog W=.ok (.enter 155 args) W:=aK
theorem Wx(args:Array Value)(W:World):(callFunc 159 args).run prog W=.ok (.enter 159 args) W:=aK
theorem Bv(rb mb bb base ba bB av us p size v:Nat)(t:TypeId)(out:List Bool)(bm:gY)(aH st:Nat)(f:jP)(bs:ai)(w:World)(h:ko w mb bb base bs bm aH st f)(hr:dy w rb t mb ba bB av us out)(bL:base<=w.heap.size)(hsz:size<=8)(hp:ba+p+size<=25600)(hv:v<4294967296)(hst:st<=900000)(cL:t≠177)(cV:rb≠mb)(dx:rb≠bb) :
  Calls prog 213 #[.pointer (some ⟨rb,0,none⟩),.int .i64 p,.int .i64 size,.int .i64 v] w fun e w' =>
   e=.returned (.tuple #[])/\ko w' mb bb base (fS bs (ba+p) v size) bm aH (st+size) (kN f (ba+p) size)/\ni mb bb base w w':=by
 have bA:=ag h;have aT:=ag hr;have Wy:=ag OU;have aqC:=ag OV;clear h hr;go_enter func213,ntmps213;go_wp2_with (fail)
 go_loopw [10] (fun i wr=>∃k:Nat,i=.int .i64 k/\k<=size/\ko wr mb bb base (fS bs (ba+p) v k) bm aH (st+k) (kN f (ba+p) k)/\ni mb bb base w wr) (fun i _=>size - (intOf i).toNat)
 case atStart=>exact⟨0,rfl,dY _,af bA,Ws _ _ _ _⟩
 case round =>
  obtain⟨k,rfl,hk,hm,hF⟩:=hrel;have c4:=ag hm;have dQ:=ag hF;have hR1:dy wr rb t mb ba bB av us out:=(hF.block rb (ay.lt (af aT)) cV dx (.inr fun cur e=>cL (by have:=(af aT).symm.trans e;simp at this;exact this.2))).trans (af aT);have r0:=ay.cell hR1 0 ak;have r1:=ay.cell hR1 1 ak;simp only[dX,dS,ej]at r0 r1;have rY:=hF.size;clear hm hF;by_cases hlk:k<size
  ·have eC:=OU mb;have vr:=OV;obtain⟨q,hq⟩:=bP (ba+p);obtain⟨jQ,gy⟩:=bP (q+k);obtain⟨k8,D8⟩:=bP (8*k);obtain⟨x,hx⟩:=bP (v/2 ^ k8);obtain⟨cb,hcb⟩:∃cb:UInt8,cb=UInt8.ofNat x:=⟨_,rfl⟩
   have e1:IntKind.i64.wrap ((ba:Int)+(p:Int))=(q:Int):=by rw[gM];omega
   have e2:IntKind.i64.wrap ((q:Int)+(k:Int))=(jQ:Int):=by rw[gM];omega
   have e3:IntKind.i64.wrap (8*(k:Int))=(k8:Int):=by rw[gM];omega
   have ahi:x<=v:=by rw[hx];exact Nat.div_le_self _ _
   have e4:IntKind.u8.wrap (x:Int)=(cb.toNat:Int):=by rw[MO,hcb,rQ];omega
   have e6:IntKind.u8.wrap ((v:Int)/2 ^ min k8 64)=(cb.toNat:Int):=by
    rw[uY ae,<- e4,hx];simp
   have HST:=ag (Wu mb bb base jQ cb bm aH (st+k) (kN f (ba+p) k) (fS bs (ba+p) v k) wr.drew (af c4) (by show base<=wr.heap.size;omega) ae ae);have D9:Hid ((fS bs (ba+p) v k).set jQ cb=fS bs (ba+p) v (k+1)/\D7 (kN f (ba+p) k) jQ=kN f (ba+p) (k+1)):=⟨by rw[fS,gy,hq,hcb,hx,D8],by rw[kN,gy,hq]⟩
   have nS:wr.drew.cell? ⟨rb,0,none⟩=some (.iface 71 (.pointer (some ⟨mb,0,none⟩)))/\wr.drew.cell? ⟨rb,1,none⟩=some (.int .i64 ba):=⟨r0,r1⟩
   have ot:Hid (∀W':World,ni mb bb base wr.drew W'->W'.cell? ⟨rb,0,none⟩=some (.iface 71 (.pointer (some ⟨mb,0,none⟩)))/\W'.cell? ⟨rb,1,none⟩=some (.int .i64 ba)):=fun W' hF=>by
    have e:W'.heap[rb]? = wr.heap[rb]?:=hF.block rb (ay.lt hR1) cV dx (.inr fun cur e=>cL (by have:=hR1.symm.trans e;simp at this;exact this.2));exact⟨(dC e).trans r0,(dC e).trans r1⟩
   clear hq gy D8 hx hcb ahi e4 hR1;go_wp2_with (fail)
   go_region_held (fun w'=>w'.cell? ⟨rb,0,none⟩=some (.iface 71 (.pointer (some ⟨mb,0,none⟩)))/\w'.cell? ⟨rb,1,none⟩=some (.int .i64 ba)) (first|assumption|go_keep)
    (first|(go_at_call 155;go_loud (refine(af HST).mono ?_;rintro e w' ⟨rfl,fJ,hF2⟩;have eU:=af ot w' hF2)))
   all_goals
    rw[(af D9).1,(af D9).2]at fJ;have jn:=ag fJ;have iB:=ag (zg (af dQ) (zg (OT (bW _ _).drew) hF2));clear fJ hF2;go_wp2_with (fail);exact⟨⟨k+1,dD,ae,by have:=af jn;rwa [uX]at this,af iB⟩,gN⟩
  ·have eJ:k=size:=ae;subst eJ;go_wp2;refine fy (v:=.tuple #[]) (by simp[results,results213]) rfl ?_;exact⟨rfl,af c4,af dQ⟩
theorem ahj(rb mb bb base ba bB av us p size v:Nat)(t:TypeId)(out:List Bool)(bm:gY)(aH st:Nat)(bs:ai)(w:World)(h:jr w mb bb base bs bm aH st)(hr:dy w rb t mb ba bB av us out)(bL:base<=w.heap.size)(hsz:size<=8)(hp:ba+p+size<=25600)(hv:v<4294967296)(hst:st<=900000)(cL:t≠177)(cV:rb≠mb)(dx:rb≠bb) :
  Calls prog 213 #[.pointer (some ⟨rb,0,none⟩),.int .i64 p,.int .i64 size,.int .i64 v] w fun e w' =>
   e=.returned (.tuple #[])/\jr w' mb bb base (fS bs (ba+p) v size) bm aH (st+size)/\ni mb bb base w w':=by obtain⟨f,h⟩:=h;exact(Bv rb mb bb base ba bB av us p size v t out bm aH st f bs w h hr bL hsz hp hv hst cL cV dx).mono fun e w' ⟨a,b,c⟩=>⟨a,⟨_,b⟩,c⟩
theorem OW(rb mb ba bB av us slot:Nat)(t:TypeId)(out:List Bool)(w:World)(hr:dy w rb t mb ba bB av us out)(h1:bB<=100000)(h2:slot<=100) :
  Calls prog 214 #[.pointer (some ⟨rb,0,none⟩),.int .i64 slot] w fun e w'=>e=.returned (.int .i64 ((bB+1536*slot:Nat):Int))/\w'=w:=by have r2:=ay.cell hr 2 ak;simp only[dX,dS,ej]at r2;clear hr;go_enter func214,ntmps214;go_wp2;go_ret;exact⟨ak,rfl⟩
theorem WA(rb mb ba bB av us:Nat)(t:TypeId)(out:List Bool)(w:World)(hr:dy w rb t mb ba bB av us out)(h1:us<65536) :
  Calls prog 218 #[.pointer (some ⟨rb,0,none⟩)] w fun e w'=>e=.returned (.int .i64 ((260+8*(us%8):Nat):Int))/\w'=w:=by have r4:=ay.cell hr 4 ak;simp only[dX,dS,ej]at r4;clear hr;have e1:(0:Int)<=(us:Int)%8:=ae;have e2:(us:Int)%8<8:=ae;go_enter func218,ntmps218;go_wp2;go_ret;exact⟨ak,rfl⟩
theorem lX{w w':World}{rb mb bb base ba bB av us:Nat}{t:TypeId}{out:List Bool}(hr:dy w rb t mb ba bB av us out)(hF:kM mb bb base w w')(dW:t≠3)(cL:t≠177)(cV:rb≠mb)(dx:rb≠bb):dy w' rb t mb ba bB av us out :=
 (hF.block rb (ay.lt hr) cV dx (.inr ⟨fun cur e=>dW (by have:=hr.symm.trans e;simp at this;exact this.2),fun cur e=>cL (by have:=hr.symm.trans e;simp at this;exact this.2)⟩)).trans hr
def WB(bs:ai)(ba bB fl k:Nat):ai:=fS (fS (fS (fS bs (ba+16*k) (bB+1536*k) 8) (ba+(16*k+8)) 1536 4) (ba+(16*k+12)) fl 2) (ba+(16*k+14)) 0 2
def ux(bs:ai)(ba bB fl:Nat):Nat->ai
 | 0=>bs
 | k+1=>WB (ux bs ba bB fl k) ba bB fl k
def WC(f:jP)(ba k:Nat):jP:=kN (kN (kN (kN f (ba+16*k) 8) (ba+(16*k+8)) 4) (ba+(16*k+12)) 2) (ba+(16*k+14)) 2
def uy(f:jP)(ba:Nat):Nat->jP
 | 0=>f
 | k+1=>WC (uy f ba k) ba k
theorem WD(rb mb bb base ba bB av us fl:Nat)(t:TypeId)(out:List Bool)(bm:gY)(aH st:Nat)(f:jP)(bs:ai)(w:World)(h:ko w mb bb base bs bm aH st f)(hr:dy w rb t mb ba bB av us out)(bL:base<=w.heap.size)(eZ:ba<=1000)(GP:bB<=20000)(sH:fl<65536)(hst:st<=800000)(dW:t≠3)(cL:t≠177)(cV:rb≠mb)(dx:rb≠bb) :
  Calls prog 152 #[.pointer (some ⟨rb,0,none⟩),.int .i64 fl] w fun e w' =>
   e=.returned (.tuple #[])/\ko w' mb bb base (ux bs ba bB fl 8) bm aH (st+128) (uy f ba 8)/\kM mb bb base w w':=by
 have bA:=ag h;have aT:=ag hr;clear h hr;go_enter func152,ntmps152;go_wp2_with (fail);go_loopw [6] (fun i wr=>∃k:Nat,i=.int .i64 k/\k<=8/\ko wr mb bb base (ux bs ba bB fl k) bm aH (st+16*k) (uy f ba k)/\kM mb bb base w wr) (fun i _=>8 - (intOf i).toNat);case atStart=>exact⟨0,rfl,ae,af bA,Wq _ _ _ _⟩
 case round =>(
 obtain⟨k,rfl,hk,hm,hF⟩:=hrel;have hR1:=lX (af aT) hF dW cL cV dx;have c4:=ag hm;have dQ:=ag hF;have rY:=hF.size;by_cases hlk:k<8;{
 obtain⟨a,ha⟩:=bP (16*k);have e0:(16:Int)*(k:Int)=(a:Int):=ae;obtain⟨a8,OX⟩:∃x,x=a+8:=⟨_,rfl⟩;have e8:(a:Int)+8=(a8:Int):=ae;obtain⟨a12,OY⟩:∃x,x=a+12:=⟨_,rfl⟩;have e12:(a:Int)+12=(a12:Int):=ae;obtain⟨Bx,OZ⟩:∃x,x=a+14:=⟨_,rfl⟩;have e14:(a:Int)+14=(Bx:Int):=ae;obtain⟨v,hv⟩:=bP (bB+1536*k);have aZ:=ag (OW rb mb ba bB av us k t out wr hR1 ae ae);rw[<- hv]at aZ;have H1:=ag (Bv rb mb bb base ba bB av us a 8 v t out bm aH (st+16*k) _ _ wr hm hR1 ae ae ae ae ae cL cV dx);have hab:a<=200:=ae;have HD:Hid (ux bs ba bB fl (k+1)=fS (fS (fS (fS (ux bs ba bB fl k) (ba+a) v 8) (ba+a8) 1536 4) (ba+a12) fl 2) (ba+Bx) 0 2/\uy f ba (k+1)=kN (kN (kN (kN (uy f ba k) (ba+a) 8) (ba+a8) 4) (ba+a12) 2) (ba+Bx) 2):=⟨by rw[ux,WB,hv,OZ,OY,OX,ha],by rw[uy,WC,OZ,OY,OX,ha]⟩;generalize ux bs ba bB fl k=b0 at *;generalize uy f ba k=f0 at *;have cN:Hid (a8<=300/\a12<=300/\Bx<=300):=by unfold Hid;omega
 have aqD:a8<=300:=ae;have aqE:a12<=300:=ae;have aqF:Bx<=300:=ae;clear hm hF ha OX OY OZ hv;go_wp2_with (fail);refine(af aZ).mono ?_;rintro e wr ⟨rfl,rfl⟩;go_wp2_with (fail);refine(af H1).mono ?_;rintro e w1 ⟨rfl,hm1,WE⟩;have cz:=vZ WE;clear WE;have hR2:=lX hR1 cz dW cL cV dx;have py:Hid (Calls prog 213 #[.pointer (some ⟨rb,0,none⟩),.int .i64 a8,.int .i64 4,.int .i64 1536] w1 _):=Bv rb mb bb base ba bB av us a8 4 1536 t out bm aH (st+16*k+8) _ _ w1 hm1 hR2 (by have:=cz.size;omega) ae ae ae ae cL cV dx;have iB:=ag (vY (af dQ) cz);clear hm1 cz aZ H1 hR1 c4;go_wp2_with (fail);refine(af py).mono ?_;rintro e w2 ⟨rfl,fJ,D_⟩;have hF2:=vZ D_;clear D_;have iR:=lX hR2 hF2 dW cL cV dx;have pz:Hid (Calls prog 213 #[.pointer (some ⟨rb,0,none⟩),.int .i64 a12,.int .i64 2,.int .i64 fl] w2 _):=Bv rb mb bb base ba bB av us a12 2 fl t out bm aH (st+16*k+8+4) _ _ w2 fJ iR (by have:=hF2.size;have:=(af iB).size;omega) ae ae ae ae cL cV dx;have fY:=ag (vY (af iB) hF2);clear fJ hF2 py hR2;go_wp2_with (fail);refine(af pz).mono ?_;rintro e w3 ⟨rfl,cI,WG⟩;have dR:=vZ WG;clear WG;have nh:=lX iR dR dW cL cV dx;have v_:Hid (Calls prog 213 #[.pointer (some ⟨rb,0,none⟩),.int .i64 Bx,.int .i64 2,.int .i64 0] w3 _):=Bv rb mb bb base ba bB av us Bx 2 0 t out bm aH (st+16*k+8+4+2) _ _ w3 cI nh (by have:=dR.size;have:=(af fY).size;omega) ae ae ae ae cL cV dx;have o7:=ag (vY (af fY) dR);clear cI dR pz iR;go_wp2_with (fail);refine(af v_).mono ?_;rintro e w4 ⟨rfl,hm4,WH⟩;have qj:=vZ WH;clear WH;rw[<- (af HD).1,<- (af HD).2]at hm4;have Ea:=ag hm4;have jB:=ag (vY (af o7) qj);clear hm4 qj v_ nh;go_wp2_with (fail);exact⟨⟨k+1,dD,ae,by have:=af Ea;rwa [show st+16*k+8+4+2+2=st+16*(k+1) by omega]at this,af jB⟩,gN⟩};{have eJ:k=8:=ae;subst eJ;clear hm hF;go_wp2;refine fy (v:=.tuple #[]) (by simp[results,results152]) rfl ?_;exact⟨rfl,af c4,af dQ⟩})
structure rG(rb mb bb base:Nat)(A B:World):Prop where
 os:B.os=A.os
 tape:B.tape=A.tape
 output:B.output=A.output
 size:A.heap.size<=B.heap.size
 block:∀i,i<A.heap.size->i≠rb->i≠mb->i≠bb->(i<base\/∀cur,A.heap[i]?≠some (.cells cur 177 (0,0)))->B.heap[i]? = A.heap[i]?
theorem ahk(rb mb bb base:Nat)(w:World):rG rb mb bb base w w:=⟨rfl,rfl,rfl,aL _,fun _ _ _ _ _ _=>rfl⟩
theorem Ke{rb mb bb base:Nat}{A B C:World}(h:rG rb mb bb base A B)(k:rG rb mb bb base B C):rG rb mb bb base A C :=
 ⟨k.os.trans h.os,k.tape.trans h.tape,k.output.trans h.output,a_ h.size k.size,fun i au h0 h1 h2 hp=>by
  have e:=h.block i au h0 h1 h2 hp;refine(k.block i (eQ au h.size) h0 h1 h2 ?_).trans e;rw[e];exact hp⟩
theorem WI{rb mb bb base:Nat}{A B:World}(h:ni mb bb base A B):rG rb mb bb base A B:=⟨h.os,h.tape,h.output,h.size,fun i au _ h1 h2 hp=>h.block i au h1 h2 hp⟩
theorem WJ{rb mb bb base:Nat}(A:World)(o:Nat)(v:Value):rG rb mb bb base A (A.setCell ⟨rb,o,none⟩ v):=⟨rfl,rfl,rfl,by simp[World.setCell],fun i _ h0 _ _ _=>bf _ _ _ _ h0⟩
theorem ahl{w:World}{rb mb ba bB av us:Nat}{t:TypeId}{out:List Bool}(h:dy w rb t mb ba bB av us out)(n:Nat):dy (w.setCell ⟨rb,3,none⟩ (.int .u16 n)) rb t mb ba bB n us out:=ay.set h 3 (.int .u16 n)
theorem WL{w:World}{rb mb ba bB av us:Nat}{t:TypeId}{out:List Bool}(h:dy w rb t mb ba bB av us out)(s:Nat)(b:Bool):dy (w.setCell ⟨rb,5+s,none⟩ (.bool b)) rb t mb ba bB av us (out.set s b):=by have:=ay.set h (5+s) (.bool b);have e:([.iface 71 (.pointer (some ⟨mb,0,none⟩)),.int .i64 ba,.int .i64 bB,.int .u16 av,.int .u16 us]++out.map Value.bool:List Value).set (5+s) (.bool b) = [.iface 71 (.pointer (some ⟨mb,0,none⟩)),.int .i64 ba,.int .i64 bB,.int .u16 av,.int .u16 us]++(out.set s b).map Value.bool:=by{rw[Fb _ _ ak,II];simp};unfold dy;rw[<- e];exact this
theorem Kf{w w':World}{mb bb base:Nat}{bs:ai}{bm:gY}{aH st:Nat}{f:jP}(h:ko w mb bb base bs bm aH st f)(rb:Nat)(t:TypeId)(cs:List Value)(hb:ay w rb cs t)(dW:t≠3)(cL:t≠177)(cV:rb≠mb)(dx:rb≠bb)(hk:∀i,i<w.heap.size->i≠rb->w'.heap[i]? = w.heap[i]?):ko w' mb bb base bs bm aH st f:=by obtain⟨vl,vm,ns,hm,hr,ho,hl,ms,eC,gW⟩:=h;exact⟨vl,vm,ns,gZ hm (hk mb (qh hm) (fun e=>cV e.symm)),iH hr (hk bb hr.2.lt (fun e=>dx e.symm)),jq ho fun g hg=>hk g (lB ho hg) (fun e=>iG hb ho dW (by rw[hg,e])),hl,ms,jq eC fun g hg=>hk g (lB eC hg) (fun e=>iG hb eC cL (by rw[hg,e])),gW⟩
theorem ahm{w w':World}{mb bb base:Nat}{bs:ai}{bm:gY}{aH st:Nat}(h:jr w mb bb base bs bm aH st)(rb:Nat)(t:TypeId)(cs:List Value)(hb:ay w rb cs t)(dW:t≠3)(cL:t≠177)(cV:rb≠mb)(dx:rb≠bb)(hk:∀i,i<w.heap.size->i≠rb->w'.heap[i]? = w.heap[i]?):jr w' mb bb base bs bm aH st :=
 h.imp fun _ h=>Kf h rb t cs hb dW cL cV dx hk
def nj(ba:Nat):List Nat->ai×Nat×List Bool->ai×Nat×List Bool
 | [],x=>x
 | s :: l,x=>nj ba l (fS x.1 (ba+(132+2*(x.2.1%8))) s 2,(x.2.1+1)%65536,x.2.2.set s true)
def wh(ba:Nat):List Nat->Nat->jP->jP
 | [],_,f=>f
 | _ :: l,a,f=>wh ba l ((a+1)%65536) (kN f (ba+(132+2*(a%8))) 2)
theorem O0(rb mb bb base ba bB av us sb cap:Nat)(t:TypeId)(out:List Bool)(bm:gY)(aH st:Nat)(f:jP)(bs:ai)(sl:List Nat)(il:Option Addr)(w:World)(h:ko w mb bb base bs bm aH st f)(hr:dy w rb t mb ba bB av us out)(bL:base<=w.heap.size)(eZ:ba<=1000)(hst:st<=800000)(sR:av<65536)(eR:out.length=8)(iA:∀s∈sl,s<8)(Kg:sl.length<=8)
  (had:il=none\/il=some ⟨sb,0,none⟩) (hnone:il=none->sl = []) (Kh:∀j (hj:j<sl.length),w.cell? ⟨sb,j,none⟩=some (.int .i64 (sl[j]:Nat))) (vW:sl≠[]->sb<w.heap.size/\sb≠rb/\sb≠mb/\sb≠bb/\∀cur,w.heap[sb]?≠some (.cells cur 177 (0,0))) (dW:t≠3) (cL:t≠177) (cV:rb≠mb) (dx:rb≠bb) :
  Calls prog 153 #[.pointer (some ⟨rb,0,none⟩),.slice il sl.length cap] w fun e w' =>
   e=.returned (.tuple #[])/\ko w' mb bb base (fS (nj ba sl (bs,av,out)).1 (ba+130) (nj ba sl (bs,av,out)).2.1 2) bm aH (st+2*sl.length+2) (kN (wh ba sl av f) (ba+130) 2)/\dy w' rb t mb ba bB (nj ba sl (bs,av,out)).2.1 us (nj ba sl (bs,av,out)).2.2/\rG rb mb bb base w w':=by
 obtain⟨R,hR⟩:=bP (nj ba sl (bs,av,out));obtain⟨F,O1⟩:=bP (wh ba sl av f);rw[<- hR,<- O1];have O2:=ag hR;have Ki:=ag O1;have bA:=ag h;have aT:=ag hr;have Kj:=ag Kh;have Kk:=ag vW;have Bf:=ag iA;have ahn:=ag hnone;clear h hr hR O1 Kh vW iA hnone;go_enter func153,ntmps153;go_wp2_with (fail);go_loopw [8] (fun i wr=>∃(k a:Nat) (b:ai) (o:List Bool) (f:jP),i=.int .i64 k/\k<=sl.length/\(nj ba (sl.drop k) (b,a,o)=R/\wh ba (sl.drop k) a f=F)/\a<65536/\o.length=8/\ko wr mb bb base b bm aH (st+2*k) f/\dy wr rb t mb ba bB a us o/\rG rb mb bb base w wr) (fun i _=>sl.length - (intOf i).toNat);case atStart=>exact⟨0,av,bs,out,f,rfl,dY _,⟨(af O2).symm,(af Ki).symm⟩,sR,eR,af bA,af aT,ahk _ _ _ _ _⟩
 case round =>(
 obtain⟨k,a,b,o,f,rfl,hk,sS,ha,ho,hm,hr1,hF⟩:=hrel;have iN:=ag sS;have aqG:=hF.size;by_cases hlk:k<sl.length;{
 have O3:=af Bf sl[k] (iV hlk);have hne:sl≠[]:=fun e=>by rw[e]at hlk;simp at hlk
 obtain⟨hb1,hb2,hb3,hb4,hb5⟩:=af Kk hne;have hcell:wr.cell? ⟨sb,k,none⟩=some (.int .i64 (sl[k]:Nat)):=(dC (hF.block sb hb1 hb2 hb3 hb4 (.inr hb5))).trans (af Kj k hlk);have xJ:il=some ⟨sb,0,none⟩:=had.resolve_left fun e=>hne (af ahn e);have WM:=ag (nA hlk);generalize sl[k]=s at *;subst xJ;obtain⟨q,hq⟩:=bP (132+2*(a%8));obtain⟨r8,aho⟩:∃r,r=a%8:=⟨_,rfl⟩;have e1:(a:Int)%8=(r8:Int):=ae;have e2:(132:Int)+2*(r8:Int)=(q:Int):=ae;obtain⟨a1,ha1⟩:=bP ((a+1)%65536);have e3:IntKind.u16.wrap ((a:Int)+1)=(a1:Int):=by rw[jZ];omega
 have aqH:r8<8:=ae;have HST:=ag (Bv rb mb bb base ba bB a us q 2 s t o bm aH (st+2*k) f b wr hm hr1 ae ae ae ae ae cL cV dx);have c3:=ay.cell hr1 3 ak;simp only[dX,dS,ej]at c3;have bu:Hid (nj ba (sl.drop (k+1)) (fS b (ba+q) s 2,a1,o.set s true)=R/\wh ba (sl.drop (k+1)) a1 (kN f (ba+q) 2)=F):=by{have:=af iN;rw[af WM]at this;exact⟨by rw[<- this.1,nj,hq,ha1],by rw[<- this.2,wh,hq,ha1]⟩};have hR1:=ag hr1;have dQ:=ag hF;have ahp:a1<65536:=ae;clear hm hr1 hF sS iN WM hq aho ha1;go_wp2_with (fail);refine(af HST).mono ?_;rintro e w1 ⟨rfl,hm1,cz⟩;have hR2:=lX (af hR1) (vZ cz) dW cL cV dx;have d3:=ay.cell hR2 3 ak;simp only[dX,dS,ej]at d3;have aI:=ay.frozen hR2;have iR:=ahl hR2 a1;obtain⟨v5,aqI⟩:∃v,(w1.setCell ⟨rb,3,none⟩ (.int .u16 a1)).cell? ⟨rb,5+s,none⟩=some v:=⟨_,ay.cell iR (5+s) aX⟩;have aqJ:=ay.frozen iR;have oU:=ag (WL iR s true);have AZ:∀i,i<w1.heap.size->i≠rb->((w1.setCell ⟨rb,3,none⟩ (.int .u16 a1)).setCell ⟨rb,5+s,none⟩ (.bool true)).heap[i]? = w1.heap[i]?:=fun i _ hne=>(bf _ _ _ _ hne).trans (bf _ _ _ _ hne);have Ds:=ag (Kf hm1 rb t _ hR2 dW cL cV dx AZ);have o7:Hid (rG rb mb bb base w ((w1.setCell ⟨rb,3,none⟩ (.int .u16 a1)).setCell ⟨rb,5+s,none⟩ (.bool true))):=Ke (Ke (Ke (af dQ) (WI cz)) (WJ _ _ _)) (WJ _ _ _);clear hm1 cz hR2 iR AZ HST hR1 dQ;go_wp2_with (fail);exact⟨⟨k+1,a1,_,_,_,dD,ae,af bu,ahp,by rw[CN];exact ho,by have:=af Ds;rwa [show st+2*k+2=st+2*(k+1) by omega]at this,af oU,af o7⟩,gN⟩};{have eJ:k=sl.length:=ae;subst eJ;rw[x_,nj,wh]at sS;have WN:Hid (Calls prog 213 #[.pointer (some ⟨rb,0,none⟩),.int .i64 130,.int .i64 2,.int .i64 a] wr _):=Bv rb mb bb base ba bB a us 130 2 a t o bm aH (st+2*sl.length) f b wr hm hr1 ae ae ae ae ae cL cV dx;have c3:=ay.cell hr1 3 ak;simp only[dX,dS,ej]at c3;have hR1:=ag hr1;have dQ:=ag hF;have WO:=ag sS;clear hm hr1 hF sS iN;go_wp2_with (fail);refine(af WN).mono ?_;rintro e w1 ⟨rfl,hm1,cz⟩;have gv:=ag (lX (af hR1) (vZ cz) dW cL cV dx);have jn:=ag hm1;have iB:=ag (Ke (af dQ) (WI cz));clear hm1 cz hR1 dQ WN;go_wp2_with (fail);refine fy (v:=.tuple #[]) (by simp[results,results153]) rfl ?_;rw[<- (af WO).1,<- (af WO).2];exact⟨rfl,af jn,af gv,af iB⟩})
theorem WQ(rb mb bb base ba bB av us sb cap:Nat)(t:TypeId)(out:List Bool)(bm:gY)(aH st:Nat)(bs:ai)(sl:List Nat)(il:Option Addr)(w:World)(h:jr w mb bb base bs bm aH st)(hr:dy w rb t mb ba bB av us out)(bL:base<=w.heap.size)(eZ:ba<=1000)(hst:st<=800000)(sR:av<65536)(eR:out.length=8)(iA:∀s∈sl,s<8)(Kg:sl.length<=8)
  (had:il=none\/il=some ⟨sb,0,none⟩) (hnone:il=none->sl = []) (Kh:∀j (hj:j<sl.length),w.cell? ⟨sb,j,none⟩=some (.int .i64 (sl[j]:Nat))) (vW:sl≠[]->sb<w.heap.size/\sb≠rb/\sb≠mb/\sb≠bb/\∀cur,w.heap[sb]?≠some (.cells cur 177 (0,0))) (dW:t≠3) (cL:t≠177) (cV:rb≠mb) (dx:rb≠bb) :
  Calls prog 153 #[.pointer (some ⟨rb,0,none⟩),.slice il sl.length cap] w fun e w' =>
   e=.returned (.tuple #[])/\jr w' mb bb base (fS (nj ba sl (bs,av,out)).1 (ba+130) (nj ba sl (bs,av,out)).2.1 2) bm aH (st+2*sl.length+2)/\dy w' rb t mb ba bB (nj ba sl (bs,av,out)).2.1 us (nj ba sl (bs,av,out)).2.2/\rG rb mb bb base w w':=by obtain⟨f,h⟩:=h;exact(O0 rb mb bb base ba bB av us sb cap t out bm aH st f bs sl il w h hr bL eZ hst sR eR iA Kg had hnone Kh vW dW cL cV dx).mono fun e w' ⟨a,b,c⟩=>⟨a,⟨_,b⟩,c⟩
theorem ahq(w:World):(Instr.makeSlice 56 (.int .i64 8) (.int .i64 8)).run prog w=.ok (.slice (some ⟨w.heap.size,0,none⟩) 8 8) (w.alloc (.cells #[.int .i64 0,.int .i64 0,.int .i64 0,.int .i64 0,.int .i64 0,.int .i64 0,.int .i64 0,.int .i64 0] 3)):=aK
def Eb(k:Nat):List Value:=(List.range 8).map fun n:Nat=>Value.int .i64 (if n<k then n else 0:Nat)
theorem ahr(k:Nat):(Eb k).length=8:=by simp[Eb]
theorem ahs(k:Nat)(h:k<8):(Eb k).set k (.int .i64 k)=Eb (k+1):=by
 match k,h with
 | 0,_=>rfl
 | 1,_=>rfl
 | 2,_=>rfl
 | 3,_=>rfl
 | 4,_=>rfl
 | 5,_=>rfl
 | 6,_=>rfl
 | 7,_=>rfl
theorem aht(w:World) :
  Calls prog 154 #[] w fun e w'=>e=.returned (.slice (some ⟨w.heap.size,0,none⟩) 8 8)/\ay w' w.heap.size ((List.range 8).map fun n:Nat=>Value.int .i64 n) 3/\w'.heap.size=w.heap.size+1/\Below w.heap.size w w':=by
 have hmk:=ahq w;have O4:Hid (ay (w.alloc (.cells #[.int .i64 0,.int .i64 0,.int .i64 0,.int .i64 0,.int .i64 0,.int .i64 0,.int .i64 0,.int .i64 0] 3)) w.heap.size (Eb 0) 3):=ay.eo w _ _;have ey:=ag ((bW w.heap.size w).alloc (aL _) (.cells #[.int .i64 0,.int .i64 0,.int .i64 0,.int .i64 0,.int .i64 0,.int .i64 0,.int .i64 0,.int .i64 0] 3));go_enter func154,ntmps154;go_wp2_with (fail);go_loopw [6] (fun i wr=>∃k:Nat,i=.int .i64 k/\k<=8/\ay wr w.heap.size (Eb k) 3/\wr.heap.size=w.heap.size+1/\Below w.heap.size w wr) (fun i _=>8 - (intOf i).toNat);case atStart=>exact⟨0,rfl,ae,af O4,ak,af ey⟩
 case round =>(obtain⟨k,rfl,hk,hb,hs,hB⟩:=hrel;have ahu:=ag hb;have HS:=ag hs;have nI:=ag hB;by_cases hlk:k<8;{obtain⟨v0,hv0⟩:∃v,wr.cell? ⟨w.heap.size,k,none⟩=some v:=⟨_,hb.cell k (by rw[ahr];exact hlk)⟩;have hf:=hb.frozen;have dv:=ag (hb.set k (.int .i64 k));rw[ahs k hlk]at dv;clear hb hs hB;go_wp2;exact⟨⟨k+1,dD,ae,af dv,by simpa [World.setCell]using af HS,(af nI).setCell (aL _) _⟩,gN⟩};{have eJ:k=8:=ae;subst eJ;clear hb hs hB;go_wp2;go_ret;exact⟨rfl,af ahu,af HS,af nI⟩})
theorem O5{w w':World}{mb bb base:Nat}{bs:ai}{bm:gY}{aH st:Nat}{f:jP}(h:ko w mb bb base bs bm aH st f)(hb:Below w.heap.size w w'):ko w' mb bb base bs bm aH st f:=by obtain⟨vl,vm,ns,hm,hr,ho,hl,ms,eC,gW⟩:=h;exact⟨vl,vm,ns,gZ hm (hb.block mb (qh hm)),iH hr (hb.block bb hr.2.lt),jq ho fun g hg=>hb.block g (lB ho hg),hl,ms,jq eC fun g hg=>hb.block g (lB eC hg),gW⟩
theorem WR{w w':World}{mb bb base:Nat}{bs:ai}{bm:gY}{aH st:Nat}(h:jr w mb bb base bs bm aH st)(hb:Below w.heap.size w w'):jr w' mb bb base bs bm aH st:=h.imp fun _ h=>O5 h hb
theorem WS{w:World}{mb bb base:Nat}{bs:ai}{bm:gY}{aH st:Nat}{f:jP}(h:ko w mb bb base bs bm aH st f):mb<w.heap.size/\bb<w.heap.size:=by obtain⟨vl,vm,ns,hm,hr,_⟩:=h;exact⟨qh hm,hr.2.lt⟩
theorem Ec{w:World}{mb bb base:Nat}{bs:ai}{bm:gY}{aH st:Nat}(h:jr w mb bb base bs bm aH st):mb<w.heap.size/\bb<w.heap.size:=h.elim fun _ h=>WS h
theorem WT{w w':World}{rb qb mb bb base ba bB av us:Nat}{t:TypeId}{out:List Bool}(hr:dy w rb t mb ba bB av us out)(hF:rG qb mb bb base w w')(cL:t≠177)(hq:rb≠qb)(cV:rb≠mb)(dx:rb≠bb):dy w' rb t mb ba bB av us out :=
 (hF.block rb (ay.lt hr) hq cV dx (.inr fun cur e=>cL (by have:=hr.symm.trans e;simp at this;exact this.2))).trans hr
abbrev uz:List Bool:=[false,false,false,false,false,false,false,false]
def Bz(bs:ai):ai×Nat×List Bool:=nj 0 [0,1,2,3,4,5,6,7] (fS (ux (ux bs 0 1024 2 8) 512 13312 0 8) (512+130) 0 2,0,uz)
def Kl(bs:ai):ai:=fS (Bz bs).1 (0+130) (Bz bs).2.1 2
def O6(f:jP):jP:=kN (wh 0 [0,1,2,3,4,5,6,7] 0 (kN (uy (uy f 0 8) 512 8) (512+130) 2)) (0+130) 2
theorem ahv(mb bb base:Nat)(bm:gY)(aH st:Nat)(f:jP)(bs:ai)(w:World)(h:ko w mb bb base bs bm aH st f)(bL:base<=w.heap.size)(hst:st<=10000) :
  Calls prog 90 #[.iface 71 (.pointer (some ⟨mb,0,none⟩))] w fun e w' =>
   e=.returned (.tuple #[.pointer (some ⟨w.heap.size,0,none⟩),.pointer (some ⟨w.heap.size+1,0,none⟩)])/\ko w' mb bb base (Kl bs) bm aH (st+276) (O6 f)/\dy w' w.heap.size 240 mb 0 1024 (Bz bs).2.1 0 (Bz bs).2.2/\dy w' (w.heap.size+1) 241 mb 512 13312 0 0 uz/\(∀i,i<w.heap.size->i≠mb->i≠bb->(i<base\/((∀cur,w.heap[i]?≠some (.cells cur 3 (0,0)))/\∀cur,w.heap[i]?≠some (.cells cur 177 (0,0))))->w'.heap[i]? = w.heap[i]?)/\w'.os=w.os/\w'.tape=w.tape/\w'.output=w.output/\w.heap.size+2<=w'.heap.size:=by
 have bA:=ag h;obtain⟨mY,oY⟩:=WS h;have hB0:Below w.heap.size w ((w.alloc (.cells #[.iface 71 (.pointer (some ⟨mb,0,none⟩)),.int .i64 0,.int .i64 1024,.int .u16 0,.int .u16 0,.bool false,.bool false,.bool false,.bool false,.bool false,.bool false,.bool false,.bool false] 240)).alloc (.cells #[.iface 71 (.pointer (some ⟨mb,0,none⟩)),.int .i64 512,.int .i64 13312,.int .u16 0,.int .u16 0,.bool false,.bool false,.bool false,.bool false,.bool false,.bool false,.bool false,.bool false] 241)):=((bW _ _).alloc (aL _) _).alloc ak _;have ql:=O5 h hB0;have O7:dy ((w.alloc (.cells #[.iface 71 (.pointer (some ⟨mb,0,none⟩)),.int .i64 0,.int .i64 1024,.int .u16 0,.int .u16 0,.bool false,.bool false,.bool false,.bool false,.bool false,.bool false,.bool false,.bool false] 240)).alloc (.cells #[.iface 71 (.pointer (some ⟨mb,0,none⟩)),.int .i64 512,.int .i64 13312,.int .u16 0,.int .u16 0,.bool false,.bool false,.bool false,.bool false,.bool false,.bool false,.bool false,.bool false] 241)) w.heap.size 240 mb 0 1024 0 0 uz:=(ay.eo w _ _).alloc _;have nS:dy ((w.alloc (.cells #[.iface 71 (.pointer (some ⟨mb,0,none⟩)),.int .i64 0,.int .i64 1024,.int .u16 0,.int .u16 0,.bool false,.bool false,.bool false,.bool false,.bool false,.bool false,.bool false,.bool false] 240)).alloc (.cells #[.iface 71 (.pointer (some ⟨mb,0,none⟩)),.int .i64 512,.int .i64 13312,.int .u16 0,.int .u16 0,.bool false,.bool false,.bool false,.bool false,.bool false,.bool false,.bool false,.bool false] 241)) (w.heap.size+1) 241 mb 512 13312 0 0 uz:=by
  have:=ay.eo (w.alloc (.cells #[.iface 71 (.pointer (some ⟨mb,0,none⟩)),.int .i64 0,.int .i64 1024,.int .u16 0,.int .u16 0,.bool false,.bool false,.bool false,.bool false,.bool false,.bool false,.bool false,.bool false] 240)) ([.iface 71 (.pointer (some ⟨mb,0,none⟩)),.int .i64 (512:Nat),.int .i64 (13312:Nat),.int .u16 (0:Nat),.int .u16 (0:Nat)]++uz.map Value.bool) 241;rw[dI]at this;exact this
 have hz0:((w.alloc (.cells #[.iface 71 (.pointer (some ⟨mb,0,none⟩)),.int .i64 0,.int .i64 1024,.int .u16 0,.int .u16 0,.bool false,.bool false,.bool false,.bool false,.bool false,.bool false,.bool false,.bool false] 240)).alloc (.cells #[.iface 71 (.pointer (some ⟨mb,0,none⟩)),.int .i64 512,.int .i64 13312,.int .u16 0,.int .u16 0,.bool false,.bool false,.bool false,.bool false,.bool false,.bool false,.bool false,.bool false] 241)).heap.size=w.heap.size+2:=ak;clear h;go_enter func90,ntmps90;go_wp2_with (fail);generalize ((w.alloc (.cells #[.iface 71 (.pointer (some ⟨mb,0,none⟩)),.int .i64 0,.int .i64 1024,.int .u16 0,.int .u16 0,.bool false,.bool false,.bool false,.bool false,.bool false,.bool false,.bool false,.bool false] 240)).alloc (.cells #[.iface 71 (.pointer (some ⟨mb,0,none⟩)),.int .i64 512,.int .i64 13312,.int .u16 0,.int .u16 0,.bool false,.bool false,.bool false,.bool false,.bool false,.bool false,.bool false,.bool false] 241))=v0 at *;generalize mO:w.heap.size=rs at *;have GI:=ag mO;have H1:Hid (Calls prog 152 #[.pointer (some ⟨rs,0,none⟩),.int .i64 2] v0 _):=WD rs mb bb base 0 1024 0 0 2 _ uz bm aH st f bs v0 ql O7 ae ae ae ae ae aC aC ae ae;refine(af H1).mono ?_;rintro e v1 ⟨rfl,cQ,cz⟩;have hR1:=lX O7 cz aC aC ae ae;have hS1:=lX nS cz aC aC ae ae;have hz1:=cz.size;have py:Hid (Calls prog 152 #[.pointer (some ⟨rs+1,0,none⟩),.int .i64 0] v1 _):=WD (rs+1) mb bb base 512 13312 0 0 0 _ uz bm aH (st+128) _ _ v1 cQ hS1 ae ae ae ae ae aC aC ae ae;clear ql O7 nS H1 cQ;go_wp2_with (fail);refine(af py).mono ?_;rintro e v2 ⟨rfl,kj,hF2⟩;have hR2:=lX hR1 hF2 aC aC ae ae;have eU:=lX hS1 hF2 aC aC ae ae;have hz2:=hF2.size;have pz:Hid (Calls prog 153 #[.pointer (some ⟨rs+1,0,none⟩),.slice none 0 0] v2 _):=O0 (rs+1) mb bb base 512 13312 0 0 0 0 _ uz bm aH (st+128+128) _ _ [] none v2 kj eU ae ae ae ae rfl (fun s hs=>by cases hs) ak (.inl rfl) (fun _=>rfl) (fun j hj=>by simp at hj) (fun hn=>absurd rfl hn) aC aC ae ae;clear hR1 hS1 py kj eU;go_wp2_with (fail);refine(af pz).mono ?_;rintro e v3 ⟨rfl,mE,iF,dR⟩;simp only[nj,wh,fV,Nat.mul_zero,tI]at mE iF;obtain⟨B2,hB2⟩:∃x,x=fS (ux (ux bs 0 1024 2 8) 512 13312 0 8) (512+130) 0 2:=⟨_,rfl⟩
 obtain⟨F2,D_⟩:∃x,x=kN (uy (uy f 0 8) 512 8) (512+130) 2:=⟨_,rfl⟩
 rw[<- hB2,<- D_]at mE;have vN:Hid (Bz bs=nj 0 [0,1,2,3,4,5,6,7] (B2,0,uz)/\O6 f=kN (wh 0 [0,1,2,3,4,5,6,7] 0 F2) (0+130) 2):=⟨by rw[hB2];rfl,by rw[D_];rfl⟩
 clear hB2 D_;have iR:=WT hR2 dR aC ae ae ae;have hz3:=dR.size;have bu:=ag (aht v3.drew);have HO:=ag (fun(v4:World) (h1:ay v4 v3.heap.size ((List.range 8).map fun n:Nat=>Value.int .i64 n) 3) (h2:v4.heap.size=v3.heap.size+1) (h3:Below v3.heap.size v3.drew v4) =>
  O0 rs mb bb base 0 1024 0 0 v3.heap.size 8 240 uz bm aH (st+128+128+2) F2 B2 [0,1,2,3,4,5,6,7] (some ⟨v3.heap.size,0,none⟩) v4 (O5 (w:=v3.drew) mE h3) ((h3.block rs (by have:=ay.lt iR;omega)).trans iR) ae ae ae ae rfl aC ak (.inr rfl) (fun h=>by cases h) (fun j hj=>by
   have:=h1.cell j (by simpa using hj);rw[this]
   match j,hj with
   | 0,_=>rfl
   | 1,_=>rfl
   | 2,_=>rfl
   | 3,_=>rfl
   | 4,_=>rfl
   | 5,_=>rfl
   | 6,_=>rfl
   | 7,_=>rfl) (fun _=>⟨ae,by have:=ay.lt iR;omega,ae,ae,fun cur e=>by have:=h1.symm.trans e;simp at this⟩) aC aC ae ae)
 have pY:Hid (∀v4 v5:World,Below v3.heap.size v3.drew v4->rG rs mb bb base v4 v5->dy v5 (rs+1) 241 mb 512 13312 0 0 uz/\(∀i,i<rs->i≠mb->i≠bb->(i<base\/((∀cur,w.heap[i]?≠some (.cells cur 3 (0,0)))/\∀cur,w.heap[i]?≠some (.cells cur 177 (0,0))))->v5.heap[i]? = w.heap[i]?)/\v5.os=w.os/\v5.tape=w.tape/\v5.output=w.output/\rs+2<=v5.heap.size):=fun v4 v5 hb hF=>by
  refine⟨WT ((hb.block (rs+1) (ay.lt iF)).trans iF:dy v4 _ _ _ _ _ _ _ _) hF aC ae ae ae,fun i au h1 h2 hp=>?_,hF.os.trans (hb.os.trans (dR.os.trans (hF2.os.trans (cz.os.trans hB0.os)))),hF.tape.trans (hb.tape.trans (dR.tape.trans (hF2.tape.trans (cz.tape.trans hB0.tape)))),hF.output.trans (hb.output.trans (dR.output.trans (hF2.output.trans (cz.output.trans hB0.output)))),by have h1:=hb.size;have h2:=hF.size;have:v3.heap.size<=v4.heap.size:=h1;omega⟩;have e0:=hB0.block i au;have e1:v1.heap[i]? = w.heap[i]?:=(cz.block i ae h1 h2 (by rw[e0];exact hp)).trans e0;have e2:v2.heap[i]? = w.heap[i]?:=(hF2.block i ae h1 h2 (by rw[e1];exact hp)).trans e1;have e3:v3.heap[i]? = w.heap[i]?:=(dR.block i ae ae h1 h2 (by rw[e2];exact hp.imp id Io)).trans e2;have e4:v4.heap[i]? = w.heap[i]?:=(hb.block i ae).trans e3;exact(hF.block i (by have:=hb.size;have:v3.heap.size<=v4.heap.size:=this;omega) ae h1 h2 (by rw[e4];exact hp.imp id Io)).trans e4
 clear pz hR2 cz hF2 dR hB0 mE iR iF;go_wp2_with (fail)
 go_region_held (fun w'=>True) (trivial)
  (first
   | (go_at_call 154;go_loud (refine(af bu).mono ?_;rintro e v4 ⟨rfl,iA,WU,iM⟩))
   | (go_at_call 153;go_loud (refine(af HO v4 iA WU iM).mono ?_;rintro e v5 ⟨rfl,sU,kH,pA⟩)))
 all_goals
  have fq:=ag (af pY v4 v5 iM pA);rw[<- (af vN).1]at sU kH;rw[<- (af vN).2]at sU;have Ea:=ag sU;have mV:=ag kH;clear sU kH pA iM iA WU;go_wp2_with (fail);refine df (v:=.tuple #[.pointer (some ⟨rs,0,none⟩),.pointer (some ⟨rs+1,0,none⟩)]) ?_ rfl ?_
  ·simp[results,results90,go_sem]
  ·rw[af GI];exact⟨rfl,af Ea,af mV,(af fq).1,(af fq).2.1,(af fq).2.2⟩
theorem ahw{w:World}{rb mb ba bB av us:Nat}{t:TypeId}{out:List Bool}(h:dy w rb t mb ba bB av us out)(n:Nat):dy (w.setCell ⟨rb,4,none⟩ (.int .u16 n)) rb t mb ba bB av n out:=ay.set h 4 (.int .u16 n)
theorem rH{w:World}{rb mb ba bB av us:Nat}{t:TypeId}{out:List Bool}(h:dy w rb t mb ba bB av us out)(s:Nat)(b:Bool)(hs:out[s]? = some b):w.cell? ⟨rb,5+s,none⟩=some (.bool b):=by obtain⟨hl,hb⟩:=iu.1 hs;have:=ay.cell h (5+s) aX;rw[this,ID ak];simp[hb]
theorem ahx(rb mb ba bB av us id:Nat)(t:TypeId)(out:List Bool)(w:World)(hr:dy w rb t mb ba bB av us out)(pk:id<8)(hout:out[id]? = some true)(nW:us<65536) :
  Calls prog 216 #[.pointer (some ⟨rb,0,none⟩),.int .u32 id] w fun e w' =>
   e=.returned (.tuple #[.int .i64 id,.bool true])/\dy w' rb t mb ba bB av ((us+1)%65536) (out.set id false)/\cF rb w w'/\w'.heap.size=w.heap.size:=by
 obtain⟨u1,hu1⟩:=bP ((us+1)%65536);rw[<- hu1];have e3:IntKind.u16.wrap ((us:Int)+1)=(u1:Int):=by rw[jZ];omega
 have dm:=rH hr id true hout;have hf:=ay.frozen hr;have hR1:=WL hr id false;have bw:=ay.cell hR1 4 ak;have d4:=ay.cell hr 4 ak;simp only[dX,dS,ej]at bw d4;have jk:=ay.frozen hR1;have gv:=ag (ahw hR1 u1);have k0:¬(8:Int)<=(id:Int):=ae;clear hr hR1 hu1 hout;go_enter func216,ntmps216;go_wp2;refine df (v:=.tuple #[.int .i64 id,.bool true]) ?_ rfl ?_;{simp[results,results216,go_sem]};{exact⟨rfl,af gv,qN (qN (vh _ _) _ _) _ _,by simp[World.setCell]⟩}
def qm(l:List Bool):Nat:=(l.filter id).length
theorem ahy(l:List Bool)(k:Nat)(h:k<l.length):qm (l.take (k+1))=qm (l.take k)+(if(l[k]?.getD false)=true then 1 else 0):=by unfold qm;rw[mM h,IY];rw[kQ h,tE,bU];cases l[k] <;> simp
theorem ahz(o0 o1 o2 o3 o4 ed ee ei:Bool)(W:World):(Instr.index 169 (.agg #[.bool o0,.bool o1,.bool o2,.bool o3,.bool o4,.bool ed,.bool ee,.bool ei]) (.int .i64 0)).run prog W=.ok (.bool o0) W:=aK
theorem ahA(o0 o1 o2 o3 o4 ed ee ei:Bool)(W:World):(Instr.index 169 (.agg #[.bool o0,.bool o1,.bool o2,.bool o3,.bool o4,.bool ed,.bool ee,.bool ei]) (.int .i64 1)).run prog W=.ok (.bool o1) W:=aK
theorem ahB(o0 o1 o2 o3 o4 ed ee ei:Bool)(W:World):(Instr.index 169 (.agg #[.bool o0,.bool o1,.bool o2,.bool o3,.bool o4,.bool ed,.bool ee,.bool ei]) (.int .i64 2)).run prog W=.ok (.bool o2) W:=aK
theorem ahC(o0 o1 o2 o3 o4 ed ee ei:Bool)(W:World):(Instr.index 169 (.agg #[.bool o0,.bool o1,.bool o2,.bool o3,.bool o4,.bool ed,.bool ee,.bool ei]) (.int .i64 3)).run prog W=.ok (.bool o3) W:=aK
theorem ahD(o0 o1 o2 o3 o4 ed ee ei:Bool)(W:World):(Instr.index 169 (.agg #[.bool o0,.bool o1,.bool o2,.bool o3,.bool o4,.bool ed,.bool ee,.bool ei]) (.int .i64 4)).run prog W=.ok (.bool o4) W:=aK
theorem ahE(o0 o1 o2 o3 o4 ed ee ei:Bool)(W:World):(Instr.index 169 (.agg #[.bool o0,.bool o1,.bool o2,.bool o3,.bool o4,.bool ed,.bool ee,.bool ei]) (.int .i64 5)).run prog W=.ok (.bool ed) W:=aK
theorem ahF(o0 o1 o2 o3 o4 ed ee ei:Bool)(W:World):(Instr.index 169 (.agg #[.bool o0,.bool o1,.bool o2,.bool o3,.bool o4,.bool ed,.bool ee,.bool ei]) (.int .i64 6)).run prog W=.ok (.bool ee) W:=aK
theorem ahG(o0 o1 o2 o3 o4 ed ee ei:Bool)(W:World):(Instr.index 169 (.agg #[.bool o0,.bool o1,.bool o2,.bool o3,.bool o4,.bool ed,.bool ee,.bool ei]) (.int .i64 7)).run prog W=.ok (.bool ei) W:=aK
theorem ahH(o0 o1 o2 o3 o4 ed ee ei:Bool)(k:Nat)(h:k<8)(W:World):(Instr.index 169 (.agg #[.bool o0,.bool o1,.bool o2,.bool o3,.bool o4,.bool ed,.bool ee,.bool ei]) (.int .i64 (k:Int))).run prog W=.ok (.bool ([o0,o1,o2,o3,o4,ed,ee,ei][k]?.getD false)) W:=by have hk:k=0\/k=1\/k=2\/k=3\/k=4\/k=5\/k=6\/k=7:=ae;rcases hk with rfl|rfl|rfl|rfl|rfl|rfl|rfl|rfl;{exact ahz o0 o1 o2 o3 o4 ed ee ei W};{exact ahA o0 o1 o2 o3 o4 ed ee ei W};{exact ahB o0 o1 o2 o3 o4 ed ee ei W};{exact ahC o0 o1 o2 o3 o4 ed ee ei W};{exact ahD o0 o1 o2 o3 o4 ed ee ei W};{exact ahE o0 o1 o2 o3 o4 ed ee ei W};{exact ahF o0 o1 o2 o3 o4 ed ee ei W};{exact ahG o0 o1 o2 o3 o4 ed ee ei W}
theorem ahI(rb mb ba bB av us:Nat)(t:TypeId)(o0 o1 o2 o3 o4 ed ee ei:Bool)(w:World)(hr:dy w rb t mb ba bB av us [o0,o1,o2,o3,o4,ed,ee,ei]) :
  Calls prog 259 #[.pointer (some ⟨rb,0,none⟩)] w fun e w'=>e=.returned (.int .i64 (qm [o0,o1,o2,o3,o4,ed,ee,ei]))/\w'=w:=by
 have c0:=rH hr 0 o0 rfl;have az:=rH hr 1 o1 rfl;have c2:=rH hr 2 o2 rfl;have c3:=rH hr 3 o3 rfl;have bw:=rH hr 4 o4 rfl;have dm:=rH hr 5 ed rfl;have jl:=rH hr 6 ee rfl;have c7:=rH hr 7 ei rfl;clear hr;go_enter func259,ntmps259;go_wp2_with (fail);go_loopw [3,10] (fun n i wr=>∃k:Nat,n=.int .i64 (qm ([o0,o1,o2,o3,o4,ed,ee,ei].take k):Nat)/\i=.int .i64 k/\k<=8/\wr=w) (fun _ i _=>8 - (intOf i).toNat);case atStart=>exact⟨0,rfl,rfl,ae,rfl⟩
 case round =>(
 obtain⟨k,rfl,rfl,hk,rfl⟩:=hrel;by_cases hlk:k<8;{
 have hix:=ahH o0 o1 o2 o3 o4 ed ee ei k hlk wr;have dJ:=ag (ahy [o0,o1,o2,o3,o4,ed,ee,ei] k (by simpa using hlk));have hcl:qm ([o0,o1,o2,o3,o4,ed,ee,ei].take k)<=8:=by{unfold qm;exact a_ (yc _ _) aX};generalize [o0,o1,o2,o3,o4,ed,ee,ei][k]?.getD false=b at *;generalize qm ([o0,o1,o2,o3,o4,ed,ee,ei].take k)=x at *;obtain⟨z,hz⟩:=bP (qm ([o0,o1,o2,o3,o4,ed,ee,ei].take (k+1)));rw[<- hz]at dJ;have eT:=ag hz;clear hz;cases b with
 | true =>{
 have hz1:z=x+1:=by have:=af dJ;simpa using this
 have aqK:(x:Int)+1=(z:Int):=ae;clear hz1 dJ;go_wp2;exact⟨⟨k+1,by rw[af eT],dD,ae,aY⟩,gN⟩}
 | false =>{
 have hz1:z=x:=by have:=af dJ;simpa using this
 subst hz1;clear dJ;go_wp2;exact⟨⟨k+1,by rw[af eT],dD,ae,aY⟩,gN⟩}};{have eJ:k=8:=ae;subst eJ;go_wp2;go_ret;exact⟨rfl,rfl⟩})
theorem ahJ(x y s:Nat)(hx:x<2 ^ s)(b:Nat)(hy:y=b*2 ^ s)(hz:x+y<4294967296):bits .or .u32 (x:Int) (y:Int)=((x+y:Nat):Int):=by
 show IntKind.u32.wrap ((BitVec.ofInt 32 (x:Int) ||| BitVec.ofInt 32 (y:Int)).toNat:Int)=_;rw[BitVec.toNat_or,BitVec.ofInt_natCast,BitVec.ofInt_natCast,BitVec.toNat_ofNat,BitVec.toNat_ofNat,Fc ae,Fc ae];have e:x ||| y=x+y:=by{rw[hy,Nat.or_comm,<- Nat.shiftLeft_eq b s,<- SG hx];omega}
 rw[e,Ai];omega
def zh(bs:ai)(p:Nat)(s:ai):Nat->ai
 | 0=>bs
 | k+1=>(zh bs p s k).set (p+k) (s[k]?.getD 0)
structure bX(p:Nat->Prop)(base:Nat)(A B:World):Prop where
 os:B.os=A.os
 tape:B.tape=A.tape
 output:B.output=A.output
 size:A.heap.size<=B.heap.size
 block:∀i,i<A.heap.size->p i->(i<base\/((∀cur,A.heap[i]?≠some (.cells cur 3 (0,0)))/\∀cur,A.heap[i]?≠some (.cells cur 177 (0,0))))->B.heap[i]? = A.heap[i]?
section
variable {p q:Nat->Prop} {base mb bb rb:Nat} {A B C:World}
theorem bX.refl(p:Nat->Prop)(base:Nat)(w:World):bX p base w w:=⟨rfl,rfl,rfl,aL _,fun _ _ _ _=>rfl⟩
theorem bX.trans(h:bX p base A B)(k:bX p base B C):bX p base A C :=
 ⟨k.os.trans h.os,k.tape.trans h.tape,k.output.trans h.output,a_ h.size k.size,fun i au h1 hp=>by
  have e:=h.block i au h1 hp;refine(k.block i (eQ au h.size) h1 ?_).trans e;rw[e];exact hp⟩
theorem bX.mono(h:bX p base A B)(hq:∀i,q i->p i):bX q base A B:=⟨h.os,h.tape,h.output,h.size,fun i au h1 hp=>h.block i au (hq i h1) hp⟩
theorem bX.Ed(h:kM mb bb base A B)(hp:∀i,p i->i≠mb/\i≠bb):bX p base A B:=⟨h.os,h.tape,h.output,h.size,fun i au h1 hq=>h.block i au (hp i h1).1 (hp i h1).2 hq⟩
theorem bX.WV(h:rG rb mb bb base A B)(hp:∀i,p i->i≠rb/\i≠mb/\i≠bb):bX p base A B:=⟨h.os,h.tape,h.output,h.size,fun i au h1 hq=>h.block i au (hp i h1).1 (hp i h1).2.1 (hp i h1).2.2 (hq.imp id Io)⟩
theorem bX.sV(h:Below A.heap.size A B):bX p base A B:=⟨h.os,h.tape,h.output,h.size,fun i au _ _=>h.block i au⟩
theorem bX.WW(h:cF rb A B)(hs:A.heap.size<=B.heap.size)(hp:∀i,p i->i≠rb):bX p base A B:=⟨h.os,h.tape,h.output,hs,fun i au h1 _=>h.block i au (hp i h1)⟩
theorem bX.Km(A:World)(o:Nat)(v:Value)(hp:∀i,p i->i≠rb):bX p base A (A.setCell ⟨rb,o,none⟩ v):=⟨rfl,rfl,rfl,by simp[World.setCell],fun i _ h1 _=>bf _ _ _ _ (hp i h1)⟩
theorem bX.blk{b:Nat}{cs:List Value}{t:TypeId}(h:bX p base A B)(hb:ay A b cs t)(hp:p b)(dW:t≠3)(cL:t≠177):ay B b cs t :=
 (h.block b hb.lt hp (.inr ⟨fun cur e=>dW (by have:=hb.symm.trans e;simp at this;exact this.2),fun cur e=>cL (by have:=hb.symm.trans e;simp at this;exact this.2)⟩)).trans hb
end
def gi(w:World)(mb bb base:Nat)(ns:List Int)(st:Nat):Prop:=∃bs vp np,jr w mb bb base bs ⟨false,vp,fun l=>l=ns⟩ ns.length st/\jE w vp np
def gH(p:Nat):Nat->List Int
 | 0=>[]
 | k+1=>gH p k++[((p+k:Nat):Int)]
theorem uA(p k:Nat):(gH p k).length=k:=by
 induction k with
 | zero=>rfl
 | succ k ih=>rw[gH,bU,ih];rfl
theorem O8{p k:Nat}{x:Int}(h:x∈gH p k):(p:Int)<=x/\x<p+k:=by
 induction k with
 | zero=>cases h
 | succ k ih =>{rw[gH,kP]at h;rcases h with h|h;{have:=ih h;omega};{simp at h;omega}}
theorem ahK{w w':World}{mb bb base np aH st:Nat}{vp:Value}{bs:ai}{W:gY}(hp:jE w vp np)(hm:jr w mb bb base bs W aH st)(hk:∀i cs,ay w i cs 174->i≠mb->i≠bb->w'.heap[i]? = w.heap[i]?):jE w' vp np:=by obtain⟨f,vl,vm,ns,hm,hr,_⟩:=hm;exact sQ hp fun i cs au=>hk i cs au (eP au hm aC) (eP au hr.2 aC)
theorem qo{w:World}{i:Nat}{cs:List Value}{t t':TypeId}(h:ay w i cs t)(ht:t≠t'):∀cur,w.heap[i]?≠some (.cells cur t' (0,0)):=fun cur e=>ht (by have:=h.symm.trans e;simp at this;exact this.2)
theorem O9{w w':World}{mb bb base st:Nat}{ns:List Int}(h:gi w mb bb base ns st)(hb:Below w.heap.size w w'):gi w' mb bb base ns st:=by obtain⟨bs,vp,np,h1,h2⟩:=h;exact⟨bs,vp,np,WR h1 hb,sQ h2 fun i _ au=>hb.block i au.lt⟩
theorem Kn{w:World}{mb bb base st:Nat}{ns:List Int}(h:gi w mb bb base ns st):mb<w.heap.size/\bb<w.heap.size:=by obtain⟨bs,vp,np,h1,h2⟩:=h;exact Ec h1
theorem JH{w:World}{mb bb base st:Nat}{ns:List Int}(h:gi w mb bb base ns st):(∃cs,ay w mb cs 84)/\∃cs,ay w bb cs 5:=by obtain⟨bs,vp,np,⟨f,vl,vm,ns,hm,hr,_⟩,h2⟩:=h;exact⟨⟨_,hm⟩,_,hr.2⟩
theorem Ko{w w':World}{mb bb base st rb:Nat}{ns:List Int}{t:TypeId}{cs:List Value}(h:gi w mb bb base ns st)(hb:ay w rb cs t)(dW:t≠3)(cL:t≠177)(sM:t≠174)(cV:rb≠mb)(dx:rb≠bb)(hk:∀i,i<w.heap.size->i≠rb->w'.heap[i]? = w.heap[i]?):gi w' mb bb base ns st:=by obtain⟨bs,vp,np,h1,h2⟩:=h;exact⟨bs,vp,np,ahm h1 rb t cs hb dW cL cV dx hk,sQ h2 fun i _ au=>hk i au.lt fun e=>by subst e;exact qo au (fun x=>sM x.symm) _ hb⟩
theorem WX(mb bb base n:Nat)(ns:List Int)(st:Nat)(w:World)(h:gi w mb bb base ns st)(bL:base<=w.heap.size)(hn:n<25600)(nU:ns.length<=1000000) :
  Calls prog 159 #[.pointer (some ⟨mb,0,none⟩),.int .i64 n] w fun e w'=>∃bv:UInt8,e=.returned (.int .u8 bv.toNat)/\gi w' mb bb base (ns++[(n:Int)]) st/\kM mb bb base w w':=by obtain⟨bs,vp,np,⟨f,vl,vm,ns',hm,hr,ho,⟨hl,hw⟩,ms,eC,gW⟩,hp⟩:=h;have hw:ns'=ns:=hw;subst hw;refine(ag8 mb bb base n np vl vm vp _ _ _ _ _ ns'.length st bs ns' w hm hp hr ho bL hn nU nU).mono ?_;rintro e w' ⟨bv,J7,cC,bs',DW,rfl,my,hp',hr',xn,hF⟩;refine⟨bv,rfl,⟨bs',cC,DW,⟨(f.1,false,false),J7,vm,_,?_,hr',xn,⟨ak,rfl⟩,ms,?_,gW⟩,hp'⟩,?_⟩;{rw[bU];exact my};{refine jq eC fun g hg=>hF.block g (lB eC hg) ⟨fun e=>?_,fun e=>?_,OM eC ho aC hg⟩;{exact iG hm eC aC (by rw[hg,e])};{exact iG hr.2 eC aC (by rw[hg,e])}};{refine⟨hF.os,hF.tape,hF.output,hF.size,fun i au h1 h2 hp=>hF.block i au ⟨h1,h2,fun e=>?_⟩⟩;obtain⟨hb,cur,hc⟩:=px ho e.symm;rcases hp with hp|hp;{omega};{exact hp.1 cur hc}}
theorem ahL(x k b:Nat)(hx:x<2 ^ (8*k))(hb:b<256)(hk:k<4):x+b*2 ^ (8*k)<2 ^ (8*(k+1))/\x+b*2 ^ (8*k)<4294967296:=by
 have h2:b*2 ^ (8*k)<=255*2 ^ (8*k):=Ab _ ae;have h3:(2:Nat) ^ (8*(k+1))=256*2 ^ (8*k):=by rw[show 8*(k+1)=8*k+8 by omega,Nat.pow_add];omega
 have Ox:(2:Nat) ^ (8*(k+1))<=2 ^ 32:=SE ae ae;omega
theorem Kq(rb mb bb base ba bB av us p size:Nat)(t:TypeId)(out:List Bool)(ns:List Int)(st:Nat)(w:World)(h:gi w mb bb base ns st)(hr:dy w rb t mb ba bB av us out)(bL:base<=w.heap.size)(hsz:size<=4)(hp:ba+p+size<=25600)(nU:ns.length<=900000)(dW:t≠3)(cL:t≠177)(cV:rb≠mb)(dx:rb≠bb) :
  Calls prog 217 #[.pointer (some ⟨rb,0,none⟩),.int .i64 p,.int .i64 size] w fun e w' =>
   ∃v:Nat,v<2 ^ (8*size)/\e=.returned (.int .u32 v)/\gi w' mb bb base (ns++gH (ba+p) size) st/\kM mb bb base w w':=by
 have bA:=ag h;have aT:=ag hr;clear h hr;go_enter func217,ntmps217;go_wp2_with (fail)
 go_loopw [7,10] (fun n i wr=>∃k v:Nat,n=.int .u32 v/\v<2 ^ (8*k)/\i=.int .i64 k/\k<=size/\gi wr mb bb base (ns++gH (ba+p) k) st/\kM mb bb base w wr) (fun _ i _=>size - (intOf i).toNat)
 case atStart=>exact⟨0,0,rfl,ak,rfl,dY _,by simpa [gH]using af bA,Wq _ _ _ _⟩
 case round =>
  obtain⟨k,x,rfl,hx,rfl,hk,hm,hF⟩:=hrel;have c4:=ag hm;have dQ:=ag hF;have cN:=ag hx;have hR1:dy wr rb t mb ba bB av us out:=(hF.block rb (ay.lt (af aT)) cV dx (.inr ⟨qo (af aT) dW,qo (af aT) cL⟩)).trans (af aT);have r0:=ay.cell hR1 0 ak;have r1:=ay.cell hR1 1 ak;simp only[dX,dS,ej]at r0 r1;have rY:=hF.size;clear hm hF hx;by_cases hlk:k<size
  ·have eC:=Ww mb;have vr:=Wx;obtain⟨q,hq⟩:=bP (ba+p);obtain⟨jQ,gy⟩:=bP (q+k);obtain⟨k8,D8⟩:=bP (8*k);have ui:(ns++gH (ba+p) k).length<=1000000:=by rw[bU,uA];omega
   have e1:IntKind.i64.wrap ((ba:Int)+(p:Int))=(q:Int):=by rw[gM];omega
   have e2:IntKind.i64.wrap ((q:Int)+(k:Int))=(jQ:Int):=by rw[gM];omega
   have e3:IntKind.i64.wrap (8*(k:Int))=(k8:Int):=by rw[gM];omega
   have aZ:Hid (∀b:Nat,b<256->∃z:Nat,z<2 ^ (8*(k+1))/\IntKind.u32.wrap (b:Int)=(b:Int)/\∃y:Nat,IntKind.u32.wrap ((b:Int)*2 ^ min k8 32)=(y:Int)/\bits .or .u32 (x:Int) (y:Int)=(z:Int)):=fun b hb=>by
    obtain⟨n1,n2⟩:=ahL x k b (af cN) hb ae;refine⟨x+b*2 ^ (8*k),n1,by rw[Ai];omega,b*2 ^ (8*k),?_,ahJ x _ (8*k) (af cN) b rfl n2⟩;rw[uY ae,D8,show(b:Int)*2 ^ (8*k)=((b*2 ^ (8*k):Nat):Int) by simp,Ai];omega
   have GQ:=ag (WX mb bb base jQ _ st wr.drew (af c4) (by show base<=wr.heap.size;omega) ae ui);have pj:Hid (gH (ba+p) (k+1)=gH (ba+p) k++[(jQ:Int)]):=by rw[Hid,gH,gy,hq]
   have nS:wr.drew.cell? ⟨rb,0,none⟩=some (.iface 71 (.pointer (some ⟨mb,0,none⟩)))/\wr.drew.cell? ⟨rb,1,none⟩=some (.int .i64 ba):=⟨r0,r1⟩
   have ot:Hid (∀W':World,kM mb bb base wr.drew W'->W'.cell? ⟨rb,0,none⟩=some (.iface 71 (.pointer (some ⟨mb,0,none⟩)))/\W'.cell? ⟨rb,1,none⟩=some (.int .i64 ba)):=fun W' hF=>by
    have e:W'.heap[rb]? = wr.heap[rb]?:=hF.block rb (ay.lt hR1) cV dx (.inr ⟨qo hR1 dW,qo hR1 cL⟩);exact⟨(dC e).trans r0,(dC e).trans r1⟩
   clear hq gy D8 hR1 ui;go_wp2_with (fail)
   go_region_held (fun w'=>w'.cell? ⟨rb,0,none⟩=some (.iface 71 (.pointer (some ⟨mb,0,none⟩)))/\w'.cell? ⟨rb,1,none⟩=some (.int .i64 ba)) (first|assumption|go_keep)
    (first|(go_at_call 159;go_loud (refine(af GQ).mono ?_;rintro e w' ⟨bv,rfl,fJ,hF2⟩;have eU:=af ot w' hF2;obtain⟨z,hz,e4,y,e5,e6⟩:=af aZ bv.toNat (jX bv);have eT:=ag hz;clear hz;generalize bv.toNat=b at *)))
   all_goals
    have jn:=ag fJ;have iB:=ag (vY (af dQ) (vY (Kc (bW _ _).drew) hF2));clear fJ hF2;go_wp2_with (fail);exact⟨⟨k+1,z,rfl,af eT,dD,ae,by have:=af jn;rw[af pj,<- g_];exact this,af iB⟩,gN⟩
  ·have eJ:k=size:=ae;subst eJ;go_wp2;go_ret;exact⟨x,af cN,rfl,af c4,af dQ⟩
end Go.Proofs.YtkkpahmoljiepaaGreatDoor
