import Derived.Test.YtkkpahmoljiepaaGreatDoorJ07
set_option maxRecDepth 1000000
set_option maxHeartbeats 12800000
set_option linter.unusedSimpArgs false
set_option linter.unusedVariables false
namespace Go.Proofs.YtkkpahmoljiepaaGreatDoor
open Go.RowKit Go.Proofs.Tryz
def Pz(w:World)(b o:Nat)(r:ai):Prop:=∃vo dS,w.cell? (ak b o)=some vo/\w.cell? (ak b (o+1))=some (aj r.aG)/\w.cell? (ak b (o+2))=some (aj r.type)/\w.cell? (ak b (o+3))=some (ay r.data)/\w.cell? (ak b (o+4))=some dS/\en w vo (az 46 r.owner)/\en w dS (az 32 r.data)
theorem Pz.below{w w':World}{b o:Nat}{r:ai}(h:Pz w b o r)(hb:au w w'):Pz w' b o r:=by obtain⟨vo,dS,h0,h1,h2,h3,h4,h5,h6⟩:=h;have k:∀(a:Addr) (v:Value),w.cell? a=some v->w'.cell? a=some v:=fun a v h=>(hb.cell (iz w a h)).trans h;exact⟨vo,dS,k _ _ h0,k _ _ h1,k _ _ h2,k _ _ h3,k _ _ h4,h5.below hb,h6.below hb⟩
def Dh(w:World)(b off:Nat)(rs:List ai):Prop:=∀j (h:j<rs.length),Pz w b (off+j*5) rs[j]
theorem Dh.below{w w':World}{b off:Nat}{rs:List ai}(h:Dh w b off rs)(hb:au w w'):Dh w' b off rs:=fun j hj=>(h j hj).below hb
def mM(w:World)(zb:Nat)(o:ah)(rs:List ai):Prop:=∃vo b off cap,w.heap[zb]? = some (.cells #[vo,.slice (some ⟨b,off,none⟩) rs.length cap] 117)/\en w vo (az 46 o)/\rs.length<=cap/\Dh w b off rs
theorem mM.below{w w':World}{zb:Nat}{o:ah}{rs:List ai}(h:mM w zb o rs)(hb:au w w'):mM w' zb o rs:=by obtain⟨vo,b,off,cap,h0,h1,h2,h3⟩:=h;exact⟨vo,b,off,cap,(hb.block zb (bV.1 h0).1).trans h0,h1.below hb,h2,h3.below hb⟩
def Bk(o:ah)(rs:List ai):Prop:=o.length<=900/\rs.length<=3001/\∀r∈rs,r.owner.length<=900
theorem p8{s:ah}(h:s.length<=900):(az 46 s).length<=1000:=by have:=pQ 46 s;omega
theorem Di(s:ah):0<(az 46 s).length:=by
 have:=pP 46 s;cases h:az 46 s with
 | nil=>exact absurd h this
 | cons a t=>simp
def iG(rs:List ai)(ns:List ah)(t:Int):Bool:=rs.any fun r=>decide (az 46 r.owner=ns) && (t == 255 || r.type == t)
theorem acu(p:ai->Bool)(rs:List ai)(k:Nat)(h:k<rs.length)(h0:(rs.take k).any p=false)(hk:p rs[k]=false):(rs.take (k+1)).any p=false:=by rw[gp h,List.any_append,h0];simp[hk]
theorem PA(zb:Nat)(o:ah)(rs:List ai)(u:Value)(ns:List ah)(t:Int)(w:World)(hz:mM w zb o rs)(hf:Bk o rs)(hu:en w u ns)(hn:ns.length<=1000) :
  aB 118 #[aM zb,u,aj t] w (bQ (.bool (iG rs ns t)) w):=by
 have HU:=ag hu;have dv:=ag hz;obtain⟨vo,b,off,cap,z0,z1,z2,z3⟩:=hz;have hzl:zb<w.heap.size:=(bV.1 z0).1;have bC:=ag z3;have tT:=ag z0;have oM:=hf.2.1;have aW:=ag hf;clear z0 z1 z3 hu hf;go_enter func118,ntmps118;go_wp2_with fail;go_loopw [7] (fun i wr=>∃k:Nat,k<=rs.length/\i=aj k/\(rs.take k).any (fun r=>decide (az 46 r.owner=ns) && (t == 255 || r.type == t))=false/\au w wr) (fun i _=>rs.length - (intOf i).toNat);case atStart=>exact⟨0,cV _,rfl,rfl,bR _ _⟩
 case round =>(obtain⟨k,hk,rfl,hno,hb⟩:=hrel;have qZ:=ag hno;have aX:=ag hb;have zc:wr.cell? (ak zb 1)=some (aD b off rs.length cap):=by{have:=(hb.block zb hzl).trans tT;unfold World.cell?; rw[this];rfl};by_cases hlt:k<rs.length;{have gy:(k:Int)<(rs.length:Int):=ae;obtain⟨ro,rw',c0,aC,c2,c3,aV,gh,jF⟩:=((af bC) k hlt).below hb;have hrl:=aW.2.2 rs[k] (cM hlt);have nV:=ag (acu (fun r=>decide (az 46 r.owner=ns) && (t == 255 || r.type == t)) rs k hlt hno);have wV:Hid ((decide (az 46 rs[k].owner=ns) && (t == 255 || rs[k].type == t))=true->iG rs ns t=true):=fun h=>oA.2 ⟨rs[k],cM hlt,h⟩;have HS:=ag (yc ro u (az 46 rs[k].owner) ns wr gh (HU.below hb) (p8 hrl) hn);generalize rs[k]=r at *;clear aC c3 aV gh jF hno hb hrl;go_wp2_with fail;refine HS.mono ?_;rintro e w1 ⟨rfl,hb1⟩;have bZ:=ag (aX.trans (hb1.mono aX.size));have azC:=(hb1.cell (p:=⟨zb,1,none⟩) (iz _ _ zc)).trans zc;have acv:=(hb1.cell (p:=⟨b,off+k*5+2,none⟩) (iz _ _ c2)).trans c2;clear hb1 HS;cases hs:decide (az 46 r.owner=ns);{have bI:Hid ((rs.take (k+1)).any (fun r=>decide (az 46 r.owner=ns) && (t == 255 || r.type == t))=false):=af nV (by show(decide (az 46 r.owner=ns) && _)=false;rw[hs];rfl);clear hs;go_wp2;exact⟨⟨k+1,ae,bW,bI,bZ⟩,c5⟩};{rw[hs]at wV;cases ht:(t == 255);{rw[ht]at wV;cases hr:(r.type == t);{have bI:Hid ((rs.take (k+1)).any (fun r=>decide (az 46 r.owner=ns) && (t == 255 || r.type == t))=false):=af nV (by show(decide (az 46 r.owner=ns) && (t == 255 || r.type == t))=false;rw[hs,ht,hr];rfl);clear hs;go_wp2;exact⟨⟨k+1,ae,bW,bI,bZ⟩,c5⟩};{have bI:=ag (wV (by rw[hr];rfl));clear hs;go_wp2;go_ret;exact⟨cA bI.symm,bZ⟩}};{have bI:=ag (wV (by rw[ht];rfl));clear hs;go_wp2;go_ret;exact⟨cA bI.symm,bZ⟩}}};{have gy:¬(k:Int)<(rs.length:Int):=ae;have ng:k=rs.length:=ae;have bI:Hid (iG rs ns t=false):=by{have:=af qZ;rw[ng,gV]at this;exact this};clear hno hb;go_wp2;go_ret;exact⟨cA bI.symm,aX⟩})
def FI(vo dS:Value)(r:ai):Value:=.agg #[vo,aj r.aG,aj r.type,ay r.data,dS]
def Bl(o:ah)(r:ai):Bool:=r.type == 2 && !decide (az 46 r.owner=az 46 o)
theorem anW(zb:Nat)(o:ah)(rs:List ai)(r:ai)(vo dS:Value)(w:World)(hz:mM w zb o rs)(ho:o.length<=900)(hv:en w vo (az 46 r.owner))(hr:r.owner.length<=900) :
  aB 185 #[aM zb,FI vo dS r] w (bQ (.bool (Bl o r)) w):=by
 obtain⟨Lf,b,off,cap,z0,z1,z2,z3⟩:=hz;have hzl:zb<w.heap.size:=(bV.1 z0).1;obtain⟨W,hW⟩:=bF (w.alloc (.cells #[vo,.int .i64 r.aG,.int .i64 r.type,.string (aq r.data),dS] 119));have eJ:au w W:=by rw[hW];exact aO.alloc aA _
 have hnew:W.heap[w.heap.size]? = some (.cells #[vo,.int .i64 r.aG,.int .i64 r.type,.string (aq r.data),dS] 119):=by rw[hW];exact World.alloc_heap_new w _
 have c0:W.cell? (ak w.heap.size 0)=some vo:=by unfold World.cell?; rw[hnew];rfl
 have c2:W.cell? (ak w.heap.size 2)=some (aj r.type):=by unfold World.cell?; rw[hnew];rfl
 have zc:W.cell? (ak zb 0)=some Lf:=by
  have:=(eJ.block zb hzl).trans z0;unfold World.cell?; rw[this];rfl
 have hlt:w.heap.size<W.heap.size:=(bV.1 hnew).1;have HS:=ag (fun V (hb:au W V)=>yc vo Lf (az 46 r.owner) (az 46 o) V ((hv.below eJ).below hb) ((z1.below eJ).below hb) (p8 hr) (p8 ho));have aX:=ag eJ;have HW:=ag hW;have HC:Hid (Bl o r=(r.type == 2 && !decide (az 46 r.owner=az 46 o))):=rfl;clear z0 z1 z3 hv eJ hnew;generalize decide (az 46 r.owner=az 46 o)=bN at *;unfold FI;go_enter func185,ntmps185;go_upto_region 1 with fail;rw[<- hW];clear hW;have hS:W.drew.cell? (ak w.heap.size 0)=some vo/\W.drew.cell? (ak zb 0)=some Lf:=⟨c0,zc⟩
 go_region_held (fun w'=>w'.cell? (ak w.heap.size 0)=some vo/\w'.cell? (ak zb 0)=some Lf) (first|assumption|go_keep)
  (first|(go_at_call 117;go_loud (refine(HS _ aO.drew).mono ?_;rintro e w2 ⟨rfl,hb2⟩;have lz:w2.cell? (ak w.heap.size 0)=some vo/\w2.cell? (ak zb 0)=some Lf:=⟨(hb2.cell (p:=⟨w.heap.size,0,none⟩) hlt).trans c0,(hb2.cell (p:=⟨zb,0,none⟩) (iz _ _ zc)).trans zc⟩)))
 have PB:=(hb2.cell (p:=⟨w.heap.size,2,none⟩) hlt).trans c2;have azD:w2.cell? (ak w.heap.size 2)=some (aj r.type):=PB;have bU:Hid (au w w2):=aX.trans ((show au W w2 from(bR W.heap.size W).drew.trans hb2).mono aX.size);clear hb2 PB;cases ht:(r.type == 2)
 ·have cS:=ag ht;go_wp2;go_ret;exact⟨cA (by rw[af HC,af cS];rfl),bU⟩
 ·have cS:=ag ht;go_wp2;go_ret;exact⟨cA (by rw[af HC,af cS];simp),bU⟩
def mj(s:ah):ah:=(az 46 s).headD []
def UU(cut stx bN dup n5 anX Dj anY anZ:Bool):Bool:=if cut && stx then false else if bN then(if dup then false else n5 && (!cut || anX))else !cut || !Dj || (anY && anZ)
def yt(o:ah)(r x:ai):Bool:=UU (Bl o x) (mj x.owner == [42]) (decide (az 46 r.owner=az 46 x.owner)) (r.type == x.type && (r.data == x.data || (r.aG:Int) != (x.aG:Int))) (x.type != 5) (r.type == 2) (lR (az 46 r.owner) (az 46 x.owner)) (r.type == 1) (!(mj r.owner == [42]))
theorem acw{w:World}{v:Value}{s:ah}(h:en w v (az 46 s)):∃g off n c,v=aD g off (n+1) c/\n+1<=c/\w.cell? (ak g off)=some (ay (mj s)):=by
 obtain⟨g,off,cap,rfl,hc,ht⟩:=h;have hne:=pP 46 s;unfold mj;cases hs:az 46 s with
 | nil=>exact absurd hs hne
 | cons a t =>{rw[hs]at ht hc;have:=ht.2 0 ar;rw[gK]at this;exact⟨g,off,t.length,cap,rfl,by simpa using hc,this⟩}
theorem an0(a b:ah):((aq a).toList == (aq b).toList)=(a == b):=abF a b
theorem acx(zb:Nat)(o:ah)(rs:List ai)(r x:ai)(vr PC vx Ij:Value)(w:World)(hz:mM w zb o rs)(ho:o.length<=900)(PD:en w vr (az 46 r.owner))(hr:r.owner.length<=900)(Lg:en w vx (az 46 x.owner))(hx:x.owner.length<=900) :
  aB 120 #[aM zb,FI vr PC r,FI vx Ij x] w (bQ (.bool (yt o r x)) w):=by
 obtain⟨W,hW⟩:=bF ((w.alloc (.cells #[vr,.int .i64 r.aG,.int .i64 r.type,.string (aq r.data),PC] 119)).alloc (.cells #[vx,.int .i64 x.aG,.int .i64 x.type,.string (aq x.data),Ij] 119));have eJ:au w W:=by rw[hW];exact(aO.alloc aA _).alloc ar _
 have mI:W.heap[w.heap.size]? = some (.cells #[vr,.int .i64 r.aG,.int .i64 r.type,.string (aq r.data),PC] 119):=by{rw [hW]; exact (cD _ _ _ ar).trans (World.alloc_heap_new w _)};have lq:W.heap[w.heap.size+1]? = some (.cells #[vx,.int .i64 x.aG,.int .i64 x.type,.string (aq x.data),Ij] 119):=by{rw [hW];have:=World.alloc_heap_new (w.alloc (.cells #[vr,.int .i64 r.aG,.int .i64 r.type,.string (aq r.data),PC] 119)) (.cells #[vx,.int .i64 x.aG,.int .i64 x.type,.string (aq x.data),Ij] 119);rwa [dD] at this};obtain ⟨gr,fr,nr,kr,rfl,azE,er⟩:=acw PD;obtain ⟨gx,fx,nx,kx,rfl,azF,ex⟩:=acw Lg;have hlt2:w.heap.size+1<W.heap.size:=(bV.1 lq).1
 have CELLS:Hid (∀V,au W V->(V.cell? (ak w.heap.size 0)=some (aD gr fr (nr+1) kr)/\V.cell? (ak w.heap.size 1)=some (aj r.aG)/\V.cell? (ak w.heap.size 2)=some (aj r.type)/\V.cell? (ak w.heap.size 3)=some (ay r.data))/\(V.cell? (ak (w.heap.size+1) 0)=some (aD gx fx (nx+1) kx)/\V.cell? (ak (w.heap.size+1) 1)=some (aj x.aG)/\V.cell? (ak (w.heap.size+1) 2)=some (aj x.type)/\V.cell? (ak (w.heap.size+1) 3)=some (ay x.data)/\V.cell? (ak (w.heap.size+1) 4)=some Ij)/\V.cell? (ak gr fr)=some (ay (mj r.owner))/\V.cell? (ak gx fx)=some (ay (mj x.owner))):=fun V hb=>by{have k1:=(hb.block w.heap.size ae).trans mI;have k2:=(hb.block (w.heap.size+1) hlt2).trans lq;have hB:=eJ.trans (hb.mono eJ.size);refine⟨⟨?_,?_,?_,?_⟩,⟨?_,?_,?_,?_,?_⟩,(hB.cell (iz _ _ er)).trans er,(hB.cell (iz _ _ ex)).trans ex⟩;all_goals first|(unfold World.cell?; rw[k1];rfl)|(unfold World.cell?; rw[k2];rfl)};have Lh:=ag (anW zb o rs x (aD gx fx (nx+1) kx) Ij W (hz.below eJ) ho (Lg.below eJ) hx);have PE:=ag (fun V (hb:au W V)=>yc (aD gr fr (nr+1) kr) (aD gx fx (nx+1) kx) _ _ V ((PD.below eJ).below hb) ((Lg.below eJ).below hb) (p8 hr) (p8 hx));have PG:=ag (fun V (hb:au W V)=>OY (aD gr fr (nr+1) kr) (aD gx fx (nx+1) kx) _ _ V ((PD.below eJ).below hb) ((Lg.below eJ).below hb) (p8 hr) (p8 hx) (Di x.owner));have aX:=ag eJ;have UW:Hid (yt o r x=UU (Bl o x) (mj x.owner == [42]) (decide (az 46 r.owner=az 46 x.owner)) (r.type == x.type && (r.data == x.data || (r.aG:Int) != (x.aG:Int))) (x.type != 5) (r.type == 2) (lR (az 46 r.owner) (az 46 x.owner)) (r.type == 1) (!(mj r.owner == [42]))):=rfl;have sx:=Ut (mj x.owner);have sr:=Ut (mj r.owner);have sd:=an0 r.data x.data;clear mI lq er ex hz PD Lg eJ;generalize decide (az 46 r.owner=az 46 x.owner)=bN at *;generalize lR (az 46 r.owner) (az 46 x.owner)=Dj at *;generalize Bl o x=cut at *;generalize (mj x.owner == [42])=stx at *;generalize (mj r.owner == [42])=UX at *;generalize mj x.owner=lx at *;generalize mj r.owner=lr at *;unfold FI at *;go_enter func120,ntmps120;go_wp2_with fail;rw[<- hW];refine Lh.mono ?_;rintro e w2 ⟨rfl,hb2⟩;have n_:=ag (CELLS w2 hb2);have bU:=ag hb2;obtain⟨⟨p0,p1,fh,eK⟩,⟨q0,q1,q2,q3,q4⟩,l0,l1⟩:=af n_;clear hb2 hW Lh;cases cut <;> cases stx;case true.true =>(go_wp2;go_ret;exact⟨cA (by rw[af UW];rfl),aX.trans (bU.mono aX.size)⟩)
 all_goals(go_wp2_with fail;refine(PE w2 bU).mono ?_;rintro e w3 ⟨rfl,hb3⟩;have PH:=bU.trans (hb3.mono bU.size);have cK:=ag PH;have FK:=ag (aX.trans (PH.mono aX.size));obtain⟨⟨p0,p1,fh,eK⟩,⟨q0,q1,q2,q3,q4⟩,l0,l1⟩:=af CELLS w3 PH;clear hb3 PH;cases bN;{go_wp2_with fail;refine(PG w3 cK).mono ?_;rintro e w4 ⟨rfl,hb4⟩;have xV:=cK.trans (hb4.mono cK.size);have jb:=ag (aX.trans (xV.mono aX.size));obtain⟨⟨p0,p1,fh,eK⟩,⟨q0,q1,q2,q3,q4⟩,l0,l1⟩:=af CELLS w4 xV;clear hb4 xV;cases Dj <;> cases h1:(r.type == 1) <;> cases UX;all_goals(have H1:=ag h1;go_wp2;go_ret;exact⟨cA (by rw[af UW,af H1];rfl),jb⟩)};{cases h1:(r.type == x.type) <;> cases h2:(r.data == x.data) <;> cases h3:((r.aG:Int) != (x.aG:Int)) <;> cases h4:(x.type != 5) <;> cases h5:(r.type == 2);all_goals(rw[h2]at sd;have H1:=ag h1;have Bb:=ag h2;have HX:=ag h3;have wO:=ag h4;have an1:=ag h5;go_wp2;go_ret;exact⟨cA (by rw[af UW,af H1,af Bb,af HX,af wO,af an1];rfl),FK⟩)})
def Bo(o:ah)(rs:List ai)(i:Nat):Prop:=∀h:i<rs.length,lR (az 46 rs[i].owner) (az 46 o)=true/\¬(0<i/\rs[i].type=6)/\∀k (hk:k<rs.length),k≠i->yt o rs[i] rs[k]=true
def zP(o:ah)(rs:List ai):Prop:=(∃h:0<rs.length,rs[0].type=6/\az 46 rs[0].owner=az 46 o)/\iG rs (az 46 o) 2=true/\∀i,Bo o rs i
def PI(o:ah)(rs:List ai)(e:Ending):Prop:=∃b,e=.returned (.bool b)/\(b=true ↔ zP o rs)
theorem PJ{o:ah}{rs:List ai}(h:¬zP o rs):PI o rs (.returned (.bool false)):=⟨false,rfl,by simp[h]⟩
theorem an2{o:ah}{rs:List ai}(h:zP o rs):PI o rs (.returned (.bool true)):=⟨true,rfl,by simp[h]⟩
structure acy(w:World)(b o:Nat)(vo dS:Value)(r:ai):Prop where
 c0:w.cell? (ak b o)=some vo
 c1:w.cell? (ak b (o+1))=some (aj r.aG)
 c2:w.cell? (ak b (o+2))=some (aj r.type)
 c3:w.cell? (ak b (o+3))=some (ay r.data)
 c4:w.cell? (ak b (o+4))=some dS
theorem acz{W W':World}{a0 a1 a2 a3 a4 a5 a6 a7 a8 a9 a10:Addr}{v0 v1 v2 v3 v4 v5 v6 v7 v8 v9 v10:Value}(hb:au W W')(h:W.cell? a0=some v0/\W.cell? a1=some v1/\W.cell? a2=some v2/\W.cell? a3=some v3/\W.cell? a4=some v4/\W.cell? a5=some v5/\W.cell? a6=some v6/\W.cell? a7=some v7/\W.cell? a8=some v8/\W.cell? a9=some v9/\W.cell? a10=some v10) :
  W'.cell? a0=some v0/\W'.cell? a1=some v1/\W'.cell? a2=some v2/\W'.cell? a3=some v3/\W'.cell? a4=some v4/\W'.cell? a5=some v5/\W'.cell? a6=some v6/\W'.cell? a7=some v7/\W'.cell? a8=some v8/\W'.cell? a9=some v9/\W'.cell? a10=some v10:=by have kp:∀(a:Addr) (v:Value),W.cell? a=some v->W'.cell? a=some v:=fun a v h=>(hb.cell (iz W a h)).trans h;obtain⟨e0,e1,e2,e3,e4,e5,e6,e7,e8,e9,e10⟩:=h;exact⟨kp _ _ e0,kp _ _ e1,kp _ _ e2,kp _ _ e3,kp _ _ e4,kp _ _ e5,kp _ _ e6,kp _ _ e7,kp _ _ e8,kp _ _ e9,kp _ _ e10⟩
theorem an3(zb:Nat)(o:ah)(rs:List ai)(w:World)(hz:mM w zb o rs)(hf:Bk o rs)(h0:0<rs.length) :
  aB 65 #[aM zb] w fun e w'=>PI o rs e/\au w w':=by
 have dv:=ag hz;obtain⟨vo,b,off,cap,z0,z1,z2,z3⟩:=hz;have hzl:zb<w.heap.size:=(bV.1 z0).1;have aW:=ag hf;have gX:=hf.1;have hrl:=hf.2.1;have Ik:Hid (∀V,au w V->V.cell? (ak zb 0)=some vo/\V.cell? (ak zb 1)=some (aD b off rs.length cap)):=fun V hb=>by
  have:=(hb.block zb hzl).trans z0;constructor <;> (unfold World.cell?; rw[this];rfl)
 have RC:Hid (∀V,au w V->∀k (hk:k<rs.length),∃ro ml,acy V b (off+k*5) ro ml rs[k]/\en V ro (az 46 rs[k].owner)/\(∃a n c,ro=.slice a n c)/\∃a n c,ml=.slice a n c):=fun V hb k hk=>by
  obtain⟨ro,ml,q0,q1,q2,q3,q4,q5,q6⟩:=(z3 k hk).below hb;refine⟨ro,ml,⟨q0,q1,q2,q3,q4⟩,q5,?_,?_⟩
  ·obtain⟨g,o',c,h,_⟩:=q5;exact⟨_,_,_,h⟩
  ·obtain⟨g,o',c,h,_⟩:=q6;exact⟨_,_,_,h⟩
 have HO:Hid (∀V,au w V->en V vo (az 46 o)):=fun V hb=>z1.below hb;have hl0:=hf.2.2 rs[0] (cM h0);have azG:((rs.length:Int) == 0)=false:=by rw[d_];omega
 have an4:(0:Int)<(rs.length:Int):=ae;obtain⟨PK,azH,q,hq,_,_⟩:=af RC w aO 0 h0;rw[rK,gK]at q;have q0:=q.c0;have q2:=q.c2;obtain⟨y0,y1⟩:=af Ik w aO;have dn:=ag hq;clear z0 z1 z3 hf q hq;by_cases t6:rs[0].type=6
 ·have UY:(rs[0].type != 6)=false:=by rw[bne_eq_false_iff_eq];exact t6
  have UZ:=ag t6;have PE:=ag (fun V (hb:au w V)=>yc PK vo (az 46 rs[0].owner) (az 46 o) V (dn.below hb) (HO V hb) (p8 hl0) (p8 gX));have acA:=ag (fun V (hb:au w V)=>PA zb o rs vo (az 46 o) 2 V (dv.below hb) (af aW) (HO V hb) (p8 gX));obtain⟨ty,dJ⟩:=bF (rs[0].type);rw[<- dJ]at q2 UY;clear t6 dJ;go_enter func65,ntmps65;go_upto_region 3 with fail;have hS:w.drew.cell? (ak zb 0)=some vo/\w.drew.cell? (ak zb 1)=some (aD b off rs.length cap)/\w.drew.cell? (ak b off)=some PK:=⟨y0,y1,q0⟩
  go_region_held (fun w'=>w'.cell? (ak zb 0)=some vo/\w'.cell? (ak zb 1)=some (aD b off rs.length cap)/\w'.cell? (ak b off)=some PK) (first|assumption|go_keep)
   (first|(go_at_call 117;go_loud (refine(PE _ aO.drew).mono ?_;rintro e w2 ⟨rfl,hb2⟩;have lz:w2.cell? (ak zb 0)=some vo/\w2.cell? (ak zb 1)=some (aD b off rs.length cap)/\w2.cell? (ak b off)=some PK:=⟨(hb2.cell (p:=⟨zb,0,none⟩) hzl).trans y0,(hb2.cell (p:=⟨zb,1,none⟩) hzl).trans y1,(hb2.cell (p:=⟨b,off,none⟩) (iz _ _ q0)).trans q0⟩)))
  have hB2:au w w2:=(bR w.heap.size w).drew.trans hb2;obtain⟨y0,y1⟩:=af Ik w2 hB2;have bU:=ag hB2;have acB:=ag (acA w2 hB2);clear hb2 hB2 lz hS;have Dk:Hid (zP o rs->decide (az 46 rs[0].owner=az 46 o)=true/\iG rs (az 46 o) 2=true):=fun h=>⟨iy (by obtain⟨_,h1⟩:=h.1;exact h1.2),h.2.1⟩
  have an5:Hid (decide (az 46 rs[0].owner=az 46 o)=true->iG rs (az 46 o) 2=true->(∀i,Bo o rs i)->zP o rs):=fun h1 h2 h3=>⟨⟨h0,UZ,Ka h1⟩,h2,h3⟩
  generalize decide (az 46 rs[0].owner=az 46 o)=bN at *;generalize iG rs (az 46 o) 2=has at *;go_wp2_with fail;refine acB.mono ?_;rintro e w3 ⟨rfl,hb3⟩;have cK:=ag (bU.trans (hb3.mono bU.size));clear hb3 acB acA PE;cases bN
  ·go_wp2;go_ret;exact⟨PJ (fun h=>by have:=(Dk h).1;cases this),cK⟩
  cases has
  ·go_wp2;go_ret;exact⟨PJ (fun h=>by have:=(Dk h).2;cases this),cK⟩
  go_wp2_with fail
  go_loopg [5] rs.length (fun g1 vi wr=>∃(i:Nat),vi=aj i/\i+g1=rs.length/\(∀j,j<i->Bo o rs j)/\Hid (au w wr))
  case atStart=>exact⟨0,rfl,ae,fun j hj=>ae,cK⟩
  case round =>
   obtain⟨i,rfl,azI,bq,hbr⟩:=hrel;have cF:=ag bq;obtain⟨y0,y1⟩:=af Ik wr (af hbr);clear bq dn q0 q2 bU cK;by_cases hlt:i<rs.length
   ·have gy:(i:Int)<(rs.length:Int):=ae;obtain⟨ro,ml,q,hq,⟨oa,on,oc,rfl⟩,⟨wa,wn,wc,rfl⟩⟩:=af RC wr (af hbr) i hlt;have hrl:=aW.2.2 rs[i] (cM hlt);obtain⟨r,hr⟩:=bF (rs[i]);rw[<- hr]at q hq hrl;obtain⟨c0,aC,c2,c3,aV⟩:=q;obtain⟨W,hW⟩:=bF (wr.alloc (.cells #[(.slice oa on oc),.int .i64 r.aG,.int .i64 r.type,.string (aq r.data),(.slice wa wn wc)] 119));have eJ:au wr W:=by rw[hW];exact aO.alloc aA _
    have hnew:W.heap[wr.heap.size]? = some (.cells #[(.slice oa on oc),.int .i64 r.aG,.int .i64 r.type,.string (aq r.data),(.slice wa wn wc)] 119):=by rw[hW];exact World.alloc_heap_new wr _
    have acC:wr.heap.size<W.heap.size:=(bV.1 hnew).1;have nA:au w W:=hbr.trans (eJ.mono hbr.size);have R5:Hid (∀V,au W V->acy V wr.heap.size 0 (.slice oa on oc) (.slice wa wn wc) r):=fun V hb=>by
     have:=(hb.block wr.heap.size acC).trans hnew;constructor <;> (unfold World.cell?; rw[this];rfl)
    have qR:=ag nA;have lA:Hid (∀V,au W V->en V (.slice oa on oc) (az 46 r.owner)):=fun V hb=>(hq.below eJ).below hb;have PG:=ag (fun V (hb:au W V)=>OY (.slice oa on oc) vo (az 46 r.owner) (az 46 o) V (lA V hb) (HO V (nA.trans (hb.mono nA.size))) (p8 hrl) (p8 gX) (Di o));have FL:Hid (Bo o rs i->lR (az 46 r.owner) (az 46 o)=true/\¬(0<i/\r.type=6)/\∀k (hk:k<rs.length),k≠i->yt o r rs[k]=true):=fun h=>by rw[hr];exact h hlt
    have acD:Hid ((lR (az 46 r.owner) (az 46 o)=true/\¬(0<i/\r.type=6)/\∀k (hk:k<rs.length),k≠i->yt o r rs[k]=true)->Bo o rs i):=fun h _=>by rw[<- hr];exact h
    have PL:Hid (¬Bo o rs i->PI o rs (.returned (.bool false))):=fun h=>PJ (fun hR=>h (hR.2.2 i));clear hnew eJ hq hr nA;go_upto_region 11 with fail;rw[<- hW];clear hW c0 aC c2 c3 aV;have r5:=af R5 W aO;have c0:=r5.c0;obtain⟨y0,y1⟩:=af Ik W (af qR);have hS:W.drew.cell? (ak wr.heap.size 0)=some (.slice oa on oc)/\W.drew.cell? (ak zb 0)=some vo:=⟨c0,y0⟩
    have zu:zb<W.heap.size:=iz _ _ y0
    go_region_held (fun w'=>w'.cell? (ak wr.heap.size 0)=some (.slice oa on oc)/\w'.cell? (ak zb 0)=some vo) (first|assumption|go_keep)
     (first|(go_at_call 119;go_loud (refine(PG _ aO.drew).mono ?_;rintro e w4 ⟨rfl,hb4⟩;have lz:w4.cell? (ak wr.heap.size 0)=some (.slice oa on oc)/\w4.cell? (ak zb 0)=some vo:=⟨(hb4.cell (p:=⟨wr.heap.size,0,none⟩) acC).trans c0,(hb4.cell (p:=⟨zb,0,none⟩) zu).trans y0⟩)))
    have gH:au W w4:=(bR W.heap.size W).drew.trans hb4;have jb:=ag gH;have acE:=ag (qR.trans (gH.mono qR.size));have k2:=(R5 w4 gH).c2;rw[eY]at k2;clear hb4 hS lz gH r5 c0 y0 y1 PG;generalize lR (az 46 r.owner) (az 46 o)=Dj at *;generalize wr.heap.size=rb at *;cases Dj
    ·go_wp2;go_ret;exact⟨af PL (fun h=>by have:=(FL h).1;cases this),acE⟩
    by_cases lQ:0<i
    case' neg=>have an6:¬(0:Int)<(i:Int):=ae
    case' pos=>have an6:(0:Int)<(i:Int):=ae
    case pos =>
     by_cases ht:r.type=6
     ·have Ph:(r.type == 6)=true:=by rw[fe];exact ht
      have cS:=ag ht;clear ht;go_wp2;go_ret;exact⟨af PL (fun h=>(FL h).2.1 ⟨lQ,cS⟩),acE⟩
     ·have Ph:(r.type == 6)=false:=by rw[d_];exact ht
      have U0:Hid (¬(0<i/\r.type=6)):=fun h=>ht h.2;clear ht;go_wp2_with fail
      go_loopg [8] rs.length (fun g2 oK wk=>∃(k:Nat),oK=aj k/\k+g2=rs.length/\(∀j (hj:j<rs.length),j<k->j≠i->yt o r rs[j]=true)/\Hid (au W wk))
      case atStart=>exact⟨0,rfl,ae,fun j _ hj=>ae,jb⟩
      case round =>
       obtain⟨k,rfl,an7,Li,uX⟩:=hrel;have aL:=ag Li;have su:au w wr:=qR.trans (uX.mono qR.size);have FM:=ag su;obtain⟨y0,y1⟩:=af Ik wr su;clear Li;by_cases hlk:k<rs.length
       ·have PM:(k:Int)<(rs.length:Int):=ae;by_cases Bp:k=i
        ·have U1:((k:Int) == (i:Int))=true:=by rw[fe];omega
         have FN:=ag Bp;clear Bp su;go_wp2_with fail;go_quiet (fail);go_wp2_with fail
         go_roundg (rs.length - (k+1))
         case measure=>omega
         case rel=>exact⟨k+1,by first|rfl|go_num,ae,fun j hj hjk oN=>af aL j hj (by have:=af FN;omega) oN,pj (af uX) nq⟩
        ·have U1:((k:Int) == (i:Int))=false:=by rw[d_];omega
         obtain⟨xo,xv,q,hq,⟨xa,im,xc,rfl⟩,⟨ya,yn,p9,rfl⟩⟩:=af RC wr su k hlk;have g_:=aW.2.2 rs[k] (cM hlk);obtain⟨x,hx⟩:=bF (rs[k]);rw[<- hx]at q hq g_;obtain⟨gu,d1,d2,d3,d4⟩:=q;obtain⟨e0,e1,e2,e3,e4⟩:=af R5 wr (af uX);rw[eY]at e1 e2 e3 e4;have FO:=acx zb o rs r x (.slice oa on oc) (.slice wa wn wc) (.slice xa im xc) (.slice ya yn p9) wr.drew (dv.below su.drew) gX ((lA wr uX).below aO.drew) hrl (hq.below aO.drew) g_;unfold FI at FO;have PN:=ag FO;have zG:=ag hx;have FN:=ag Bp;have hS:wr.drew.cell? (ak rb 0)=some (.slice oa on oc)/\wr.drew.cell? (ak rb 1)=some (aj r.aG)/\wr.drew.cell? (ak rb 2)=some (aj r.type)/\wr.drew.cell? (ak rb 3)=some (ay r.data)/\wr.drew.cell? (ak rb 4)=some (.slice wa wn wc)/\wr.drew.cell? (ak zb 1)=some (aD b off rs.length cap)/\wr.drew.cell? (ak b (off+k*5))=some (.slice xa im xc)/\wr.drew.cell? (ak b (off+k*5+1))=some (aj x.aG)/\wr.drew.cell? (ak b (off+k*5+2))=some (aj x.type)/\wr.drew.cell? (ak b (off+k*5+3))=some (ay x.data)/\wr.drew.cell? (ak b (off+k*5+4))=some (.slice ya yn p9):=⟨e0,e1,e2,e3,e4,y1,gu,d1,d2,d3,d4⟩
         clear Bp FO hq hx su;go_wp2_with fail
         go_region_held (fun w'=>w'.cell? (ak rb 0)=some (.slice oa on oc)/\w'.cell? (ak rb 1)=some (aj r.aG)/\w'.cell? (ak rb 2)=some (aj r.type)/\w'.cell? (ak rb 3)=some (ay r.data)/\w'.cell? (ak rb 4)=some (.slice wa wn wc)/\w'.cell? (ak zb 1)=some (aD b off rs.length cap)/\w'.cell? (ak b (off+k*5))=some (.slice xa im xc)/\w'.cell? (ak b (off+k*5+1))=some (aj x.aG)/\w'.cell? (ak b (off+k*5+2))=some (aj x.type)/\w'.cell? (ak b (off+k*5+3))=some (ay x.data)/\w'.cell? (ak b (off+k*5+4))=some (.slice ya yn p9)) (first|assumption|go_keep)
          (first|(go_at_call 120;go_loud (refine PN.mono ?_;rintro e w5 ⟨rfl,hb5⟩;have lz:w5.cell? (ak rb 0)=some (.slice oa on oc)/\w5.cell? (ak rb 1)=some (aj r.aG)/\w5.cell? (ak rb 2)=some (aj r.type)/\w5.cell? (ak rb 3)=some (ay r.data)/\w5.cell? (ak rb 4)=some (.slice wa wn wc)/\w5.cell? (ak zb 1)=some (aD b off rs.length cap)/\w5.cell? (ak b (off+k*5))=some (.slice xa im xc)/\w5.cell? (ak b (off+k*5+1))=some (aj x.aG)/\w5.cell? (ak b (off+k*5+2))=some (aj x.type)/\w5.cell? (ak b (off+k*5+3))=some (ay x.data)/\w5.cell? (ak b (off+k*5+4))=some (.slice ya yn p9):=acz hb5 hS)))
         have ni:au wr w5:=(bR wr.heap.size wr).drew.trans hb5;have fR:=ag (uX.trans (ni.mono uX.size));have hP:=ag (FM.trans (ni.mono FM.size));clear hb5 lz hS ni;cases Bq:yt o r x
         ·have FP:=ag Bq;clear Bq;go_wp2;go_ret;exact⟨af PL (fun h=>by
           have h1:=(FL h).2.2 k hlk (af FN);rw[<- af zG,af FP]at h1;cases h1),af hP⟩
         ·have FP:=ag Bq;clear Bq;go_wp2_with fail
          go_roundg (rs.length - (k+1))
          case measure=>omega
          case rel=>exact⟨k+1,by first|rfl|go_num,ae,fun j hj hjk oN=>by
           by_cases U2:j=k
           ·subst U2;rw[<- af zG];exact FP
           ·exact aL j hj ae oN,af fR⟩
       ·have PM:¬(k:Int)<(rs.length:Int):=ae;have U3:Hid (Bo o rs i):=af acD ⟨aQ,U0,fun j hj oN=>af aL j hj ae oN⟩;clear su;go_wp2_with fail
        go_roundg (rs.length - (i+1))
        case measure=>omega
        case rel=>exact⟨i+1,by first|rfl|go_num,ae,fun j hj=>by
         by_cases oN:j=i
         ·subst oN;exact U3
         ·exact cF j ae,af FM⟩
    case neg =>
     have U0:Hid (¬(0<i/\r.type=6)):=fun h=>lQ h.1;go_wp2_with fail
     go_loopg [8] rs.length (fun g2 oK wk=>∃(k:Nat),oK=aj k/\k+g2=rs.length/\(∀j (hj:j<rs.length),j<k->j≠i->yt o r rs[j]=true)/\Hid (au W wk))
     case atStart=>exact⟨0,rfl,ae,fun j _ hj=>ae,jb⟩
     case round =>
      obtain⟨k,rfl,an7,Li,uX⟩:=hrel;have aL:=ag Li;have su:au w wr:=qR.trans (uX.mono qR.size);have FM:=ag su;obtain⟨y0,y1⟩:=af Ik wr su;clear Li;by_cases hlk:k<rs.length
      ·have PM:(k:Int)<(rs.length:Int):=ae;by_cases Bp:k=i
       ·have U1:((k:Int) == (i:Int))=true:=by rw[fe];omega
        have FN:=ag Bp;clear Bp su;go_wp2_with fail;go_quiet (fail);go_wp2_with fail
        go_roundg (rs.length - (k+1))
        case measure=>omega
        case rel=>exact⟨k+1,by first|rfl|go_num,ae,fun j hj hjk oN=>af aL j hj (by have:=af FN;omega) oN,pj (af uX) nq⟩
       ·have U1:((k:Int) == (i:Int))=false:=by rw[d_];omega
        obtain⟨xo,xv,q,hq,⟨xa,im,xc,rfl⟩,⟨ya,yn,p9,rfl⟩⟩:=af RC wr su k hlk;have g_:=aW.2.2 rs[k] (cM hlk);obtain⟨x,hx⟩:=bF (rs[k]);rw[<- hx]at q hq g_;obtain⟨gu,d1,d2,d3,d4⟩:=q;obtain⟨e0,e1,e2,e3,e4⟩:=af R5 wr (af uX);rw[eY]at e1 e2 e3 e4;have FO:=acx zb o rs r x (.slice oa on oc) (.slice wa wn wc) (.slice xa im xc) (.slice ya yn p9) wr.drew (dv.below su.drew) gX ((lA wr uX).below aO.drew) hrl (hq.below aO.drew) g_;unfold FI at FO;have PN:=ag FO;have zG:=ag hx;have FN:=ag Bp;have hS:wr.drew.cell? (ak rb 0)=some (.slice oa on oc)/\wr.drew.cell? (ak rb 1)=some (aj r.aG)/\wr.drew.cell? (ak rb 2)=some (aj r.type)/\wr.drew.cell? (ak rb 3)=some (ay r.data)/\wr.drew.cell? (ak rb 4)=some (.slice wa wn wc)/\wr.drew.cell? (ak zb 1)=some (aD b off rs.length cap)/\wr.drew.cell? (ak b (off+k*5))=some (.slice xa im xc)/\wr.drew.cell? (ak b (off+k*5+1))=some (aj x.aG)/\wr.drew.cell? (ak b (off+k*5+2))=some (aj x.type)/\wr.drew.cell? (ak b (off+k*5+3))=some (ay x.data)/\wr.drew.cell? (ak b (off+k*5+4))=some (.slice ya yn p9):=⟨e0,e1,e2,e3,e4,y1,gu,d1,d2,d3,d4⟩
        clear Bp FO hq hx su;go_wp2_with fail
        go_region_held (fun w'=>w'.cell? (ak rb 0)=some (.slice oa on oc)/\w'.cell? (ak rb 1)=some (aj r.aG)/\w'.cell? (ak rb 2)=some (aj r.type)/\w'.cell? (ak rb 3)=some (ay r.data)/\w'.cell? (ak rb 4)=some (.slice wa wn wc)/\w'.cell? (ak zb 1)=some (aD b off rs.length cap)/\w'.cell? (ak b (off+k*5))=some (.slice xa im xc)/\w'.cell? (ak b (off+k*5+1))=some (aj x.aG)/\w'.cell? (ak b (off+k*5+2))=some (aj x.type)/\w'.cell? (ak b (off+k*5+3))=some (ay x.data)/\w'.cell? (ak b (off+k*5+4))=some (.slice ya yn p9)) (first|assumption|go_keep)
         (first|(go_at_call 120;go_loud (refine PN.mono ?_;rintro e w5 ⟨rfl,hb5⟩;have lz:w5.cell? (ak rb 0)=some (.slice oa on oc)/\w5.cell? (ak rb 1)=some (aj r.aG)/\w5.cell? (ak rb 2)=some (aj r.type)/\w5.cell? (ak rb 3)=some (ay r.data)/\w5.cell? (ak rb 4)=some (.slice wa wn wc)/\w5.cell? (ak zb 1)=some (aD b off rs.length cap)/\w5.cell? (ak b (off+k*5))=some (.slice xa im xc)/\w5.cell? (ak b (off+k*5+1))=some (aj x.aG)/\w5.cell? (ak b (off+k*5+2))=some (aj x.type)/\w5.cell? (ak b (off+k*5+3))=some (ay x.data)/\w5.cell? (ak b (off+k*5+4))=some (.slice ya yn p9):=acz hb5 hS)))
        have ni:au wr w5:=(bR wr.heap.size wr).drew.trans hb5;have fR:=ag (uX.trans (ni.mono uX.size));have hP:=ag (FM.trans (ni.mono FM.size));clear hb5 lz hS ni;cases Bq:yt o r x
        ·have FP:=ag Bq;clear Bq;go_wp2;go_ret;exact⟨af PL (fun h=>by
          have h1:=(FL h).2.2 k hlk (af FN);rw[<- af zG,af FP]at h1;cases h1),af hP⟩
        ·have FP:=ag Bq;clear Bq;go_wp2_with fail
         go_roundg (rs.length - (k+1))
         case measure=>omega
         case rel=>exact⟨k+1,by first|rfl|go_num,ae,fun j hj hjk oN=>by
          by_cases U2:j=k
          ·subst U2;rw[<- af zG];exact FP
          ·exact aL j hj ae oN,af fR⟩
      ·have PM:¬(k:Int)<(rs.length:Int):=ae;have U3:Hid (Bo o rs i):=af acD ⟨aQ,U0,fun j hj oN=>af aL j hj ae oN⟩;clear su;go_wp2_with fail
       go_roundg (rs.length - (i+1))
       case measure=>omega
       case rel=>exact⟨i+1,by first|rfl|go_num,ae,fun j hj=>by
        by_cases oN:j=i
        ·subst oN;exact U3
        ·exact cF j ae,af FM⟩
   ·have gy:¬(i:Int)<(rs.length:Int):=ae;have HM:Hid (zP o rs):=af an5 aQ aQ (fun j hj=>af cF j ae hj);go_wp2;go_ret;exact⟨an2 (af HM),hbr⟩
 ·have UY:(rs[0].type != 6)=true:=by rw[qJ];exact t6
  have UZ:=ag t6;obtain⟨ty,dJ⟩:=bF (rs[0].type);rw[<- dJ]at q2 UY;clear t6 dJ;go_enter func65,ntmps65;go_wp2;go_ret;refine⟨PJ ?_,bR _ _⟩;rintro⟨⟨_,h,_⟩,_⟩;have:=af UZ;rw[h]at this
  revert this;decide
theorem acF{n:ah}(hv:iC n=true):rO n=true ↔ mj n = [42]:=by
 unfold mj;have hne:=pP 46 n;cases hs:az 46 n with
 | nil=>exact absurd hs hne
 | cons a t =>{
 unfold iC at hv;rw[cY,hs,tu,cY]at hv;have ha:=hv.2.1;unfold zi at ha;rw[xK]at ha;show rO n=true ↔ a = [42];unfold rO Lib.hasPrefix;rcases ha with hl|hst;{
 have ha:a≠[]:=by rintro rfl;simp[jx]at hl
 have hh:=O1 hs ha;cases a with
 | nil=>exact absurd rfl ha
 | cons x r =>{
 unfold jx at hl;simp only[cY,Ct]at hl;have hx:rM x=true:=hl.2.1;have acG:x≠42:=by rintro rfl;revert hx;decide
 constructor;{
 intro hp;cases n with
 | nil=>cases hp
 | cons y q =>{simp at hh;subst hh;simp[List.isPrefixOf]at hp;exact absurd hp.symm acG}};{intro e;exact absurd (Hq e).1 acG}}};{
 have ea:a = [42]:=by simpa using hst
 have hh:=O1 hs (by rw[ea];simp);rw[ea]at hh;refine⟨fun _=>ea,fun _=>?_⟩;cases n with
 | nil=>simp at hh
 | cons y q=>simp at hh;subst hh;simp[List.isPrefixOf]}}
theorem an8(o:ah)(x:ai):Bl o x=true ↔ x.type=2/\x.owner≠o:=by unfold Bl;rw[cY,fe,y9,Hx];exact and_congr JU (not_congr ⟨fun h=>H9 h,fun h=>by rw[h]⟩)
def FQ(o:ah)(r x:ai):Prop :=
 (x.type=2/\x.owner≠o->mj x.owner≠[42]) /\
 (r.owner=x.owner->¬(r.type=x.type/\(r.data=x.data\/r.aG≠x.aG))/\x.type≠5/\(x.type=2/\x.owner≠o->r.type=2)) /\
 (r.owner≠x.owner->x.type=2/\x.owner≠o->dy r.owner x.owner=true->r.type=1/\mj r.owner≠[42])
theorem acH(o:ah)(r x:ai):yt o r x=true ↔ FQ o r x:=by unfold yt FQ UU;rw[KU];have p_:(az 46 r.owner=az 46 x.owner) ↔ r.owner=x.owner:=⟨fun h=>H9 h,fun h=>by rw[h]⟩;have hc:=an8 o x;rw[<- hc];have ax:((r.aG:Int)=(x.aG:Int)) ↔ r.aG=x.aG:=Int.ofNat_inj;by_cases h1:r.owner=x.owner;{rw[iy (p_.2 h1)];cases Bl o x <;> by_cases h2:mj x.owner = [42] <;> by_cases h3:r.type=x.type <;> by_cases h4:r.data=x.data <;> by_cases h5:r.aG=x.aG <;> by_cases h6:x.type=5 <;> by_cases h7:r.type=2 <;> (try simp[h1,h2,h3,h4,h5,h6,h7,ax]) <;> first|done|omega|(intros;omega)|simp_all};{rw[iB (fun h=>h1 (p_.1 h))];cases Bl o x <;> cases dy r.owner x.owner <;> by_cases h2:mj x.owner = [42] <;> by_cases h3:r.type=1 <;> by_cases h4:mj r.owner = [42] <;> simp[h1,h2,h3,h4]}
theorem U4(t0:Nat):∀(l pre:List ai),uC t0 pre l=true ↔ (∀r∈l,r.aG=t0)/\l.Pairwise (·≠·)/\∀r∈l,r ∉ pre
 | [],pre=>by simp[uC]
 | r :: l,pre=>by
  rw[uC,cY,cY,fe,U4 t0 l (pre++[r]),xL];have hn:(!pre.any (r == ·))=true ↔ r ∉ pre:=by{
  rw[y9,<- qI,oA];refine not_congr ⟨?_,fun h=>⟨r,h,ar⟩⟩;rintro⟨x,hx,he⟩;have:r=x:=by simpa using he
  rw[this];exact hx};rw[hn];constructor;{rintro⟨⟨h1,h2⟩,h3,h4,h5⟩;refine⟨fun y hy=>?_,⟨fun y hy e=>?_,h4⟩,fun y hy=>?_⟩;{rcases ei.1 hy with rfl|hy;{exact h1};{exact h3 y hy}};{exact h5 y hy (by rw[<- e];simp)};{rcases ei.1 hy with rfl|hy;{exact h2};{exact fun hc=>h5 y hy (NP _ hc)}}};{
  rintro⟨h1,⟨h2,h3⟩,h4⟩;refine⟨⟨h1 r ar,h4 r ar⟩,fun y hy=>h1 y (by simp[hy]),h3,fun y hy hc=>?_⟩;rcases gm.1 hc with hc|hc;{exact h4 y (by simp[hy]) hc};{
  have:y=r:=by simpa using hc
  exact h2 y hy this.symm}}
theorem acI(o:ah)(l:List ai):(∀i (ax:i<l.length) k (hk:k<l.length),k≠i->FQ o l[i] l[k]) ↔ l.Nodup/\∀a∈l,∀b∈l,a≠b->FQ o a b:=by constructor;{intro h;refine⟨?_,fun a ha b hb hne=>?_⟩;{rw[List.Nodup,NT];intro i j ax hj Bi e;have hb:=h i ax j hj ae;rw[<- e]at hb;exact(hb.2.1 rfl).1 ⟨rfl,.inl rfl⟩};{obtain⟨i,ax,rfl⟩:=NQ.1 ha;obtain⟨k,hk,rfl⟩:=NQ.1 hb;exact h i ax k hk (by rintro rfl;exact hne rfl)}};{rintro⟨hn,h⟩ i ax k hk hne;refine h _ (cM ax) _ (cM hk) fun e=>?_;rw[List.Nodup,NT]at hn;rcases SX i k with hl|hl;{exact hn i k ax hk hl e};{exact hn k i hk ax ae e.symm}}
theorem an9{F:List ai}(hF:fN bm F):0<(gi F 2).length ↔ ∃x∈F,x.type=2:=by
 unfold gi;cases hf:(bz bu F).find? (fun x=>l_ x == 2)with
 | some x =>{
 have hm:=J6 hf;have ht:=SI hf;obtain⟨r,hr,hh,e⟩:=(FH hF).1 x hm;have h2:r.type=2:=by{
 unfold l_ at ht;cases hx:x.2 with
 | nil=>rw[hx]at hh;cases hh
 | cons y t =>{
 rw[hx]at hh;have:y=r:=by simpa using hh
 simp[hx]at ht;rw[<- this];exact ht}};refine⟨fun _=>⟨r,hr,h2⟩,fun _=>?_⟩;show 0<x.2.length;cases hx:x.2 with
 | nil=>rw[hx]at hh;cases hh
 | cons y t=>simp}
 | none =>{
 refine⟨fun h=>by simp at h,?_⟩;rintro⟨r,hr,h2⟩;obtain⟨x,hx,e⟩:=(FH hF).2 r hr;have hno:=SH.1 hf x hx;refine absurd ?_ hno;have hm:r∈x.2:=by rw[e];exact fA.2 ⟨hr,(wU r r).2 rfl⟩
 unfold l_;cases hy:x.2 with
 | nil=>rw[hy]at hm;cases hm
 | cons y t =>{
 have an_:y∈F.filter (bu r):=by rw[<- e,hy];simp
 have:=(iA ((wU r y).1 (fA.1 an_).2)).2;simp[<- this,h2]}}
theorem aoa{F:List ai}{a b:ai}(ha:a∈F)(hb:b∈F)(hne:a≠b):1<F.length:=by
 match F,ha,hb with
 | [x],ha,hb =>{
 have h1:a=x:=by simpa using ha
 have h2:b=x:=by simpa using hb
 exact absurd (h1.trans h2.symm) hne}
 | _ :: _ :: _,_,_=>simp
theorem U5(n:ah):dy n n=true:=by unfold dy;simp
section
variable {L:List ai} (hL:fN bm L) (hval : ∀ r∈L,iC r.owner=true) (o:ah)
structure U6(L:List ai)(o:ah):Prop where
 aob:∀r∈L,pS (L.filter (bu r))=true
 und:∀r∈L,dy r.owner o=true
 cn:∀r∈L,∀c∈L,c.owner=r.owner->c.type=5->¬1<(L.filter (cN r)).length
 U7:∀r∈L,r.owner≠o->r.type=2->pY L r.owner=true
 ns:∃x∈L,x.owner=o/\x.type=2
include hL in
theorem acJ:lO o L=true ↔ U6 L o:=by unfold lO;rw[cY,cY,anU hL,anV hL (fun n l=>mh o L n l),acs hL,tj];rw[an9 (F:=L.filter (fun r=>r.owner == o)) (JV _ hL)];have hro:∀r∈L,mh o L r.owner (L.filter (cN r))=true ↔ dy r.owner o=true/\(∀c∈L,c.owner=r.owner->c.type=5->¬1<(L.filter (cN r)).length)/\(r.owner=o\/(∀x∈L,x.owner=r.owner->x.type≠2)\/pY L r.owner=true):=by{intro r hr;unfold mh;rw[cY,cY,and_assoc,xK,xK,fe,or_assoc];have Kn:∀k:Int,(L.filter (cN r)).any (lZ k)=true ↔ ∃x∈L,x.owner=r.owner/\x.type=k:=by{intro k;rw[oA];constructor;{rintro⟨x,hx,h⟩;obtain⟨h1,h2⟩:=fA.1 hx;exact⟨x,h1,((wS r x).1 h2).symm,by unfold lZ at h;simpa using h⟩};{rintro⟨x,hx,h1,h2⟩;exact⟨x,fA.2 ⟨hx,(wS r x).2 h1.symm⟩,by unfold lZ;simpa using h2⟩}};refine and_congr JU (and_congr ?_ (or_congr JU (or_congr ?_ JU)));{rw[y9,<- qI,cY,Kn,tj];constructor;{intro h c hc h1 h2 h3;exact h ⟨⟨c,hc,h1,h2⟩,h3⟩};{rintro h ⟨⟨c,hc,h1,h2⟩,h3⟩;exact h c hc h1 h2 h3}};{rw[y9,<- qI,Kn];constructor;{intro h x hx h1 h2;exact h ⟨x,hx,h1,h2⟩};{rintro h ⟨x,hx,h1,h2⟩;exact h x hx h1 h2}}};have hn:(∃x∈L.filter (fun r=>r.owner == o),x.type=2) ↔ ∃x∈L,x.owner=o/\x.type=2:=by{constructor;{rintro⟨x,hx,h2⟩;obtain⟨h1,h3⟩:=fA.1 hx;exact⟨x,h1,by simpa using h3,h2⟩};{rintro⟨x,hx,h1,h2⟩;exact⟨x,fA.2 ⟨hx,by simpa using h1⟩,h2⟩}};rw[hn];constructor;{rintro⟨h1,h2,h3⟩;refine⟨h1,fun r hr=>((hro r hr).1 (h2 r hr)).1,fun r hr=>((hro r hr).1 (h2 r hr)).2.1,fun r hr ho ht=>?_,h3⟩;rcases((hro r hr).1 (h2 r hr)).2.2 with h|h|h;{exact absurd h ho};{exact absurd ht (h r hr rfl)};{exact h}};{rintro⟨h1,h2,h3,h4,h5⟩;refine⟨h1,fun r hr=>(hro r hr).2 ⟨h2 r hr,h3 r hr,?_⟩,h5⟩;by_cases ho:r.owner=o;{exact .inl ho};{by_cases hx:∀x∈L,x.owner=r.owner->x.type≠2;{exact .inr (.inl hx)};{refine .inr (.inr ?_);have:∃x∈L,x.owner=r.owner/\x.type=2:=Cs fun hc=>hx fun x hx h1 h2=>hc ⟨x,hx,h1,h2⟩;obtain⟨x,hx,e1,e2⟩:=this;have:=h4 x hx (by rw[e1];exact ho) e2;rw[e1]at this;exact this}}}
include hL hval in
theorem acK(h:U6 L o):L.Nodup/\∀a∈L,∀b∈L,a≠b->FQ o a b:=by
 have eN:∀r∈L,∃t0,(∀x∈L,x.owner=r.owner->x.type=r.type->x.aG=t0)/\(L.filter (bu r)).Pairwise (·≠·):=by{
 intro r hr;have h1:=h.aob r hr;have hm:r∈L.filter (bu r):=fA.2 ⟨hr,(wU r r).2 rfl⟩;cases hf:L.filter (bu r)with
 | nil=>rw[hf]at hm;cases hm
 | cons y t =>{rw[hf]at h1;unfold pS at h1;obtain⟨a1,a2,_⟩:=(U4 y.aG (y :: t) []).1 h1;refine⟨y.aG,fun x hx e1 e2=>a1 x ?_,a2⟩;rw[<- hf];exact fA.2 ⟨hx,(wU r x).2 (Hu e1.symm e2.symm)⟩}};have PO:∀r∈L,rO r.owner=false->mj r.owner≠[42]:=by{intro r hr hs e;rw[(acF (hval r hr)).2 e]at hs;cases hs};refine⟨?_,fun a ha b hb hne=>⟨?_,?_,?_⟩⟩;{rw[List.Nodup,NT];intro i j ax hj Bi e;obtain⟨_,_,hp⟩:=eN _ (cM ax);rw[List.pairwise_filter,NT]at hp;exact hp i j ax hj Bi ((wU _ _).2 rfl) (by rw[<- e];exact(wU _ _).2 rfl) e};{rintro⟨h2,ho⟩;have hc:=(Py hL b.owner).1 (h.U7 b hb ho h2) b hb (U5 _);exact PO b hb hc.1};{intro he;refine⟨?_,?_,?_⟩;{rintro⟨ht,hd⟩;obtain⟨t0,h1,_⟩:=eN a ha;have e1:=h1 a ha rfl rfl;have e2:=h1 b hb he.symm ht.symm;rcases hd with hd|hd;{exact hne (Hu he (Hu (e1.trans e2.symm) (Hu ht hd)))};{exact hd (e1.trans e2.symm)}};{intro h5;exact h.cn b hb b hb rfl h5 (aoa (fA.2 ⟨ha,(wS b a).2 he.symm⟩) (fA.2 ⟨hb,(wS b b).2 rfl⟩) hne)};{rintro⟨h2,ho⟩;have hc:=(Py hL b.owner).1 (h.U7 b hb ho h2) b hb (U5 _);have:=hc.2 a ha he;simpa using this}};{intro he;rintro⟨h2,ho⟩ hu;have hc:=(Py hL b.owner).1 (h.U7 b hb ho h2) a ha hu;refine⟨?_,PO a ha hc.1⟩;have:=hc.2 a ha rfl;simpa [he]using this}
include hL hval in
theorem aoc(hn:L.Nodup)(h:∀a∈L,∀b∈L,a≠b->FQ o a b)(hu:∀r∈L,dy r.owner o=true)(h6:∃x∈L,x.type=6)(Il:∃x∈L,x.owner=o/\x.type=2):U6 L o:=by
 have PO:∀r∈L,mj r.owner≠[42]->rO r.owner=false:=by{intro r hr hs;rw[<- qI];exact fun hc=>hs ((acF (hval r hr)).1 hc)};refine⟨fun r hr=>?_,hu,fun r hr c hc he h5 hl=>?_,fun r hr ho h2=>?_,Il⟩;{
 have hfn:(L.filter (bu r)).Nodup:=JV _ hn;have hmem:∀x∈L.filter (bu r),x∈L/\x.owner=r.owner/\x.type=r.type:=by{intro x hx;obtain⟨h1,h2⟩:=fA.1 hx;obtain⟨e1,e2⟩:=iA ((wU r x).1 h2);exact⟨h1,e1.symm,e2.symm⟩};cases hf:L.filter (bu r)with
 | nil=>rfl
 | cons y t =>{rw[hf]at hfn hmem;unfold pS;refine(U4 y.aG (y :: t) []).2 ⟨fun x hx=>?_,hfn,fun _ _ hc=>by cases hc⟩;by_cases e:x=y;{rw[e]};{obtain⟨m1,m2,m3⟩:=hmem x hx;obtain⟨k1,k2,k3⟩:=hmem y ar;have hb:=((h x m1 y k1 e).2.1 (m2.trans k2.symm)).1;exact Cs fun hc=>hb ⟨m3.trans k3.symm,.inr hc⟩}}};{
 have hfn:(L.filter (cN r)).Nodup:=JV _ hn;have hcm:c∈L.filter (cN r):=fA.2 ⟨hc,(wS r c).2 he.symm⟩;have hex:∃d∈L.filter (cN r),d≠c:=by{
 match hF:L.filter (cN r)with
 | []=>rw[hF]at hl;simp at hl
 | [x]=>rw[hF]at hl;simp at hl
 | x :: y :: t =>{rw[hF]at hfn;by_cases e:x=c;{refine⟨y,ar,?_⟩;rintro rfl;have:=(xL.1 hfn).1 y ar;exact this e};{exact⟨x,ar,e⟩}}};obtain⟨d,hd,aod⟩:=hex;obtain⟨d1,d2⟩:=fA.1 hd;exact((h d d1 c hc aod).2.1 (((wS r d).1 d2).symm.trans he.symm)).2.1 h5};{
 refine(Py hL r.owner).2 fun s hs acL=>?_;have hcut:r.type=2/\r.owner≠o:=⟨h2,ho⟩;constructor;{refine PO s hs ?_;by_cases e:s.owner=r.owner;{obtain⟨x,hx,acM⟩:=h6;rw[e];exact(h x hx r hr (by rintro rfl;rw[h2]at acM;exact absurd acM bD)).1 hcut};{exact((h s hs r hr (by rintro rfl;exact e rfl)).2.2 e hcut acL).2}};{
 intro u Dl U8;by_cases e:s.owner=r.owner;{rw[aJ e];by_cases acN:u=r;{rw[acN];exact h2};{exact((h u Dl r hr acN).2.1 (U8.trans e)).2.2 hcut}};{
 rw[aF e];have hne:u.owner≠r.owner:=by rw[U8];exact e
 exact((h u Dl r hr (by rintro rfl;exact hne rfl)).2.2 hne hcut (by rw[U8];exact acL)).1}}}
end
theorem acO(o:ah)(rs:List ai)(hval:∀r∈rs,iC r.owner=true):(zP o rs/\rs.length<=60) ↔ (lL o rs && lO o (aN rs))=true:=by
 have hp:=zO rs;have hL:=FE rs;have hmem:∀ {r:ai},r∈aN rs ↔ r∈rs:=hp.mem_iff;have acP:∀r∈aN rs,iC r.owner=true:=fun r hr=>hval r (hmem.1 hr);rw[cY,acJ hL];have hhas:iG rs (az 46 o) 2=true ↔ ∃x∈rs,x.owner=o/\x.type=2:=by{unfold iG;rw[oA];constructor;{rintro⟨x,hx,h⟩;simp at h;exact⟨x,hx,H9 h.1,h.2⟩};{rintro⟨x,hx,h1,h2⟩;exact⟨x,hx,by simp[h1,h2]⟩}};unfold zP Bo;rw[hhas];constructor;{
 rintro⟨⟨⟨h0,sk,nz⟩,Il,hrow⟩,hlen⟩;have PQ:=(acI o rs).1 fun i ax k hk hne=>(acH o _ _).1 ((hrow i ax).2.2 k hk hne);have U9:∀r∈rs,dy r.owner o=true:=by{intro r hr;obtain⟨i,ax,rfl⟩:=NQ.1 hr;have:=(hrow i ax).1;rw[KU]at this;exact this};refine⟨?_,aoc hL acP o (hp.nodup_iff.2 PQ.1) (fun a ha b hb=>PQ.2 a (hmem.1 ha) b (hmem.1 hb)) (fun r hr=>U9 r (hmem.1 hr)) ⟨rs[0],hmem.2 (cM h0),sk⟩ ?_⟩;{
 cases rs with
 | nil=>simp at h0
 | cons r t =>{unfold lL;have e1:r.owner=o:=H9 nz;have e2:r.type=6:=sk;have e3:t.any (lZ 6)=false:=by{rw[<- qI,oA];rintro⟨x,hx,h⟩;obtain⟨i,ax,rfl⟩:=NQ.1 hx;refine(hrow (i+1) (by simpa using ax)).2.1 ⟨ae,?_⟩;unfold lZ at h;simpa using h};simp only[e1,e2,e3,iy hlen];simp}};{obtain⟨x,hx,h⟩:=Il;exact⟨x,hmem.2 hx,h⟩}};{
 rintro⟨hst,Im⟩;have hb:=acK hL acP o Im;have hb1:rs.Nodup:=hp.nodup_iff.1 hb.1;have hb2:∀a∈rs,∀b∈rs,a≠b->FQ o a b:=fun a ha b hb'=>hb.2 a (hmem.2 ha) b (hmem.2 hb');have PQ:=(acI o rs).2 ⟨hb1,hb2⟩;have Il:∃x∈rs,x.owner=o/\x.type=2:=by{obtain⟨x,hx,h⟩:=Im.ns;exact⟨x,hmem.1 hx,h⟩};have U9:∀r∈rs,dy r.owner o=true:=fun r hr=>Im.und r (hmem.2 hr);cases rs with
 | nil=>cases hst
 | cons r t =>{unfold lL at hst;rw[cY,cY,cY,tj,fe,fe,y9,<- qI,oA]at hst;obtain⟨hlen,⟨e1,e2⟩,e3⟩:=hst;refine⟨⟨⟨ar,e2,by show az 46 r.owner=_;rw[e1]⟩,Il,fun i ax=>⟨?_,?_,fun k hk hne=>(acH o _ _).2 (PQ i ax k hk hne)⟩⟩,hlen⟩;{rw[KU];exact U9 _ (cM ax)};{rintro⟨lQ,h6⟩;obtain⟨j,rfl⟩:∃j,i=j+1:=⟨i - 1,ae⟩;refine e3 ⟨t[j]'(by simpa using ax),cM _,?_⟩;unfold lZ;have:(t[j]'(by simpa using ax)).type=6:=h6;simp[this]}}}
theorem PR:prog.underlying 115=some (.slice 119):=aI
theorem U_:(prog.info? 119).map (fun i=>(i.zero,i.size,i.bytes))=some (some (.agg #[aH,aj 0,aj 0,.string ⟨#[]⟩,aH]),5,80):=aI
def Io(w:World)(b off j:Nat):Value:=(w.cell? (ak b (off+j*5+4))).getD (aH)
def Dm(w:World)(b off:Nat)(ow:Value)(rs:List ai)(j:Nat):List Value:=[ow,aj (rs[j]?.getD ai.zero).aG,aj (rs[j]?.getD ai.zero).type,ay (rs[j]?.getD ai.zero).data,Io w b off j]
def FR(rs:List ai)(ns:List ah)(k:Int)(j:Nat):Bool:=decide (az 46 (rs[j]?.getD ai.zero).owner=ns) && (rs[j]?.getD ai.zero).type == k
def kD(rs:List ai)(ns:List ah)(k:Int)(i:Nat):List Nat:=(List.range i).filter (FR rs ns k)
def lS(rs:List ai)(ns:List ah)(t:Int):Nat->List Nat
 | 0=>[]
 | k+1=>lS rs ns t k++if t≠255/\t≠(k:Int)then []else if k=0 then []else kD rs ns k rs.length
theorem acQ(rs:List ai)(ns:List ah)(k:Int)(i:Nat):kD rs ns k (i+1)=kD rs ns k i++if FR rs ns k i then [i]else []:=by unfold kD;rw[J7,vV];by_cases h:FR rs ns k i=true <;> simp[h]
theorem acR(rs:List ai)(ns:List ah)(k:Int)(i:Nat):(kD rs ns k i).length<=i:=by unfold kD;exact a_ (Cx _ _) ar
theorem acS(rs:List ai)(ns:List ah)(t:Int):∀k,(lS rs ns t k).length<=k*rs.length
 | 0=>by simp[lS]
 | k+1=>by rw[lS,bj,Nat.succ_mul];have:=acS rs ns t k;have h2:=acR rs ns k rs.length;split;{simp;omega};{split;{simp;omega};{omega}}
theorem aoe(W:World)(g:Nat)(hg:g=W.heap.size)(a b c d e:Value)(t:TypeId):∀(j:Nat) (u:Value),[a,b,c,d,e][j]? = some u->(W.alloc (.cells #[a,b,c,d,e] t)).cell? (((ak g 0):Addr).add j)=some u:=fun j u hj=>by
 subst hg;exact World.news_of_block (World.alloc_heap_new W (.cells #[a,b,c,d,e] t)) j u hj
theorem aof(a a':Option Addr)(n c n' c':Nat)(x y:Int)(d:ByteArray):∀u∈[Value.slice a n c,aj x,aj y,.string d,.slice a' n' c'],u.oneCell'=true:=by intro u hu;simp at hu;rcases hu with rfl|rfl|rfl|rfl|rfl <;> rfl
theorem aog(zb:Nat)(o:ah)(rs:List ai)(u:Value)(oa:Option Addr)(on oc:Nat)(ns:List ah)(t:Int)(w:World)(b off cap:Nat)(vo:Value)(z0:w.heap[zb]? = some (.cells #[vo,.slice (some ⟨b,off,none⟩) rs.length cap] 117))(z2:rs.length<=cap)(z3:Dh w b off rs)(hf:Bk o rs)(hu:en w u ns)(hn:ns.length<=1000) :
  aB 237 #[aM zb,u,aj t,.slice oa on oc] w fun e w'=>(∃v,e=.returned v/\w'.ownsRow w.heap.size 119 5 v (lS rs ns t 17).length ((lS rs ns t 17).flatMap (Dm w b off (.slice oa on oc) rs)))/\au w w':=by
 obtain⟨i0,lQ,hz0,hz1,hz2⟩:=kJ U_;have hzl:zb<w.heap.size:=(bV.1 z0).1;have HU:=ag hu;have bC:=ag z3;have tT:=ag z0;have oM:=hf.2.1;have aW:=ag hf;clear z0 z3 hu hf;go_enter func237,ntmps237;go_wp2_with fail;go_loopw [9,10] (fun out k wr=>∃kn:Nat,1<=kn/\kn<=17/\k=aj kn/\(∃a n c,out=.slice a n c)/\wr.ownsRow w.heap.size 119 5 out (lS rs ns t kn).length ((lS rs ns t kn).flatMap (Dm w b off (.slice oa on oc) rs))/\au w wr) (fun _ k _=>17 - (intOf k).toNat);case atStart =>(
 refine⟨1,ae,ae,rfl,⟨_,_,_,rfl⟩,?_,bR _ _⟩;have:lS rs ns t 1 = []:=by simp[lS]
 rw[this];exact⟨rfl,.inl ⟨rfl,rfl⟩⟩)
 case round =>(
 obtain⟨kn,kO,azJ,rfl,⟨aa,an,ac,rfl⟩,hown,hb⟩:=hrel;have HO:=ag hown;have aX:=ag hb;clear hown hb;by_cases hlt:kn<17;{
 have gy:(kn:Int)<17:=ae;have hN:=acS rs ns t kn;have sw:kn*rs.length<=17*3001:=Nat.mul_le_mul ae oM;by_cases hsk:t≠255/\t≠(kn:Int);{
 have h1:(t != 255)=true:=by simpa using hsk.1
 have h2:(t != (kn:Int))=true:=by simpa using hsk.2
 have hs1:lS rs ns t (kn+1)=lS rs ns t kn:=by rw[lS,aJ hsk,h_]
 clear hsk;go_wp2_with fail;refine⟨⟨kn+1,ae,ae,bW,⟨_,_,_,rfl⟩,by rw[hs1];exact HO,aX⟩,c5⟩};{
 have hs1:lS rs ns t (kn+1)=lS rs ns t kn++kD rs ns kn rs.length:=by rw[lS,aF hsk,aF ae]
 have tH:=ag hs1;clear hs1;have sD:(t != 255)=false\/((t != 255)=true/\(t != (kn:Int))=false):=by{by_cases h1:t=255;{left;simp[h1]};{right;have h2:t=(kn:Int):=Cs fun hc=>hsk ⟨h1,hc⟩;exact⟨by simpa using h1,by simp[h2]⟩}};clear hsk;generalize lS rs ns t kn=J0 at *;rcases sD with h1|⟨h1,h2⟩;all_goals(
 go_wp2_with fail;go_loopw [9,11] (fun out iv wi=>∃i:Nat,i<=rs.length/\iv=aj i/\(∃a n c,out=.slice a n c)/\wi.ownsRow w.heap.size 119 5 out (J0++kD rs ns kn i).length ((J0++kD rs ns kn i).flatMap (Dm w b off (.slice oa on oc) rs))/\au w wi) (fun _ iv _=>rs.length - (intOf iv).toNat);case atStart =>(refine⟨0,ae,rfl,⟨_,_,_,rfl⟩,?_,aX⟩;have:kD rs ns kn 0 = []:=rfl;rw[this,h_];exact HO)
 case round =>(
 clear HO aX;obtain⟨i,ax,rfl,⟨ba,jz,bc,rfl⟩,hown,hb⟩:=hrel;have HO:=ag hown;have aX:=ag hb;have zc:wr.cell? (ak zb 1)=some (aD b off rs.length cap):=by{have:=(hb.block zb hzl).trans tT;unfold World.cell?; rw[this];rfl};by_cases yu:i<rs.length;{
 have aoh:(i:Int)<(rs.length:Int):=ae;obtain⟨ro,ml,c0,aC,c2,c3,aV,gh,jF⟩:=(af bC) i yu;have hrl:=aW.2.2 rs[i] (cM yu);have HS:=ag (yc ro u (az 46 rs[i].owner) ns wr (gh.below hb) (HU.below hb) (p8 hrl) hn);have aoi:Hid (Dm w b off (.slice oa on oc) rs i = [.slice oa on oc,aj rs[i].aG,aj rs[i].type,.string (aq rs[i].data),ml]):=by{unfold Hid Dm Io;rw[aV,iw yu];rfl};have Bt:Hid (FR rs ns kn i=(decide (az 46 rs[i].owner=ns) && rs[i].type == (kn:Int))):=by{unfold Hid FR;rw[iw yu];rfl};have gG:=ag (acQ rs ns kn i);obtain⟨rg,Va,rc,rfl,_,_⟩:=jF;obtain⟨Ip,Vb,Vc,rfl,_,_⟩:=gh;generalize aoj:(az 32 rs[i].data).length=dl at *;have kp:∀(W:World),au w W->W.cell? (ak b (off+i*5))=some (aD Ip Vb (az 46 rs[i].owner).length Vc)/\W.cell? (ak b (off+i*5+1))=some (aj rs[i].aG)/\W.cell? (ak b (off+i*5+2))=some (aj rs[i].type)/\W.cell? (ak b (off+i*5+3))=some (.string (aq rs[i].data))/\W.cell? (ak b (off+i*5+4))=some (aD rg Va dl rc)/\W.cell? (ak zb 1)=some (aD b off rs.length cap):=fun W hW=>by{have k:∀(a:Addr) (v:Value),w.cell? a=some v->W.cell? a=some v:=fun a v h=>(hW.cell (iz w a h)).trans h;refine⟨k _ _ c0,k _ _ aC,k _ _ c2,k _ _ c3,k _ _ aV,?_⟩;have:=(hW.block zb hzl).trans tT;unfold World.cell?; rw[this];rfl};have tL:=ag kp;have gu:=(kp wr hb).1;clear c0 aC c2 c3 aV kp hown hb hrl aoj;generalize rs[i]=r at *;go_wp2_with fail;refine HS.mono ?_;rintro e w1 ⟨rfl,hb1⟩;have bZ:=ag (aX.trans (hb1.mono aX.size));have pz:=ag (ic (af HO) hb1);obtain⟨e0,e1,e2,e3,e4,e5⟩:=af tL w1 (af bZ);clear hb1 HS gu zc;cases hs:decide (az 46 r.owner=ns);{have bI:Hid (kD rs ns kn (i+1)=kD rs ns kn i):=by{have h3:=af Bt;rw[hs]at h3;have h4:=af gG;rw[h3]at h4;exact(by simpa using h4:kD rs ns kn (i+1)=_)};clear hs;go_wp2;exact⟨⟨i+1,ae,bW,⟨_,_,_,rfl⟩,by rw[af bI];exact pz,bZ⟩,c5⟩};{
 cases dJ:(r.type == (kn:Int));{have bI:Hid (kD rs ns kn (i+1)=kD rs ns kn i):=by{have h3:=af Bt;rw[hs,dJ]at h3;have h4:=af gG;rw[h3]at h4;exact(by simpa using h4:kD rs ns kn (i+1)=_)};clear hs;go_wp2;exact⟨⟨i+1,ae,bW,⟨_,_,_,rfl⟩,by rw[af bI];exact pz,bZ⟩,c5⟩};{
 have bI:Hid (kD rs ns kn (i+1)=kD rs ns kn i++[i]):=by{have h3:=af Bt;rw[hs,dJ]at h3;have h4:=af gG;rw[h3]at h4;exact(by simpa using h4:kD rs ns kn (i+1)=_)};clear hs;have azK:(J0++kD rs ns kn i).length<=60000:=by{have:=acR rs ns kn i;rw[bj];omega};have bT:=bZ.size;go_wp2_with (at_builtin;go_loud (refine CH _ rfl (.tmp 66) (.tmp 68) 115 rfl w.heap.size 119 i0 (.agg #[aH,aj 0,aj 0,.string ⟨#[]⟩,aH]) 5 80 PR lQ hz0 hz1 hz2 rfl bD _ (J0++kD rs ns kn i).length _ rfl (ic (af pz) ((aO.alloc aA _).alloc ar _)) (ak (w1.heap.size+1) 0) 1 1 [.slice oa on oc,aj r.aG,aj r.type,ay r.data,aD rg Va dl rc] rfl rfl (aoe _ _ ar _ _ _ _ _ _) (aof _ _ _ _ _ _ _ _ _) (by unfold maxLen;omega) ae aP ?_));intro v' w3 uY hgrow hnil hat;have Vd:w3.ownsRow w.heap.size 119 5 v' (J0++kD rs ns kn (i+1)).length ((J0++kD rs ns kn (i+1)).flatMap (Dm w b off (.slice oa on oc) rs)):=by{rw[af bI,<- fP,bj,sZ];have : [i].flatMap (Dm w b off (.slice oa on oc) rs) = [.slice oa on oc,aj r.aG,aj r.type,ay r.data,aD rg Va dl rc]:=by{rw[iV,Hr,h_];exact aoi};rw[this,bj,sZ,fP];exact uY};have ij:au w w3:=⟨hgrow.os.trans bZ.os,hgrow.tape.trans bZ.tape,hgrow.output.trans bZ.output,a_ aP hgrow.size,fun q hq=>by{
 refine(hgrow.block q aP (fun hc=>?_)).trans ?_;{
 obtain⟨_,⟨hv,_⟩|⟨g,cp,cur,hv,hg,_⟩⟩:=af pz;{rw[hv]at hc;cases hc};{
 rw[hv]at hc;have:q=g:=by simpa [Value.ownBlock]using hc
 omega}};{exact(((bR w1.heap.size w1).alloc aA _).alloc ar _).block q ae |>.trans (bZ.block q hq)}}⟩
 have cK:=ag ij;have eE:=ag Vd;obtain⟨ya,yn,p9,rfl⟩:∃a n c,v'=.slice a n c:=by{obtain⟨_,⟨hv,_⟩|⟨g,cp,cur,hv,_⟩⟩:=Vd;{exact⟨_,_,_,hv⟩};{exact⟨_,_,_,hv⟩}};clear uY hgrow hnil hat Vd ij;go_wp2;exact⟨⟨i+1,ae,bW,⟨_,_,_,rfl⟩,eE,cK⟩,c5⟩}}};{have aoh:¬(i:Int)<(rs.length:Int):=ae;have Lj:i=rs.length:=ae;subst Lj;go_wp2_with fail;refine⟨⟨kn+1,ae,ae,bW,⟨_,_,_,rfl⟩,by rw[af tH];exact HO,aX⟩,c5⟩}))}};{have gy:¬(kn:Int)<17:=ae;have hk:kn=17:=ae;subst hk;go_wp2;go_ret;exact⟨⟨_,rfl,HO⟩,aX⟩})
def PS(rs:List ai)(n:ah)(j:Nat):ai:=(n,(rs[j]?.getD ai.zero).aG,(rs[j]?.getD ai.zero).type,(rs[j]?.getD ai.zero).data)
theorem aok(rs:List ai)(ns:List ah)(k:Int)(i j:Nat)(h:j∈kD rs ns k i):j<i:=by unfold kD at h;exact NS.1 (fA.1 h).1
theorem acT(rs:List ai)(ns:List ah)(t:Int):∀k,∀j∈lS rs ns t k,j<rs.length
 | 0,j,h=>by simp[lS]at h
 | k+1,j,h=>by rw[lS,gm]at h;rcases h with h|h;{exact acT rs ns t k j h};{split at h;{cases h};{split at h;{cases h};{exact aok _ _ _ _ _ h}}}
def yv(c:UInt8):UInt8:=if c=80 then 46 else c
def PT(c:UInt8):UInt8:=if c=46 then 80 else c
def aT(t:ah):List ah:=(az 46 t).map (List.map yv)
theorem PU:∀(f:Nat) (l:ah),l.length<=f->∀x∈az 46 l,(46:UInt8) ∉ x/\∀c∈x,c∈l
 | f,l,h,x,hx=>by
  rcases oJ 46 l with⟨h1,e⟩|⟨a,b,e0,h1,e⟩;{
  rw[e]at hx;obtain rfl:x=l:=by simpa using hx
  exact⟨h1,fun _ h=>h⟩};{
  rw[e]at hx;rcases ei.1 hx with rfl|hx;{exact⟨h1,fun c hc=>by rw[e0];exact NP _ hc⟩};{
  match f,h with
  | 0,h=>rw[e0]at h;simp at h
  | f+1,h =>{have ih:=PU f b (by rw[e0]at h;simp at h;omega) x hx;exact⟨ih.1,fun c hc=>by rw[e0];exact SN _ (jY _ (ih.2 c hc))⟩}}}
theorem Ve:∀(f:Nat) (y:ah) (c:UInt8),y.length<=f->c∈y->c=46\/∃l∈az 46 y,c∈l
 | f,y,c,hf,hc=>by
  rcases oJ 46 y with⟨_,e⟩|⟨a,b,e0,_,e⟩;{exact .inr ⟨y,by rw[e];simp,hc⟩};{
  rw[e0]at hc;rcases gm.1 hc with h|h;{exact .inr ⟨a,by rw[e];simp,h⟩};{
  rcases ei.1 h with h|h;{exact .inl h};{
  match f,hf with
  | 0,hf=>rw[e0]at hf;simp at hf
  | f+1,hf =>{rcases Ve f b c (by rw[e0]at hf;simp at hf;omega) h with h|⟨l,h1,h2⟩;{exact .inl h};{exact .inr ⟨l,by rw[e];exact jY _ h1,h2⟩}}}}}
theorem yw(t:ah):(aT t).length=(az 46 t).length:=by simp[aT]
theorem PV(t:ah):aT t≠[]:=fun h=>pP 46 t (by simpa [aT]using h)
theorem Lk(a:ah):(aT a).map (List.map PT)=az 46 a:=by
 unfold aT;rw[kY];conv=>rhs;rw[<- EP (az 46 a)]
 refine oB (fun x hx=>?_);have h1:=(PU _ a aA x hx).1;show(x.map yv).map PT=x;rw[kY];conv=>rhs;rw[<- EP x]
 refine oB (fun c hc=>?_);show PT (yv c)=c;have hc':c≠46:=fun e=>h1 (e ▸ hc);unfold yv;split;{rename_i h;subst h;rfl};{unfold PT;rw[aF hc']}
theorem Iq{a b:ah}(h:aT a=aT b):a=b:=H9 (by rw[<- Lk a,<- Lk b,h])
theorem acU{a b:ah} : aT a=aT b ↔ a=b:=⟨Iq,fun h=>by rw[h]⟩
theorem yx{t:ah}(h:(80:UInt8) ∉ t):aT t=az 46 t:=by
 unfold aT;conv=>rhs;rw[<- EP (az 46 t)]
 refine oB (fun x hx=>?_);show x.map yv=x;conv=>rhs;rw[<- EP x]
 refine oB (fun c hc=>?_);have:c≠80:=fun e=>h (e ▸ (PU _ t aA x hx).2 c hc);unfold yv;rw[aF this];rfl
theorem bN{r n:ah}(h:(80:UInt8) ∉ r):az 46 r=aT n ↔ r=n:=by rw[<- yx h];exact acU
theorem aol(l o:ah)(k:Nat):(aT l).drop k=aT o ↔ (az 46 l).drop k=az 46 o:=by constructor;{intro h;rw[<- Lk l,<- Lk o,<- h,J4]};{intro h;unfold aT;rw[<- h,J4]}
theorem Dj(l o:ah):lR (aT l) (aT o)=dy l o:=by rw[<- KU];unfold lR;rw[yw,yw,rE];simp only[cY,tj,aol]
theorem Vf{r:ah}(h:(80:UInt8) ∉ r)(n:ah):lR (az 46 r) (aT n)=dy r n:=by rw[<- yx h];exact Dj r n
theorem aom{o:ah}(h:(80:UInt8) ∉ o)(n:ah):lR (aT n) (az 46 o)=dy n o:=by rw[<- yx h];exact Dj n o
theorem aon(a:ah):aT (42 :: 46 :: a) = [42] :: aT a:=by unfold aT;have:az 46 (42 :: 46 :: a) = [42] :: az 46 a:=Ux 46 a [42];rw[this];rfl
def eH(rs:List ai)(n:ah)(k:Int):List ai:=rs.filter fun r=>r.owner == n && r.type == k
def dL(rs:List ai)(n:ah)(t:Int):List ai:=if t=255 then(List.range 17).flatMap fun k:Nat=>eH rs n (k:Int)else eH rs n t
def sF(rs:List ai):Prop:=∀r∈rs,1<=r.type/\r.type<=16/\(80:UInt8) ∉ r.owner
theorem acV{α:Type}(lt:α->α->Bool)(hw:ny lt)(p:α->Bool)(x:α):∀(S:List α),fN lt S->(∀a∈S,p a=true->p x=true->lt x a=false)->(cG lt S [x]).filter p=S.filter p++[x].filter p
 | [],_,_=>by simp
 | a :: S,hs,h=>by rw[O8];have hs':=xL.1 hs;split;{rename_i hl;rw[O7];by_cases hx:p x=true;{have h0:(a :: S).filter p = []:=by{rw[rH];intro y hy hp;have h1:=h y hy hp hx;rcases ei.1 hy with rfl|hy';{rw[hl]at h1;cases h1};{have:=hw.nt _ _ _ h1 (hs'.1 y hy');rw[hl]at this;cases this}};rw[rG hx,h0];simp[hx]};{rw[uw (by simpa using hx)];simp[hx]}};{have ih:=acV lt hw p x S hs'.2 (fun y hy=>h y (jY _ hy));by_cases ha:p a=true;{rw[rG ha,ih,rG ha];rfl};{rw[uw (a:=a) (by simpa using ha),ih,uw (a:=a) (by simpa using ha)]}}
theorem aoo{α:Type}(lt:α->α->Bool)(hw:ny lt)(ir:∀x,lt x x=false)(p:α->Bool)(h:∀a x,p a=true->p x=true->lt x a=false)(l:List α):(iN lt l).filter p=l.filter p:=by
 have key:∀(n:Nat) (l:List α),l.length=n->(iN lt l).filter p=l.filter p:=by{
 intro n;induction n with
 | zero=>intro l hl;obtain rfl:l = []:=fp hl;rfl
 | succ n ih =>{
 intro l hl;have hne:l≠[]:=by rintro rfl;simp at hl
 have e:=SC hne;have hd:l.dropLast.length=n:=aP;rw[<- e,Fx,acV lt hw p _ _ (KY lt hw ir _) (fun a _=>h a _),ih _ hd,vV]}};exact key l.length l rfl
theorem Vg(rs:List ai)(n:ah)(k:Int):eH (aN rs) n k=eH rs n k:=by unfold eH;rw[Pu];refine aoo bm zM Ii _ (fun a x ha hx=>?_) rs;simp only[cY,fe]at ha hx;rw[<- qI];intro hl;rcases(FD x a).1 hl with h|⟨_,h⟩;{rw[ha.1,hx.1,Po]at h;cases h};{rw[ha.2,hx.2]at h;omega}
theorem Vh{L:List ai}(n:ah)(k:Int):(L.filter fun r=>r.owner == n).filter (fun r=>r.type == k)=eH L n k:=by unfold eH;rw[List.filter_filter];congr 1;funext r;rw[Bool.and_comm]
theorem aop{L:List ai}(h:fN bm L)(p:ai->Bool):fN bm (L.filter p):=JV p h
section
variable {F:List ai} (hF:fN bm F) (hn : ∀ a∈F,∀ b∈F,a.owner=b.owner)
include hF
theorem PW{x:Nat×List ai}(hx:x∈bz bu F):(∀r∈x.2,r.type=l_ x)/\x.2≠[]/\(∀r∈x.2,r∈F):=by
 obtain⟨r,hr,hh,e⟩:=(FH hF).1 x hx;have ht:l_ x=r.type:=by{
 unfold l_;cases hx:x.2 with
 | nil=>rw[hx]at hh;cases hh
 | cons y t =>{
 rw[hx]at hh;have:y=r:=by simpa using hh
 rw[<- this];rfl}};refine⟨fun s hs=>?_,?_,fun s hs=>?_⟩;{rw[e]at hs;have:=(iA ((wU r s).1 (fA.1 hs).2)).2;rw[ht,this]};{intro h0;rw[h0]at hh;cases hh};{rw[e]at hs;exact(fA.1 hs).1}
theorem PX(t:Int):kB t F=if t=255 then F else F.filter (fun r=>r.type == t):=by
 have PY:=KC bu F.length 0 F aA;unfold kB nX;split;{rename_i h;rw[Cu.2 (fun x _=>by unfold kA;simp[h])];exact PY};{
 rename_i h;have key:∀(l:List (Nat×List ai)),(∀x∈l,∀r∈x.2,r.type=l_ x)->(l.filter (kA t)).flatMap (·.2)=(l.flatMap (·.2)).filter (fun r=>r.type == t):=by{
 intro l;induction l with
 | nil=>intro _;rfl
 | cons x l ih =>{
 intro hl;have i1:=ih (fun y hy=>hl y (jY _ hy));have hx:=hl x ar;rw[iV,vV,<- i1];by_cases ht:kA t x=true;{rw[rG ht,iV];congr 1;symm;rw[Cu];intro r hr;unfold kA at ht;rw[hx r hr];simp[h]at ht;simp[ht]};{
 rw[uw (by simpa using ht)];have:x.2.filter (fun r=>r.type == t) = []:=by{
 rw[rH];intro r hr hc;refine ht ?_;unfold kA;rw[hx r hr]at hc;have:l_ x=t:=by simpa using hc
 simp[this]};rw[this];rfl}}};rw[key _ (fun x hx=>(PW hF hx).1)];exact dE _ PY}
theorem aoq(t:Int):tE t F = !(kB t F).isEmpty:=by
 unfold tE kB nX;have key:∀(l:List (Nat×List ai)),(∀x∈l,x.2≠[])->l.any (kA t) = !((l.filter (kA t)).flatMap (·.2)).isEmpty:=by{
 intro l;induction l with
 | nil=>intro _;rfl
 | cons x l ih =>{
 intro hl;rw[List.any_cons];by_cases ht:kA t x=true;{
 rw[rG ht,iV,ht];have:=hl x ar;cases hx:x.2 with
 | nil=>exact absurd hx this
 | cons y s=>rfl};{
 rw[uw (by simpa using ht),ih (fun y hy=>hl y (jY _ hy))];have:kA t x=false:=by simpa using ht
 rw[this,Av]}}};exact key _ (fun x hx=>(PW hF hx).2.1)
include hn in
theorem acW(k:Int):gi F k=F.filter (fun r=>r.type == k):=by
 unfold gi;cases hf:(bz bu F).find? (fun x=>l_ x == k)with
 | some x =>{
 have hm:=J6 hf;have ht:l_ x=k:=by simpa using SI hf
 obtain⟨r,hr,hh,e⟩:=(FH hF).1 x hm;have wW:r∈x.2:=by rw[e];exact fA.2 ⟨hr,(wU r r).2 rfl⟩
 have hrt:=(PW hF hm).1 r wW;show x.2=_;rw[e];refine List.filter_congr (fun y hy=>?_);rw[rE,wU,fe,Hv];refine⟨fun h=>by rw[<- h.2,hrt,ht],fun h=>⟨hn r hr y hy,by rw[hrt,ht,h]⟩⟩}
 | none =>{
 show []=_;symm;rw[rH];intro r hr hc;obtain⟨x,hx,e⟩:=(FH hF).2 r hr;have wW:r∈x.2:=by rw[e];exact fA.2 ⟨hr,(wU r r).2 rfl⟩
 have hrt:=(PW hF hx).1 r wW;have:=SH.1 hf x hx;rw[<- hrt]at this;exact this hc}
include hn in
theorem aor(m:Nat):F.filter (fun r=>decide (r.type<(m:Int)))++F.filter (fun r=>r.type == (m:Int))=F.filter (fun r=>decide (r.type<((m+1:Nat):Int))):=by
 have key:∀(F:List ai),fN bm F->(∀a∈F,∀b∈F,a.owner=b.owner)->F.filter (fun r=>decide (r.type<(m:Int)))++F.filter (fun r=>r.type == (m:Int))=F.filter (fun r=>decide (r.type<((m+1:Nat):Int))):=by{
 intro F;induction F with
 | nil=>intro _ _;rfl
 | cons a F ih =>{
 intro hF hn;have h':=xL.1 hF;have i1:=ih h'.2 (fun x hx y hy=>hn x (jY _ hx) y (jY _ hy));by_cases h1:a.type<(m:Int);{rw[rG (by simpa using h1),uw aP,rG aP,fU,i1]};{
 rw[uw (by simpa using h1)];have h0:F.filter (fun r=>decide (r.type<(m:Int))) = []:=by{
 rw[rH];intro y hy hc;have hc':y.type<(m:Int):=by simpa using hc
 have:=(Pv (h'.1 y hy)).2 (hn y (jY _ hy) a ar);omega};rw[h0]at i1 ⊢;by_cases h2:a.type=(m:Int);{rw[rG (by simpa using h2),rG aP,gb,<- i1,gb]};{rw[uw (by simpa using h2),uw aP,i1]}}}};exact key F hF hn
include hn in
theorem aos(m:Nat)(h0:∀r∈F,0<=r.type):(List.range m).flatMap (fun k:Nat=>F.filter (fun r=>r.type == (k:Int)))=F.filter (fun r=>decide (r.type<(m:Int))):=by
 induction m with
 | zero =>{
 symm;show _ = [];rw[rH];intro r hr hc;have:=h0 r hr;have:r.type<((0:Nat):Int):=by simpa using hc
 omega}
 | succ m ih =>{rw[J7,sZ,ih,<- aor hF hn m];simp}
end
theorem Dn(rs:List ai)(n:ah):cB (aN rs) n=(aN rs).filter (fun r=>r.owner == n):=acs (FE rs) n
theorem Ll(rs:List ai)(n:ah):∀a∈cB (aN rs) n,∀b∈cB (aN rs) n,a.owner=b.owner:=fun a ha b hb=>by
 rw[Dn]at ha hb;have h1:=(fA.1 ha).2;have h2:=(fA.1 hb).2;simp only[fe]at h1 h2;rw[h1,h2]
theorem FT(rs:List ai)(n:ah):fN bm (cB (aN rs) n):=by rw[Dn];exact aop (FE rs) _
theorem Ir(rs:List ai)(n:ah)(k:Int):gi (cB (aN rs) n) k=eH rs n k:=by rw[acW (FT rs n) (Ll rs n),Dn,Vh,Vg]
theorem Lm{rs:List ai}{n:ah}{r:ai}(h:r∈cB (aN rs) n):r∈rs/\r.owner=n:=by rw[Dn]at h;have:=fA.1 h;exact⟨(zO rs).mem_iff.1 this.1,by simpa using this.2⟩
theorem Vi(rs:List ai)(n:ah)(t:Int)(dJ:sF rs):kB t (cB (aN rs) n)=dL rs n t:=by rw[PX (FT rs n)];unfold dL;split;{have:=aos (FT rs n) (Ll rs n) 17 (fun r hr=>by have:=(dJ r (Lm hr).1).1;omega);rw[Cu.2 (fun r hr=>by have:=(dJ r (Lm hr).1).2;simp;omega)]at this;rw[<- this];congr 1;funext k;rw[Dn,Vh,Vg]};{rw[Dn,Vh,Vg]}
theorem acX{F:List ai}(h:fN bm F)(hn:∀a∈F,∀b∈F,a.owner=b.owner)(m:ah):fN bm (F.map (eM m)):=by unfold fN;rw[List.pairwise_map];refine List.Pairwise.imp_of_mem (fun {a b} ha hb hab=>?_) h;rw[<- qI];intro hl;rcases(FD _ _).1 hl with h1|⟨_,h1⟩;{rw[show(eM m b).owner=m from rfl,show(eM m a).owner=m from rfl,Po]at h1;cases h1};{exact(Pv hab).2 (hn b hb a ha) h1}
theorem aot{F:List ai}(h:fN bm F)(hn:∀a∈F,∀b∈F,a.owner=b.owner)(m:ah)(t:Int):kB t (F.map (eM m))=(kB t F).map (eM m):=by rw[PX (acX h hn m),PX h];split;{rfl};{rw[List.filter_map];rfl}
theorem Vj(rs:List ai)(n m:ah)(t:Int)(dJ:sF rs):kB t ((cB (aN rs) n).map (eM m))=(dL rs n t).map (eM m):=by rw[aot (FT rs n) (Ll rs n),Vi rs n t dJ]
theorem aou(rs:List ai)(n:ah)(k:Int)(dJ:sF rs):(kD rs (aT n) k rs.length).map (fun j=>rs[j]?.getD ai.zero)=eH rs n k:=by
 have key:∀i,i<=rs.length->(kD rs (aT n) k i).map (fun j=>rs[j]?.getD ai.zero)=eH (rs.take i) n k:=by{
 intro i;induction i with
 | zero=>intro _;rfl
 | succ i ih =>{intro ax;rw[acQ,gJ,ih ae,gp ae];unfold eH;rw[vV];congr 1;have hp:FR rs (aT n) k i=(rs[i].owner == n && rs[i].type == k):=by{unfold FR;rw[iw ae];show(decide (az 46 rs[i].owner=aT n) && _)=_;congr 1;rw[rE,Hy,fe];exact bN (dJ _ (cM _)).2.2};rw[hp];by_cases h:(rs[i].owner == n && rs[i].type == k)=true;{rw[aJ h,rG (p:=fun r:ai=>r.owner == n && r.type == k) h];simp[iw (show i<rs.length by omega)]};{rw[aF h,uw (p:=fun r:ai=>r.owner == n && r.type == k) h];rfl}}};have:=key rs.length aA;rw[gV]at this;exact this
theorem acY{rs:List ai}(dJ:sF rs)(n:ah){t:Int}(ht:t<1\/16<t):eH rs n t = []:=by
 unfold eH;rw[rH];intro r hr hc;have:=dJ r hr;have:r.type=t:=by simp at hc;exact hc.2
 omega
theorem aov(rs:List ai)(n:ah)(t:Int)(dJ:sF rs):(lS rs (aT n) t 17).map (fun j=>rs[j]?.getD ai.zero)=dL rs n t:=by
 have key:∀m,(lS rs (aT n) t m).map (fun j=>rs[j]?.getD ai.zero)=(List.range m).flatMap fun k:Nat=>if t≠255/\t≠(k:Int)then []else eH rs n (k:Int):=by{
 intro m;induction m with
 | zero=>rfl
 | succ m ih =>{rw[lS,gJ,ih,J7,sZ];congr 1;simp only[iV,Hr,h_];split;{rfl};{split;{rename_i h;subst h;rw[acY dJ n (.inl ae)];rfl};{exact aou rs n m dJ}}}}
 rw[key];unfold dL;split;{rename_i h;simp[h]};{
 rename_i h;have k2:∀m:Nat,((List.range m).flatMap fun k:Nat=>if t≠255/\t≠(k:Int)then []else eH rs n (k:Int))=if 0<=t/\t<(m:Int)then eH rs n t else []:=by{
 intro m;induction m with
 | zero=>rw[aF ae];rfl
 | succ m ih =>{rw[J7,sZ,ih];simp only[iV,Hr,h_];by_cases h1:t=(m:Int);{rw[aF ae,aF (by simp[h1]),aJ ae,<- h1];rfl};{rw[aJ (show t≠255/\t≠(m:Int)from⟨h,h1⟩),h_];by_cases h2:0<=t/\t<(m:Int);{rw[aJ h2,aJ ae]};{rw[aF h2,aF ae]}}}}
 rw[k2];split;{rfl};{rename_i h2;exact(acY dJ n ae).symm}}
theorem aow(rs:List ai)(m:ah)(js:List Nat):js.map (PS rs m)=(js.map (fun j=>rs[j]?.getD ai.zero)).map (eM m):=by rw[kY];rfl
theorem aox(rs:List ai)(n m:ah)(t:Int)(dJ:sF rs):(lS rs (aT n) t 17).map (PS rs m)=(dL rs n t).map (eM m):=by rw[aow,aov rs n t dJ]
theorem acZ(rs:List ai)(n:ah)(t:Int):(dL rs n t).map (eM n)=dL rs n t:=by
 have h1:∀k,(eH rs n k).map (eM n)=eH rs n k:=fun k=>by{
 conv=>rhs;rw[<- EP (eH rs n k)]
 refine oB (fun r hr=>?_);have:=(fA.1 hr).2;simp only[cY,fe]at this;unfold eM;rw[<- this.1];rfl};unfold dL;split;{rw[List.map_flatMap];congr 1;funext k;exact h1 k};{exact h1 t}
theorem Vk(rs:List ai)(n:ah)(t:Int)(dJ:sF rs):iG rs (aT n) t = !(dL rs n t).isEmpty:=by
 rw[rE];have hm:∀(l:List ai),(!l.isEmpty)=true ↔ ∃r,r∈l:=fun l=>by cases l <;> simp
 rw[hm];unfold iG dL eH;rw[oA];constructor;{rintro⟨r,hr,h⟩;rw[cY,Hy,xK]at h;have ho:=(bN (dJ r hr).2.2).1 h.1;refine⟨r,?_⟩;split;{rw[Ay];have:=dJ r hr;refine⟨r.type.toNat,aP,fA.2 ⟨hr,?_⟩⟩;rw[Int.toNat_of_nonneg ae];simp[ho]};{rename_i gS;refine fA.2 ⟨hr,?_⟩;rcases h.2 with h2|h2;{exact absurd (by simpa using h2) gS};{simp[ho];simpa using h2}}};{rintro⟨r,hr⟩;split at hr;{rename_i gS;obtain⟨k,_,hk⟩:=Ay.1 hr;have:=fA.1 hk;simp only[cY,fe]at this;exact⟨r,this.1,by simp[gS,(bN (dJ r this.1).2.2).2 this.2.1]⟩};{have:=fA.1 hr;simp only[cY,fe]at this;exact⟨r,this.1,by simp[(bN (dJ r this.1).2.2).2 this.2.1,this.2.2]⟩}}
def Iu(o:ah)(rs:List ai)(ns:List ah)(g off cap:Nat)(v:Value):Prop :=
 (v=aH/\∀j,j+(az 46 o).length<ns.length->iG rs (ns.drop j) 2=false) \/
 ∃i,i+(az 46 o).length<ns.length/\iG rs (ns.drop i) 2=true/\(∀j,i<j->j+(az 46 o).length<ns.length->iG rs (ns.drop j) 2=false)/\v=aD g (off+i) (ns.length - i) (cap - i)
theorem aoy(zb:Nat)(o:ah)(rs:List ai)(g no nc:Nat)(ns:List ah)(w:World)(hz:mM w zb o rs)(hf:Bk o rs)(hu:fS w g no ns)(qa:ns.length<=nc)(hn:ns.length<=1000)(hm:(az 46 o).length<=ns.length) :
  aB 236 #[aM zb,aD g no ns.length nc] w fun e w'=>(∃v,e=.returned v/\Iu o rs ns g no nc v)/\au w w':=by
 have HU:=ag hu;have dv:=ag hz;obtain⟨vo,b,off,cap,z0,z1,z2,z3⟩:=hz;have hzl:zb<w.heap.size:=(bV.1 z0).1;have tT:=ag z0;have np:=hu.1;have aW:=ag hf;obtain⟨Ip,oo,oc,rfl,oO,aoz⟩:=z1;have nT:=Di o;have azL:w.cell? (ak zb 0)=some (aD Ip oo (az 46 o).length oc):=by{unfold World.cell?; rw[z0];rfl};have aoA:Hid (∀v,Iu o rs ns g no nc v ↔ Iu o rs ns g no nc v):=fun _=>JU;have qZ:Hid (∀v,v=Value.slice none 0 0->(∀j,j+(az 46 o).length<ns.length->iG rs (ns.drop j) 2=false)->Iu o rs ns g no nc v):=fun v h1 h2=>.inl ⟨h1,h2⟩;have wV:Hid (∀i,i+(az 46 o).length<ns.length->iG rs (ns.drop i) 2=true->(∀j,i<j->j+(az 46 o).length<ns.length->iG rs (ns.drop j) 2=false)->Iu o rs ns g no nc (aD g (no+i) (ns.length - i) (nc - i))):=fun i h1 h2 h3=>.inr ⟨i,h1,h2,h3,rfl⟩;generalize hM:(az 46 o).length=M at *;clear z0 z3 hu hf aoz hM aoA;go_enter func236,ntmps236;go_wp2_with fail;go_loopw [5] (fun i wr=>∃k:Nat,k+M<=ns.length/\i=aj ((k:Int) - 1)/\(∀j,k<=j->j+M<ns.length->iG rs (ns.drop j) 2=false)/\au w wr) (fun i _=>(intOf i+1).toNat);case atStart=>exact⟨ns.length - M,ae,by congr 1;omega,fun j h1 h2=>ae,bR _ _⟩
 case round =>(
 obtain⟨k,hk,rfl,hno,hb⟩:=hrel;have ac0:=ag hno;have aX:=ag hb;cases k with
 | zero =>{have gy:¬(0:Int)<=(((0:Nat):Int) - 1):=ae;have bI:=ag (qZ _ rfl fun j hj=>hno j (cV _) hj);clear hno hb;go_wp2;go_ret;exact⟨⟨_,rfl,bI⟩,aX⟩}
 | succ i =>{have e1:(((i+1:Nat):Int) - 1)=(i:Int):=ae;rw[e1];have hI:(0:Int)<=(i:Int):=ae;have yu:i<=ns.length:=ae;have KR:¬nc=i:=ae;have HS:=ag (PA zb o rs _ (ns.drop i) 2 wr (dv.below hb) (af aW) (OX (HU.below hb) qa i yu) (by rw[fM];omega));clear hno hb;go_wp2_with fail;refine HS.mono ?_;rintro e w1 ⟨rfl,hb1⟩;have bZ:=ag (aX.trans (hb1.mono aX.size));clear hb1 HS;cases hs:iG rs (ns.drop i) 2;{have bI:Hid (∀j,i<=j->j+M<ns.length->iG rs (ns.drop j) 2=false):=fun j h1 h2=>by{rcases SX i j with h|h;{exact ac0 j h h2};{have:j=i:=ae;rw[this];exact hs}};clear hs;go_wp2;exact⟨⟨i,ae,bW,bI,bZ⟩,by simp[intOf]⟩};{have bI:=ag (wV i ae hs fun j h1 h2=>af ac0 j h1 h2);clear hs;go_wp2;go_ret;exact⟨⟨_,rfl,bI⟩,bZ⟩}})
def tU(rs:List ai)(ns:List ah):Bool:=rs.any fun r=>lR (az 46 r.owner) ns
theorem Vl(zb:Nat)(o:ah)(rs:List ai)(u:Value)(ns:List ah)(w:World)(hz:mM w zb o rs)(hf:Bk o rs)(hu:en w u ns)(hn:ns.length<=1000)(eQ:0<ns.length) :
  aB 143 #[aM zb,u] w (bQ (.bool (tU rs ns)) w):=by
 have HU:=ag hu;have dv:=ag hz;obtain⟨vo,b,off,cap,z0,z1,z2,z3⟩:=hz;have hzl:zb<w.heap.size:=(bV.1 z0).1;have bC:=ag z3;have tT:=ag z0;have oM:=hf.2.1;have aW:=ag hf;clear z0 z1 z3 hu hf;go_enter func143,ntmps143;go_wp2_with fail;go_loopw [5] (fun i wr=>∃k:Nat,k<=rs.length/\i=aj k/\(rs.take k).any (fun r=>lR (az 46 r.owner) ns)=false/\au w wr) (fun i _=>rs.length - (intOf i).toNat);case atStart=>exact⟨0,cV _,rfl,rfl,bR _ _⟩
 case round =>(obtain⟨k,hk,rfl,hno,hb⟩:=hrel;have qZ:=ag hno;have aX:=ag hb;have zc:wr.cell? (ak zb 1)=some (aD b off rs.length cap):=by{have:=(hb.block zb hzl).trans tT;unfold World.cell?; rw[this];rfl};by_cases hlt:k<rs.length;{have gy:(k:Int)<(rs.length:Int):=ae;obtain⟨ro,rw',c0,aC,c2,c3,aV,gh,jF⟩:=((af bC) k hlt).below hb;have hrl:=aW.2.2 rs[k] (cM hlt);have nV:=ag (acu (fun r=>lR (az 46 r.owner) ns) rs k hlt hno);have wV:Hid (lR (az 46 rs[k].owner) ns=true->tU rs ns=true):=fun h=>oA.2 ⟨rs[k],cM hlt,h⟩;have HS:=ag (OY ro u (az 46 rs[k].owner) ns wr gh (HU.below hb) (p8 hrl) hn eQ);generalize rs[k]=r at *;clear aC c2 c3 aV gh jF hno hb hrl;go_wp2_with fail;refine HS.mono ?_;rintro e w1 ⟨rfl,hb1⟩;have bZ:=ag (aX.trans (hb1.mono aX.size));clear hb1 HS;cases hs:lR (az 46 r.owner) ns;{have bI:Hid ((rs.take (k+1)).any (fun r=>lR (az 46 r.owner) ns)=false):=af nV hs;clear hs;go_wp2;exact⟨⟨k+1,ae,bW,bI,bZ⟩,c5⟩};{have bI:=ag (wV hs);clear hs;go_wp2;go_ret;exact⟨cA bI.symm,bZ⟩}};{have gy:¬(k:Int)<(rs.length:Int):=ae;have ng:k=rs.length:=ae;have bI:Hid (tU rs ns=false):=by{have:=af qZ;rw[ng,gV]at this;exact this};clear hno hb;go_wp2;go_ret;exact⟨cA bI.symm,aX⟩})
theorem Iw:prog.underlying 113=some (.slice 9):=aI
theorem aoB:(prog.info? 9).map (fun i=>(i.zero,i.size,i.bytes))=some (some (.string ⟨#[]⟩),1,16):=aI
def tV(rs:List ai)(ns:List ah)(i:Nat):Nat->Option (List ah)
 | 0=>none
 | f+1=>if tU rs (ns.drop i)then(if iG rs ([42] :: ns.drop i) 255 then some ([42] :: ns.drop i)else none)else tV rs ns (i+1) f
def rf(rs:List ai)(ns:List ah):Option (List ah):=if tU rs ns then some ns else tV rs ns 1 (ns.length - 1)
def aoC(w':World)(v:Value):Option (List ah)->Prop
 | none=>v=aH
 | some l=>en w' v l
theorem aoD(W:World)(base:Nat)(v:Value)(t:TypeId)(hb:base<=W.heap.size):(W.alloc (.cells #[v] t)).ownsRow base t 1 (aD W.heap.size 0 1 1) 1 [v] :=
 ⟨rfl,.inr ⟨W.heap.size,1,#[v],rfl,hb,World.alloc_heap_new W _,bH _,by unfold maxLen;omega,rfl,rfl⟩⟩
theorem aoE{W:World}{g no:Nat}{ns:List ah}(o:Obj)(h:fS W g no ns)(i:Nat):∀(j:Nat) (u:Value),((ns.drop i).map fun l=>Value.string (aq l))[j]? = some u->(W.alloc o).cell? (((ak g (no+i)):Addr).add j)=some u:=fun j u hu=>by
 have hadd:((ak g (no+i)):Addr).add j=(ak g (no+(i+j))):=by unfold Addr.add;simp[CB]
 rw[hadd];rw[Cv,NM]at hu;cases hl:ns[i+j]? with
 | none=>rw[hl]at hu;cases hu
 | some x =>
  rw[hl]at hu;obtain⟨hlt,hx⟩:=jX.1 hl;have:=h.2 (i+j) hlt;rw[hx]at this;have e:Value.string (aq x)=u:=by simpa using hu
  rw[<- e];exact(dh (cD W o g h.1)).trans this
theorem aoF(l:List ah):∀u∈l.map (fun l=>Value.string (aq l)),u.oneCell'=true:=by intro u hu;obtain⟨x,_,rfl⟩:=jZ.1 hu;rfl
theorem aoG(zb:Nat)(o:ah)(rs:List ai)(g no nc:Nat)(ns:List ah)(w:World)(hz:mM w zb o rs)(hf:Bk o rs)(hu:fS w g no ns)(qa:ns.length<=nc)(hn:ns.length<=999)(eQ:0<ns.length) :
  aB 238 #[aM zb,aD g no ns.length nc] w fun e w'=>(∃v,e=.returned v/\aoC w' v (rf rs ns))/\au w w':=by
 obtain⟨i0,lQ,hz0,hz1,hz2⟩:=kJ aoB;have HU:=ag hu;have dv:=ag hz;have aW:=ag hf;have cS:=ag (Vl zb o rs _ ns w hz hf ⟨g,no,nc,rfl,qa,hu⟩ ae eQ);clear hz hf hu;go_enter func238,ntmps238;go_wp2_with fail;refine cS.mono ?_;rintro e w1 ⟨rfl,hb1⟩;have bZ:=ag hb1;clear hb1 cS;have Iy:Hid (rf rs ns=if tU rs ns then some ns else tV rs ns 1 (ns.length - 1)):=rfl;cases qO:tU rs ns;{
 have jQ:Hid (rf rs ns=tV rs ns 1 (ns.length - 1)):=by{have:=af Iy;rw[qO]at this;exact this};clear qO Iy;go_wp2_with fail;go_loopw [6] (fun iv wr=>∃i:Nat,1<=i/\i<=ns.length/\iv=aj i/\rf rs ns=tV rs ns i (ns.length - i)/\au w wr) (fun iv _=>ns.length - (intOf iv).toNat);case atStart=>exact⟨1,ae,ae,rfl,jQ,bZ⟩
 case round =>(clear jQ;obtain⟨i,Ic,yu,rfl,fk,hb⟩:=hrel;have Iy:=ag fk;have aX:=ag hb;by_cases hlt:i<ns.length;{have gy:(i:Int)<(ns.length:Int):=ae;have KR:¬nc=i:=ae;have kQ:(ns.drop i).length=ns.length - i:=fM;have cS:=ag (Vl zb o rs _ (ns.drop i) wr (dv.below hb) (af aW) (OX (HU.below hb) qa i ae) ae ae);have Vm:Hid (rf rs ns=if tU rs (ns.drop i)then(if iG rs ([42] :: ns.drop i) 255 then some ([42] :: ns.drop i)else none)else tV rs ns (i+1) (ns.length - (i+1))):=by{have:ns.length - i=(ns.length - (i+1))+1:=ae;rw[this,tV]at fk;exact fk};clear fk hb Iy;go_wp2_with fail;refine cS.mono ?_;rintro e w2 ⟨rfl,hb2⟩;have bU:=ag (aX.trans (hb2.mono aX.size));clear hb2 cS;cases qO:tU rs (ns.drop i);{have bI:Hid (rf rs ns=tV rs ns (i+1) (ns.length - (i+1))):=by{have:=af Vm;rw[qO]at this;exact this};clear qO;go_wp2;exact⟨⟨i+1,ae,ae,bW,bI,bU⟩,c5⟩};{have bI:Hid (rf rs ns=if iG rs ([42] :: ns.drop i) 255 then some ([42] :: ns.drop i)else none):=by{have:=af Vm;rw[qO]at this;exact this};clear qO Vm;have bT:=bU.size;have C7:=ag (HU.below bU);have kL:=C7.1;go_wp2_with (at_builtin;go_loud (refine CH _ rfl (.tmp 26) (.tmp 29) 113 rfl w.heap.size 9 i0 (.string ⟨#[]⟩) 1 16 Iw lQ hz0 hz1 hz2 rfl bD _ 1 [ay [42]] rfl (aoD _ _ _ _ bT) (ak g (no+i)) (ns.length - i) (nc - i) ((ns.drop i).map fun l=>ay l) rfl (by rw[bY,kQ,zf]) (aoE _ (af C7) i) (aoF _) (by unfold maxLen;omega) ae aP ?_));intro v' w3 hown hgrow hnil hat;have jG:Hid (en w3 v' ([42] :: ns.drop i)):=by{have hst:mK w3 w.heap.size v' ([42] :: ns.drop i):=by{refine⟨?_,⟨fun h=>?_,fun h=>by simp at h⟩⟩;{rw[bP,kQ,jL,Nat.add_comm,J4];exact hown};{exact absurd h hnil}};obtain⟨q,ac1,k1,k2,k3,k4⟩:=zH hst ar;exact⟨q,0,ac1,k1,k2,k4⟩};have ij:au w w3:=⟨hgrow.os.trans bU.os,hgrow.tape.trans bU.tape,hgrow.output.trans bU.output,a_ aP hgrow.size,fun q hq=>(hgrow.block q aP (fun hc=>by simp[Value.ownBlock]at hc;omega)).trans ((((bR w2.heap.size w2).alloc aA _).block q ae).trans (bU.block q hq))⟩;have cK:=ag ij;have HH:=ag (PA zb o rs v' ([42] :: ns.drop i) 255 w3 (dv.below ij) (af aW) (af jG) aP);obtain⟨ya,yn,p9,rfl⟩:∃a n c,v'=.slice a n c:=by{obtain⟨q,azM,ac1,k1,_⟩:=af jG;exact⟨_,_,_,k1⟩};clear hown hgrow hnil hat ij;go_wp2_with fail;refine HH.mono ?_;rintro e w4 ⟨rfl,hb4⟩;have jb:=ag (cK.trans (hb4.mono cK.size));have zA:=ag (jG.below hb4);clear hb4 HH;cases hh:iG rs ([42] :: ns.drop i) 255;{have dn:Hid (rf rs ns=none):=by{have:=af bI;rw[hh]at this;exact this};clear hh;go_wp2;go_ret;exact⟨⟨_,rfl,by rw[af dn];rfl⟩,jb⟩};{have dn:Hid (rf rs ns=some ([42] :: ns.drop i)):=by{have:=af bI;rw[hh]at this;exact this};clear hh;go_wp2;go_ret;exact⟨⟨_,rfl,by rw[af dn];exact zA⟩,jb⟩}}};{have gy:¬(i:Int)<(ns.length:Int):=ae;have dn:Hid (rf rs ns=none):=by{have h1:ns.length - i=0:=ae;rw[h1,tV]at fk;exact fk};clear fk hb;go_wp2;go_ret;exact⟨⟨_,rfl,by rw[af dn];rfl⟩,aX⟩})};{have jQ:Hid (rf rs ns=some ns):=by{have:=af Iy;rw[qO]at this;exact this};clear qO Iy;go_wp2;go_ret;exact⟨⟨_,rfl,by rw[af jQ];exact⟨g,no,nc,rfl,qa,HU.below bZ⟩⟩,bZ⟩}
def fC(n:ah):Prop:=∀x∈az 46 n,x≠[]
def gB(n:ah)(i:Nat):ah:=C5 ((az 46 n).drop i)
def wX(rs:List ai)(ns:List ah):Nat->Option Nat
 | 0=>none
 | k+1=>if iG rs (ns.drop k) 2 then some k else wX rs ns k
theorem ac2:∀(i:Nat) (n:ah),i<(az 46 n).length->∃m,az 46 m=(az 46 n).drop i
 | 0,n,_=>⟨n,rfl⟩
 | i+1,n,h=>by rcases oJ 46 n with⟨_,e⟩|⟨a,b,_,_,e⟩;{rw[e]at h;simp at h};{rw[e]at h ⊢;obtain⟨m,hm⟩:=ac2 i b (by simpa using h);exact⟨m,by rw[hm];rfl⟩}
theorem ac3{n:ah}{i:Nat}(h:i<(az 46 n).length):az 46 (gB n i)=(az 46 n).drop i:=by obtain⟨m,hm⟩:=ac2 i n h;unfold gB;rw[<- hm,O0]
theorem PZ{n:ah}{i:Nat}(h:i<(az 46 n).length):aT (gB n i)=(aT n).drop i:=by unfold aT;rw[ac3 h,J4]
theorem ac4(n:ah):gB n 0=n:=by unfold gB;rw[Aw,O0]
theorem Vn{n:ah}(h:fC n):n≠[]:=by rintro rfl;exact h [] bD rfl
theorem ac5:∀(f:Nat) (n:ah),n.length<=f->fC n->cg n=(List.range (az 46 n).length).map (gB n)
 | 0,n,h,hn=>absurd (fp ae) (Vn hn)
 | f+1,n,h,hn=>by
  rw[qP n (Vn hn)];rcases oJ 46 n with⟨h1,e⟩|⟨a,b,e0,h1,e⟩;{rw[Fc n h1,rS,e];show _ = [gB n 0];rw[ac4]};{
  have hb:fC b:=fun x hx=>hn x (by rw[e];exact jY _ hx);have hl:b.length<=f:=by rw[e0]at h;simp at h;omega
  have ha:ik n=b:=by rw[e0];exact CR a b h1
  rw[ha,ac5 f b hl hb,e,bP,SS,jL,kY,ac4];congr 1;refine oB (fun i _=>?_);show gB b i=gB n (i+1);unfold gB;rw[e];rfl}
theorem ac6{n:ah}(hn:fC n):cg n=(List.range (az 46 n).length).map (gB n):=ac5 _ n aA hn
theorem aoH{n:ah}(hn:fC n):cg (ik n)=(List.range ((az 46 n).length - 1)).map (fun i=>gB n (i+1)):=by have h:=ac6 hn;rw[qP n (Vn hn)]at h;obtain⟨k,hk⟩:∃k,(az 46 n).length=k+1:=⟨(az 46 n).length - 1,by have:=Di n;omega⟩;rw[hk,SS,jL,kY]at h;rw[hk];exact(Hq h).2
theorem Vo{n o:ah}(hu:dy n o=true):(az 46 o).length<=(az 46 n).length/\(az 46 n).drop ((az 46 n).length - (az 46 o).length)=az 46 o:=by rw[<- KU]at hu;unfold lR at hu;simpa using hu
theorem aoI{n o:ah}(hu:dy n o=true):gB n ((az 46 n).length - (az 46 o).length)=o:=by unfold gB;rw[(Vo hu).2,O0]
def FU(L:List ai)(n:ah):Nat->List ai
 | 0=>[]
 | k+1=>pw L (FU L n k) (gB n k)
theorem ac7(L:List ai)(n:ah):∀k,((List.range k).map (gB n)).foldl (pw L) []=FU L n k
 | 0=>rfl
 | k+1=>by rw[J7,gJ,Ax,ac7 L n k];rfl
theorem aoJ{n o:ah}(L:List ai)(hn:fC n)(hu:dy n o=true):cU o L n=FU L n ((az 46 n).length - (az 46 o).length):=by have h1:=(Vo hu).1;have hp:=Di o;unfold cU;rw[ac6 hn];have hlt:(az 46 n).length - (az 46 o).length<(az 46 n).length:=ae;rw[TM _ _ ((az 46 n).length - (az 46 o).length) o (by rw[Cv,List.getElem?_range hlt];exact dE some (aoI hu)) ?_ ar,<- SM,List.take_range,v_ ae,ac7];rw[<- SM,List.take_range,v_ ae,vT];intro e he;obtain⟨i,ax,rfl⟩:=jZ.1 he;have hi':=NS.1 ax;have:gB n i≠o:=fun hc=>by{have h2:=dE (fun x=>(az 46 x).length) hc;rw[ac3 ae,fM]at h2;omega};simpa using this
theorem ac8(rs:List ai)(n:ah):dL rs n 2=eH rs n 2:=by unfold dL;rw[aF bD]
theorem ac9(rs:List ai)(dJ:sF rs)(n:ah):∀k,k<=(az 46 n).length->(wX rs (aT n) k=none/\FU (aN rs) n k = [])\/∃i,i<k/\wX rs (aT n) k=some i/\FU (aN rs) n k=eH rs (gB n i) 2/\eH rs (gB n i) 2≠[]
 | 0,_=>.inl ⟨rfl,rfl⟩
 | k+1,hk=>by
  have ih:=ac9 rs dJ n k ae;have hh:iG rs ((aT n).drop k) 2 = !(eH rs (gB n k) 2).isEmpty:=by{rw[<- PZ ae,Vk rs _ 2 dJ,ac8]};have hc:FU (aN rs) n (k+1)=if(eH rs (gB n k) 2).length=0 then FU (aN rs) n k else eH rs (gB n k) 2:=by{show pw _ _ _=_;unfold pw;rw[Ir]}
  rw[hc];unfold wX;rw[hh];cases ho:eH rs (gB n k) 2 with
  | nil =>{simp only[List.isEmpty_nil,Bool.not_true,EK,ET,fy,gZ];rcases ih with h|⟨i,ax,h1,h2,h3⟩;{exact .inl h};{exact .inr ⟨i,ae,h1,h2,h3⟩}}
  | cons x t =>{refine .inr ⟨k,ae,ar,?_,?_⟩;{rw[ho];simp};{rw[ho];simp}}
theorem P0{rs:List ai}(dJ:sF rs){n o:ah}(hn:fC n)(hu:dy n o=true) :
  (wX rs (aT n) ((aT n).length - (az 46 o).length)=none/\cU o (aN rs) n = []) \/
  ∃i,i<(aT n).length - (az 46 o).length/\wX rs (aT n) ((aT n).length - (az 46 o).length)=some i/\cU o (aN rs) n=eH rs (gB n i) 2/\eH rs (gB n i) 2≠[]:=by rw[aoJ _ hn hu,yw];exact ac9 rs dJ n _ ae
theorem ac_{rs:List ai}{ns:List ah} : ∀k,(∀j,j<k->iG rs (ns.drop j) 2=false)->wX rs ns k=none
 | 0,_=>rfl
 | k+1,h=>by unfold wX;rw[h k ae,aF ar];exact ac_ k (fun j hj=>h j ae)
theorem ada{rs:List ai}{ns:List ah}{i:Nat}(ax:iG rs (ns.drop i) 2=true):∀k,i<k->(∀j,i<j->j<k->iG rs (ns.drop j) 2=false)->wX rs ns k=some i
 | 0,h,_=>absurd h ae
 | k+1,h,hf=>by unfold wX;by_cases e:i=k;{subst e;rw[ax,aJ rfl]};{rw[hf k ae ae,aF ar];exact ada ax k ae (fun j h1 h2=>hf j h1 ae)}
theorem aoK{o:ah}{rs:List ai}{ns:List ah}{g off cap:Nat}{v:Value}(h:Iu o rs ns g off cap v) :
  (v=aH/\wX rs ns (ns.length - (az 46 o).length)=none) \/
  ∃i,i+(az 46 o).length<ns.length/\wX rs ns (ns.length - (az 46 o).length)=some i/\v=aD g (off+i) (ns.length - i) (cap - i):=by rcases h with⟨h1,h2⟩|⟨i,h1,h2,h3,h4⟩;{exact .inl ⟨h1,ac_ _ (fun j hj=>h2 j ae)⟩};{exact .inr ⟨i,h1,ada h2 _ ae (fun j k1 k2=>h3 j k1 ae),h4⟩}
theorem Vp(rs:List ai)(dJ:sF rs)(n:ah):jC (aN rs) n=tU rs (aT n):=by rw[rE];unfold jC tU uH;rw[y9,<- qI,List.isEmpty_iff,rH,oA];constructor;{intro h;refine Cs fun hc=>h fun x hx hu=>hc ?_;obtain⟨r,hr,_,e⟩:=(Dg (FE rs)).1 x hx;rw[Df hr e]at hu;exact⟨r,(zO rs).mem_iff.1 hr,by rw[Vf (dJ r ((zO rs).mem_iff.1 hr)).2.2];exact hu⟩};{rintro⟨r,hr,hu⟩ hc;have hr':=(zO rs).mem_iff.2 hr;obtain⟨x,hx,e⟩:=(Dg (FE rs)).2 r hr';refine hc x hx ?_;rw[Df hr' e,<- Vf (dJ r hr).2.2];exact hu}
theorem adb(rs:List ai)(dJ:sF rs)(n:ah):cB (aN rs) n=dL rs n 255:=by rw[<- Vi rs n 255 dJ,PX (FT rs n),aJ rfl]
theorem aoL(rs:List ai)(dJ:sF rs)(n:ah):iG rs (aT n) 255=decide (0<(cB (aN rs) n).length):=by rw[Vk rs n 255 dJ,adb rs dJ];cases dL rs n 255 <;> simp
theorem ade(rs:List ai)(dJ:sF rs)(n:ah):∀(f k:Nat),k+f=(az 46 n).length ->
  (((List.range f).map (fun i=>gB n (k+i))).find? (jC (aN rs))=none/\tV rs (aT n) k f=none) \/
  ∃a,((List.range f).map (fun i=>gB n (k+i))).find? (jC (aN rs))=some a/\tV rs (aT n) k f=if 0<(cB (aN rs) (42 :: 46 :: a)).length then some (aT (42 :: 46 :: a))else none
 | 0,k,_=>.inl ⟨rfl,rfl⟩
 | f+1,k,h=>by
  have ih:=ade rs dJ n f (k+1) ae;have hs:=PZ (n:=n) (i:=k) ae;rw[SS,jL,kY,SG,gK];unfold tV;rw[<- hs,<- Vp rs dJ];by_cases ht:jC (aN rs) (gB n k)=true;{rw[ht];refine .inr ⟨gB n k,rfl,?_⟩;rw[aJ rfl,<- aon,aoL rs dJ];simp};{
  have Vq:jC (aN rs) (gB n k)=false:=by simpa using ht
  rw[Vq,aF ar];have e:(fun i=>gB n (k+i)) ∘ Nat.succ=fun i=>gB n (k+1+i):=by{funext i;show gB n (k+(i+1))=_;rw[show k+(i+1)=k+1+i by omega]};rw[e];exact ih}
theorem aoM{l:List ai}{n:ah}(h:∀r∈l,r.owner=n):l.map (eM n)=l:=by
 conv=>rhs;rw[<- EP l]
 refine oB (fun r hr=>?_);unfold eM;rw[<- h r hr];rfl
theorem Vr(rs:List ai)(dJ:sF rs){n:ah}(hn:fC n) :
  (rf rs (aT n)=none/\(ct (aN rs) n).2=false) \/
  ∃s,rf rs (aT n)=some (aT s)/\(ct (aN rs) n).2=true/\(ct (aN rs) n).1=(cB (aN rs) s).map (eM n):=by
 unfold rf ct;rw[<- Vp rs dJ];by_cases ht:jC (aN rs) n=true;{rw[aJ ht,aJ ht];exact .inr ⟨n,rfl,rfl,(aoM (fun r hr=>(Lm hr).2)).symm⟩};{
 rw[aF ht,aF ht,aoH hn,yw];have h1:=ade rs dJ n ((az 46 n).length - 1) 1 (by have:=Di n;omega);have e:(fun i=>gB n (i+1))=fun i=>gB n (1+i):=by funext i;rw[Nat.add_comm]
 rw[e];rcases h1 with⟨h1,h2⟩|⟨a,h1,h2⟩;{rw[h1,h2];exact .inl ⟨rfl,rfl⟩};{rw[h1,h2];by_cases hl:0<(cB (aN rs) (42 :: 46 :: a)).length;{rw[aJ hl];exact .inr ⟨_,rfl,by simpa using hl,rfl⟩};{rw[aF hl];exact .inl ⟨rfl,by simpa using hl⟩}}}
def Iz(r:ai)(a3:ah):ai:=(r.owner,min r.aG (iY 86400 a3),r.type,r.data)
theorem aoN(zb:Nat)(o:ah)(rs:List ai)(w:World)(b off cap:Nat)(vo:Value)(z0:w.heap[zb]? = some (.cells #[vo,.slice (some ⟨b,off,none⟩) rs.length cap] 117))(z2:rs.length<=cap)(z3:Dh w b off rs)(h0:0<rs.length)(a0 a1 a2 a3:ah)(uK:a3.length<=1000000)(yy:dz 86400 a3=true)(hd:az 32 rs[0].data = [a0,a1,a2,a3]) :
  aB 239 #[aM zb] w fun e w'=>(∃q ro ml,e=.returned (aD q 0 1 1)/\w.heap.size<=q/\w'.heap[q]? = some (.cells #[ro,.int .i64 (Iz rs[0] a3).aG,.int .i64 (Iz rs[0] a3).type,.string (aq (Iz rs[0] a3).data),ml] 119)/\w.cell? (ak b off)=some ro/\w.cell? (ak b (off+4))=some ml)/\au w w':=by
 have hzl:zb<w.heap.size:=(bV.1 z0).1;have zc:w.cell? (ak zb 1)=some (aD b off rs.length cap):=by unfold World.cell?; rw[z0];rfl
 obtain⟨ro,ml,c0,aC,c2,c3,aV,gh,jF⟩:=z3 0 h0;rw[hd]at jF;rw[rK,gK]at c0 aC c2 c3 aV;obtain⟨g,go,gc,rfl,P1,ht⟩:=jF;have w3:w.cell? (ak g (go+3))=some (ay a3):=ht.2 3 ar;have np:=ht.1;have hgn:¬g=w.heap.size:=ae;have w3':∀o,(w.alloc o).cell? (ak g (go+3))=some (ay a3):=fun o=>(dh (cD w o g np)).trans w3;have Vs:=ag (fun W=>Fq a3 86400 W uK bD);have an4:(0:Int)<(rs.length:Int):=ae;obtain⟨aoO,aoP,vc,rfl,_,_⟩:=gh;have qL:=ag c0;have tG:=ag aV;clear z0 z3 ht;go_enter func239,ntmps239;go_wp2_with fail;refine(Vs _).mono ?_;rintro e w1 ⟨⟨n,rfl,pR⟩,rfl⟩;have H4:=ag pR;clear pR;rw[yy];go_wp2;go_ret;have hb:∀o1 o2,au w ((w.alloc o1).alloc o2):=fun o1 o2=>(aO.alloc aA _).alloc ar _;have hv:n=iY 86400 a3:=af H4 yy;subst hv;have aaW:min ((rs[0].aG:Nat):Int) ((iY 86400 a3:Nat):Int)=((min rs[0].aG (iY 86400 a3):Nat):Int):=ae;have hnew:∀(W:World) (o:Obj) (k:Nat),W.heap.size=k->(W.alloc o).heap[k]? = some o:=fun W o k hk=>by subst hk;exact World.alloc_heap_new W o
 refine⟨⟨w.heap.size+1,_,_,rfl,ae,?_,qL,tG⟩,hb _ _⟩;rw[aaW];exact hnew _ _ _ ar
end Go.Proofs.YtkkpahmoljiepaaGreatDoor
