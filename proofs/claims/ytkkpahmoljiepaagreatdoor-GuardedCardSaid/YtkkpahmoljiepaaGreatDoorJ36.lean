import Derived.Test.YtkkpahmoljiepaaGreatDoorJ35
import Derived.Test.YtkkpahmoljiepaaGreatDoorJ20
set_option maxRecDepth 1000000
set_option maxHeartbeats 12800000
set_option linter.unusedSimpArgs false
set_option linter.unusedVariables false
namespace Go.Proofs.YtkkpahmoljiepaaGreatDoor
open Go.RowKit Go.Proofs.Tryz
theorem an5(s:ai)(w:World)(hl:s.length<=1000000000){q0 s1 s2 s3 s4 s5 s6 m1 i1 m2 i2:ai}{op:Nat}{b1 b2 b3 b4 b5 b6:Bool}(e1:dh s false 6=(q0,s1,b1))(e2:cZ s1 b1=(op,s2,b2))(e3:dh s2 b2 6=(m1,s3,b3))(e4:dh s3 b3 4=(i1,s4,b4))(e5:dh s4 b4 6=(m2,s5,b5))(e6:dh s5 b5 4=(i2,s6,b6))(l1:s1.length<=1000000000)(l2:s2.length<=1000000000)(l4:s4.length<=1000000000) :
  Calls prog 207 #[.string (ah s)] w fun e w'=>e=.returned (.tuple #[Il op m1 i1 m2 i2,.bool ((ah q0).toList == [0,1,8,0,6,4] && !b6)])/\Below w.heap.size w w':=by
 have hz0:ay ((w.alloc (.cells #[.int .i64 0,.string ⟨#[]⟩,.string ⟨#[]⟩,.string ⟨#[]⟩,.string ⟨#[]⟩] 303)).alloc (.cells #[.string (ah s),.bool false] 215)) w.heap.size [.int .i64 0,.string ⟨#[]⟩,.string ⟨#[]⟩,.string ⟨#[]⟩,.string ⟨#[]⟩] 303:=(ay.eo w _ _).alloc _;have jL:cB ((w.alloc (.cells #[.int .i64 0,.string ⟨#[]⟩,.string ⟨#[]⟩,.string ⟨#[]⟩,.string ⟨#[]⟩] 303)).alloc (.cells #[.string (ah s),.bool false] 215)) (w.heap.size+1) s false:=by{have:=World.alloc_heap_new (w.alloc (.cells #[.int .i64 0,.string ⟨#[]⟩,.string ⟨#[]⟩,.string ⟨#[]⟩,.string ⟨#[]⟩] 303)) (.cells #[.string (ah s),.bool false] 215);simpa [cB]using this};have ey:=ag (((bW w.heap.size w).alloc (aL _) (.cells #[.int .i64 0,.string ⟨#[]⟩,.string ⟨#[]⟩,.string ⟨#[]⟩,.string ⟨#[]⟩] 303)).alloc ak (.cells #[.string (ah s),.bool false] 215));have fQ:=ag (pR _ 6 s false _ jL ae hl);rw[e1]at fQ;have qd:=ag hz0;have lj:=ag e2;have RS:=ag (bQ e3 e4);have RT:=ag (bQ e5 e6);clear hz0 jL e1 e2 e3 e4 e5 e6;go_enter func207,ntmps207;go_wp2_with (fail);refine(af fQ).mono ?_;rintro e w1 ⟨rfl,hr1,dN,hs1⟩;have f_:=ag (kt _ s1 b1 w1 hr1 l1);rw[af lj]at f_;have mC:=ag ((af qd).kept dN ae);have cM:=ag ((af ey).trans (dN.below ae aX));have fE:Hid (w.heap.size+2<=w1.heap.size):=by rw[Hid,hs1];simp
 clear hr1 dN hs1 fQ qd ey lj;go_wp2_with (fail);refine(af f_).mono ?_;rintro e w2 ⟨rfl,hr2,hk2,hs2⟩;have jA:=ag (abq _ s2 b2 w2 hr2 l2 (af RS).1 (af RS).2);have vT:=ag ((af mC).kept hk2 ae);have eu:=ag ((af cM).trans (hk2.below ae (by have:=af fE;omega)));have dO:Hid (w.heap.size+2<=w2.heap.size):=by rw[Hid,hs2];exact af fE
 clear hr2 hk2 hs2 f_ mC cM fE RS;go_wp2_with (fail);refine(af jA).mono ?_;rintro e w3 ⟨rfl,hr3,hk3⟩;have mU:=ag (abq _ s4 b4 w3 hr3 l4 (af RT).1 (af RT).2);have Gz:=ag ((af vT).kept hk3 ae);have jI:=ag ((af eu).trans (hk3.below ae (by have:=af dO;omega)));have gj:Hid (w.heap.size+2<=w3.heap.size):=a_ (af dO) hk3.size;clear hr3 hk3 jA vT eu dO RT;go_wp2_with (fail);refine(af mU).mono ?_;rintro e w4 ⟨rfl,hr4,hk4⟩;have abu:=ag ((af Gz).kept hk4 ae);have AH:=ag ((af jI).trans (hk4.below ae (by have:=af gj;omega)));have hs:w.heap.size+2<=w4.heap.size:=a_ (af gj) hk4.size;have vU:cB (w4.alloc (.cells #[.int .i64 op,.string (ah m1),.string (ah i1),.string (ah m2),.string (ah i2)] 303)) (w.heap.size+1) s6 b6:=(bV _ _ _ hr4.lt).trans hr4;have oF:=(af abu).alloc (.cells #[.int .i64 op,.string (ah m1),.string (ah i1),.string (ah m2),.string (ah i2)] 303);have uf:=ag ((af AH).alloc ae (.cells #[.int .i64 op,.string (ah m1),.string (ah i1),.string (ah m2),.string (ah i2)] 303));have q1:=vU.cells.2;have z0:=oF.cell 0 ak;have z1:=oF.cell 1 ak;have z2:=oF.cell 2 ak;have z3:=oF.cell 3 ak;have z4:=oF.cell 4 ak;simp only[dS,ej]at z0 z1 z2 z3 z4;have hfz:=oF.frozen;have n1:w.heap.size≠w4.heap.size:=ae;have n2:w.heap.size+1≠w4.heap.size:=ae;have agV:w.heap.size<=w4.heap.size:=ae;clear hr4 hk4 mU Gz jI gj abu hs AH vU oF;go_wp2_with (fail);cases aD:((ah q0).toList == [0,1,8,0,6,4])with
 | true =>{go_region;all_goals(go_wp2;refine df (v:=.tuple #[Il op m1 i1 m2 i2,.bool (!b6)]) (by simp[results,results207,go_sem,z0,z1,z2,z3,z4]) rfl ⟨by rw[aD,E7],?_⟩;exact((((((af uf).drew).setCell (aL _) _).setCell (aL _) _).setCell (aL _) _).setCell (aL _) _).setCell (aL _) _)}
 | false =>{go_region;all_goals(go_wp2;refine df (v:=.tuple #[Il op m1 i1 m2 i2,.bool false]) (by simp[results,results207,go_sem,z0,z1,z2,z3,z4]) rfl ⟨by rw[aD,CD],?_⟩;exact((((((af uf).drew).setCell (aL _) _).setCell (aL _) _).setCell (aL _) _).setCell (aL _) _).setCell (aL _) _)}
theorem an6(a b r ax ip m1 i1 m2 i2:ai)(k op:Nat)(ok:Bool)(w:World)(hno:ok=false\/op≠1\/i2≠ip)
  (bZ:∀W,Calls prog 207 #[.string (ah r)] W fun e w'=>e=.returned (.tuple #[Il op m1 i1 m2 i2,.bool ok])/\Below W.heap.size W w') :
  Calls prog 149 #[lY a b k r,lC ax ip] w fun e w'=>e=.returned (.string ⟨#[]⟩)/\Below w.heap.size w w':=by
 have bG:=ag bZ;have fe:=ag (mG.xM w a b k r ax ip);have dv:=ag hno;clear bZ hno;go_enter func149,ntmps149;go_wp2_with (fail);refine(af bG _).mono ?_;rintro e w1 ⟨rfl,hb1⟩;have hS1:=(af fe).xL hb1;have hw1:=hS1.size;have eU:=hS1.alloc (.cells #[.int .i64 op,.string (ah m1),.string (ah i1),.string (ah m2),.string (ah i2)] 303);have az:=eU.c.cell 1 ak;simp only[dS,ej]at az;have d1:=hS1.c.cell 1 ak;simp only[dS,ej]at d1;have aZ:=ag eU.below;have hne:w.heap.size+1≠w1.heap.size:=ae;clear hb1 fe bG hS1 eU;cases ok with
 | false =>{go_wp2;go_ret;exact⟨rfl,af aZ⟩}
 | true =>{
 by_cases hop:op=1;{
 subst hop;have au:i2≠ip:=by{rcases af dv with h|h|h;{cases h};{exact absurd rfl h};{exact h}};have t1:¬(ah i2).toList=(ah ip).toList:=by rw[gO,gO];exact au
 have b1:((ah i2).toList == (ah ip).toList)=false:=by simpa using t1
 clear au dv;go_wp2;go_ret;exact⟨rfl,af aZ⟩};{
 have k1:¬(op:Int)=1:=ae;have k2:((op:Int) != 1)=true:=by simpa using k1
 go_wp2;go_ret;exact⟨rfl,af aZ⟩}}
theorem Cy(s:ai)(br:Bool)(n:Nat):∃a s1 b1,dh s br n=(a,s1,b1):=⟨_,_,_,rfl⟩
theorem abw(s:ai)(br:Bool):∃k s1 b1,cZ s br=(k,s1,b1):=⟨_,_,_,rfl⟩
def xZ(f:Nat)(args:Array Value)(w:World)(n:Nat):Prop:=∃x:ai,x.length<=n/\∀W,Below w.heap.size w W->Calls prog f args W fun e w'=>e=.returned (.string (ah x))/\Below W.heap.size W w'
theorem an7(a b r ax ip:ai)(k:Nat)(w:World)(hr:r.length<=100000)(l2:ax.length=6)(l3:ip.length=4):xZ 149 #[lY a b k r,lC ax ip] w 1524:=by
 obtain⟨q0,s1,b1,e1⟩:=Cy r false 6;obtain⟨op,s2,b2,e2⟩:=abw s1 b1;obtain⟨m1,s3,b3,e3⟩:=Cy s2 b2 6;obtain⟨i1,s4,b4,e4⟩:=Cy s3 b3 4;obtain⟨m2,s5,b5,e5⟩:=Cy s4 b4 6;obtain⟨i2,s6,b6,e6⟩:=Cy s5 b5 4;have k1:=vu r false 6;have k2:=sq s1 b1;have k3:=vu s2 b2 6;have k4:=vu s3 b3 4;rw[e1]at k1;rw[e2]at k2;rw[e3]at k3;rw[e4]at k4;simp only at k1 k2 k3 k4;have bZ:=fun W=>an5 r W ae e1 e2 e3 e4 e5 e6 ae ae ae;have lm:=JA s2 b2 6;have li:=JA s3 b3 4;rw[e3]at lm;rw[e4]at li;simp only at lm li;by_cases hy:((ah q0).toList == [0,1,8,0,6,4] && !b6)=true/\op=1/\i2=ip;{obtain⟨h1,rfl,rfl⟩:=hy;rw[h1]at bZ;exact⟨_,by simp[rO];omega,fun W _=>an1 a b r ax i2 m1 i1 m2 k W ae ae ae ae bZ⟩};{
 refine⟨[],ak,fun W _=>an6 a b r ax ip m1 i1 m2 i2 k op _ W ?_ bZ⟩;cases h1:((ah q0).toList == [0,1,8,0,6,4] && !b6)with
 | false=>exact .inl rfl
 | true =>{by_cases h2:op=1;{exact .inr (.inr fun h3=>hy ⟨h1,h2,h3⟩)};{exact .inr (.inl h2)}}}
theorem an8(a b r m:ai)(sp:Nat)(zv:Value)(w:World)
  (hD:∀W,Calls prog 257 #[mF a b r] W fun e w'=>e=.returned (.tuple #[Ps sp 53 m,.bool true])/\Below W.heap.size W w')
  (hR:∀W,Below w.heap.size w W->Calls prog 27 #[zv,.string (ah m)] W fun e w'=>e=.returned (.string ⟨#[]⟩)/\Below W.heap.size W w') :
  Calls prog 211 #[mF a b r,zv] w fun e w'=>e=.returned (.tuple #[mF [] [] [],.bool false])/\Below w.heap.size w w':=by have HD:=ag hD;have aT:=ag hR;have fe:=ag (oH.Pt w a b r);clear hD hR;go_enter func211,ntmps211;go_wp2_with (fail);refine(af HD _).mono ?_;rintro e w1 ⟨rfl,hb1⟩;have hS1:=(af fe).Ek hb1;have hw1:=hS1.size;have eU:G2 w (w1.alloc (.cells #[.int .i64 sp,.int .i64 53,.string (ah m)] 349)) a b r w1.heap.size sp m:=⟨hS1.alloc _,ay.eo _ _ _⟩;have dO:=ag eU;have G3:=ag (af aT _ eU.pa.below);clear hb1 fe HD hS1 eU aT;go_wp2_with (fail);refine(af G3).mono ?_;rintro e w2 ⟨rfl,hb2⟩;have iF:=((af dO).Xx hb2).pa;clear hb2 dO G3;have z0:=iF.z.cell 0 ak;have z1:=iF.z.cell 1 ak;have z2:=iF.z.cell 2 ak;have hfz:=iF.z.frozen;simp only[dS,ej]at z0 z1 z2;have aZ:=ag iF.below;clear iF;go_wp2;refine df (v:=.tuple #[.agg #[.string ⟨#[]⟩,.string ⟨#[]⟩,.string ⟨#[]⟩],.bool false]) ?_ rfl ?_;{simp[results,results211,go_sem,z0,z1,z2]};{exact⟨rfl,(((af aZ).setCell (by show w.heap.size<=w.heap.size+1;omega) _).setCell (by show w.heap.size<=w.heap.size+1;omega) _).setCell (by show w.heap.size<=w.heap.size+1;omega) _⟩}
theorem an9(a b r ax ip x0 x1 x2:ai)(k:Nat)(zv:Value)(w:World)(hne:x1≠ip)
  (bZ:∀W,Calls prog 210 #[.string (ah r)] W fun e w'=>e=.returned (.tuple #[mF x0 x1 x2,.bool true])/\Below W.heap.size W w') :
  Calls prog 150 #[lY a b k r,zv,lC ax ip] w fun e w'=>e=.returned (.string ⟨#[]⟩)/\Below w.heap.size w w':=by
 have bG:=ag bZ;have fe:=ag (mG.xM w a b k r ax ip);have t1:¬(ah x1).toList=(ah ip).toList:=by rw[gO,gO];exact hne
 have b1:((ah x1).toList == (ah ip).toList)=false:=by simpa using t1
 clear bZ hne;go_enter func150,ntmps150;go_wp2_with (fail);refine(af bG _).mono ?_;rintro e w1 ⟨rfl,hb1⟩;have hS1:=(af fe).xL hb1;have hw1:=hS1.size;have eU:=hS1.alloc (.cells #[.string (ah x0),.string (ah x1),.string (ah x2)] 307);have az:=hS1.c.cell 1 ak;have c1':=eU.c.cell 1 ak;simp only[dS,ej]at az c1';have aZ:=ag eU.below;clear hb1 fe bG hS1 eU;go_wp2_with (fail);go_ret;exact⟨rfl,af aZ⟩
theorem an_(s a b r ax ip x:ai)(k:Nat)(zv:Value)(w:World)(ha:a = [255,255,255,255,255,255])(hm:a≠ax)
  (hF:∀W,Calls prog 79 #[.string (ah s)] W fun e w'=>e=.returned (.tuple #[lY a b k r,.bool true])/\Below W.heap.size W w')
  (hA:∀W,Below w.heap.size w W->Calls prog 80 #[lY a b k r,zv,lC ax ip] W fun e w'=>e=.returned (.string (ah x))/\Below W.heap.size W w') :
  Calls prog 37 #[zv,lC ax ip,.string (ah s)] w fun e w'=>e=.returned (.string (ah x))/\Below w.heap.size w w':=by
 have bg:=ag hF;have hB0:=(bW w.heap.size w).alloc (aL _) (.cells #[.string (ah ax),.string (ah ip)] 62);have ey:=ag hB0;have HC:=ag (ay.eo w [.string (ah ax),.string (ah ip)] 62);have dV:=ag hA;have t1:¬(ah a).toList=(ah ax).toList:=by rw[gO,gO];exact hm
 have t2:(ah a).toList = [255,255,255,255,255,255]:=by rw[gO];exact ha
 have b1:((ah a).toList == (ah ax).toList)=false:=by simpa using t1
 have b2:((ah a).toList == [255,255,255,255,255,255])=true:=by rw[t2];rfl
 have b3:((ah a).toList == (⟨#[255,255,255,255,255,255]⟩:ByteArray).toList)=true:=by rw[t2,gO];rfl
 clear hF hB0 hA ha hm t1 t2;go_enter func37,ntmps37;go_wp2_with (fail);refine(af bg _).mono ?_;rintro e w1 ⟨rfl,hb1⟩;have hB1:=(af ey).trans (hb1.mono ak);have hw1:=hB1.size;have hB2:=hB1.alloc hw1 (.cells #[.string (ah a),.string (ah b),.int .i64 k,.string (ah r)] 150);have qp:=ag (af dV _ hB2);have cM:=ag hB2;have mH:=(af HC).below hb1 ak;have hC2:=mH.alloc (.cells #[.string (ah a),.string (ah b),.int .i64 k,.string (ah r)] 150);have c0:=mH.cell 0 ak;have az:=mH.cell 1 ak;have c0':=hC2.cell 0 ak;have c1':=hC2.cell 1 ak;simp only[dS,ej]at c0 c0' az c1';have hw2:=mH.lt;clear hb1 bg ey hB1 HC mH hC2 dV hB2;go_wp2_with (fail);refine(af qp).mono ?_;rintro e w2 ⟨rfl,hb2⟩;have eu:=ag ((af cM).trans (hb2.mono (af cM).size));clear hb2 cM qp;go_wp2_with (fail);go_ret;exact⟨rfl,af eu⟩
theorem iU(n:Nat)(t:ai)(h:n+1<=t.length):∃c u,t=c :: u/\n<=u.length:=by
 cases t with
 | nil=>simp at h
 | cons c u=>exact⟨c,u,rfl,by simpa using h⟩
theorem aoa(t:ai)(h:8<=t.length):∃c0 az c2 c3 bw dm jl c7 u,t=c0 :: az :: c2 :: c3 :: bw :: dm :: jl :: c7 :: u:=by obtain⟨c0,u0,rfl,h0⟩:=iU 7 t h;obtain⟨az,u1,rfl,h1⟩:=iU 6 u0 h0;obtain⟨c2,u2,rfl,h2⟩:=iU 5 u1 h1;obtain⟨c3,u3,rfl,h3⟩:=iU 4 u2 h2;obtain⟨bw,u4,rfl,h4⟩:=iU 3 u3 h3;obtain⟨dm,u5,rfl,h5⟩:=iU 2 u4 h4;obtain⟨jl,u6,rfl,h6⟩:=iU 1 u5 h5;obtain⟨c7,u7,rfl,h7⟩:=iU 0 u6 h6;exact⟨c0,az,c2,c3,bw,dm,jl,c7,u7,rfl⟩
theorem aob(t:ai)(h:20<=t.length):∃b0 b1 b2 b3 b4 b5 b6 b7 b8 b9 b10 b11 b12 b13 b14 b15 b16 b17 b18 b19 u,t=b0 :: b1 :: b2 :: b3 :: b4 :: b5 :: b6 :: b7 :: b8 :: b9 :: b10 :: b11 :: b12 :: b13 :: b14 :: b15 :: b16 :: b17 :: b18 :: b19 :: u:=by obtain⟨b0,u0,rfl,h0⟩:=iU 19 t h;obtain⟨b1,u1,rfl,h1⟩:=iU 18 u0 h0;obtain⟨b2,u2,rfl,h2⟩:=iU 17 u1 h1;obtain⟨b3,u3,rfl,h3⟩:=iU 16 u2 h2;obtain⟨b4,u4,rfl,h4⟩:=iU 15 u3 h3;obtain⟨b5,u5,rfl,h5⟩:=iU 14 u4 h4;obtain⟨b6,u6,rfl,h6⟩:=iU 13 u5 h5;obtain⟨b7,u7,rfl,h7⟩:=iU 12 u6 h6;obtain⟨b8,u8,rfl,h8⟩:=iU 11 u7 h7;obtain⟨b9,u9,rfl,Ou⟩:=iU 10 u8 h8;obtain⟨b10,u10,rfl,h10⟩:=iU 9 u9 Ou;obtain⟨b11,u11,rfl,h11⟩:=iU 8 u10 h10;obtain⟨b12,u12,rfl,xF⟩:=iU 7 u11 h11;obtain⟨b13,u13,rfl,aoc⟩:=iU 6 u12 xF;obtain⟨b14,u14,rfl,aod⟩:=iU 5 u13 aoc;obtain⟨b15,u15,rfl,tM⟩:=iU 4 u14 aod;obtain⟨b16,u16,rfl,tL⟩:=iU 3 u15 tM;obtain⟨b17,KU,rfl,aoe⟩:=iU 2 u16 tL;obtain⟨b18,KV,rfl,aof⟩:=iU 1 KU aoe;obtain⟨b19,KW,rfl,ar5⟩:=iU 0 KV aof;exact⟨b0,b1,b2,b3,b4,b5,b6,b7,b8,b9,b10,b11,b12,b13,b14,b15,b16,b17,b18,b19,KW,rfl⟩
def aog(x0 x1 x2:ai)(zv:Value)(w:World):Prop:=∃(y0 y1 y2:ai) (ok:Bool),(ok=true->y0=x1/\y1=x0/\y2.length<=1240)/\(ok=false->y0 = []/\y1 = []/\y2 = [])/\∀W,Below w.heap.size w W->Calls prog 211 #[mF x0 x1 x2,zv] W fun e w'=>e=.returned (.tuple #[mF y0 y1 y2,.bool ok])/\Below W.heap.size W w'
theorem aoh(x0 x1 t:ai)(zv:Value)(w:World)(l0:x0.length<=1000)(l1:x1.length<=1000)(h8:8<=t.length)(hl:t.length<=2000)(hR:∀m:ai,m.length<=2000->xZ 27 #[zv,.string (ah m)] w 1232):aog x0 x1 t zv w:=by
 obtain⟨c0,az,c2,c3,bw,dm,jl,c7,u,rfl⟩:=aoa t h8;have hD:=fun W=>ait x0 x1 c0 az c2 c3 bw dm jl c7 u W l0 l1 (by simp at hl;omega) _ _ _ _ _ rfl rfl rfl rfl rfl;generalize hsp:c0.toNat*256+az.toNat=sp at hD;generalize c2.toNat*256+c3.toNat=dp at hD;generalize bw.toNat*256+dm.toNat=n at hD;generalize jl.toNat*256+c7.toNat=k at hD;generalize wj x0 x1 ((c0 :: az :: c2 :: c3 :: bw :: dm :: jl :: c7 :: u).take n)=us at hD;have aoi:sp<65536:=by have:=jX c0;have:=jX az;omega
 unfold BK at hD;by_cases h1:n<8\/u.length<n - 8;{simp only[aP h1]at hD;exact⟨[],[],[],false,fun h=>(Bool.noConfusion h),fun _=>⟨rfl,rfl,rfl⟩,fun W _=>Xw x0 x1 _ [] 0 0 false zv W (.inl rfl) hD⟩};{
 simp only[aG h1]at hD;by_cases h2:(k == 0 || us == 65535)=true/\dp=53;{obtain⟨h2,rfl⟩:=h2;rw[h2]at hD;obtain⟨o,eR,abx⟩:=hR (u.take (n - 8)) (by simp at hl;rw[jU];omega);by_cases ho:o = [];{subst ho;exact⟨[],[],[],false,fun h=>(Bool.noConfusion h),fun _=>⟨rfl,rfl,rfl⟩,fun W hW=>an8 x0 x1 _ _ sp zv W hD (fun W' jG=>abx W' (hW.trans (jG.mono hW.size)))⟩};{exact⟨x1,x0,wm x1 x0 53 sp o,true,fun _=>⟨rfl,rfl,by simp[wm,BC];omega⟩,fun h=>(Bool.noConfusion h),fun W hW=>aiz x0 x1 _ _ o sp zv W l0 l1 aoi ho ae hD (fun W' jG=>abx W' (hW.trans (jG.mono hW.size)))⟩}};{
 refine⟨[],[],[],false,fun h=>(Bool.noConfusion h),fun _=>⟨rfl,rfl,rfl⟩,fun W _=>Xw x0 x1 _ _ sp dp _ zv W ?_ hD⟩;cases h3:(k == 0 || us == 65535)with
 | false=>exact .inl rfl
 | true=>exact .inr fun h=>h2 ⟨h3,h⟩}}
theorem aoj(a b r ax ip:ai)(k:Nat)(zv:Value)(w:World)(lb:b.length<=6)(lm:ax.length=6)(li:ip.length=4)(hr:r.length<=2000)(hR:∀m:ai,m.length<=2000->xZ 27 #[zv,.string (ah m)] w 1232):xZ 150 #[lY a b k r,zv,lC ax ip] w 1524:=by
 by_cases aok:r.length<20;{exact⟨[],ak,fun W _=>KB a b r ax ip k zv W fun W'=>(an4 r W' aok).mono fun e w' h=>⟨⟨[],[],[],h.1⟩,h.2⟩⟩};{
 obtain⟨b0,b1,b2,b3,b4,b5,b6,b7,b8,b9,b10,b11,b12,b13,b14,b15,b16,b17,b18,b19,t,rfl⟩:=aob r ae;have bZ:=fun W=>aim b0 b1 b2 b3 b4 b5 b6 b7 b8 b9 b10 b11 b12 b13 b14 b15 b16 b17 b18 b19 t W (by simp at hr;omega) _ _ _ rfl rfl rfl _ rfl;generalize b2.toNat*256+b3.toNat=n at bZ;generalize kJ (aR true [b0,b1,b2,b3,b4,b5,b6,b7,b8,b9,b10,b11,b12,b13,b14,b15,b16,b17,b18,b19])=sm at bZ;generalize (b0.toNat == 69 && ((b6.toNat*256+b7.toNat)%16384 == 0 && b9.toNat == 17))=ok at bZ;unfold zm at bZ;by_cases h1:n<28\/sm≠65535;{simp only[aP h1]at bZ;exact⟨[],ak,fun W _=>KB a b _ ax ip k zv W fun W'=>(bZ W').mono fun e w' h=>⟨⟨[],[],[],h.1⟩,h.2⟩⟩};{
 simp only[aG h1]at bZ;by_cases h2:n - 20<=t.length;{
 simp only[aP h2]at bZ;cases ok with
 | false=>exact⟨[],ak,fun W _=>KB a b _ ax ip k zv W fun W'=>(bZ W').mono fun e w' h=>⟨⟨_,_,_,h.1⟩,h.2⟩⟩
 | true =>{
 by_cases h3 : [b16,b17,b18,b19]=ip;{
 rw[h3]at bZ;have hl:t.length<=2000:=by simp at hr;omega
 obtain⟨y0,y1,y2,ok,k1,k2,hA⟩:=aoh [b12,b13,b14,b15] ip (t.take (n - 20)) zv w ak ae (by rw[jU];omega) (by rw[jU];omega) hR;cases ok with
 | false =>{obtain⟨rfl,rfl,rfl⟩:=k2 rfl;exact⟨[],ak,fun W hW=>aiA a b _ ax ip _ _ k zv W bZ (fun W' jG=>hA W' (hW.trans (jG.mono hW.size)))⟩}
 | true =>{obtain⟨rfl,rfl,k3⟩:=k1 rfl;exact⟨_,by simp[uB,BB];omega,fun W hW=>aiB a b _ ax y0 _ _ y0 _ y2 k zv W ae ae ae ak ae bZ (fun W' jG=>hA W' (hW.trans (jG.mono hW.size)))⟩}};{exact⟨[],ak,fun W _=>an9 a b _ ax ip _ _ _ k zv W h3 bZ⟩}}};{simp only[aG h2]at bZ;exact⟨[],ak,fun W _=>KB a b _ ax ip k zv W fun W'=>(bZ W').mono fun e w' h=>⟨h.1.elim fun m hm=>⟨_,_,m,hm⟩,h.2⟩⟩}}}
theorem aol(a b r ax ip:ai)(k:Nat)(zv:Value)(w:World)(lb:b.length<=6)(lm:ax.length=6)(li:ip.length=4)(hr:r.length<=2000)(hR:∀m:ai,m.length<=2000->xZ 27 #[zv,.string (ah m)] w 1232):xZ 80 #[lY a b k r,zv,lC ax ip] w 1524:=by by_cases h1:k=2054;{subst h1;obtain⟨x,hx,hA⟩:=an7 a b r ax ip 2054 w ae lm li;exact⟨x,hx,fun W hW=>an3 a b r ax ip x zv W fun W' jG=>hA W' (hW.trans (jG.mono hW.size))⟩};{by_cases h2:k=2048;{subst h2;obtain⟨x,hx,hA⟩:=aoj a b r ax ip 2048 zv w lb lm li hr hR;exact⟨x,hx,fun W hW=>aiE a b r ax ip x zv W fun W' jG=>hA W' (hW.trans (jG.mono hW.size))⟩};{exact⟨[],ak,fun W _=>aiD a b r ax ip k zv W h1 h2⟩}}
theorem aom(f ax ip:ai)(zv:Value)(w:World)(lm:ax.length=6)(li:ip.length=4)(hf:f.length<=2000)(hR:∀m:ai,m.length<=2000->xZ 27 #[zv,.string (ah m)] w 1232):xZ 37 #[zv,lC ax ip,.string (ah f)] w 1524:=by
 obtain⟨a,s1,b1,e1⟩:=Cy f false 6;obtain⟨b,s2,b2,e2⟩:=Cy s1 b1 6;obtain⟨k,s3,b3,e3⟩:=abw s2 b2;have k1:=vu f false 6;have k2:=vu s1 b1 6;have k3:=sq s2 b2;have lb:=JA s1 b1 6;rw[e1]at k1;rw[e2]at k2 lb;rw[e3]at k3;simp only at k1 k2 k3 lb;have hF:=fun W=>agU f W ae e1 e2 e3;cases b3 with
 | true=>exact⟨[],ak,fun W _=>aiF f a b s3 ax ip k zv W hF⟩
 | false =>{obtain⟨x,hx,hA⟩:=aol a b s3 ax ip k zv w lb lm li ae hR;by_cases h1:a=ax;{subst h1;exact⟨x,hx,fun W hW=>aiH f b s3 a ip x k zv W hF fun W' jG=>hA W' (hW.trans (jG.mono hW.size))⟩};{by_cases h2:a = [255,255,255,255,255,255];{exact⟨x,hx,fun W hW=>an_ f a b s3 ax ip x k zv W h2 h1 hF fun W' jG=>hA W' (hW.trans (jG.mono hW.size))⟩};{exact⟨[],ak,fun W _=>aiG f a b s3 ax ip k zv W h1 h2 hF⟩}}}
theorem aon(o:ai)(rs:List aj)(m:ai):∃R,rN o rs m R:=by
 unfold rN;by_cases h1:m.length<12\/bO m 2 &&& 32768≠0;{exact⟨_,by rw[aP h1]⟩};{
 by_cases h2:bO m 2 &&& 30720≠0;{exact⟨_,by rw[aG h1,aP h2]⟩};{
 cases hq:ny m with
 | none=>exact⟨_,by rw[aG h1,aG h2]⟩
 | some Q =>{obtain⟨q,ls,ty,cl,op,sz,bN⟩:=Q;exact⟨_,by rw[aG h1,aG h2]⟩}}}
theorem aoo{o:ai}{rs:List aj}{m R R':ai}(h:rN o rs m R)(h':rN o rs m R'):R=R':=by
 unfold rN at h h';by_cases h1:m.length<12\/bO m 2 &&& 32768≠0;{rw[aP h1]at h h';exact h.trans h'.symm};{
 rw[aG h1]at h h';by_cases h2:bO m 2 &&& 30720≠0;{rw[aP h2]at h h';exact h.trans h'.symm};{
 rw[aG h2]at h h';cases hq:ny m with
 | none=>rw[hq]at h h';exact h.trans h'.symm
 | some Q =>{obtain⟨q,ls,ty,cl,op,sz,bN⟩:=Q;rw[hq]at h h';exact h.trans h'.symm}}}
theorem aop{o:ai}{rs:List aj}{m R:ai}(bE:l7 o rs)(h:rN o rs m R):R.length<=1232:=by
 unfold rN at h;by_cases h1:m.length<12\/bO m 2 &&& 32768≠0;{rw[aP h1]at h;rw[h];simp};{
 rw[aG h1]at h;by_cases h2:bO m 2 &&& 30720≠0;{rw[aP h2]at h;rw[h,DC];omega};{
 rw[aG h2]at h;cases hq:ny m with
 | none=>rw[hq]at h;rw[h,DC];omega
 | some Q =>{
 obtain⟨q,ls,ty,cl,op,sz,bN⟩:=Q;rw[hq]at h;simp only at h;obtain⟨o1,o2,o3,_⟩:=Rp hq;obtain⟨_,a2,_⟩:=Rq bE o1 (fun x hx=>(o2 x hx).1) ty cl op bN;generalize fU o rs (cJ ls) ty cl op bN=Ik at h a2;obtain⟨⟨rc,bz,an,ns⟩,ad⟩:=Ik;simp only at h a2;have hl:(rM op rc).length<=11:=by unfold rM;split <;> simp[tv]
 have I7:512<=rL op sz/\rL op sz<=1232:=by unfold rL;split <;> omega
 have hS:=(RI (size:=rL op sz - ((rM op rc).length:Int)) (aI:=eX) 0 [an,ns,ad] ⟨(List.replicate 12 0++q,jo 12 (cJ ls)),[0,0,0],false⟩ (rL op sz - ((rM op rc).length:Int)).toNat (fun l hl r hr=>by{simp at hl;rcases hl with rfl|rfl|rfl <;> exact Ia (a2 r (by simp[hr])).1.wr}) ae aX).2;rw[h];unfold EZ zP;rw[bU,DC,iW,bU];omega}}}
theorem aoq(zb g cap:Nat)(o:ai)(rs:List aj)(w:World)(bE:l7 o rs)(hz:fA w zb o g 0 cap (aQ rs))(hg:bH w)(m:ai)(hm:m.length<=2000):xZ 27 #[.pointer (some ⟨zb,0,none⟩),.string (ah m)] w 1232:=by obtain⟨R,hR⟩:=aon o rs m;refine⟨R,aop bE hR,fun W hW=>(anT zb g 0 cap o m rs W bE (hz.below hW) (hg.below hW) ae (anZ bE m)).mono ?_⟩;rintro e w' ⟨⟨R',rfl,Py⟩,hb⟩;exact⟨by rw[aoo Py hR],hb⟩
def oO(s:ai):Option (ai×List aj):=if s.length<=3000/\(rj s).isSome=true then ku s else none
def Cz(s:ai)(base:Nat)(e:Ending)(w':World):Prop :=
 match oO s with
 | none=>e=.returned (.tuple #[.pointer none,aq 1])
 | some p=>l7 p.1 p.2/\∃zb g cap,e=.returned (.tuple #[aO zb,aq 0])/\base<=zb/\base<=g/\fA w' zb p.1 g 0 cap (aQ p.2)
theorem aor{ls:List ai}{o:ai}{rs:List aj}(h:Fu ls=some (o,rs))(hl:∀l∈ls,l.length<=3000):fG o=true/\(∀r∈rs,H2 r)/\rs.length<=ls.length:=by
 cases ls with
 | nil=>cases h
 | cons f ls =>{
 have h':(if Lib.hasPrefix f tO && fG (Lib.trimPrefix f tO)then(mj ls).map (fun rs=>(Lib.trimPrefix f tO,rs))else none)=some (o,rs):=h;split at h';{
 rename_i hc;cases ha:mj ls with
 | none=>rw[ha]at h';cases h'
 | some rs' =>{rw[ha]at h';have e:=gT h';have e1:Lib.trimPrefix f tO=o:=ek Prod.fst e;have e2:rs'=rs:=ek Prod.snd e;subst e2;rw[fo,e1]at hc;refine⟨hc.2,aaV ls rs' (fun l hl'=>hl l (nB _ hl')) ha,?_⟩;rw[aaU ls rs' ha];simp}};{cases h'}}
theorem aby{s:ai}(hl:s.length<=3000){o:ai}{rs:List aj}(h:ku s=some (o,rs)):fG o=true/\(∀r∈rs,H2 r)/\rs.length<=3001:=by
 rcases tD s with rfl|⟨t,c,hs⟩;{rw[aaT (fun t h=>by simp at h)]at h;cases h};{
 rw[tC]at hs;by_cases hc:c=10;{
 rw[hs,hc,am0]at h;have kY:t.length<=3000:=by rw[hs]at hl;simp at hl;omega
 obtain⟨h1,h2,h3⟩:=aor h (fun x hx=>by have:=Fh 10 t.length t aB x hx;omega);refine⟨h1,h2,?_⟩;have:=yl 10 t;have:t.length+1<=3000:=by rw[hs]at hl;simpa using hl
 omega};{rw[aaT (fun t' h'=>by{rw[hs]at h';have:=ek List.getLast? h';simp at this;exact hc this})]at h;cases h}}
theorem aos{s:ai}(hl:s.length<=3000):∀o rs,ku s=some (o,rs)->w_ o rs:=fun o rs h=>by
 obtain⟨h1,h2,h3⟩:=aby hl h;refine⟨h3,by have:=(jd h1).2;omega,fun r hr=>⟨by have:=(EJ (h2 r hr).Cm).2;omega,(h2 r hr).len⟩⟩
theorem aot{s:ai}(hl:s.length<=3000){p:ai×List aj}(h:rj s=some p):∃o rs,ku s=some (o,rs)/\p=(o,aQ rs)/\l7 o rs/\oO s=some (o,rs):=by
 have h0:=h;unfold rj at h;cases hr:ku s with
 | none=>rw[hr]at h;cases h
 | some x =>{obtain⟨o,rs⟩:=x;rw[hr]at h;have h':(if qP o rs && o8 o (aQ rs)then some (o,aQ rs)else none)=some p:=h;split at h';{rename_i hc;rw[fo]at hc;obtain⟨h1,h2,_⟩:=aby hl hr;refine⟨o,rs,rfl,(gT h').symm,⟨h1,h2,hc.1,hc.2⟩,?_⟩;unfold oO;rw[aP ⟨hl,by rw[h0];rfl⟩,hr]};{cases h'}}
theorem aou{s:ai}(h:rj s=none):oO s=none:=by unfold oO;rw[aG (by rw[h];simp)]
theorem aov(s:ai)(w:World)(hl:3000<s.length) :
  aF 16 #[aA s] w fun e w'=>e=.returned (.tuple #[.pointer none,aq 1])/\w'=w:=by have hs:(ah s).size=s.length:=dt s;have QD:(3000:Int)<(s.length:Int):=ae;go_enter func16,ntmps16;go_wp2;go_ret2;exact⟨rfl,by first|rfl|trivial⟩
theorem RU(s:ai)(w:World)(hg:bH w):aF 16 #[aA s] w fun e w'=>Cz s w.heap.size e w'/\aw w w':=by
 by_cases hl:s.length<=3000;{
 refine(alv (ah s) w hg (by rw[dt];exact hl) (by rw[qJ];exact aos hl)).mono ?_;rintro e w' ⟨h,hb⟩;rw[qJ]at h;refine⟨?_,hb⟩;unfold Cz;cases hp:rj s with
 | none=>rw[hp]at h;rw[aou hp];exact h
 | some p =>{rw[hp]at h;obtain⟨o,rs,h1,rfl,h3,h4⟩:=aot hl hp;rw[h4];exact⟨h3,h⟩}};{
 refine(aov s w ae).mono ?_;rintro e w' ⟨rfl,rfl⟩;have:oO s=none:=by unfold oO;rw[aG (fun h=>hl h.1)]
 refine⟨?_,bW _ _⟩;unfold Cz;rw[this]}
def x8(ax ip:ai):Bool:=ax.length == 6 && (ax.getD 0 0).toNat%2 == 0 && ip.length == 4
end Go.Proofs.YtkkpahmoljiepaaGreatDoor
