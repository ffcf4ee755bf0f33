import Derived.Test.YtkkpahmoljiepaaGreatDoorJ21
import Derived.Test.YtkkpahmoljiepaaGreatDoorJ31
set_option maxRecDepth 1000000
set_option maxHeartbeats 12800000
set_option linter.unusedSimpArgs false
set_option linter.unusedVariables false
namespace Go.Proofs.YtkkpahmoljiepaaGreatDoor
open Go.RowKit Go.Proofs.Tryz
theorem aaW(zv:Value)(m:ai)(i b c0 az c2 c3:Int)(ok:Bool)(w:World)(hno:ok=false\/(ok=true/\(bits .and .i64 b 32768 != 0)=true))
  (hh:aF 70 #[aA m] w (cS (.tuple #[.agg #[aq i,aq b,aq c0,aq az,aq c2,aq c3],.bool ok]) w)) :
  aF 27 #[zv,aA m] w (cS (.string ⟨#[]⟩) w):=by have uQ:=ag hh;clear hh;go_enter func27,ntmps27;go_wp2_with fail;refine uQ.mono ?_;rintro e w1 ⟨rfl,hb1⟩;have aZ:=ag (hb1.alloc hb1.size (.cells #[.int .i64 i,.int .i64 b,.int .i64 c0,.int .i64 az,.int .i64 c2,.int .i64 c3] 133));clear hb1 uQ;rcases hno with rfl|⟨rfl,rB⟩;{go_wp2;go_ret;exact⟨rfl,aZ⟩};{go_wp2;go_ret;exact⟨rfl,aZ⟩}
theorem am2(zv:Value)(m:ai)(i b t:Nat)(c0 az c2 c3:Int)(w:World)(au:i<65536)(ht:t<65536)(rB:rf b 4=(t:Int))(h1:(bits .and .i64 b 32768 != 0)=false)(h2:(bits .and .i64 b 30720 != 0)=true)
  (hh:aF 70 #[aA m] w (cS (.tuple #[.agg #[aq i,aq b,aq c0,aq az,aq c2,aq c3],.bool true]) w)) :
  aF 27 #[zv,aA m] w (cS (aA (bY (gG i t 0 0 0 0))) w):=by have uQ:=ag hh;have Ic:Hid (∀W,aF 71 #[.agg #[aq i,aq b,aq c0,aq az,aq c2,aq c3],aq 4] W (cS (aA (bY (gG i t 0 0 0 0))) W)):=fun W=>aau i b t 4 c0 az c2 c3 W au ht rB;clear hh rB;generalize ah (bY (gG i t 0 0 0 0))=out at *;go_enter func27,ntmps27;go_wp2_with fail;refine uQ.mono ?_;rintro e w1 ⟨rfl,hb1⟩;have hB:=hb1.alloc hb1.size (.cells #[.int .i64 i,.int .i64 b,.int .i64 c0,.int .i64 az,.int .i64 c2,.int .i64 c3] 133);have aZ:=ag hB;clear hb1 uQ hB;go_wp2_with fail;refine(Ic _).mono ?_;rintro e w2 ⟨rfl,hb2⟩;have eu:=ag (aZ.trans (hb2.mono aZ.size));clear hb2 Ic aZ;go_wp2;go_ret;exact⟨rfl,eu⟩
theorem am3(zv:Value)(m:ai)(i b t:Nat)(c0 az c2 c3:Int)(w:World)(au:i<65536)(ht:t<65536)(rB:rf b 1=(t:Int))(h1:(bits .and .i64 b 32768 != 0)=false)(h2:(bits .and .i64 b 30720 != 0)=false)
  (hh:aF 70 #[aA m] w (cS (.tuple #[.agg #[aq i,aq b,aq c0,aq az,aq c2,aq c3],.bool true]) w))
  (hq:∀W,aF 72 #[.agg #[aq i,aq b,aq c0,aq az,aq c2,aq c3],aA m] W fun e w'=>(∃qv,P9 qv/\e=.returned (.tuple #[qv,.bool false]))/\aw W w') :
  aF 27 #[zv,aA m] w (cS (aA (bY (gG i t 0 0 0 0))) w):=by have uQ:=ag hh;have EU:=ag hq;have Ic:Hid (∀W,aF 71 #[.agg #[aq i,aq b,aq c0,aq az,aq c2,aq c3],aq 1] W (cS (aA (bY (gG i t 0 0 0 0))) W)):=fun W=>aau i b t 1 c0 az c2 c3 W au ht rB;clear hh rB hq;generalize ah (bY (gG i t 0 0 0 0))=out at *;go_enter func27,ntmps27;go_wp2_with fail;refine uQ.mono ?_;rintro e w1 ⟨rfl,hb1⟩;have hB:=hb1.alloc hb1.size (.cells #[.int .i64 i,.int .i64 b,.int .i64 c0,.int .i64 az,.int .i64 c2,.int .i64 c3] 133);have hN:eW (w1.alloc (.cells #[.int .i64 i,.int .i64 b,.int .i64 c0,.int .i64 az,.int .i64 c2,.int .i64 c3] 133)) w1.heap.size [(i:Int),(b:Int),c0,az,c2,c3] 133:=World.alloc_heap_new w1 _;have aZ:=ag hB;have dv:=ag hN;clear hb1 uQ hB hN;go_wp2_with fail;refine(EU _).mono ?_;rintro e w2 ⟨⟨_,⟨a0,a1,a2,a3,a4,a5,a8,a9,a11,a12,a6,a7,a10,rfl⟩,rfl⟩,hb2⟩;unfold dK;have uR:eW w2 w1.heap.size [(i:Int),(b:Int),c0,az,c2,c3] 133:=(hb2.block _ dv.lt).trans dv;have hB2:=aZ.trans (hb2.mono aZ.size);have q0:=uR.cell 0 ak;have q1:=uR.cell 1 ak;have q2:=uR.cell 2 ak;have q3:=uR.cell 3 ak;have q4:=uR.cell 4 ak;have q5:=uR.cell 5 ak;simp only[dS,ej]at q0 q1 q2 q3 q4 q5;have hlt:=uR.lt;have hne:¬w1.heap.size=w2.heap.size:=ae;have p3:=ag (fun o=>hB2.alloc hB2.size o);clear hb2 EU aZ dv uR hB2;go_wp2_with fail;refine(Ic _).mono ?_;rintro e w3 ⟨rfl,hb3⟩;have jI:=ag ((p3 _).trans (hb3.mono (p3 _).size));clear hb3 Ic p3;go_wp2;go_ret;exact⟨rfl,jI⟩
def mL(n:Nat)(s:ai)(br:Bool):ai×Bool:=if n<=s.length then(s.drop n,br)else([],true)
theorem am4(n:Nat)(s:ai)(br:Bool):(mL n s br).1.length<=s.length:=by unfold mL;split <;> simp
theorem aaX(b n:Nat)(s:ai)(br:Bool)(w:World)(h:cB w b s br)(hn:n<=100000)(hl:s.length<=1000000000) :
  aF 148 #[aO b,aq n] w fun e w' =>
   (∃x,e=.returned (.string x))/\cB w' b (mL n s br).1 (mL n s br).2/\cF b w w'/\w'.heap.size=w.heap.size:=by unfold mL;split;{refine(M3 b n s br w h (by assumption) hl).mono ?_;rintro e w' ⟨rfl,h⟩;exact⟨⟨_,rfl⟩,h⟩};{refine(M5 b n s br w h ae ae).mono ?_;rintro e w' ⟨rfl,h⟩;exact⟨⟨_,rfl⟩,h⟩}
section
variable {w:World} {b:Nat} {h0 h1 h2 h3 h4 h5:Int} {q n:ai} {k c:Int} {opt:Bool} {sz bM:Int}
theorem vS(h:eG w b h0 h1 h2 h3 h4 h5 q n k c opt sz bM)(x:Int):eG (w.setCell ⟨b,11,none⟩ (.int .i64 x)) b h0 h1 h2 h3 h4 h5 q n k c opt x bM:=by unfold eG at *; simp only[World.setCell];rw[iq,aP rfl,h];rfl
theorem p_(h:eG w b h0 h1 h2 h3 h4 h5 q n k c opt sz bM)(x:Int):eG (w.setCell ⟨b,12,none⟩ (.int .i64 x)) b h0 h1 h2 h3 h4 h5 q n k c opt sz x:=by unfold eG at *; simp only[World.setCell];rw[iq,aP rfl,h];rfl
end
theorem am5(qb rb:Nat)(s0:ai)(b0:Bool)(w0:World){h0 h1 h2 h3 h4 h5:Int}{q n:ai}{k c:Int}{opt:Bool}{sz bM:Int}
  (hq:eG w0 qb h0 h1 h2 h3 h4 h5 q n k c opt sz bM) (hr:cB w0 rb s0 b0) (hne:qb≠rb) (hl:s0.length<=1000000000)
  {x1 k2 x4 z bN nn:Nat} {s1 s2 s3 s4 s5 s6 s7 s8:ai} {b1 b2 b3 b4 b5 b6 b7 b8:Bool} (e1:cY s0 b0=(x1,s1,b1)) (e2:cZ s1 b1=(k2,s2,b2)) (e3:cZ s2 b2=(z,s3,b3)) (e4:cY s3 b3=(x4,s4,b4)) (e5:cY s4 b4=(bN,s5,b5))
  (e6:mL 2 s5 b5=(s6,b6)) (e7:cZ s6 b6=(nn,s7,b7)) (e8:mL nn s7 b7=(s8,b8)) (jc:nn<=65535) :
  aF 134 #[aO qb,aO rb] w0 fun e w' =>
   e=.returned (.tuple #[])/\eG w' qb h0 h1 h2 h3 h4 h5 q n k c opt z bN/\cB w' rb s8 (b8 || !(x1 == 0 && k2 == 41))/\bh (fun i=>i≠qb/\i≠rb) w0 w':=by
 have l1:=vk s0 b0;have l2:=sq s1 b1;have l3:=sq s2 b2;have l4:=vk s3 b3;have l5:=vk s4 b4;have l6:=am4 2 s5 b5;have Rs:=sq s6 b6;rw[e1]at l1;rw[e2]at l2;rw[e3]at l3;rw[e4]at l4;rw[e5]at l5;rw[e6]at l6;rw[e7]at Rs;simp only at l1 l2 l3 l4 l5 l6 Rs;have AR:=ag e1;have lj:=ag e2;have su:=ag e3;have am6:=ag e4;have am7:=ag e5;have am8:=ag e6;have am9:=ag e7;have am_:=ag e8;have aaY:=ag hq;have sg:=ag hr;have Rt:=hq.lt;have Hl:Hid (bh (fun i=>i≠qb/\i≠rb) w0 w0):=⟨rfl,rfl,rfl,aL _,fun _ _ _=>rfl⟩;clear hq hr e1 e2 e3 e4 e5 e6 e7 e8;have fQ:=ag (oT rb s0 b0 w0 (af sg) ae);rw[Hid,af AR]at fQ;simp only at fQ;go_enter func134,ntmps134;go_wp2_with fail;refine fQ.mono ?_;rintro e w0' ⟨rfl,hr,hk,hz⟩;have fN:=ag hr;have dQ:Hid (bh (fun i=>i≠qb/\i≠rb) w0 w0'):=Hl.trans ((bh.si hk).mono fun i _ h=>h.2);have qY:=ag (aaY.kept (hk.block qb Rt hne));have DY:qb<w0'.heap.size:=ae;clear hr hk hz fQ sg Hl aaY;have f_:=ag (kt rb s1 b1 w0' (af fN) ae);rw[Hid,af lj]at f_;simp only at f_;go_wp2_with fail;refine f_.mono ?_;rintro e w1' ⟨rfl,hr,hk,hz⟩;have gv:=ag hr;have iB:Hid (bh (fun i=>i≠qb/\i≠rb) w0 w1'):=dQ.trans ((bh.si hk).mono fun i _ h=>h.2);have mS:=ag (qY.kept (hk.block qb DY hne));have hlt2:qb<w1'.heap.size:=ae;clear hr hk hz f_ fN dQ qY;have jA:=ag (kt rb s2 b2 w1' (af gv) ae);rw[Hid,af su]at jA;simp only at jA;go_wp2_with fail;refine jA.mono ?_;rintro e w2' ⟨rfl,hr,hk,hz⟩;have jM:=ag hr;have fY:Hid (bh (fun i=>i≠qb/\i≠rb) w0 w2'):=iB.trans ((bh.si hk).mono fun i _ h=>h.2);have qZ:=ag (mS.kept (hk.block qb hlt2 hne));have hlt3:qb<w2'.heap.size:=ae;clear hr hk hz jA gv iB mS;have hfz:=qZ.frozen;have hcl:=qZ.cells;have dv:Hid (eG (w2'.setCell ⟨qb,11,none⟩ (.int .i64 z)) qb h0 h1 h2 h3 h4 h5 q n k c opt z bM/\cB (w2'.setCell ⟨qb,11,none⟩ (.int .i64 z)) rb s3 b3/\bh (fun i=>i≠qb/\i≠rb) w0 (w2'.setCell ⟨qb,11,none⟩ (.int .i64 z))/\qb<(w2'.setCell ⟨qb,11,none⟩ (.int .i64 z)).heap.size) := ⟨vS (af qZ) _,(bf _ _ _ _ (MM hne)).trans jM,fY.trans (bh.gF _ fun i h=>h.1),by simpa [World.setCell]using hlt3⟩;obtain⟨_,_,_,_,_,_,_,_,_,_,_,yG,yH⟩:=hcl;obtain⟨hQ,hR,hF,hlt3⟩:=af dv;clear qZ jM fY dv;have qZ:=ag hQ;have jM:=ag hR;have fY:=ag hF;clear hQ hR hF;have mU:=ag (oT rb s3 b3 (w2'.setCell ⟨qb,11,none⟩ (.int .i64 z)) (af jM) ae);rw[Hid,af am6]at mU;simp only at mU;go_wp2_with fail;refine mU.mono ?_;rintro e w3' ⟨rfl,hr,hk,hz⟩;have oU:=ag hr;have o7:Hid (bh (fun i=>i≠qb/\i≠rb) w0 w3'):=fY.trans ((bh.si hk).mono fun i _ h=>h.2);have yF:=ag (qZ.kept (hk.block qb hlt3 hne));have ana:qb<w3'.heap.size:=ae;clear hr hk hz mU jM fY qZ;have sw:=ag (oT rb s4 b4 w3' (af oU) ae);rw[Hid,af am7]at sw;simp only at sw;go_wp2_with fail;refine sw.mono ?_;rintro e w4' ⟨rfl,hr,hk,hz⟩;have mV:=ag hr;have jB:Hid (bh (fun i=>i≠qb/\i≠rb) w0 w4'):=o7.trans ((bh.si hk).mono fun i _ h=>h.2);have p2:=ag (yF.kept (hk.block qb ana hne));have Ru:qb<w4'.heap.size:=ae;clear hr hk hz sw oU o7 yF;have hfz:=p2.frozen;have hcl:=p2.cells;have dv:Hid (eG (w4'.setCell ⟨qb,12,none⟩ (.int .i64 bN)) qb h0 h1 h2 h3 h4 h5 q n k c opt z bN/\cB (w4'.setCell ⟨qb,12,none⟩ (.int .i64 bN)) rb s5 b5/\bh (fun i=>i≠qb/\i≠rb) w0 (w4'.setCell ⟨qb,12,none⟩ (.int .i64 bN))/\qb<(w4'.setCell ⟨qb,12,none⟩ (.int .i64 bN)).heap.size) := ⟨p_ (af p2) _,(bf _ _ _ _ (MM hne)).trans mV,jB.trans (bh.gF _ fun i h=>h.1),by simpa [World.setCell]using Ru⟩;obtain⟨_,_,_,_,_,_,_,_,_,_,_,yG,yH⟩:=hcl;obtain⟨hQ,hR,hF,Ru⟩:=af dv;clear p2 mV jB dv;have p2:=ag hQ;have mV:=ag hR;have jB:=ag hF;clear hQ hR hF;have ug:=ag (aaX rb 2 s5 b5 (w4'.setCell ⟨qb,12,none⟩ (.int .i64 bN)) (af mV) ae ae);rw[Hid,af am8]at ug;simp only at ug;go_wp2_with fail;refine ug.mono ?_;rintro e Rv ⟨⟨_,rfl⟩,hr,hk,hz⟩;have Eg:=ag hr;have pB:Hid (bh (fun i=>i≠qb/\i≠rb) w0 Rv):=jB.trans ((bh.si hk).mono fun i _ h=>h.2);have Gf:=ag (p2.kept (hk.block qb Ru hne));have QW:qb<Rv.heap.size:=ae;clear hr hk hz ug mV jB p2;have Bg:=ag (kt rb s6 b6 Rv (af Eg) ae);rw[Hid,af am9]at Bg;simp only at Bg;go_wp2_with fail;refine Bg.mono ?_;rintro e w6' ⟨rfl,hr,hk,hz⟩;have aaZ:=ag hr;have Hk:Hid (bh (fun i=>i≠qb/\i≠rb) w0 w6'):=pB.trans ((bh.si hk).mono fun i _ h=>h.2);have JP:=ag (Gf.kept (hk.block qb QW hne));have anb:qb<w6'.heap.size:=ae;clear hr hk hz Bg Eg pB Gf;have Bi:=ag (aaX rb nn s7 b7 w6' (af aaZ) ae ae);rw[Hid,af am_]at Bi;simp only at Bi;go_wp2_with fail;refine Bi.mono ?_;rintro e Ie ⟨⟨_,rfl⟩,hr,hk,hz⟩;have L8:=ag hr;have aa0:Hid (bh (fun i=>i≠qb/\i≠rb) w0 Ie):=Hk.trans ((bh.si hk).mono fun i _ h=>h.2);have aa1:=ag (JP.kept (hk.block qb anb hne));have arZ:qb<Ie.heap.size:=ae;clear hr hk hz Bi aaZ Hk JP;have ar0:=L8.frozen;have EW:=L8.cells;have kF:Hid (eG (Ie.setCell ⟨rb,1,none⟩ (.bool true)) qb h0 h1 h2 h3 h4 h5 q n k c opt z bN/\cB (Ie.setCell ⟨rb,1,none⟩ (.bool true)) rb s8 true/\bh (fun i=>i≠qb/\i≠rb) w0 (Ie.setCell ⟨rb,1,none⟩ (.bool true))) := ⟨aa1.kept (bf _ _ _ _ hne),L8.set1 _,aa0.trans (bh.gF _ fun i h=>h.2)⟩;by_cases q1:x1=0;{
 subst q1;by_cases q2:k2=41;{subst q2;go_wp2_with fail;refine fy (v:=.tuple #[]) (by simp[results,results134]) rfl ?_;exact⟨rfl,aa1,by simpa using af L8,aa0⟩};{
 have anc:((k2:Int) != 41)=true:=aX;have q3:(b8 || !((0:Nat) == 0 && k2 == 41))=true:=by simp[q2]
 go_wp2_with fail;refine fy (v:=.tuple #[]) (by simp[results,results134]) rfl ?_;exact⟨rfl,kF.1,by rw[q3];exact kF.2.1,kF.2.2⟩}};{
 have anc:((x1:Int) != 0)=true:=aX;have q3:(b8 || !(x1 == 0 && k2 == 41))=true:=by simp[q1]
 go_wp2_with fail;refine fy (v:=.tuple #[]) (by simp[results,results134]) rfl ?_;exact⟨rfl,kF.1,by rw[q3];exact kF.2.1,kF.2.2⟩}
theorem ane(W:World):(Op.equalIn 10000 131 (.agg #[aq 1,aq 0,aq 0,aq 1]) (.agg #[aq 1,aq 0,aq 0,aq 0])).run prog W=.ok false W:=aK
theorem anf(W:World):(Op.equalIn 10000 131 (.agg #[aq 1,aq 0,aq 0,aq 1]) (.agg #[aq 1,aq 0,aq 0,aq 1])).run prog W=.ok true W:=aK
def EX(w:World)(id bits:Int)(s:ai):World :=
 (((w.alloc (.cells #[.int .i64 id,.int .i64 bits,.int .i64 1,.int .i64 0,.int .i64 0,.int .i64 1] 133)).alloc
   (.cells #[.int .i64 0,.int .i64 0,.int .i64 0,.int .i64 0,.int .i64 0,.int .i64 0,.string ⟨#[]⟩,.string ⟨#[]⟩,.int .i64 0,.int .i64 0,.bool false,.int .i64 0,.int .i64 0] 137)).alloc
   (.cells #[.int .i64 id,.int .i64 bits,.int .i64 1,.int .i64 0,.int .i64 0,.int .i64 1,.string ⟨#[]⟩,.string ⟨#[]⟩,.int .i64 0,.int .i64 0,.bool true,.int .i64 0,.int .i64 0] 137)).alloc
   (.cells #[.string (ah s),.bool false] 215)
theorem ang(w:World)(id bits:Int)(s:ai):eG (EX w id bits s) (w.heap.size+1+1) id bits 1 0 0 1 [] [] 0 0 true 0 0/\eG (EX w id bits s) (w.heap.size+1) 0 0 0 0 0 0 [] [] 0 0 false 0 0/\cB (EX w id bits s) (w.heap.size+1+1+1) s false/\aw w (EX w id bits s):=by refine⟨?_,?_,?_,?_⟩;{refine(bV _ _ _ ak).trans ?_;have:=World.alloc_heap_new ((w.alloc (.cells #[.int .i64 id,.int .i64 bits,.int .i64 1,.int .i64 0,.int .i64 0,.int .i64 1] 133)).alloc (.cells #[.int .i64 0,.int .i64 0,.int .i64 0,.int .i64 0,.int .i64 0,.int .i64 0,.string ⟨#[]⟩,.string ⟨#[]⟩,.int .i64 0,.int .i64 0,.bool false,.int .i64 0,.int .i64 0] 137)) (.cells #[.int .i64 id,.int .i64 bits,.int .i64 1,.int .i64 0,.int .i64 0,.int .i64 1,.string ⟨#[]⟩,.string ⟨#[]⟩,.int .i64 0,.int .i64 0,.bool true,.int .i64 0,.int .i64 0] 137);simpa [ah]using this};{refine(bV _ _ _ ak).trans ((bV _ _ _ ak).trans ?_);have:=World.alloc_heap_new (w.alloc (.cells #[.int .i64 id,.int .i64 bits,.int .i64 1,.int .i64 0,.int .i64 0,.int .i64 1] 133)) (.cells #[.int .i64 0,.int .i64 0,.int .i64 0,.int .i64 0,.int .i64 0,.int .i64 0,.string ⟨#[]⟩,.string ⟨#[]⟩,.int .i64 0,.int .i64 0,.bool false,.int .i64 0,.int .i64 0] 137);simpa [ah]using this};{have:=World.alloc_heap_new (((w.alloc (.cells #[.int .i64 id,.int .i64 bits,.int .i64 1,.int .i64 0,.int .i64 0,.int .i64 1] 133)).alloc (.cells #[.int .i64 0,.int .i64 0,.int .i64 0,.int .i64 0,.int .i64 0,.int .i64 0,.string ⟨#[]⟩,.string ⟨#[]⟩,.int .i64 0,.int .i64 0,.bool false,.int .i64 0,.int .i64 0] 137)).alloc (.cells #[.int .i64 id,.int .i64 bits,.int .i64 1,.int .i64 0,.int .i64 0,.int .i64 1,.string ⟨#[]⟩,.string ⟨#[]⟩,.int .i64 0,.int .i64 0,.bool true,.int .i64 0,.int .i64 0] 137)) (.cells #[.string (ah s),.bool false] 215);simpa [cB,EX]using this};{exact(((bj.alloc aB _).alloc ak _).alloc aX _).alloc aX _}
theorem Rw(id bits:Int)(m:ai)(w:World)(hm:12<=m.length)(hl:m.length<=1000000000)
  {ls:List ai} {k' c':Nat} {s1 s2 s3:ai} {nK o6 kB:Bool} (e1:pS (m.drop 12) false=(ls,s1,nK)) (e2:cZ s1 nK=(k',s2,o6)) (e3:cZ s2 o6=(c',s3,kB))
  {x1 k2 x4 z bN nn:Nat} {t1 t2 t3 t4 t5 t6 t7 t8:ai} {b1 b2 b3 b4 b5 b6 b7 b8:Bool} (f1:cY s3 kB=(x1,t1,b1)) (f2:cZ t1 b1=(k2,t2,b2)) (f3:cZ t2 b2=(z,t3,b3)) (f4:cY t3 b3=(x4,t4,b4)) (f5:cY t4 b4=(bN,t5,b5))
  (f6:mL 2 t5 b5=(t6,b6)) (f7:cZ t6 b6=(nn,t7,b7)) (f8:mL nn t7 b7=(t8,b8)) (jc:nn<=65535) {bb:Bool} (kA:(b8 || !(x1 == 0 && k2 == 41))=bb) :
  aF 72 #[.agg #[aq id,aq bits,aq 1,aq 0,aq 0,aq 1],.string (ah m)] w fun e w' =>
   e=.returned (.tuple #[dK id bits 1 0 0 1 ((m.drop 12).take ((m.drop 12).length - s3.length)) (cJ ls) k' c' true z bN,.bool (!bb && t8.isEmpty)])/\aw w w':=by
 have hs:(ah m).size=m.length:=dt m;have HD:=ag (M0 m 12 _ rfl);have Yv:∀W:World,(Op.equalIn 10000 131 (.agg #[aq 1,aq 0,aq 0,aq 1]) (.agg #[aq 1,aq 0,aq 0,aq 0])).run prog W=.ok false W:=ane;have kq:∀W:World,(Op.equalIn 10000 131 (.agg #[aq 1,aq 0,aq 0,aq 1]) (.agg #[aq 1,aq 0,aq 0,aq 1])).run prog W=.ok true W:=anf;have Ki:=ag (fun(W:World) (n':ai) (q':ai) (hq:eG W (w.heap.size+1+1) id bits 1 0 0 1 q' n' k' c' true 0 0) (hr:cB W (w.heap.size+1+1+1) s3 kB) (hl:s3.length<=1000000000)=>am5 (w.heap.size+1+1) (w.heap.size+1+1+1) s3 kB W hq hr ae hl f1 f2 f3 f4 f5 f6 f7 f8 jc);have hl3:s3.length<=1000000000:=by{have a1:=(Uv (m.drop 12) false);rw[e1]at a1;have a2:=sq s1 nK;rw[e2]at a2;have a3:=sq s2 o6;rw[e3]at a3;obtain⟨o1,o2,o3⟩:=a1;simp only[iW]at o1 o2 o3 a2 a3;omega};clear f1 f2 f3 f4 f5 f6 f7 f8 jc;have AR:=ag e1;have lj:=ag e2;have su:=ag e3;clear e1 e2 e3;obtain⟨AU,F3,jL,hb0⟩:=ang w id bits (m.drop 12);have HC:=ag (Uw (w.heap.size+1+1) (w.heap.size+1+1+1) (m.drop 12) false (EX w id bits (m.drop 12)) AU jL ae aX (af AR) (af lj) (af su));have tZ:=ag F3;have ey:=ag hb0;clear AU F3 jL hb0;go_enter func72,ntmps72;go_wp2_with fail;rw[af HD];refine HC.mono ?_;rintro e w1 ⟨rfl,sD,hr1,jk⟩;have ja:=ag (tZ.kept (jk.block _ tZ.lt ⟨ae,ae⟩));have cM:Hid (aw w w1):=ey.trans (jk.below (fun i au=>⟨ae,ae⟩) ey.size);have qY:=ag sD;have fN:=ag hr1;have jA:=ag (Ki w1 _ _ sD hr1 hl3);obtain⟨_,_,_,_,_,_,_,_,_,_,ua,_,_⟩:=sD.cells;clear sD hr1 jk HC tZ ey kq Yv Ki;go_wp2_with fail;refine jA.mono ?_;rintro e w2 ⟨rfl,sD,hr1,jk⟩;rw[kA]at hr1;have ja:=ag (ja.kept (jk.block _ ja.lt ⟨ae,ae⟩));have cM:Hid (aw w w2):=cM.trans (jk.below (fun i au=>⟨ae,ae⟩) cM.size);have qY:=ag sD;have fN:=ag hr1;clear sD hr1 jk jA ua hl3;generalize F4:(m.drop 12).take ((m.drop 12).length - s3.length)=q at *;generalize vF:cJ ls=nm at *;have F5:=ag F4;have AV:=ag vF;clear F4 vF;obtain⟨c0,az,c2,c3,bw,dm,jl,c7,t_,c9,ua,yG,yH⟩:=qY.cells;obtain⟨bI,d1,d2,d3,d4,d5,d6,d7,d8,d9,d10,d11,d12⟩:=ja.cells;have hfz:=ja.frozen;obtain⟨r0,r1⟩:=fN.cells;go_wp2_with fail;clear AR lj su HD hm hl hs qY fN ja;have ret:∀b:Bool,(!bb && t8.isEmpty)=b->Ending.returned (.tuple #[dK id bits 1 0 0 1 q nm k' c' true z bN,.bool b])=.returned (.tuple #[dK id bits 1 0 0 1 ((m.drop 12).take ((m.drop 12).length - s3.length)) (cJ ls) k' c' true z bN,.bool (!bb && t8.isEmpty)]):=fun b hb=>by{rw[af F5,af AV,hb]};have AW:=ag ret;clear ret F5 AV;have aW:=ag fun(W:World) (hW:aw w W) (o:Nat) (v:Value)=>hW.setCell (p:=⟨w.heap.size+1,o,none⟩) (by show w.heap.size<=w.heap.size+1;omega) v;clear kA;cases bb;{
 cases t8 with
 | nil =>{have e1:ah []=⟨#[]⟩:=rfl;rw[e1]at r0;go_region;all_goals(go_wp2;refine df (v:=.tuple #[dK id bits 1 0 0 1 q nm k' c' true z bN,.bool true]) (by simp[results,results72,go_sem,dK,bI,d1,d2,d3,d4,d5,d6,d7,d8,d9,d10,d11,d12]) rfl ⟨af AW true rfl,?_⟩;first|exact(aW _ (aW _ (aW _ (aW _ (aW _ (aW _ (aW _ (aW _ (aW _ (aW _ (aW _ (aW _ (aW _ cM _ _) _ _) _ _) _ _) _ _) _ _) _ _) _ _) _ _) _ _) _ _) _ _) _ _).drew|exact(aW _ (aW _ (aW _ (aW _ (aW _ (aW _ (aW _ (aW _ (aW _ (aW _ (aW _ (aW _ (aW _ cM.drew _ _) _ _) _ _) _ _) _ _) _ _) _ _) _ _) _ _) _ _) _ _) _ _) _ _))}
 | cons x t =>{
 have e1:((ah (x :: t)).toList == (⟨#[]⟩:ByteArray).toList)=false:=by rw[CT];rfl
 have e2:(ah (x :: t)).toList.isEmpty=false:=by rw[gO];rfl
 have e3:¬(ah (x :: t)).size=0:=by rw[dt];simp
 generalize ah (x :: t)=bt at *;go_region;all_goals(go_wp2;refine df (v:=.tuple #[dK id bits 1 0 0 1 q nm k' c' true z bN,.bool false]) (by simp[results,results72,go_sem,dK,bI,d1,d2,d3,d4,d5,d6,d7,d8,d9,d10,d11,d12]) rfl ⟨af AW false rfl,?_⟩;first|exact(aW _ (aW _ (aW _ (aW _ (aW _ (aW _ (aW _ (aW _ (aW _ (aW _ (aW _ (aW _ (aW _ cM _ _) _ _) _ _) _ _) _ _) _ _) _ _) _ _) _ _) _ _) _ _) _ _) _ _).drew|exact(aW _ (aW _ (aW _ (aW _ (aW _ (aW _ (aW _ (aW _ (aW _ (aW _ (aW _ (aW _ (aW _ cM.drew _ _) _ _) _ _) _ _) _ _) _ _) _ _) _ _) _ _) _ _) _ _) _ _) _ _))}};{go_region;all_goals(go_wp2;refine df (v:=.tuple #[dK id bits 1 0 0 1 q nm k' c' true z bN,.bool false]) (by simp[results,results72,go_sem,dK,bI,d1,d2,d3,d4,d5,d6,d7,d8,d9,d10,d11,d12]) rfl ⟨af AW false rfl,?_⟩;first|exact(aW _ (aW _ (aW _ (aW _ (aW _ (aW _ (aW _ (aW _ (aW _ (aW _ (aW _ (aW _ (aW _ cM _ _) _ _) _ _) _ _) _ _) _ _) _ _) _ _) _ _) _ _) _ _) _ _) _ _).drew|exact(aW _ (aW _ (aW _ (aW _ (aW _ (aW _ (aW _ (aW _ (aW _ (aW _ (aW _ (aW _ (aW _ cM.drew _ _) _ _) _ _) _ _) _ _) _ _) _ _) _ _) _ _) _ _) _ _) _ _) _ _))}
theorem Rx(s:ai):(cY s true).2.2=true:=by cases s <;> rfl
theorem aa2(s:ai):(cZ s true).2.2=true:=by unfold cZ;show(cY (cY s true).2.1 (cY s true).2.2).2.2=true;rw[Rx,Rx]
theorem Ig{s:ai}{br:Bool}(h:(cY s br).2.2=false):br=false/\∃c s',s=c :: s':=by
 cases s with
 | nil=>cases h
 | cons c s=>exact⟨h,c,s,rfl⟩
theorem EY{s:ai}{br:Bool}(h:(cZ s br).2.2=false):br=false/\∃a b s',s=a :: b :: s':=by have h':(cY (cY s br).2.1 (cY s br).2.2).2.2=false:=h;obtain⟨h1,b,s2,e2⟩:=Ig h';obtain⟨h3,a,s1,e1⟩:=Ig h1;subst e1;have e2':s1=b :: s2:=e2;subst e2';exact⟨h3,a,b,s2,rfl⟩
theorem aa3{n:Nat}{s:ai}{br:Bool}(h:(mL n s br).2=false):br=false/\n<=s.length:=by unfold mL at h;split at h;{exact⟨h,‹_›⟩};{cases h}
theorem Ry{s t:ai}{br:Bool}{x:Nat}(h:cY s br=(x,t,false)):br=false/\s.length=t.length+1:=by
 cases s with
 | nil=>cases h
 | cons c s =>{obtain⟨rfl,h'⟩:=gK h;obtain⟨rfl,rfl⟩:=gK h';exact⟨rfl,rfl⟩}
theorem Rz{s t:ai}{br:Bool}{x:Nat}(h:cZ s br=(x,t,false)):br=false/\s.length=t.length+2:=by obtain⟨h1,a,b,s',rfl⟩:=EY (s:=s) (br:=br) (by rw[h]);obtain⟨_,h'⟩:=gK h;obtain⟨rfl,_⟩:=gK h';exact⟨h1,rfl⟩
theorem RA{n:Nat}{s t:ai}{br:Bool}(h:mL n s br=(t,false)):br=false/\s.length=t.length+n:=by unfold mL at h;split at h;{obtain⟨rfl,rfl⟩:=gK h;exact⟨rfl,by rw[iW];omega⟩};{cases(gK h).2}
theorem Cs(a b:UInt8)(s:ai)(br:Bool):cZ (a :: b :: s) br=(a.toNat*256+b.toNat,s,br):=rfl
theorem RB(a:UInt8)(s:ai)(br:Bool):cY (a :: s) br=(a.toNat,s,br):=rfl
theorem Ih(a b:UInt8)(s:ai):bO (a :: b :: s) 0=a.toNat*256+b.toNat:=by simp[bO];omega
theorem RD:∀(f n:Nat) (s:ai) (size:Nat) (acc:List ai),(kZ f n s true size acc).2.2=true
 | 0,n,s,size,acc=>rfl
 | f+1,n,s,size,acc=>by
  unfold kZ;split;{rfl};{
  split;{rfl};{
  have h1:(dh s true n).2.2=true:=by unfold dh;split <;> rfl
  rw[h1,Rx];exact RD f _ _ _ _}}
theorem RF:∀ {f:Nat} {s:ai} {acc ls:List ai} {t:ai},nw f s acc=some (ls,t)->t.length+1<=s.length
 | 0,_,_,_,_,h=>by cases h
 | f+1,[],_,_,_,h=>by cases h
 | f+1,c :: s,acc,ls,t,h=>by unfold nw at h;split at h;{have:=gT h;have e:s=t:=(gK this).2;rw[e];simp};{split at h;{cases h};{have:=RF h;rw[iW]at this;rw[cU];omega}}
theorem aa4:∀(f2:Nat) (c:UInt8) (s:ai) (f size:Nat) (acc:List ai),s.length+1<f2->257<=f+size->size<=255 ->
  (∃ls t,nw f2 (c :: s) acc=some (ls,t)/\t.length<=s.length/\size+(s.length - t.length)<=255/\kZ f c.toNat s false size acc=(ls,t,false)) \/
  ((∀ls t,nw f2 (c :: s) acc=some (ls,t)->t.length<=s.length/\255<size+(s.length - t.length))/\(kZ f c.toNat s false size acc).2.2=true)
 | 0,c,s,f,size,acc,h0,_,_=>absurd h0 ae
 | f2+1,c,s,f,size,acc,h0,h1,h2=>by
  obtain⟨f,rfl⟩:∃g,f=g+1:=⟨f - 1,ae⟩;by_cases hc:c=0;{subst hc;refine .inl ⟨acc,s,?_,aL _,ae,?_⟩;{unfold nw;rw[aP rfl]};{unfold kZ;rw[aP (show UInt8.toNat 0=0 from rfl)]}};{
  have FI:c.toNat≠0:=fun h=>hc (IZ h);have hq:nw (f2+1) (c :: s) acc=if 63<c.toNat\/s.length<c.toNat then none else nw f2 (s.drop c.toNat) (acc++[s.take c.toNat]):=by{
  conv=>lhs;unfold nw
  rw[aG hc]}
  have hg:kZ (f+1) c.toNat s false size acc=if 63<c.toNat\/255<size+1+c.toNat then([],s,true)else kZ f (cY (dh s false c.toNat).2.1 (dh s false c.toNat).2.2).1 (cY (dh s false c.toNat).2.1 (dh s false c.toNat).2.2).2.1 (cY (dh s false c.toNat).2.1 (dh s false c.toNat).2.2).2.2 (size+1+c.toNat) (acc++[(dh s false c.toNat).1]):=by{
  conv=>lhs;unfold kZ
  rw[aG FI]}
  rw[hq,hg];by_cases h63:63<c.toNat;{rw[aP (.inl h63),aP (.inl h63)];exact .inr ⟨fun ls t h=>(by cases h),rfl⟩};by_cases Ct:s.length<c.toNat;{
  rw[aP (.inr Ct)];refine .inr ⟨fun ls t h=>(by cases h),?_⟩;by_cases hb:255<size+1+c.toNat;{rw[aP (.inr hb)]};{
  rw[aG ae];have ht:dh s false c.toNat=([],[],true):=by unfold dh;rw[aG ae]
  rw[ht];exact RD _ _ _ _ _}};rw[aG ae];have ht:dh s false c.toNat=(s.take c.toNat,s.drop c.toNat,false):=by unfold dh;rw[aP ae]
  cases aD:s.drop c.toNat with
  | nil =>{
  have hf2:nw f2 [] (acc++[s.take c.toNat])=none:=by cases f2 <;> rfl
  rw[hf2];refine .inr ⟨fun ls t h=>(by cases h),?_⟩;by_cases hb:255<size+1+c.toNat;{rw[aP (.inr hb)]};{rw[aG ae,ht,aD];exact RD _ _ _ _ _}}
  | cons d s' =>{have hl:s'.length+1=s.length - c.toNat:=by{have:=ek List.length aD;rw[iW,cU]at this;omega};by_cases hb:255<size+1+c.toNat;{rw[aP (.inr hb)];refine .inr ⟨fun ls t h=>?_,rfl⟩;have:=RF h;rw[cU]at this;omega};{rw[aG ae,ht,aD];have ih:=aa4 f2 d s' f (size+1+c.toNat) (acc++[s.take c.toNat]) ae ae ae;rcases ih with⟨ls,t,e1,e2,e3,e4⟩|⟨e1,e2⟩;{exact .inl ⟨ls,t,e1,ae,ae,e4⟩};{exact .inr ⟨fun ls t h=>by have:=e1 ls t h;omega,e2⟩}}}}
theorem anh(R:ai)(F:Nat)(hF:R.length<F):(∃ls t,nw F R []=some (ls,t)/\t.length+1<=R.length/\R.length - t.length<=255/\pS R false=(ls,t,false)) \/
  ((∀ls t,nw F R []=some (ls,t)->255<R.length - t.length)/\(pS R false).2.2=true):=by
 cases R with
 | nil=>exact .inr ⟨fun ls t h=>(by cases F <;> cases h),rfl⟩
 | cons c s =>{rw[cU]at hF;rcases aa4 F c s 256 1 [] ae ae ae with⟨ls,t,e1,e2,e3,e4⟩|⟨e1,e2⟩;{exact .inl ⟨ls,t,e1,by rw[cU];omega,by rw[cU];omega,e4⟩};{exact .inr ⟨fun ls t h=>by have:=e1 ls t h;rw[cU];omega,e2⟩}}
theorem ani{t:ai}(h:4<=t.length):∃a b c d s,t=a :: b :: c :: d :: s:=by
 match t,h with
 | a :: b :: c :: d :: s,_=>exact⟨a,b,c,d,s,rfl⟩
theorem anj{t:ai}(h:11<=t.length):∃a b c d e f g i j k l s,t=a :: b :: c :: d :: e :: f :: g :: i :: j :: k :: l :: s:=by
 match t,h with
 | a :: b :: c :: d :: e :: f :: g :: i :: j :: k :: l :: s,_=>exact⟨a,b,c,d,e,f,g,i,j,k,l,s,rfl⟩
def Cu(m:ai)(id bits:Int)(e:Ending):Prop:=match ny m with
 | none=>∃qv,P9 qv/\e=.returned (.tuple #[qv,.bool false])
 | some (q,ls,t,c,o,z,v)=>e=.returned (.tuple #[dK id bits 1 0 0 (if o=true then 1 else 0) q (cJ ls) t c o z v,.bool true])
theorem zO{m:ai}{id bits:Int}{qv:Value}{b:Bool}(h:ny m=none)(hb:b=false)(hq:P9 qv:=by exact⟨_,_,_,_,_,_,_,_,_,_,_,_,_,rfl⟩):Cu m id bits (.returned (.tuple #[qv,.bool b])):=by unfold Cu;rw[h,hb];exact⟨qv,hq,rfl⟩
theorem ank(m:ai)(id bits:Int)(w:World)(hm:12<=m.length)(hl:m.length<=1000000000) :
  aF 72 #[.agg #[aq id,aq bits,aq (bO m 4),aq (bO m 6),aq (bO m 8),aq (bO m 10)],aA m] w fun e w'=>Cu m id bits e/\aw w w':=by
 by_cases hc:bO m 4=1/\bO m 6=0/\bO m 8=0/\(bO m 10=0\/bO m 10=1)
 case neg =>
  refine(ake id bits _ _ _ _ m w ae).mono ?_;rintro e w' ⟨rfl,hb⟩;exact⟨zO (by unfold ny;rw[aP ae]) rfl,hb⟩
 obtain⟨h4,h6,h8,h10⟩:=hc;have hq:ny m=match nw (m.length+1) (m.drop 12) []with
  | none=>none
  | some (ls,t) =>
   if 255<m.length - t.length - 12\/t.length<4 then none
   else if bO m 10=0 then(if t.length=4 then some ((m.drop 12).take (m.length - t.length+4 - 12),ls,bO t 0,bO t 2,false,0,0)else none)
   else if t.length<15\/t.getD 4 0≠0\/bO t 5≠41\/15+bO t 13≠t.length then none
   else some ((m.drop 12).take (m.length - t.length+4 - 12),ls,bO t 0,bO t 2,true,bO t 7,(t.getD 10 0).toNat):=by
  unfold ny;rw[aG ae];rfl
 have hR:(m.drop 12).length=m.length - 12:=iW;rw[h4,h6,h8];obtain⟨⟨ls,s1,nK⟩,e1⟩:∃x,pS (m.drop 12) false=x:=⟨_,rfl⟩
 obtain⟨⟨k',s2,o6⟩,e2⟩:∃x,cZ s1 nK=x:=⟨_,rfl⟩
 obtain⟨⟨c',s3,kB⟩,e3⟩:∃x,cZ s2 o6=x:=⟨_,rfl⟩
 obtain⟨⟨x1,t1,b1⟩,f1⟩:∃x,cY s3 kB=x:=⟨_,rfl⟩
 obtain⟨⟨k2,t2,b2⟩,f2⟩:∃x,cZ t1 b1=x:=⟨_,rfl⟩
 obtain⟨⟨z,t3,b3⟩,f3⟩:∃x,cZ t2 b2=x:=⟨_,rfl⟩
 obtain⟨⟨x4,t4,b4⟩,f4⟩:∃x,cY t3 b3=x:=⟨_,rfl⟩
 obtain⟨⟨bN,t5,b5⟩,f5⟩:∃x,cY t4 b4=x:=⟨_,rfl⟩
 obtain⟨⟨t6,b6⟩,f6⟩:∃x,mL 2 t5 b5=x:=⟨_,rfl⟩
 obtain⟨⟨nn,t7,b7⟩,f7⟩:∃x,cZ t6 b6=x:=⟨_,rfl⟩
 obtain⟨⟨t8,b8⟩,f8⟩:∃x,mL nn t7 b7=x:=⟨_,rfl⟩
 have jc:nn<=65535:=by have:=ad8 t6 b6;rw[f7]at this;exact Nat.le_of_lt_succ this
 have i2:o6=false->nK=false/\∃a b s',s1=a :: b :: s':=fun h=>EY (by rw[e2];exact h);have i3:kB=false->o6=false/\∃a b s',s2=a :: b :: s':=fun h=>EY (by rw[e3];exact h);have j1:b1=false->kB=false/\∃c s',s3=c :: s':=fun h=>Ig (by rw[f1];exact h);have j2:b2=false->b1=false/\∃a b s',t1=a :: b :: s':=fun h=>EY (by rw[f2];exact h);have j3:b3=false->b2=false/\∃a b s',t2=a :: b :: s':=fun h=>EY (by rw[f3];exact h);have j4:b4=false->b3=false/\∃c s',t3=c :: s':=fun h=>Ig (by rw[f4];exact h);have j5:b5=false->b4=false/\∃c s',t4=c :: s':=fun h=>Ig (by rw[f5];exact h);have j6:b6=false->b5=false/\2<=t5.length:=fun h=>aa3 (by rw[f6];exact h);have j7:b7=false->b6=false/\∃a b s',t6=a :: b :: s':=fun h=>EY (by rw[f7];exact h);have j8:b8=false->b7=false/\nn<=t7.length:=fun h=>aa3 (by rw[f8];exact h);rcases anh (m.drop 12) (m.length+1) (by rw[hR];omega)with⟨ls',t,q1,q2,q3,q4⟩|⟨q1,q2⟩
 case inr =>
  have hno:ny m=none:=by
   rw[hq];cases hL:nw (m.length+1) (m.drop 12) []with
   | none=>rfl
   | some x =>
    obtain⟨ls',t⟩:=x;have:=q1 ls' t hL;have:=RF hL;show(if _ then none else _)=none;rw[aP (.inl ae)]
  rw[e1]at q2;have hb1:nK=true:=q2;have hb3:kB≠false:=fun h=>by have:=(i2 (i3 h).1).1;rw[hb1]at this;cases this
  have uE:b8≠false:=fun h=>hb3 (j1 (j2 (j3 (j4 (j5 (j6 (j7 (j8 h).1).1).1).1).1).1).1).1;rcases h10 with h10|h10
  ·rw[h10];refine(NQ id bits m w hm hl e1 e2 e3).mono ?_;rintro e w' ⟨rfl,hb⟩;exact⟨zO hno (by cases kB;exact absurd rfl hb3;rfl),hb⟩
  ·rw[h10];refine(Rw id bits m w hm hl e1 e2 e3 f1 f2 f3 f4 f5 f6 f7 f8 jc rfl).mono ?_;rintro e w' ⟨rfl,hb⟩;exact⟨zO hno (by cases b8;exact absurd rfl uE;rfl),hb⟩
 rw[e1]at q4;obtain⟨u1,anl⟩:=gK q4;obtain⟨u2,u3⟩:=gK anl;have anm:=u2.symm;subst u1 anm u3;rw[q1]at hq;by_cases L9:t.length<4
 case pos =>
  have hno:ny m=none:=by
   rw[hq];show(if _ then none else _)=none;rw[aP (.inr L9)]
  have hb3:kB≠false:=fun h=>by
   obtain⟨h2,a,b,s',e⟩:=i3 h;obtain⟨_,a',b',s'',e'⟩:=i2 h2;rw[e']at e2 L9;rw[Cs]at e2;have:s''=s2:=(gK (gK e2).2).1;rw[this,e]at L9;simp at L9;omega
  have uE:b8≠false:=fun h=>hb3 (j1 (j2 (j3 (j4 (j5 (j6 (j7 (j8 h).1).1).1).1).1).1).1).1;rcases h10 with h10|h10
  ·rw[h10];refine(NQ id bits m w hm hl e1 e2 e3).mono ?_;rintro e w' ⟨rfl,hb⟩;exact⟨zO hno (by cases kB;exact absurd rfl hb3;rfl),hb⟩
  ·rw[h10];refine(Rw id bits m w hm hl e1 e2 e3 f1 f2 f3 f4 f5 f6 f7 f8 jc rfl).mono ?_;rintro e w' ⟨rfl,hb⟩;exact⟨zO hno (by cases b8;exact absurd rfl uE;rfl),hb⟩
 obtain⟨a,b,c,d,s,rfl⟩:=ani (t:=t) ae;rw[Cs]at e2;obtain⟨rfl,e2'⟩:=gK e2;obtain⟨rfl,rfl⟩:=gK e2';rw[Cs]at e3;obtain⟨rfl,e3'⟩:=gK e3;obtain⟨rfl,rfl⟩:=gK e3';have iA:(a :: b :: c :: d :: s).length=s.length+4:=ak;have ann:(m.drop 12).take ((m.drop 12).length - s.length)=(m.drop 12).take (m.length - (a :: b :: c :: d :: s).length+4 - 12):=by
  rw[hR,iA]at *;congr 1;omega
 have iw:¬(255<m.length - (a :: b :: c :: d :: s).length - 12\/(a :: b :: c :: d :: s).length<4):=by rw[hR]at q3;omega
 have lZ:ny m=if bO m 10=0 then(if(a :: b :: c :: d :: s).length=4 then some ((m.drop 12).take (m.length - (a :: b :: c :: d :: s).length+4 - 12),ls,bO (a :: b :: c :: d :: s) 0,bO (a :: b :: c :: d :: s) 2,false,0,0)else none)
   else if(a :: b :: c :: d :: s).length<15\/(a :: b :: c :: d :: s).getD 4 0≠0\/bO (a :: b :: c :: d :: s) 5≠41\/15+bO (a :: b :: c :: d :: s) 13≠(a :: b :: c :: d :: s).length then none
   else some ((m.drop 12).take (m.length - (a :: b :: c :: d :: s).length+4 - 12),ls,bO (a :: b :: c :: d :: s) 0,bO (a :: b :: c :: d :: s) 2,true,bO (a :: b :: c :: d :: s) 7,((a :: b :: c :: d :: s).getD 10 0).toNat):=by
  rw[hq];show(if _ then none else _)=_;rw[aG iw]
 rw[<- ann]at lZ;have ha0:bO (a :: b :: c :: d :: s) 0=a.toNat*256+b.toNat:=Ih a b _;have ha2:bO (a :: b :: c :: d :: s) 2=c.toNat*256+d.toNat:=Ih c d s;rw[ha0,ha2]at lZ;rcases h10 with h10|h10
 ·rw[h10];refine(NQ id bits m w hm hl e1 rfl rfl).mono ?_;rintro e w' ⟨rfl,hb⟩;refine⟨?_,hb⟩;rw[aP h10,iA]at lZ;cases s with
  | nil =>
   rw[aP ak]at lZ;unfold Cu;rw[lZ];rfl
  | cons x s =>
   rw[aG ak]at lZ;exact zO lZ rfl
 ·rw[h10];refine(Rw id bits m w hm hl e1 rfl rfl f1 f2 f3 f4 f5 f6 f7 f8 jc rfl).mono ?_;rintro e w' ⟨rfl,hb⟩;refine⟨?_,hb⟩;rw[aG ae]at lZ;by_cases h11:s.length<11
  ·rw[aP (.inl ae)]at lZ;refine zO lZ ?_;cases b8
   ·exfalso;obtain⟨rfl,l8⟩:=RA f8;obtain⟨rfl,Rs⟩:=Rz f7;obtain⟨rfl,l6⟩:=RA f6;obtain⟨rfl,l5⟩:=Ry f5;obtain⟨rfl,l4⟩:=Ry f4;obtain⟨rfl,l3⟩:=Rz f3;obtain⟨rfl,l2⟩:=Rz f2;obtain⟨_,l1⟩:=Ry f1;omega
   ·rfl
  ·obtain⟨tu,y1,y2,y3,y4,mA,y6,xW,Cv,uS,uT,s',rfl⟩:=anj (t:=s) ae;rw[RB]at f1;obtain⟨rfl,f1'⟩:=gK f1;obtain⟨rfl,rfl⟩:=gK f1';rw[Cs]at f2;obtain⟨rfl,f2'⟩:=gK f2;obtain⟨rfl,rfl⟩:=gK f2';rw[Cs]at f3;obtain⟨rfl,f3'⟩:=gK f3;obtain⟨rfl,rfl⟩:=gK f3';rw[RB]at f4;obtain⟨rfl,ano⟩:=gK f4;obtain⟨rfl,rfl⟩:=gK ano;rw[RB]at f5;obtain⟨rfl,anp⟩:=gK f5;obtain⟨rfl,rfl⟩:=gK anp;have anq:mL 2 (xW :: Cv :: uS :: uT :: s') false=(uS :: uT :: s',false):=by unfold mL;rw[aP ak];rfl
   rw[anq]at f6;obtain⟨rfl,rfl⟩:=gK f6;rw[Cs]at f7;obtain⟨rfl,f7'⟩:=gK f7;obtain⟨rfl,rfl⟩:=gK f7';have g4:(a :: b :: c :: d :: tu :: y1 :: y2 :: y3 :: y4 :: mA :: y6 :: xW :: Cv :: uS :: uT :: s').getD 4 0=tu:=rfl;have g5:bO (a :: b :: c :: d :: tu :: y1 :: y2 :: y3 :: y4 :: mA :: y6 :: xW :: Cv :: uS :: uT :: s') 5=y1.toNat*256+y2.toNat:=Ih y1 y2 [];have g7:bO (a :: b :: c :: d :: tu :: y1 :: y2 :: y3 :: y4 :: mA :: y6 :: xW :: Cv :: uS :: uT :: s') 7=y3.toNat*256+y4.toNat:=Ih y3 y4 [];have g13:bO (a :: b :: c :: d :: tu :: y1 :: y2 :: y3 :: y4 :: mA :: y6 :: xW :: Cv :: uS :: uT :: s') 13=uS.toNat*256+uT.toNat:=Ih uS uT [];have g10:(a :: b :: c :: d :: tu :: y1 :: y2 :: y3 :: y4 :: mA :: y6 :: xW :: Cv :: uS :: uT :: s').getD 10 0=y6:=rfl;rw[g4,g5,g7,g13,g10]at lZ;have hlen:(a :: b :: c :: d :: tu :: y1 :: y2 :: y3 :: y4 :: mA :: y6 :: xW :: Cv :: uS :: uT :: s').length=s'.length+15:=ak;rw[hlen]at lZ;have hx0:tu=0 ↔ tu.toNat=0:=⟨fun h=>by rw[h];rfl,fun h=>IZ h⟩
   generalize uS.toNat*256+uT.toNat=N at *;generalize y1.toNat*256+y2.toNat=K at *;by_cases hall:tu=0/\K=41/\N=s'.length
   ·obtain⟨hx,rfl,rfl⟩:=hall;rw[aG (by rintro(h|h|h|h);omega;exact h hx;omega;omega)]at lZ;have anr:mL s'.length s' false=([],false):=by unfold mL;rw[aP aB,x_]
    rw[anr]at f8;obtain⟨rfl,rfl⟩:=gK f8;unfold Cu;rw[lZ,hx];rfl
   ·rw[aP (by
     by_cases h1:tu=0
     ·by_cases h2:K=41
      ·exact .inr (.inr (.inr fun h=>hall ⟨h1,h2,ae⟩))
      ·exact .inr (.inr (.inl h2))
     ·exact .inr (.inl h1))]at lZ
    refine zO lZ ?_;cases b8
    ·obtain⟨_,l8⟩:=RA f8;cases t8 with
     | cons x t8=>simp
     | nil =>
      have hN:N=s'.length:=by simpa using l8.symm
      by_cases h1:tu.toNat=0
      ·have h2:K≠41:=fun h=>hall ⟨hx0.2 h1,h,hN⟩;simp[h2]
      ·simp[h1]
    ·rfl
theorem ant(zb i b:Nat)(c0 az c2 c3 k kc sz bN:Int)(op:Bool)(m qs nm:ai)(R:ai)(P:World->Value->Value->Value->Value->Value->Prop)(w:World)(h1:(bits .and .i64 b 32768 != 0)=false)(h2:(bits .and .i64 b 30720 != 0)=false)
  (hh:aF 70 #[aA m] w (cS (.tuple #[.agg #[aq i,aq b,aq c0,aq az,aq c2,aq c3],.bool true]) w))
  (hq:∀W,aF 72 #[.agg #[aq i,aq b,aq c0,aq az,aq c2,aq c3],aA m] W (cS (.tuple #[dK i b c0 az c2 c3 qs nm k kc op sz bN,.bool true]) W))
  (ha:∀W,aw w W->aF 74 #[dK i b c0 az c2 c3 qs nm k kc op sz bN,aO zb] W fun e w'=>(∃v0 v1 v2 v3 v4,e=.returned (.agg #[v0,v1,v2,v3,v4])/\P w' v0 v1 v2 v3 v4)/\aw W w')
  (hr:∀W v0 v1 v2 v3 v4,aw w W->P W v0 v1 v2 v3 v4->aF 73 #[dK i b c0 az c2 c3 qs nm k kc op sz bN,.agg #[v0,v1,v2,v3,v4]] W (cS (aA R) W)) :
  aF 27 #[aO zb,aA m] w (cS (aA R) w):=by
 have uQ:=ag hh;have EU:=ag hq;have RG:=ag ha;have Dl:=ag hr;clear hh hq ha hr;unfold dK at EU RG Dl;go_enter func27,ntmps27;go_wp2_with fail;refine uQ.mono ?_;rintro e w1 ⟨rfl,hb1⟩;have hB1:=ag hb1;have hs1:=hb1.size;clear hb1;go_wp2_with fail;refine(EU _).mono ?_;rintro e w2 ⟨rfl,hb2⟩;have hB2:aw w w2:=(hB1.alloc hs1 _).trans (hb2.mono aX);have eu:=ag hB2;have hs2:=hB2.size;clear hb2 hB2 hB1 EU uQ;go_wp2_with fail;have hQ:eG (w2.alloc (.cells #[.int .i64 i,.int .i64 b,.int .i64 c0,.int .i64 az,.int .i64 c2,.int .i64 c3,.string (ah qs),.string (ah nm),.int .i64 k,.int .i64 kc,.bool op,.int .i64 sz,.int .i64 bN] 137)) w2.heap.size i b c0 az c2 c3 qs nm k kc op sz bN:=World.alloc_heap_new w2 _;have aa5:aw w (w2.alloc (.cells #[.int .i64 i,.int .i64 b,.int .i64 c0,.int .i64 az,.int .i64 c2,.int .i64 c3,.string (ah qs),.string (ah nm),.int .i64 k,.int .i64 kc,.bool op,.int .i64 sz,.int .i64 bN] 137)):=eu.alloc hs2 _;clear eu;generalize (w2.alloc (.cells #[.int .i64 i,.int .i64 b,.int .i64 c0,.int .i64 az,.int .i64 c2,.int .i64 c3,.string (ah qs),.string (ah nm),.int .i64 k,.int .i64 kc,.bool op,.int .i64 sz,.int .i64 bN] 137))=X at *;have sK:∀W W':World,aw W W'->(W.cell? (ar w2.heap.size 0)=some (aq i)/\W.cell? (ar w2.heap.size 1)=some (aq b)/\W.cell? (ar w2.heap.size 2)=some (aq c0)/\W.cell? (ar w2.heap.size 3)=some (aq az)/\W.cell? (ar w2.heap.size 4)=some (aq c2)/\W.cell? (ar w2.heap.size 5)=some (aq c3)/\W.cell? (ar w2.heap.size 6)=some (aA qs)/\W.cell? (ar w2.heap.size 7)=some (aA nm)/\W.cell? (ar w2.heap.size 8)=some (aq k)/\W.cell? (ar w2.heap.size 9)=some (aq kc)/\W.cell? (ar w2.heap.size 10)=some (.bool op)/\W.cell? (ar w2.heap.size 11)=some (aq sz)/\W.cell? (ar w2.heap.size 12)=some (aq bN))->(W'.cell? (ar w2.heap.size 0)=some (aq i)/\W'.cell? (ar w2.heap.size 1)=some (aq b)/\W'.cell? (ar w2.heap.size 2)=some (aq c0)/\W'.cell? (ar w2.heap.size 3)=some (aq az)/\W'.cell? (ar w2.heap.size 4)=some (aq c2)/\W'.cell? (ar w2.heap.size 5)=some (aq c3)/\W'.cell? (ar w2.heap.size 6)=some (aA qs)/\W'.cell? (ar w2.heap.size 7)=some (aA nm)/\W'.cell? (ar w2.heap.size 8)=some (aq k)/\W'.cell? (ar w2.heap.size 9)=some (aq kc)/\W'.cell? (ar w2.heap.size 10)=some (.bool op)/\W'.cell? (ar w2.heap.size 11)=some (aq sz)/\W'.cell? (ar w2.heap.size 12)=some (aq bN)):=fun W W' hb h=>by
  have kp:∀(a:Addr) (v:Value),W.cell? a=some v->W'.cell? a=some v:=fun a v h=>(hb.cell (qD W a h)).trans h;obtain⟨e0,e1,e2,e3,e4,e5,e6,e7,e8,e9,e10,e11,e12⟩:=h;exact⟨kp _ _ e0,kp _ _ e1,kp _ _ e2,kp _ _ e3,kp _ _ e4,kp _ _ e5,kp _ _ e6,kp _ _ e7,kp _ _ e8,kp _ _ e9,kp _ _ e10,kp _ _ e11,kp _ _ e12⟩
 have mS:Hid (∀W,aw w W->(W.cell? (ar w2.heap.size 0)=some (aq i)/\W.cell? (ar w2.heap.size 1)=some (aq b)/\W.cell? (ar w2.heap.size 2)=some (aq c0)/\W.cell? (ar w2.heap.size 3)=some (aq az)/\W.cell? (ar w2.heap.size 4)=some (aq c2)/\W.cell? (ar w2.heap.size 5)=some (aq c3)/\W.cell? (ar w2.heap.size 6)=some (aA qs)/\W.cell? (ar w2.heap.size 7)=some (aA nm)/\W.cell? (ar w2.heap.size 8)=some (aq k)/\W.cell? (ar w2.heap.size 9)=some (aq kc)/\W.cell? (ar w2.heap.size 10)=some (.bool op)/\W.cell? (ar w2.heap.size 11)=some (aq sz)/\W.cell? (ar w2.heap.size 12)=some (aq bN))->aF 74 #[(.agg #[aq i,aq b,aq c0,aq az,aq c2,aq c3,aA qs,aA nm,aq k,aq kc,.bool op,aq sz,aq bN]),aO zb] W fun e w' =>
   ∃v0 v1 v2 v3 v4,e=.returned (.agg #[v0,v1,v2,v3,v4])/\(w'.cell? (ar w2.heap.size 0)=some (aq i)/\w'.cell? (ar w2.heap.size 1)=some (aq b)/\w'.cell? (ar w2.heap.size 2)=some (aq c0)/\w'.cell? (ar w2.heap.size 3)=some (aq az)/\w'.cell? (ar w2.heap.size 4)=some (aq c2)/\w'.cell? (ar w2.heap.size 5)=some (aq c3)/\w'.cell? (ar w2.heap.size 6)=some (aA qs)/\w'.cell? (ar w2.heap.size 7)=some (aA nm)/\w'.cell? (ar w2.heap.size 8)=some (aq k)/\w'.cell? (ar w2.heap.size 9)=some (aq kc)/\w'.cell? (ar w2.heap.size 10)=some (.bool op)/\w'.cell? (ar w2.heap.size 11)=some (aq sz)/\w'.cell? (ar w2.heap.size 12)=some (aq bN))/\Hid (aw w w'/\P w' v0 v1 v2 v3 v4)):=by
  intro W hb hS;refine(RG W hb).mono ?_;rintro e w' ⟨⟨v0,v1,v2,v3,v4,rfl,hv⟩,hb'⟩;exact⟨v0,v1,v2,v3,v4,rfl,sK W w' hb' hS,hb.trans (hb'.mono hb.size),hv⟩
 have gv:Hid (∀W v0 v1 v2 v3 v4,Hid (aw w W/\P W v0 v1 v2 v3 v4)->(W.cell? (ar w2.heap.size 0)=some (aq i)/\W.cell? (ar w2.heap.size 1)=some (aq b)/\W.cell? (ar w2.heap.size 2)=some (aq c0)/\W.cell? (ar w2.heap.size 3)=some (aq az)/\W.cell? (ar w2.heap.size 4)=some (aq c2)/\W.cell? (ar w2.heap.size 5)=some (aq c3)/\W.cell? (ar w2.heap.size 6)=some (aA qs)/\W.cell? (ar w2.heap.size 7)=some (aA nm)/\W.cell? (ar w2.heap.size 8)=some (aq k)/\W.cell? (ar w2.heap.size 9)=some (aq kc)/\W.cell? (ar w2.heap.size 10)=some (.bool op)/\W.cell? (ar w2.heap.size 11)=some (aq sz)/\W.cell? (ar w2.heap.size 12)=some (aq bN))->aF 73 #[(.agg #[aq i,aq b,aq c0,aq az,aq c2,aq c3,aA qs,aA nm,aq k,aq kc,.bool op,aq sz,aq bN]),.agg #[v0,v1,v2,v3,v4]] W fun e w' =>
   e=.returned (aA (R))/\(w'.cell? (ar w2.heap.size 0)=some (aq i)/\w'.cell? (ar w2.heap.size 1)=some (aq b)/\w'.cell? (ar w2.heap.size 2)=some (aq c0)/\w'.cell? (ar w2.heap.size 3)=some (aq az)/\w'.cell? (ar w2.heap.size 4)=some (aq c2)/\w'.cell? (ar w2.heap.size 5)=some (aq c3)/\w'.cell? (ar w2.heap.size 6)=some (aA qs)/\w'.cell? (ar w2.heap.size 7)=some (aA nm)/\w'.cell? (ar w2.heap.size 8)=some (aq k)/\w'.cell? (ar w2.heap.size 9)=some (aq kc)/\w'.cell? (ar w2.heap.size 10)=some (.bool op)/\w'.cell? (ar w2.heap.size 11)=some (aq sz)/\w'.cell? (ar w2.heap.size 12)=some (aq bN))/\Hid (aw w w')):=by
  intro W v0 v1 v2 v3 v4 hB hS;obtain⟨hb,hv⟩:=af hB;refine(Dl W _ _ _ _ _ hb hv).mono ?_;rintro e w' ⟨rfl,hb'⟩;exact⟨rfl,sK W w' hb' hS,hb.trans (hb'.mono hb.size)⟩
 have hS:X.drew.cell? (ar w2.heap.size 0)=some (aq i)/\X.drew.cell? (ar w2.heap.size 1)=some (aq b)/\X.drew.cell? (ar w2.heap.size 2)=some (aq c0)/\X.drew.cell? (ar w2.heap.size 3)=some (aq az)/\X.drew.cell? (ar w2.heap.size 4)=some (aq c2)/\X.drew.cell? (ar w2.heap.size 5)=some (aq c3)/\X.drew.cell? (ar w2.heap.size 6)=some (aA qs)/\X.drew.cell? (ar w2.heap.size 7)=some (aA nm)/\X.drew.cell? (ar w2.heap.size 8)=some (aq k)/\X.drew.cell? (ar w2.heap.size 9)=some (aq kc)/\X.drew.cell? (ar w2.heap.size 10)=some (.bool op)/\X.drew.cell? (ar w2.heap.size 11)=some (aq sz)/\X.drew.cell? (ar w2.heap.size 12)=some (aq bN):=hQ.cells;have aa6:aw w X.drew:=aa5.drew;have P6:=ag aa6;clear hQ aa5 aa6 RG Dl sK
 go_region_held (fun w'=>w'.cell? (ar w2.heap.size 0)=some (aq i)/\w'.cell? (ar w2.heap.size 1)=some (aq b)/\w'.cell? (ar w2.heap.size 2)=some (aq c0)/\w'.cell? (ar w2.heap.size 3)=some (aq az)/\w'.cell? (ar w2.heap.size 4)=some (aq c2)/\w'.cell? (ar w2.heap.size 5)=some (aq c3)/\w'.cell? (ar w2.heap.size 6)=some (aA qs)/\w'.cell? (ar w2.heap.size 7)=some (aA nm)/\w'.cell? (ar w2.heap.size 8)=some (aq k)/\w'.cell? (ar w2.heap.size 9)=some (aq kc)/\w'.cell? (ar w2.heap.size 10)=some (.bool op)/\w'.cell? (ar w2.heap.size 11)=some (aq sz)/\w'.cell? (ar w2.heap.size 12)=some (aq bN)) (first|assumption|go_keep)
  (first
   | (go_at_call 74;go_loud (refine(mS _ P6 ?_).mono ?_;assumption;rintro e w5 ⟨v0,v1,v2,v3,v4,rfl,OB,uf⟩))
   | (go_at_call 73;go_loud (refine(gv _ _ _ _ _ _ uf ?_).mono ?_;assumption;rintro e w6 ⟨rfl,J4,Gu⟩)))
 rename_i hH;clear hH hS OB J4 uf;go_wp2;go_ret;exact⟨rfl,Gu⟩
end Go.Proofs.YtkkpahmoljiepaaGreatDoor
