import Derived.Test.YtkkpahmoljiepaaGreatDoorJ17
set_option maxRecDepth 1000000
set_option maxHeartbeats 12800000
set_option linter.unusedSimpArgs false
set_option linter.unusedVariables false
namespace Go.Proofs.YtkkpahmoljiepaaGreatDoor
open Go.RowKit Go.Proofs.Tryz
theorem Ky(c:UInt8)(s:ai)(br:Bool):cY (c :: s) br=(c.toNat,s,br):=rfl
theorem zk(c d:UInt8)(s:ai)(br:Bool):cZ (c :: d :: s) br=(c.toNat*256+d.toNat,s,br):=rfl
theorem Xl(a b c d:UInt8)(s:ai)(br:Bool):dh (a :: b :: c :: d :: s) br 4=([a,b,c,d],s,br):=by unfold dh;rw[aP ak];rfl
abbrev zl:List Value:=[.string ⟨#[]⟩,.string ⟨#[]⟩,.string ⟨#[]⟩]
structure BD(w W:World)(s:ai)(bs:Bool)(t:ai)(bt:Bool):Prop where
 z:ay W w.heap.size zl 307
 r:cB W (w.heap.size+1) s bs
 h:cB W (w.heap.size+2) t bt
 size:W.heap.size=w.heap.size+3
 below:Below w.heap.size w W
theorem BD.call{w W W':World}{s t t':ai}{bs bt Xm:Bool}(h:BD w W s bs t bt)(hr:cB W' (w.heap.size+2) t' Xm)(hk:cF (w.heap.size+2) W W')(hs:W'.heap.size=W.heap.size):BD w W' s bs t' Xm :=
 ⟨h.z.kept hk ae,h.r.kept hk ae,hr,hs.trans h.size,h.below.trans (hk.below ae (by have:=h.size;omega))⟩
theorem aih(h:ai)(gb:Nat)(W:World)(hgb:gb=W.heap.size)(hl:h.length<=1000):Calls prog 256 #[.slice (some ⟨gb,0,none⟩) 1 1] (W.alloc (.cells #[.iface 224 (.string (ah h))] 297)) fun e w'=>e=.returned (.int .i64 (kJ (aR true h)))/\Below gb W w':=by subst hgb;have:=OJ [ct h] W (by intro f hf;simp at hf;subst hf;exact iO h) ak (by simp[bY,ct];omega);rw[show bY [ct h]=h by simp[bY,ct]]at this;exact this
structure sY(w W:World)(s:ai)(bs:Bool)(a b r:ai):Prop where
 z:ay W w.heap.size zl 307
 G0:cB W (w.heap.size+1) s bs
 p:ay W (w.heap.size+3) [.string (ah a),.string (ah b),.string (ah r)] 307
 below:Below w.heap.size w W
theorem BD.aii{w W:World}{s t:ai}{bs bt:Bool}(h:BD w W s bs t bt)(a b:ai):sY w (W.alloc (.cells #[.string (ah a),.string (ah b),.string ⟨#[]⟩] 307)) s bs a b [] :=
 ⟨h.z.alloc _,(bV _ _ _ h.r.lt).trans h.r,by rw[<- h.size];exact ay.eo _ _ _,h.below.alloc (by have:=h.size;omega) _⟩
theorem sY.size{w W:World}{s a b r:ai}{bs:Bool}(h:sY w W s bs a b r):w.heap.size+3<W.heap.size:=h.p.lt
theorem sY.aij{w W W':World}{s a b r:ai}{bs:Bool}(h:sY w W s bs a b r)(hb:Below W.heap.size W W'):sY w W' s bs a b r :=
 ⟨h.z.below hb h.z.lt,(hb.block _ h.G0.lt).trans h.G0,h.p.below hb h.p.lt,h.below.trans (hb.mono (by have:=h.size;omega))⟩
theorem sY.call{w W W':World}{s a b r s':ai}{bs bs':Bool}(h:sY w W s bs a b r)(hr:cB W' (w.heap.size+1) s' bs')(hk:cF (w.heap.size+1) W W'):sY w W' s' bs' a b r :=
 ⟨h.z.kept hk ae,hr,h.p.kept hk ae,h.below.trans (hk.below ae (by have:=h.size;omega))⟩
theorem sY.aik{w W:World}{s a b r:ai}{bs:Bool}(h:sY w W s bs a b r)(r':ai):sY w (W.setCell ⟨w.heap.size+3,2,none⟩ (.string (ah r'))) s bs a b r' :=
 ⟨(bf _ _ _ _ (by show w.heap.size≠w.heap.size+3;omega)).trans h.z,(bf _ _ _ _ (by show w.heap.size+1≠w.heap.size+3;omega)).trans h.G0,h.p.set 2 _,h.below.setCell (by show w.heap.size<=w.heap.size+3;omega) _⟩
theorem ail(n:Nat)(h:n<65536):bits .and .i64 (n:Int) 16383=(n:Int)%16384:=by have e:bits .and .i64 (n:Int) 16383=((n%16384:Nat):Int):=by{show IntKind.i64.wrap ((BitVec.ofInt 64 (n:Int) &&& BitVec.ofInt 64 16383).toNat:Int)=_;rw[Mj,yf n ae,show(16383:Int)=((16383:Nat):Int)from rfl,yf 16383 ae,show(16383:Nat)=2 ^ 14 - 1 from rfl,SD];rw[gM];first|omega|(unfold wrap64;omega)};rw[e];omega
def zm(n sm:Nat)(t a b:ai)(ok:Bool)(e:Ending):Prop :=
 if n<28\/sm≠65535 then e=.returned (.tuple #[.agg #[.string ⟨#[]⟩,.string ⟨#[]⟩,.string ⟨#[]⟩],.bool false])
 else if n - 20<=t.length then e=.returned (.tuple #[.agg #[.string (ah a),.string (ah b),.string (ah (t.take (n - 20)))],.bool ok])
 else ∃m:ai,e=.returned (.tuple #[.agg #[.string (ah a),.string (ah b),.string (ah m)],.bool false])
theorem aim(b0 b1 b2 b3 b4 b5 b6 b7 b8 b9 b10 b11 b12 b13 b14 b15 b16 b17 b18 b19:UInt8)(t:ai)(w:World)(hl:t.length<=100000000)(n pc sm:Nat)(hn:n=b2.toNat*256+b3.toNat)(FN:pc=b6.toNat*256+b7.toNat)(hsm:sm=kJ (aR true [b0,b1,b2,b3,b4,b5,b6,b7,b8,b9,b10,b11,b12,b13,b14,b15,b16,b17,b18,b19]))(ok:Bool)(bE:ok=(b0.toNat == 69 && (pc%16384 == 0 && b9.toNat == 17))) :
  Calls prog 210 #[.string (ah (b0 :: b1 :: b2 :: b3 :: b4 :: b5 :: b6 :: b7 :: b8 :: b9 :: b10 :: b11 :: b12 :: b13 :: b14 :: b15 :: b16 :: b17 :: b18 :: b19 :: t))] w fun e w'=>zm n sm t [b12,b13,b14,b15] [b16,b17,b18,b19] ok e/\Below w.heap.size w w':=by
 have Pl:=ag (fun gb W hgb=>aih [b0,b1,b2,b3,b4,b5,b6,b7,b8,b9,b10,b11,b12,b13,b14,b15,b16,b17,b18,b19] gb W hgb ak);rw[<- hsm]at Pl;have dv:=ag hn;have C9:=ag FN;have ew:=ag bE;have nM:n<65536:=by have:=jX b2;have:=jX b3;omega
 have ain:pc<65536:=by have:=jX b6;have:=jX b7;omega
 have aqU:sm<=65535:=by rw[hsm];exact Gy _
 clear hn FN bE hsm;have hz0:ay ((w.alloc (.cells #[.string ⟨#[]⟩,.string ⟨#[]⟩,.string ⟨#[]⟩] 307)).alloc (.cells #[.string (ah (b0 :: b1 :: b2 :: b3 :: b4 :: b5 :: b6 :: b7 :: b8 :: b9 :: b10 :: b11 :: b12 :: b13 :: b14 :: b15 :: b16 :: b17 :: b18 :: b19 :: t)),.bool false] 215)) w.heap.size zl 307:=(ay.eo w _ _).alloc _;have jL:cB ((w.alloc (.cells #[.string ⟨#[]⟩,.string ⟨#[]⟩,.string ⟨#[]⟩] 307)).alloc (.cells #[.string (ah (b0 :: b1 :: b2 :: b3 :: b4 :: b5 :: b6 :: b7 :: b8 :: b9 :: b10 :: b11 :: b12 :: b13 :: b14 :: b15 :: b16 :: b17 :: b18 :: b19 :: t)),.bool false] 215)) (w.heap.size+1) (b0 :: b1 :: b2 :: b3 :: b4 :: b5 :: b6 :: b7 :: b8 :: b9 :: b10 :: b11 :: b12 :: b13 :: b14 :: b15 :: b16 :: b17 :: b18 :: b19 :: t) false:=by{have:=World.alloc_heap_new (w.alloc (.cells #[.string ⟨#[]⟩,.string ⟨#[]⟩,.string ⟨#[]⟩] 307)) (.cells #[.string (ah (b0 :: b1 :: b2 :: b3 :: b4 :: b5 :: b6 :: b7 :: b8 :: b9 :: b10 :: b11 :: b12 :: b13 :: b14 :: b15 :: b16 :: b17 :: b18 :: b19 :: t)),.bool false] 215);simpa [cB]using this};have ey:=ag (((bW w.heap.size w).alloc (aL _) (.cells #[.string ⟨#[]⟩,.string ⟨#[]⟩,.string ⟨#[]⟩] 307)).alloc ak (.cells #[.string (ah (b0 :: b1 :: b2 :: b3 :: b4 :: b5 :: b6 :: b7 :: b8 :: b9 :: b10 :: b11 :: b12 :: b13 :: b14 :: b15 :: b16 :: b17 :: b18 :: b19 :: t)),.bool false] 215));have fQ:=ag (pR _ 20 (b0 :: b1 :: b2 :: b3 :: b4 :: b5 :: b6 :: b7 :: b8 :: b9 :: b10 :: b11 :: b12 :: b13 :: b14 :: b15 :: b16 :: b17 :: b18 :: b19 :: t) false _ jL ae aX);rw[show dh (b0 :: b1 :: b2 :: b3 :: b4 :: b5 :: b6 :: b7 :: b8 :: b9 :: b10 :: b11 :: b12 :: b13 :: b14 :: b15 :: b16 :: b17 :: b18 :: b19 :: t) false 20=([b0,b1,b2,b3,b4,b5,b6,b7,b8,b9,b10,b11,b12,b13,b14,b15,b16,b17,b18,b19],t,false)from by unfold dh;rw[aP ak];rfl]at fQ;have qd:=ag hz0;clear hz0 jL;generalize (b0 :: b1 :: b2 :: b3 :: b4 :: b5 :: b6 :: b7 :: b8 :: b9 :: b10 :: b11 :: b12 :: b13 :: b14 :: b15 :: b16 :: b17 :: b18 :: b19 :: t)=S at *;generalize hH : [b0,b1,b2,b3,b4,b5,b6,b7,b8,b9,b10,b11,b12,b13,b14,b15,b16,b17,b18,b19]=H at *;go_enter func210,ntmps210;go_wp2_with (fail);refine(af fQ).mono ?_;rintro e w1 ⟨rfl,hr1,dN,hs1⟩;have hsz:w1.heap.size=w.heap.size+2:=by rw[hs1];simp
 have fe:Hid (BD w (w1.alloc (.cells #[.string (ah H),.bool false] 215)) t false H false) := ⟨((af qd).kept dN ae).alloc _,(bV _ _ _ hr1.lt).trans hr1,by rw[<- hsz];exact World.alloc_heap_new _ _,aX,((af ey).trans (dN.below ae aX)).alloc ae _⟩;have Ej:=ag hsz;clear hr1 dN hs1 fQ qd ey;go_wp2_with (fail);generalize w1.alloc (.cells #[.string (ah H),.bool false] 215)=v0 at *;clear hsz Ej w1;rw[<- hH]at fe;have HH:=ag hH;clear hH;have HC:=ag (oT (w.heap.size+2) [b0,b1,b2,b3,b4,b5,b6,b7,b8,b9,b10,b11,b12,b13,b14,b15,b16,b17,b18,b19] false v0 (af fe).h ak);rw[Ky]at HC;refine(af HC).mono ?_;rintro e v1 ⟨rfl,hr,hk,hs⟩;have fE:=ag ((af fe).call hr hk hs);clear hr hk hs HC fe;have HC:=ag (oT (w.heap.size+2) [b1,b2,b3,b4,b5,b6,b7,b8,b9,b10,b11,b12,b13,b14,b15,b16,b17,b18,b19] false v1 (af fE).h ak);rw[Ky]at HC;go_wp2_with (fail);refine(af HC).mono ?_;rintro e v2 ⟨rfl,hr,hk,hs⟩;have dO:=ag ((af fE).call hr hk hs);clear hr hk hs HC fE;have HC:=ag (kt (w.heap.size+2) [b2,b3,b4,b5,b6,b7,b8,b9,b10,b11,b12,b13,b14,b15,b16,b17,b18,b19] false v2 (af dO).h ak);rw[zk,<- af dv]at HC;go_wp2_with (fail);refine(af HC).mono ?_;rintro e v3 ⟨rfl,hr,hk,hs⟩;have gj:=ag ((af dO).call hr hk hs);clear hr hk hs HC dO;have HC:=ag (kt (w.heap.size+2) [b4,b5,b6,b7,b8,b9,b10,b11,b12,b13,b14,b15,b16,b17,b18,b19] false v3 (af gj).h ak);rw[zk]at HC;go_wp2_with (fail);refine(af HC).mono ?_;rintro e v4 ⟨rfl,hr,hk,hs⟩;have fP:=ag ((af gj).call hr hk hs);clear hr hk hs HC gj;have HC:=ag (kt (w.heap.size+2) [b6,b7,b8,b9,b10,b11,b12,b13,b14,b15,b16,b17,b18,b19] false v4 (af fP).h ak);rw[zk,<- af C9]at HC;go_wp2_with (fail);refine(af HC).mono ?_;rintro e v5 ⟨rfl,hr,hk,hs⟩;have BF:=ag ((af fP).call hr hk hs);clear hr hk hs HC fP;have HC:=ag (oT (w.heap.size+2) [b8,b9,b10,b11,b12,b13,b14,b15,b16,b17,b18,b19] false v5 (af BF).h ak);rw[Ky]at HC;go_wp2_with (fail);refine(af HC).mono ?_;rintro e v6 ⟨rfl,hr,hk,hs⟩;have xK:=ag ((af BF).call hr hk hs);clear hr hk hs HC BF;have HC:=ag (oT (w.heap.size+2) [b9,b10,b11,b12,b13,b14,b15,b16,b17,b18,b19] false v6 (af xK).h ak);rw[Ky]at HC;go_wp2_with (fail);refine(af HC).mono ?_;rintro e v7 ⟨rfl,hr,hk,hs⟩;have BG:=ag ((af xK).call hr hk hs);clear hr hk hs HC xK;have HC:=ag (kt (w.heap.size+2) [b10,b11,b12,b13,b14,b15,b16,b17,b18,b19] false v7 (af BG).h ak);rw[zk]at HC;go_wp2_with (fail);refine(af HC).mono ?_;rintro e v8 ⟨rfl,hr,hk,hs⟩;have BH:=ag ((af BG).call hr hk hs);clear hr hk hs HC BG;have HC:=ag (pR (w.heap.size+2) 4 [b12,b13,b14,b15,b16,b17,b18,b19] false v8 (af BH).h ae ak);rw[Xl]at HC;go_wp2_with (fail);refine(af HC).mono ?_;rintro e v9 ⟨rfl,hr,hk,hs⟩;have BI:=ag ((af BH).call hr hk hs);clear hr hk hs HC BH;have HC:=ag (pR (w.heap.size+2) 4 [b16,b17,b18,b19] false v9 (af BI).h ae ak);rw[Xl]at HC;go_wp2_with (fail);refine(af HC).mono ?_;rintro e v10 ⟨rfl,hr,hk,hs⟩;have nk:=ag ((af BI).call hr hk hs);clear hr hk hs HC BI;have Xn:=(af nk).size;have Pm:=ag ((af nk).aii [b12,b13,b14,b15] [b16,b17,b18,b19]);have y0:=(af nk).z.cell 0 ak;have y1:=(af nk).z.cell 1 ak;have y2:=(af nk).z.cell 2 ak;have Pn:=(af nk).z.frozen;simp only[zl,dS,ej]at y0 y1 y2;have zn:=ag (((((af nk).z.set 0 (.string ⟨#[]⟩)).set 1 (.string ⟨#[]⟩)).set 2 (.string ⟨#[]⟩)).alloc (.cells #[.string (ah [b12,b13,b14,b15]),.string (ah [b16,b17,b18,b19]),.string ⟨#[]⟩] 307));have Kz:=ag (((((af nk).below.setCell (aL _) (p:=⟨w.heap.size,0,none⟩) (.string ⟨#[]⟩)).setCell (aL _) (p:=⟨w.heap.size,1,none⟩) (.string ⟨#[]⟩)).setCell (aL _) (p:=⟨w.heap.size,2,none⟩) (.string ⟨#[]⟩)).alloc (by simp[World.setCell];omega) (.cells #[.string (ah [b12,b13,b14,b15]),.string (ah [b16,b17,b18,b19]),.string ⟨#[]⟩] 307));clear nk dv C9;by_cases aio:n<28;{have bG:Hid (∀e:Ending,e=.returned (.tuple #[.agg #[.string ⟨#[]⟩,.string ⟨#[]⟩,.string ⟨#[]⟩],.bool false])->zm n sm t [b12,b13,b14,b15] [b16,b17,b18,b19] ok e):=fun e he=>by{unfold zm;rw[aP (.inl aio)];exact he};clear Pm;go_wp2;refine df (v:=.tuple #[.agg #[.string ⟨#[]⟩,.string ⟨#[]⟩,.string ⟨#[]⟩],.bool false]) ?_ rfl ?_;{have r0:((((v10.setCell ⟨w.heap.size,0,none⟩ (.string ⟨#[]⟩)).setCell ⟨w.heap.size,1,none⟩ (.string ⟨#[]⟩)).setCell ⟨w.heap.size,2,none⟩ (.string ⟨#[]⟩)).alloc (.cells #[.string (ah [b12,b13,b14,b15]),.string (ah [b16,b17,b18,b19]),.string ⟨#[]⟩] 307)).cell? ⟨w.heap.size,0,none⟩=some (.string ⟨#[]⟩):=(af zn).cell 0 ak;have r1:((((v10.setCell ⟨w.heap.size,0,none⟩ (.string ⟨#[]⟩)).setCell ⟨w.heap.size,1,none⟩ (.string ⟨#[]⟩)).setCell ⟨w.heap.size,2,none⟩ (.string ⟨#[]⟩)).alloc (.cells #[.string (ah [b12,b13,b14,b15]),.string (ah [b16,b17,b18,b19]),.string ⟨#[]⟩] 307)).cell? ⟨w.heap.size,1,none⟩=some (.string ⟨#[]⟩):=(af zn).cell 1 ak;have r2:((((v10.setCell ⟨w.heap.size,0,none⟩ (.string ⟨#[]⟩)).setCell ⟨w.heap.size,1,none⟩ (.string ⟨#[]⟩)).setCell ⟨w.heap.size,2,none⟩ (.string ⟨#[]⟩)).alloc (.cells #[.string (ah [b12,b13,b14,b15]),.string (ah [b16,b17,b18,b19]),.string ⟨#[]⟩] 307)).cell? ⟨w.heap.size,2,none⟩=some (.string ⟨#[]⟩):=(af zn).cell 2 ak;simp[results,results210,go_sem,r0,r1,r2]};{exact⟨af bG _ rfl,af Kz⟩}};have aqV:¬(n:Int)<28:=ae;go_wp2_with (fail);refine(af Pl _ _ c5).mono ?_;rintro e aip ⟨rfl,Xo⟩;have rF:=ag ((af Pm).aij (Xo.mono c5));clear Xo Pm Pl Xn y0 y1 y2 Pn Kz zn;by_cases hsm:sm=65535;{
 subst hsm;obtain⟨n',hn'⟩:∃n',n=n'+20:=⟨n - 20,ae⟩;have kn:(n:Int) - 20=(n':Int):=ae;have kp:=ail pc ain;have hb0:=jX b0;have rz:=jX b9;have HC:=ag (pR (w.heap.size+1) n' t false aip (af rF).G0 ae ae);have tY:Hid (∀(m:ai) (bs:Bool),dh t false n'=(m,(dh t false n').2.1,bs)->∀e:Ending,e=.returned (.tuple #[.agg #[.string (ah [b12,b13,b14,b15]),.string (ah [b16,b17,b18,b19]),.string (ah m)],.bool (ok && !bs)])->zm n 65535 t [b12,b13,b14,b15] [b16,b17,b18,b19] ok e):=fun m bs hm e he=>by{
 unfold zm;rw[aG ae,show n - 20=n' by omega];unfold dh at hm;split at hm;{
 rename_i hle;rw[aP hle];obtain⟨rfl,rfl⟩:t.take n'=m/\bs=false:=by simpa using hm
 rw[he];simp};{
 rename_i hle;rw[aG hle];obtain⟨rfl,rfl⟩:m = []/\bs=true:=by simpa using hm
 exact⟨_,by rw[he,Mn,Mk]⟩}};obtain⟨m,t',bs,pV⟩:∃m t' bs,dh t false n'=(m,t',bs):=⟨_,_,_,rfl⟩;rw[pV]at HC tY;have bG:=ag (af tY m bs rfl);simp only at HC;clear tY pV;go_wp2_with (fail);refine(af HC).mono ?_;rintro e w12 ⟨rfl,hr,hk,-⟩;have xI:=ag ((af rF).call hr hk);have aqW:=(af xI).p.frozen;have um:=(af xI).p.cell 2 ak;simp only[dS,ej]at um;have pd:=ag ((af xI).aik m);clear hr hk HC rF xI;have q1:=(af pd).G0.cells.2;have p0:=(af pd).p.cell 0 ak;have p1:=(af pd).p.cell 1 ak;have gB:=(af pd).p.cell 2 ak;have z0:=(af pd).z.cell 0 ak;have z1:=(af pd).z.cell 1 ak;have z2:=(af pd).z.cell 2 ak;have hfz:=(af pd).z.frozen;simp only[zl,dS,ej]at z0 z1 z2 p0 p1 gB;have aZ:=ag (af pd).below;clear pd;by_cases az:b0.toNat=69;{
 by_cases c2:pc%16384=0;{
 by_cases c3:b9.toNat=17;{
 have bE:ok=true:=by rw[af ew];simp[az,c2,c3]
 have c1':(b0.toNat:Int)=69:=ae;have c2':(pc:Int)%16384=0:=ae;have c3':(b9.toNat:Int)=17:=ae;subst bE;rw[E7]at bG;clear ew az c2 c3 hb0 rz;go_wp2_with (fail);go_region;all_goals(go_wp2;refine df (v:=.tuple #[.agg #[.string (ah [b12,b13,b14,b15]),.string (ah [b16,b17,b18,b19]),.string (ah m)],.bool (!bs)]) ?_ rfl ?_;{simp[results,results210,go_sem,z0,z1,z2]};{exact⟨af bG _ rfl,((((af aZ).drew).setCell (aL _) _).setCell (aL _) _).setCell (aL _) _⟩})};{
 have bE:ok=false:=by rw[af ew];simp[c3]
 have c1':(b0.toNat:Int)=69:=ae;have c2':(pc:Int)%16384=0:=ae;have c3':¬(b9.toNat:Int)=17:=ae;have d3:((b9.toNat:Int) == 17)=false:=by simpa using c3'
 subst bE;rw[CD]at bG;clear ew az c2 hb0 rz;go_wp2_with (fail);go_region;all_goals(go_wp2;refine df (v:=.tuple #[.agg #[.string (ah [b12,b13,b14,b15]),.string (ah [b16,b17,b18,b19]),.string (ah m)],.bool (false)]) ?_ rfl ?_;{simp[results,results210,go_sem,z0,z1,z2]};{exact⟨af bG _ rfl,((((af aZ).drew).setCell (aL _) _).setCell (aL _) _).setCell (aL _) _⟩})}};{
 have bE:ok=false:=by rw[af ew];simp[c2]
 have c1':(b0.toNat:Int)=69:=ae;have c2':¬(pc:Int)%16384=0:=ae;subst bE;rw[CD]at bG;clear ew az hb0 rz;go_wp2_with (fail);go_region;all_goals(go_wp2;refine df (v:=.tuple #[.agg #[.string (ah [b12,b13,b14,b15]),.string (ah [b16,b17,b18,b19]),.string (ah m)],.bool (false)]) ?_ rfl ?_;{simp[results,results210,go_sem,z0,z1,z2]};{exact⟨af bG _ rfl,((((af aZ).drew).setCell (aL _) _).setCell (aL _) _).setCell (aL _) _⟩})}};{
 have bE:ok=false:=by rw[af ew];simp[az]
 have c1':¬(b0.toNat:Int)=69:=ae;subst bE;rw[CD]at bG;clear ew hb0 rz;go_wp2_with (fail);go_region;all_goals(go_wp2;refine df (v:=.tuple #[.agg #[.string (ah [b12,b13,b14,b15]),.string (ah [b16,b17,b18,b19]),.string (ah m)],.bool (false)]) ?_ rfl ?_;{simp[results,results210,go_sem,z0,z1,z2]};{exact⟨af bG _ rfl,((((af aZ).drew).setCell (aL _) _).setCell (aL _) _).setCell (aL _) _⟩})}};{
 have aiq:¬(sm:Int)=65535:=ae;have aqX:((sm:Int) != 65535)=true:=by simpa using aiq
 have bG:Hid (∀e:Ending,e=.returned (.tuple #[.agg #[.string ⟨#[]⟩,.string ⟨#[]⟩,.string ⟨#[]⟩],.bool false])->zm n sm t [b12,b13,b14,b15] [b16,b17,b18,b19] ok e):=fun e he=>by{unfold zm;rw[aP (.inr hsm)];exact he};have z0:=(af rF).z.cell 0 ak;have z1:=(af rF).z.cell 1 ak;have z2:=(af rF).z.cell 2 ak;have hfz:=(af rF).z.frozen;simp only[zl,dS,ej]at z0 z1 z2;have aZ:=ag (af rF).below;go_wp2;refine df (v:=.tuple #[.agg #[.string ⟨#[]⟩,.string ⟨#[]⟩,.string ⟨#[]⟩],.bool false]) ?_ rfl ?_;{simp[results,results210,go_sem,z0,z1,z2]};{exact⟨af bG _ rfl,(((af aZ).setCell (aL _) _).setCell (aL _) _).setCell (aL _) _⟩}}
structure zo(w W:World)(a b r s:ai)(bs:Bool):Prop where
 p:ay W w.heap.size [.string (ah a),.string (ah b),.string (ah r)] 307
 z:ay W (w.heap.size+1) [.int .i64 0,.int .i64 0,.string ⟨#[]⟩] 349
 r:cB W (w.heap.size+2) s bs
 size:W.heap.size=w.heap.size+3
 below:Below w.heap.size w W
theorem zo.call{w W W':World}{a b r s t:ai}{bs bt:Bool}(h:zo w W a b r s bs)(hr:cB W' (w.heap.size+2) t bt)(hk:cF (w.heap.size+2) W W')(hs:W'.heap.size=W.heap.size):zo w W' a b r t bt :=
 ⟨h.p.kept hk ae,h.z.kept hk ae,hr,hs.trans h.size,h.below.trans (hk.below ae (by have:=h.size;omega))⟩
theorem zo.air(w:World)(a b r:ai):zo w (((w.alloc (.cells #[.string (ah a),.string (ah b),.string (ah r)] 307)).alloc (.cells #[.int .i64 0,.int .i64 0,.string ⟨#[]⟩] 349)).alloc (.cells #[.string (ah r),.bool false] 215)) a b r r false where
 p:=((ay.eo w _ _).alloc _).alloc _
 z:=by
  have:=(ay.eo (w.alloc (.cells #[.string (ah a),.string (ah b),.string (ah r)] 307)) [.int .i64 0,.int .i64 0,.string ⟨#[]⟩] 349).alloc (.cells #[.string (ah r),.bool false] 215);simpa using this
 r:=by
  have:=World.alloc_heap_new ((w.alloc (.cells #[.string (ah a),.string (ah b),.string (ah r)] 307)).alloc (.cells #[.int .i64 0,.int .i64 0,.string ⟨#[]⟩] 349)) (.cells #[.string (ah r),.bool false] 215);simpa [cB]using this
 size:=ak
 below:=(((bW _ _).alloc (aL _) _).alloc ak _).alloc aX _
structure BJ(w W:World)(a b r s:ai)(bs:Bool)(sp dp:Nat)(m:ai):Prop where
 p:ay W w.heap.size [.string (ah a),.string (ah b),.string (ah r)] 307
 z:ay W (w.heap.size+1) [.int .i64 0,.int .i64 0,.string ⟨#[]⟩] 349
 r:cB W (w.heap.size+2) s bs
 d:ay W (w.heap.size+3) [.int .i64 sp,.int .i64 dp,.string (ah m)] 349
 size:W.heap.size=w.heap.size+4
 below:Below w.heap.size w W
theorem BJ.call{w W W':World}{a b r s t m:ai}{bs bt:Bool}{sp dp:Nat}(h:BJ w W a b r s bs sp dp m)(hr:cB W' (w.heap.size+2) t bt)(hk:cF (w.heap.size+2) W W')(hs:W'.heap.size=W.heap.size):BJ w W' a b r t bt sp dp m :=
 ⟨h.p.kept hk ae,h.z.kept hk ae,hr,h.d.kept hk ae,hs.trans h.size,h.below.trans (hk.below ae (by have:=h.size;omega))⟩
theorem zo.ais{w W:World}{a b r s:ai}{bs:Bool}(h:zo w W a b r s bs)(sp dp:Nat):BJ w (W.alloc (.cells #[.int .i64 sp,.int .i64 dp,.string ⟨#[]⟩] 349)) a b r s bs sp dp [] :=
 ⟨h.p.alloc _,h.z.alloc _,(bV _ _ _ h.r.lt).trans h.r,by rw[<- h.size];exact ay.eo _ _ _,by have:=h.size;simp;omega,h.below.alloc (by have:=h.size;omega) _⟩
theorem BJ.Xp{w W:World}{a b r s m:ai}{bs:Bool}{sp dp:Nat}(h:BJ w W a b r s bs sp dp m)(m':ai):BJ w (W.setCell ⟨w.heap.size+3,2,none⟩ (.string (ah m'))) a b r s bs sp dp m' :=
 ⟨(bf _ _ _ _ (by show w.heap.size≠w.heap.size+3;omega)).trans h.p,(bf _ _ _ _ (by show w.heap.size+1≠w.heap.size+3;omega)).trans h.z,(bf _ _ _ _ (by show w.heap.size+2≠w.heap.size+3;omega)).trans h.r,h.d.set 2 _,by have:=h.size;simpa [World.setCell]using this,h.below.setCell (by show w.heap.size<=w.heap.size+3;omega) _⟩
def BK(sp dp n k:Nat)(t:ai)(us:Nat)(e:Ending):Prop :=
 if n<8\/t.length<n - 8 then e=.returned (.tuple #[.agg #[.int .i64 0,.int .i64 0,.string ⟨#[]⟩],.bool false])
 else e=.returned (.tuple #[.agg #[.int .i64 sp,.int .i64 dp,.string (ah (t.take (n - 8)))],.bool (k == 0 || us == 65535)])
theorem ait(a b:ai)(c0 az c2 c3 bw dm jl c7:UInt8)(t:ai)(w:World)(ha:a.length<=1000)(hb:b.length<=1000)(hl:t.length<=100000)(sp dp n k us:Nat)(hsp:sp=c0.toNat*256+az.toNat)(GZ:dp=c2.toNat*256+c3.toNat)(hn:n=bw.toNat*256+dm.toNat)(hk:k=jl.toNat*256+c7.toNat)
  (nW:us=wj a b ((c0 :: az :: c2 :: c3 :: bw :: dm :: jl :: c7 :: t).take n)) :
  Calls prog 257 #[.agg #[.string (ah a),.string (ah b),.string (ah (c0 :: az :: c2 :: c3 :: bw :: dm :: jl :: c7 :: t))]] w fun e w'=>BK sp dp n k t us e/\Below w.heap.size w w':=by
 have Po:=ag hsp;have Pq:=ag GZ;have dv:=ag hn;have HK:=ag hk;have nM:n<65536:=by have:=jX bw;have:=jX dm;omega
 have dN:k<65536:=by have:=jX jl;have:=jX c7;omega
 have aiu:us<=65535:=by rw[nW];exact Gy _
 obtain⟨r,hr⟩:=bP (c0 :: az :: c2 :: c3 :: bw :: dm :: jl :: c7 :: t);have hrl:r.length=8+t.length:=by rw[hr];simp;omega
 have Pr:(ah r).size=r.length:=dt r;rw[<- hr]at nW ⊢;have ox:=ag (fun W=>Xj a b r (r.take n) W ha hb aX);rw[<- nW]at ox;have fe:=ag (zo.air w a b r);have aT:=ag hr;clear hsp GZ hn hk nW hr;go_enter func257,ntmps257;go_wp2_with (fail);rw[show w.heap.size+1+1=w.heap.size+2 from rfl];generalize ((w.alloc (.cells #[.string (ah a),.string (ah b),.string (ah r)] 307)).alloc (.cells #[.int .i64 0,.int .i64 0,.string ⟨#[]⟩] 349)).alloc (.cells #[.string (ah r),.bool false] 215)=v0 at *;have HC:=ag (kt (w.heap.size+2) r false v0 (af fe).r ae);rw[af aT,zk,<- af Po]at HC;refine(af HC).mono ?_;rintro e v1 ⟨rfl,hr,hk,hs⟩;have fE:=ag ((af fe).call hr hk hs);clear hr hk hs HC fe;have HC:=ag (kt (w.heap.size+2) _ false v1 (af fE).r aX);rw[zk,<- af Pq]at HC;go_wp2_with (fail);refine(af HC).mono ?_;rintro e v2 ⟨rfl,hr,hk,hs⟩;have dO:=ag ((af fE).call hr hk hs);clear hr hk hs HC fE;have hs2:=(af dO).size;have tZ:=ag ((af dO).ais sp dp);clear dO;go_wp2_with (fail);generalize v2.alloc (.cells #[.int .i64 sp,.int .i64 dp,.string ⟨#[]⟩] 349)=u0 at *;clear hs2;have HC:=ag (kt (w.heap.size+2) _ false u0 (af tZ).r aX);rw[zk,<- af dv]at HC;refine(af HC).mono ?_;rintro e u1 ⟨rfl,hr,hk,hs⟩;have ja:=ag ((af tZ).call hr hk hs);clear hr hk hs HC tZ;have HC:=ag (kt (w.heap.size+2) _ false u1 (af ja).r aX);rw[zk,<- af HK]at HC;go_wp2_with (fail);refine(af HC).mono ?_;rintro e u2 ⟨rfl,hr,hk,hs⟩;have ji:=ag ((af ja).call hr hk hs);clear hr hk hs HC ja;by_cases h8:n<8
 ·have z0:=(af ji).z.cell 0 ak;have z1:=(af ji).z.cell 1 ak;have z2:=(af ji).z.cell 2 ak;have hfz:=(af ji).z.frozen;simp at z0 z1 z2;have aZ:=ag (af ji).below;go_wp2;refine df (v:=.tuple #[.agg #[.int .i64 0,.int .i64 0,.string ⟨#[]⟩],.bool false]) (by simp[results,results257,go_sem,z0,z1,z2]) rfl ⟨?_,?_⟩
  ·unfold BK;rw[aP (.inl h8)]
  ·exact(((af aZ).setCell (by show w.heap.size<=w.heap.size+1;omega) _).setCell (by show w.heap.size<=w.heap.size+1;omega) _).setCell (by show w.heap.size<=w.heap.size+1;omega) _
 obtain⟨n',hn'⟩:∃n',n=n'+8:=⟨n - 8,ae⟩
 have kn:(n:Int) - 8=(n':Int):=ae;have Xq:¬(n:Int)<8:=ae;have G1:=ag hn';have vF:n'<=65536:=ae;clear hn';have HC:=ag (pR (w.heap.size+2) n' t false u2 (af ji).r ae ae);by_cases ht:n'<=t.length
 ·rw[dh,aP ht]at HC;have bG:Hid (∀e:Ending,e=.returned (.tuple #[.agg #[.int .i64 sp,.int .i64 dp,.string (ah (t.take n'))],.bool (k == 0 || us == 65535)])->BK sp dp n k t us e):=fun e he=>by
   unfold BK;have:=af G1;rw[aG ae,show n - 8=n' by omega];exact he
  generalize t.take n'=m at *;go_wp2_with (fail);refine(af HC).mono ?_;rintro e u3 ⟨rfl,hr,hk,hs⟩;have nQ:=ag (((af ji).call hr hk hs).Xp m);have p9:=((af ji).call hr hk hs).d.frozen;have KA:=((af ji).call hr hk hs).d.cell 2 ak;simp at KA;clear hr hk hs HC ji;have q1:=(af nQ).r.cells.2;have Xr:n<=r.length:=by have:=af G1;omega
  have hx:(ah r).extract 0 n=ah (r.take n):=MZ r n Xr;go_wp2_with (fail);clear p9 KA;generalize u3.setCell ⟨w.heap.size+3,2,none⟩ (.string (ah m))=u4 at *;have Xs:(u4.drew.cell? ⟨w.heap.size,0,none⟩=some (.string (ah a))/\u4.drew.cell? ⟨w.heap.size,1,none⟩=some (.string (ah b))/\u4.drew.cell? ⟨w.heap.size,2,none⟩=some (.string (ah r))/\u4.drew.cell? ⟨w.heap.size+3,0,none⟩=some (.int .i64 sp)/\u4.drew.cell? ⟨w.heap.size+3,1,none⟩=some (.int .i64 dp)/\u4.drew.cell? ⟨w.heap.size+3,2,none⟩=some (.string (ah m))):=by
   have h:=af nQ;exact⟨h.p.cell 0 ak,h.p.cell 1 ak,h.p.cell 2 ak,h.d.cell 0 ak,h.d.cell 1 ak,h.d.cell 2 ak⟩
  have Xt:(u4.cell? ⟨w.heap.size,0,none⟩=some (.string (ah a))/\u4.cell? ⟨w.heap.size,1,none⟩=some (.string (ah b))/\u4.cell? ⟨w.heap.size,2,none⟩=some (.string (ah r))/\u4.cell? ⟨w.heap.size+1,0,none⟩=some (.int .i64 0)/\u4.cell? ⟨w.heap.size+1,1,none⟩=some (.int .i64 0)/\u4.cell? ⟨w.heap.size+1,2,none⟩=some (.string ⟨#[]⟩)/\u4.cell? ⟨w.heap.size+3,0,none⟩=some (.int .i64 sp)/\u4.cell? ⟨w.heap.size+3,1,none⟩=some (.int .i64 dp)/\u4.cell? ⟨w.heap.size+3,2,none⟩=some (.string (ah m))/\u4.frozen? ⟨w.heap.size+1,0,none⟩=false/\u4.frozen? ⟨w.heap.size+1,1,none⟩=false/\u4.frozen? ⟨w.heap.size+1,2,none⟩=false/\Below w.heap.size w u4):=by
   have h:=af nQ;exact⟨h.p.cell 0 ak,h.p.cell 1 ak,h.p.cell 2 ak,h.z.cell 0 ak,h.z.cell 1 ak,h.z.cell 2 ak,h.d.cell 0 ak,h.d.cell 1 ak,h.d.cell 2 ak,h.z.frozen 0,h.z.frozen 1,h.z.frozen 2,h.below⟩
  have Xu:Hid (Calls prog 282 #[.agg #[.string (ah a),.string (ah b),.string (ah r)],.string (ah (r.take n))] u4.drew fun e w'=>e=.returned (.int .i64 us)/\(w'.cell? ⟨w.heap.size,0,none⟩=some (.string (ah a))/\w'.cell? ⟨w.heap.size,1,none⟩=some (.string (ah b))/\w'.cell? ⟨w.heap.size,2,none⟩=some (.string (ah r))/\w'.cell? ⟨w.heap.size+3,0,none⟩=some (.int .i64 sp)/\w'.cell? ⟨w.heap.size+3,1,none⟩=some (.int .i64 dp)/\w'.cell? ⟨w.heap.size+3,2,none⟩=some (.string (ah m)))/\(w'.cell? ⟨w.heap.size+1,0,none⟩=some (.int .i64 0)/\w'.cell? ⟨w.heap.size+1,1,none⟩=some (.int .i64 0)/\w'.cell? ⟨w.heap.size+1,2,none⟩=some (.string ⟨#[]⟩)/\w'.frozen? ⟨w.heap.size+1,0,none⟩=false/\w'.frozen? ⟨w.heap.size+1,1,none⟩=false/\w'.frozen? ⟨w.heap.size+1,2,none⟩=false/\Below w.heap.size w w')):=by
   refine(af ox u4.drew).mono ?_;rintro e w' ⟨rfl,hb⟩;have h:=af nQ;obtain⟨h1,h2,h3,h4,h5,h6⟩:=Xs;have kp:∀(x:Addr) (v:Value),u4.drew.cell? x=some v->w'.cell? x=some v:=fun x v h=>(hb.cell (qD u4.drew x h)).trans h;have kf:∀x:Addr,x.block<u4.heap.size->w'.frozen? x=u4.frozen? x:=fun x hx=>ab7 (hb.block x.block hx);exact⟨rfl,⟨kp _ _ h1,kp _ _ h2,kp _ _ h3,kp _ _ h4,kp _ _ h5,kp _ _ h6⟩,kp _ _ (h.z.cell 0 ak),kp _ _ (h.z.cell 1 ak),kp _ _ (h.z.cell 2 ak),(kf _ h.z.lt).trans (h.z.frozen 0),(kf _ h.z.lt).trans (h.z.frozen 1),(kf _ h.z.lt).trans (h.z.frozen 2),h.below.drew.trans (hb.mono h.below.size)⟩
  clear ox nQ q1;by_cases hk0:k=0
  ·obtain⟨g1,g2,g3,g4,g5,g6,g7,g8,g9,f1,f2,f3,hB⟩:=Xt;have aZ:=ag hB.drew;clear hB Xu Xs;subst hk0;clear Po Pq dv HK aiu nM dN h8 kn Xq ht hrl Pr hx hl ha hb aT Xr G1
   go_region
   all_goals
    go_wp2;refine df (v:=.tuple #[.agg #[.int .i64 sp,.int .i64 dp,.string (ah m)],.bool true]) ?_ rfl ?_
    ·simp[results,results257,go_sem,g4,g5,g6]
    ·refine⟨af bG _ rfl,?_⟩;exact(((af aZ).setCell (by show w.heap.size<=w.heap.size+1;omega) _).setCell (by show w.heap.size<=w.heap.size+1;omega) _).setCell (by show w.heap.size<=w.heap.size+1;omega) _
  ·have aiv:¬(k:Int)=0:=ae;have dk:((k:Int) == 0)=false:=by simpa using aiv
   have hkb:(k == 0 || us == 65535)=(us == 65535):=by simp[hk0]
   rw[hkb]at bG;obtain⟨g1,g2,g3,g4,g5,g6,g7,g8,g9,f1,f2,f3,hB⟩:=Xt;clear Po Pq dv HK h8 kn Xq ht hl ha hb aT hkb hk0 hB G1
   go_region_held (fun w'=>(w'.cell? ⟨w.heap.size,0,none⟩=some (.string (ah a))/\w'.cell? ⟨w.heap.size,1,none⟩=some (.string (ah b))/\w'.cell? ⟨w.heap.size,2,none⟩=some (.string (ah r))/\w'.cell? ⟨w.heap.size+3,0,none⟩=some (.int .i64 sp)/\w'.cell? ⟨w.heap.size+3,1,none⟩=some (.int .i64 dp)/\w'.cell? ⟨w.heap.size+3,2,none⟩=some (.string (ah m)))) (first|assumption|go_keep)
    (first|(go_at_call 282;go_loud (refine(af Xu).mono ?_;rintro e w' ⟨rfl,hq,hz0,hz1,hz2,hf0,jk,hf2,Xv⟩)))
   all_goals
    have aiw:=ag Xv;have eb:((us:Int) == 65535)=(us == 65535):=by
     by_cases h:us=65535
     ·subst h;rfl
     ·have h':¬(us:Int)=65535:=ae;rw[gL.2 h,gL.2 h']
    rw[<- eb]at bG;clear Xv eb;go_wp2;refine df (v:=.tuple #[.agg #[.int .i64 sp,.int .i64 dp,.string (ah m)],.bool ((us:Int) == 65535)]) ?_ rfl ?_
    ·simp[results,results257,go_sem,hz0,hz1,hz2]
    ·refine⟨af bG _ rfl,?_⟩;exact(((af aiw).setCell (by show w.heap.size<=w.heap.size+1;omega) _).setCell (by show w.heap.size<=w.heap.size+1;omega) _).setCell (by show w.heap.size<=w.heap.size+1;omega) _
 ·rw[dh,aG ht]at HC;have bG:Hid (∀e:Ending,e=.returned (.tuple #[.agg #[.int .i64 0,.int .i64 0,.string ⟨#[]⟩],.bool false])->BK sp dp n k t us e):=fun e he=>by
   unfold BK;have:=af G1;rw[aP (.inr ae)];exact he
  go_wp2_with (fail);refine(af HC).mono ?_;rintro e u3 ⟨rfl,hr,hk,hs⟩;have nQ:=ag (((af ji).call hr hk hs).Xp []);have p9:=((af ji).call hr hk hs).d.frozen;have KA:=((af ji).call hr hk hs).d.cell 2 ak;simp at KA;have hz:=((af ji).call hr hk hs).z;have z0:=hz.cell 0 ak;have z1:=hz.cell 1 ak;have z2:=hz.cell 2 ak;have hfz:=hz.frozen;simp only[dS,ej]at z0 z1 z2;have y0:=(af nQ).z.cell 0 ak;have y1:=(af nQ).z.cell 1 ak;have y2:=(af nQ).z.cell 2 ak;have Pn:=(af nQ).z.frozen;simp only[dS,ej]at y0 y1 y2;clear hr hk hs HC ji hz;have q1:=(af nQ).r.cells.2;go_wp2;refine df (v:=.tuple #[.agg #[.int .i64 0,.int .i64 0,.string ⟨#[]⟩],.bool false]) ?_ rfl ?_
  ·simp[results,results257,go_sem,y0,y1,y2]
  ·exact⟨af bG _ rfl,(((af nQ).below.setCell (by show w.heap.size<=w.heap.size+1;omega) _).setCell (by show w.heap.size<=w.heap.size+1;omega) _).setCell (by show w.heap.size<=w.heap.size+1;omega) _⟩
abbrev mF(a b r:ai):Value:=.agg #[.string (ah a),.string (ah b),.string (ah r)]
abbrev Ps(sp dp:Nat)(m:ai):Value:=.agg #[.int .i64 sp,.int .i64 dp,.string (ah m)]
abbrev lY(a b:ai)(k:Nat)(r:ai):Value:=.agg #[.string (ah a),.string (ah b),.int .i64 k,.string (ah r)]
structure oH(w W:World)(a b r:ai):Prop where
 p:ay W w.heap.size [.string (ah a),.string (ah b),.string (ah r)] 307
 z:ay W (w.heap.size+1) [.string ⟨#[]⟩,.string ⟨#[]⟩,.string ⟨#[]⟩] 307
 below:Below w.heap.size w W
theorem oH.size{w W:World}{a b r:ai}(h:oH w W a b r):w.heap.size+1<W.heap.size:=h.z.lt
theorem oH.Ek{w W W':World}{a b r:ai}(h:oH w W a b r)(hb:Below W.heap.size W W'):oH w W' a b r :=
 ⟨h.p.below hb h.p.lt,h.z.below hb h.z.lt,h.below.trans (hb.mono (by have:=h.size;omega))⟩
theorem oH.alloc{w W:World}{a b r:ai}(h:oH w W a b r)(o:Obj):oH w (W.alloc o) a b r:=h.Ek ((bW _ _).alloc (aL _) _)
theorem oH.Pt(w:World)(a b r:ai):oH w ((w.alloc (.cells #[.string (ah a),.string (ah b),.string (ah r)] 307)).alloc (.cells #[.string ⟨#[]⟩,.string ⟨#[]⟩,.string ⟨#[]⟩] 307)) a b r where
 p:=(ay.eo w _ _).alloc _
 z:=by
  have:=ay.eo (w.alloc (.cells #[.string (ah a),.string (ah b),.string (ah r)] 307)) [.string ⟨#[]⟩,.string ⟨#[]⟩,.string ⟨#[]⟩] 307;simpa using this
 below:=((bW _ _).alloc (aL _) _).alloc ak _
theorem aix{w:World}{b:Nat}{x0 x1 x2:Value}{t:TypeId}(h:ay w b [x0,x1,x2] t)(y0 y1 y2:Value):ay (((w.setCell ⟨b,0,none⟩ y0).setCell ⟨b,1,none⟩ y1).setCell ⟨b,2,none⟩ y2) b [y0,y1,y2] t:=((h.set 0 y0).set 1 y1).set 2 y2
theorem oH.zero{w W:World}{a b r:ai}(h:oH w W a b r)(o:Obj)(y0 y1 y2:Value):ay ((((W.setCell ⟨w.heap.size+1,0,none⟩ y0).setCell ⟨w.heap.size+1,1,none⟩ y1).setCell ⟨w.heap.size+1,2,none⟩ y2).alloc o) (w.heap.size+1) [y0,y1,y2] 307/\Below w.heap.size w ((((W.setCell ⟨w.heap.size+1,0,none⟩ y0).setCell ⟨w.heap.size+1,1,none⟩ y1).setCell ⟨w.heap.size+1,2,none⟩ y2).alloc o) :=
 ⟨(aix h.z y0 y1 y2).alloc o,(((h.below.setCell (by show w.heap.size<=w.heap.size+1;omega) _).setCell (by show w.heap.size<=w.heap.size+1;omega) _).setCell (by show w.heap.size<=w.heap.size+1;omega) _).alloc (by have:=h.size;simp[World.setCell];omega) _⟩
theorem Xw(a b r m:ai)(sp dp:Nat)(ok:Bool)(zv:Value)(w:World)(hno:ok=false\/dp≠53)
  (hD:∀W,Calls prog 257 #[mF a b r] W fun e w'=>e=.returned (.tuple #[Ps sp dp m,.bool ok])/\Below W.heap.size W w') :
  Calls prog 211 #[mF a b r,zv] w fun e w'=>e=.returned (.tuple #[mF [] [] [],.bool false])/\Below w.heap.size w w':=by
 have HD:=ag hD;have fe:=ag (oH.Pt w a b r);have dv:=ag hno;clear hD hno;go_enter func211,ntmps211;go_wp2_with (fail);refine(af HD _).mono ?_;rintro e w1 ⟨rfl,hb1⟩;have fE:=ag ((af fe).Ek hb1);clear hb1 fe HD;have z0:=(af fE).z.cell 0 ak;have z1:=(af fE).z.cell 1 ak;have z2:=(af fE).z.cell 2 ak;have hfz:=(af fE).z.frozen;simp only[dS,ej]at z0 z1 z2;have hw1:=(af fE).size;have eT:=ag ((af fE).zero (.cells #[.int .i64 sp,.int .i64 dp,.string (ah m)] 349) (.string ⟨#[]⟩) (.string ⟨#[]⟩) (.string ⟨#[]⟩));have r0:((((w1.setCell ⟨w.heap.size+1,0,none⟩ (.string ⟨#[]⟩)).setCell ⟨w.heap.size+1,1,none⟩ (.string ⟨#[]⟩)).setCell ⟨w.heap.size+1,2,none⟩ (.string ⟨#[]⟩)).alloc (.cells #[.int .i64 sp,.int .i64 dp,.string (ah m)] 349)).cell? ⟨w.heap.size+1,0,none⟩=some (.string ⟨#[]⟩):=(af eT).1.cell 0 ak;have r1:((((w1.setCell ⟨w.heap.size+1,0,none⟩ (.string ⟨#[]⟩)).setCell ⟨w.heap.size+1,1,none⟩ (.string ⟨#[]⟩)).setCell ⟨w.heap.size+1,2,none⟩ (.string ⟨#[]⟩)).alloc (.cells #[.int .i64 sp,.int .i64 dp,.string (ah m)] 349)).cell? ⟨w.heap.size+1,1,none⟩=some (.string ⟨#[]⟩):=(af eT).1.cell 1 ak;have r2:((((w1.setCell ⟨w.heap.size+1,0,none⟩ (.string ⟨#[]⟩)).setCell ⟨w.heap.size+1,1,none⟩ (.string ⟨#[]⟩)).setCell ⟨w.heap.size+1,2,none⟩ (.string ⟨#[]⟩)).alloc (.cells #[.int .i64 sp,.int .i64 dp,.string (ah m)] 349)).cell? ⟨w.heap.size+1,2,none⟩=some (.string ⟨#[]⟩):=(af eT).1.cell 2 ak;have R:=ag (bQ r0 (bQ r1 r2));clear r0 r1 r2 fE;cases ok with
 | false =>{go_wp2;obtain⟨r0,r1,r2⟩:=af R;refine df (v:=.tuple #[.agg #[.string ⟨#[]⟩,.string ⟨#[]⟩,.string ⟨#[]⟩],.bool false]) ?_ rfl ?_;{simp[results,results211,go_sem,r0,r1,r2]};{exact⟨rfl,(af eT).2⟩}}
 | true =>{
 have GZ:dp≠53:=by{rcases af dv with h|h;{cases h};{exact h}};have aiy:¬(dp:Int)=53:=ae;have aqY:((dp:Int) != 53)=true:=by simpa using aiy
 go_wp2;obtain⟨r0,r1,r2⟩:=af R;refine df (v:=.tuple #[.agg #[.string ⟨#[]⟩,.string ⟨#[]⟩,.string ⟨#[]⟩],.bool false]) ?_ rfl ?_;{simp[results,results211,go_sem,r0,r1,r2]};{exact⟨rfl,(af eT).2⟩}}
structure G2(w W:World)(a b r:ai)(db sp:Nat)(m:ai):Prop where
 pa:oH w W a b r
 d:ay W db [.int .i64 sp,.int .i64 53,.string (ah m)] 349
theorem G2.Xx{w W W':World}{a b r m:ai}{db sp:Nat}(h:G2 w W a b r db sp m)(hb:Below W.heap.size W W'):G2 w W' a b r db sp m:=⟨h.pa.Ek hb,h.d.below hb h.d.lt⟩
theorem aiz(a b r m o:ai)(sp:Nat)(zv:Value)(w:World)(ha:a.length<=1000)(hb:b.length<=1000)(hsp:sp<65536)(ho:o≠[])(eR:o.length<=60000)
  (hD:∀W,Calls prog 257 #[mF a b r] W fun e w'=>e=.returned (.tuple #[Ps sp 53 m,.bool true])/\Below W.heap.size W w')
  (hR:∀W,Below w.heap.size w W->Calls prog 27 #[zv,.string (ah m)] W fun e w'=>e=.returned (.string (ah o))/\Below W.heap.size W w') :
  Calls prog 211 #[mF a b r,zv] w fun e w'=>e=.returned (.tuple #[mF b a (wm b a 53 sp o),.bool true])/\Below w.heap.size w w':=by
 have HD:=ag hD;have aT:=ag hR;have fe:=ag (oH.Pt w a b r);have aqZ:(ah o).toList.isEmpty=false:=by{
 rw[gO];cases o with
 | nil=>exact absurd rfl ho
 | cons x t=>rfl};have HC:=ag (fun W=>aif b a [] o 53 sp W hb ha eR ae hsp);clear hD hR ho eR ha hb hsp;go_enter func211,ntmps211;go_wp2_with (fail);refine(af HD _).mono ?_;rintro e w1 ⟨rfl,hb1⟩;have hS1:=(af fe).Ek hb1;have hw1:=hS1.size;have eU:G2 w (w1.alloc (.cells #[.int .i64 sp,.int .i64 53,.string (ah m)] 349)) a b r w1.heap.size sp m:=⟨hS1.alloc _,ay.eo _ _ _⟩;have dO:=ag eU;have G3:=ag (af aT _ eU.pa.below);clear hb1 fe HD hS1 eU aT;go_wp2_with (fail);refine(af G3).mono ?_;rintro e w2 ⟨rfl,hb2⟩;have gj:=ag ((af dO).Xx hb2);clear hb2 dO G3;generalize w1.heap.size=db at *;have p0:=(af gj).pa.p.cell 0 ak;have p1:=(af gj).pa.p.cell 1 ak;have bI:=(af gj).d.cell 0 ak;have d1:=(af gj).d.cell 1 ak;simp only[dS,ej]at p0 p1 bI d1;have hw2:=(af gj).pa.size;have hw3:=(af gj).d.lt;go_wp2_with (fail);refine(af HC (w2.alloc (.cells #[.string (ah b),.string (ah a),.string ⟨#[]⟩] 307))).mono ?_;rintro e w3 ⟨rfl,hb3⟩;have El:=(((af gj).pa.alloc (.cells #[.string (ah b),.string (ah a),.string ⟨#[]⟩] 307)).Ek hb3);clear hb3 gj HC p0 p1 bI d1 hw2 hw3;have z0:=El.z.cell 0 ak;have z1:=El.z.cell 1 ak;have z2:=El.z.cell 2 ak;have hfz:=El.z.frozen;simp only[dS,ej]at z0 z1 z2;have aZ:=ag El.below;clear El;go_wp2;refine df (v:=.tuple #[.agg #[.string (ah b),.string (ah a),.string (ah (wm b a 53 sp o))],.bool true]) ?_ rfl ?_;{simp[results,results211,go_sem,z0,z1,z2]};{exact⟨rfl,(((af aZ).setCell (by show w.heap.size<=w.heap.size+1;omega) _).setCell (by show w.heap.size<=w.heap.size+1;omega) _).setCell (by show w.heap.size<=w.heap.size+1;omega) _⟩}
abbrev lC(ax ip:ai):Value:=.agg #[.string (ah ax),.string (ah ip)]
structure mG(w W:World)(a b:ai)(k:Nat)(r ax ip:ai):Prop where
 f:ay W w.heap.size [.string (ah a),.string (ah b),.int .i64 k,.string (ah r)] 150
 c:ay W (w.heap.size+1) [.string (ah ax),.string (ah ip)] 62
 below:Below w.heap.size w W
theorem mG.size{w W:World}{a b r ax ip:ai}{k:Nat}(h:mG w W a b k r ax ip):w.heap.size+1<W.heap.size:=h.c.lt
theorem mG.xL{w W W':World}{a b r ax ip:ai}{k:Nat}(h:mG w W a b k r ax ip)(hb:Below W.heap.size W W'):mG w W' a b k r ax ip :=
 ⟨h.f.below hb h.f.lt,h.c.below hb h.c.lt,h.below.trans (hb.mono (by have:=h.size;omega))⟩
theorem mG.alloc{w W:World}{a b r ax ip:ai}{k:Nat}(h:mG w W a b k r ax ip)(o:Obj):mG w (W.alloc o) a b k r ax ip:=h.xL ((bW _ _).alloc (aL _) _)
theorem mG.xM(w:World)(a b:ai)(k:Nat)(r ax ip:ai):mG w ((w.alloc (.cells #[.string (ah a),.string (ah b),.int .i64 k,.string (ah r)] 150)).alloc (.cells #[.string (ah ax),.string (ah ip)] 62)) a b k r ax ip where
 f:=(ay.eo w _ _).alloc _
 c:=by
  have:=ay.eo (w.alloc (.cells #[.string (ah a),.string (ah b),.int .i64 k,.string (ah r)] 150)) [.string (ah ax),.string (ah ip)] 62;simpa using this
 below:=((bW _ _).alloc (aL _) _).alloc ak _
theorem KB(a b r ax ip:ai)(k:Nat)(zv:Value)(w:World)
  (bZ:∀W,Calls prog 210 #[.string (ah r)] W fun e w'=>(∃x0 x1 x2:ai,e=.returned (.tuple #[mF x0 x1 x2,.bool false]))/\Below W.heap.size W w') :
  Calls prog 150 #[lY a b k r,zv,lC ax ip] w fun e w'=>e=.returned (.string ⟨#[]⟩)/\Below w.heap.size w w':=by have bG:=ag bZ;have fe:=ag (mG.xM w a b k r ax ip);clear bZ;go_enter func150,ntmps150;go_wp2_with (fail);refine(af bG _).mono ?_;rintro e w1 ⟨⟨x0,x1,x2,rfl⟩,hb1⟩;have hS1:=(af fe).xL hb1;have hw1:=hS1.size;have aZ:=ag (hS1.alloc (.cells #[.string (ah x0),.string (ah x1),.string (ah x2)] 307)).below;clear hb1 fe bG hS1;go_wp2_with (fail);go_ret;exact⟨rfl,af aZ⟩
theorem aiA(a b r ax ip x0 x2:ai)(k:Nat)(zv:Value)(w:World)
  (bZ:∀W,Calls prog 210 #[.string (ah r)] W fun e w'=>e=.returned (.tuple #[mF x0 ip x2,.bool true])/\Below W.heap.size W w')
  (hA:∀W,Below w.heap.size w W->Calls prog 211 #[mF x0 ip x2,zv] W fun e w'=>e=.returned (.tuple #[mF [] [] [],.bool false])/\Below W.heap.size W w') :
  Calls prog 150 #[lY a b k r,zv,lC ax ip] w fun e w'=>e=.returned (.string ⟨#[]⟩)/\Below w.heap.size w w':=by have bG:=ag bZ;have dV:=ag hA;have fe:=ag (mG.xM w a b k r ax ip);clear bZ hA;go_enter func150,ntmps150;go_wp2_with (fail);refine(af bG _).mono ?_;rintro e w1 ⟨rfl,hb1⟩;have hS1:=(af fe).xL hb1;have hw1:=hS1.size;have eU:=hS1.alloc (.cells #[.string (ah x0),.string (ah ip),.string (ah x2)] 307);have qp:=ag (af dV _ eU.below);have az:=hS1.c.cell 1 ak;have c1':=eU.c.cell 1 ak;simp only[dS,ej]at az c1';have dO:=ag eU;clear hb1 fe bG hS1 dV eU;go_wp2_with (fail);refine(af qp).mono ?_;rintro e w2 ⟨rfl,hb2⟩;have iF:=(af dO).xL hb2;have hw2:=iF.size;have aZ:=ag (iF.alloc (.cells #[.string (ah []),.string (ah []),.string (ah [])] 307)).below;clear hb2 iF dO qp az c1';go_wp2_with (fail);go_ret;exact⟨rfl,af aZ⟩
theorem aiB(a b r ax ip x0 x2 y0 y1 y2:ai)(k:Nat)(zv:Value)(w:World)(l1:b.length<=1000)(l2:ax.length<=1000)(l3:y0.length<=1000)(l4:y1.length<=1000)(l5:y2.length<=60000)
  (bZ:∀W,Calls prog 210 #[.string (ah r)] W fun e w'=>e=.returned (.tuple #[mF x0 ip x2,.bool true])/\Below W.heap.size W w')
  (hA:∀W,Below w.heap.size w W->Calls prog 211 #[mF x0 ip x2,zv] W fun e w'=>e=.returned (.tuple #[mF y0 y1 y2,.bool true])/\Below W.heap.size W w') :
  Calls prog 150 #[lY a b k r,zv,lC ax ip] w fun e w'=>e=.returned (.string (ah (b++ax++[8,0]++uB y0 y1 y2)))/\Below w.heap.size w w':=by
 have bG:=ag bZ;have dV:=ag hA;have fe:=ag (mG.xM w a b k r ax ip);have G4:(uB y0 y1 y2).length<=100000:=by simp[uB,BB];omega
 have aiC:=ag (fun W=>aic y0 y1 y2 W l3 l4 l5);have Pu:Hid (∀W,Calls prog 209 #[.agg #[.string (ah b),.string (ah ax),.int .i64 2048,.string (ah (uB y0 y1 y2))]] W fun e w'=>e=.returned (.string (ah (b++ax++[8,0]++uB y0 y1 y2)))/\Below W.heap.size W w'):=fun W=>Xk b ax (uB y0 y1 y2) 2048 W l1 l2 G4 ae;clear bZ hA l1 l2 l3 l4 l5 G4;go_enter func150,ntmps150;go_wp2_with (fail);refine(af bG _).mono ?_;rintro e w1 ⟨rfl,hb1⟩;have hS1:=(af fe).xL hb1;have hw1:=hS1.size;have eU:=hS1.alloc (.cells #[.string (ah x0),.string (ah ip),.string (ah x2)] 307);have qp:=ag (af dV _ eU.below);have az:=hS1.c.cell 1 ak;have c1':=eU.c.cell 1 ak;simp only[dS,ej]at az c1';have dO:=ag eU;clear hb1 fe bG hS1 dV eU;go_wp2_with (fail);refine(af qp).mono ?_;rintro e w2 ⟨rfl,hb2⟩;have iF:=(af dO).xL hb2;have hw2:=iF.size;have fP:=ag (iF.alloc (.cells #[.string (ah y0),.string (ah y1),.string (ah y2)] 307));have O4:(w2.alloc (.cells #[.string (ah y0),.string (ah y1),.string (ah y2)] 307)).drew.cell? ⟨w.heap.size,1,none⟩=some (.string (ah b))/\(w2.alloc (.cells #[.string (ah y0),.string (ah y1),.string (ah y2)] 307)).drew.cell? ⟨w.heap.size+1,0,none⟩=some (.string (ah ax))/\(w2.alloc (.cells #[.string (ah y0),.string (ah y1),.string (ah y2)] 307)).drew.cell? ⟨w2.heap.size,0,none⟩=some (.string (ah y0))/\(w2.alloc (.cells #[.string (ah y0),.string (ah y1),.string (ah y2)] 307)).drew.cell? ⟨w2.heap.size,1,none⟩=some (.string (ah y1))/\(w2.alloc (.cells #[.string (ah y0),.string (ah y1),.string (ah y2)] 307)).drew.cell? ⟨w2.heap.size,2,none⟩=some (.string (ah y2))/\Below w.heap.size w (w2.alloc (.cells #[.string (ah y0),.string (ah y1),.string (ah y2)] 307)).drew:=by
  have hN:=ay.eo w2 [.string (ah y0),.string (ah y1),.string (ah y2)] 307;exact⟨(af fP).f.cell 1 ak,(af fP).c.cell 0 ak,hN.cell 0 ak,hN.cell 1 ak,hN.cell 2 ak,(af fP).below.drew⟩
 have G5:Hid (∀W W':World,(W.cell? ⟨w.heap.size,1,none⟩=some (.string (ah b))/\W.cell? ⟨w.heap.size+1,0,none⟩=some (.string (ah ax))/\W.cell? ⟨w2.heap.size,0,none⟩=some (.string (ah y0))/\W.cell? ⟨w2.heap.size,1,none⟩=some (.string (ah y1))/\W.cell? ⟨w2.heap.size,2,none⟩=some (.string (ah y2))/\Below w.heap.size w W)->Below W.heap.size W W'->(W'.cell? ⟨w.heap.size,1,none⟩=some (.string (ah b))/\W'.cell? ⟨w.heap.size+1,0,none⟩=some (.string (ah ax))/\W'.cell? ⟨w2.heap.size,0,none⟩=some (.string (ah y0))/\W'.cell? ⟨w2.heap.size,1,none⟩=some (.string (ah y1))/\W'.cell? ⟨w2.heap.size,2,none⟩=some (.string (ah y2))/\Below w.heap.size w W')):=fun W W' hW hb=>by
  have kp:∀(x:Addr) (v:Value),W.cell? x=some v->W'.cell? x=some v:=fun x v h=>(hb.cell (qD W x h)).trans h;exact⟨kp _ _ hW.1,kp _ _ hW.2.1,kp _ _ hW.2.2.1,kp _ _ hW.2.2.2.1,kp _ _ hW.2.2.2.2.1,hW.2.2.2.2.2.trans (hb.mono hW.2.2.2.2.2.size)⟩
 have q1:=(af fP).f.cell 1 ak;have q2:=(af fP).c.cell 0 ak;simp only[dS,ej]at q1 q2;clear hb2 iF dO qp az c1';go_wp2_with (fail)
 go_region_held (fun w'=>w'.cell? ⟨w.heap.size,1,none⟩=some (.string (ah b))/\w'.cell? ⟨w.heap.size+1,0,none⟩=some (.string (ah ax))/\w'.cell? ⟨w2.heap.size,0,none⟩=some (.string (ah y0))/\w'.cell? ⟨w2.heap.size,1,none⟩=some (.string (ah y1))/\w'.cell? ⟨w2.heap.size,2,none⟩=some (.string (ah y2))/\Below w.heap.size w w') (first|assumption|go_keep)
  (first
   | (go_at_call 212;go_loud (refine(af aiC _).mono ?_;rintro e w' ⟨rfl,hq⟩;replace hq:=af G5 _ _ (by assumption) hq))
   | (go_at_call 209;go_loud (refine(af Pu _).mono ?_;rintro e w' ⟨rfl,hq⟩;replace hq:=af G5 _ _ (by assumption) hq)))
 all_goals
  have bg:=ag hq.2.2.2.2.2;clear hq;go_wp2_with (fail);go_ret;exact⟨ek (fun x=>Ending.returned (.string (ah x))) ak,af bg⟩
theorem aiD(a b r ax ip:ai)(k:Nat)(zv:Value)(w:World)(h1:k≠2054)(h2:k≠2048) :
  Calls prog 80 #[lY a b k r,zv,lC ax ip] w fun e w'=>e=.returned (.string ⟨#[]⟩)/\Below w.heap.size w w':=by
 have aZ:=ag (mG.xM w a b k r ax ip).below;have k1:¬(k:Int)=2054:=ae;have k2:¬(k:Int)=2048:=ae;have d1:((k:Int) == 2054)=false:=by simpa using k1
 have d2:((k:Int) == 2048)=false:=by simpa using k2
 go_enter func80,ntmps80;go_wp2_with (fail);go_ret;exact⟨rfl,af aZ⟩
theorem aiE(a b r ax ip x:ai)(zv:Value)(w:World)
  (hA:∀W,Below w.heap.size w W->Calls prog 150 #[lY a b 2048 r,zv,lC ax ip] W fun e w'=>e=.returned (.string (ah x))/\Below W.heap.size W w') :
  Calls prog 80 #[lY a b 2048 r,zv,lC ax ip] w fun e w'=>e=.returned (.string (ah x))/\Below w.heap.size w w':=by have hS:=mG.xM w a b 2048 r ax ip;have aZ:=ag hS.below;have dV:=ag (hA _ hS.below);clear hS hA;go_enter func80,ntmps80;go_wp2_with (fail);refine(af dV).mono ?_;rintro e w1 ⟨rfl,hb1⟩;have cM:=ag ((af aZ).trans (hb1.mono (af aZ).size));clear hb1 dV aZ;go_wp2_with (fail);go_ret;exact⟨rfl,af cM⟩
theorem aiF(s a b r ax ip:ai)(k:Nat)(zv:Value)(w:World)
  (hF:∀W,Calls prog 79 #[.string (ah s)] W fun e w'=>e=.returned (.tuple #[lY a b k r,.bool false])/\Below W.heap.size W w') :
  Calls prog 37 #[zv,lC ax ip,.string (ah s)] w fun e w'=>e=.returned (.string ⟨#[]⟩)/\Below w.heap.size w w':=by have bg:=ag hF;have hB0:=(bW w.heap.size w).alloc (aL _) (.cells #[.string (ah ax),.string (ah ip)] 62);have ey:=ag hB0;clear hF hB0;go_enter func37,ntmps37;go_wp2_with (fail);refine(af bg _).mono ?_;rintro e w1 ⟨rfl,hb1⟩;have hB1:=(af ey).trans (hb1.mono ak);have hw1:=hB1.size;have cM:=ag (hB1.alloc hw1 (.cells #[.string (ah a),.string (ah b),.int .i64 k,.string (ah r)] 150));clear hb1 bg ey hB1;go_wp2_with (fail);go_ret;exact⟨rfl,af cM⟩
theorem aiG(s a b r ax ip:ai)(k:Nat)(zv:Value)(w:World)(h1:a≠ax)(h2:a≠[255,255,255,255,255,255])
  (hF:∀W,Calls prog 79 #[.string (ah s)] W fun e w'=>e=.returned (.tuple #[lY a b k r,.bool true])/\Below W.heap.size W w') :
  Calls prog 37 #[zv,lC ax ip,.string (ah s)] w fun e w'=>e=.returned (.string ⟨#[]⟩)/\Below w.heap.size w w':=by
 have bg:=ag hF;have hB0:=(bW w.heap.size w).alloc (aL _) (.cells #[.string (ah ax),.string (ah ip)] 62);have ey:=ag hB0;have HC:=ag (ay.eo w [.string (ah ax),.string (ah ip)] 62);have t1:¬(ah a).toList=(ah ax).toList:=by rw[gO,gO];exact h1
 have t2:¬(ah a).toList = [255,255,255,255,255,255]:=by rw[gO];exact h2
 have t3:¬(ah a).toList=(⟨#[255,255,255,255,255,255]⟩:ByteArray).toList:=by rw[gO,gO];exact h2
 have b1:((ah a).toList == (ah ax).toList)=false:=by simpa using t1
 have b2:((ah a).toList == [255,255,255,255,255,255])=false:=by simpa using t2
 have b3:((ah a).toList == (⟨#[255,255,255,255,255,255]⟩:ByteArray).toList)=false:=by rw[gL];exact t3
 clear hF hB0 h1 h2;go_enter func37,ntmps37;go_wp2_with (fail);refine(af bg _).mono ?_;rintro e w1 ⟨rfl,hb1⟩;have hB1:=(af ey).trans (hb1.mono ak);have hw1:=hB1.size;have cM:=ag (hB1.alloc hw1 (.cells #[.string (ah a),.string (ah b),.int .i64 k,.string (ah r)] 150));have mH:=(af HC).below hb1 ak;have c0:=mH.cell 0 ak;have c0':=(mH.alloc (.cells #[.string (ah a),.string (ah b),.int .i64 k,.string (ah r)] 150)).cell 0 ak;simp only[dS,ej]at c0 c0';have hw2:=mH.lt;clear hb1 bg ey hB1 HC mH;go_wp2_with (fail);go_ret;exact⟨rfl,af cM⟩
theorem aiH(s b r ax ip x:ai)(k:Nat)(zv:Value)(w:World)
  (hF:∀W,Calls prog 79 #[.string (ah s)] W fun e w'=>e=.returned (.tuple #[lY ax b k r,.bool true])/\Below W.heap.size W w')
  (hA:∀W,Below w.heap.size w W->Calls prog 80 #[lY ax b k r,zv,lC ax ip] W fun e w'=>e=.returned (.string (ah x))/\Below W.heap.size W w') :
  Calls prog 37 #[zv,lC ax ip,.string (ah s)] w fun e w'=>e=.returned (.string (ah x))/\Below w.heap.size w w':=by have bg:=ag hF;have hB0:=(bW w.heap.size w).alloc (aL _) (.cells #[.string (ah ax),.string (ah ip)] 62);have ey:=ag hB0;have HC:=ag (ay.eo w [.string (ah ax),.string (ah ip)] 62);have dV:=ag hA;clear hF hB0 hA;go_enter func37,ntmps37;go_wp2_with (fail);refine(af bg _).mono ?_;rintro e w1 ⟨rfl,hb1⟩;have hB1:=(af ey).trans (hb1.mono ak);have hw1:=hB1.size;have hB2:=hB1.alloc hw1 (.cells #[.string (ah ax),.string (ah b),.int .i64 k,.string (ah r)] 150);have qp:=ag (af dV _ hB2);have cM:=ag hB2;have mH:=(af HC).below hb1 ak;have hC2:=mH.alloc (.cells #[.string (ah ax),.string (ah b),.int .i64 k,.string (ah r)] 150);have c0:=mH.cell 0 ak;have az:=mH.cell 1 ak;have c0':=hC2.cell 0 ak;have c1':=hC2.cell 1 ak;simp only[dS,ej]at c0 c0' az c1';have hw2:=mH.lt;clear hb1 bg ey hB1 HC mH hC2 dV hB2;go_wp2_with (fail);refine(af qp).mono ?_;rintro e w2 ⟨rfl,hb2⟩;have eu:=ag ((af cM).trans (hb2.mono (af cM).size));clear hb2 cM qp;go_wp2_with (fail);go_ret;exact⟨rfl,af eu⟩
def pC(w:World)(xb zb rb sb:Nat)(ax ip:ai)(n s d:Nat)(br:Bool):Prop :=
 ay w xb [.pointer (some ⟨zb,0,none⟩),.string (ah ax),.string (ah ip),.pointer (some ⟨rb,0,none⟩),.pointer (some ⟨sb,0,none⟩),.int .i64 n,.int .i64 s,.int .i64 d,.bool br] 165
def gz(xb rb sb mb bb:Nat)(i:Nat):Prop:=i≠xb/\i≠rb/\i≠sb/\i≠mb/\i≠bb
theorem Pv(w:World)(xb zb rb sb:Nat)(ax ip:ai)(n s d:Nat)(br:Bool)(h:pC w xb zb rb sb ax ip n s d br)(v:Nat):pC (w.setCell ⟨xb,5,none⟩ (.int .i64 v)) xb zb rb sb ax ip v s d br/\pC (w.setCell ⟨xb,6,none⟩ (.int .i64 v)) xb zb rb sb ax ip n v d br/\pC (w.setCell ⟨xb,7,none⟩ (.int .i64 v)) xb zb rb sb ax ip n s v br :=
 ⟨ay.set h 5 (.int .i64 v),ay.set h 6 (.int .i64 v),ay.set h 7 (.int .i64 v)⟩
structure aiI(w:World)(xb zb rb sb mb bb base:Nat)(ax ip:ai)(bs:ai)(bm:Bool)(aH st xN xO:Nat)(Px:List Bool)(zq zr:Nat)(BL:List Bool)(n s d:Nat)(br:Bool):Prop where
 mem:jr w mb bb base bs bm aH st
 rr:dy w rb 240 mb 0 1024 xN xO Px
 sr:dy w sb 241 mb 512 13312 zq zr BL
 ax:pC w xb zb rb sb ax ip n s d br
 hb:base<=w.heap.size
section
variable {w w':World} {xb zb rb sb mb bb base:Nat} {ax ip:ai} {bs:ai} {bm:Bool} {aH st xN xO:Nat} {Px:List Bool} {zq zr:Nat} {BL:List Bool} {n s d:Nat} {br:Bool}
theorem aiJ(h:jr w mb bb base bs bm aH st):(∃cs,ay w mb cs 84)/\∃cs,ay w bb cs 5:=by obtain⟨fg,vl,vm,ns,hm,hr,_⟩:=h;exact⟨⟨_,hm⟩,⟨_,hr.2⟩⟩
end
end Go.Proofs.YtkkpahmoljiepaaGreatDoor
