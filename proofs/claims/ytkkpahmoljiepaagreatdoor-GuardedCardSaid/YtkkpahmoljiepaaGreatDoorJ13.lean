import Derived.Test.YtkkpahmoljiepaaGreatDoorJ12
set_option maxRecDepth 1000000
set_option maxHeartbeats 12800000
set_option linter.unusedSimpArgs false
set_option linter.unusedVariables false
namespace Go.Proofs.YtkkpahmoljiepaaGreatDoor
open Go.RowKit Go.Proofs.Tryz
def aR:Bool->ai->Nat
 | _,[]=>0
 | true,a :: s=>a.toNat*256+aR false s
 | false,a :: s=>a.toNat+aR true s
def DR(p:Bool)(n:Nat):Bool:=if n%2=0 then p else !p
theorem agQ(p:Bool)(x y:ai):aR p (x++y)=aR p x+aR (DR p x.length) y:=by
 induction x generalizing p with
 | nil=>simp[aR,DR]
 | cons a x ih =>{have e:DR p (a :: x).length=DR (!p) x.length:=by{unfold DR;by_cases h:x.length%2=0;{rw[aG aX,aP h]};{rw[aP aX,aG h];simp}};rw[e];cases p;{show a.toNat+aR true (x++y)=a.toNat+aR true x+_;rw[ih true];simp;omega};{show a.toNat*256+aR false (x++y)=a.toNat*256+aR false x+_;rw[ih false];simp;omega}}
def kJ(n:Nat):Nat:=if n=0 then 0 else(n - 1)%65535+1
theorem Gy(n:Nat):kJ n<=65535:=by unfold kJ;split <;> omega
theorem agR(n x:Nat)(hx:x<=65535):(kJ n+x)%65536+(kJ n+x)/65536=kJ (n+x):=by unfold kJ;by_cases h:n=0;{subst h;by_cases h2:x=0;{subst h2;rfl};{simp[h2];omega}};{rw[aG h,aG ae];omega}
theorem agS(s:ai)(k:Nat)(h:k<s.length):aR true (s.take (k+1))=aR true (s.take k)+(if k%2=0 then s[k].toNat*256 else s[k].toNat):=by rw[kQ h,agQ,jU,uY ae,DR];split <;> simp[aR]
theorem Wb(n:Nat)(h:n<9223372036854775808):bits .and .i64 (n:Int) 65535=(n:Int)%65536:=by have e:bits .and .i64 (n:Int) 65535=((n%65536:Nat):Int):=by{show IntKind.i64.wrap ((BitVec.ofInt 64 (n:Int) &&& BitVec.ofInt 64 65535).toNat:Int)=_;rw[Mj,yf n ae,show(65535:Int)=((65535:Nat):Int)from rfl,yf 65535 ae,show(65535:Nat)=2 ^ 16 - 1 from rfl,SD];rw[gM];first|omega|(unfold wrap64;omega)};rw[e];omega
theorem agT(g cap:Nat)(fs:List iD)(w:World)(bE:∀f∈fs,f.nL)(hlt:g<w.heap.size)(oX:∀j (h:j<fs.length),w.cell? ⟨g,j,none⟩=some (.iface fs[j].t fs[j].x))
  (hn:fs.length<=cap) (hc:fs.length<=1000000) (hl:(bY fs).length<=1000000) :
  Calls prog 256 #[.slice (some ⟨g,0,none⟩) fs.length cap] w fun e w'=>e=.returned (.int .i64 (kJ (aR true (bY fs))))/\Below w.heap.size w w':=by
 have HW:=ag (NV g cap fs w bE hlt oX hn hc hl);clear bE oX;generalize bY fs=l at *;go_enter func256,ntmps256;go_wp2_with (fail);refine(af HW).mono ?_;rintro e w1 ⟨rfl,hb1⟩;have kb:=SM (P:=prog) w1 9 58 5 (ah l) underlying9 underlying58 underlying5;have dV:=ag (TU w1 l (grownCap w1 (ah l).size 0 5));have aZ:Hid (Below w.heap.size w _):=hb1.trans ((((bW w1.heap.size w1).drew.alloc (aL w1.heap.size) (.cells (bytesRow (ah l) (grownCap w1 (ah l).size 0 5)) 5 ((bytesRow (ah l) (grownCap w1 (ah l).size 0 5)).size,(bytesRow (ah l) (grownCap w1 (ah l).size 0 5)).size+1))).mono hb1.size));have fw:l.length<=grownCap w1 (ah l).size 0 5:=by{have:=MP w1 (ah l).size 0 5;rw[dt]at this ⊢;exact this};generalize grownCap w1 (ah l).size 0 5=cap1 at *;generalize w1.drew.alloc (.cells (bytesRow (ah l) cap1) 5 ((bytesRow (ah l) cap1).size,(bytesRow (ah l) cap1).size+1))=W at *;generalize vP:w1.heap.size=bq at *;have hs:(ah l).size=l.length:=dt l;clear hb1 HW vP;go_wp2_with (fail);go_loopw [3,10] (fun t i wr=>∃k:Nat,t=.int .i64 (kJ (aR true (l.take k)):Nat)/\i=.int .i64 k/\k<=l.length/\wr=W) (fun _ i _=>l.length - (intOf i).toNat);case atStart=>exact⟨0,rfl,rfl,dY _,rfl⟩
 case round =>(obtain⟨k,rfl,rfl,hk,rfl⟩:=hrel;by_cases hlk:k<l.length;{have hcell:wr.cell? ⟨bq,k,none⟩=some (.int .u8 l[k].toNat):=(af dV).2.1 k hlk;have bu:=ag (agS l k hlk);generalize l[k]=c at *;have hc:=jX c;generalize c.toNat=n at *;have HS:=ag (fun x hx=>agR (aR true (l.take k)) x hx);have sH:=Gy (aR true (l.take k));generalize aR true (l.take k)=a at *;generalize kJ a=f at *;by_cases he:k%2=0;{have he':(k:Int)%2=0:=ae;rw[aP he]at bu;have e1:bits .and .i64 ((f:Int)+(n:Int)*256) 65535=((f:Int)+(n:Int)*256)%65536:=by{rw[show(f:Int)+(n:Int)*256=((f+n*256:Nat):Int) by omega,Wb _ ae]};have cN:Hid (((f:Int)+(n:Int)*256)%65536+((f:Int)+(n:Int)*256)/65536=((kJ (aR true (l.take (k+1))):Nat):Int)):=by{have:=af HS (n*256) ae;rw[<- af bu]at this;rw[Hid];omega};clear bu HS;go_wp2;rw[af cN];exact⟨⟨k+1,rfl,dD,ae,aY⟩,gN⟩};{have he':¬(k:Int)%2=0:=ae;rw[aG he]at bu;have e1:bits .and .i64 ((f:Int)+(n:Int)) 65535=((f:Int)+(n:Int))%65536:=by{rw[show(f:Int)+(n:Int)=((f+n:Nat):Int) by omega,Wb _ ae]};have cN:Hid (((f:Int)+(n:Int))%65536+((f:Int)+(n:Int))/65536=((kJ (aR true (l.take (k+1))):Nat):Int)):=by{have:=af HS n ae;rw[<- af bu]at this;rw[Hid];omega};clear bu HS;go_wp2;rw[af cN];exact⟨⟨k+1,rfl,dD,ae,aY⟩,gN⟩}};{have eJ:k=l.length:=ae;subst eJ;have bu:=ag (ek (fun x=>kJ (aR true x)) (jV (l:=l)));generalize kJ (aR true (l.take l.length))=f at *;go_wp2;go_ret;refine⟨?_,af aZ⟩;rw[af bu];rfl})
def ay(w:World)(b:Nat)(cs:List Value)(t:TypeId):Prop:=w.heap[b]? = some (.cells cs.toArray t)
section
variable {w w':World} {b d:Nat} {cs:List Value} {t:TypeId}
theorem ay.lt(h:ay w b cs t):b<w.heap.size:=(di.1 h).1
theorem ay.cell(h:ay w b cs t)(i:Nat)(au:i<cs.length):w.cell? ⟨b,i,none⟩=some cs[i]:=by unfold ay at h;simp[World.cell?,h,au]
theorem ay.frozen(h:ay w b cs t)(i:Nat):w.frozen? ⟨b,i,none⟩=false:=by unfold ay at h;simp[World.frozen?,h]
theorem ay.set(h:ay w b cs t)(i:Nat)(v:Value):ay (w.setCell ⟨b,i,none⟩ v) b (cs.set i v) t:=by unfold ay at *; simp only[World.setCell];rw[iq,aP rfl,h];simp
theorem ay.kept(h:ay w b cs t)(hk:cF d w w')(aD:b≠d):ay w' b cs t:=(hk.block b h.lt aD).trans h
theorem ay.below(h:ay w b cs t)(hb:Below d w w')(aD:b<d):ay w' b cs t:=(hb.block b aD).trans h
theorem ay.alloc(h:ay w b cs t)(o:Obj):ay (w.alloc o) b cs t:=(bV _ _ _ h.lt).trans h
theorem ay.eo(w:World)(cs:List Value)(t:TypeId):ay (w.alloc (.cells cs.toArray t)) w.heap.size cs t:=World.alloc_heap_new _ _
end
def DT(fs:List iD):List Value:=fs.map fun f=>Value.iface f.t f.x
theorem Wd(fs:List iD)(W:World)(j:Nat)(h:j<fs.length):(W.alloc (.cells (DT fs).toArray 297)).cell? ⟨W.heap.size,j,none⟩=some (.iface fs[j].t fs[j].x):=by have:=(ay.eo W (DT fs) 297).cell j (by simpa [DT]using h);rw[this];simp[DT]
theorem Bp(fs:List iD)(W:World)(bE:∀f∈fs,f.nL)(hc:fs.length<=1000000)(hl:(bY fs).length<=1000000) :
  Calls prog 199 #[.slice (some ⟨W.heap.size,0,none⟩) fs.length fs.length] (W.alloc (.cells (DT fs).toArray 297)) fun e w'=>e=.returned (.string (ah (bY fs)))/\Below W.heap.size W w':=by refine(NV W.heap.size fs.length fs _ bE ak (Wd fs W) (aL _) hc hl).mono ?_;rintro e w' ⟨rfl,hb⟩;exact⟨rfl,((bW _ _).alloc (aL _) _).trans (hb.mono ak)⟩
theorem OJ(fs:List iD)(W:World)(bE:∀f∈fs,f.nL)(hc:fs.length<=1000000)(hl:(bY fs).length<=1000000) :
  Calls prog 256 #[.slice (some ⟨W.heap.size,0,none⟩) fs.length fs.length] (W.alloc (.cells (DT fs).toArray 297)) fun e w'=>e=.returned (.int .i64 (kJ (aR true (bY fs))))/\Below W.heap.size W w':=by refine(agT W.heap.size fs.length fs _ bE ak (Wd fs W) (aL _) hc hl).mono ?_;rintro e w' ⟨rfl,hb⟩;exact⟨rfl,((bW _ _).alloc (aL _) _).trans (hb.mono ak)⟩
theorem agU(s:ai)(w:World)(hl:s.length<=1000000000){a s1 c s2 s3:ai}{k:Nat}{b1 b2 b3:Bool}(e1:dh s false 6=(a,s1,b1))(e2:dh s1 b1 6=(c,s2,b2))(e3:cZ s2 b2=(k,s3,b3)) :
  Calls prog 79 #[.string (ah s)] w fun e w'=>e=.returned (.tuple #[.agg #[.string (ah a),.string (ah c),.int .i64 k,.string (ah s3)],.bool (!b3)])/\Below w.heap.size w w':=by
 have l1:=vu s false 6;have l2:=vu s1 b1 6;rw[e1]at l1;rw[e2]at l2;simp only at l1 l2;have hz0:ay ((w.alloc (.cells #[.string ⟨#[]⟩,.string ⟨#[]⟩,.int .i64 0,.string ⟨#[]⟩] 150)).alloc (.cells #[.string (ah s),.bool false] 215)) w.heap.size [.string ⟨#[]⟩,.string ⟨#[]⟩,.int .i64 0,.string ⟨#[]⟩] 150:=(ay.eo w _ _).alloc _;have jL:cB ((w.alloc (.cells #[.string ⟨#[]⟩,.string ⟨#[]⟩,.int .i64 0,.string ⟨#[]⟩] 150)).alloc (.cells #[.string (ah s),.bool false] 215)) (w.heap.size+1) s false:=by{have:=World.alloc_heap_new (w.alloc (.cells #[.string ⟨#[]⟩,.string ⟨#[]⟩,.int .i64 0,.string ⟨#[]⟩] 150)) (.cells #[.string (ah s),.bool false] 215);simpa [cB]using this};have ey:=ag (((bW w.heap.size w).alloc (aL _) (.cells #[.string ⟨#[]⟩,.string ⟨#[]⟩,.int .i64 0,.string ⟨#[]⟩] 150)).alloc ak (.cells #[.string (ah s),.bool false] 215));have fQ:=ag (pR _ 6 s false _ jL ae hl);rw[e1]at fQ;have qd:=ag hz0;have lj:=ag e2;have su:=ag e3;clear hz0 jL e1 e2 e3;go_enter func79,ntmps79;go_wp2_with (fail);refine(af fQ).mono ?_;rintro e w1 ⟨rfl,hr1,dN,hs1⟩;have f_:=ag (pR _ 6 s1 b1 w1 hr1 ae ae);rw[af lj]at f_;have mC:=ag ((af qd).kept dN ae);have cM:=ag ((af ey).trans (dN.below ae aX));have fE:Hid (w1.heap.size=w.heap.size+2):=by rw[Hid,hs1];simp
 clear hr1 dN hs1 fQ qd ey lj;go_wp2_with (fail);refine(af f_).mono ?_;rintro e w2 ⟨rfl,hr2,hk2,hs2⟩;have jA:=ag (kt _ s2 b2 w2 hr2 ae);rw[af su]at jA;have vT:=ag ((af mC).kept hk2 ae);have eu:=ag ((af cM).trans (hk2.below ae (by have:=af fE;omega)));have dO:Hid (w2.heap.size=w.heap.size+2):=by rw[Hid,hs2];exact af fE
 clear hr2 hk2 hs2 f_ mC cM fE su;go_wp2_with (fail);refine(af jA).mono ?_;rintro e w3 ⟨rfl,hr3,hk3,hs3⟩;have Gz:=ag ((af vT).kept hk3 ae);have jI:=ag ((af eu).trans (hk3.below ae (by have:=af dO;omega)));have hs:w3.heap.size=w.heap.size+2:=by rw[hs3];exact af dO
 have vU:∀x,cB (w3.alloc (.cells #[.string (ah a),.string (ah c),.int .i64 k,x] 150)) (w.heap.size+1) s3 b3:=fun x=>(bV _ _ _ hr3.lt).trans hr3;have oF:=fun x=>(af Gz).alloc (.cells #[.string (ah a),.string (ah c),.int .i64 k,x] 150);have AH:=ag (fun x=>(af jI).alloc ae (.cells #[.string (ah a),.string (ah c),.int .i64 k,x] 150));have q0:=fun x=>(vU x).cells.1;have q1:=fun x=>(vU x).cells.2;have z0:∀x,(w3.alloc (.cells #[.string (ah a),.string (ah c),.int .i64 k,x] 150)).cell? ⟨w.heap.size,0,none⟩=_:=fun x=>(oF x).cell 0 ak;have z1:∀x,(w3.alloc (.cells #[.string (ah a),.string (ah c),.int .i64 k,x] 150)).cell? ⟨w.heap.size,1,none⟩=_:=fun x=>(oF x).cell 1 ak;have z2:∀x,(w3.alloc (.cells #[.string (ah a),.string (ah c),.int .i64 k,x] 150)).cell? ⟨w.heap.size,2,none⟩=_:=fun x=>(oF x).cell 2 ak;have z3:∀x,(w3.alloc (.cells #[.string (ah a),.string (ah c),.int .i64 k,x] 150)).cell? ⟨w.heap.size,3,none⟩=_:=fun x=>(oF x).cell 3 ak;simp only[dS,ej]at z0 z1 z2 z3;have hfz:∀x i,(w3.alloc (.cells #[.string (ah a),.string (ah c),.int .i64 k,x] 150)).frozen? ⟨w.heap.size,i,none⟩=false:=fun x i=>(oF x).frozen i;have n1:w.heap.size≠w3.heap.size:=ae;have n2:w.heap.size+1≠w3.heap.size:=ae;have agV:w.heap.size<=w3.heap.size:=ae;clear hr3 hk3 hs3 jA vT eu dO Gz hs jI vU oF;go_wp2_with (fail);go_region;all_goals(go_wp2;refine df (v:=.tuple #[.agg #[.string (ah a),.string (ah c),.int .i64 k,.string (ah s3)],.bool (!b3)]) (by simp[results,results79,go_sem,z0,z1,z2,z3]) rfl ⟨rfl,?_⟩;exact(((((af AH _).drew).setCell (aL _) _).setCell (aL _) _).setCell (aL _) _).setCell (aL _) _)
structure gY where
 b:Bool
 vp:Value
 ns:List Int->Prop
instance:Coe Bool gY:=⟨fun b=>⟨b,.slice none 0 0,fun _=>True⟩⟩
def cX(w:World)(mb bb:Nat)(vl vm:Value)(bm:gY)(aH:Nat)(early bI d1:Bool)(st:Nat):Prop :=
 ay w mb [.slice (some ⟨bb,0,none⟩) 25600 25600,vl,.bool bm.b,bm.vp,.int .i64 aH,vm,.bool early,.bool bI,.bool d1,.int .i64 st] 84
def eI(w:World)(bb:Nat)(bs:ai):Prop:=bs.length=25600/\ay w bb (bs.map fun c=>Value.int .u8 c.toNat) 5
def qf(w:World)(base:Nat)(v:Value)(ns:List Int):Prop:=w.ownsRow base 3 1 v ns.length (ns.map (Value.int .i64))
def pw(w:World)(base:Nat)(v:Value)(ms:List (Int×Int)):Prop:=w.ownsRow base 177 2 v ms.length (ms.flatMap fun x=>[.int .i64 x.1,.int .i64 x.2])
section
variable {w w':World} {mb bb:Nat} {vl vm:Value} {bm:gY} {early bI d1:Bool} {aH st:Nat}
theorem iT(h:cX w mb bb vl vm bm aH early bI d1 st):w.cell? ⟨mb,0,none⟩=some (.slice (some ⟨bb,0,none⟩) 25600 25600):=ay.cell h 0 ak
theorem OL(h:cX w mb bb vl vm bm aH early bI d1 st):w.cell? ⟨mb,1,none⟩=some vl:=ay.cell h 1 ak
theorem agW(h:cX w mb bb vl vm bm aH early bI d1 st):w.cell? ⟨mb,2,none⟩=some (.bool bm.b):=ay.cell h 2 ak
theorem vV(h:cX w mb bb vl vm bm aH early bI d1 st):w.cell? ⟨mb,3,none⟩=some bm.vp:=ay.cell h 3 ak
theorem qg(h:cX w mb bb vl vm bm aH early bI d1 st):w.cell? ⟨mb,4,none⟩=some (.int .i64 aH):=ay.cell h 4 ak
theorem mD(h:cX w mb bb vl vm bm aH early bI d1 st):w.cell? ⟨mb,5,none⟩=some vm:=ay.cell h 5 ak
theorem We(h:cX w mb bb vl vm bm aH early bI d1 st):w.cell? ⟨mb,6,none⟩=some (.bool early):=ay.cell h 6 ak
theorem DU(h:cX w mb bb vl vm bm aH early bI d1 st):w.cell? ⟨mb,7,none⟩=some (.bool bI):=ay.cell h 7 ak
theorem DV(h:cX w mb bb vl vm bm aH early bI d1 st):w.cell? ⟨mb,8,none⟩=some (.bool d1):=ay.cell h 8 ak
theorem GD(h:cX w mb bb vl vm bm aH early bI d1 st):w.cell? ⟨mb,9,none⟩=some (.int .i64 st):=ay.cell h 9 ak
theorem agX(h:cX w mb bb vl vm bm aH early bI d1 st)(v:Value):cX (w.setCell ⟨mb,1,none⟩ v) mb bb v vm bm aH early bI d1 st:=ay.set h 1 v
theorem agY(h:cX w mb bb vl vm bm aH early bI d1 st)(n:Nat):cX (w.setCell ⟨mb,4,none⟩ (.int .i64 n)) mb bb vl vm bm n early bI d1 st:=ay.set h 4 (.int .i64 n)
theorem agZ(h:cX w mb bb vl vm bm aH early bI d1 st)(v:Value):cX (w.setCell ⟨mb,5,none⟩ v) mb bb vl v bm aH early bI d1 st:=ay.set h 5 v
theorem ag0(h:cX w mb bb vl vm bm aH early bI d1 st)(v:Bool):cX (w.setCell ⟨mb,6,none⟩ (.bool v)) mb bb vl vm bm aH v bI d1 st:=ay.set h 6 (.bool v)
theorem Bq(h:cX w mb bb vl vm bm aH early bI d1 st)(v:Bool):cX (w.setCell ⟨mb,7,none⟩ (.bool v)) mb bb vl vm bm aH early v d1 st:=ay.set h 7 (.bool v)
theorem Bt(h:cX w mb bb vl vm bm aH early bI d1 st)(v:Bool):cX (w.setCell ⟨mb,8,none⟩ (.bool v)) mb bb vl vm bm aH early bI v st:=ay.set h 8 (.bool v)
theorem rE(h:cX w mb bb vl vm bm aH early bI d1 st)(n:Nat):cX (w.setCell ⟨mb,9,none⟩ (.int .i64 n)) mb bb vl vm bm aH early bI d1 n:=ay.set h 9 (.int .i64 n)
theorem kK(h:cX w mb bb vl vm bm aH early bI d1 st)(i:Nat):w.frozen? ⟨mb,i,none⟩=false:=ay.frozen h i
theorem qh(h:cX w mb bb vl vm bm aH early bI d1 st):mb<w.heap.size:=ay.lt h
theorem gZ(h:cX w mb bb vl vm bm aH early bI d1 st)(hb:w'.heap[mb]? = w.heap[mb]?):cX w' mb bb vl vm bm aH early bI d1 st:=hb.trans h
end
theorem ag1:(prog.info? 3).map (fun i=>(i.zero,i.size,i.bytes))=some (some (.int .i64 0),1,8):=aK
theorem ag2:prog.underlying 56=some (.slice 3):=aK
theorem iG{w:World}{base b:Nat}{t t':TypeId}{sz n:Nat}{v:Value}{xs:List Value}{cs:List Value}(hb:ay w b cs t')(ho:w.ownsRow base t sz v n xs)(ht:t'≠t):some b≠v.ownBlock:=fun e=>by
 obtain⟨_,⟨rfl,_⟩|⟨g,cap,cur,rfl,_,bp,_⟩⟩:=ho
 ·simp[Value.ownBlock]at e
 ·simp only[Value.ownBlock,pL]at e;subst e;unfold ay at hb;rw[hb]at bp;simp at bp;exact ht bp.2
theorem eP{w:World}{b b':Nat}{cs cs':List Value}{t t':TypeId}(h:ay w b cs t)(h':ay w b' cs' t')(ht:t≠t'):b≠b':=fun e=>by
 subst e;unfold ay at h h';rw[h]at h';simp at h';exact ht h'.2
theorem Wh(mb bb:Nat)(vl vm:Value)(bm:gY)(early bI d1:Bool)(aH st:Nat)(w:World)(h:cX w mb bb vl vm bm aH early bI d1 st) :
  Calls prog 47 #[.pointer (some ⟨mb,0,none⟩)] w fun e w'=>e=.returned (.tuple #[])/\cX w' mb bb vl vm bm aH early false false st/\cF mb w w'/\w'.heap.size=w.heap.size:=by have c7:=DU h;have t_:=DV h;have hf:=kK h;have bA:=ag h;clear h;go_enter func47,ntmps47;go_wp2;refine fy (v:=.tuple #[]) (by simp[results,results47]) rfl ?_;exact⟨rfl,Bt (Bq (af bA) false) false,qN (qN (vh _ _) _ _) _ _,by simp[World.setCell]⟩
theorem px{w:World}{base:Nat}{t:TypeId}{sz n g:Nat}{v:Value}{xs:List Value}(h:w.ownsRow base t sz v n xs)(hg:v.ownBlock=some g):base<=g/\∃cur,w.heap[g]? = some (.cells cur t (0,0)):=by obtain⟨_,⟨rfl,_⟩|⟨g',cap,cur,rfl,hb,bp,_⟩⟩:=h;{simp[Value.ownBlock]at hg};{simp only[Value.ownBlock,pL]at hg;subst hg;exact⟨hb,cur,bp⟩}
theorem jq{w w':World}{base:Nat}{t:TypeId}{sz n:Nat}{v:Value}{xs:List Value}(h:w.ownsRow base t sz v n xs)(hb:∀g,v.ownBlock=some g->w'.heap[g]? = w.heap[g]?):w'.ownsRow base t sz v n xs:=by obtain⟨h1,h2⟩:=h;refine⟨h1,?_⟩;rcases h2 with h2|⟨g,cap,cur,rfl,kA,bp,hr⟩;{exact .inl h2};{exact .inr ⟨g,cap,cur,rfl,kA,(hb g rfl).trans bp,hr⟩}
theorem lB{w:World}{base:Nat}{t:TypeId}{sz n g:Nat}{v:Value}{xs:List Value}(h:w.ownsRow base t sz v n xs)(hg:v.ownBlock=some g):g<w.heap.size:=by obtain⟨_,cur,hc⟩:=px h hg;exact(di.1 hc).1
theorem OM{w:World}{base:Nat}{t t':TypeId}{sz sz' n n' g:Nat}{v v':Value}{xs xs':List Value}(h:w.ownsRow base t sz v n xs)(h':w.ownsRow base t' sz' v' n' xs')(ht:t≠t')(hg:v.ownBlock=some g):some g≠v'.ownBlock:=fun e=>by
 obtain⟨_,cur,hc⟩:=px h hg;obtain⟨_,cur',hc'⟩:=px h' e.symm;rw[hc]at hc';simp at hc';exact ht hc'.2
theorem y8{w:World}{bb:Nat}{bs:ai}(h:eI w bb bs)(n:Nat)(c:UInt8):eI (w.setCell ⟨bb,n,none⟩ (.int .u8 c.toNat)) bb (bs.set n c) :=
 ⟨by rw[CN];exact h.1,by have:=h.2.set n (.int .u8 c.toNat);rwa [II]⟩
theorem iH{w w':World}{bb:Nat}{bs:ai}(h:eI w bb bs)(hb:w'.heap[bb]? = w.heap[bb]?):eI w' bb bs:=⟨h.1,hb.trans h.2⟩
def Wi(rg:Nat)(bI d1:Bool):Bool:=match rg with
 | 0=>bI
 | _=>d1
def GF(n rg:Nat):Prop:=(rg=0/\n<512)\/(rg=0/\1024<=n/\n<13312)\/(rg=1/\512<=n/\n<1024)\/(rg=1/\13312<=n)
theorem ag3(mb bb n rg:Nat)(c:UInt8)(vl vm:Value)(bm:gY)(early bI d1:Bool)(aH st:Nat)(bs:ai)(w:World)(h:cX w mb bb vl vm bm aH early bI d1 st)(hr:eI w bb bs)(hn:n<25600)(hst:st<=100000000)(hrg:GF n rg)(h0:n≠130+512*rg)(h1:n≠131+512*rg) :
  Calls prog 155 #[.pointer (some ⟨mb,0,none⟩),.int .i64 n,.int .u8 c.toNat] w fun e w' =>
   e=.returned (.tuple #[])/\cX w' mb bb vl vm bm aH (early || Wi rg bI d1) bI d1 (st+1)/\eI w' bb (bs.set n c)/\bh (fun i=>i≠mb/\i≠bb) w w':=by
 have eH:mb≠bb:=eP h hr.2 aC;obtain⟨s1,hs1⟩:=bP (st+1);have ks:(st:Int)+1=(s1:Int):=ae;rw[<- hs1];have vW:s1<=200000000:=ae;have cQ:=rE h s1;have m0:=iT h;have m9:=GD h;have m6:=We h;have m7:=DU h;have m8:=DV h;have hf:=kK h;have p0:=iT cQ;have p6:=We cQ;have Bu:=DU cQ;have p8:=DV cQ;have jk:=kK cQ;have c4:=ag cQ;have aT:=ag hr;have hbl:=hr.2.lt;have GG:=hr.2.cell n (by simpa using(by rw[hr.1];exact hn));have Bk:=hr.2.frozen;simp only[CM]at GG;have tS:n<bs.length:=by rw[hr.1];exact hn
 have ag4:∃v,w.cell? ⟨bb,n,none⟩=some (.int .u8 v):=⟨_,GG⟩;obtain⟨v0,hv0⟩:=ag4;clear h hr hs1 cQ GG;have bg:Hid (∀(W:World) (b:Bool),W=(w.setCell ⟨mb,9,none⟩ (.int .i64 s1)).setCell ⟨mb,6,none⟩ (.bool b)->cX (W.setCell ⟨bb,n,none⟩ (.int .u8 c.toNat)) mb bb vl vm bm aH b bI d1 s1/\eI (W.setCell ⟨bb,n,none⟩ (.int .u8 c.toNat)) bb (bs.set n c)/\bh (fun i=>i≠mb/\i≠bb) w (W.setCell ⟨bb,n,none⟩ (.int .u8 c.toNat))):=fun W b hW=>by{subst hW;have e1:=ag0 (af c4) b;have r1:eI ((w.setCell ⟨mb,9,none⟩ (.int .i64 s1)).setCell ⟨mb,6,none⟩ (.bool b)) bb bs:=iH (af aT) ((bf _ _ _ _ (fun e=>eH e.symm)).trans (bf _ _ _ _ (fun e=>eH e.symm)));exact⟨gZ e1 (bf _ _ _ _ eH),y8 r1 n c,((bh.gF (a:=⟨mb,9,none⟩) (p:=fun i=>i≠mb/\i≠bb) _ fun i h=>h.1).trans (bh.gF _ fun i h=>h.1)).trans (bh.gF _ fun i h=>h.2)⟩};go_enter func155,ntmps155;rcases hrg with⟨rfl,q1⟩|⟨rfl,q1,q2⟩|⟨rfl,q1,q2⟩|⟨rfl,q1⟩;{
 have k0:¬(n:Int)<0:=ae;have k1:¬(25600:Int)<=(n:Int):=ae;have k2:¬(512:Int)<=(n:Int):=ae;have k3:¬(13312:Int)<=(n:Int):=ae;have k6:¬(n:Int)=130:=ae;have k7:¬(n:Int)=131:=ae;have k4:((n:Int) == 130)=false:=by simpa using k6
 have k5:((n:Int) == 131)=false:=by simpa using k7
 have k8:¬n=130:=ae;have k9:¬n=131:=ae;clear hst tS h0 h1 q1 p0 p6 Bu p8 jk;cases early with
 | true =>{go_wp2;refine fy (v:=.tuple #[]) (by simp[results,results155]) rfl ?_;have aJ:=af bg _ true rfl;exact⟨rfl,aJ.1,aJ.2.1,aJ.2.2⟩}
 | false =>{go_wp2;refine fy (v:=.tuple #[]) (by simp[results,results155]) rfl ?_;have aJ:=af bg _ bI rfl;exact⟨rfl,aJ.1,aJ.2.1,aJ.2.2⟩}};{
 have k0:¬(n:Int)<0:=ae;have k1:¬(25600:Int)<=(n:Int):=ae;have k2:(512:Int)<=(n:Int):=ae;have Wj:¬(n:Int)<1024:=ae;have k3:¬(13312:Int)<=(n:Int):=ae;have k6:¬(n:Int)=130:=ae;have k7:¬(n:Int)=131:=ae;have k4:((n:Int) == 130)=false:=by simpa using k6
 have k5:((n:Int) == 131)=false:=by simpa using k7
 have k8:¬n=130:=ae;have k9:¬n=131:=ae;clear hst tS h0 h1 q1 q2 p0 p6 Bu p8 jk;cases early with
 | true =>{go_wp2;refine fy (v:=.tuple #[]) (by simp[results,results155]) rfl ?_;have aJ:=af bg _ true rfl;exact⟨rfl,aJ.1,aJ.2.1,aJ.2.2⟩}
 | false =>{go_wp2;refine fy (v:=.tuple #[]) (by simp[results,results155]) rfl ?_;have aJ:=af bg _ bI rfl;exact⟨rfl,aJ.1,aJ.2.1,aJ.2.2⟩}};{
 have k0:¬(n:Int)<0:=ae;have k1:¬(25600:Int)<=(n:Int):=ae;have k2:(512:Int)<=(n:Int):=ae;have Wj:(n:Int)<1024:=ae;have k6:¬(n:Int)=642:=ae;have k7:¬(n:Int)=643:=ae;have k4:((n:Int) == 642)=false:=by simpa using k6
 have k5:((n:Int) == 643)=false:=by simpa using k7
 have k8:¬n=642:=ae;have k9:¬n=643:=ae;clear hst tS h0 h1 q1 q2 p0 p6 Bu p8 jk;cases early with
 | true =>{go_wp2;refine fy (v:=.tuple #[]) (by simp[results,results155]) rfl ?_;have aJ:=af bg _ true rfl;exact⟨rfl,aJ.1,aJ.2.1,aJ.2.2⟩}
 | false =>{go_wp2;refine fy (v:=.tuple #[]) (by simp[results,results155]) rfl ?_;have aJ:=af bg _ d1 rfl;exact⟨rfl,aJ.1,aJ.2.1,aJ.2.2⟩}};{
 have k0:¬(n:Int)<0:=ae;have k1:¬(25600:Int)<=(n:Int):=ae;have k2:(512:Int)<=(n:Int):=ae;have Wj:¬(n:Int)<1024:=ae;have k3:(13312:Int)<=(n:Int):=ae;have k6:¬(n:Int)=642:=ae;have k7:¬(n:Int)=643:=ae;have k4:((n:Int) == 642)=false:=by simpa using k6
 have k5:((n:Int) == 643)=false:=by simpa using k7
 have k8:¬n=642:=ae;have k9:¬n=643:=ae;clear hst tS h0 h1 q1 p0 p6 Bu p8 jk;cases early with
 | true =>{go_wp2;refine fy (v:=.tuple #[]) (by simp[results,results155]) rfl ?_;have aJ:=af bg _ true rfl;exact⟨rfl,aJ.1,aJ.2.1,aJ.2.2⟩}
 | false =>{go_wp2;refine fy (v:=.tuple #[]) (by simp[results,results155]) rfl ?_;have aJ:=af bg _ d1 rfl;exact⟨rfl,aJ.1,aJ.2.1,aJ.2.2⟩}}
def ag5(w:World)(pb off ln:Nat):Prop:=∃cs,ay w pb cs 174/\∀i,i<ln->∃(a b:Int) (c:UInt8),cs[off+3*i]? = some (.int .i64 a)/\cs[off+3*i+1]? = some (.int .i64 b)/\cs[off+3*i+2]? = some (.int .u8 c.toNat)
def jE(w:World)(v:Value)(ln:Nat):Prop:=∃ad cap,v=.slice ad ln cap/\ln<=cap/\(ln=0\/∃pb off,ad=some ⟨pb,off,none⟩/\ag5 w pb off ln)
theorem sQ{w w':World}{v:Value}{ln:Nat}(h:jE w v ln)(hk:∀i cs,ay w i cs 174->w'.heap[i]? = w.heap[i]?):jE w' v ln:=by obtain⟨ad,cap,h1,h2,h3⟩:=h;refine⟨ad,cap,h1,h2,h3.imp id ?_⟩;rintro⟨pb,off,h4,cs,h5,h6⟩;exact⟨pb,off,h4,cs,(hk pb cs h5).trans h5,h6⟩
theorem Wl{w:World}{v:Value}{ln:Nat}(h:jE w v (ln+1)):∃(pb off cap:Nat) (cs:List Value) (a b:Int) (c:UInt8),v=.slice (some ⟨pb,off,none⟩) (ln+1) (cap+1)/\ln<=cap/\ay w pb cs 174/\w.cell? ⟨pb,off,none⟩=some (.int .i64 a)/\w.cell? ⟨pb,off+1,none⟩=some (.int .i64 b)/\w.cell? ⟨pb,off+2,none⟩=some (.int .u8 c.toNat)/\∀w':World,w'.heap[pb]? = w.heap[pb]?->jE w' (.slice (if cap+1=1 then some ⟨pb,off,none⟩else some ⟨pb,off+3,none⟩) ln cap) ln:=by obtain⟨ad,cap,rfl,h2,h3⟩:=h;obtain h3|⟨pb,off,rfl,cs,h5,h6⟩:=h3;{omega};obtain⟨cap,rfl⟩:∃c,cap=c+1:=⟨cap - 1,ae⟩;obtain⟨a,b,c,x,y,z⟩:=h6 0 ae;have g:∀(j:Nat) (v:Value),cs[j]? = some v->w.cell? ⟨pb,j,none⟩=some v:=fun j v hv=>by{obtain⟨hj,e⟩:=iu.1 hv;rw[<- e];exact h5.cell j hj};refine⟨pb,off,cap,cs,a,b,c,rfl,ae,h5,g _ _ x,g _ _ y,g _ _ z,fun w' hw=>?_⟩;refine⟨_,_,rfl,ae,?_⟩;by_cases hl:ln=0;{exact .inl hl};{refine .inr ⟨pb,off+3,aG ae,cs,hw.trans h5,fun i au=>?_⟩;have:=h6 (i+1) ae;rwa [show off+3*(i+1)=off+3+3*i by omega]at this}
theorem ag6:prog.underlying 80=some (.slice 174):=aK
theorem Wm{w W X:World}{mb bb base k aH st:Nat}{vl vm vp:Value}{wb early bI d1:Bool}{P:List Int->Prop}{bs:ai}{ns:List Int}(hm:cX W mb bb vl vm ⟨wb,vp,P⟩ aH early bI d1 st)(hp:jE W vp k)(hr:eI W bb bs)(ho:qf W base vl ns)(hF:bh (fun i=>i≠mb/\i≠bb/\some i≠vl.ownBlock) w W)(h1:X.heap=W.heap)(h2:X.os=W.os)(h3:X.tape=W.tape)(h4:X.output=W.output) :
  ∃cC bs',Hid (cX X mb bb vl vm ⟨wb,cC,P⟩ aH early bI d1 st)/\Hid (jE X cC k)/\Hid (eI X bb bs')/\Hid (qf X base vl ns)/\Hid (bh (fun i=>i≠mb/\i≠bb/\some i≠vl.ownBlock) w X) :=
 ⟨vp,bs,gZ hm (by rw[h1]),sQ hp (fun _ _ _=>by rw[h1]),iH hr (by rw[h1]),jq ho (fun _ _=>by rw[h1]),hF.trans ⟨h2,h3,h4,by rw[h1];exact aL _,fun _ _ _=>by rw[h1]⟩⟩
theorem ag7{w W X:World}{mb bb base k aH st:Nat}{vl vm vp:Value}{wb early bI d1:Bool}{P:List Int->Prop}{bs:ai}{ns:List Int}(hm:cX W mb bb vl vm ⟨wb,vp,P⟩ aH early bI d1 st)(hp:jE W vp k)(hr:eI W bb bs)(ho:qf W base vl ns)(hF:bh (fun i=>i≠mb/\i≠bb/\some i≠vl.ownBlock) w W)(j:Nat)(c:UInt8)(h1:X.heap=(W.setCell ⟨bb,j,none⟩ (.int .u8 c.toNat)).heap)(h2:X.os=W.os)(h3:X.tape=W.tape)(h4:X.output=W.output) :
  ∃cC bs',Hid (cX X mb bb vl vm ⟨wb,cC,P⟩ aH early bI d1 st)/\Hid (jE X cC k)/\Hid (eI X bb bs')/\Hid (qf X base vl ns)/\Hid (bh (fun i=>i≠mb/\i≠bb/\some i≠vl.ownBlock) w X):=by have hk:∀i,i≠bb->(W.setCell ⟨bb,j,none⟩ (.int .u8 c.toNat)).heap[i]? = W.heap[i]?:=fun i au=>bf _ _ _ _ au;exact Wm (gZ hm (hk _ (eP hm hr.2 aC))) (sQ hp (fun i cs h=>hk i (eP h hr.2 aC))) (y8 hr j c) (jq ho (fun g hg=>hk g (fun e=>iG hr.2 ho aC (by rw[hg,e])))) (hF.trans (bh.gF _ fun i h=>h.2.1)) h1 h2 h3 h4
theorem ag8(mb bb base n np:Nat)(vl vm vp:Value)(wb:Bool)(P:List Int->Prop)(early bI d1:Bool)(aH st:Nat)(bs:ai)(ns:List Int)(w:World)(h:cX w mb bb vl vm ⟨wb,vp,P⟩ aH early bI d1 st)(hp:jE w vp np)(hr:eI w bb bs)(ho:qf w base vl ns)(bL:base<=w.heap.size)(hn:n<25600)(nU:ns.length<=1000000)(ag9:aH<=1000000) :
  Calls prog 159 #[.pointer (some ⟨mb,0,none⟩),.int .i64 n] w fun e w' =>
   ∃(bv:UInt8) (J7 cC:Value) (bs':ai) (DW:Nat),e=.returned (.int .u8 bv.toNat)/\cX w' mb bb J7 vm ⟨wb,cC,P⟩ (aH+1) early false false st/\jE w' cC DW/\eI w' bb bs'/\qf w' base J7 (ns++[(n:Int)])/\bh (fun i=>i≠mb/\i≠bb/\some i≠vl.ownBlock) w w':=by
 obtain⟨i0,au,hz0,hz1,hz2⟩:=kS ag1;have eH:mb≠bb:=eP h hr.2 aC;have bA:=ag h;have aT:=ag hr;have HO:=ag ho;have bG:=ag hp;obtain⟨az,hc1⟩:=bP (aH+1);have ag_:Hid ((aH:Int)+1=(az:Int)):=by rw[Hid,hc1];rfl
 rw[<- hc1];clear h hr ho hp hc1;go_enter func159,ntmps159;go_wp2_with (fail)
 go_loopg [5] np (fun g _ wr=>∃cC bs',Hid (cX wr mb bb vl vm ⟨wb,cC,P⟩ aH early bI d1 st)/\Hid (jE wr cC g)/\Hid (eI wr bb bs')/\Hid (qf wr base vl ns)/\Hid (bh (fun i=>i≠mb/\i≠bb/\some i≠vl.ownBlock) w wr))
 case atStart=>exact⟨vp,bs,bA,bG,aT,HO,bh.refl _ _⟩
 case round =>
  clear bA bG aT HO;obtain⟨cC,bs',bA,bG,aT,HO,bg⟩:=hrel;have c3:wr.cell? ⟨mb,3,none⟩=some cC:=vV (af bA);have bw:=qg (af bA);have hf:=kK (af bA);have GH:Hid (∃(ad:Option Addr) (cap:Nat),cC=.slice ad gk cap):=by
   obtain⟨ad,cap,h1,_⟩:=af bG;exact⟨ad,cap,h1⟩
  have tY:Hid (∀q,Hid (cX (wr.drewN q) mb bb vl vm ⟨wb,cC,P⟩ aH early bI d1 st)/\Hid (jE (wr.drewN q) cC gk)/\Hid (eI (wr.drewN q) bb bs')/\Hid (qf (wr.drewN q) base vl ns)/\Hid (bh (fun i=>i≠mb/\i≠bb/\some i≠vl.ownBlock) w (wr.drewN q))):=fun q=>⟨gZ (af bA) ak,sQ (af bG) (fun _ _ _=>ak),iH (af aT) ak,jq (af HO) (fun _ _=>ak),(af bg).trans ⟨rfl,rfl,rfl,aL _,fun _ _ _=>rfl⟩⟩
  go_wp2_with (fail)
  go_cut [25]from 6 to 61 (fun v wc=>∃go:Bool,v=.bool go/\(go=true->∃k,gk=k+1)/\Hid (cX wc mb bb vl vm ⟨wb,cC,P⟩ aH early bI d1 st)/\Hid (jE wc cC gk)/\Hid (eI wc bb bs')/\Hid (qf wc base vl ns)/\Hid (bh (fun i=>i≠mb/\i≠bb/\some i≠vl.ownBlock) w wc))
  case first =>
   match gk with
   | 0 =>
    obtain⟨ad,cap,rfl⟩:=af GH;go_quiet (fail);go_wp2_with (fail);go_meet
    case rel=>exact⟨false,rfl,fun h=>(Bool.noConfusion h),af tY _⟩
   | k+1 =>
    obtain⟨pb,off,cap,cs,a,b,c,rfl,fw,hbl,x0,x1,x2,_⟩:=Wl (af bG);have hk:(0:Int)<((k+1:Nat):Int):=ae;go_quiet (fail);go_wp2_with (fail);go_meet
    case rel=>exact⟨_,rfl,fun _=>⟨k,rfl⟩,af tY _⟩
  case rest =>
   clear bA bG aT HO bg tY c3 bw hf GH;obtain⟨go,rfl,hgo,bA,bG,aT,HO,bg⟩:=hcut;have c3:wc.cell? ⟨mb,3,none⟩=some cC:=vV (af bA);have bw:=qg (af bA);have c0:=iT (af bA);have hf:=kK (af bA);have hlt:=qh (af bA);cases go with
   | true =>
    obtain⟨k,rfl⟩:=hgo rfl;clear bw;obtain⟨pb,off,cap,cs,a,b,c,rfl,fw,hbl,x0,x1,x2,DX⟩:=Wl (af bG);have OO:pb≠mb:=eP hbl (af bA) aC;have aqz:pb≠bb:=eP hbl (af aT).2 aC;have hk:(0:Int)<((k+1:Nat):Int):=ae;have oX:∀(W:World),W.heap[pb]? = wc.heap[pb]?->W.heap[pb]? = wc.heap[pb]?:=fun _ h=>h;have ml:cap=0\/cap≠0:=ae;have OP:=ag hbl;rcases ml with ml|ml
    all_goals
     (first
      | (subst ml;obtain rfl:k=0:=ae;have jh:Hid (∀W:World,W.heap[pb]? = wc.heap[pb]?->jE W (.slice (some ⟨pb,off,none⟩) 0 0) 0):=fun W h=>by simpa using DX W h)
      | (have jh:Hid (∀W:World,W.heap[pb]? = wc.heap[pb]?->jE W (.slice (some ⟨pb,off+3,none⟩) k cap) k):=fun W h=>by simpa [ml]using DX W h))
     clear DX hbl hgo oX;go_wp2_with (fail)
     first
      | (clear ml;generalize Value.slice (some ⟨pb,off+3,none⟩) k cap=xo at *)
      | generalize Value.slice (some ⟨pb,off,none⟩) 0 0=xo at *
     obtain⟨W,hW⟩:=bP ((wc.setCell ⟨mb,3,none⟩ xo).alloc (.cells #[.int .i64 a,.int .i64 b,.int .u8 c.toNat] 174));have vX:∀i,i<wc.heap.size->i≠mb->W.heap[i]? = wc.heap[i]?:=fun i au hne=>by
      rw[hW];exact(bV _ _ _ (by simpa [World.setCell]using au)).trans (bf _ _ _ _ hne)
     have kj:cX W mb bb vl vm ⟨wb,xo,P⟩ aH early bI d1 st:=by
      rw[hW];exact(ay.set (af bA) 3 xo).alloc _
     have jn:=ag kj;have xI:=ag (af jh W (vX pb (af OP).lt OO));have hR2:=iH (af aT) (vX bb (af aT).2.lt (fun e=>eH e.symm));have gv:=ag hR2;have h9:Hid (qf W base vl ns):=jq (af HO) fun g hg=>vX g (lB (af HO) hg) (fun e=>iG (af bA) (af HO) aC (by rw[hg,e]));have iB:Hid (bh (fun i=>i≠mb/\i≠bb/\some i≠vl.ownBlock) w W):=(af bg).trans ⟨by rw[hW];rfl,by rw[hW];rfl,by rw[hW];rfl,by rw[hW];simp[World.setCell],fun i au h=>vX i au h.1⟩;have Wn:ay W wc.heap.size [.int .i64 a,.int .i64 b,.int .u8 c.toNat] 174:=by
      have:=ay.eo (wc.setCell ⟨mb,3,none⟩ xo) [.int .i64 a,.int .i64 b,.int .u8 c.toNat] 174;rw[<- hW]at this;simpa [World.setCell]using this
     have p1:=Wn.cell 1 ak;have gB:=Wn.cell 2 ak;simp only[dS,ej]at p1 gB;have q0:=iT kj;have aqA:bb≠wc.heap.size:=by have:=(af aT).2.lt;omega
     rw[<- hW];clear hW vX kj jh bA bG aT HO bg c0 c3 hf hlt x0 x1 x2;have mS:Hid (∀X:World,X.heap=W.heap->X.os=W.os->X.tape=W.tape->X.output=W.output->_):=fun X h1 h2 h3 h4=>Wm (af jn) (af xI) (af gv) (af h9) (af iB) h1 h2 h3 h4;by_cases hb0:(0:Int)<=b
     ·by_cases hb1:b<25600
      ·obtain⟨j,rfl⟩:∃j:Nat,b=(j:Int):=⟨b.toNat,ae⟩
       have hj:j<bs'.length:=by rw[hR2.1];omega
       have GG:=hR2.2.cell j (by simpa using hj);have Bk:=hR2.2.frozen;simp only[CM]at GG;have qZ:Hid (∀X:World,X.heap=(W.setCell ⟨bb,j,none⟩ (.int .u8 c.toNat)).heap->X.os=W.os->X.tape=W.tape->X.output=W.output->_):=fun X h1 h2 h3 h4=>ag7 (af jn) (af xI) (af gv) (af h9) (af iB) j c h1 h2 h3 h4;clear hR2;go_quiet (fail);go_wp2_with (fail)
       go_region
       go_wp2_with (fail)
       first|go_roundg k|go_roundg 0
       case measure=>omega
       case rel=>exact af qZ _ rfl rfl rfl rfl
      ·have aD:decide (b<25600)=false:=hP hb1;clear hR2;go_quiet (fail);go_wp2_with (fail)
       first|go_roundg k|go_roundg 0
       case measure=>omega
       case rel=>exact af mS _ rfl rfl rfl rfl
     ·have aD:decide ((0:Int)<=b)=false:=hP hb0;clear hR2;go_quiet (fail);go_wp2_with (fail)
      first|go_roundg k|go_roundg 0
      case measure=>omega
      case rel=>exact af mS _ rfl rfl rfl rfl
   | false =>
    have GI:Hid (∀(az:Nat) (W:World),cX W mb bb vl vm ⟨wb,cC,P⟩ az early bI d1 st->Calls prog 47 #[.pointer (some ⟨mb,0,none⟩)] W fun e w'=>e=.returned (.tuple #[])/\cX w' mb bb vl vm ⟨wb,cC,P⟩ az early false false st/\cF mb W w'/\w'.heap.size=W.heap.size):=fun az W h=>Wh mb bb vl vm _ early bI d1 az st W h;have kc:=af ag_;have aha:=(af bg).size;have hne:some mb≠vl.ownBlock:=iG (af bA) (af HO) aC;have uv:some bb≠vl.ownBlock:=iG (af aT).2 (af HO) aC;clear hgo c3 c0;go_wp2_with (fail);refine(af GI _ _ (agY (af bA) az)).mono ?_;rintro e w1 ⟨rfl,hm1,dN,hs1⟩;have GK:∀i,i<wc.heap.size->i≠mb->w1.heap[i]? = wc.heap[i]?:=fun i au hne=>(dN.block i (by simpa [World.setCell]using au) hne).trans (bf _ _ _ _ hne);have rY:w1.heap.size=wc.heap.size:=by rw[hs1];simp[World.setCell]
    have ij:Hid (qf w1 base vl ns):=jq (af HO) fun g hg=>GK g (lB (af HO) hg) (fun e=>hne (by rw[hg,e]));have dQ:Hid (bh (fun i=>i≠mb/\i≠bb/\some i≠vl.ownBlock) w w1):=(af bg).trans ⟨dN.os,dN.tape,dN.output,ae,fun i au hp=>GK i au hp.1⟩;have fN:Hid (eI w1 bb bs'):=iH (af aT) (GK bb (af aT).2.lt (fun e=>eH e.symm));have rF:Hid (jE w1 cC gk):=sQ (af bG) fun i cs h=>GK i h.lt (eP h (af bA) aC);have c4:=ag hm1;have a1:=OL hm1;have jk:=kK hm1;have DY:=qh hm1;have VW:base<=w1.heap.size:=ae;clear hm1 dN hs1 GK GI bA aT HO bg bG hf hlt rY aha;go_wp2_with (at_builtin;go_loud (refine ab9 _ rfl (.tmp 75) (.tmp 77) 56 rfl base 3 i0 (.int .i64 0) 1 8 ag2 au hz0 hz1 hz2 rfl aC _ ns.length _ rfl ((af ij).alloc _) ⟨w1.heap.size,0,none⟩ 1 1 [.int .i64 n] rfl rfl ?az ?c2 ?c3 ?bw ?dm ?_))
    case az =>
     intro j u hj
     match j,hj with
     | 0,hj=>simp at hj;subst hj;simp[Addr.add]
     | n+1,hj=>simp at hj
    case c2=>intro u hu;simp at hu;subst hu;rfl
    case c3=>unfold maxLen;omega
    case bw=>omega
    case dm=>simp;omega
    intro v' w3 hown' hgrow _ hat;obtain⟨va,vn,vc,rfl⟩:=oy hown';have eV:Hid (qf w3 base (.slice va vn vc) (ns++[(n:Int)])):=by
     unfold Hid qf;rw[bU,n_];exact hown'
    have hblk:∀i,i<w1.heap.size->some i≠vl.ownBlock->w3.heap[i]? = w1.heap[i]?:=fun i au hne =>
     (hgrow.block i aX hne).trans (bV _ _ _ au)
    have eN:=ag (gZ (af c4) (hblk mb DY hne));have jM:Hid (eI w3 bb bs'):=iH (af fN) (hblk bb (af fN).2.lt uv);have pd:Hid (jE w3 cC gk):=sQ (af rF) fun i cs h=>hblk i h.lt (iG h (af ij) aC);have fY:Hid (bh (fun i=>i≠mb/\i≠bb/\some i≠vl.ownBlock) w w3) :=
     (af dQ).trans ⟨hgrow.os,hgrow.tape,hgrow.output,a_ ak hgrow.size,fun i au hp=>hblk i au hp.2.2⟩
    have OQ:some mb≠(Value.slice va vn vc).ownBlock:=iG (af eN) (af eV) aC;have hfz:=kK (af eN);have b1:=OL (af eN);have b0:=iT (af eN);have GL:=agX (af eN) (.slice va vn vc);have q0:=iT GL;have Ds:=ag GL;have hnl:n<bs'.length:=by rw[(af jM).1];omega
    have ahb:w3.cell? ⟨bb,n,none⟩=some (.int .u8 (bs'[n]).toNat):=by
     have:=(af jM).2.cell n (by simpa using hnl);rw[this];simp
    have hcell:(w3.setCell ⟨mb,1,none⟩ (.slice va vn vc)).cell? ⟨bb,n,none⟩=some (.int .u8 (bs'[n]).toNat):=by
     rw[E8 _ _ _ _ (fun x=>eH (by have:=ek Addr.block x;exact this)),ahb]
    have hk4:∀i,i≠mb->(w3.setCell ⟨mb,1,none⟩ (.slice va vn vc)).heap[i]? = w3.heap[i]?:=fun i au=>bf _ _ _ _ au;have oU:=ag (iH (af jM) (hk4 bb (fun e=>eH e.symm)));have GM:Hid (jE (w3.setCell ⟨mb,1,none⟩ (.slice va vn vc)) cC gk):=sQ (af pd) fun i cs h=>hk4 i (eP h (af eN) aC);have o7:Hid (bh (fun i=>i≠mb/\i≠bb/\some i≠vl.ownBlock) w (w3.setCell ⟨mb,1,none⟩ (.slice va vn vc))):=(af fY).trans (bh.gF _ fun i h=>h.1);generalize bs'[n]=bv at *;have hn':n<25600:=hn;clear hown' hgrow hat hblk hne GL c4 ij fN dQ rF a1 jk DY VW hnl hk4;go_wp2;go_ret;exact⟨bv,_,_,_,_,rfl,af Ds,af GM,af oU,jm (af eV) OQ _ _,af o7⟩
theorem Wo:(prog.info? 177).map (fun i=>(i.zero,i.size,i.bytes))=some (some (.agg #[.int .i64 0,.int .i64 0]),2,16):=aK
theorem y9:prog.underlying 81=some (.slice 177):=aK
theorem y_(W:World)(b:Nat)(hb:b=W.heap.size)(x y:Int)(t:TypeId):∀(j:Nat) (u:Value),[Value.int .i64 x,Value.int .i64 y][j]? = some u->(W.alloc (.cells #[.int .i64 x,.int .i64 y] t)).cell? ((⟨b,0,none⟩:Addr).add j)=some u:=fun j u hj=>by
 subst hb
 match j,hj with
 | 0,hj=>simp at hj;subst hj;simp[Addr.add]
 | 1,hj=>simp at hj;subst hj;exact(ay.eo W [Value.int .i64 x,Value.int .i64 y] t).cell 1 ak
 | n+2,hj=>simp at hj
theorem ze(x y:Int):∀u∈[Value.int .i64 x,Value.int .i64 y],u.oneCell'=true:=by intro u hu;simp at hu;rcases hu with rfl|rfl <;> rfl
def J8(n:Nat)(d:Bool):Bool:=if n<512 then true else d
def J9(n:Nat)(d:Bool):Bool:=if n<512 then d else true
def DZ(w:World)(base:Nat)(v:Value)(k:Nat):Prop:=∃ms,pw w base v ms/\ms.length<=k
theorem zf{w w3:World}{mb bb base n:Nat}{c:UInt8}{vl vm lW:Value}{bm:gY}{early bI d1:Bool}{aH s1:Nat}{bs:ai}{ms:List (Int×Int)}{P:Nat->Prop}
  (hm:cX w3 mb bb vl vm bm aH early bI d1 s1) (ho:pw w3 base lW ms) (hr:eI w3 bb bs) (hF:bh P w w3) (bZ:∀i,P i->i≠mb/\i≠bb) :
  cX ((w3.setCell ⟨mb,5,none⟩ lW).setCell ⟨bb,n,none⟩ (.int .u8 c.toNat)) mb bb vl lW bm aH early bI d1 s1/\DZ ((w3.setCell ⟨mb,5,none⟩ lW).setCell ⟨bb,n,none⟩ (.int .u8 c.toNat)) base lW ms.length/\eI ((w3.setCell ⟨mb,5,none⟩ lW).setCell ⟨bb,n,none⟩ (.int .u8 c.toNat)) bb (bs.set n c)/\bh P w ((w3.setCell ⟨mb,5,none⟩ lW).setCell ⟨bb,n,none⟩ (.int .u8 c.toNat)):=by have eH:mb≠bb:=eP hm hr.2 aC;have n1:some mb≠lW.ownBlock:=iG hm ho aC;have n2:some bb≠lW.ownBlock:=iG hr.2 ho aC;refine⟨gZ (agZ hm lW) (bf _ _ _ _ eH),⟨ms,jm (jm ho n1 _ _) n2 _ _,aL _⟩,y8 (iH hr (bf _ _ _ _ (fun e=>eH e.symm))) n c,(hF.trans (bh.gF _ fun i h=>(bZ i h).1)).trans (bh.gF _ fun i h=>(bZ i h).2)⟩
theorem ahc(mb bb base n:Nat)(c:UInt8)(vl:Value)(bm:gY)(early bI d1:Bool)(aH st:Nat)(bs:ai)(vm:Value)(w:World)(h:cX w mb bb vl vm bm aH early bI d1 st)(ho:pw w base vm [])(hr:eI w bb bs)(bL:base<=w.heap.size)(hst:st<=100000000)(hn:n=130\/n=131\/n=642\/n=643) :
  Calls prog 155 #[.pointer (some ⟨mb,0,none⟩),.int .i64 n,.int .u8 c.toNat] w fun e w' =>
   e=.returned (.tuple #[])/\(∃lW,cX w' mb bb vl lW bm aH early (J8 n bI) (J9 n d1) (st+1)/\DZ w' base lW 1)/\eI w' bb (bs.set n c)/\bh (fun i=>i≠mb/\i≠bb/\some i≠vm.ownBlock) w w':=by
 obtain⟨i0,au,hz0,hz1,hz2⟩:=kS Wo;obtain⟨va,vc,rfl⟩:∃a c,vm=.slice a 0 c:=by
  obtain⟨_,⟨rfl,_⟩|⟨g,cap,cur,rfl,_⟩⟩:=ho
  ·exact⟨_,_,rfl⟩
  ·exact⟨_,_,rfl⟩
 obtain⟨s1,hs1⟩:=bP (st+1);have ks:(st:Int)+1=(s1:Int):=ae;rw[<- hs1];have vW:s1<=200000000:=ae;have m0:=iT h;have m4:=qg h;have m5:=mD h;have m7:=DU h;have m8:=DV h;have m9:=GD h;have hf:=kK h;have bA:=ag h;have aT:=ag hr;have HO:=ag ho;clear h hr ho hs1 hst;have hne:some mb≠(Value.slice va 0 vc).ownBlock:=iG (af bA) (af HO) aC;have uv:some bb≠(Value.slice va 0 vc).ownBlock:=iG (af aT).2 (af HO) aC;have eH:mb≠bb:=eP (af bA) (af aT).2 aC;have hlt:=qh (af bA);go_enter func155,ntmps155;rcases hn with rfl|rfl|rfl|rfl
 ·have c4:=ag (Bq (rE (af bA) s1) true);have ij:Hid (pw ((w.setCell ⟨mb,9,none⟩ (.int .i64 s1)).setCell ⟨mb,7,none⟩ (.bool true)) base (.slice va 0 vc) []):=jm (jm (af HO) hne _ _) hne _ _;go_upto_region 9 with fail
  go_region
  go_upto_region 10 with fail
  go_region_law (first|(refine step_append_lies _ rfl (.tmp 84) (.tmp 91) 81 rfl base 177 i0 (.agg #[.int .i64 0,.int .i64 0]) 2 16 y9 au hz0 hz1 hz2 rfl aC _ 0 [] rfl ((af ij).alloc _) _ 1 1 [.int .i64 0,.int .i64 aH] rfl rfl (y_ _ _ (by simp[World.setCell]) 0 aH _) (ze 0 aH) aC (by unfold maxLen;omega) ae (by simp[World.setCell];omega) (w.heap.size+1) (by simp[World.setCell]) ?_;intro g cap w3 hown hgrow hat hlt3;have cI:=gZ (af c4) ((hgrow.block mb (by simp[World.setCell];omega) hne).trans (bV _ _ _ (by simpa [World.setCell]using hlt)));have b5:=mD cI;have hf3:=kK cI))
  all_goals
   have hown':pw w3 base (.slice (some ⟨g,0,none⟩) 1 cap) [((0:Int),(aH:Int))]:=hown;have hgr:World.grownBy (((w.setCell ⟨mb,9,none⟩ (.int .i64 s1)).setCell ⟨mb,7,none⟩ (.bool true)).alloc (.cells #[.int .i64 0,.int .i64 aH] 177)) w3 (Value.slice va 0 vc).ownBlock:=⟨hgrow.os,hgrow.tape,hgrow.output,hgrow.size,hgrow.block⟩
   have hblk:∀i,i<w.heap.size->i≠mb->some i≠(Value.slice va 0 vc).ownBlock->w3.heap[i]? = w.heap[i]?:=fun i au h1 h2 =>
    ((hgr.block i (by simp[World.setCell];omega) h2).trans (bV _ _ _ (by simpa [World.setCell]using au))).trans ((bf _ _ _ _ h1).trans (bf _ _ _ _ h1))
   have hr3:eI w3 bb bs:=iH (af aT) (hblk bb (af aT).2.lt (fun e=>eH e.symm) uv);have dR:bh (fun i=>i≠mb/\i≠bb/\some i≠(Value.slice va 0 vc).ownBlock) w w3:=⟨hgr.os,hgr.tape,hgr.output,a_ (by simp[World.setCell]) hgr.size,fun i au hp=>hblk i au hp.1 hp.2.2⟩
   have fq:=ag (zf (n:=130) (c:=c) cI hown' hr3 dR fun i h=>⟨h.1,h.2.1⟩);have b0:=iT cI;obtain⟨v0,hrow⟩:∃v,w3.cell? ⟨bb,130,none⟩=some v:=⟨_,hr3.2.cell 130 (by simp[hr3.1])⟩
   have uw:=hr3.2.frozen;clear hown hgrow hat hgr hblk hr3 dR hown' cI;go_wp2;refine fy (v:=.tuple #[]) (by simp[results,results155]) rfl ?_;have aJ:=af fq;exact⟨rfl,⟨_,aJ.1,aJ.2.1⟩,aJ.2.2.1,aJ.2.2.2⟩
 ·have c4:=ag (Bq (rE (af bA) s1) true);have ij:Hid (pw ((w.setCell ⟨mb,9,none⟩ (.int .i64 s1)).setCell ⟨mb,7,none⟩ (.bool true)) base (.slice va 0 vc) []):=jm (jm (af HO) hne _ _) hne _ _;go_upto_region 9 with fail
  go_region
  go_upto_region 10 with fail
  go_region_law (first|(refine step_append_lies _ rfl (.tmp 84) (.tmp 91) 81 rfl base 177 i0 (.agg #[.int .i64 0,.int .i64 0]) 2 16 y9 au hz0 hz1 hz2 rfl aC _ 0 [] rfl ((af ij).alloc _) _ 1 1 [.int .i64 0,.int .i64 aH] rfl rfl (y_ _ _ (by simp[World.setCell]) 0 aH _) (ze 0 aH) aC (by unfold maxLen;omega) ae (by simp[World.setCell];omega) (w.heap.size+1) (by simp[World.setCell]) ?_;intro g cap w3 hown hgrow hat hlt3;have cI:=gZ (af c4) ((hgrow.block mb (by simp[World.setCell];omega) hne).trans (bV _ _ _ (by simpa [World.setCell]using hlt)));have b5:=mD cI;have hf3:=kK cI))
  all_goals
   have hown':pw w3 base (.slice (some ⟨g,0,none⟩) 1 cap) [((0:Int),(aH:Int))]:=hown;have hgr:World.grownBy (((w.setCell ⟨mb,9,none⟩ (.int .i64 s1)).setCell ⟨mb,7,none⟩ (.bool true)).alloc (.cells #[.int .i64 0,.int .i64 aH] 177)) w3 (Value.slice va 0 vc).ownBlock:=⟨hgrow.os,hgrow.tape,hgrow.output,hgrow.size,hgrow.block⟩
   have hblk:∀i,i<w.heap.size->i≠mb->some i≠(Value.slice va 0 vc).ownBlock->w3.heap[i]? = w.heap[i]?:=fun i au h1 h2 =>
    ((hgr.block i (by simp[World.setCell];omega) h2).trans (bV _ _ _ (by simpa [World.setCell]using au))).trans ((bf _ _ _ _ h1).trans (bf _ _ _ _ h1))
   have hr3:eI w3 bb bs:=iH (af aT) (hblk bb (af aT).2.lt (fun e=>eH e.symm) uv);have dR:bh (fun i=>i≠mb/\i≠bb/\some i≠(Value.slice va 0 vc).ownBlock) w w3:=⟨hgr.os,hgr.tape,hgr.output,a_ (by simp[World.setCell]) hgr.size,fun i au hp=>hblk i au hp.1 hp.2.2⟩
   have fq:=ag (zf (n:=131) (c:=c) cI hown' hr3 dR fun i h=>⟨h.1,h.2.1⟩);have b0:=iT cI;obtain⟨v0,hrow⟩:∃v,w3.cell? ⟨bb,131,none⟩=some v:=⟨_,hr3.2.cell 131 (by simp[hr3.1])⟩
   have uw:=hr3.2.frozen;clear hown hgrow hat hgr hblk hr3 dR hown' cI;go_wp2;refine fy (v:=.tuple #[]) (by simp[results,results155]) rfl ?_;have aJ:=af fq;exact⟨rfl,⟨_,aJ.1,aJ.2.1⟩,aJ.2.2.1,aJ.2.2.2⟩
 ·have c4:=ag (Bt (rE (af bA) s1) true);have ij:Hid (pw ((w.setCell ⟨mb,9,none⟩ (.int .i64 s1)).setCell ⟨mb,8,none⟩ (.bool true)) base (.slice va 0 vc) []):=jm (jm (af HO) hne _ _) hne _ _;go_upto_region 9 with fail
  go_region
  go_upto_region 10 with fail
  go_region_law (first|(refine step_append_lies _ rfl (.tmp 84) (.tmp 91) 81 rfl base 177 i0 (.agg #[.int .i64 0,.int .i64 0]) 2 16 y9 au hz0 hz1 hz2 rfl aC _ 0 [] rfl ((af ij).alloc _) _ 1 1 [.int .i64 1,.int .i64 aH] rfl rfl (y_ _ _ (by simp[World.setCell]) 1 aH _) (ze 1 aH) aC (by unfold maxLen;omega) ae (by simp[World.setCell];omega) (w.heap.size+1) (by simp[World.setCell]) ?_;intro g cap w3 hown hgrow hat hlt3;have cI:=gZ (af c4) ((hgrow.block mb (by simp[World.setCell];omega) hne).trans (bV _ _ _ (by simpa [World.setCell]using hlt)));have b5:=mD cI;have hf3:=kK cI))
  all_goals
   have hown':pw w3 base (.slice (some ⟨g,0,none⟩) 1 cap) [((1:Int),(aH:Int))]:=hown;have hgr:World.grownBy (((w.setCell ⟨mb,9,none⟩ (.int .i64 s1)).setCell ⟨mb,8,none⟩ (.bool true)).alloc (.cells #[.int .i64 1,.int .i64 aH] 177)) w3 (Value.slice va 0 vc).ownBlock:=⟨hgrow.os,hgrow.tape,hgrow.output,hgrow.size,hgrow.block⟩
   have hblk:∀i,i<w.heap.size->i≠mb->some i≠(Value.slice va 0 vc).ownBlock->w3.heap[i]? = w.heap[i]?:=fun i au h1 h2 =>
    ((hgr.block i (by simp[World.setCell];omega) h2).trans (bV _ _ _ (by simpa [World.setCell]using au))).trans ((bf _ _ _ _ h1).trans (bf _ _ _ _ h1))
   have hr3:eI w3 bb bs:=iH (af aT) (hblk bb (af aT).2.lt (fun e=>eH e.symm) uv);have dR:bh (fun i=>i≠mb/\i≠bb/\some i≠(Value.slice va 0 vc).ownBlock) w w3:=⟨hgr.os,hgr.tape,hgr.output,a_ (by simp[World.setCell]) hgr.size,fun i au hp=>hblk i au hp.1 hp.2.2⟩
   have fq:=ag (zf (n:=642) (c:=c) cI hown' hr3 dR fun i h=>⟨h.1,h.2.1⟩);have b0:=iT cI;obtain⟨v0,hrow⟩:∃v,w3.cell? ⟨bb,642,none⟩=some v:=⟨_,hr3.2.cell 642 (by simp[hr3.1])⟩
   have uw:=hr3.2.frozen;clear hown hgrow hat hgr hblk hr3 dR hown' cI;go_wp2;refine fy (v:=.tuple #[]) (by simp[results,results155]) rfl ?_;have aJ:=af fq;exact⟨rfl,⟨_,aJ.1,aJ.2.1⟩,aJ.2.2.1,aJ.2.2.2⟩
 ·have c4:=ag (Bt (rE (af bA) s1) true);have ij:Hid (pw ((w.setCell ⟨mb,9,none⟩ (.int .i64 s1)).setCell ⟨mb,8,none⟩ (.bool true)) base (.slice va 0 vc) []):=jm (jm (af HO) hne _ _) hne _ _;go_upto_region 9 with fail
  go_region
  go_upto_region 10 with fail
  go_region_law (first|(refine step_append_lies _ rfl (.tmp 84) (.tmp 91) 81 rfl base 177 i0 (.agg #[.int .i64 0,.int .i64 0]) 2 16 y9 au hz0 hz1 hz2 rfl aC _ 0 [] rfl ((af ij).alloc _) _ 1 1 [.int .i64 1,.int .i64 aH] rfl rfl (y_ _ _ (by simp[World.setCell]) 1 aH _) (ze 1 aH) aC (by unfold maxLen;omega) ae (by simp[World.setCell];omega) (w.heap.size+1) (by simp[World.setCell]) ?_;intro g cap w3 hown hgrow hat hlt3;have cI:=gZ (af c4) ((hgrow.block mb (by simp[World.setCell];omega) hne).trans (bV _ _ _ (by simpa [World.setCell]using hlt)));have b5:=mD cI;have hf3:=kK cI))
  all_goals
   have hown':pw w3 base (.slice (some ⟨g,0,none⟩) 1 cap) [((1:Int),(aH:Int))]:=hown;have hgr:World.grownBy (((w.setCell ⟨mb,9,none⟩ (.int .i64 s1)).setCell ⟨mb,8,none⟩ (.bool true)).alloc (.cells #[.int .i64 1,.int .i64 aH] 177)) w3 (Value.slice va 0 vc).ownBlock:=⟨hgrow.os,hgrow.tape,hgrow.output,hgrow.size,hgrow.block⟩
   have hblk:∀i,i<w.heap.size->i≠mb->some i≠(Value.slice va 0 vc).ownBlock->w3.heap[i]? = w.heap[i]?:=fun i au h1 h2 =>
    ((hgr.block i (by simp[World.setCell];omega) h2).trans (bV _ _ _ (by simpa [World.setCell]using au))).trans ((bf _ _ _ _ h1).trans (bf _ _ _ _ h1))
   have hr3:eI w3 bb bs:=iH (af aT) (hblk bb (af aT).2.lt (fun e=>eH e.symm) uv);have dR:bh (fun i=>i≠mb/\i≠bb/\some i≠(Value.slice va 0 vc).ownBlock) w w3:=⟨hgr.os,hgr.tape,hgr.output,a_ (by simp[World.setCell]) hgr.size,fun i au hp=>hblk i au hp.1 hp.2.2⟩
   have fq:=ag (zf (n:=643) (c:=c) cI hown' hr3 dR fun i h=>⟨h.1,h.2.1⟩);have b0:=iT cI;obtain⟨v0,hrow⟩:∃v,w3.cell? ⟨bb,643,none⟩=some v:=⟨_,hr3.2.cell 643 (by simp[hr3.1])⟩
   have uw:=hr3.2.frozen;clear hown hgrow hat hgr hblk hr3 dR hown' cI;go_wp2;refine fy (v:=.tuple #[]) (by simp[results,results155]) rfl ?_;have aJ:=af fq;exact⟨rfl,⟨_,aJ.1,aJ.2.1⟩,aJ.2.2.1,aJ.2.2.2⟩
end Go.Proofs.YtkkpahmoljiepaaGreatDoor
