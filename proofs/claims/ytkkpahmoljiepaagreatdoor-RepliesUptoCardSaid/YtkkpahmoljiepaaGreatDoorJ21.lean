import Derived.Test.YtkkpahmoljiepaaGreatDoorJ15
import Derived.Test.YtkkpahmoljiepaaGreatDoorJ19
set_option maxRecDepth 1000000
set_option maxHeartbeats 12800000
set_option linter.unusedSimpArgs false
set_option linter.unusedVariables false
namespace Go.Proofs.YtkkpahmoljiepaaGreatDoor
open Go.RowKit Go.Proofs.Tryz
theorem ai3(zv:Value)(m:ah)(i b c0 aC c2 c3:Int)(ok:Bool)(w:World)(hno:ok=false\/(ok=true/\(bits .and .i64 b 32768 != 0)=true))
  (hh:aB 70 #[ay m] w (bQ (.tuple #[.agg #[aj i,aj b,aj c0,aj aC,aj c2,aj c3],.bool ok]) w)) :
  aB 27 #[zv,ay m] w (bQ (.string ⟨#[]⟩) w):=by have yZ:=ag hh;clear hh;go_enter func27,ntmps27;go_wp2_with fail;refine yZ.mono ?_;rintro e w1 ⟨rfl,hb1⟩;have aX:=ag (hb1.alloc hb1.size (.cells #[.int .i64 i,.int .i64 b,.int .i64 c0,.int .i64 aC,.int .i64 c2,.int .i64 c3] 133));clear hb1 yZ;rcases hno with rfl|⟨rfl,oX⟩;{go_wp2;go_ret;exact⟨rfl,aX⟩};{go_wp2;go_ret;exact⟨rfl,aX⟩}
theorem aw2(zv:Value)(m:ah)(i b t:Nat)(c0 aC c2 c3:Int)(w:World)(ax:i<65536)(ht:t<65536)(oX:vw b 4=(t:Int))(h1:(bits .and .i64 b 32768 != 0)=false)(h2:(bits .and .i64 b 30720 != 0)=true)
  (hh:aB 70 #[ay m] w (bQ (.tuple #[.agg #[aj i,aj b,aj c0,aj aC,aj c2,aj c3],.bool true]) w)) :
  aB 27 #[zv,ay m] w (bQ (ay (ew (iu i t 0 0 0 0))) w):=by have yZ:=ag hh;have Nw:Hid (∀W,aB 71 #[.agg #[aj i,aj b,aj c0,aj aC,aj c2,aj c3],aj 4] W (bQ (ay (ew (iu i t 0 0 0 0))) W)):=fun W=>afR i b t 4 c0 aC c2 c3 W ax ht oX;clear hh oX;generalize aq (ew (iu i t 0 0 0 0))=out at *;go_enter func27,ntmps27;go_wp2_with fail;refine yZ.mono ?_;rintro e w1 ⟨rfl,hb1⟩;have hB:=hb1.alloc hb1.size (.cells #[.int .i64 i,.int .i64 b,.int .i64 c0,.int .i64 aC,.int .i64 c2,.int .i64 c3] 133);have aX:=ag hB;clear hb1 yZ hB;go_wp2_with fail;refine(Nw _).mono ?_;rintro e w2 ⟨rfl,hb2⟩;have bU:=ag (aX.trans (hb2.mono aX.size));clear hb2 Nw aX;go_wp2;go_ret;exact⟨rfl,bU⟩
theorem aw3(zv:Value)(m:ah)(i b t:Nat)(c0 aC c2 c3:Int)(w:World)(ax:i<65536)(ht:t<65536)(oX:vw b 1=(t:Int))(h1:(bits .and .i64 b 32768 != 0)=false)(h2:(bits .and .i64 b 30720 != 0)=false)
  (hh:aB 70 #[ay m] w (bQ (.tuple #[.agg #[aj i,aj b,aj c0,aj aC,aj c2,aj c3],.bool true]) w))
  (hq:∀W,aB 72 #[.agg #[aj i,aj b,aj c0,aj aC,aj c2,aj c3],ay m] W fun e w'=>(∃qv,X3 qv/\e=.returned (.tuple #[qv,.bool false]))/\au W w') :
  aB 27 #[zv,ay m] w (bQ (ay (ew (iu i t 0 0 0 0))) w):=by have yZ:=ag hh;have JJ:=ag hq;have Nw:Hid (∀W,aB 71 #[.agg #[aj i,aj b,aj c0,aj aC,aj c2,aj c3],aj 1] W (bQ (ay (ew (iu i t 0 0 0 0))) W)):=fun W=>afR i b t 1 c0 aC c2 c3 W ax ht oX;clear hh oX hq;generalize aq (ew (iu i t 0 0 0 0))=out at *;go_enter func27,ntmps27;go_wp2_with fail;refine yZ.mono ?_;rintro e w1 ⟨rfl,hb1⟩;have hB:=hb1.alloc hb1.size (.cells #[.int .i64 i,.int .i64 b,.int .i64 c0,.int .i64 aC,.int .i64 c2,.int .i64 c3] 133);have hN:ft (w1.alloc (.cells #[.int .i64 i,.int .i64 b,.int .i64 c0,.int .i64 aC,.int .i64 c2,.int .i64 c3] 133)) w1.heap.size [(i:Int),(b:Int),c0,aC,c2,c3] 133:=World.alloc_heap_new w1 _;have aX:=ag hB;have dm:=ag hN;clear hb1 yZ hB hN;go_wp2_with fail;refine(JJ _).mono ?_;rintro e w2 ⟨⟨_,⟨a0,a1,a2,a3,a4,a5,a8,a9,a11,a12,a6,a7,a10,rfl⟩,rfl⟩,hb2⟩;unfold eu;have sw:ft w2 w1.heap.size [(i:Int),(b:Int),c0,aC,c2,c3] 133:=(hb2.block _ dm.lt).trans dm;have hB2:=aX.trans (hb2.mono aX.size);have q0:=sw.cell 0 ar;have q1:=sw.cell 1 ar;have q2:=sw.cell 2 ar;have q3:=sw.cell 3 ar;have q4:=sw.cell 4 ar;have q5:=sw.cell 5 ar;simp only[lI,mV]at q0 q1 q2 q3 q4 q5;have hlt:=sw.lt;have hne:¬w1.heap.size=w2.heap.size:=ae;have nk:=ag (fun o=>hB2.alloc hB2.size o);clear hb2 JJ aX dm sw hB2;go_wp2_with fail;refine(Nw _).mono ?_;rintro e w3 ⟨rfl,hb3⟩;have cK:=ag ((nk _).trans (hb3.mono (nk _).size));clear hb3 Nw nk;go_wp2;go_ret;exact⟨rfl,cK⟩
def o8(n:Nat)(s:ah)(br:Bool):ah×Bool:=if n<=s.length then(s.drop n,br)else([],true)
theorem aw4(n:Nat)(s:ah)(br:Bool):(o8 n s br).1.length<=s.length:=by unfold o8;split <;> simp
theorem ai4(b n:Nat)(s:ah)(br:Bool)(w:World)(h:eO w b s br)(hn:n<=100000)(hl:s.length<=1000000000) :
  aB 148 #[aM b,aj n] w fun e w' =>
   (∃x,e=.returned (.string x))/\eO w' b (o8 n s br).1 (o8 n s br).2/\dF b w w'/\w'.heap.size=w.heap.size:=by unfold o8;split;{refine(Ul b n s br w h (by assumption) hl).mono ?_;rintro e w' ⟨rfl,h⟩;exact⟨⟨_,rfl⟩,h⟩};{refine(Um b n s br w h ae ae).mono ?_;rintro e w' ⟨rfl,h⟩;exact⟨⟨_,rfl⟩,h⟩}
section
variable {w:World} {b:Nat} {h0 h1 h2 h3 h4 h5:Int} {q n:ah} {k c:Int} {opt:Bool} {sz bM:Int}
theorem Ah(h:fu w b h0 h1 h2 h3 h4 h5 q n k c opt sz bM)(x:Int):fu (w.setCell ⟨b,11,none⟩ (.int .i64 x)) b h0 h1 h2 h3 h4 h5 q n k c opt x bM:=by unfold fu at *; simp only[World.setCell];rw[fw,aJ rfl,h];rfl
theorem Ai(h:fu w b h0 h1 h2 h3 h4 h5 q n k c opt sz bM)(x:Int):fu (w.setCell ⟨b,12,none⟩ (.int .i64 x)) b h0 h1 h2 h3 h4 h5 q n k c opt sz x:=by unfold fu at *; simp only[World.setCell];rw[fw,aJ rfl,h];rfl
end
theorem aw5(qb rb:Nat)(s0:ah)(b0:Bool)(w0:World){h0 h1 h2 h3 h4 h5:Int}{q n:ah}{k c:Int}{opt:Bool}{sz bM:Int}
  (hq:fu w0 qb h0 h1 h2 h3 h4 h5 q n k c opt sz bM) (hr:eO w0 rb s0 b0) (hne:qb≠rb) (hl:s0.length<=1000000000)
  {x1 k2 x4 z aU nn:Nat} {s1 s2 s3 s4 s5 s6 s7 s8:ah} {b1 b2 b3 b4 b5 b6 b7 b8:Bool} (e1:dx s0 b0=(x1,s1,b1)) (e2:dI s1 b1=(k2,s2,b2)) (e3:dI s2 b2=(z,s3,b3)) (e4:dx s3 b3=(x4,s4,b4)) (e5:dx s4 b4=(aU,s5,b5))
  (e6:o8 2 s5 b5=(s6,b6)) (e7:dI s6 b6=(nn,s7,b7)) (e8:o8 nn s7 b7=(s8,b8)) (jE:nn<=65535) :
  aB 134 #[aM qb,aM rb] w0 fun e w' =>
   e=.returned (.tuple #[])/\fu w' qb h0 h1 h2 h3 h4 h5 q n k c opt z aU/\eO w' rb s8 (b8 || !(x1 == 0 && k2 == 41))/\bn (fun i=>i≠qb/\i≠rb) w0 w':=by
 have l1:=zD s0 b0;have l2:=zX s1 b1;have l3:=zX s2 b2;have l4:=zD s3 b3;have l5:=zD s4 b4;have l6:=aw4 2 s5 b5;have Y3:=zX s6 b6;rw[e1]at l1;rw[e2]at l2;rw[e3]at l3;rw[e4]at l4;rw[e5]at l5;rw[e6]at l6;rw[e7]at Y3;simp only at l1 l2 l3 l4 l5 l6 Y3;have BK:=ag e1;have oq:=ag e2;have vq:=ag e3;have aw6:=ag e4;have aw7:=ag e5;have aw8:=ag e6;have aw9:=ag e7;have YO:=ag e8;have sU:=ag hq;have mf:=ag hr;have G5:=hq.lt;have MG:Hid (bn (fun i=>i≠qb/\i≠rb) w0 w0):=⟨rfl,rfl,rfl,bH _,fun _ _ _=>rfl⟩;clear hq hr e1 e2 e3 e4 e5 e6 e7 e8;have qL:=ag (Fo rb s0 b0 w0 (af mf) ae);rw[Hid,af BK]at qL;simp only at qL;go_enter func134,ntmps134;go_wp2_with fail;refine qL.mono ?_;rintro e w0' ⟨rfl,hr,hk,hz⟩;have nw:=ag hr;have zx:Hid (bn (fun i=>i≠qb/\i≠rb) w0 w0'):=MG.trans ((bn.wF hk).mono fun i _ h=>h.2);have kT:=ag (sU.kept (hk.block qb G5 hne));have agi:qb<w0'.heap.size:=ae;clear hr hk hz qL mf MG sU;have og:=ag (C3 rb s1 b1 w0' (af nw) ae);rw[Hid,af oq]at og;simp only at og;go_wp2_with fail;refine og.mono ?_;rintro e w1' ⟨rfl,hr,hk,hz⟩;have kP:=ag hr;have Ge:Hid (bn (fun i=>i≠qb/\i≠rb) w0 w1'):=zx.trans ((bn.wF hk).mono fun i _ h=>h.2);have ju:=ag (kT.kept (hk.block qb agi hne));have hlt2:qb<w1'.heap.size:=ae;clear hr hk hz og nw zx kT;have n_:=ag (C3 rb s2 b2 w1' (af kP) ae);rw[Hid,af vq]at n_;simp only at n_;go_wp2_with fail;refine n_.mono ?_;rintro e w2' ⟨rfl,hr,hk,hz⟩;have oV:=ag hr;have qj:Hid (bn (fun i=>i≠qb/\i≠rb) w0 w2'):=Ge.trans ((bn.wF hk).mono fun i _ h=>h.2);have kG:=ag (ju.kept (hk.block qb hlt2 hne));have hlt3:qb<w2'.heap.size:=ae;clear hr hk hz n_ kP Ge ju;have hfz:=kG.frozen;have hcl:=kG.cells;have dm:Hid (fu (w2'.setCell ⟨qb,11,none⟩ (.int .i64 z)) qb h0 h1 h2 h3 h4 h5 q n k c opt z bM/\eO (w2'.setCell ⟨qb,11,none⟩ (.int .i64 z)) rb s3 b3/\bn (fun i=>i≠qb/\i≠rb) w0 (w2'.setCell ⟨qb,11,none⟩ (.int .i64 z))/\qb<(w2'.setCell ⟨qb,11,none⟩ (.int .i64 z)).heap.size) := ⟨Ah (af kG) _,(cZ _ _ _ _ (Ht hne)).trans oV,qj.trans (bn.jD _ fun i h=>h.1),by simpa [World.setCell]using hlt3⟩;obtain⟨_,_,_,_,_,_,_,_,_,_,_,DM,DN⟩:=hcl;obtain⟨hQ,hR,hF,hlt3⟩:=af dm;clear kG oV qj dm;have kG:=ag hQ;have oV:=ag hR;have qj:=ag hF;clear hQ hR hF;have sM:=ag (Fo rb s3 b3 (w2'.setCell ⟨qb,11,none⟩ (.int .i64 z)) (af oV) ae);rw[Hid,af aw6]at sM;simp only at sM;go_wp2_with fail;refine sM.mono ?_;rintro e w3' ⟨rfl,hr,hk,hz⟩;have x8:=ag hr;have BJ:Hid (bn (fun i=>i≠qb/\i≠rb) w0 w3'):=qj.trans ((bn.wF hk).mono fun i _ h=>h.2);have ql:=ag (kG.kept (hk.block qb hlt3 hne));have aw_:qb<w3'.heap.size:=ae;clear hr hk hz sM oV qj kG;have tG:=ag (Fo rb s4 b4 w3' (af x8) ae);rw[Hid,af aw7]at tG;simp only at tG;go_wp2_with fail;refine tG.mono ?_;rintro e w4' ⟨rfl,hr,hk,hz⟩;have n9:=ag hr;have Gf:Hid (bn (fun i=>i≠qb/\i≠rb) w0 w4'):=BJ.trans ((bn.wF hk).mono fun i _ h=>h.2);have rp:=ag (ql.kept (hk.block qb aw_ hne));have Y4:qb<w4'.heap.size:=ae;clear hr hk hz tG x8 BJ ql;have hfz:=rp.frozen;have hcl:=rp.cells;have dm:Hid (fu (w4'.setCell ⟨qb,12,none⟩ (.int .i64 aU)) qb h0 h1 h2 h3 h4 h5 q n k c opt z aU/\eO (w4'.setCell ⟨qb,12,none⟩ (.int .i64 aU)) rb s5 b5/\bn (fun i=>i≠qb/\i≠rb) w0 (w4'.setCell ⟨qb,12,none⟩ (.int .i64 aU))/\qb<(w4'.setCell ⟨qb,12,none⟩ (.int .i64 aU)).heap.size) := ⟨Ai (af rp) _,(cZ _ _ _ _ (Ht hne)).trans n9,Gf.trans (bn.jD _ fun i h=>h.1),by simpa [World.setCell]using Y4⟩;obtain⟨_,_,_,_,_,_,_,_,_,_,_,DM,DN⟩:=hcl;obtain⟨hQ,hR,hF,Y4⟩:=af dm;clear rp n9 Gf dm;have rp:=ag hQ;have n9:=ag hR;have Gf:=ag hF;clear hQ hR hF;have xX:=ag (ai4 rb 2 s5 b5 (w4'.setCell ⟨qb,12,none⟩ (.int .i64 aU)) (af n9) ae ae);rw[Hid,af aw8]at xX;simp only at xX;go_wp2_with fail;refine xX.mono ?_;rintro e Y5 ⟨⟨_,rfl⟩,hr,hk,hz⟩;have ai5:=ag hr;have ai6:Hid (bn (fun i=>i≠qb/\i≠rb) w0 Y5):=Gf.trans ((bn.wF hk).mono fun i _ h=>h.2);have Md:=ag (rp.kept (hk.block qb Y4 hne));have Vv:qb<Y5.heap.size:=ae;clear hr hk hz xX n9 Gf rp;have GG:=ag (C3 rb s6 b6 Y5 (af ai5) ae);rw[Hid,af aw9]at GG;simp only at GG;go_wp2_with fail;refine GG.mono ?_;rintro e w6' ⟨rfl,hr,hk,hz⟩;have z8:=ag hr;have ai7:Hid (bn (fun i=>i≠qb/\i≠rb) w0 w6'):=ai6.trans ((bn.wF hk).mono fun i _ h=>h.2);have QM:=ag (Md.kept (hk.block qb Vv hne));have axa:qb<w6'.heap.size:=ae;clear hr hk hz GG ai5 ai6 Md;have GI:=ag (ai4 rb nn s7 b7 w6' (af z8) ae ae);rw[Hid,af YO]at GI;simp only at GI;go_wp2_with fail;refine GI.mono ?_;rintro e Nx ⟨⟨_,rfl⟩,hr,hk,hz⟩;have IZ:=ag hr;have JE:Hid (bn (fun i=>i≠qb/\i≠rb) w0 Nx):=ai7.trans ((bn.wF hk).mono fun i _ h=>h.2);have ai8:=ag (QM.kept (hk.block qb axa hne));have aB4:qb<Nx.heap.size:=ae;clear hr hk hz GI z8 ai7 QM;have aB5:=IZ.frozen;have qy:=IZ.cells;have ly:Hid (fu (Nx.setCell ⟨rb,1,none⟩ (.bool true)) qb h0 h1 h2 h3 h4 h5 q n k c opt z aU/\eO (Nx.setCell ⟨rb,1,none⟩ (.bool true)) rb s8 true/\bn (fun i=>i≠qb/\i≠rb) w0 (Nx.setCell ⟨rb,1,none⟩ (.bool true))) := ⟨ai8.kept (cZ _ _ _ _ hne),IZ.set1 _,JE.trans (bn.jD _ fun i h=>h.2)⟩;by_cases q1:x1=0;{
 subst q1;by_cases q2:k2=41;{subst q2;go_wp2_with fail;refine pO (v:=.tuple #[]) (by simp[results,results134]) rfl ?_;exact⟨rfl,ai8,by simpa using af IZ,JE⟩};{
 have axb:((k2:Int) != 41)=true:=aP;have q3:(b8 || !((0:Nat) == 0 && k2 == 41))=true:=by simp[q2]
 go_wp2_with fail;refine pO (v:=.tuple #[]) (by simp[results,results134]) rfl ?_;exact⟨rfl,ly.1,by rw[q3];exact ly.2.1,ly.2.2⟩}};{
 have axb:((x1:Int) != 0)=true:=aP;have q3:(b8 || !(x1 == 0 && k2 == 41))=true:=by simp[q1]
 go_wp2_with fail;refine pO (v:=.tuple #[]) (by simp[results,results134]) rfl ?_;exact⟨rfl,ly.1,by rw[q3];exact ly.2.1,ly.2.2⟩}
theorem axc(W:World):(Op.equalIn 10000 131 (.agg #[aj 1,aj 0,aj 0,aj 1]) (.agg #[aj 1,aj 0,aj 0,aj 0])).run prog W=.ok false W:=aI
theorem axd(W:World):(Op.equalIn 10000 131 (.agg #[aj 1,aj 0,aj 0,aj 1]) (.agg #[aj 1,aj 0,aj 0,aj 1])).run prog W=.ok true W:=aI
def JK(w:World)(id bits:Int)(s:ah):World :=
 (((w.alloc (.cells #[.int .i64 id,.int .i64 bits,.int .i64 1,.int .i64 0,.int .i64 0,.int .i64 1] 133)).alloc
   (.cells #[.int .i64 0,.int .i64 0,.int .i64 0,.int .i64 0,.int .i64 0,.int .i64 0,.string ⟨#[]⟩,.string ⟨#[]⟩,.int .i64 0,.int .i64 0,.bool false,.int .i64 0,.int .i64 0] 137)).alloc
   (.cells #[.int .i64 id,.int .i64 bits,.int .i64 1,.int .i64 0,.int .i64 0,.int .i64 1,.string ⟨#[]⟩,.string ⟨#[]⟩,.int .i64 0,.int .i64 0,.bool true,.int .i64 0,.int .i64 0] 137)).alloc
   (.cells #[.string (aq s),.bool false] 215)
theorem axe(w:World)(id bits:Int)(s:ah):fu (JK w id bits s) (w.heap.size+1+1) id bits 1 0 0 1 [] [] 0 0 true 0 0/\fu (JK w id bits s) (w.heap.size+1) 0 0 0 0 0 0 [] [] 0 0 false 0 0/\eO (JK w id bits s) (w.heap.size+1+1+1) s false/\au w (JK w id bits s):=by refine⟨?_,?_,?_,?_⟩;{refine(cD _ _ _ ar).trans ?_;have:=World.alloc_heap_new ((w.alloc (.cells #[.int .i64 id,.int .i64 bits,.int .i64 1,.int .i64 0,.int .i64 0,.int .i64 1] 133)).alloc (.cells #[.int .i64 0,.int .i64 0,.int .i64 0,.int .i64 0,.int .i64 0,.int .i64 0,.string ⟨#[]⟩,.string ⟨#[]⟩,.int .i64 0,.int .i64 0,.bool false,.int .i64 0,.int .i64 0] 137)) (.cells #[.int .i64 id,.int .i64 bits,.int .i64 1,.int .i64 0,.int .i64 0,.int .i64 1,.string ⟨#[]⟩,.string ⟨#[]⟩,.int .i64 0,.int .i64 0,.bool true,.int .i64 0,.int .i64 0] 137);simpa [aq]using this};{refine(cD _ _ _ ar).trans ((cD _ _ _ ar).trans ?_);have:=World.alloc_heap_new (w.alloc (.cells #[.int .i64 id,.int .i64 bits,.int .i64 1,.int .i64 0,.int .i64 0,.int .i64 1] 133)) (.cells #[.int .i64 0,.int .i64 0,.int .i64 0,.int .i64 0,.int .i64 0,.int .i64 0,.string ⟨#[]⟩,.string ⟨#[]⟩,.int .i64 0,.int .i64 0,.bool false,.int .i64 0,.int .i64 0] 137);simpa [aq]using this};{have:=World.alloc_heap_new (((w.alloc (.cells #[.int .i64 id,.int .i64 bits,.int .i64 1,.int .i64 0,.int .i64 0,.int .i64 1] 133)).alloc (.cells #[.int .i64 0,.int .i64 0,.int .i64 0,.int .i64 0,.int .i64 0,.int .i64 0,.string ⟨#[]⟩,.string ⟨#[]⟩,.int .i64 0,.int .i64 0,.bool false,.int .i64 0,.int .i64 0] 137)).alloc (.cells #[.int .i64 id,.int .i64 bits,.int .i64 1,.int .i64 0,.int .i64 0,.int .i64 1,.string ⟨#[]⟩,.string ⟨#[]⟩,.int .i64 0,.int .i64 0,.bool true,.int .i64 0,.int .i64 0] 137)) (.cells #[.string (aq s),.bool false] 215);simpa [eO,JK]using this};{exact(((aO.alloc aA _).alloc ar _).alloc aP _).alloc aP _}
theorem Y6(id bits:Int)(m:ah)(w:World)(hm:12<=m.length)(hl:m.length<=1000000000)
  {ls:List ah} {k' c':Nat} {s1 s2 s3:ah} {qi sL mO:Bool} (e1:tJ (m.drop 12) false=(ls,s1,qi)) (e2:dI s1 qi=(k',s2,sL)) (e3:dI s2 sL=(c',s3,mO))
  {x1 k2 x4 z aU nn:Nat} {t1 t2 t3 t4 t5 t6 t7 t8:ah} {b1 b2 b3 b4 b5 b6 b7 b8:Bool} (f1:dx s3 mO=(x1,t1,b1)) (f2:dI t1 b1=(k2,t2,b2)) (f3:dI t2 b2=(z,t3,b3)) (f4:dx t3 b3=(x4,t4,b4)) (f5:dx t4 b4=(aU,t5,b5))
  (f6:o8 2 t5 b5=(t6,b6)) (f7:dI t6 b6=(nn,t7,b7)) (f8:o8 nn t7 b7=(t8,b8)) (jE:nn<=65535) {bb:Bool} (nY:(b8 || !(x1 == 0 && k2 == 41))=bb) :
  aB 72 #[.agg #[aj id,aj bits,aj 1,aj 0,aj 0,aj 1],.string (aq m)] w fun e w' =>
   e=.returned (.tuple #[eu id bits 1 0 0 1 ((m.drop 12).take ((m.drop 12).length - s3.length)) (bh ls) k' c' true z aU,.bool (!bb && t8.isEmpty)])/\au w w':=by
 have hs:(aq m).size=m.length:=bJ m;have HD:=ag (OO m 12 _ rfl);have agZ:∀W:World,(Op.equalIn 10000 131 (.agg #[aj 1,aj 0,aj 0,aj 1]) (.agg #[aj 1,aj 0,aj 0,aj 0])).run prog W=.ok false W:=axc;have kq:∀W:World,(Op.equalIn 10000 131 (.agg #[aj 1,aj 0,aj 0,aj 1]) (.agg #[aj 1,aj 0,aj 0,aj 1])).run prog W=.ok true W:=axd;have ai9:=ag (fun(W:World) (n':ah) (q':ah) (hq:fu W (w.heap.size+1+1) id bits 1 0 0 1 q' n' k' c' true 0 0) (hr:eO W (w.heap.size+1+1+1) s3 mO) (hl:s3.length<=1000000000)=>aw5 (w.heap.size+1+1) (w.heap.size+1+1+1) s3 mO W hq hr ae hl f1 f2 f3 f4 f5 f6 f7 f8 jE);have hl3:s3.length<=1000000000:=by{have a1:=(aeG (m.drop 12) false);rw[e1]at a1;have a2:=zX s1 qi;rw[e2]at a2;have a3:=zX s2 sL;rw[e3]at a3;obtain⟨o1,o2,o3⟩:=a1;simp only[fM]at o1 o2 o3 a2 a3;omega};clear f1 f2 f3 f4 f5 f6 f7 f8 jE;have BK:=ag e1;have oq:=ag e2;have vq:=ag e3;clear e1 e2 e3;obtain⟨Gg,DL,tS,hb0⟩:=axe w id bits (m.drop 12);have HC:=ag (aeH (w.heap.size+1+1) (w.heap.size+1+1+1) (m.drop 12) false (JK w id bits (m.drop 12)) Gg tS ae aP (af BK) (af oq) (af vq));have zY:=ag DL;have gN:=ag hb0;clear Gg DL tS hb0;go_enter func72,ntmps72;go_wp2_with fail;rw[af HD];refine HC.mono ?_;rintro e w1 ⟨rfl,vv,hr1,jH⟩;have kg:=ag (zY.kept (jH.block _ zY.lt ⟨ae,ae⟩));have bZ:Hid (au w w1):=gN.trans (jH.below (fun i ax=>⟨ae,ae⟩) gN.size);have kT:=ag vv;have nw:=ag hr1;have n_:=ag (ai9 w1 _ _ vv hr1 hl3);obtain⟨_,_,_,_,_,_,_,_,_,_,zU,_,_⟩:=vv.cells;clear vv hr1 jH HC zY gN kq agZ ai9;go_wp2_with fail;refine n_.mono ?_;rintro e w2 ⟨rfl,vv,hr1,jH⟩;rw[nY]at hr1;have kg:=ag (kg.kept (jH.block _ kg.lt ⟨ae,ae⟩));have bZ:Hid (au w w2):=bZ.trans (jH.below (fun i ax=>⟨ae,ae⟩) bZ.size);have kT:=ag vv;have nw:=ag hr1;clear vv hr1 jH n_ zU hl3;generalize LV:(m.drop 12).take ((m.drop 12).length - s3.length)=q at *;generalize f_:bh ls=nm at *;have LW:=ag LV;have jG:=ag f_;clear LV f_;obtain⟨c0,aC,c2,c3,aV,gh,jF,c7,oU,c9,zU,DM,DN⟩:=kT.cells;obtain⟨gu,d1,d2,d3,d4,d5,d6,d7,d8,d9,d10,d11,d12⟩:=kg.cells;have hfz:=kg.frozen;obtain⟨r0,r1⟩:=nw.cells;go_wp2_with fail;clear BK oq vq HD hm hl hs kT nw kg;have ret:∀b:Bool,(!bb && t8.isEmpty)=b->Ending.returned (.tuple #[eu id bits 1 0 0 1 q nm k' c' true z aU,.bool b])=.returned (.tuple #[eu id bits 1 0 0 1 ((m.drop 12).take ((m.drop 12).length - s3.length)) (bh ls) k' c' true z aU,.bool (!bb && t8.isEmpty)]):=fun b hb=>by{rw[af LW,af jG,hb]};have Gh:=ag ret;clear ret LW jG;have aL:=ag fun(W:World) (hW:au w W) (o:Nat) (v:Value)=>hW.setCell (p:=⟨w.heap.size+1,o,none⟩) (by show w.heap.size<=w.heap.size+1;omega) v;clear nY;cases bb;{
 cases t8 with
 | nil =>{have e1:aq []=⟨#[]⟩:=rfl;rw[e1]at r0;go_region;all_goals(go_wp2;refine fB (v:=.tuple #[eu id bits 1 0 0 1 q nm k' c' true z aU,.bool true]) (by simp[results,results72,go_sem,eu,gu,d1,d2,d3,d4,d5,d6,d7,d8,d9,d10,d11,d12]) rfl ⟨af Gh true rfl,?_⟩;first|exact(aL _ (aL _ (aL _ (aL _ (aL _ (aL _ (aL _ (aL _ (aL _ (aL _ (aL _ (aL _ (aL _ bZ _ _) _ _) _ _) _ _) _ _) _ _) _ _) _ _) _ _) _ _) _ _) _ _) _ _).drew|exact(aL _ (aL _ (aL _ (aL _ (aL _ (aL _ (aL _ (aL _ (aL _ (aL _ (aL _ (aL _ (aL _ bZ.drew _ _) _ _) _ _) _ _) _ _) _ _) _ _) _ _) _ _) _ _) _ _) _ _) _ _))}
 | cons x t =>{
 have e1:((aq (x :: t)).toList == (⟨#[]⟩:ByteArray).toList)=false:=by rw[HA];rfl
 have e2:(aq (x :: t)).toList.isEmpty=false:=by rw[nQ];rfl
 have e3:¬(aq (x :: t)).size=0:=by rw[bJ];simp
 generalize aq (x :: t)=bt at *;go_region;all_goals(go_wp2;refine fB (v:=.tuple #[eu id bits 1 0 0 1 q nm k' c' true z aU,.bool false]) (by simp[results,results72,go_sem,eu,gu,d1,d2,d3,d4,d5,d6,d7,d8,d9,d10,d11,d12]) rfl ⟨af Gh false rfl,?_⟩;first|exact(aL _ (aL _ (aL _ (aL _ (aL _ (aL _ (aL _ (aL _ (aL _ (aL _ (aL _ (aL _ (aL _ bZ _ _) _ _) _ _) _ _) _ _) _ _) _ _) _ _) _ _) _ _) _ _) _ _) _ _).drew|exact(aL _ (aL _ (aL _ (aL _ (aL _ (aL _ (aL _ (aL _ (aL _ (aL _ (aL _ (aL _ (aL _ bZ.drew _ _) _ _) _ _) _ _) _ _) _ _) _ _) _ _) _ _) _ _) _ _) _ _) _ _))}};{go_region;all_goals(go_wp2;refine fB (v:=.tuple #[eu id bits 1 0 0 1 q nm k' c' true z aU,.bool false]) (by simp[results,results72,go_sem,eu,gu,d1,d2,d3,d4,d5,d6,d7,d8,d9,d10,d11,d12]) rfl ⟨af Gh false rfl,?_⟩;first|exact(aL _ (aL _ (aL _ (aL _ (aL _ (aL _ (aL _ (aL _ (aL _ (aL _ (aL _ (aL _ (aL _ bZ _ _) _ _) _ _) _ _) _ _) _ _) _ _) _ _) _ _) _ _) _ _) _ _) _ _).drew|exact(aL _ (aL _ (aL _ (aL _ (aL _ (aL _ (aL _ (aL _ (aL _ (aL _ (aL _ (aL _ (aL _ bZ.drew _ _) _ _) _ _) _ _) _ _) _ _) _ _) _ _) _ _) _ _) _ _) _ _) _ _))}
theorem Y7(s:ah):(dx s true).2.2=true:=by cases s <;> rfl
theorem ai_(s:ah):(dI s true).2.2=true:=by unfold dI;show(dx (dx s true).2.1 (dx s true).2.2).2.2=true;rw[Y7,Y7]
theorem Ny{s:ah}{br:Bool}(h:(dx s br).2.2=false):br=false/\∃c s',s=c :: s':=by
 cases s with
 | nil=>cases h
 | cons c s=>exact⟨h,c,s,rfl⟩
theorem JL{s:ah}{br:Bool}(h:(dI s br).2.2=false):br=false/\∃a b s',s=a :: b :: s':=by have h':(dx (dx s br).2.1 (dx s br).2.2).2.2=false:=h;obtain⟨h1,b,s2,e2⟩:=Ny h';obtain⟨h3,a,s1,e1⟩:=Ny h1;subst e1;have e2':s1=b :: s2:=e2;subst e2';exact⟨h3,a,b,s2,rfl⟩
theorem aja{n:Nat}{s:ah}{br:Bool}(h:(o8 n s br).2=false):br=false/\n<=s.length:=by unfold o8 at h;split at h;{exact⟨h,‹_›⟩};{cases h}
theorem Y8{s t:ah}{br:Bool}{x:Nat}(h:dx s br=(x,t,false)):br=false/\s.length=t.length+1:=by
 cases s with
 | nil=>cases h
 | cons c s =>{obtain⟨rfl,h'⟩:=iA h;obtain⟨rfl,rfl⟩:=iA h';exact⟨rfl,rfl⟩}
theorem Y9{s t:ah}{br:Bool}{x:Nat}(h:dI s br=(x,t,false)):br=false/\s.length=t.length+2:=by obtain⟨h1,a,b,s',rfl⟩:=JL (s:=s) (br:=br) (by rw[h]);obtain⟨_,h'⟩:=iA h;obtain⟨rfl,_⟩:=iA h';exact⟨h1,rfl⟩
theorem Y_{n:Nat}{s t:ah}{br:Bool}(h:o8 n s br=(t,false)):br=false/\s.length=t.length+n:=by unfold o8 at h;split at h;{obtain⟨rfl,rfl⟩:=iA h;exact⟨rfl,by rw[fM];omega⟩};{cases(iA h).2}
theorem Hi(a b:UInt8)(s:ah)(br:Bool):dI (a :: b :: s) br=(a.toNat*256+b.toNat,s,br):=rfl
theorem Za(a:UInt8)(s:ah)(br:Bool):dx (a :: s) br=(a.toNat,s,br):=rfl
theorem Nz(a b:UInt8)(s:ah):bp (a :: b :: s) 0=a.toNat*256+b.toNat:=by simp[bp];omega
theorem Zb:∀(f n:Nat) (s:ah) (size:Nat) (acc:List ah),(nu f n s true size acc).2.2=true
 | 0,n,s,size,acc=>rfl
 | f+1,n,s,size,acc=>by
  unfold nu;split;{rfl};{
  split;{rfl};{
  have h1:(fY s true n).2.2=true:=by unfold fY;split <;> rfl
  rw[h1,Y7];exact Zb f _ _ _ _}}
theorem Zc:∀ {f:Nat} {s:ah} {acc ls:List ah} {t:ah},lW f s acc=some (ls,t)->t.length+1<=s.length
 | 0,_,_,_,_,h=>by cases h
 | f+1,[],_,_,_,h=>by cases h
 | f+1,c :: s,acc,ls,t,h=>by unfold lW at h;split at h;{have:=fq h;have e:s=t:=(iA this).2;rw[e];simp};{split at h;{cases h};{have:=Zc h;rw[fM]at this;rw[bP];omega}}
theorem ajb:∀(f2:Nat) (c:UInt8) (s:ah) (f size:Nat) (acc:List ah),s.length+1<f2->257<=f+size->size<=255 ->
  (∃ls t,lW f2 (c :: s) acc=some (ls,t)/\t.length<=s.length/\size+(s.length - t.length)<=255/\nu f c.toNat s false size acc=(ls,t,false)) \/
  ((∀ls t,lW f2 (c :: s) acc=some (ls,t)->t.length<=s.length/\255<size+(s.length - t.length))/\(nu f c.toNat s false size acc).2.2=true)
 | 0,c,s,f,size,acc,h0,_,_=>absurd h0 ae
 | f2+1,c,s,f,size,acc,h0,h1,h2=>by
  obtain⟨f,rfl⟩:∃g,f=g+1:=⟨f - 1,ae⟩;by_cases hc:c=0;{subst hc;refine .inl ⟨acc,s,?_,bH _,ae,?_⟩;{unfold lW;rw[aJ rfl]};{unfold nu;rw[aJ (show UInt8.toNat 0=0 from rfl)]}};{
  have uI:c.toNat≠0:=fun h=>hc (Hw h);have hq:lW (f2+1) (c :: s) acc=if 63<c.toNat\/s.length<c.toNat then none else lW f2 (s.drop c.toNat) (acc++[s.take c.toNat]):=by{
  conv=>lhs;unfold lW
  rw[aF hc]}
  have hg:nu (f+1) c.toNat s false size acc=if 63<c.toNat\/255<size+1+c.toNat then([],s,true)else nu f (dx (fY s false c.toNat).2.1 (fY s false c.toNat).2.2).1 (dx (fY s false c.toNat).2.1 (fY s false c.toNat).2.2).2.1 (dx (fY s false c.toNat).2.1 (fY s false c.toNat).2.2).2.2 (size+1+c.toNat) (acc++[(fY s false c.toNat).1]):=by{
  conv=>lhs;unfold nu
  rw[aF uI]}
  rw[hq,hg];by_cases h63:63<c.toNat;{rw[aJ (.inl h63),aJ (.inl h63)];exact .inr ⟨fun ls t h=>(by cases h),rfl⟩};by_cases Cn:s.length<c.toNat;{
  rw[aJ (.inr Cn)];refine .inr ⟨fun ls t h=>(by cases h),?_⟩;by_cases hb:255<size+1+c.toNat;{rw[aJ (.inr hb)]};{
  rw[aF ae];have ht:fY s false c.toNat=([],[],true):=by unfold fY;rw[aF ae]
  rw[ht];exact Zb _ _ _ _ _}};rw[aF ae];have ht:fY s false c.toNat=(s.take c.toNat,s.drop c.toNat,false):=by unfold fY;rw[aJ ae]
  cases hd:s.drop c.toNat with
  | nil =>{
  have hf2:lW f2 [] (acc++[s.take c.toNat])=none:=by cases f2 <;> rfl
  rw[hf2];refine .inr ⟨fun ls t h=>(by cases h),?_⟩;by_cases hb:255<size+1+c.toNat;{rw[aJ (.inr hb)]};{rw[aF ae,ht,hd];exact Zb _ _ _ _ _}}
  | cons d s' =>{have hl:s'.length+1=s.length - c.toNat:=by{have:=dE List.length hd;rw[fM,bP]at this;omega};by_cases hb:255<size+1+c.toNat;{rw[aJ (.inr hb)];refine .inr ⟨fun ls t h=>?_,rfl⟩;have:=Zc h;rw[bP]at this;omega};{rw[aF ae,ht,hd];have ih:=ajb f2 d s' f (size+1+c.toNat) (acc++[s.take c.toNat]) ae ae ae;rcases ih with⟨ls,t,e1,e2,e3,e4⟩|⟨e1,e2⟩;{exact .inl ⟨ls,t,e1,ae,ae,e4⟩};{exact .inr ⟨fun ls t h=>by have:=e1 ls t h;omega,e2⟩}}}}
theorem axf(R:ah)(F:Nat)(hF:R.length<F):(∃ls t,lW F R []=some (ls,t)/\t.length+1<=R.length/\R.length - t.length<=255/\tJ R false=(ls,t,false)) \/
  ((∀ls t,lW F R []=some (ls,t)->255<R.length - t.length)/\(tJ R false).2.2=true):=by
 cases R with
 | nil=>exact .inr ⟨fun ls t h=>(by cases F <;> cases h),rfl⟩
 | cons c s =>{rw[bP]at hF;rcases ajb F c s 256 1 [] ae ae ae with⟨ls,t,e1,e2,e3,e4⟩|⟨e1,e2⟩;{exact .inl ⟨ls,t,e1,by rw[bP];omega,by rw[bP];omega,e4⟩};{exact .inr ⟨fun ls t h=>by have:=e1 ls t h;rw[bP];omega,e2⟩}}
theorem axg{t:ah}(h:4<=t.length):∃a b c d s,t=a :: b :: c :: d :: s:=by
 match t,h with
 | a :: b :: c :: d :: s,_=>exact⟨a,b,c,d,s,rfl⟩
theorem axh{t:ah}(h:11<=t.length):∃a b c d e f g i j k l s,t=a :: b :: c :: d :: e :: f :: g :: i :: j :: k :: l :: s:=by
 match t,h with
 | a :: b :: c :: d :: e :: f :: g :: i :: j :: k :: l :: s,_=>exact⟨a,b,c,d,e,f,g,i,j,k,l,s,rfl⟩
def Hj(m:ah)(id bits:Int)(e:Ending):Prop:=match fo m with
 | none=>∃qv,X3 qv/\e=.returned (.tuple #[qv,.bool false])
 | some (q,ls,t,c,o,z,v)=>e=.returned (.tuple #[eu id bits 1 0 0 (if o=true then 1 else 0) q (bh ls) t c o z v,.bool true])
theorem EF{m:ah}{id bits:Int}{qv:Value}{b:Bool}(h:fo m=none)(hb:b=false)(hq:X3 qv:=by exact⟨_,_,_,_,_,_,_,_,_,_,_,_,_,rfl⟩):Hj m id bits (.returned (.tuple #[qv,.bool b])):=by unfold Hj;rw[h,hb];exact⟨qv,hq,rfl⟩
theorem axi(m:ah)(id bits:Int)(w:World)(hm:12<=m.length)(hl:m.length<=1000000000) :
  aB 72 #[.agg #[aj id,aj bits,aj (bp m 4),aj (bp m 6),aj (bp m 8),aj (bp m 10)],ay m] w fun e w'=>Hj m id bits e/\au w w':=by
 by_cases hc:bp m 4=1/\bp m 6=0/\bp m 8=0/\(bp m 10=0\/bp m 10=1)
 case neg =>
  refine(auI id bits _ _ _ _ m w ae).mono ?_;rintro e w' ⟨rfl,hb⟩;exact⟨EF (by unfold fo;rw[aJ ae]) rfl,hb⟩
 obtain⟨h4,h6,h8,h10⟩:=hc;have hq:fo m=match lW (m.length+1) (m.drop 12) []with
  | none=>none
  | some (ls,t) =>
   if 255<m.length - t.length - 12\/t.length<4 then none
   else if bp m 10=0 then(if t.length=4 then some ((m.drop 12).take (m.length - t.length+4 - 12),ls,bp t 0,bp t 2,false,0,0)else none)
   else if t.length<15\/t.getD 4 0≠0\/bp t 5≠41\/15+bp t 13≠t.length then none
   else some ((m.drop 12).take (m.length - t.length+4 - 12),ls,bp t 0,bp t 2,true,bp t 7,(t.getD 10 0).toNat):=by
  unfold fo;rw[aF ae];rfl
 have hR:(m.drop 12).length=m.length - 12:=fM;rw[h4,h6,h8];obtain⟨⟨ls,s1,qi⟩,e1⟩:∃x,tJ (m.drop 12) false=x:=⟨_,rfl⟩
 obtain⟨⟨k',s2,sL⟩,e2⟩:∃x,dI s1 qi=x:=⟨_,rfl⟩
 obtain⟨⟨c',s3,mO⟩,e3⟩:∃x,dI s2 sL=x:=⟨_,rfl⟩
 obtain⟨⟨x1,t1,b1⟩,f1⟩:∃x,dx s3 mO=x:=⟨_,rfl⟩
 obtain⟨⟨k2,t2,b2⟩,f2⟩:∃x,dI t1 b1=x:=⟨_,rfl⟩
 obtain⟨⟨z,t3,b3⟩,f3⟩:∃x,dI t2 b2=x:=⟨_,rfl⟩
 obtain⟨⟨x4,t4,b4⟩,f4⟩:∃x,dx t3 b3=x:=⟨_,rfl⟩
 obtain⟨⟨aU,t5,b5⟩,f5⟩:∃x,dx t4 b4=x:=⟨_,rfl⟩
 obtain⟨⟨t6,b6⟩,f6⟩:∃x,o8 2 t5 b5=x:=⟨_,rfl⟩
 obtain⟨⟨nn,t7,b7⟩,f7⟩:∃x,dI t6 b6=x:=⟨_,rfl⟩
 obtain⟨⟨t8,b8⟩,f8⟩:∃x,o8 nn t7 b7=x:=⟨_,rfl⟩
 have jE:nn<=65535:=by have:=aq1 t6 b6;rw[f7]at this;exact Nat.le_of_lt_succ this
 have i2:sL=false->qi=false/\∃a b s',s1=a :: b :: s':=fun h=>JL (by rw[e2];exact h);have i3:mO=false->sL=false/\∃a b s',s2=a :: b :: s':=fun h=>JL (by rw[e3];exact h);have j1:b1=false->mO=false/\∃c s',s3=c :: s':=fun h=>Ny (by rw[f1];exact h);have j2:b2=false->b1=false/\∃a b s',t1=a :: b :: s':=fun h=>JL (by rw[f2];exact h);have j3:b3=false->b2=false/\∃a b s',t2=a :: b :: s':=fun h=>JL (by rw[f3];exact h);have j4:b4=false->b3=false/\∃c s',t3=c :: s':=fun h=>Ny (by rw[f4];exact h);have j5:b5=false->b4=false/\∃c s',t4=c :: s':=fun h=>Ny (by rw[f5];exact h);have j6:b6=false->b5=false/\2<=t5.length:=fun h=>aja (by rw[f6];exact h);have j7:b7=false->b6=false/\∃a b s',t6=a :: b :: s':=fun h=>JL (by rw[f7];exact h);have j8:b8=false->b7=false/\nn<=t7.length:=fun h=>aja (by rw[f8];exact h);rcases axf (m.drop 12) (m.length+1) (by rw[hR];omega)with⟨ls',t,q1,q2,q3,q4⟩|⟨q1,q2⟩
 case inr =>
  have hno:fo m=none:=by
   rw[hq];cases hL:lW (m.length+1) (m.drop 12) []with
   | none=>rfl
   | some x =>
    obtain⟨ls',t⟩:=x;have:=q1 ls' t hL;have:=Zc hL;show(if _ then none else _)=none;rw[aJ (.inl ae)]
  rw[e1]at q2;have hb1:qi=true:=q2;have hb3:mO≠false:=fun h=>by have:=(i2 (i3 h).1).1;rw[hb1]at this;cases this
  have ve:b8≠false:=fun h=>hb3 (j1 (j2 (j3 (j4 (j5 (j6 (j7 (j8 h).1).1).1).1).1).1).1).1;rcases h10 with h10|h10
  ·rw[h10];refine(Wp id bits m w hm hl e1 e2 e3).mono ?_;rintro e w' ⟨rfl,hb⟩;exact⟨EF hno (by cases mO;exact absurd rfl hb3;rfl),hb⟩
  ·rw[h10];refine(Y6 id bits m w hm hl e1 e2 e3 f1 f2 f3 f4 f5 f6 f7 f8 jE rfl).mono ?_;rintro e w' ⟨rfl,hb⟩;exact⟨EF hno (by cases b8;exact absurd rfl ve;rfl),hb⟩
 rw[e1]at q4;obtain⟨u1,Vz⟩:=iA q4;obtain⟨u2,u3⟩:=iA Vz;have axj:=u2.symm;subst u1 axj u3;rw[q1]at hq;by_cases Sd:t.length<4
 case pos =>
  have hno:fo m=none:=by
   rw[hq];show(if _ then none else _)=none;rw[aJ (.inr Sd)]
  have hb3:mO≠false:=fun h=>by
   obtain⟨h2,a,b,s',e⟩:=i3 h;obtain⟨_,a',b',s'',e'⟩:=i2 h2;rw[e']at e2 Sd;rw[Hi]at e2;have:s''=s2:=(iA (iA e2).2).1;rw[this,e]at Sd;simp at Sd;omega
  have ve:b8≠false:=fun h=>hb3 (j1 (j2 (j3 (j4 (j5 (j6 (j7 (j8 h).1).1).1).1).1).1).1).1;rcases h10 with h10|h10
  ·rw[h10];refine(Wp id bits m w hm hl e1 e2 e3).mono ?_;rintro e w' ⟨rfl,hb⟩;exact⟨EF hno (by cases mO;exact absurd rfl hb3;rfl),hb⟩
  ·rw[h10];refine(Y6 id bits m w hm hl e1 e2 e3 f1 f2 f3 f4 f5 f6 f7 f8 jE rfl).mono ?_;rintro e w' ⟨rfl,hb⟩;exact⟨EF hno (by cases b8;exact absurd rfl ve;rfl),hb⟩
 obtain⟨a,b,c,d,s,rfl⟩:=axg (t:=t) ae;rw[Hi]at e2;obtain⟨rfl,e2'⟩:=iA e2;obtain⟨rfl,rfl⟩:=iA e2';rw[Hi]at e3;obtain⟨rfl,e3'⟩:=iA e3;obtain⟨rfl,rfl⟩:=iA e3';have jP:(a :: b :: c :: d :: s).length=s.length+4:=ar;have YA:(m.drop 12).take ((m.drop 12).length - s.length)=(m.drop 12).take (m.length - (a :: b :: c :: d :: s).length+4 - 12):=by
  rw[hR,jP]at *;congr 1;omega
 have gS:¬(255<m.length - (a :: b :: c :: d :: s).length - 12\/(a :: b :: c :: d :: s).length<4):=by rw[hR]at q3;omega
 have ox:fo m=if bp m 10=0 then(if(a :: b :: c :: d :: s).length=4 then some ((m.drop 12).take (m.length - (a :: b :: c :: d :: s).length+4 - 12),ls,bp (a :: b :: c :: d :: s) 0,bp (a :: b :: c :: d :: s) 2,false,0,0)else none)
   else if(a :: b :: c :: d :: s).length<15\/(a :: b :: c :: d :: s).getD 4 0≠0\/bp (a :: b :: c :: d :: s) 5≠41\/15+bp (a :: b :: c :: d :: s) 13≠(a :: b :: c :: d :: s).length then none
   else some ((m.drop 12).take (m.length - (a :: b :: c :: d :: s).length+4 - 12),ls,bp (a :: b :: c :: d :: s) 0,bp (a :: b :: c :: d :: s) 2,true,bp (a :: b :: c :: d :: s) 7,((a :: b :: c :: d :: s).getD 10 0).toNat):=by
  rw[hq];show(if _ then none else _)=_;rw[aF gS]
 rw[<- YA]at ox;have ha0:bp (a :: b :: c :: d :: s) 0=a.toNat*256+b.toNat:=Nz a b _;have ha2:bp (a :: b :: c :: d :: s) 2=c.toNat*256+d.toNat:=Nz c d s;rw[ha0,ha2]at ox;rcases h10 with h10|h10
 ·rw[h10];refine(Wp id bits m w hm hl e1 rfl rfl).mono ?_;rintro e w' ⟨rfl,hb⟩;refine⟨?_,hb⟩;rw[aJ h10,jP]at ox;cases s with
  | nil =>
   rw[aJ ar]at ox;unfold Hj;rw[ox];rfl
  | cons x s =>
   rw[aF ar]at ox;exact EF ox rfl
 ·rw[h10];refine(Y6 id bits m w hm hl e1 rfl rfl f1 f2 f3 f4 f5 f6 f7 f8 jE rfl).mono ?_;rintro e w' ⟨rfl,hb⟩;refine⟨?_,hb⟩;rw[aF ae]at ox;by_cases h11:s.length<11
  ·rw[aJ (.inl ae)]at ox;refine EF ox ?_;cases b8
   ·exfalso;obtain⟨rfl,l8⟩:=Y_ f8;obtain⟨rfl,Y3⟩:=Y9 f7;obtain⟨rfl,l6⟩:=Y_ f6;obtain⟨rfl,l5⟩:=Y8 f5;obtain⟨rfl,l4⟩:=Y8 f4;obtain⟨rfl,l3⟩:=Y9 f3;obtain⟨rfl,l2⟩:=Y9 f2;obtain⟨_,l1⟩:=Y8 f1;omega
   ·rfl
  ·obtain⟨xG,y1,y2,y3,y4,oH,y6,Bv,Hk,y5,y7,s',rfl⟩:=axh (t:=s) ae;rw[Za]at f1;obtain⟨rfl,f1'⟩:=iA f1;obtain⟨rfl,rfl⟩:=iA f1';rw[Hi]at f2;obtain⟨rfl,f2'⟩:=iA f2;obtain⟨rfl,rfl⟩:=iA f2';rw[Hi]at f3;obtain⟨rfl,f3'⟩:=iA f3;obtain⟨rfl,rfl⟩:=iA f3';rw[Za]at f4;obtain⟨rfl,axk⟩:=iA f4;obtain⟨rfl,rfl⟩:=iA axk;rw[Za]at f5;obtain⟨rfl,axl⟩:=iA f5;obtain⟨rfl,rfl⟩:=iA axl;have axm:o8 2 (Bv :: Hk :: y5 :: y7 :: s') false=(y5 :: y7 :: s',false):=by unfold o8;rw[aJ ar];rfl
   rw[axm]at f6;obtain⟨rfl,rfl⟩:=iA f6;rw[Hi]at f7;obtain⟨rfl,f7'⟩:=iA f7;obtain⟨rfl,rfl⟩:=iA f7';have g4:(a :: b :: c :: d :: xG :: y1 :: y2 :: y3 :: y4 :: oH :: y6 :: Bv :: Hk :: y5 :: y7 :: s').getD 4 0=xG:=rfl;have g5:bp (a :: b :: c :: d :: xG :: y1 :: y2 :: y3 :: y4 :: oH :: y6 :: Bv :: Hk :: y5 :: y7 :: s') 5=y1.toNat*256+y2.toNat:=Nz y1 y2 [];have g7:bp (a :: b :: c :: d :: xG :: y1 :: y2 :: y3 :: y4 :: oH :: y6 :: Bv :: Hk :: y5 :: y7 :: s') 7=y3.toNat*256+y4.toNat:=Nz y3 y4 [];have g13:bp (a :: b :: c :: d :: xG :: y1 :: y2 :: y3 :: y4 :: oH :: y6 :: Bv :: Hk :: y5 :: y7 :: s') 13=y5.toNat*256+y7.toNat:=Nz y5 y7 [];have g10:(a :: b :: c :: d :: xG :: y1 :: y2 :: y3 :: y4 :: oH :: y6 :: Bv :: Hk :: y5 :: y7 :: s').getD 10 0=y6:=rfl;rw[g4,g5,g7,g13,g10]at ox;have hlen:(a :: b :: c :: d :: xG :: y1 :: y2 :: y3 :: y4 :: oH :: y6 :: Bv :: Hk :: y5 :: y7 :: s').length=s'.length+15:=ar;rw[hlen]at ox;have hx0:xG=0 ↔ xG.toNat=0:=⟨fun h=>by rw[h];rfl,fun h=>Hw h⟩
   generalize y5.toNat*256+y7.toNat=N at *;generalize y1.toNat*256+y2.toNat=K at *;by_cases hall:xG=0/\K=41/\N=s'.length
   ·obtain⟨hx,rfl,rfl⟩:=hall;rw[aF (by rintro(h|h|h|h);omega;exact h hx;omega;omega)]at ox;have axn:o8 s'.length s' false=([],false):=by unfold o8;rw[aJ aA,vU]
    rw[axn]at f8;obtain⟨rfl,rfl⟩:=iA f8;unfold Hj;rw[ox,hx];rfl
   ·rw[aJ (by
     by_cases h1:xG=0
     ·by_cases h2:K=41
      ·exact .inr (.inr (.inr fun h=>hall ⟨h1,h2,ae⟩))
      ·exact .inr (.inr (.inl h2))
     ·exact .inr (.inl h1))]at ox
    refine EF ox ?_;cases b8
    ·obtain⟨_,l8⟩:=Y_ f8;cases t8 with
     | cons x t8=>simp
     | nil =>
      have hN:N=s'.length:=by simpa using l8.symm
      by_cases h1:xG.toNat=0
      ·have h2:K≠41:=fun h=>hall ⟨hx0.2 h1,h,hN⟩;simp[h2]
      ·simp[h1]
    ·rfl
theorem axo(zb i b:Nat)(c0 aC c2 c3 k kc sz aU:Int)(op:Bool)(m qs nm:ah)(R:ah)(P:World->Value->Value->Value->Value->Value->Prop)(w:World)(h1:(bits .and .i64 b 32768 != 0)=false)(h2:(bits .and .i64 b 30720 != 0)=false)
  (hh:aB 70 #[ay m] w (bQ (.tuple #[.agg #[aj i,aj b,aj c0,aj aC,aj c2,aj c3],.bool true]) w))
  (hq:∀W,aB 72 #[.agg #[aj i,aj b,aj c0,aj aC,aj c2,aj c3],ay m] W (bQ (.tuple #[eu i b c0 aC c2 c3 qs nm k kc op sz aU,.bool true]) W))
  (ha:∀W,au w W->aB 74 #[eu i b c0 aC c2 c3 qs nm k kc op sz aU,aM zb] W fun e w'=>(∃v0 v1 v2 v3 v4,e=.returned (.agg #[v0,v1,v2,v3,v4])/\P w' v0 v1 v2 v3 v4)/\au W w')
  (hr:∀W v0 v1 v2 v3 v4,au w W->P W v0 v1 v2 v3 v4->aB 73 #[eu i b c0 aC c2 c3 qs nm k kc op sz aU,.agg #[v0,v1,v2,v3,v4]] W (bQ (ay R) W)) :
  aB 27 #[aM zb,ay m] w (bQ (ay R) w):=by
 have yZ:=ag hh;have JJ:=ag hq;have LR:=ag ha;have HT:=ag hr;clear hh hq ha hr;unfold eu at JJ LR HT;go_enter func27,ntmps27;go_wp2_with fail;refine yZ.mono ?_;rintro e w1 ⟨rfl,hb1⟩;have hB1:=ag hb1;have hs1:=hb1.size;clear hb1;go_wp2_with fail;refine(JJ _).mono ?_;rintro e w2 ⟨rfl,hb2⟩;have hB2:au w w2:=(hB1.alloc hs1 _).trans (hb2.mono aP);have bU:=ag hB2;have hs2:=hB2.size;clear hb2 hB2 hB1 JJ yZ;go_wp2_with fail;have hQ:fu (w2.alloc (.cells #[.int .i64 i,.int .i64 b,.int .i64 c0,.int .i64 aC,.int .i64 c2,.int .i64 c3,.string (aq qs),.string (aq nm),.int .i64 k,.int .i64 kc,.bool op,.int .i64 sz,.int .i64 aU] 137)) w2.heap.size i b c0 aC c2 c3 qs nm k kc op sz aU:=World.alloc_heap_new w2 _;have ajc:au w (w2.alloc (.cells #[.int .i64 i,.int .i64 b,.int .i64 c0,.int .i64 aC,.int .i64 c2,.int .i64 c3,.string (aq qs),.string (aq nm),.int .i64 k,.int .i64 kc,.bool op,.int .i64 sz,.int .i64 aU] 137)):=bU.alloc hs2 _;clear bU;generalize (w2.alloc (.cells #[.int .i64 i,.int .i64 b,.int .i64 c0,.int .i64 aC,.int .i64 c2,.int .i64 c3,.string (aq qs),.string (aq nm),.int .i64 k,.int .i64 kc,.bool op,.int .i64 sz,.int .i64 aU] 137))=X at *;have xt:∀W W':World,au W W'->(W.cell? (ak w2.heap.size 0)=some (aj i)/\W.cell? (ak w2.heap.size 1)=some (aj b)/\W.cell? (ak w2.heap.size 2)=some (aj c0)/\W.cell? (ak w2.heap.size 3)=some (aj aC)/\W.cell? (ak w2.heap.size 4)=some (aj c2)/\W.cell? (ak w2.heap.size 5)=some (aj c3)/\W.cell? (ak w2.heap.size 6)=some (ay qs)/\W.cell? (ak w2.heap.size 7)=some (ay nm)/\W.cell? (ak w2.heap.size 8)=some (aj k)/\W.cell? (ak w2.heap.size 9)=some (aj kc)/\W.cell? (ak w2.heap.size 10)=some (.bool op)/\W.cell? (ak w2.heap.size 11)=some (aj sz)/\W.cell? (ak w2.heap.size 12)=some (aj aU))->(W'.cell? (ak w2.heap.size 0)=some (aj i)/\W'.cell? (ak w2.heap.size 1)=some (aj b)/\W'.cell? (ak w2.heap.size 2)=some (aj c0)/\W'.cell? (ak w2.heap.size 3)=some (aj aC)/\W'.cell? (ak w2.heap.size 4)=some (aj c2)/\W'.cell? (ak w2.heap.size 5)=some (aj c3)/\W'.cell? (ak w2.heap.size 6)=some (ay qs)/\W'.cell? (ak w2.heap.size 7)=some (ay nm)/\W'.cell? (ak w2.heap.size 8)=some (aj k)/\W'.cell? (ak w2.heap.size 9)=some (aj kc)/\W'.cell? (ak w2.heap.size 10)=some (.bool op)/\W'.cell? (ak w2.heap.size 11)=some (aj sz)/\W'.cell? (ak w2.heap.size 12)=some (aj aU)):=fun W W' hb h=>by
  have kp:∀(a:Addr) (v:Value),W.cell? a=some v->W'.cell? a=some v:=fun a v h=>(hb.cell (iz W a h)).trans h;obtain⟨e0,e1,e2,e3,e4,e5,e6,e7,e8,e9,e10,e11,e12⟩:=h;exact⟨kp _ _ e0,kp _ _ e1,kp _ _ e2,kp _ _ e3,kp _ _ e4,kp _ _ e5,kp _ _ e6,kp _ _ e7,kp _ _ e8,kp _ _ e9,kp _ _ e10,kp _ _ e11,kp _ _ e12⟩
 have ju:Hid (∀W,au w W->(W.cell? (ak w2.heap.size 0)=some (aj i)/\W.cell? (ak w2.heap.size 1)=some (aj b)/\W.cell? (ak w2.heap.size 2)=some (aj c0)/\W.cell? (ak w2.heap.size 3)=some (aj aC)/\W.cell? (ak w2.heap.size 4)=some (aj c2)/\W.cell? (ak w2.heap.size 5)=some (aj c3)/\W.cell? (ak w2.heap.size 6)=some (ay qs)/\W.cell? (ak w2.heap.size 7)=some (ay nm)/\W.cell? (ak w2.heap.size 8)=some (aj k)/\W.cell? (ak w2.heap.size 9)=some (aj kc)/\W.cell? (ak w2.heap.size 10)=some (.bool op)/\W.cell? (ak w2.heap.size 11)=some (aj sz)/\W.cell? (ak w2.heap.size 12)=some (aj aU))->aB 74 #[(.agg #[aj i,aj b,aj c0,aj aC,aj c2,aj c3,ay qs,ay nm,aj k,aj kc,.bool op,aj sz,aj aU]),aM zb] W fun e w' =>
   ∃v0 v1 v2 v3 v4,e=.returned (.agg #[v0,v1,v2,v3,v4])/\(w'.cell? (ak w2.heap.size 0)=some (aj i)/\w'.cell? (ak w2.heap.size 1)=some (aj b)/\w'.cell? (ak w2.heap.size 2)=some (aj c0)/\w'.cell? (ak w2.heap.size 3)=some (aj aC)/\w'.cell? (ak w2.heap.size 4)=some (aj c2)/\w'.cell? (ak w2.heap.size 5)=some (aj c3)/\w'.cell? (ak w2.heap.size 6)=some (ay qs)/\w'.cell? (ak w2.heap.size 7)=some (ay nm)/\w'.cell? (ak w2.heap.size 8)=some (aj k)/\w'.cell? (ak w2.heap.size 9)=some (aj kc)/\w'.cell? (ak w2.heap.size 10)=some (.bool op)/\w'.cell? (ak w2.heap.size 11)=some (aj sz)/\w'.cell? (ak w2.heap.size 12)=some (aj aU))/\Hid (au w w'/\P w' v0 v1 v2 v3 v4)):=by
  intro W hb hS;refine(LR W hb).mono ?_;rintro e w' ⟨⟨v0,v1,v2,v3,v4,rfl,hv⟩,hb'⟩;exact⟨v0,v1,v2,v3,v4,rfl,xt W w' hb' hS,hb.trans (hb'.mono hb.size),hv⟩
 have kP:Hid (∀W v0 v1 v2 v3 v4,Hid (au w W/\P W v0 v1 v2 v3 v4)->(W.cell? (ak w2.heap.size 0)=some (aj i)/\W.cell? (ak w2.heap.size 1)=some (aj b)/\W.cell? (ak w2.heap.size 2)=some (aj c0)/\W.cell? (ak w2.heap.size 3)=some (aj aC)/\W.cell? (ak w2.heap.size 4)=some (aj c2)/\W.cell? (ak w2.heap.size 5)=some (aj c3)/\W.cell? (ak w2.heap.size 6)=some (ay qs)/\W.cell? (ak w2.heap.size 7)=some (ay nm)/\W.cell? (ak w2.heap.size 8)=some (aj k)/\W.cell? (ak w2.heap.size 9)=some (aj kc)/\W.cell? (ak w2.heap.size 10)=some (.bool op)/\W.cell? (ak w2.heap.size 11)=some (aj sz)/\W.cell? (ak w2.heap.size 12)=some (aj aU))->aB 73 #[(.agg #[aj i,aj b,aj c0,aj aC,aj c2,aj c3,ay qs,ay nm,aj k,aj kc,.bool op,aj sz,aj aU]),.agg #[v0,v1,v2,v3,v4]] W fun e w' =>
   e=.returned (ay (R))/\(w'.cell? (ak w2.heap.size 0)=some (aj i)/\w'.cell? (ak w2.heap.size 1)=some (aj b)/\w'.cell? (ak w2.heap.size 2)=some (aj c0)/\w'.cell? (ak w2.heap.size 3)=some (aj aC)/\w'.cell? (ak w2.heap.size 4)=some (aj c2)/\w'.cell? (ak w2.heap.size 5)=some (aj c3)/\w'.cell? (ak w2.heap.size 6)=some (ay qs)/\w'.cell? (ak w2.heap.size 7)=some (ay nm)/\w'.cell? (ak w2.heap.size 8)=some (aj k)/\w'.cell? (ak w2.heap.size 9)=some (aj kc)/\w'.cell? (ak w2.heap.size 10)=some (.bool op)/\w'.cell? (ak w2.heap.size 11)=some (aj sz)/\w'.cell? (ak w2.heap.size 12)=some (aj aU))/\Hid (au w w')):=by
  intro W v0 v1 v2 v3 v4 hB hS;obtain⟨hb,hv⟩:=af hB;refine(HT W _ _ _ _ _ hb hv).mono ?_;rintro e w' ⟨rfl,hb'⟩;exact⟨rfl,xt W w' hb' hS,hb.trans (hb'.mono hb.size)⟩
 have hS:X.drew.cell? (ak w2.heap.size 0)=some (aj i)/\X.drew.cell? (ak w2.heap.size 1)=some (aj b)/\X.drew.cell? (ak w2.heap.size 2)=some (aj c0)/\X.drew.cell? (ak w2.heap.size 3)=some (aj aC)/\X.drew.cell? (ak w2.heap.size 4)=some (aj c2)/\X.drew.cell? (ak w2.heap.size 5)=some (aj c3)/\X.drew.cell? (ak w2.heap.size 6)=some (ay qs)/\X.drew.cell? (ak w2.heap.size 7)=some (ay nm)/\X.drew.cell? (ak w2.heap.size 8)=some (aj k)/\X.drew.cell? (ak w2.heap.size 9)=some (aj kc)/\X.drew.cell? (ak w2.heap.size 10)=some (.bool op)/\X.drew.cell? (ak w2.heap.size 11)=some (aj sz)/\X.drew.cell? (ak w2.heap.size 12)=some (aj aU):=hQ.cells;have ajd:au w X.drew:=ajc.drew;have Aj:=ag ajd;clear hQ ajc ajd LR HT xt
 go_region_held (fun w'=>w'.cell? (ak w2.heap.size 0)=some (aj i)/\w'.cell? (ak w2.heap.size 1)=some (aj b)/\w'.cell? (ak w2.heap.size 2)=some (aj c0)/\w'.cell? (ak w2.heap.size 3)=some (aj aC)/\w'.cell? (ak w2.heap.size 4)=some (aj c2)/\w'.cell? (ak w2.heap.size 5)=some (aj c3)/\w'.cell? (ak w2.heap.size 6)=some (ay qs)/\w'.cell? (ak w2.heap.size 7)=some (ay nm)/\w'.cell? (ak w2.heap.size 8)=some (aj k)/\w'.cell? (ak w2.heap.size 9)=some (aj kc)/\w'.cell? (ak w2.heap.size 10)=some (.bool op)/\w'.cell? (ak w2.heap.size 11)=some (aj sz)/\w'.cell? (ak w2.heap.size 12)=some (aj aU)) (first|assumption|go_keep)
  (first
   | (go_at_call 74;go_loud (refine(ju _ Aj ?_).mono ?_;assumption;rintro e w5 ⟨v0,v1,v2,v3,v4,rfl,XM,fR⟩))
   | (go_at_call 73;go_loud (refine(kP _ _ _ _ _ _ fR ?_).mono ?_;assumption;rintro e w6 ⟨rfl,Re,hP⟩)))
 rename_i hH;clear hH hS XM Re fR;go_wp2;go_ret;exact⟨rfl,hP⟩
end Go.Proofs.YtkkpahmoljiepaaGreatDoor
