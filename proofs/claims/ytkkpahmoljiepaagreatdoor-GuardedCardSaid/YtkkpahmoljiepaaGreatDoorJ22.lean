import Derived.Test.YtkkpahmoljiepaaGreatDoorJ11
set_option maxRecDepth 1000000
set_option maxHeartbeats 12800000
set_option linter.unusedSimpArgs false
set_option linter.unusedVariables false
namespace Go.Proofs.YtkkpahmoljiepaaGreatDoor
open Go.RowKit Go.Proofs.Tryz
def rJ(v u:Value):Prop:=∀g,v.ownBlock=some g->u.ownBlock≠some g
theorem akf(sb zb cb b off cap:Nat)(k:Int)(bz:Bool)(va vb vc:Value)(o n:ai)(rs ans:List aj)(w:World)(hs:dF w sb zb k 0 bz va vb vc cb)(ho:bT w (sb+1) va ans)(xh:vb=bK)
  (hz:fA w zb o b off cap rs) (hg:bH w) (hzs:zb<sb) (bL:b<sb) (h0:0<sb) (lT:w_ o rs) (hn:n.length<=2900) (ha:ans.length<=90000)
  (bE:∀r∈fz (cK rs o) 6,AK r/\r.data.length<=3000/\r.aV<=1000000000) (h5:(k == 5)=false) (iw:(k == 255)=false) (yr:(dn o rs n).length=0->(cg rs n).2=true->rk (cg rs n).1=false) (gW:(cg rs n).1.length<=3001) :
  aF 194 #[aO sb,aA n] w fun e w'=>e=.returned (.tuple #[.string ⟨#[]⟩,.bool false])/\(∃dr cE,dF w' sb zb k (jO o rs n) bz dr cE vc cb/\bT w' (sb+1) dr (ans++kE o rs k n)/\bT w' (sb+1) cE (lV o rs k n)/\rJ dr cE)/\Below sb w w':=by
 subst xh;obtain⟨hlen,eR,hrl⟩:=lT;have Dm:(k != 5)=true:=by unfold bne;rw[h5];rfl
 have VS:(k != 255)=true:=by unfold bne;rw[iw];rfl
 clear h5 iw;have ow:=hs.lt;have hown:=ho.mr;obtain⟨s0,s1,_⟩:=hs.cells;have HS:=ag hs;have HO:=ag ho;have eT:=ag hz;have HG:=ag hg;have ew:=ag bE;have HC:=ag (Jq zb b off cap o n rs w hz hg hlen ae eR);have nd:Hid (∀W,aw w W->dF W sb zb k 0 bz va (bK) vc cb):=fun W hb=>hs.kept (hb.block sb ow);have qV:=ag hown;clear hs ho hz hg bE hown;have hcl:(dn o rs n).length<=3001:=a_ (U2 o rs n) hlen;by_cases hc:(dn o rs n).length=0;{
 have Gs:¬(0:Int)<((dn o rs n).length:Int):=ae;have akg:=ag (yr hc);clear yr;have e1:Hid (jO o rs n=if(cg rs n).2 then 0 else 3):=by unfold jO;rw[Hid,aP hc]
 have e2:Hid (kE o rs k n=if(cg rs n).2 then jz k (cg rs n).1 else []):=by unfold kE;rw[Hid,aP hc]
 have e3:Hid (lV o rs k n=if(cg rs n).2 then(if sj k (cg rs n).1 then []else fB o rs)else fB o rs):=by unfold lV;rw[Hid,aP hc]
 clear hc;have bA:=ag (fun W (hb:aw w W)=>NJ zb b off cap o n rs W (eT.below hb) (HG.below hb) hlen hn (fun r hr=>(hrl r hr).1));cases hm:(cg rs n).2;{
 rw[hm]at e1 e2 e3;go_enter func194,ntmps194;go_wp2_with fail;refine HC.mono ?_;rintro e w1 ⟨⟨v1,rfl,jy⟩,hb1⟩;obtain⟨a1,az,rfl⟩:=jy.slice;clear jy;obtain⟨t0,t1,_⟩:=(nd w1 hb1).cells;go_wp2_with fail;refine(bA w1 hb1).mono ?_;rintro e w2 ⟨⟨v2,rfl,hv2⟩,hb2⟩;rw[hm];clear hv2;have dZ:=hb1.trans (hb2.mono hb1.size);have hs2:=af nd w2 dZ;obtain⟨u0,u1,u2,u3,u4,u5,u6,u7⟩:=hs2.cells;have f2:=hs2.frozen 2;have S3:=ag (hs2.set2 3);have hs3:=hs2.set2 3;obtain⟨y0,_⟩:=hs3.cells;have hb3:Below sb w (w2.setCell ⟨sb,2,none⟩ (.int .i64 3)):=(dZ.mono (show sb<=w.heap.size by omega)).setCell (p:=⟨sb,2,none⟩) (aL sb) _;have hz3:fA (w2.setCell ⟨sb,2,none⟩ (.int .i64 3)) zb o b off cap rs:=eT.low hb3 hzs bL;have HD:=ag (Jv zb b off cap o rs _ hz3 hlen (af ew));have eV:=ag ((HO.below dZ).ky (k:=sb) (i:=2) ae (aq 3));have uF:(w2.setCell ⟨sb,2,none⟩ (.int .i64 3)).heap.size=w2.heap.size:=by simp[World.setCell]
 clear hs2 hs3 u0 u1 u3 u4 u6 u7;go_wp2_with fail;refine HD.mono ?_;rintro e w4 ⟨v4,rfl,jS,hb4⟩;obtain⟨a4,bw,rfl⟩:=jS.slice;have fO:=S3.kept (hb4.block sb (by rw[uF];exact eQ ow dZ.size));obtain⟨z0,z1,z2,z3,z4,z5,z6,z7⟩:=fO.cells;have g5:=fO.frozen 5;have S5:=ag (fO.Df (.slice a4 (fB o rs).length bw));have qq:=ag ((eV.below hb4).ky (k:=sb) (i:=5) ae (.slice a4 (fB o rs).length bw));have nX:=ag (jS.ky (k:=sb) (i:=5) (by rw[uF];exact eQ ow dZ.size) (.slice a4 (fB o rs).length bw));have hb5:Below sb w (w4.setCell ⟨sb,5,none⟩ (.slice a4 (fB o rs).length bw)):=(hb3.trans (hb4.mono (show sb<=_ by rw[uF];have:=dZ.size;omega))).setCell (p:=⟨sb,5,none⟩) (aL sb) _;clear fO jS z0 z1 z2 z3 z4 z6 z7;go_wp2;go_ret2;refine⟨rfl,⟨va,.slice a4 (fB o rs).length bw,?_,?_,?_,?_⟩,hb5⟩;{rw[af e1];exact S5};{rw[af e2];simpa using af qq};{rw[af e3];exact nX.base (by rw[uF];have:=dZ.size;omega)};{exact fun g h1 h2=>by have k1:=(qV g h1).2;have k2:=(nX.mr g h2).1;rw[uF]at k2;have:=dZ.size;omega}};{
 rw[hm]at e1 e2 e3;go_enter func194,ntmps194;go_wp2_with fail;refine HC.mono ?_;rintro e w1 ⟨⟨v1,rfl,jy⟩,hb1⟩;obtain⟨a1,az,rfl⟩:=jy.slice;clear jy;obtain⟨t0,t1,_⟩:=(nd w1 hb1).cells;go_wp2_with fail;refine(bA w1 hb1).mono ?_;rintro e w2 ⟨⟨v2,rfl,hv2⟩,hb2⟩;rw[hm];have dZ:=hb1.trans (hb2.mono hb1.size);have hs2:=af nd w2 dZ;obtain⟨u0,u1,u2,u3,u4,u5,u6,u7⟩:=hs2.cells;have DF:=ag (U0 v2 _ w2 hv2.rv gW);obtain⟨b',off',hL2,hr2,wV⟩:=hv2;have hs1:=hb1.size;have P_:b'≠sb:=by rcases wV with h|h <;> omega
 have Qa:va.ownBlock≠some b':=by{intro h;have:=af qV b' h;rcases wV with h|h <;> omega};have dJ:=ag (Uq sb zb cb b' off' k 0 bz va (bK) vc v2 ans _ w2 hs2 (HO.below dZ) hL2 hr2 P_ Qa gW ha);clear hs2 hL2 hr2 wV u0 u2 u3 u4 u5 u6 u7;rw[af akg hm]at DF;go_wp2_with fail;refine DF.mono ?_;rintro e w2 ⟨rfl,rfl⟩;go_wp2_with fail;refine dJ.mono ?_;rintro e w3 ⟨rfl,⟨dr,hs3,qa⟩,hf3⟩;have hb3:Below sb w w3:=(dZ.mono (show sb<=w.heap.size by omega)).trans (hf3.below (fun j hj=>⟨ae,fun h=>by have:=af qV j h.symm;omega⟩) (by have:=dZ.size;omega));have gj:=ag hs3;have eV:=ag qa;obtain⟨y0,_,_,_,_,mA,_,_⟩:=hs3.cells;have Hq:=hs3.lt;have hz3:fA w3 zb o b off cap rs:=eT.low hb3 hzs bL;have HD:=ag (Jv zb b off cap o rs w3 hz3 hlen (af ew));clear hs3 qa hz3 hf3;cases ht:sj k (cg rs n).1;{rw[ht]at e3;go_wp2_with fail;refine HD.mono ?_;rintro e w4 ⟨v4,rfl,jS,hb4⟩;obtain⟨a4,bw,rfl⟩:=jS.slice;have fO:=gj.kept (hb4.block sb Hq);obtain⟨z0,z1,z2,z3,z4,z5,z6,z7⟩:=fO.cells;have g5:=fO.frozen 5;have S5:=ag (fO.Df (.slice a4 (fB o rs).length bw));have qq:=ag ((eV.below hb4).ky (k:=sb) (i:=5) ae (.slice a4 (fB o rs).length bw));have nX:=ag (jS.ky (k:=sb) (i:=5) Hq (.slice a4 (fB o rs).length bw));have hb5:Below sb w (w4.setCell ⟨sb,5,none⟩ (.slice a4 (fB o rs).length bw)):=(hb3.trans (hb4.mono (show sb<=_ by omega))).setCell (p:=⟨sb,5,none⟩) (aL sb) _;clear fO jS z0 z1 z2 z3 z4 z6 z7;go_wp2;go_ret2;refine⟨rfl,⟨dr,.slice a4 (fB o rs).length bw,?_,?_,?_,?_⟩,hb5⟩;{rw[af e1];exact S5};{rw[af e2];exact qq};{rw[af e3];exact nX.base ae};{exact fun g h1 h2=>by have k1:=(eV.mr g h1).2;have k2:=(nX.mr g h2).1;omega}};{rw[ht]at e3;go_wp2;go_ret2;refine⟨rfl,⟨dr,bK,?_,?_,?_,?_⟩,hb3⟩;{rw[af e1];exact gj};{rw[af e2];exact eV};{rw[af e3];exact iI _ _ _ _};{exact fun g _ h2=>by cases h2}}}};{
 have Gs:(0:Int)<((dn o rs n).length:Int):=ae;clear yr;have e1:Hid (jO o rs n=0):=by unfold jO;rw[Hid,aG hc]
 have e2:Hid (kE o rs k n = []):=by unfold kE;rw[Hid,aG hc]
 have e3:Hid (lV o rs k n=dn o rs n):=by unfold lV;rw[Hid,aG hc]
 clear hc;go_enter func194,ntmps194;go_wp2_with fail;refine HC.mono ?_;rintro e w1 ⟨⟨v1,rfl,jy⟩,hb1⟩;have B9:=ag (Jt v1 _ w1 (jy.rv (eT.below hb1).2.2.2.2) hcl);obtain⟨a1,az,rfl⟩:=jy.slice;clear jy;go_wp2_with fail;refine B9.mono ?_;rintro e w4 ⟨v4,rfl,jS,hb4⟩;obtain⟨a4,bw,rfl⟩:=jS.slice;have nG:=hb1.trans (hb4.mono hb1.size);have fO:=af nd w4 nG;obtain⟨z0,z1,z2,z3,z4,z5,z6,z7⟩:=fO.cells;have g5:=fO.frozen 5;have S5:=ag (fO.Df (.slice a4 (dn o rs n).length bw));have qq:=ag ((HO.below nG).ky (k:=sb) (i:=5) ae (.slice a4 (dn o rs n).length bw));have nX:=ag (jS.ky (k:=sb) (i:=5) (by have:=hb1.size;omega) (.slice a4 (dn o rs n).length bw));have hb5:Below sb w (w4.setCell ⟨sb,5,none⟩ (.slice a4 (dn o rs n).length bw)):=(nG.mono (show sb<=_ by omega)).setCell (p:=⟨sb,5,none⟩) (aL sb) _;clear fO jS z0 z1 z2 z3 z4 z6 z7;go_wp2;go_ret2;refine⟨rfl,⟨va,.slice a4 (dn o rs n).length bw,?_,?_,?_,?_⟩,hb5⟩;{rw[af e1];exact S5};{rw[af e2];simpa using af qq};{rw[af e3];exact nX.base (by have:=hb1.size;omega)};{exact fun g h1 h2=>by have k1:=(qV g h1).2;have k2:=(nX.mr g h2).1;have:=hb1.size;omega}}
theorem akh(sb zb cb b off cap:Nat)(k:Int)(bz:Bool)(va vb vc:Value)(o n:ai)(rs ans:List aj)(w:World)(hs:dF w sb zb k 0 bz va vb vc cb)(ho:bT w (sb+1) va ans)(xh:vb=bK)
  (hz:fA w zb o b off cap rs) (hg:bH w) (hzs:zb<sb) (bL:b<sb) (h0:0<sb) (lT:w_ o rs) (hn:n.length<=2900) (ha:ans.length<=90000)
  (bE:∀r∈fz (cK rs o) 6,AK r/\r.data.length<=3000/\r.aV<=1000000000) (hk:k=5\/k=255) (gW:(cg rs n).1.length<=3001) :
  aF 194 #[aO sb,aA n] w fun e w'=>e=.returned (.tuple #[.string ⟨#[]⟩,.bool false])/\(∃dr cE,dF w' sb zb k (jO o rs n) bz dr cE vc cb/\bT w' (sb+1) dr (ans++kE o rs k n)/\bT w' (sb+1) cE (lV o rs k n)/\rJ dr cE)/\Below sb w w':=by
 subst xh;obtain⟨hlen,eR,hrl⟩:=lT;have oG:(k != 5)=false\/((k != 5)=true/\(k != 255)=false):=by{rcases hk with h|h;{left;rw[h];rfl};{right;rw[h];exact⟨rfl,rfl⟩}};clear hk;have ow:=hs.lt;have hown:=ho.mr;obtain⟨s0,s1,_⟩:=hs.cells;have HS:=ag hs;have HO:=ag ho;have eT:=ag hz;have HG:=ag hg;have ew:=ag bE;have HC:=ag (Jq zb b off cap o n rs w hz hg hlen ae eR);have nd:Hid (∀W,aw w W->dF W sb zb k 0 bz va (bK) vc cb):=fun W hb=>hs.kept (hb.block sb ow);have qV:=ag hown;clear hs ho hz hg bE hown;have hcl:(dn o rs n).length<=3001:=a_ (U2 o rs n) hlen;by_cases hc:(dn o rs n).length=0;{
 have Gs:¬(0:Int)<((dn o rs n).length:Int):=ae;have e1:Hid (jO o rs n=if(cg rs n).2 then 0 else 3):=by unfold jO;rw[Hid,aP hc]
 have e2:Hid (kE o rs k n=if(cg rs n).2 then jz k (cg rs n).1 else []):=by unfold kE;rw[Hid,aP hc]
 have e3:Hid (lV o rs k n=if(cg rs n).2 then(if sj k (cg rs n).1 then []else fB o rs)else fB o rs):=by unfold lV;rw[Hid,aP hc]
 clear hc;have bA:=ag (fun W (hb:aw w W)=>NJ zb b off cap o n rs W (eT.below hb) (HG.below hb) hlen hn (fun r hr=>(hrl r hr).1));cases hm:(cg rs n).2;{
 rw[hm]at e1 e2 e3;go_enter func194,ntmps194;go_wp2_with fail;refine HC.mono ?_;rintro e w1 ⟨⟨v1,rfl,jy⟩,hb1⟩;obtain⟨a1,az,rfl⟩:=jy.slice;clear jy;obtain⟨t0,t1,_⟩:=(nd w1 hb1).cells;go_wp2_with fail;refine(bA w1 hb1).mono ?_;rintro e w2 ⟨⟨v2,rfl,hv2⟩,hb2⟩;rw[hm];clear hv2;have dZ:=hb1.trans (hb2.mono hb1.size);have hs2:=af nd w2 dZ;obtain⟨u0,u1,u2,u3,u4,u5,u6,u7⟩:=hs2.cells;have f2:=hs2.frozen 2;have S3:=ag (hs2.set2 3);have hs3:=hs2.set2 3;obtain⟨y0,_⟩:=hs3.cells;have hb3:Below sb w (w2.setCell ⟨sb,2,none⟩ (.int .i64 3)):=(dZ.mono (show sb<=w.heap.size by omega)).setCell (p:=⟨sb,2,none⟩) (aL sb) _;have hz3:fA (w2.setCell ⟨sb,2,none⟩ (.int .i64 3)) zb o b off cap rs:=eT.low hb3 hzs bL;have HD:=ag (Jv zb b off cap o rs _ hz3 hlen (af ew));have eV:=ag ((HO.below dZ).ky (k:=sb) (i:=2) ae (aq 3));have uF:(w2.setCell ⟨sb,2,none⟩ (.int .i64 3)).heap.size=w2.heap.size:=by simp[World.setCell]
 clear hs2 hs3 u0 u1 u3 u4 u6 u7;go_wp2_with fail;refine HD.mono ?_;rintro e w4 ⟨v4,rfl,jS,hb4⟩;obtain⟨a4,bw,rfl⟩:=jS.slice;have fO:=S3.kept (hb4.block sb (by rw[uF];exact eQ ow dZ.size));obtain⟨z0,z1,z2,z3,z4,z5,z6,z7⟩:=fO.cells;have g5:=fO.frozen 5;have S5:=ag (fO.Df (.slice a4 (fB o rs).length bw));have qq:=ag ((eV.below hb4).ky (k:=sb) (i:=5) ae (.slice a4 (fB o rs).length bw));have nX:=ag (jS.ky (k:=sb) (i:=5) (by rw[uF];exact eQ ow dZ.size) (.slice a4 (fB o rs).length bw));have hb5:Below sb w (w4.setCell ⟨sb,5,none⟩ (.slice a4 (fB o rs).length bw)):=(hb3.trans (hb4.mono (show sb<=_ by rw[uF];have:=dZ.size;omega))).setCell (p:=⟨sb,5,none⟩) (aL sb) _;clear fO jS z0 z1 z2 z3 z4 z6 z7;go_wp2;go_ret2;refine⟨rfl,⟨va,.slice a4 (fB o rs).length bw,?_,?_,?_,?_⟩,hb5⟩;{rw[af e1];exact S5};{rw[af e2];simpa using af qq};{rw[af e3];exact nX.base (by rw[uF];have:=dZ.size;omega)};{exact fun g h1 h2=>by have k1:=(qV g h1).2;have k2:=(nX.mr g h2).1;rw[uF]at k2;have:=dZ.size;omega}};{
 rw[hm]at e1 e2 e3;go_enter func194,ntmps194;go_wp2_with fail;refine HC.mono ?_;rintro e w1 ⟨⟨v1,rfl,jy⟩,hb1⟩;obtain⟨a1,az,rfl⟩:=jy.slice;clear jy;obtain⟨t0,t1,_⟩:=(nd w1 hb1).cells;go_wp2_with fail;refine(bA w1 hb1).mono ?_;rintro e w2 ⟨⟨v2,rfl,hv2⟩,hb2⟩;rw[hm];have dZ:=hb1.trans (hb2.mono hb1.size);have hs2:=af nd w2 dZ;obtain⟨u0,u1,u2,u3,u4,u5,u6,u7⟩:=hs2.cells;obtain⟨b',off',hL2,hr2,wV⟩:=hv2;have hs1:=hb1.size;have P_:b'≠sb:=by rcases wV with h|h <;> omega
 have Qa:va.ownBlock≠some b':=by{intro h;have:=af qV b' h;rcases wV with h|h <;> omega};have dJ:=ag (Uq sb zb cb b' off' k 0 bz va (bK) vc v2 ans _ w2 hs2 (HO.below dZ) hL2 hr2 P_ Qa gW ha);clear hs2 hL2 hr2 wV u0 u2 u3 u4 u5 u6 u7;rcases oG with Dm|⟨Dm,VS⟩;all_goals(go_wp2_with fail;refine dJ.mono ?_;rintro e w3 ⟨rfl,⟨dr,hs3,qa⟩,hf3⟩;have hb3:Below sb w w3:=(dZ.mono (show sb<=w.heap.size by omega)).trans (hf3.below (fun j hj=>⟨ae,fun h=>by have:=af qV j h.symm;omega⟩) (by have:=dZ.size;omega));have gj:=ag hs3;have eV:=ag qa;obtain⟨y0,_,_,_,_,mA,_,_⟩:=hs3.cells;have Hq:=hs3.lt;have hz3:fA w3 zb o b off cap rs:=eT.low hb3 hzs bL;have HD:=ag (Jv zb b off cap o rs w3 hz3 hlen (af ew));clear hs3 qa hz3 hf3;cases ht:sj k (cg rs n).1;{rw[ht]at e3;go_wp2_with fail;refine HD.mono ?_;rintro e w4 ⟨v4,rfl,jS,hb4⟩;obtain⟨a4,bw,rfl⟩:=jS.slice;have fO:=gj.kept (hb4.block sb Hq);obtain⟨z0,z1,z2,z3,z4,z5,z6,z7⟩:=fO.cells;have g5:=fO.frozen 5;have S5:=ag (fO.Df (.slice a4 (fB o rs).length bw));have qq:=ag ((eV.below hb4).ky (k:=sb) (i:=5) ae (.slice a4 (fB o rs).length bw));have nX:=ag (jS.ky (k:=sb) (i:=5) Hq (.slice a4 (fB o rs).length bw));have hb5:Below sb w (w4.setCell ⟨sb,5,none⟩ (.slice a4 (fB o rs).length bw)):=(hb3.trans (hb4.mono (show sb<=_ by omega))).setCell (p:=⟨sb,5,none⟩) (aL sb) _;clear fO jS z0 z1 z2 z3 z4 z6 z7;go_wp2;go_ret2;refine⟨rfl,⟨dr,.slice a4 (fB o rs).length bw,?_,?_,?_,?_⟩,hb5⟩;{rw[af e1];exact S5};{rw[af e2];exact qq};{rw[af e3];exact nX.base ae};{exact fun g h1 h2=>by have k1:=(eV.mr g h1).2;have k2:=(nX.mr g h2).1;omega}};{rw[ht]at e3;go_wp2;go_ret2;refine⟨rfl,⟨dr,bK,?_,?_,?_,?_⟩,hb3⟩;{rw[af e1];exact gj};{rw[af e2];exact eV};{rw[af e3];exact iI _ _ _ _};{exact fun g _ h2=>by cases h2}})}};{
 have Gs:(0:Int)<((dn o rs n).length:Int):=ae;have e1:Hid (jO o rs n=0):=by unfold jO;rw[Hid,aG hc]
 have e2:Hid (kE o rs k n = []):=by unfold kE;rw[Hid,aG hc]
 have e3:Hid (lV o rs k n=dn o rs n):=by unfold lV;rw[Hid,aG hc]
 clear hc;go_enter func194,ntmps194;go_wp2_with fail;refine HC.mono ?_;rintro e w1 ⟨⟨v1,rfl,jy⟩,hb1⟩;have B9:=ag (Jt v1 _ w1 (jy.rv (eT.below hb1).2.2.2.2) hcl);obtain⟨a1,az,rfl⟩:=jy.slice;clear jy;go_wp2_with fail;refine B9.mono ?_;rintro e w4 ⟨v4,rfl,jS,hb4⟩;obtain⟨a4,bw,rfl⟩:=jS.slice;have nG:=hb1.trans (hb4.mono hb1.size);have fO:=af nd w4 nG;obtain⟨z0,z1,z2,z3,z4,z5,z6,z7⟩:=fO.cells;have g5:=fO.frozen 5;have S5:=ag (fO.Df (.slice a4 (dn o rs n).length bw));have qq:=ag ((HO.below nG).ky (k:=sb) (i:=5) ae (.slice a4 (dn o rs n).length bw));have nX:=ag (jS.ky (k:=sb) (i:=5) (by have:=hb1.size;omega) (.slice a4 (dn o rs n).length bw));have hb5:Below sb w (w4.setCell ⟨sb,5,none⟩ (.slice a4 (dn o rs n).length bw)):=(nG.mono (show sb<=_ by omega)).setCell (p:=⟨sb,5,none⟩) (aL sb) _;clear fO jS z0 z1 z2 z3 z4 z6 z7;go_wp2;go_ret2;refine⟨rfl,⟨va,.slice a4 (dn o rs n).length bw,?_,?_,?_,?_⟩,hb5⟩;{rw[af e1];exact S5};{rw[af e2];simpa using af qq};{rw[af e3];exact nX.base (by have:=hb1.size;omega)};{exact fun g h1 h2=>by have k1:=(qV g h1).2;have k2:=(nX.mr g h2).1;have:=hb1.size;omega}}
structure aki(o n:ai)(rs:List aj)(k:Int):Prop where
 fit:w_ o rs
 len:n.length<=2900
 Qb:∀r∈fz (cK rs o) 6,AK r/\r.data.length<=3000/\r.aV<=1000000000
 kk:k=5\/k=255
 Qc:(cg rs n).1.length<=3001
structure akj(V:ai->Prop)(o:ai)(rs:List aj)(k:Int):Prop where
 fit:w_ o rs
 Qb:∀r∈fz (cK rs o) 6,AK r/\r.data.length<=3000/\r.aV<=1000000000
 Qd:(k == 5)=false
 Qe:(k == 255)=false
 Qc:∀n,V n->(cg rs n).1.length<=3001
 Yw:∀n r,V n->iQ o rs n=some r->r.data.length<=2900/\V r.data
def K4(sb zb cb:Nat)(k:Int)(bz:Bool)(vc:Value)(o:ai)(rs ls:List aj)(fin:Option ai)(w':World):Prop :=
 ∃dr cE,dF w' sb zb k (xB o rs fin) bz dr cE vc cb/\bT w' (sb+1) dr (ls++vQ o rs k fin)/\bT w' (sb+1) cE (xC o rs k fin)/\rJ dr cE
theorem akk(V:ai->Prop)(sb zb cb c b off cap base:Nat)(k:Int)(bz:Bool)(vc:Value)(o n:ai)(rs:List aj)(w:World)(hs:dF w sb zb k 0 bz (bK) (bK) vc cb)
  (hz:fA w zb o b off cap rs) (hg:bH w) (hzs:zb<sb) (bL:b<sb) (h0:0<sb) (hc:mW w cb c false) (hne:cb≠c) (hcb:cb<sb) (hcs:c<sb) (eZ:base<=c) (hn:n.length<=2900) (hv:V n) (hp:akj V o rs k) :
  aF 127 #[aO sb,aA n] w fun e w' =>
   (fx o rs 8 n=none/\e=.returned (.bool false)/\Below base w w')\/(∃ls fin,fx o rs 8 n=some (ls,fin)/\ls.length<=8/\e=.returned (.bool true)/\K4 sb zb cb k bz vc o rs ls fin w'/\Below sb w w'):=by
 obtain⟨_,_,_,_,_,_,_,s7⟩:=hs.cells;have ow:=hs.lt;have HS:=ag hs;have eT:=ag hz;have HG:=ag hg;have HC:=ag hc;have bG:=ag hp;clear hs hz hg hc hp;go_enter func127,ntmps127;go_wp2_with fail
 go_loopg [1,5] 10 (fun g1 nm zA wr =>
  (∃(ls:List aj) (n':ai) (va:Value),nm=aA n'/\zA=.bool true/\ls.length<=8/\g1+ls.length=10/\Hid (fx o rs 8 n=(fx o rs (8 - ls.length) n').map (fun x=>(ls++x.1,x.2)))/\n'.length<=2900/\Hid (V n')/\Hid (dF wr sb zb k 0 bz va (bK) vc cb)/\Hid (bT wr (sb+1) va ls)/\Hid (Below sb w wr)) \/
  (g1=1/\zA=.bool true/\Hid (fx o rs 8 n=none)/\Hid (∃va,dF wr sb zb k 0 bz va (bK) vc cb)/\Hid (mW wr cb c true)/\Hid (Below base w wr)) \/
  (zA=.bool false/\Hid (∃ls fin,fx o rs 8 n=some (ls,fin)/\ls.length<=8/\K4 sb zb cb k bz vc o rs ls fin wr/\Below sb w wr)))
 case atStart =>
  refine .inl ⟨[],n,bK,rfl,rfl,ak,ak,?_,hn,hv,HS,iI _ _ _ _,bW _ _⟩;rw[Hid];simp
 case round =>
  rcases hrel with⟨ls,n',va,rfl,rfl,Xe,Dw,hch,hn',hv',hs1,ho1,hb1⟩|⟨rfl,rfl,hch,hs1,hc1,hb1⟩|⟨rfl,aJ⟩
  ·have fc:=af hs1;obtain⟨_,_,_,_,_,_,_,r7⟩:=fc.cells;have hcr:=HC.below hb1 hcb hcs;have B_:=eT.low (af hb1) hzs bL;have hgr:=agc (af HG) (af hb1) h0;have HAS:=ag (JK cb c false wr hcr);have arw:=ag hcr;cases hlk:iQ o rs n' with
   | none =>
    have HST:=ag (akf sb zb cb b off cap k bz va (bK) vc o n' rs ls wr fc (af ho1) rfl B_ hgr hzs bL h0 bG.fit hn' ae bG.Qb bG.Qd bG.Qe (agd hlk) (bG.Qc n' (af hv')));have hend:Hid (fx o rs 8 n=some (ls,some n')):=by
     rw[Hid,af hch];have:fx o rs (8 - ls.length) n'=some ([],some n'):=by
      cases e:8 - ls.length with
      | zero=>rw[fx,hlk]
      | succ m=>rw[fx,hlk]
     rw[this];simp
    clear fc hcr B_ hgr hs1 ho1 hch;go_wp2_with fail;refine HAS.mono ?_;rintro e wr ⟨rfl,rfl⟩;go_wp2_with fail;refine HST.mono ?_;rintro e w2 ⟨rfl,⟨dr,cE,hs2,ha2,hb2,nN⟩,hbl⟩;have bg:Hid (∃ls fin,fx o rs 8 n=some (ls,fin)/\ls.length<=8/\K4 sb zb cb k bz vc o rs ls fin w2/\Below sb w w2):=⟨ls,some n',hend,Xe,⟨dr,cE,hs2,ha2,hb2,nN⟩,hb1.trans hbl⟩
    clear hs2 ha2 hb2 hbl nN;go_wp2_with fail
    go_roundg 0
    case rel=>exact .inr (.inr ⟨rfl,bg⟩)
    case measure=>omega
   | some r =>
    obtain⟨dN,hk2,hk3,hk4⟩:=Oo hlk;have wY:=(bG.Yw n' r (af hv') hlk).1;have akl:=ag (bG.Yw n' r (af hv') hlk).2;have eR:o.length<=3000:=bG.fit.2.1;by_cases hl:ls.length=8
    ·have BW:∀W,aw wr W->aF 247 #[aO sb,r.pP] W fun e w'=>e=.returned (.tuple #[aA r.data,.bool true])/\(dF w' sb zb k 0 bz va (bK) vc cb/\mW w' cb c true/\Below base wr w'):=fun W hW=>by
      have vE:=fc.kept (hW.block sb fc.lt);refine(agb sb zb cb c k bz va _ vc ls r W vE (ho1.below hW) (hcr.below hW hcr.1 hcr.lt) hne hcs hl).mono ?_;rintro e w' ⟨rfl,h1,h2,h3⟩;exact⟨rfl,h1,h2,(hW.mono (by have:=hcr.lt;omega)).trans (h3 base eZ)⟩
     have HST:=ag (VR sb zb cb b off cap k bz va _ vc o n' rs r true _ wr fc B_ hgr bG.fit hn' bG.Qd bG.Qe dN hk2 hk3 hk4 BW);have hend:Hid (fx o rs 8 n=none):=by
      rw[Hid,af hch,hl,wO,fx,hlk];rfl
     clear fc hcr B_ hgr hs1 ho1 hch BW;go_wp2_with fail;refine HAS.mono ?_;rintro e wr ⟨rfl,rfl⟩;go_wp2_with fail;refine HST.mono ?_;rintro e w2 ⟨rfl,h1,h2,h3⟩;have H1:=ag h1;have py:=ag h2;have pz:=ag ((hb1.mono (show base<=sb by omega)).trans h3);clear h1 h2 h3;go_wp2_with fail
     go_roundg 1
     case rel=>exact .inr (.inl ⟨rfl,rfl,hend,⟨_,H1⟩,py,pz⟩)
     case measure=>omega
    ·have BW:∀W,aw wr W->aF 247 #[aO sb,r.pP] W fun e w'=>e=.returned (.tuple #[aA r.data,.bool (dU r.data o)])/\((∃dr,dF w' sb zb k 0 bz dr (bK) vc cb/\bT w' (sb+1) dr (ls++[r]))/\Below sb wr w'):=fun W hW=>by
      have vE:=fc.kept (hW.block sb fc.lt);refine(af9 sb zb cb b off cap k bz va _ vc o rs ls r W vE (ho1.below hW) (B_.below hW) hzs ae eR ae).mono ?_;rintro e w' ⟨rfl,h1,h2⟩;exact⟨rfl,h1,(hW.mono (by have:=fc.lt;omega)).trans h2⟩
     have HST:=ag (VR sb zb cb b off cap k bz va _ vc o n' rs r _ _ wr fc B_ hgr bG.fit hn' bG.Qd bG.Qe dN hk2 hk3 hk4 BW);obtain⟨m,hm⟩:∃m,8 - ls.length=m+1:=⟨7 - ls.length,ae⟩
     have hstep:Hid (fx o rs 8 n=if dU r.data o=true then(fx o rs (8 - (ls++[r]).length) r.data).map (fun x=>((ls++[r])++x.1,x.2))else some (ls++[r],none)):=by
      rw[Hid,af hch,hm,fx,hlk];have e:8 - (ls++[r]).length=m:=aX;rw[e];dsimp only;split
      ·cases fx o rs m r.data <;> simp
      ·simp
     clear fc hcr B_ hgr hs1 ho1 hch BW;go_wp2_with fail;refine HAS.mono ?_;rintro e wr ⟨rfl,rfl⟩;go_wp2_with fail;refine HST.mono ?_;rintro e w2 ⟨rfl,⟨dr,h1,h2⟩,h3⟩;have H1:=ag h1;have py:=ag h2;have pz:=ag (hb1.trans h3);clear h1 h2 h3;cases hu:dU r.data o
     ·have bg:Hid (∃ls fin,fx o rs 8 n=some (ls,fin)/\ls.length<=8/\K4 sb zb cb k bz vc o rs ls fin w2/\Below sb w w2):=by
       refine⟨ls++[r],none,?_,aX,⟨dr,bK,H1,?_,iI _ _ _ _,fun g _ h2=>by cases h2⟩,pz⟩
       ·rw[af hstep,hu];rfl
       ·unfold vQ;rw[jt];exact py
      go_wp2_with fail
      go_roundg 0
      case rel=>exact .inr (.inr ⟨rfl,bg⟩)
      case measure=>omega
     ·have bg:Hid (fx o rs 8 n=(fx o rs (8 - (ls++[r]).length) r.data).map (fun x=>((ls++[r])++x.1,x.2))):=by
       rw[Hid,af hstep,hu];rfl
      go_wp2_with fail
      go_roundg (9 - ls.length)
      case rel=>exact .inl ⟨ls++[r],r.data,dr,rfl,rfl,aX,aX,bg,wY,akl,H1,py,pz⟩
      case measure=>omega
  ·obtain⟨va,fc⟩:=af hs1;obtain⟨_,_,_,_,_,_,_,r7⟩:=fc.cells;have HAS:=ag (JK cb c true wr (af hc1));clear fc;go_wp2_with fail;refine HAS.mono ?_;rintro e wr ⟨rfl,rfl⟩;go_wp2;go_ret;exact .inl ⟨hch,rfl,hb1⟩
  ·go_wp2;go_ret;obtain⟨ls,fin,h1,h2,h3,h4⟩:=af aJ;exact .inr ⟨ls,fin,h1,h2,rfl,h3,h4⟩
theorem akm(sb zb cb c b off cap:Nat)(k:Int)(bz:Bool)(va vb vc:Value)(o n:ai)(rs:List aj)(w:World)(hs:dF w sb zb k 0 bz va vb vc cb)(xg:va=bK)(xh:vb=bK)
  (hz:fA w zb o b off cap rs) (hg:bH w) (hzs:zb<sb) (bL:b<sb) (h0:0<sb) (hc:mW w cb c false) (hp:aki o n rs k) :
  aF 127 #[aO sb,aA n] w fun e w'=>e=.returned (.bool true)/\(∃dr cE,dF w' sb zb k (jO o rs n) bz dr cE vc cb/\bT w' (sb+1) dr (kE o rs k n)/\bT w' (sb+1) cE (lV o rs k n)/\rJ dr cE)/\Below sb w w':=by
 have HST:=ag (akh sb zb cb b off cap k bz va vb vc o n rs [] w hs (by subst xg;exact iI _ _ _ _) xh hz hg hzs bL h0 hp.fit hp.len ak hp.Qb hp.kk hp.Qc);have HAS:=ag (JK cb c false w hc);obtain⟨s0,s1,s2,s3,s4,s5,s6,s7⟩:=hs.cells;clear hs hz hg hc hp s0 s1 s2 s3 s4 s5 s6;go_enter func127,ntmps127;go_wp2_with fail;go_loopw [1,5] (fun nm zA wr=>(nm=aA n/\zA=.bool true/\wr=w)\/(zA=.bool false/\(∃dr cE,dF wr sb zb k (jO o rs n) bz dr cE vc cb/\bT wr (sb+1) dr (kE o rs k n)/\bT wr (sb+1) cE (lV o rs k n)/\rJ dr cE)/\Below sb w wr)) (fun _ zA _=>U5 zA);case atStart=>exact .inl ⟨rfl,rfl,rfl⟩
 case round =>(
 rcases hrel with⟨rfl,rfl,rfl⟩|⟨rfl,xE⟩;{
 go_wp2_with fail;refine HAS.mono ?_;rintro e w ⟨rfl,rfl⟩;go_wp2_with fail;refine HST.mono ?_;rintro e w1 ⟨rfl,xE⟩;rw[fF]at xE;have bG:=ag xE;clear xE;go_wp2_with fail;go_roundw;case rel=>exact .inr ⟨rfl,bG⟩
 case measure=>simp[U5]};{have bG:=ag xE;clear xE;go_wp2;go_ret;exact⟨rfl,bG⟩})
def qw:Nat->ai->Option Nat
 | n,[]=>some n
 | n,c :: r=>if rT c.toNat then qw (10*n+(c.toNat - 48)) r else none
theorem Qf:∀(l:ai) (n v:Nat),qw n l=some v->n*10 ^ l.length<=v
 | [],n,v,h=>by simp[qw]at h;simp[h]
 | c :: r,n,v,h=>by
  unfold qw at h;split at h
  ·have:=Qf r _ v h;rw[cU,ab6]
   calc n*(10 ^ r.length*10)=(10*n)*10 ^ r.length:=by rw[jW (10 ^ r.length) 10,<- Nat.mul_assoc,jW n 10]
    _<=(10*n+(c.toNat - 48))*10 ^ r.length:=Ab _ ae
    _<=v:=this
  ·cases h
theorem Qg(most:Nat):∀(l:ai) (n:Nat),n<=most->lM most n l=(match qw n l with
  | some v=>if v<=most then some v else none
  | none=>none)
 | [],n,hn=>by simp[lM,qw,hn]
 | c :: r,n,hn=>by
  unfold lM qw;split;{
  split;{exact Qg most r _ ‹_›};{
  rename_i FY;cases aD:qw (10*n+(c.toNat - 48)) r with
  | none=>rfl
  | some v =>{have:=Qf r _ v aD;have h1:1<=10 ^ r.length:=Nat.one_le_pow _ _ ae;have:10*n+(c.toNat - 48)<=v:=a_ (Nat.le_mul_of_pos_right _ ae) this;simp;omega}}};{rfl}
def zB(s:ai):Option Nat:=if 1<=s.length/\s.length<=10/\¬(s.head? = some 48/\1<s.length)then qw 0 s else none
theorem Yx(most:Nat)(hm:most<10000000000)(s:ai):pN most s=(match zB s with
  | some v=>if v<=most then some v else none
  | none=>none):=by
 unfold zB;cases s with
 | nil=>simp[pN]
 | cons c r =>
  show(if c.toNat=48/\r≠[]then none else lM most 0 (c :: r))=_;by_cases hz:c.toNat=48/\r≠[]
  ·have hc:c=48:=MN.1 hz.1;have hr:1<(c :: r).length:=by
    rcases r with _|⟨x,t⟩
    ·exact absurd rfl hz.2
    ·simp
   rw[aP hz,aG (fun h=>h.2.2 ⟨by rw[hc];rfl,hr⟩)]
  ·rw[aG hz];have hnz:¬((c :: r).head? = some 48/\1<(c :: r).length):=by
    rintro⟨h1,h2⟩;refine hz ⟨?_,?_⟩
    ·have:c=48:=by simpa using h1
     rw[this];rfl
    ·rintro rfl;simp at h2
   by_cases hl:(c :: r).length<=10
   ·rw[aP ⟨ak,hl,hnz⟩];exact Qg most _ 0 (dY _)
   ·rw[aG (fun h=>hl h.2.1),Qg most _ 0 (dY _)];cases aD:qw 0 (c :: r)with
    | none=>rfl
    | some v =>
     unfold qw at aD;split at aD
     ·rename_i Yy;have:=Qf r _ v aD;have Yz:10<=r.length:=by simp at hl;omega
      have hp:10000000000<=10 ^ r.length:=by
       calc 10000000000=10 ^ 10:=rfl
        _<=10 ^ r.length:=SE ae Yz
      have hc:1<=c.toNat - 48:=by
       unfold rT at Yy;simp at Yy;have:c.toNat≠48:=fun h=>hz ⟨h,by rintro rfl;simp at Yz⟩;omega
      have:10 ^ r.length<=v:=a_ (by
       calc 10 ^ r.length=1*10 ^ r.length:=(IX _).symm
        _<=(10*0+(c.toNat - 48))*10 ^ r.length:=Ab _ ae) this
      simp;omega
     ·cases aD
theorem Qh(most:Nat)(hm:most<10000000000)(s:ai):fL most s=(match zB s with
  | some v=>decide (v<=most)
  | none=>false):=by
 unfold fL;rw[Yx most hm];cases zB s with
 | none=>rfl
 | some v=>by_cases h:v<=most <;> simp[h]
theorem YA(most:Nat)(hm:most<10000000000)(s:ai)(v:Nat)(h:zB s=some v)(hv:v<=most):kV most s=v:=by unfold kV;rw[Yx most hm,h];simp[hv]
def Ex(star:Bool)(i:Nat)(l:ai):Bool:=mi l || (i == 0 && l == [42] && star)
def td(star:Bool):Nat->List ai->Bool
 | _,[]=>true
 | i,h :: t=>Ex star i h && td star (i+1) t
def wz(star:Bool)(s:ai):Option (List ai):=if s.length<=60/\td star 0 (aS 46 s)=true then some (aS 46 s)else none
def Ca(ls ms:List ai):Bool:=decide (ms.length<=ls.length) && decide (ls.drop (ls.length - ms.length)=ms)
def zC:List ai->ai
 | []=>[]
 | [x]=>x
 | x :: y :: t=>x++46 :: zC (y :: t)
theorem K5(c:ai):zC (aS 46 c)=c:=by
 have key:∀(n:Nat) (c:ai),c.length<=n->zC (aS 46 c)=c:=by{
 intro n;induction n with
 | zero=>intro c h;obtain rfl:c = []:=gS ae;rfl
 | succ n ih =>{
 intro c h;cases c with
 | nil=>rfl
 | cons x r =>{
 have hr:=ih r (by simp at h;omega);unfold aS;split;{
 rename_i hx;subst hx;have hne:=Am 46 r;cases hs:aS 46 r with
 | nil=>exact absurd hs hne
 | cons a t =>{rw[hs]at hr;rw[zC,hr];rfl}};{
 cases hs:aS 46 r with
 | nil=>exact absurd hs (Am 46 r)
 | cons a t =>{
 rw[hs]at hr;cases t with
 | nil=>simp only[zC]at hr ⊢; rw[hr]
 | cons b t=>simp only[zC]at hr ⊢; rw[dX,hr]}}}}};exact key c.length c aB
theorem YB:∀(l:List ai) (i:Nat),td true i l=qI i l
 | [],_=>rfl
 | h :: t,i=>by rw[td,qI,YB t (i+1)];unfold Ex wS;rw[Sd]
theorem YC:∀(l:List ai) (i:Nat),td false i l=l.all mi
 | [],_=>rfl
 | h :: t,i=>by rw[td,YC t (i+1)];unfold Ex;rw[Mk,Sg,zV]
theorem YD:∀(l:List ai) (i:Nat),0<i->qI i l=l.all mi
 | [],_,_=>rfl
 | h :: t,i,au=>by rw[qI,YD t (i+1) ae,zV];unfold wS;rw[show(i == 0)=false by simp;omega];simp
theorem Qi(s:ai):(wz true s).isSome=kU s:=by unfold wz kU;rw[YB];by_cases h1:s.length<=60 <;> cases h2:qI 0 (aS 46 s) <;> simp[h1]
theorem YE{a:ai}{t:List ai}{s:ai}(h:aS 46 s=a :: t)(ha:a≠[]):s.head? = a.head?:=by
 have:=K5 s;rw[h]at this;rw[<- this];cases t with
 | nil=>rfl
 | cons b t =>{
 rw[zC];cases a with
 | nil=>exact absurd rfl ha
 | cons x r=>rfl}
theorem Qj(s:ai):(wz false s).isSome=fG s:=by
 unfold wz fG kU wU Lib.hasPrefix;rw[YC];by_cases h1:s.length<=60;{
 have hne:=Am 46 s;cases hs:aS 46 s with
 | nil=>exact absurd hs hne
 | cons a t =>{
 rw[qI,YD t 1 ae,zV];unfold wS;cases hl:mi a;{
 -- no mi: a name only where it is the star
 simp only[CD,Ml];by_cases hst:a = [42];{
 have:=YE hs (by rw[hst];simp);rw[hst]at this;have hp:([42]:ai).isPrefixOf s=true:=by{
 cases s with
 | nil=>simp at this
 | cons x r=>simp at this;subst this;simp[List.isPrefixOf]};rw[hp];simp};{rw[show(a == [42])=false by simpa using hst];simp}};{
 have hp:([42]:ai).isPrefixOf s=false:=by{
 have ha:a≠[]:=by rintro rfl;simp[mi]at hl
 have:=YE hs ha;cases a with
 | nil=>exact absurd rfl ha
 | cons x r =>{
 cases s with
 | nil=>rfl
 | cons y q =>{
 simp at this;subst this;unfold mi at hl;simp only[fo,zV]at hl;have hx:wQ y=true:=hl.2.1;have:y≠42:=by rintro rfl;revert hx;decide
 simp[List.isPrefixOf,MM this]}}};rw[hp];cases t.all mi <;> simp[h1]}}};{simp[h1]}
theorem rK(c:UInt8):∀(l:ai),(c ∉ l/\aS c l = [l])\/∃a b,l=a++c :: b/\c ∉ a/\aS c l=a :: aS c b
 | []=>.inl ⟨ak,rfl⟩
 | x :: r=>by
  by_cases hx:x=c;{subst hx;exact .inr ⟨[],r,rfl,ak,yj x [] r ak⟩};{
  rcases rK c r with⟨h1,_⟩|⟨a,b,h1,h2,_⟩;{
  have hn:c ∉ x :: r:=by simp only[eK,Ah];exact⟨fun e=>hx e.symm,h1⟩
  exact .inl ⟨hn,yi c _ hn⟩};{
  have hn:c ∉ x :: a:=by simp only[eK,Ah];exact⟨fun e=>hx e.symm,h2⟩
  refine .inr ⟨x :: a,b,by rw[h1];rfl,hn,?_⟩;rw[h1];exact yj c (x :: a) b hn}}
def mJ(c:UInt8):List ai->ai
 | []=>[]
 | [x]=>x
 | x :: y :: t=>x++c :: mJ c (y :: t)
theorem Ey(c:UInt8)(s:ai):mJ c (aS c s)=s:=by
 have key:∀(n:Nat) (s:ai),s.length<=n->mJ c (aS c s)=s:=by{
 intro n;induction n with
 | zero=>intro s h;obtain rfl:s = []:=gS ae;rfl
 | succ n ih =>{
 intro s h;rcases rK c s with⟨_,e⟩|⟨a,b,e1,_,e⟩;{rw[e];rfl};{
 have hb:=ih b (by rw[e1]at h;simp at h;omega);rw[e];cases hs:aS c b with
 | nil=>exact absurd hs (Am c b)
 | cons y t =>{rw[hs]at hb;rw[mJ,hb,e1]}}}};exact key s.length s aB
theorem YF(c:UInt8)(x:ai):∀(l:List ai),l≠[]->mJ c (l++[x])=mJ c l++c :: x
 | [],h=>absurd rfl h
 | [y],_=>rfl
 | y :: z :: t,_=>by rw[dX,dX,mJ,<- dX,YF c x (z :: t) ak,mJ];simp
theorem YG(c:UInt8)(b:ai):∀(a:ai),aS c (a++c :: b)=aS c a++aS c b:=by
 intro a;have key:∀(n:Nat) (a:ai),a.length<=n->aS c (a++c :: b)=aS c a++aS c b:=by{
 intro n;induction n with
 | zero=>intro a h;obtain rfl:a = []:=gS ae;exact yj c [] b ak
 | succ n ih =>{intro a h;rcases rK c a with⟨h1,e⟩|⟨x,y,e1,h1,e⟩;{rw[e,yj c a b h1];rfl};{rw[e,e1,g_,dX,yj c x _ h1,ih y (by rw[e1]at h;simp at h;omega)];rfl}}};exact key a.length a aB
theorem YH{c:UInt8}{a b:ai}(h:aS c a=aS c b):a=b:=by rw[<- Ey c a,h,Ey]
theorem YI(c:UInt8):∀(a b:List ai),a≠[]->b≠[]->mJ c (a++b)=mJ c a++c :: mJ c b
 | [],_,h,_=>absurd rfl h
 | [x],b,_,hb=>by
  cases b with
  | nil=>exact absurd rfl hb
  | cons y t=>rfl
 | x :: y :: t,b,_,hb=>by rw[dX,dX,mJ,<- dX,YI c (y :: t) b ak hb,mJ];simp
theorem YJ(l o:ai):Ca (aS 46 l) (aS 46 o)=dU l o:=by
 have hne:=Am 46 o;unfold Ca dU Lib.hasSuffix;rw[tB];simp only[fo,Af,CE,iv,Sv];constructor;{
 rintro⟨h1,h2⟩;have aD:=jH ((aS 46 l).length - (aS 46 o).length) (aS 46 l);rw[h2]at aD;cases hp:(aS 46 l).take ((aS 46 l).length - (aS 46 o).length)with
 | nil =>{rw[hp,fF]at aD;exact .inl (YH aD.symm)}
 | cons a t =>{rw[hp]at aD;refine .inr ⟨mJ 46 (a :: t),?_⟩;have:=YI 46 (a :: t) (aS 46 o) ak hne;rw[aD,Ey,Ey]at this;exact this.symm}};{rintro(rfl|⟨a,ha⟩);{exact⟨aL _,ak⟩};{rw[<- ha,YG];exact⟨ak,ak⟩}}
section
variable {κ:Type}
def tj(k:aj->κ):List aj->Prop
 | []=>True
 | r :: t=>(∀a b,t=a++b->(∃x∈a,k x≠k r)->∀y∈b,k y≠k r)/\tj k t
theorem tj.drop{k:aj->κ} : ∀(l:List aj) (n:Nat),tj k l->tj k (l.drop n)
 | [],n,h=>by simp;trivial
 | r :: t,0,h=>h
 | r :: t,n+1,h=>by rw[List.drop_succ_cons];exact tj.drop t n h.2
theorem akn{a b t:List aj}(h:a++b=t):b=t.drop a.length:=by subst h;simp
theorem YK{a b t:List aj}(h:a++b=t)(p:aj->Bool):t.filter p=a.filter p++b.filter p:=by subst h;simp
theorem ako{k:aj->κ}{r:aj}{t:List aj}(h:tj k (r :: t))(bS:aj->aj->Bool)(hs:∀a b,bS a b=true ↔ k a=k b):∀y∈t.dropWhile (bS r),k y≠k r:=by
 intro y hy;cases aD:t.dropWhile (bS r)with
 | nil=>rw[aD]at hy;cases hy
 | cons z u =>{have hz:bS r z=false:=by{have:=List.head?_dropWhile_not (bS r) t;rw[aD]at this;simpa using this};have YL:k z≠k r:=fun e=>by{have:=(hs r z).2 e.symm;rw[hz]at this;cases this};rw[aD]at hy;rcases eK.1 hy with rfl|hy;{exact YL};{have e:t=(t.takeWhile (bS r)++[z])++u:=by{have:=(tH (p:=bS r) (l:=t)).symm;rw[aD]at this;simpa using this};exact h.1 _ _ e ⟨z,ak,YL⟩ y hy}}
theorem Qk{k:aj->κ}(bS:aj->aj->Bool)(hs:∀a b,bS a b=true ↔ k a=k b):∀(f n:Nat) (l:List aj),l.length<=f->tj k l ->
  (∀x∈iL bS f n l,∃r∈l,x.2.head? = some r/\x.2=l.filter (bS r))/\(∀r∈l,∃x∈iL bS f n l,x.2=l.filter (bS r))
 | 0,n,l,hl,_=>by obtain rfl:l = []:=gS ae;exact⟨fun x hx=>(by cases hx),fun r hr=>(by cases hr)⟩
 | f+1,n,[],_,_=>⟨fun x hx=>(by cases hx),fun r hr=>(by cases hr)⟩
 | f+1,n,r :: t,hl,hg=>by
  have mz:bS r r=true:=(hs r r).2 rfl;have xS:=ako hg bS hs;have Cb:=tH (p:=bS r) (l:=t);have K6:tj k (t.dropWhile (bS r)):=by{have e:t.dropWhile (bS r)=t.drop (t.takeWhile (bS r)).length:=akn Cb;rw[e];exact tj.drop t _ hg.2};have hlen:(t.dropWhile (bS r)).length<=f:=by{have:=ek List.length Cb;rw[bU]at this;simp at hl;omega};obtain⟨i1,i2⟩:=Qk bS hs f (n+1+(t.takeWhile (bS r)).length) (t.dropWhile (bS r)) hlen K6;have Ql:∀y∈t.takeWhile (bS r),bS r y=true:=fun y hy=>by{have:=List.all_takeWhile (p:=bS r) (l:=t);exact E9.1 this y hy};have hrun:(r :: t).filter (bS r)=r :: t.takeWhile (bS r):=by{rw[qF mz];congr 1;rw[YK Cb,zX.2 Ql,qG.2 (fun y hy hc=>xS y hy ((hs r y).1 hc).symm),jt]};have YM:∀s∈t.dropWhile (bS r),(r :: t).filter (bS s)=(t.dropWhile (bS r)).filter (bS s):=fun s hsm=>by{have fc:=xS s hsm;have hn:bS s r=false:=by{rw[<- zU,hs];exact fc};rw[tF (by rw[hn];simp)];rw[YK Cb,qG.2 (fun y hy hc=>?_),fF];have e1:=(hs r y).1 (Ql y hy);have e2:=(hs s y).1 hc;exact fc (e2.trans e1.symm)};have hmem:∀s∈t.dropWhile (bS r),s∈t:=fun s hsm=>by rw[<- Cb];exact MB _ hsm
  refine⟨fun x hx=>?_,fun s hsm=>?_⟩;{rw[iL]at hx;rcases eK.1 hx with rfl|hx;{exact⟨r,ak,rfl,hrun.symm⟩};{obtain⟨s,h1,h2,h3⟩:=i1 x hx;exact⟨s,by simp[hmem s h1],h2,by rw[h3,YM s h1]⟩}};{rw[iL];rcases eK.1 hsm with rfl|hsm;{exact⟨_,List.mem_cons_self,hrun.symm⟩};{rw[<- Cb]at hsm;rcases kP.1 hsm with h|h;{refine⟨_,List.mem_cons_self,?_⟩;have e:bS s=bS r:=by{funext y;have hk:=(hs r s).1 (Ql s h);rw[tB,hs,hs,hk]};rw[e];exact hrun.symm};{obtain⟨x,hx,e⟩:=i2 s h;exact⟨x,nB _ hx,by rw[e,YM s h]⟩}}}
end
section
open Go.RowKit Go.Sort
section
variable {α:Type} (lt:α->α->Bool)
def dE:List α->List α->List α
 | [],ys=>ys
 | a :: xs,[]=>a :: xs
 | a :: xs,b :: ys=>if lt b a then b :: dE (a :: xs) ys else a :: dE xs (b :: ys)
termination_by xs ys=>xs.length+ys.length
structure lH:Prop where
 tr:∀x y z,lt x y=true->lt y z=true->lt x z=true
 nt:∀x y z,lt x y=false->lt y z=false->lt x z=false
def fh(l:List α):Prop:=l.Pairwise fun x y=>lt y x=false
@[simp] theorem Qm (l:List α):dE lt [] l=l:=by unfold dE;rfl
@[simp] theorem K7 (l:List α):dE lt l []=l:=by cases l <;> simp[dE]
theorem K8(a b:α)(xs ys:List α):dE lt (a :: xs) (b :: ys)=if lt b a then b :: dE lt (a :: xs) ys else a :: dE lt xs (b :: ys):=by conv=>lhs;unfold dE
theorem nY{a b:α}(xs ys:List α)(h:lt b a=true):dE lt (a :: xs) (b :: ys)=b :: dE lt (a :: xs) ys:=by rw[K8,aP h]
theorem pD{a b:α}(xs ys:List α)(h:lt b a=false):dE lt (a :: xs) (b :: ys)=a :: dE lt xs (b :: ys):=by rw[K8,aG (by simp[h])]
theorem xT(A2 B2:List α):∀(A1 B1:List α),(∀b∈B1,∀a∈A2,lt b a=true)->(∀a∈A1,∀b∈B2,lt b a=false)->dE lt (A1++A2) (B1++B2)=dE lt A1 B1++dE lt A2 B2
 | [],[],_,_=>by simp
 | [],b :: B1,h,k=>by
  have ih:=xT A2 B2 [] B1 (fun b hb=>h b (by simp[hb])) k;cases A2 with
  | nil=>simp
  | cons a A2 =>{simp only[fF,Qm,dX]at ih ⊢;rw[nY lt _ _ (h b ak a ak),ih]}
 | a :: A1,[],h,k=>by
  have ih:=xT A2 B2 A1 [] h (fun a ha=>k a (by simp[ha]));cases B2 with
  | nil=>simp
  | cons b B2 =>{simp only[fF,K7,dX]at ih ⊢;rw[pD lt _ _ (k a ak b ak),ih]}
 | a :: A1,b :: B1,h,k=>by cases e:lt b a;{have ih:=xT A2 B2 A1 (b :: B1) h (fun a ha=>k a (by simp[ha]));simp only[dX]at ih ⊢;rw[pD lt _ _ e,pD lt _ _ e,ih,dX]};{have ih:=xT A2 B2 (a :: A1) B1 (fun b hb=>h b (by simp[hb])) k;simp only[dX]at ih ⊢;rw[nY lt _ _ e,nY lt _ _ e,ih,dX]}
termination_by A1 B1=>A1.length+B1.length
theorem Hr(hw:lH lt):∀(A B C:List α),dE lt (dE lt A B) C=dE lt A (dE lt B C)
 | [],B,C=>by simp
 | a :: A,[],C=>by simp
 | a :: A,b :: B,[]=>by simp
 | a :: A,b :: B,c :: C=>by cases eZ:lt b a;{cases Cc:lt c a;{have ih:=Hr hw A (b :: B) (c :: C);rw[pD lt _ _ eZ,pD lt _ _ Cc,ih];cases hcb:lt c b;{rw[pD lt _ _ hcb,pD lt _ _ eZ]};{rw[nY lt _ _ hcb,pD lt _ _ Cc]}};{have hcb:lt c b=true:=by{cases e:lt c b;{have:=hw.nt _ _ _ e eZ;rw[Cc]at this;cases this};{rfl}};have ih:=Hr hw (a :: A) (b :: B) C;rw[nY lt _ _ hcb,nY lt _ _ Cc,<- ih,pD lt _ _ eZ,nY lt _ _ Cc]}};{cases hcb:lt c b;{have ih:=Hr hw (a :: A) B (c :: C);rw[nY lt _ _ eZ,pD lt _ _ hcb,pD lt _ _ hcb,nY lt _ _ eZ,ih]};{have Cc:=hw.tr _ _ _ hcb eZ;have ih:=Hr hw (a :: A) (b :: B) C;rw[nY lt _ _ hcb,nY lt _ _ Cc,<- ih,nY lt _ _ eZ,nY lt _ _ hcb]}}
termination_by A B C=>A.length+B.length+C.length
def gJ(l:List α):List α:=l.foldl (fun s x=>dE lt s [x]) []
theorem Ce(l:List α)(x:α):gJ lt (l++[x])=dE lt (gJ lt l) [x]:=by simp[gJ]
theorem akp(hw:lH lt)(A B:List α):gJ lt (A++B)=dE lt (gJ lt A) (gJ lt B):=by
 obtain⟨n,hn⟩:=bP B.length;induction n generalizing B with
 | zero=>have:B = []:=n9.1 hn.symm;subst this;simp[gJ]
 | succ n ih =>{rcases tD B with rfl|⟨B',x,rfl⟩;{simp at hn};{rw[tC]at hn ⊢;rw[<- g_,Ce,Ce,ih B' (by simp at hn;omega),Hr lt hw]}}
theorem Hs:∀(A B:List α),(dE lt A B).length=A.length+B.length
 | [],B=>by simp
 | a :: A,[]=>by simp
 | a :: A,b :: B=>by cases e:lt b a;{rw[pD lt _ _ e,cU,Hs A (b :: B)];simp;omega};{rw[nY lt _ _ e,cU,Hs (a :: A) B];simp;omega}
termination_by A B=>A.length+B.length
theorem Ht(l:List α):(gJ lt l).length=l.length:=by
 obtain⟨n,hn⟩:=bP l.length;induction n generalizing l with
 | zero=>have:l = []:=n9.1 hn.symm;subst this;simp[gJ]
 | succ n ih =>{rcases tD l with rfl|⟨l',x,rfl⟩;{simp at hn};{rw[tC]at hn ⊢;rw[Ce,Hs,ih l' (by simp at hn;omega)];simp}}
theorem K9(z:α):∀(A B:List α),z∈dE lt A B->z∈A\/z∈B
 | [],B,h=>by simpa using h
 | a :: A,[],h=>by simpa using h
 | a :: A,b :: B,h=>by cases e:lt b a;{rw[pD lt _ _ e]at h;rcases eK.1 h with h|h;{exact .inl (by simp[h])};{exact(K9 z A (b :: B) h).imp (fun h=>nB _ h) id}};{rw[nY lt _ _ e]at h;rcases eK.1 h with h|h;{exact .inr (by simp[h])};{exact(K9 z (a :: A) B h).imp id (fun h=>nB _ h)}}
termination_by A B=>A.length+B.length
theorem akq(hw:lH lt){x y:α}(h:lt x y=true)(KG:lt x x=false):lt y x=false:=by cases e:lt y x;{rfl};{have:=hw.tr _ _ _ h e;rw[KG]at this;cases this}
theorem Qn(hw:lH lt)(ir:∀x,lt x x=false):∀(A B:List α),fh lt A->fh lt B->fh lt (dE lt A B)
 | [],B,_,h=>by simpa using h
 | a :: A,[],h,_=>by simpa using h
 | a :: A,b :: B,hA,hB=>by have hA':=wN.1 hA;have jJ:=wN.1 hB;cases e:lt b a;{rw[pD lt _ _ e];refine wN.2 ⟨fun z hz=>?_,Qn hw ir A (b :: B) hA'.2 hB⟩;rcases K9 lt z _ _ hz with h|h;{exact hA'.1 z h};{rcases eK.1 h with rfl|h;{exact e};{exact hw.nt _ _ _ (jJ.1 z h) e}}};{rw[nY lt _ _ e];refine wN.2 ⟨fun z hz=>?_,Qn hw ir (a :: A) B hA jJ.2⟩;have hab:=akq lt hw e (ir b);rcases K9 lt z _ _ hz with h|h;{rcases eK.1 h with rfl|h;{exact hab};{exact hw.nt _ _ _ (hA'.1 z h) hab}};{exact jJ.1 z h}}
termination_by A B=>A.length+B.length
theorem Hu(hw:lH lt)(ir:∀x,lt x x=false)(l:List α):fh lt (gJ lt l):=by
 obtain⟨n,hn⟩:=bP l.length;induction n generalizing l with
 | zero=>have:l = []:=n9.1 hn.symm;subst this;simp[gJ,fh]
 | succ n ih =>{rcases tD l with rfl|⟨l',x,rfl⟩;{simp at hn};{rw[tC]at hn ⊢;rw[Ce];exact Qn lt hw ir _ _ (ih l' (by simp at hn;omega)) (by simp[fh])}}
theorem akr(hw:lH lt){S:List α}{x y:α}(hs:fh lt (S++[y]))(h:lt x y=false):dE lt (S++[y]) [x]=S++[y]++[x]:=by
 have:=xT lt [] [x] (S++[y]) [] ak (fun a ha b hb=>by{
 obtain rfl:b=x:=by simpa using hb
 rcases kP.1 ha with ha|ha;{exact hw.nt _ _ _ h ((om.1 hs).2.2 a ha y ak)};{
 obtain rfl:a=y:=by simpa using ha
 exact h}})
 simpa using this
theorem aks{S:List α}{x y:α}(h:lt x y=true):dE lt (S++[y]) [x]=dE lt S [x]++[y]:=by
 have:=xT lt [y] [] S [x] (fun b hb a ha=>by{
 obtain rfl:b=x:=by simpa using hb
 obtain rfl:a=y:=by simpa using ha
 exact h}) ak
 simpa using this
end
section
variable {α:Type} [Inhabited α] (lt:α->α->Bool)
theorem Ez{d:Array α}{X Z:List α}{u:α}(h:d.toList=X++u :: Z):d[X.length]! = u:=by
 obtain rfl:d=(X++u :: Z).toArray:=by rw[<- h]
 simp
theorem K_{d:Array α}{X Y Z:List α}{u v:α}(h:d.toList=X++u :: (Y++v :: Z)):(swp d X.length (X.length+1+Y.length)).toList=X++v :: (Y++u :: Z):=by have hu:d[X.length]! = u:=Ez h;have hv:d[X.length+1+Y.length]! = v:=by{have:=Ez (d:=d) (X:=X++u :: Y) (u:=v) (Z:=Z) (by rw[h];simp);rw[<- this];congr 1;simp;omega};unfold swp;rw[hu,hv,Mi,Mi,h];rw[Fb _ _ ae,wO,CP];rw[Fb _ _ ae,show X.length+1+Y.length - X.length=Y.length+1 from ae,IM,Fb _ _ ae,wO,CP]
theorem YN(d:Array α)(i j:Nat)(h:i≠j):swp d i j=swp d j i:=by unfold swp;rw[Array.setIfInBounds_comm _ _ h]
def oK:Nat->Nat->Nat->Array α->Array α
 | _,_,0,d=>d
 | a,b,n+1,d=>oK (a+1) (b+1) n (swp d a b)
theorem La:∀(A B:List α) (d:Array α) (X Y Z:List α),A.length=B.length->d.toList=X++(A++(Y++(B++Z)))->(oK X.length (X.length+A.length+Y.length) A.length d).toList=X++(B++(Y++(A++Z)))
 | [],[],d,X,Y,Z,_,h=>by simpa [oK]using h
 | [],b :: B,_,_,_,_,h,_=>by simp at h
 | a :: A,[],_,_,_,_,h,_=>by simp at h
 | a :: A,b :: B,d,X,Y,Z,hl,h=>by
  have h1:d.toList=X++a :: ((A++Y)++b :: (B++Z)):=by rw[h];simp
  have h2:=K_ h1;have ih:=La A B (swp d X.length (X.length+1+(A++Y).length)) (X++[b]) (Y++[a]) Z (by simpa using hl) (by rw[h2];simp);rw[cU,oK];rw[show X.length+(A.length+1)+Y.length=X.length+1+(A++Y).length from aX];have e1:(X++[b]).length=X.length+1:=ak;have e2:(X++[b]).length+A.length+(Y++[a]).length=X.length+1+(A++Y).length+1:=aX;rw[e1]at ih e2;rw[e2]at ih;rw[ih];simp
theorem YO(hw:lH lt):∀(n:Nat) (S:List α) (d:Array α) (P Q:List α) (x:α),S.length=n->fh lt S->d.toList=P++(S++x :: Q)->(insInner lt P.length (P.length+n) d).toList=P++(dE lt S [x]++Q)
 | 0,S,d,P,Q,x,hn,_,h=>by
  obtain rfl:S = []:=n9.1 hn;have:insInner lt P.length (P.length+0) d=d:=by{
  cases e:P.length with
  | zero=>rfl
  | succ k=>rw[tI,insInner,aG ak]};rw[this,h];simp
 | n+1,S,d,P,Q,x,hn,hs,h=>by
  rcases tD S with rfl|⟨S',y,rfl⟩;{simp at hn};{
  rw[tC]at *;have hn':S'.length=n:=by simpa using hn
  have hy:d[P.length+n]! = y:=by{have:=Ez (d:=d) (X:=P++S') (u:=y) (Z:=x :: Q) (by rw[h];simp);rw[<- this];congr 1;simp;omega};have hx:d[P.length+n+1]! = x:=by{have:=Ez (d:=d) (X:=P++S'++[y]) (u:=x) (Z:=Q) (by rw[h];simp);rw[<- this];congr 1;simp;omega};rw[<- uX,insInner,hx,hy];cases e:lt x y;{rw[aG ak,akr lt hw hs e,h];simp};{rw[aP aX,aks lt e,YN _ _ _ ae];have h2:=K_ (d:=d) (X:=P++S') (Y:=[]) (Z:=Q) (u:=y) (v:=x) (by rw[h];simp);rw[show(P++S').length=P.length+n from aX,show P.length+n+1+([]:List α).length=P.length+n+1 from rfl]at h2;have:=YO hw n S' _ P (y :: Q) x hn' (om.1 hs).1 (by rw[h2];simp);rw[this];simp}}
theorem YP(hw:lH lt)(ir:∀x,lt x x=false)(P Q:List α):∀(f:Nat) (S1 S2:List α) (d:Array α),S2.length=f->d.toList=P++(gJ lt S1++(S2++Q))->(insOuter lt P.length (P.length+S1.length+S2.length) (P.length+S1.length) d).toList=P++(gJ lt (S1++S2)++Q)
 | 0,S1,S2,d,hf,h=>by obtain rfl:S2 = []:=n9.1 hf;rw[insOuter,aG ak,h];simp
 | f+1,S1,[],d,hf,h=>by simp at hf
 | f+1,S1,x :: S2,d,hf,h=>by rw[insOuter,aP ak];have h2:=YO lt hw S1.length (gJ lt S1) d P (S2++Q) x (Ht lt _) (Hu lt hw ir _) (by rw[h];simp);rw[<- Ce]at h2;have ih:=YP hw ir P Q f (S1++[x]) S2 _ (by simpa using hf) h2;rw[show P.length+(S1++[x]).length=P.length+S1.length+1 from aX]at ih;rw[show P.length+S1.length+(x :: S2).length=P.length+S1.length+1+S2.length from aX,ih];simp
theorem YQ(hw:lH lt)(ir:∀x,lt x x=false)(P S Q:List α)(d:Array α)(h:d.toList=P++(S++Q)):(insertionSort lt d P.length (P.length+S.length)).toList=P++(gJ lt S++Q):=by
 unfold insertionSort;cases S with
 | nil=>rw[insOuter,aG ak,h];simp[gJ]
 | cons x S =>{have:=YP lt hw ir P Q S.length [x] S d rfl (by rw[h];simp[gJ]);rw[show P.length + [x].length=P.length+1 from rfl,show P.length+1+S.length=P.length+(x :: S).length from aX]at this;rw[this];simp}
end
end
section
open Go.RowKit Go.Sort Go.Shelf
theorem Lb:∀(n a b:Nat) (d:Array aj),(oK a b n d).size=d.size
 | 0,_,_,_=>rfl
 | n+1,a,b,d=>by rw[oK,Lb n,size_swp]
theorem Hv(x:aj):∀v∈aj.aN x,v.oneCell'=true:=fun v hv=>by simp[aj.aN]at hv;rcases hv with rfl|rfl|rfl|rfl <;> rfl
theorem akt(off k g cap a b n:Nat)(hk:∀x,(aj.aN x).length=k)(zE:∀w,Sem.run prog (Go.sizeOf 47) w=.ok k w)(d:Array aj)(w:World)(hH:HoldsK aj.aN k w g off d)(hg:g<w.heap.size)(ha:a+n<=b)(hb:b+n<=d.size)(aD:d.size<=3001) :
  aF 288 #[aU g off d.size cap,aq a,aq b,aq n,.func (.func 103) #[] #[]] w fun e w' =>
   e=.returned (.tuple #[])/\∃q,w'=sortWorldK aj.aN k w g off q (oK a b n d) #[]:=by
 have mixed:prog.follows Departure.mixedOrders=true:=aK;have aE:=Tryz.isAgg47;have HK:Hid (∀x,(aj.aN x).length=k):=hk;clear hk;have HST:Hid (w=sortWorldK aj.aN k w g off 0 d #[]):=by show w=_;unfold sortWorldK;rw[grow_empty];exact(putRowK_self aj.aN k w g off d hH).symm
 have HH:=ag hH;have HG:=ag hg;clear hH;go_enter func288,ntmps288;go_wp2;go_loopg [10] n (fun g1 vi wr=>∃(i q:Nat) (dk:Array aj),vi=aq i/\i+g1=n/\dk.size=d.size/\wr=sortWorldK aj.aN k w g off q dk #[]/\Hid (oK (a+i) (b+i) g1 dk=oK a b n d));case atStart=>exact⟨0,0,d,rfl,ae,rfl,HST,rfl⟩
 case round =>(
 obtain⟨i,q,dk,rfl,au,hsk,rfl,HO⟩:=hrel;by_cases hlt:i<n;{
 have zD:(i:Int)<(n:Int):=ae;obtain⟨Lc,rfl⟩:∃Lc,gk=Lc+1:=⟨gk - 1,ae⟩;obtain⟨p,hp⟩:=bP (a+i);obtain⟨r,hr⟩:=bP (b+i);have ep:(a:Int)+i=p:=ae;have er:(b:Int)+i=r:=ae;have Hw:(p:Int)<(d.size:Int):=ae;have Pr:(r:Int)<(d.size:Int):=ae;obtain⟨xp,qx⟩:∃x,dk[p]! = x:=⟨_,rfl⟩;obtain⟨xr,qy⟩:∃x,dk[r]! = x:=⟨_,rfl⟩;have oL:HoldsK aj.aN k (sortWorldK aj.aN k w g off q dk #[]).drew g off dk:=holdsK_sortWorldK_c aj.aN k w g off d dk _ _ (af HH) hg hsk;obtain⟨wq,Qo⟩:=bP (sortWorldK aj.aN k w g off q dk #[]);rw[<- Qo]at oL ⊢;have lp:Sem.run prog (loadCellsFrom (ar g (off+p*k)) 0 k #[]) wq.drew=.ok (aj.aN xp).toArray wq.drew:=by rw[<- qx];exact run_loadCellsFrom_list _ _ _ _ k (HK.out _) (HoldsK.cells oL HK.out ae)
 have lr:Sem.run prog (loadCellsFrom (ar g (off+r*k)) 0 k #[]) wq.drew=.ok (aj.aN xr).toArray wq.drew:=by rw[<- qy];exact run_loadCellsFrom_list _ _ _ _ k (HK.out _) (HoldsK.cells oL HK.out ae)
 have bnd:∀x,x<dk.size->x*k+k<=dk.size*k:=fun x hx=>by{have:=Ab k (show x+1<=dk.size from hx);rwa [IV,IX]at this};have s1:Sem.run prog (storeCells (ar g (off+p*k)) (aj.aN xr) 0) wq.drew=.ok () (wq.drew.setCells g (off+p*k) (aj.aN xr)):=stores_of_holds _ oL (p*k) _ (by rw[HK.out,size_flatK];exact bnd p ae) (Hv _);have s2:Sem.run prog (storeCells (ar g (off+r*k)) (aj.aN xp) 0) (wq.drew.setCells g (off+p*k) (aj.aN xr))=.ok () ((wq.drew.setCells g (off+p*k) (aj.aN xr)).setCells g (off+r*k) (aj.aN xp)) := stores_of_holds _ (holds_setCells_c oL (p*k) _ (by rw[HK.out,size_flatK];exact bnd p ae)) (r*k) _ (by rw[HK.out,size_setMany,size_flatK];exact bnd r ae) (Hv _);have aku:=ag Qo;clear oL Qo bnd;obtain⟨cP,pE⟩:∃c,c=aj.aN xp:=⟨_,rfl⟩;obtain⟨cR,pF⟩:∃c,c=aj.aN xr:=⟨_,rfl⟩;have YR:cP.length=k:=by rw[pE];exact HK.out _
 have YS:cR.length=k:=by rw[pF];exact HK.out _
 rw[<- pF]at s1 lr;rw[<- pE]at lp;rw[<- pE,<- pF]at s2;have CC:Hid (cP=aj.aN xp/\cR=aj.aN xr):=⟨pE,pF⟩;clear pE pF;have Hx:IntKind.i64.wrap (p:Int)=(p:Int):=by rw[gM];omega
 have Hy:IntKind.i64.wrap (r:Int)=(r:Int):=by rw[gM];omega
 have p0:(0:Int)<=(p:Int):=ae;have r0:(0:Int)<=(r:Int):=ae;have bu:Hid (i+(Lc+1)=n/\p=a+i/\r=b+i/\dk[p]! = xp/\dk[r]! = xr/\dk.size=d.size/\i<n/\a+n<=b/\b+n<=d.size/\d.size<=3001):=⟨au,hp,hr,qx,qy,hsk,hlt,ha,hb,aD⟩;go_wp2_with fail;clear au hp hr qx qy hsk hlt ha hb aD zD hg;go_big_region_o;all_goals(
 clear lp lr s1 s2 aE zE mixed Hx Hy p0 r0 ep er Hw Pr;have hib:i<=3001:=by obtain⟨au,hp,hr,qx,qy,hsk,hlt,ha,hb,aD⟩:=af bu;omega
 go_wp2;go_roundg Lc;case measure=>omega
 case rel =>(obtain⟨au,hp,hr,qx,qy,hsk,hlt,ha,hb,aD⟩:=af bu;refine⟨i+1,q+1,swp dk p r,dD,ae,by rw[size_swp];exact hsk,?_,(show Hid _ from ?_)⟩;{rw[CC.out.1,CC.out.2,af aku,<- qx,<- qy];exact sortWorldK_swp_c aj.aN k w g off HK.out q dk #[] (af HG) p r ae ae};{show _=_;rw[<- af HO,hp,hr,oK];rfl}))};{have zD:¬(i:Int)<(n:Int):=ae;obtain rfl:gk=0:=ae;go_wp2;go_end0;exact⟨rfl,q,by rw[<- af HO];rfl⟩})
theorem akv(g cap a b n:Nat)(d:Array aj)(w:World)(hH:HoldsK aj.aN 4 w g 0 d)(hg:g<w.heap.size)(ha:a+n<=b)(hb:b+n<=d.size)(aD:d.size<=3001) :
  aF 288 #[aU g 0 d.size cap,aq a,aq b,aq n,.func (.func 103) #[] #[]] w fun e w' =>
   e=.returned (.tuple #[])/\∃q,w'=sortWorldK aj.aN 4 w g 0 q (oK a b n d) #[] :=
 akt 0 4 g cap a b n (fun _=>rfl) Tryz.sizeOf47 d w hH hg ha hb aD
end
end Go.Proofs.YtkkpahmoljiepaaGreatDoor
