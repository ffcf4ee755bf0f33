import Derived.Test.YtkkpahmoljiepaaGreatDoorJ14
set_option maxRecDepth 1000000
set_option maxHeartbeats 12800000
set_option linter.unusedSimpArgs false
set_option linter.unusedVariables false
namespace Go.Proofs.YtkkpahmoljiepaaGreatDoor
open Go.RowKit Go.Proofs.Tryz
def qi(ms:List (Int×Int)):List Value:=ms.flatMap fun x=>[.int .i64 x.1,.int .i64 x.2]
theorem J_(ms:List (Int×Int)):(qi ms).length=2*ms.length:=by
 induction ms with
 | nil=>rfl
 | cons a l ih=>simp[qi]at ih ⊢; omega
theorem Wp{w:World}{base g cap k:Nat}{l:List (Int×Int)}{x y:Int}(hk:l.length=k)(ho:pw w base (.slice (some ⟨g,0,none⟩) (k+1) cap) (l++[(x,y)])):w.cell? ⟨g,2*k,none⟩=some (.int .i64 x)/\w.cell? ⟨g,2*k+1,none⟩=some (.int .i64 y):=by
 subst hk;obtain⟨_,⟨h,_⟩|⟨g',cap',cur,hv,_,bp,hn,hm,hs,ht⟩⟩:=ho;{cases h};{
 obtain rfl:g=g':=by simpa using(Iy hv).1
 have hl:(l++[(x,y)]).length*2=2*l.length+2:=aX;rw[hl]at ht;have e:∀j,j<2*l.length+2->cur.toList[j]? = (qi (l++[(x,y)]))[j]?:=fun j hj=>by{
 have:(cur.toList.take (2*l.length+2))[j]? = cur.toList[j]?:=by rw[wM,aP hj]
 rw[<- this,ht];rfl};have f:qi (l++[(x,y)])=qi l++[.int .i64 x,.int .i64 y]:=by simp[qi]
 constructor;{simp only[World.cell?,bp];rw[<- Iq,e _ ae,f,wK (by rw[J_];omega),J_];simp};{simp only[World.cell?,bp];rw[<- Iq,e _ ae,f,wK (by rw[J_];omega),J_];simp}}
theorem Ka{w:World}{base k:Nat}{v:Value}{ms:List (Int×Int)}{a b:Int}(hl:ms.length=k+1)(h:w.ownsRow base 177 2 v (k+1+1) (qi ms++[.int .i64 a,.int .i64 b])):pw w base v (ms++[(a,b)]):=by unfold pw;rw[bU,hl,zY];exact h
theorem D6{w:World}{base a b:Nat}{v:Value}(h:DZ w base v a)(hab:a<=b):DZ w base v b:=by obtain⟨ms,h1,h2⟩:=h;exact⟨ms,h1,a_ h2 hab⟩
theorem ahf(mb bb base g cap n rg k:Nat)(c:UInt8)(vl:Value)(bm:gY)(early bI d1:Bool)(aH st:Nat)(bs:ai)(l:List (Int×Int))(x y:Int)(w:World)(h:cX w mb bb vl (.slice (some ⟨g,0,none⟩) (k+1) cap) bm aH early bI d1 st)(ho:pw w base (.slice (some ⟨g,0,none⟩) (k+1) cap) (l++[(x,y)]))(hr:eI w bb bs)(bL:base<=w.heap.size)(hst:st<=100000000)(hk:k<=100000000)(oG:l.length=k)(hn:D5 n rg)(kL:¬x=rg\/(x=rg/\¬y=aH)) :
  Calls prog 155 #[.pointer (some ⟨mb,0,none⟩),.int .i64 n,.int .u8 c.toNat] w fun e w' =>
   e=.returned (.tuple #[])/\(∃lW,cX w' mb bb vl lW bm aH early (J8 n bI) (J9 n d1) (st+1)/\DZ w' base lW (k+2))/\eI w' bb (bs.set n c)/\bh (fun i=>i≠mb/\i≠bb/\i≠g) w w':=by
 obtain⟨i0,au,hz0,hz1,hz2⟩:=kS Wo;obtain⟨s1,hs1⟩:=bP (st+1);have ks:(st:Int)+1=(s1:Int):=ae;rw[<- hs1];have vW:s1<=200000000:=ae;obtain⟨hx,hy⟩:=Wp oG ho;have m0:=iT h;have m4:=qg h;have m5:=mD h;have m7:=DU h;have m8:=DV h;have m9:=GD h;have hf:=kK h;have bA:=ag h;have aT:=ag hr;have HO:=ag ho;have eH:mb≠bb:=eP h hr.2 aC;have hlt:=qh h;have hne:some mb≠(Value.slice (some ⟨g,0,none⟩) (k+1) cap).ownBlock:=iG h ho aC;have uv:some bb≠(Value.slice (some ⟨g,0,none⟩) (k+1) cap).ownBlock:=iG hr.2 ho aC;have hg:g≠mb:=fun e=>hne (by rw[e];rfl);have eE:Hid (∀a b:Int,qi (l++[(x,y)])++[.int .i64 a,.int .i64 b]=qi ((l++[(x,y)])++[(a,b)])):=fun a b=>by simp[qi]
 have k0:¬(k:Int)<0:=ae;have dk:decide ((k:Int)<0)=false:=hP k0;have kb:(k:Int)<(k:Int)+1:=ae;have ahe:(0:Int)<=(k:Int):=ae;have OS:k<k+1:=ae;have GN:(l++[(x,y)]).length=k+1:=by simp[oG]
 have fZ:=ag GN;have aqB:=ag oG;clear h hr ho hs1 hst oG GN;go_enter func155,ntmps155;rcases hn with⟨rfl,rfl⟩|⟨rfl,rfl⟩|⟨rfl,rfl⟩|⟨rfl,rfl⟩
 ·have cQ:=Bq (rE (af bA) s1) true;have c0:=iT cQ;have bw:=qg cQ;have dm:=mD cQ;have gQ:∀o v,w.cell? ⟨g,o,none⟩=some v->((w.setCell ⟨mb,9,none⟩ (.int .i64 s1)).setCell ⟨mb,7,none⟩ (.bool true)).cell? ⟨g,o,none⟩=some v:=fun o v h=>(dC ((bf _ _ _ _ hg).trans (bf _ _ _ _ hg))).trans h;have y1:((w.setCell ⟨mb,9,none⟩ (.int .i64 s1)).setCell ⟨mb,7,none⟩ (.bool true)).cell? ⟨g,k*2,none⟩=some (.int .i64 x):=by rw[jW];exact gQ _ _ hx
  have y2:((w.setCell ⟨mb,9,none⟩ (.int .i64 s1)).setCell ⟨mb,7,none⟩ (.bool true)).cell? ⟨g,k*2+1,none⟩=some (.int .i64 y):=by rw[jW];exact gQ _ _ hy
  have c4:=ag cQ;have ij:Hid (((w.setCell ⟨mb,9,none⟩ (.int .i64 s1)).setCell ⟨mb,7,none⟩ (.bool true)).ownsRow base 177 2 (.slice (some ⟨g,0,none⟩) (k+1) cap) (k+1) (qi (l++[(x,y)]))):=by
   have:=jm (jm (af HO) hne 9 (.int .i64 s1)) hne 7 (.bool true);rw[af fZ]at this;exact this
  clear cQ gQ hx hy;go_upto_region 9 with fail;rcases kL with kL|⟨rfl,kL⟩
  all_goals
   go_quiet (fail);go_upto_region 10 with fail
   go_region_law (first|(refine step_append_lies _ rfl (.tmp 84) (.tmp 91) 81 rfl base 177 i0 (.agg #[.int .i64 0,.int .i64 0]) 2 16 y9 au hz0 hz1 hz2 rfl aC _ (k+1) _ rfl ((af ij).alloc _) _ 1 1 [.int .i64 0,.int .i64 aH] rfl rfl (y_ _ _ (by simp[World.setCell]) 0 aH _) (ze 0 aH) aC (by unfold maxLen;omega) ae (by simp[World.setCell];omega) (w.heap.size+1) (by simp[World.setCell]) ?_;intro g2 cap2 w3 hown hgrow hat hlt3;have cI:=gZ (af c4) ((hgrow.block mb (by simp[World.setCell];omega) hne).trans (bV _ _ _ (by simpa [World.setCell]using hlt)));have b5:=mD cI;have hf3:=kK cI))
   all_goals
    have hown':=Ka (af fZ) hown;have hgr:World.grownBy (((w.setCell ⟨mb,9,none⟩ (.int .i64 s1)).setCell ⟨mb,7,none⟩ (.bool true)).alloc (.cells #[.int .i64 0,.int .i64 aH] 177)) w3 (Value.slice (some ⟨g,0,none⟩) (k+1) cap).ownBlock:=⟨hgrow.os,hgrow.tape,hgrow.output,hgrow.size,hgrow.block⟩
    have hblk:∀i,i<w.heap.size->i≠mb->some i≠(Value.slice (some ⟨g,0,none⟩) (k+1) cap).ownBlock->w3.heap[i]? = w.heap[i]?:=fun i au h1 h2 =>
     ((hgr.block i (by simp[World.setCell];omega) h2).trans (bV _ _ _ (by simpa [World.setCell]using au))).trans ((bf _ _ _ _ h1).trans (bf _ _ _ _ h1))
    have hr3:eI w3 bb bs:=iH (af aT) (hblk bb (af aT).2.lt (fun e=>eH e.symm) uv);have dR:bh (fun i=>i≠mb/\i≠bb/\i≠g) w w3:=⟨hgr.os,hgr.tape,hgr.output,a_ (by simp[World.setCell]) hgr.size,fun i au hp=>hblk i au hp.1 (fun e=>hp.2.2 (gT e))⟩
    have fq:=ag (zf (n:=130) (c:=c) cI hown' hr3 dR fun i h=>⟨h.1,h.2.1⟩);have b0:=iT cI;obtain⟨v0,hrow⟩:∃v,w3.cell? ⟨bb,130,none⟩=some v:=⟨_,hr3.2.cell 130 (by simp[hr3.1])⟩
    have uw:=hr3.2.frozen;clear hown hgrow hat hgr hblk hr3 dR hown' cI y1 y2 c0 bw dm kL;go_wp2;refine fy (v:=.tuple #[]) (by simp[results,results155]) rfl ?_;have aJ:=af fq;exact⟨rfl,⟨_,aJ.1,D6 aJ.2.1 (by rw[bU,af fZ];simp)⟩,aJ.2.2.1,aJ.2.2.2⟩
 ·have cQ:=Bq (rE (af bA) s1) true;have c0:=iT cQ;have bw:=qg cQ;have dm:=mD cQ;have gQ:∀o v,w.cell? ⟨g,o,none⟩=some v->((w.setCell ⟨mb,9,none⟩ (.int .i64 s1)).setCell ⟨mb,7,none⟩ (.bool true)).cell? ⟨g,o,none⟩=some v:=fun o v h=>(dC ((bf _ _ _ _ hg).trans (bf _ _ _ _ hg))).trans h;have y1:((w.setCell ⟨mb,9,none⟩ (.int .i64 s1)).setCell ⟨mb,7,none⟩ (.bool true)).cell? ⟨g,k*2,none⟩=some (.int .i64 x):=by rw[jW];exact gQ _ _ hx
  have y2:((w.setCell ⟨mb,9,none⟩ (.int .i64 s1)).setCell ⟨mb,7,none⟩ (.bool true)).cell? ⟨g,k*2+1,none⟩=some (.int .i64 y):=by rw[jW];exact gQ _ _ hy
  have c4:=ag cQ;have ij:Hid (((w.setCell ⟨mb,9,none⟩ (.int .i64 s1)).setCell ⟨mb,7,none⟩ (.bool true)).ownsRow base 177 2 (.slice (some ⟨g,0,none⟩) (k+1) cap) (k+1) (qi (l++[(x,y)]))):=by
   have:=jm (jm (af HO) hne 9 (.int .i64 s1)) hne 7 (.bool true);rw[af fZ]at this;exact this
  clear cQ gQ hx hy;go_upto_region 9 with fail;rcases kL with kL|⟨rfl,kL⟩
  all_goals
   go_quiet (fail);go_upto_region 10 with fail
   go_region_law (first|(refine step_append_lies _ rfl (.tmp 84) (.tmp 91) 81 rfl base 177 i0 (.agg #[.int .i64 0,.int .i64 0]) 2 16 y9 au hz0 hz1 hz2 rfl aC _ (k+1) _ rfl ((af ij).alloc _) _ 1 1 [.int .i64 0,.int .i64 aH] rfl rfl (y_ _ _ (by simp[World.setCell]) 0 aH _) (ze 0 aH) aC (by unfold maxLen;omega) ae (by simp[World.setCell];omega) (w.heap.size+1) (by simp[World.setCell]) ?_;intro g2 cap2 w3 hown hgrow hat hlt3;have cI:=gZ (af c4) ((hgrow.block mb (by simp[World.setCell];omega) hne).trans (bV _ _ _ (by simpa [World.setCell]using hlt)));have b5:=mD cI;have hf3:=kK cI))
   all_goals
    have hown':=Ka (af fZ) hown;have hgr:World.grownBy (((w.setCell ⟨mb,9,none⟩ (.int .i64 s1)).setCell ⟨mb,7,none⟩ (.bool true)).alloc (.cells #[.int .i64 0,.int .i64 aH] 177)) w3 (Value.slice (some ⟨g,0,none⟩) (k+1) cap).ownBlock:=⟨hgrow.os,hgrow.tape,hgrow.output,hgrow.size,hgrow.block⟩
    have hblk:∀i,i<w.heap.size->i≠mb->some i≠(Value.slice (some ⟨g,0,none⟩) (k+1) cap).ownBlock->w3.heap[i]? = w.heap[i]?:=fun i au h1 h2 =>
     ((hgr.block i (by simp[World.setCell];omega) h2).trans (bV _ _ _ (by simpa [World.setCell]using au))).trans ((bf _ _ _ _ h1).trans (bf _ _ _ _ h1))
    have hr3:eI w3 bb bs:=iH (af aT) (hblk bb (af aT).2.lt (fun e=>eH e.symm) uv);have dR:bh (fun i=>i≠mb/\i≠bb/\i≠g) w w3:=⟨hgr.os,hgr.tape,hgr.output,a_ (by simp[World.setCell]) hgr.size,fun i au hp=>hblk i au hp.1 (fun e=>hp.2.2 (gT e))⟩
    have fq:=ag (zf (n:=131) (c:=c) cI hown' hr3 dR fun i h=>⟨h.1,h.2.1⟩);have b0:=iT cI;obtain⟨v0,hrow⟩:∃v,w3.cell? ⟨bb,131,none⟩=some v:=⟨_,hr3.2.cell 131 (by simp[hr3.1])⟩
    have uw:=hr3.2.frozen;clear hown hgrow hat hgr hblk hr3 dR hown' cI y1 y2 c0 bw dm kL;go_wp2;refine fy (v:=.tuple #[]) (by simp[results,results155]) rfl ?_;have aJ:=af fq;exact⟨rfl,⟨_,aJ.1,D6 aJ.2.1 (by rw[bU,af fZ];simp)⟩,aJ.2.2.1,aJ.2.2.2⟩
 ·have cQ:=Bt (rE (af bA) s1) true;have c0:=iT cQ;have bw:=qg cQ;have dm:=mD cQ;have gQ:∀o v,w.cell? ⟨g,o,none⟩=some v->((w.setCell ⟨mb,9,none⟩ (.int .i64 s1)).setCell ⟨mb,8,none⟩ (.bool true)).cell? ⟨g,o,none⟩=some v:=fun o v h=>(dC ((bf _ _ _ _ hg).trans (bf _ _ _ _ hg))).trans h;have y1:((w.setCell ⟨mb,9,none⟩ (.int .i64 s1)).setCell ⟨mb,8,none⟩ (.bool true)).cell? ⟨g,k*2,none⟩=some (.int .i64 x):=by rw[jW];exact gQ _ _ hx
  have y2:((w.setCell ⟨mb,9,none⟩ (.int .i64 s1)).setCell ⟨mb,8,none⟩ (.bool true)).cell? ⟨g,k*2+1,none⟩=some (.int .i64 y):=by rw[jW];exact gQ _ _ hy
  have c4:=ag cQ;have ij:Hid (((w.setCell ⟨mb,9,none⟩ (.int .i64 s1)).setCell ⟨mb,8,none⟩ (.bool true)).ownsRow base 177 2 (.slice (some ⟨g,0,none⟩) (k+1) cap) (k+1) (qi (l++[(x,y)]))):=by
   have:=jm (jm (af HO) hne 9 (.int .i64 s1)) hne 8 (.bool true);rw[af fZ]at this;exact this
  clear cQ gQ hx hy;go_upto_region 9 with fail;rcases kL with kL|⟨rfl,kL⟩
  all_goals
   go_quiet (fail);go_upto_region 10 with fail
   go_region_law (first|(refine step_append_lies _ rfl (.tmp 84) (.tmp 91) 81 rfl base 177 i0 (.agg #[.int .i64 0,.int .i64 0]) 2 16 y9 au hz0 hz1 hz2 rfl aC _ (k+1) _ rfl ((af ij).alloc _) _ 1 1 [.int .i64 1,.int .i64 aH] rfl rfl (y_ _ _ (by simp[World.setCell]) 1 aH _) (ze 1 aH) aC (by unfold maxLen;omega) ae (by simp[World.setCell];omega) (w.heap.size+1) (by simp[World.setCell]) ?_;intro g2 cap2 w3 hown hgrow hat hlt3;have cI:=gZ (af c4) ((hgrow.block mb (by simp[World.setCell];omega) hne).trans (bV _ _ _ (by simpa [World.setCell]using hlt)));have b5:=mD cI;have hf3:=kK cI))
   all_goals
    have hown':=Ka (af fZ) hown;have hgr:World.grownBy (((w.setCell ⟨mb,9,none⟩ (.int .i64 s1)).setCell ⟨mb,8,none⟩ (.bool true)).alloc (.cells #[.int .i64 1,.int .i64 aH] 177)) w3 (Value.slice (some ⟨g,0,none⟩) (k+1) cap).ownBlock:=⟨hgrow.os,hgrow.tape,hgrow.output,hgrow.size,hgrow.block⟩
    have hblk:∀i,i<w.heap.size->i≠mb->some i≠(Value.slice (some ⟨g,0,none⟩) (k+1) cap).ownBlock->w3.heap[i]? = w.heap[i]?:=fun i au h1 h2 =>
     ((hgr.block i (by simp[World.setCell];omega) h2).trans (bV _ _ _ (by simpa [World.setCell]using au))).trans ((bf _ _ _ _ h1).trans (bf _ _ _ _ h1))
    have hr3:eI w3 bb bs:=iH (af aT) (hblk bb (af aT).2.lt (fun e=>eH e.symm) uv);have dR:bh (fun i=>i≠mb/\i≠bb/\i≠g) w w3:=⟨hgr.os,hgr.tape,hgr.output,a_ (by simp[World.setCell]) hgr.size,fun i au hp=>hblk i au hp.1 (fun e=>hp.2.2 (gT e))⟩
    have fq:=ag (zf (n:=642) (c:=c) cI hown' hr3 dR fun i h=>⟨h.1,h.2.1⟩);have b0:=iT cI;obtain⟨v0,hrow⟩:∃v,w3.cell? ⟨bb,642,none⟩=some v:=⟨_,hr3.2.cell 642 (by simp[hr3.1])⟩
    have uw:=hr3.2.frozen;clear hown hgrow hat hgr hblk hr3 dR hown' cI y1 y2 c0 bw dm kL;go_wp2;refine fy (v:=.tuple #[]) (by simp[results,results155]) rfl ?_;have aJ:=af fq;exact⟨rfl,⟨_,aJ.1,D6 aJ.2.1 (by rw[bU,af fZ];simp)⟩,aJ.2.2.1,aJ.2.2.2⟩
 ·have cQ:=Bt (rE (af bA) s1) true;have c0:=iT cQ;have bw:=qg cQ;have dm:=mD cQ;have gQ:∀o v,w.cell? ⟨g,o,none⟩=some v->((w.setCell ⟨mb,9,none⟩ (.int .i64 s1)).setCell ⟨mb,8,none⟩ (.bool true)).cell? ⟨g,o,none⟩=some v:=fun o v h=>(dC ((bf _ _ _ _ hg).trans (bf _ _ _ _ hg))).trans h;have y1:((w.setCell ⟨mb,9,none⟩ (.int .i64 s1)).setCell ⟨mb,8,none⟩ (.bool true)).cell? ⟨g,k*2,none⟩=some (.int .i64 x):=by rw[jW];exact gQ _ _ hx
  have y2:((w.setCell ⟨mb,9,none⟩ (.int .i64 s1)).setCell ⟨mb,8,none⟩ (.bool true)).cell? ⟨g,k*2+1,none⟩=some (.int .i64 y):=by rw[jW];exact gQ _ _ hy
  have c4:=ag cQ;have ij:Hid (((w.setCell ⟨mb,9,none⟩ (.int .i64 s1)).setCell ⟨mb,8,none⟩ (.bool true)).ownsRow base 177 2 (.slice (some ⟨g,0,none⟩) (k+1) cap) (k+1) (qi (l++[(x,y)]))):=by
   have:=jm (jm (af HO) hne 9 (.int .i64 s1)) hne 8 (.bool true);rw[af fZ]at this;exact this
  clear cQ gQ hx hy;go_upto_region 9 with fail;rcases kL with kL|⟨rfl,kL⟩
  all_goals
   go_quiet (fail);go_upto_region 10 with fail
   go_region_law (first|(refine step_append_lies _ rfl (.tmp 84) (.tmp 91) 81 rfl base 177 i0 (.agg #[.int .i64 0,.int .i64 0]) 2 16 y9 au hz0 hz1 hz2 rfl aC _ (k+1) _ rfl ((af ij).alloc _) _ 1 1 [.int .i64 1,.int .i64 aH] rfl rfl (y_ _ _ (by simp[World.setCell]) 1 aH _) (ze 1 aH) aC (by unfold maxLen;omega) ae (by simp[World.setCell];omega) (w.heap.size+1) (by simp[World.setCell]) ?_;intro g2 cap2 w3 hown hgrow hat hlt3;have cI:=gZ (af c4) ((hgrow.block mb (by simp[World.setCell];omega) hne).trans (bV _ _ _ (by simpa [World.setCell]using hlt)));have b5:=mD cI;have hf3:=kK cI))
   all_goals
    have hown':=Ka (af fZ) hown;have hgr:World.grownBy (((w.setCell ⟨mb,9,none⟩ (.int .i64 s1)).setCell ⟨mb,8,none⟩ (.bool true)).alloc (.cells #[.int .i64 1,.int .i64 aH] 177)) w3 (Value.slice (some ⟨g,0,none⟩) (k+1) cap).ownBlock:=⟨hgrow.os,hgrow.tape,hgrow.output,hgrow.size,hgrow.block⟩
    have hblk:∀i,i<w.heap.size->i≠mb->some i≠(Value.slice (some ⟨g,0,none⟩) (k+1) cap).ownBlock->w3.heap[i]? = w.heap[i]?:=fun i au h1 h2 =>
     ((hgr.block i (by simp[World.setCell];omega) h2).trans (bV _ _ _ (by simpa [World.setCell]using au))).trans ((bf _ _ _ _ h1).trans (bf _ _ _ _ h1))
    have hr3:eI w3 bb bs:=iH (af aT) (hblk bb (af aT).2.lt (fun e=>eH e.symm) uv);have dR:bh (fun i=>i≠mb/\i≠bb/\i≠g) w w3:=⟨hgr.os,hgr.tape,hgr.output,a_ (by simp[World.setCell]) hgr.size,fun i au hp=>hblk i au hp.1 (fun e=>hp.2.2 (gT e))⟩
    have fq:=ag (zf (n:=643) (c:=c) cI hown' hr3 dR fun i h=>⟨h.1,h.2.1⟩);have b0:=iT cI;obtain⟨v0,hrow⟩:∃v,w3.cell? ⟨bb,643,none⟩=some v:=⟨_,hr3.2.cell 643 (by simp[hr3.1])⟩
    have uw:=hr3.2.frozen;clear hown hgrow hat hgr hblk hr3 dR hown' cI y1 y2 c0 bw dm kL;go_wp2;refine fy (v:=.tuple #[]) (by simp[results,results155]) rfl ?_;have aJ:=af fq;exact⟨rfl,⟨_,aJ.1,D6 aJ.2.1 (by rw[bU,af fZ];simp)⟩,aJ.2.2.1,aJ.2.2.2⟩
end Go.Proofs.YtkkpahmoljiepaaGreatDoor
