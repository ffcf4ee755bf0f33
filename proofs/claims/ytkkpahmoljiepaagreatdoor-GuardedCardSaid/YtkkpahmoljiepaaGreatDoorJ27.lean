import Derived.Test.YtkkpahmoljiepaaGreatDoorJ26
import Derived.StillTail
set_option maxRecDepth 1000000
set_option maxHeartbeats 12800000
set_option linter.unusedSimpArgs false
set_option linter.unusedVariables false
namespace Go.Proofs.YtkkpahmoljiepaaGreatDoor
open Go.RowKit
section
open Go
end
theorem amK{w:World}{base:Nat}{v:Value}{fs:List iD}(h:rq w base v fs):xq w base v (fs.map ik):=by unfold rq at h;unfold xq;rw[hE,pK];exact h
theorem amL(r:aj)(us:List Nat)(ho:r.owner.length<=300)(ht:r.type=1)(hl:r.aV<4294967296)(aD:r.data.length<=3000)(hu:Gl r.data us)(hne:ly us≠[])(amM:(ly us).length<=1000)(bE:∀f∈ly us,f.nL):na r ((ly us).map ik) where
 own:=ho
 typ:=by rw[ht];exact⟨rfl,aC⟩
 aV:=hl
 data:=fun W hG=>by
  refine(afQ r us W hG ht aD hu).mono ?_;rintro e w' ⟨⟨v,rfl,hv⟩,hb⟩;exact⟨⟨v,rfl,amK hv⟩,hb⟩
 ok:=fun mb base I _ _ _ f hf=>by
  obtain⟨g,hg,rfl⟩:=oh.1 hf;exact oD (bE g hg) _ _ _
 ne:=by simpa using hne
 few:=by simpa using amM
theorem amN(r:aj)(ho:r.owner.length<=300)(ht:r.type=6)(hl:r.aV<4294967296)(aD:r.data.length<=3000)(x0 x1 x2 x3:ai)(n2 n3:Nat)(hw:ft 32 (ah r.data) = [ah x0,ah x1,ah x2,ah x3])(um:Lib.parseUintB 64 x2=.ok n2)(ru:Lib.parseUintB 64 x3=.ok n3)(hl0:x0.length<=300)(dg:x1.length<=300)(hl2:x2.length<=3000)(hl3:x3.length<=3000):na r (xt x0 x1 n2 n3) where
 own:=ho
 typ:=by rw[ht];exact⟨rfl,aC⟩
 aV:=hl
 data:=fun W hG=>afU r W hG ht aD x0 x1 x2 x3 n2 n3 hw um ru hl2 hl3
 ok:=fun mb base I hI hb hm f hf=>by
  simp only[xt,eK,uW,uZ]at hf;rcases hf with rfl|rfl|rfl|rfl|rfl|rfl|rfl
  ·exact Dx _ hl0 _ _ _ hI hb hm
  ·exact Dx _ dg _ _ _ hI hb hm
  ·exact oD (Dk _ (Aa _ ae)) _ _ _
  ·exact oD (Dk _ ae) _ _ _
  ·exact oD (Dk _ ae) _ _ _
  ·exact oD (Dk _ ae) _ _ _
  ·exact oD (Dk _ (Aa _ ae)) _ _ _
 ne:=by simp[xt]
 few:=by simp[xt]
theorem amO(r:aj)(ho:r.owner.length<=300)(ht:r.type=16)(hl:r.aV<4294967296)(aD:r.data.length<=3000):na r (yT r.data) where
 own:=ho
 typ:=by rw[ht];exact⟨rfl,aC⟩
 aV:=hl
 data:=fun W hG=>afR r W hG ht aD
 ok:=fun mb base I hI hb hm f hf=>by
  simp only[yT,eK,uW,uZ]at hf;rcases hf with rfl|rfl
  ·exact oD (vG _) _ _ _
  ·exact oD (iO _) _ _ _
 ne:=by simp[yT]
 few:=by simp[yT]
theorem amP(r:aj)(ho:r.owner.length<=300)(ht:r.type=15)(hl:r.aV<4294967296)(aD:r.data.length<=3000)(x0 x1:ai)(n0:Nat)(hw:ft 32 (ah r.data) = [ah x0,ah x1])(jf:Lib.parseUintB 64 x0=.ok n0)(hl0:x0.length<=3000)(dg:x1.length<=300):na r (xu n0 x1) where
 own:=ho
 typ:=by rw[ht];exact⟨rfl,aC⟩
 aV:=hl
 data:=fun W hG=>afT r W hG ht aD x0 x1 n0 hw jf hl0
 ok:=fun mb base I hI hb hm f hf=>by
  simp only[xu,eK,uW,uZ]at hf;rcases hf with rfl|rfl
  ·exact oD (kC _ (Aa _ ae)) _ _ _
  ·exact Dx _ dg _ _ _ hI hb hm
 ne:=by simp[xu]
 few:=by simp[xu]
theorem aav(r:aj)(ho:r.owner.length<=300)(ht:r.type=2\/r.type=5)(hl:r.aV<4294967296)(aD:r.data.length<=300):na r [sI r.data] where
 own:=ho
 typ:=by rcases ht with ht|ht <;> rw[ht] <;> exact⟨rfl,aC⟩
 aV:=hl
 data:=fun W hG=>by
  rcases ht with ht|ht
  ·exact VB r W hG 2 ht aC aC aC aC ae
  ·exact VB r W hG 5 ht aC aC aC aC ae
 ok:=fun mb base I hI hb hm f hf=>by
  simp only[eK,uW,uZ]at hf;subst hf;exact Dx _ aD _ _ _ hI hb hm
 ne:=ak
 few:=ak
end Go.Proofs.YtkkpahmoljiepaaGreatDoor
