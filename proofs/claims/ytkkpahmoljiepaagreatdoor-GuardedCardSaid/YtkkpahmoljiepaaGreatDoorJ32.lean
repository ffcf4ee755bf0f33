import Derived.Test.YtkkpahmoljiepaaGreatDoorJ22
set_option maxRecDepth 1000000
set_option maxHeartbeats 12800000
set_option linter.unusedSimpArgs false
set_option linter.unusedVariables false
namespace Go.Proofs.YtkkpahmoljiepaaGreatDoor
open Go.RowKit
theorem aaO(c:UInt8):∀(T:List ai),T≠[]->(∀x∈T,c ∉ x)->aS c (mJ c T)=T
 | [],h,_=>absurd rfl h
 | [x],_,h=>by rcases rK c x with⟨_,e⟩|⟨a,b,e0,_,_⟩;{exact e};{exact absurd (by rw[e0];simp) (h x ak)}
 | x :: y :: t,_,h=>by
  have hx:=h x ak;have ih:=aaO c (y :: t) ak (fun z hz=>h z (nB _ hz));rw[mJ];rcases rK c (x++c :: mJ c (y :: t))with⟨h1,_⟩|⟨a,b,e0,h0,e⟩;{exact absurd ak h1};{
  have:a=x/\b=mJ c (y :: t):=by{
  rcases List.append_eq_append_iff.1 e0 with⟨u,hu1,hu2⟩|⟨u,hu1,hu2⟩;{
  cases u with
  | nil=>simp at hu1 hu2;exact⟨hu1,hu2.symm⟩
  | cons z u=>simp at hu2;rw[hu1,<- hu2.1]at h0;exact absurd ak h0};{
  cases u with
  | nil=>simp at hu1 hu2;exact⟨hu1.symm,hu2⟩
  | cons z u=>simp at hu2;rw[hu1,<- hu2.1]at hx;exact absurd ak hx}};rw[e,this.1,this.2,ih]}
end Go.Proofs.YtkkpahmoljiepaaGreatDoor
