import Derived.Test.YtkkpahmoljiepaaGreatDoorJ27
set_option maxRecDepth 1000000
set_option maxHeartbeats 12800000
set_option linter.unusedSimpArgs false
set_option linter.unusedVariables false
namespace Go.Proofs.YtkkpahmoljiepaaGreatDoor
open Go.RowKit
abbrev ER:=List (ai ⊕ ai)
def lI:ER->ai->oM->ai×oM
 | [],S,es=>(S,es)
 | .inl b :: t,S,es=>lI t (S++b) es
 | .inr x :: t,S,es=>lI t (gR (aS 46 x) S es).1 (gR (aS 46 x) S es).2
def eD(r:aj)(i:Nat):ai:=(aS 32 r.data).getD i []
def nu(x:ai):Nat:=kV 4294967295 x
def uP(r:aj):ER :=
 if r.type=1 then [.inl ((aS 46 r.data).map fun x=>UInt8.ofNat (nu x))]
 else if r.type=16 then [.inl (UInt8.ofNat r.data.length :: r.data)]
 else if r.type=15 then [.inl [au (nu (eD r 0)),eO (nu (eD r 0))],.inr (eD r 1)]
 else if r.type=6 then [.inr (eD r 0),.inr (eD r 1),.inl (uO (nu (eD r 2))++uO 3600++uO 600++uO 86400++uO (nu (eD r 3)))]
 else [.inr (eD r 0)]
theorem aaw{aR:List ai}(h:eF 1 aR=true):∃a,aR = [a]/\(aS 46 a).all (fL 255)=true/\(aS 46 a).length=4:=by
 match aR,h with
 | [a],h =>{have h':yn a=true:=h;unfold yn at h';simp only[fo,iv]at h';exact⟨a,rfl,h'⟩}
theorem zN{t:Nat}{aR:List ai}(ht:t=2\/t=5)(h:eF (t:Int) aR=true):∃a,aR = [a]/\fG a=true:=by
 rcases ht with rfl|rfl;{
 match aR,h with
 | [a],h=>exact⟨a,rfl,h⟩};{
 match aR,h with
 | [a],h=>exact⟨a,rfl,h⟩}
theorem LR{aR:List ai}(h:eF 6 aR=true):∃a b c d,aR = [a,b,c,d]/\fG a=true/\fG b=true/\fL 4294967295 c=true/\fL 86400 d=true:=by
 match aR,h with
 | [a,b,c,d],h =>{have h':(fG a && fG b && fL 4294967295 c && fL 86400 d)=true:=h;simp only[fo]at h';exact⟨a,b,c,d,rfl,h'.1.1.1,h'.1.1.2,h'.1.2,h'.2⟩}
theorem LS{aR:List ai}(h:eF 15 aR=true):∃a b,aR = [a,b]/\fL 65535 a=true/\fG b=true:=by
 match aR,h with
 | [a,b],h =>{have h':(fL 65535 a && fG b)=true:=h;simp only[fo]at h';exact⟨a,b,rfl,h'⟩}
theorem amQ{aR:List ai}(h:eF 16 aR=true):∃a,aR = [a]/\a.length<=40:=by
 match aR,h with
 | [a],h =>{have h':yh a=true:=h;unfold yh at h';simp only[fo,Af]at h';exact⟨a,rfl,h'.2⟩}
theorem LU{m:Nat}{x:ai}(hm:m<=4294967295)(h:fL m x=true):fL 4294967295 x=true/\nu x<=m:=by
 rw[Qh m ae]at h;rw[Qh 4294967295 ae];cases hf:zB x with
 | none=>rw[hf]at h;cases h
 | some v =>{
 rw[hf]at h;have hv:v<=m:=by simpa using h
 refine⟨aX,?_⟩;unfold nu;rw[YA 4294967295 ae x v hf ae];exact hv}
end Go.Proofs.YtkkpahmoljiepaaGreatDoor
