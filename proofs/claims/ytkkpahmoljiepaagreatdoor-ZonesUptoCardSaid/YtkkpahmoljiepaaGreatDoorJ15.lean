/- Names as texts and as labels; runs of a list whose like elements stand side by side. Nothing of memory here. -/
import Derived.Test.YtkkpahmoljiepaaGreatDoorJ14
import Derived.Test.YtkkpahmoljiepaaGreatDoorJ11
import Derived.BigRegion
set_option linter.unusedSimpArgs false
set_option linter.unusedVariables false
namespace Go.Proofs.YtkkpahmoljiepaaGreatDoor
open Go.RowKit
open Pu (Str aH aU)
namespace Em
open Ka Ed Ek Ia
theorem spl_app (c:UInt8) (b:Str) : ∀ (a:Str),Sp.spl c (a++c :: b)=Sp.spl c a++Sp.spl c b:=by
 intro a
 have key : ∀ (n:Nat) (a:Str),a.length≤n→Sp.spl c (a++c :: b)=Sp.spl c a++Sp.spl c b:=by
  intro n
  induction n with
  | zero=>intro a h; obtain rfl:a = []:=List.eq_nil_of_length_eq_zero (by omega); exact Sp.spl_some c [] b (by simp)
  | succ n ih =>
   intro a h
   rcases cut_first c a with ⟨h1,e⟩ | ⟨x,y,e1,h1,e⟩
   ·rw [e,Sp.spl_some c a b h1]; rfl
   ·rw [e,e1,List.append_assoc,List.cons_append,Sp.spl_some c x _ h1,ih y (by rw [e1] at h; simp at h; omega)]; rfl
 exact key a.length a (Nat.le_refl _)
theorem spl_inj {c:UInt8} {a b:Str} (h:Sp.spl c a=Sp.spl c b):a=b:=by
 rw [← joinC_spl c a,h,joinC_spl]
theorem joinC_app (c:UInt8) : ∀ (a b:List Str),a≠[]→b≠[]→joinC c (a++b)=joinC c a++c :: joinC c b
 | [],_,h,_=>absurd rfl h
 | [x],b,_,hb=>by
  cases b with
  | nil=>exact absurd rfl hb
  | cons y t=>rfl
 | x :: y :: t,b,_,hb=>by
  rw [List.cons_append,List.cons_append,joinC,← List.cons_append,joinC_app c (y :: t) b (by simp) hb,joinC]
  simp
theorem und_text (l o:Str):undP (Sp.spl 46 l) (Sp.spl 46 o)=Sp.under l o:=by
 have hne:=Sp.spl_ne 46 o
 unfold undP Sp.under Lib.hasSuffix
 rw [Bool.eq_iff_iff]
 simp only [Bool.and_eq_true,decide_eq_true_eq,Bool.or_eq_true,beq_iff_eq,List.isSuffixOf_iff_suffix]
 constructor
 ·rintro ⟨h1,h2⟩
  have hd:=List.take_append_drop ((Sp.spl 46 l).length - (Sp.spl 46 o).length) (Sp.spl 46 l)
  rw [h2] at hd
  cases hp:(Sp.spl 46 l).take ((Sp.spl 46 l).length - (Sp.spl 46 o).length) with
  | nil =>
   rw [hp,List.nil_append] at hd
   exact .inl (spl_inj hd.symm)
  | cons a t =>
   rw [hp] at hd
   refine .inr ⟨joinC 46 (a :: t),?_⟩
   have:=joinC_app 46 (a :: t) (Sp.spl 46 o) (by simp) hne
   rw [hd,joinC_spl,joinC_spl] at this
   exact this.symm
 ·rintro (rfl | ⟨a,ha⟩)
  ·exact ⟨Nat.le_refl _,by simp⟩
  ·rw [← ha,spl_app]
   exact ⟨by simp,by simp⟩
section
variable {κ:Type}
def Grp (k:Rec→κ):List Rec→Prop
 | []=>True
 | r :: t=>(∀ a b,t=a++b→(∃ x∈a,k x≠k r)→∀ y∈b,k y≠k r)∧Grp k t
theorem Grp.drop {k:Rec→κ} : ∀ (l:List Rec) (n:Nat),Grp k l→Grp k (l.drop n)
 | [],n,h=>by simp; trivial
 | r :: t,0,h=>h
 | r :: t,n+1,h=>by
  rw [List.drop_succ_cons]
  exact Grp.drop t n h.2
theorem drop_of {a b t:List Rec} (h:a++b=t):b=t.drop a.length:=by subst h; simp
theorem filter_of {a b t:List Rec} (h:a++b=t) (p:Rec→Bool):t.filter p=a.filter p++b.filter p:=by subst h; simp
theorem drop_while {k:Rec→κ} {r:Rec} {t:List Rec} (h:Grp k (r :: t)) (same:Rec→Rec→Bool) (hs : ∀ a b,same a b=true ↔ k a=k b) : ∀ y∈t.dropWhile (same r),k y≠k r:=by
 intro y hy
 cases hd:t.dropWhile (same r) with
 | nil=>rw [hd] at hy; cases hy
 | cons z u =>
  have hz:same r z=false:=by
   have:=List.head?_dropWhile_not (same r) t
   rw [hd] at this
   simpa using this
  have hzk:k z≠k r:=fun e=>by
   have:=(hs r z).2 e.symm
   rw [hz] at this; cases this
  rw [hd] at hy
  rcases List.mem_cons.1 hy with rfl | hy
  ·exact hzk
  ·have e:t=(t.takeWhile (same r)++[z])++u:=by
    have:=(List.takeWhile_append_dropWhile (p:=same r) (l:=t)).symm
    rw [hd] at this
    simpa using this
   exact h.1 _ _ e ⟨z,by simp,hzk⟩ y hy
theorem runs_grp {k:Rec→κ} (same:Rec→Rec→Bool) (hs : ∀ a b,same a b=true ↔ k a=k b) : ∀ (f n:Nat) (l:List Rec),l.length≤f→Grp k l →
  (∀ x∈runsP same f n l,∃ r∈l,x.2.head? = some r∧x.2=l.filter (same r))∧(∀ r∈l,∃ x∈runsP same f n l,x.2=l.filter (same r))
 | 0,n,l,hl,_=>by
  obtain rfl:l = []:=List.eq_nil_of_length_eq_zero (by omega)
  exact ⟨fun x hx=>(by cases hx),fun r hr=>(by cases hr)⟩
 | f+1,n,[],_,_=>⟨fun x hx=>(by cases hx),fun r hr=>(by cases hr)⟩
 | f+1,n,r :: t,hl,hg=>by
  have hrr:same r r=true:=(hs r r).2 rfl
  have hdw:=drop_while hg same hs
  have htd:=List.takeWhile_append_dropWhile (p:=same r) (l:=t)
  have hrest:Grp k (t.dropWhile (same r)):=by
   have e:t.dropWhile (same r)=t.drop (t.takeWhile (same r)).length:=drop_of htd
   rw [e]; exact Grp.drop t _ hg.2
  have hlen:(t.dropWhile (same r)).length≤f:=by
   have:=congrArg List.length htd
   rw [List.length_append] at this
   simp at hl; omega
  obtain ⟨i1,i2⟩:=runs_grp same hs f (n+1+(t.takeWhile (same r)).length) (t.dropWhile (same r)) hlen hrest
  have hft : ∀ y∈t.takeWhile (same r),same r y=true:=fun y hy=>by
   have:=List.all_takeWhile (p:=same r) (l:=t)
   exact List.all_eq_true.1 this y hy
  have hrun:(r :: t).filter (same r)=r :: t.takeWhile (same r):=by
   rw [List.filter_cons_of_pos hrr]
   congr 1
   rw [filter_of htd,List.filter_eq_self.2 hft,List.filter_eq_nil_iff.2 (fun y hy hc=>hdw y hy ((hs r y).1 hc).symm),List.append_nil]
  have hother : ∀ s∈t.dropWhile (same r),(r :: t).filter (same s)=(t.dropWhile (same r)).filter (same s):=fun s hsm=>by
   have hsr:=hdw s hsm
   have hn:same s r=false:=by
    rw [← Bool.not_eq_true,hs]; exact hsr
   rw [List.filter_cons_of_neg (by rw [hn]; simp)]
   rw [filter_of htd,List.filter_eq_nil_iff.2 (fun y hy hc=>?_),List.nil_append]
   have e1:=(hs r y).1 (hft y hy)
   have e2:=(hs s y).1 hc
   exact hsr (e2.trans e1.symm)
  have hmem : ∀ s∈t.dropWhile (same r),s∈t:=fun s hsm=>by rw [← htd]; exact List.mem_append_right _ hsm
  refine ⟨fun x hx=>?_,fun s hsm=>?_⟩
  ·rw [runsP] at hx
   rcases List.mem_cons.1 hx with rfl | hx
   ·exact ⟨r,by simp,rfl,hrun.symm⟩
   ·obtain ⟨s,h1,h2,h3⟩:=i1 x hx
    exact ⟨s,by simp [hmem s h1],h2,by rw [h3,hother s h1]⟩
  ·rw [runsP]
   rcases List.mem_cons.1 hsm with rfl | hsm
   ·exact ⟨_,List.mem_cons_self,hrun.symm⟩
   ·rw [← htd] at hsm
    rcases List.mem_append.1 hsm with h | h
    ·refine ⟨_,List.mem_cons_self,?_⟩
     have e:same s=same r:=by
      funext y
      have hk:=(hs r s).1 (hft s h)
      rw [Bool.eq_iff_iff,hs,hs,hk]
     rw [e]; exact hrun.symm
    ·obtain ⟨x,hx,e⟩:=i2 s h
     exact ⟨x,List.mem_cons_of_mem _ hx,by rw [e,hother s h]⟩
end
end Em
end Go.Proofs.YtkkpahmoljiepaaGreatDoor

namespace Go.Proofs.YtkkpahmoljiepaaGreatDoor
open Go.RowKit Go.Sort
open Pu (Str aH aU)
namespace Sc
section
variable {α:Type} (lt:α→α→Bool)
def mg:List α→List α→List α
 | [],ys=>ys
 | a :: xs,[]=>a :: xs
 | a :: xs,b :: ys=>if lt b a then b :: mg (a :: xs) ys else a :: mg xs (b :: ys)
termination_by xs ys=>xs.length+ys.length
structure Wk:Prop where
 tr : ∀ x y z,lt x y=true→lt y z=true→lt x z=true
 nt : ∀ x y z,lt x y=false→lt y z=false→lt x z=false
def Srt (l:List α):Prop:=l.Pairwise fun x y=>lt y x=false
@[simp] theorem mg_nil (l:List α):mg lt [] l=l:=by unfold mg; rfl
@[simp] theorem mg_nil' (l:List α):mg lt l []=l:=by cases l <;> simp [mg]
theorem mg_cons (a b:α) (xs ys:List α):mg lt (a :: xs) (b :: ys)=if lt b a then b :: mg lt (a :: xs) ys else a :: mg lt xs (b :: ys):=by
 conv=>lhs; unfold mg
theorem mg_lt {a b:α} (xs ys:List α) (h:lt b a=true):mg lt (a :: xs) (b :: ys)=b :: mg lt (a :: xs) ys:=by rw [mg_cons,if_pos h]
theorem mg_ge {a b:α} (xs ys:List α) (h:lt b a=false):mg lt (a :: xs) (b :: ys)=a :: mg lt xs (b :: ys):=by rw [mg_cons,if_neg (by simp [h])]
theorem mg_split (A2 B2:List α) : ∀ (A1 B1:List α),(∀ b∈B1,∀ a∈A2,lt b a=true)→(∀ a∈A1,∀ b∈B2,lt b a=false)→mg lt (A1++A2) (B1++B2)=mg lt A1 B1++mg lt A2 B2
 | [],[],_,_=>by simp
 | [],b :: B1,h,k=>by
  have ih:=mg_split A2 B2 [] B1 (fun b hb=>h b (by simp [hb])) k
  cases A2 with
  | nil=>simp
  | cons a A2 =>
   simp only [List.nil_append,mg_nil,List.cons_append] at ih ⊢
   rw [mg_lt lt _ _ (h b (by simp) a (by simp)),ih]
 | a :: A1,[],h,k=>by
  have ih:=mg_split A2 B2 A1 [] h (fun a ha=>k a (by simp [ha]))
  cases B2 with
  | nil=>simp
  | cons b B2 =>
   simp only [List.nil_append,mg_nil',List.cons_append] at ih ⊢
   rw [mg_ge lt _ _ (k a (by simp) b (by simp)),ih]
 | a :: A1,b :: B1,h,k=>by
  cases e:lt b a
  ·have ih:=mg_split A2 B2 A1 (b :: B1) h (fun a ha=>k a (by simp [ha]))
   simp only [List.cons_append] at ih ⊢
   rw [mg_ge lt _ _ e,mg_ge lt _ _ e,ih,List.cons_append]
  ·have ih:=mg_split A2 B2 (a :: A1) B1 (fun b hb=>h b (by simp [hb])) k
   simp only [List.cons_append] at ih ⊢
   rw [mg_lt lt _ _ e,mg_lt lt _ _ e,ih,List.cons_append]
termination_by A1 B1=>A1.length+B1.length
theorem mg_assoc (hw:Wk lt) : ∀ (A B C:List α),mg lt (mg lt A B) C=mg lt A (mg lt B C)
 | [],B,C=>by simp
 | a :: A,[],C=>by simp
 | a :: A,b :: B,[]=>by simp
 | a :: A,b :: B,c :: C=>by
  cases hba:lt b a
  ·cases hca:lt c a
   ·have ih:=mg_assoc hw A (b :: B) (c :: C)
    rw [mg_ge lt _ _ hba,mg_ge lt _ _ hca,ih]
    cases hcb:lt c b
    ·rw [mg_ge lt _ _ hcb,mg_ge lt _ _ hba]
    ·rw [mg_lt lt _ _ hcb,mg_ge lt _ _ hca]
   ·have hcb:lt c b=true:=by
     cases e:lt c b
     ·have:=hw.nt _ _ _ e hba; rw [hca] at this; cases this
     ·rfl
    have ih:=mg_assoc hw (a :: A) (b :: B) C
    rw [mg_lt lt _ _ hcb,mg_lt lt _ _ hca,← ih,mg_ge lt _ _ hba,mg_lt lt _ _ hca]
  ·cases hcb:lt c b
   ·have ih:=mg_assoc hw (a :: A) B (c :: C)
    rw [mg_lt lt _ _ hba,mg_ge lt _ _ hcb,mg_ge lt _ _ hcb,mg_lt lt _ _ hba,ih]
   ·have hca:=hw.tr _ _ _ hcb hba
    have ih:=mg_assoc hw (a :: A) (b :: B) C
    rw [mg_lt lt _ _ hcb,mg_lt lt _ _ hca,← ih,mg_lt lt _ _ hba,mg_lt lt _ _ hcb]
termination_by A B C=>A.length+B.length+C.length
def iso (l:List α):List α:=l.foldl (fun s x=>mg lt s [x]) []
theorem iso_snoc (l:List α) (x:α):iso lt (l++[x])=mg lt (iso lt l) [x]:=by simp [iso]
theorem iso_app (hw:Wk lt) (A B:List α):iso lt (A++B)=mg lt (iso lt A) (iso lt B):=by
 obtain ⟨n,hn⟩ : ∃ n,n=B.length:=⟨_,rfl⟩
 induction n generalizing B with
 | zero=>have:B = []:=List.length_eq_zero_iff.1 hn.symm; subst this; simp [iso]
 | succ n ih =>
  rcases List.eq_nil_or_concat B with rfl | ⟨B',x,rfl⟩
  ·simp at hn
  ·rw [List.concat_eq_append] at hn ⊢
   rw [← List.append_assoc,iso_snoc,iso_snoc,ih B' (by simp at hn; omega),mg_assoc lt hw]
theorem mg_len : ∀ (A B:List α),(mg lt A B).length=A.length+B.length
 | [],B=>by simp
 | a :: A,[]=>by simp
 | a :: A,b :: B=>by
  cases e:lt b a
  ·rw [mg_ge lt _ _ e,List.length_cons,mg_len A (b :: B)]; simp; omega
  ·rw [mg_lt lt _ _ e,List.length_cons,mg_len (a :: A) B]; simp; omega
termination_by A B=>A.length+B.length
theorem iso_len (l:List α):(iso lt l).length=l.length:=by
 obtain ⟨n,hn⟩ : ∃ n,n=l.length:=⟨_,rfl⟩
 induction n generalizing l with
 | zero=>have:l = []:=List.length_eq_zero_iff.1 hn.symm; subst this; simp [iso]
 | succ n ih =>
  rcases List.eq_nil_or_concat l with rfl | ⟨l',x,rfl⟩
  ·simp at hn
  ·rw [List.concat_eq_append] at hn ⊢
   rw [iso_snoc,mg_len,ih l' (by simp at hn; omega)]; simp
theorem mg_mem (z:α) : ∀ (A B:List α),z∈mg lt A B→z∈A∨z∈B
 | [],B,h=>by simpa using h
 | a :: A,[],h=>by simpa using h
 | a :: A,b :: B,h=>by
  cases e:lt b a
  ·rw [mg_ge lt _ _ e] at h
   rcases List.mem_cons.1 h with h | h
   ·exact .inl (by simp [h])
   ·exact (mg_mem z A (b :: B) h).imp (fun h=>List.mem_cons_of_mem _ h) id
  ·rw [mg_lt lt _ _ e] at h
   rcases List.mem_cons.1 h with h | h
   ·exact .inr (by simp [h])
   ·exact (mg_mem z (a :: A) B h).imp id (fun h=>List.mem_cons_of_mem _ h)
termination_by A B=>A.length+B.length
theorem as_of (hw:Wk lt) {x y:α} (h:lt x y=true) (hxx:lt x x=false):lt y x=false:=by
 cases e:lt y x
 ·rfl
 ·have:=hw.tr _ _ _ h e; rw [hxx] at this; cases this
theorem mg_srt (hw:Wk lt) (ir : ∀ x,lt x x=false) : ∀ (A B:List α),Srt lt A→Srt lt B→Srt lt (mg lt A B)
 | [],B,_,h=>by simpa using h
 | a :: A,[],h,_=>by simpa using h
 | a :: A,b :: B,hA,hB=>by
  have hA':=List.pairwise_cons.1 hA
  have hB':=List.pairwise_cons.1 hB
  cases e:lt b a
  ·rw [mg_ge lt _ _ e]
   refine List.pairwise_cons.2 ⟨fun z hz=>?_,mg_srt hw ir A (b :: B) hA'.2 hB⟩
   rcases mg_mem lt z _ _ hz with h | h
   ·exact hA'.1 z h
   ·rcases List.mem_cons.1 h with rfl | h
    ·exact e
    ·exact hw.nt _ _ _ (hB'.1 z h) e
  ·rw [mg_lt lt _ _ e]
   refine List.pairwise_cons.2 ⟨fun z hz=>?_,mg_srt hw ir (a :: A) B hA hB'.2⟩
   have hab:=as_of lt hw e (ir b)
   rcases mg_mem lt z _ _ hz with h | h
   ·rcases List.mem_cons.1 h with rfl | h
    ·exact hab
    ·exact hw.nt _ _ _ (hA'.1 z h) hab
   ·exact hB'.1 z h
termination_by A B=>A.length+B.length
theorem iso_srt (hw:Wk lt) (ir : ∀ x,lt x x=false) (l:List α):Srt lt (iso lt l):=by
 obtain ⟨n,hn⟩ : ∃ n,n=l.length:=⟨_,rfl⟩
 induction n generalizing l with
 | zero=>have:l = []:=List.length_eq_zero_iff.1 hn.symm; subst this; simp [iso,Srt]
 | succ n ih =>
  rcases List.eq_nil_or_concat l with rfl | ⟨l',x,rfl⟩
  ·simp at hn
  ·rw [List.concat_eq_append] at hn ⊢
   rw [iso_snoc]
   exact mg_srt lt hw ir _ _ (ih l' (by simp at hn; omega)) (by simp [Srt])
theorem mg_last (hw:Wk lt) {S:List α} {x y:α} (hs:Srt lt (S++[y])) (h:lt x y=false):mg lt (S++[y]) [x]=S++[y]++[x]:=by
 have:=mg_split lt [] [x] (S++[y]) [] (by simp) (fun a ha b hb=>by
  obtain rfl:b=x:=by simpa using hb
  rcases List.mem_append.1 ha with ha | ha
  ·exact hw.nt _ _ _ h ((List.pairwise_append.1 hs).2.2 a ha y (by simp))
  ·obtain rfl:a=y:=by simpa using ha
   exact h)
 simpa using this
theorem mg_one_lt {S:List α} {x y:α} (h:lt x y=true):mg lt (S++[y]) [x]=mg lt S [x]++[y]:=by
 have:=mg_split lt [y] [] S [x] (fun b hb a ha=>by
  obtain rfl:b=x:=by simpa using hb
  obtain rfl:a=y:=by simpa using ha
  exact h) (by simp)
 simpa using this
end
section
variable {α:Type} [Inhabited α] (lt:α→α→Bool)
theorem at_list {d:Array α} {X Z:List α} {u:α} (h:d.toList=X++u :: Z):d[X.length]! = u:=by
 obtain rfl:d=(X++u :: Z).toArray:=by rw [← h]
 simp
theorem swp_list {d:Array α} {X Y Z:List α} {u v:α} (h:d.toList=X++u :: (Y++v :: Z)):(swp d X.length (X.length+1+Y.length)).toList=X++v :: (Y++u :: Z):=by
 have hu:d[X.length]! = u:=at_list h
 have hv:d[X.length+1+Y.length]! = v:=by
  have:=at_list (d:=d) (X:=X++u :: Y) (u:=v) (Z:=Z) (by rw [h]; simp)
  rw [← this]; congr 1; simp; omega
 unfold swp
 rw [hu,hv,Array.toList_setIfInBounds,Array.toList_setIfInBounds,h]
 rw [List.set_append_right _ _ (by omega),Nat.sub_self,List.set_cons_zero]
 rw [List.set_append_right _ _ (by omega),show X.length+1+Y.length - X.length=Y.length+1 from by omega,List.set_cons_succ,List.set_append_right _ _ (by omega),Nat.sub_self,List.set_cons_zero]
theorem swp_comm (d:Array α) (i j:Nat) (h:i≠j):swp d i j=swp d j i:=by
 unfold swp
 rw [Array.setIfInBounds_comm _ _ h]
def swR:Nat→Nat→Nat→Array α→Array α
 | _,_,0,d=>d
 | a,b,n+1,d=>swR (a+1) (b+1) n (swp d a b)
theorem swR_list : ∀ (A B:List α) (d:Array α) (X Y Z:List α),A.length=B.length→d.toList=X++(A++(Y++(B++Z)))→(swR X.length (X.length+A.length+Y.length) A.length d).toList=X++(B++(Y++(A++Z)))
 | [],[],d,X,Y,Z,_,h=>by simpa [swR] using h
 | [],b :: B,_,_,_,_,h,_=>by simp at h
 | a :: A,[],_,_,_,_,h,_=>by simp at h
 | a :: A,b :: B,d,X,Y,Z,hl,h=>by
  have h1:d.toList=X++a :: ((A++Y)++b :: (B++Z)):=by rw [h]; simp
  have h2:=swp_list h1
  have ih:=swR_list A B (swp d X.length (X.length+1+(A++Y).length)) (X++[b]) (Y++[a]) Z (by simpa using hl) (by rw [h2]; simp)
  rw [List.length_cons,swR]
  rw [show X.length+(A.length+1)+Y.length=X.length+1+(A++Y).length from by simp; omega]
  have e1:(X++[b]).length=X.length+1:=by simp
  have e2:(X++[b]).length+A.length+(Y++[a]).length=X.length+1+(A++Y).length+1:=by simp; omega
  rw [e1] at ih e2
  rw [e2] at ih
  rw [ih]; simp
theorem ins_list (hw:Wk lt) : ∀ (n:Nat) (S:List α) (d:Array α) (P Q:List α) (x:α),S.length=n→Srt lt S→d.toList=P++(S++x :: Q)→(insInner lt P.length (P.length+n) d).toList=P++(mg lt S [x]++Q)
 | 0,S,d,P,Q,x,hn,_,h=>by
  obtain rfl:S = []:=List.length_eq_zero_iff.1 hn
  have:insInner lt P.length (P.length+0) d=d:=by
   cases e:P.length with
   | zero=>rfl
   | succ k=>rw [Nat.add_zero,insInner,if_neg (by simp)]
  rw [this,h]; simp
 | n+1,S,d,P,Q,x,hn,hs,h=>by
  rcases List.eq_nil_or_concat S with rfl | ⟨S',y,rfl⟩
  ·simp at hn
  ·rw [List.concat_eq_append] at *
   have hn':S'.length=n:=by simpa using hn
   have hy:d[P.length+n]! = y:=by
    have:=at_list (d:=d) (X:=P++S') (u:=y) (Z:=x :: Q) (by rw [h]; simp)
    rw [← this]; congr 1; simp; omega
   have hx:d[P.length+n+1]! = x:=by
    have:=at_list (d:=d) (X:=P++S'++[y]) (u:=x) (Z:=Q) (by rw [h]; simp)
    rw [← this]; congr 1; simp; omega
   rw [← Nat.add_assoc,insInner,hx,hy]
   cases e:lt x y
   ·rw [if_neg (by simp),mg_last lt hw hs e,h]; simp
   ·rw [if_pos (by simp; omega),mg_one_lt lt e,swp_comm _ _ _ (by omega)]
    have h2:=swp_list (d:=d) (X:=P++S') (Y:=[]) (Z:=Q) (u:=y) (v:=x) (by rw [h]; simp)
    rw [show (P++S').length=P.length+n from by simp; omega,show P.length+n+1+([]:List α).length=P.length+n+1 from rfl] at h2
    have:=ins_list hw n S' _ P (y :: Q) x hn' (List.pairwise_append.1 hs).1 (by rw [h2]; simp)
    rw [this]; simp
theorem out_list (hw:Wk lt) (ir : ∀ x,lt x x=false) (P Q:List α) : ∀ (f:Nat) (S1 S2:List α) (d:Array α),S2.length=f→d.toList=P++(iso lt S1++(S2++Q))→(insOuter lt P.length (P.length+S1.length+S2.length) (P.length+S1.length) d).toList=P++(iso lt (S1++S2)++Q)
 | 0,S1,S2,d,hf,h=>by
  obtain rfl:S2 = []:=List.length_eq_zero_iff.1 hf
  rw [insOuter,if_neg (by simp),h]; simp
 | f+1,S1,[],d,hf,h=>by simp at hf
 | f+1,S1,x :: S2,d,hf,h=>by
  rw [insOuter,if_pos (by simp)]
  have h2:=ins_list lt hw S1.length (iso lt S1) d P (S2++Q) x (iso_len lt _) (iso_srt lt hw ir _) (by rw [h]; simp)
  rw [← iso_snoc] at h2
  have ih:=out_list hw ir P Q f (S1++[x]) S2 _ (by simpa using hf) h2
  rw [show P.length+(S1++[x]).length=P.length+S1.length+1 from by simp; omega] at ih
  rw [show P.length+S1.length+(x :: S2).length=P.length+S1.length+1+S2.length from by simp; omega,ih]
  simp
theorem sort_list (hw:Wk lt) (ir : ∀ x,lt x x=false) (P S Q:List α) (d:Array α) (h:d.toList=P++(S++Q)):(insertionSort lt d P.length (P.length+S.length)).toList=P++(iso lt S++Q):=by
 unfold insertionSort
 cases S with
 | nil=>rw [insOuter,if_neg (by simp),h]; simp [iso]
 | cons x S =>
  have:=out_list lt hw ir P Q S.length [x] S d rfl (by rw [h]; simp [iso])
  rw [show P.length + [x].length=P.length+1 from rfl,show P.length+1+S.length=P.length+(x :: S).length from by simp; omega] at this
  rw [this]; simp
end
end Sc
end Go.Proofs.YtkkpahmoljiepaaGreatDoor

set_option maxRecDepth 1000000
set_option maxHeartbeats 12800000
namespace Go.Proofs.YtkkpahmoljiepaaGreatDoor
open Go.RowKit Go.Sort Go.Shelf
open Pu (Str aH aU)
namespace Sd
open Ka Kd Sa Sb Sc
theorem swR_size : ∀ (n a b:Nat) (d:Array Rec),(swR a b n d).size=d.size
 | 0,_,_,_=>rfl
 | n+1,a,b,d=>by rw [swR,swR_size n,size_swp]
theorem one_enc (x:Rec) : ∀ v∈Rec.enc x,v.oneCell'=true:=fun v hv=>by simp [Rec.enc] at hv; rcases hv with rfl | rfl | rfl | rfl <;> rfl
theorem swapRange_k (off k g cap a b n:Nat) (hk : ∀ x,(Rec.enc x).length=k) (zE : ∀ w,Sem.run Tryz.prog (Go.sizeOf 47) w=.ok k w) (d:Array Rec) (w:World) (hH:HoldsK Rec.enc k w g off d) (hg:g<w.heap.size) (ha:a+n≤b) (hb:b+n≤d.size) (hd:d.size≤3001) :
  Calls Tryz.prog 288 #[.slice (some ⟨g,off,none⟩) d.size cap,.int .i64 a,.int .i64 b,.int .i64 n,.func (.func 103) #[] #[]] w fun e w' =>
   e=.returned (.tuple #[])∧∃ q,w'=sortWorldK Rec.enc k w g off q (swR a b n d) #[]:=by
 have mixed:Tryz.prog.follows Departure.mixedOrders=true:=by kernel_rfl
 have aE:=Tryz.isAgg47
 have HK:Hid (∀ x,(Rec.enc x).length=k):=hk
 clear hk
 have HST:Hid (w=sortWorldK Rec.enc k w g off 0 d #[]):=by show w=_; unfold sortWorldK; rw [grow_empty]; exact (putRowK_self Rec.enc k w g off d hH).symm
 have HH:=aH hH
 have HG:=aH hg
 clear hH
 go_enter Tryz.func288,Tryz.ntmps288
 go_wp2
 go_loopg [10] n (fun g1 vi wr=>∃ (i q:Nat) (dk:Array Rec),vi=.int .i64 i∧i+g1=n∧dk.size=d.size∧wr=sortWorldK Rec.enc k w g off q dk #[]∧Hid (swR (a+i) (b+i) g1 dk=swR a b n d))
 case atStart=>exact ⟨0,0,d,rfl,by omega,rfl,aU HST,rfl⟩
 case round =>
  obtain ⟨i,q,dk,rfl,hi,hsk,rfl,HO⟩:=hrel
  by_cases hlt:i<n
  ·have hltz:(i:Int)<(n:Int):=by omega
   obtain ⟨gp,rfl⟩ : ∃ gp,gk=gp+1:=⟨gk - 1,by omega⟩
   obtain ⟨p,hp⟩ : ∃ p,p=a+i:=⟨_,rfl⟩
   obtain ⟨r,hr⟩ : ∃ r,r=b+i:=⟨_,rfl⟩
   have ep:(a:Int)+i=p:=by omega
   have er:(b:Int)+i=r:=by omega
   have hpz:(p:Int)<(d.size:Int):=by omega
   have hrz:(r:Int)<(d.size:Int):=by omega
   obtain ⟨xp,hxp⟩ : ∃ x,dk[p]! = x:=⟨_,rfl⟩
   obtain ⟨xr,hxr⟩ : ∃ x,dk[r]! = x:=⟨_,rfl⟩
   have hHd:HoldsK Rec.enc k (sortWorldK Rec.enc k w g off q dk #[]).drew g off dk:=holdsK_sortWorldK_c Rec.enc k w g off d dk _ _ (aU HH) hg hsk
   obtain ⟨wq,hwq⟩ : ∃ wq,wq=sortWorldK Rec.enc k w g off q dk #[]:=⟨_,rfl⟩
   rw [← hwq] at hHd ⊢
   have lp:Sem.run Tryz.prog (loadCellsFrom ⟨g,off+p*k,none⟩ 0 k #[]) wq.drew=.ok (Rec.enc xp).toArray wq.drew:=by rw [← hxp]; exact run_loadCellsFrom_list _ _ _ _ k (HK.out _) (HoldsK.cells hHd HK.out (by omega))
   have lr:Sem.run Tryz.prog (loadCellsFrom ⟨g,off+r*k,none⟩ 0 k #[]) wq.drew=.ok (Rec.enc xr).toArray wq.drew:=by rw [← hxr]; exact run_loadCellsFrom_list _ _ _ _ k (HK.out _) (HoldsK.cells hHd HK.out (by omega))
   have bnd : ∀ x,x<dk.size→x*k+k≤dk.size*k:=fun x hx=>by
    have:=Nat.mul_le_mul_right k (show x+1≤dk.size from hx); rwa [Nat.add_mul,Nat.one_mul] at this
   have s1:Sem.run Tryz.prog (storeCells ⟨g,off+p*k,none⟩ (Rec.enc xr) 0) wq.drew=.ok () (wq.drew.setCells g (off+p*k) (Rec.enc xr)):=stores_of_holds _ hHd (p*k) _ (by rw [HK.out,size_flatK]; exact bnd p (by omega)) (one_enc _)
   have s2:Sem.run Tryz.prog (storeCells ⟨g,off+r*k,none⟩ (Rec.enc xp) 0) (wq.drew.setCells g (off+p*k) (Rec.enc xr))=.ok () ((wq.drew.setCells g (off+p*k) (Rec.enc xr)).setCells g (off+r*k) (Rec.enc xp)) :=
    stores_of_holds _ (holds_setCells_c hHd (p*k) _ (by rw [HK.out,size_flatK]; exact bnd p (by omega))) (r*k) _ (by rw [HK.out,size_setMany,size_flatK]; exact bnd r (by omega)) (one_enc _)
   have HWQ:=aH hwq
   clear hHd hwq bnd
   obtain ⟨cP,hcP⟩ : ∃ c,c=Rec.enc xp:=⟨_,rfl⟩
   obtain ⟨cR,hcR⟩ : ∃ c,c=Rec.enc xr:=⟨_,rfl⟩
   have hsP:cP.length=k:=by rw [hcP]; exact HK.out _
   have hsR:cR.length=k:=by rw [hcR]; exact HK.out _
   rw [← hcR] at s1 lr
   rw [← hcP] at lp
   rw [← hcP,← hcR] at s2
   have CC:Hid (cP=Rec.enc xp∧cR=Rec.enc xr):=⟨hcP,hcR⟩
   clear hcP hcR
   have wP:IntKind.i64.wrap (p:Int)=(p:Int):=by rw [IntKind.wrap_i64]; omega
   have wR:IntKind.i64.wrap (r:Int)=(r:Int):=by rw [IntKind.wrap_i64]; omega
   have p0:(0:Int)≤(p:Int):=by omega
   have r0:(0:Int)≤(r:Int):=by omega
   have HE:Hid (i+(gp+1)=n∧p=a+i∧r=b+i∧dk[p]! = xp∧dk[r]! = xr∧dk.size=d.size∧i<n∧a+n≤b∧b+n≤d.size∧d.size≤3001):=⟨hi,hp,hr,hxp,hxr,hsk,hlt,ha,hb,hd⟩
   go_wp2_with fail
   clear hi hp hr hxp hxr hsk hlt ha hb hd hltz hg
   go_big_region_o
   all_goals
    clear lp lr s1 s2 aE zE mixed wP wR p0 r0 ep er hpz hrz
    have hib:i≤3001:=by obtain ⟨hi,hp,hr,hxp,hxr,hsk,hlt,ha,hb,hd⟩:=aU HE; omega
    go_wp2
    go_roundg gp
    case measure=>omega
    case rel =>
     obtain ⟨hi,hp,hr,hxp,hxr,hsk,hlt,ha,hb,hd⟩:=aU HE
     refine ⟨i+1,q+1,swp dk p r,by go_num,by omega,by rw [size_swp]; exact hsk,?_,(show Hid _ from ?_)⟩
     ·rw [CC.out.1,CC.out.2,aU HWQ,← hxp,← hxr]
      exact sortWorldK_swp_c Rec.enc k w g off HK.out q dk #[] (aU HG) p r (by omega) (by omega)
     ·show _=_
      rw [← aU HO,hp,hr,swR]
      rfl
  ·have hltz : ¬ (i:Int)<(n:Int):=by omega
   obtain rfl:gk=0:=by omega
   go_wp2
   go_end0
   exact ⟨rfl,q,by rw [← aU HO]; rfl⟩
theorem swapRange_any (g cap a b n:Nat) (d:Array Rec) (w:World) (hH:HoldsK Rec.enc 4 w g 0 d) (hg:g<w.heap.size) (ha:a+n≤b) (hb:b+n≤d.size) (hd:d.size≤3001) :
  Calls Tryz.prog 288 #[.slice (some ⟨g,0,none⟩) d.size cap,.int .i64 a,.int .i64 b,.int .i64 n,.func (.func 103) #[] #[]] w fun e w' =>
   e=.returned (.tuple #[])∧∃ q,w'=sortWorldK Rec.enc 4 w g 0 q (swR a b n d) #[] :=
 swapRange_k 0 4 g cap a b n (fun _=>rfl) Tryz.sizeOf47 d w hH hg ha hb hd
end Sd
end Go.Proofs.YtkkpahmoljiepaaGreatDoor

set_option maxRecDepth 1000000
set_option maxHeartbeats 12800000
namespace Go.Proofs.YtkkpahmoljiepaaGreatDoor
open Go.RowKit Go.Sort Go.Shelf
open Pu (Str aH aU)
namespace Se
open Ka Kd Sa Sb Sc Sd
theorem start_world {w:World} {g:Nat} {d:Array Rec} (hH:HoldsK Rec.enc 4 w g 0 d):w=sortWorldK Rec.enc 4 w g 0 0 d #[]:=by
 unfold sortWorldK; rw [grow_empty]; exact (putRowK_self Rec.enc 4 w g 0 d hH).symm
theorem world_on (w:World) (g n m:Nat) (dk dk':Array Rec) (os os':Array Obj) (hg:g<w.heap.size) (h:dk'.size=dk.size) :
  sortWorldK Rec.enc 4 (sortWorldK Rec.enc 4 w g 0 n dk os) g 0 m dk' os'=sortWorldK Rec.enc 4 w g 0 (n+m) dk' (os++os'):=grow_step_growK Rec.enc 4 w os os' n m g 0 dk dk' hg h
theorem swap_on (g cap a b n q:Nat) (d dk:Array Rec) (os:Array Obj) (w:World) (hH:HoldsK Rec.enc 4 w g 0 d) (hg:g<w.heap.size) (hs:dk.size=d.size) (ha:a+n≤b) (hb:b+n≤d.size) (hd:d.size≤3001) :
  Calls Tryz.prog 288 #[.slice (some ⟨g,0,none⟩) d.size cap,.int .i64 a,.int .i64 b,.int .i64 n,.func (.func 103) #[] #[]] (sortWorldK Rec.enc 4 w g 0 q dk os) fun e w' =>
   e=.returned (.tuple #[])∧∃ q',w'=sortWorldK Rec.enc 4 w g 0 q' (swR a b n dk) os:=by
 have hH':=holdsK_sortWorldK_c Rec.enc 4 w g 0 d dk q os hH hg hs
 have h:=swapRange_any g cap a b n dk _ hH' (Nat.lt_of_lt_of_le hg (size_sortWorldK_c Rec.enc 4 w g 0 q dk os)) ha (by omega) (by omega)
 rw [hs] at h
 refine h.mono ?_
 rintro e w' ⟨rfl,q',rfl⟩
 refine ⟨rfl,q+q',?_⟩
 rw [world_on w g q q' dk (swR a b n dk) os #[] hg (swR_size _ _ _ _)]
 simp
theorem rotate_any (g cap a m b q:Nat) (d dk:Array Rec) (os:Array Obj) (X A' B' Z:List Rec) (w:World) (hH:HoldsK Rec.enc 4 w g 0 d) (hg:g<w.heap.size) (hs:dk.size=d.size) (hd:d.size≤3001)
  (hl:dk.toList=X++(A'++(B'++Z))) (ea:X.length=a) (em:a+A'.length=m) (eb:m+B'.length=b) (hA:0<A'.length) (hB:0<B'.length) :
  Calls Tryz.prog 267 #[.slice (some ⟨g,0,none⟩) d.size cap,.int .i64 a,.int .i64 m,.int .i64 b,.func (.func 103) #[] #[]] (sortWorldK Rec.enc 4 w g 0 q dk os) fun e w' =>
   e=.returned (.tuple #[])∧∃ q' d',w'=sortWorldK Rec.enc 4 w g 0 q' d' os∧d'.toList=X++(B'++(A'++Z)):=by
 have hsz:d.size=X.length+(A'.length+(B'.length+Z.length)):=by rw [← hs,← Array.length_toList,hl]; simp
 have HSW:=aH (fun q dk hs a b n (h1:a+n≤b) (h2:b+n≤d.size)=>swap_on g cap a b n q d dk os w hH hg hs h1 h2 hd)
 have hbd:b≤3001:=by omega
 have haI:(m:Int) - a=(A'.length:Int):=by omega
 have hbI:(b:Int) - m=(B'.length:Int):=by omega
 obtain ⟨i0,hi0⟩ : ∃ i,i=A'.length:=⟨_,rfl⟩
 obtain ⟨j0,hj0⟩ : ∃ i,i=B'.length:=⟨_,rfl⟩
 rw [← hi0] at haI
 rw [← hj0] at hbI
 have HS:=aH (And.intro hsz (And.intro hs (And.intro hl (And.intro ea (And.intro em (And.intro eb (And.intro hA (And.intro hB (And.intro hi0 hj0)))))))))
 have hmb:m≤3001:=by omega
 have ham:a≤m:=by omega
 have hi3:i0≤3001:=by omega
 have hj3:j0≤3001:=by omega
 clear hH hsz hs hl ea em eb hA hB hd hi0 hj0
 obtain ⟨w0,hw0⟩ : ∃ w0,w0=sortWorldK Rec.enc 4 w g 0 q dk os:=⟨_,rfl⟩
 rw [← hw0]
 have HW0:=aH hw0
 clear hw0
 go_enter Tryz.func267,Tryz.ntmps267
 go_wp2_with fail
 go_loopg [10,11] (i0+j0) (fun g1 vi vj wr=>∃ (i j:Nat),vi=.int .i64 i∧vj=.int .i64 j∧0<i∧0<j∧i+j≤g1∧i≤m∧i≤3001∧j≤3001∧Hid (∃ (q:Nat) (dk:Array Rec) (X1 A1 B1 Z1:List Rec),X1.length+i=m∧A1.length=i∧B1.length=j∧dk.size=d.size∧dk.toList=X1++(A1++(B1++Z1))∧X1++(B1++(A1++Z1))=X++(B'++(A'++Z))∧wr=sortWorldK Rec.enc 4 w g 0 q dk os))
 case atStart =>
  obtain ⟨hsz,hs,hl,ea,em,eb,hA,hB,hi0,hj0⟩:=aU HS
  exact ⟨i0,j0,by first | rfl | go_num,by first | rfl | go_num,by omega,by omega,Nat.le_refl _,by omega,by omega,by omega,q,dk,X,A',B',Z,by omega,by omega,by omega,hs,hl,rfl,aU HW0⟩
 case round =>
  obtain ⟨i,j,rfl,rfl,hi,hj,hij,him,hi2,hj2,HX⟩:=hrel
  obtain ⟨q1,dk1,X1,A1,B1,Z1,e1,e2,e3,e4,e5,e6,hwr⟩:=aU HX
  have hsz1:d.size=X1.length+(A1.length+(B1.length+Z1.length)):=by rw [← e4,← Array.length_toList,e5]; simp
  obtain ⟨p,hp⟩ : ∃ p:Nat,p+i=m:=⟨X1.length,e1⟩
  have hpI:(m:Int) - i=(p:Int):=by omega
  by_cases hne:i=j
  ·subst hne
   have hneI:((i:Int) != (i:Int))=false:=by simp
   have HC:=aH (aU HSW q1 dk1 e4 p m i (by omega) (by omega))
   have HR:Hid (∀ q',∃ q'' d',sortWorldK Rec.enc 4 w g 0 q' (swR p m i dk1) os=sortWorldK Rec.enc 4 w g 0 q'' d' os∧d'.toList=X++(B'++(A'++Z))):=fun q'=>by
    refine ⟨q',_,rfl,?_⟩
    have:=swR_list A1 B1 dk1 X1 [] Z1 (by omega) (by simpa using e5)
    rw [e2,show X1.length=p from by omega,show p+i+([]:List Rec).length=m from by simp; omega] at this
    rw [this,← e6]; rfl
   rw [← hwr] at HC
   clear HX e1 e2 e3 e4 e5 e6 hwr hsz1 HSW HW0
   go_wp2_with fail
   refine (aU HC).mono ?_
   rintro e w2 ⟨rfl,q2,hw2⟩
   have HW2:=aH hw2
   clear hw2
   go_wp2_with fail
   go_end0
   refine ⟨rfl,?_⟩
   rw [aU HW2]
   exact aU HR q2
  ·have hneI:((i:Int) != (j:Int))=true:=by rw [bne_iff_ne]; omega
   by_cases hgt:j<i
   ·have hgtI:(j:Int)<(i:Int):=by omega
    obtain ⟨t,ht⟩ : ∃ t:Nat,t+j=i:=⟨i - j,by omega⟩
    have htI:(i:Int) - j=(t:Int):=by omega
    have HC:=aH (aU HSW q1 dk1 e4 p m j (by omega) (by omega))
    have HR:Hid (∀ q',∃ (q:Nat) (dk:Array Rec) (X1 A1 B1 Z1:List Rec),X1.length+t=m∧A1.length=t∧B1.length=j∧dk.size=d.size∧dk.toList=X1++(A1++(B1++Z1))∧X1++(B1++(A1++Z1))=X++(B'++(A'++Z))∧sortWorldK Rec.enc 4 w g 0 q' (swR p m j dk1) os=sortWorldK Rec.enc 4 w g 0 q dk os):=fun q'=>by
     have hA1:A1=A1.take j++A1.drop j:=(List.take_append_drop _ _).symm
     have l1:(A1.take j).length=j:=by simp; omega
     have l2:(A1.drop j).length=t:=by simp; omega
     generalize A1.take j=A2 at hA1 l1
     generalize A1.drop j=A3 at hA1 l2
     subst hA1
     have:=swR_list A2 B1 dk1 X1 A3 Z1 (by omega) (by rw [e5]; simp)
     rw [l1,show X1.length=p from by omega,show p+j+A3.length=m from by omega] at this
     refine ⟨q',_,X1++B1,A3,A2,Z1,by simp; omega,l2,l1,by rw [swR_size]; exact e4,by rw [this]; simp,?_,rfl⟩
     rw [← e6]; simp
    rw [← hwr] at HC
    clear HX e1 e2 e3 e4 e5 e6 hwr hsz1 HSW HW0
    go_wp2_with fail
    refine (aU HC).mono ?_
    rintro e w2 ⟨rfl,q2,hw2⟩
    have HW2:=aH hw2
    clear hw2
    go_wp2_with fail
    go_roundg (t+j)
    case measure=>omega
    case rel =>
     refine ⟨t,j,by first | rfl | go_num,by first | rfl | go_num,by omega,hj,Nat.le_refl _,by omega,by omega,hj2,?_⟩
     rw [aU HW2]
     exact aU HR q2
   ·have hgtI : ¬ (j:Int)<(i:Int):=by omega
    obtain ⟨t,ht⟩ : ∃ t:Nat,t+i=j:=⟨j - i,by omega⟩
    have htI:(j:Int) - i=(t:Int):=by omega
    obtain ⟨r,hr⟩ : ∃ r:Nat,r+i=m+j:=⟨m+j - i,by omega⟩
    have hrI:(m:Int)+j - i=(r:Int):=by omega
    have HC:=aH (aU HSW q1 dk1 e4 p r i (by omega) (by omega))
    have HR:Hid (∀ q',∃ (q:Nat) (dk:Array Rec) (X1 A1 B1 Z1:List Rec),X1.length+i=m∧A1.length=i∧B1.length=t∧dk.size=d.size∧dk.toList=X1++(A1++(B1++Z1))∧X1++(B1++(A1++Z1))=X++(B'++(A'++Z))∧sortWorldK Rec.enc 4 w g 0 q' (swR p r i dk1) os=sortWorldK Rec.enc 4 w g 0 q dk os):=fun q'=>by
     have hB1:B1=B1.take t++B1.drop t:=(List.take_append_drop _ _).symm
     have l1:(B1.take t).length=t:=by simp; omega
     have l2:(B1.drop t).length=i:=by simp; omega
     generalize B1.take t=B2 at hB1 l1
     generalize B1.drop t=B3 at hB1 l2
     subst hB1
     have:=swR_list A1 B3 dk1 X1 B2 Z1 (by omega) (by rw [e5]; simp)
     rw [e2,show X1.length=p from by omega,show p+i+B2.length=r from by omega] at this
     refine ⟨q',_,X1,B3,B2,A1++Z1,by omega,l2,l1,by rw [swR_size]; exact e4,by rw [this],?_,rfl⟩
     rw [← e6]; simp
    rw [← hwr] at HC
    clear HX e1 e2 e3 e4 e5 e6 hwr hsz1 HSW HW0
    go_wp2_with fail
    refine (aU HC).mono ?_
    rintro e w2 ⟨rfl,q2,hw2⟩
    have HW2:=aH hw2
    clear hw2
    go_wp2_with fail
    go_roundg (i+t)
    case measure=>omega
    case rel =>
     refine ⟨i,t,by first | rfl | go_num,by first | rfl | go_num,hi,by omega,Nat.le_refl _,by omega,hi2,by omega,?_⟩
     rw [aU HW2]
     exact aU HR q2
end Se
end Go.Proofs.YtkkpahmoljiepaaGreatDoor

namespace Go.Proofs.YtkkpahmoljiepaaGreatDoor
open Go.RowKit Go.Sort
open Pu (Str aH aU)
namespace Sc
section
variable {α:Type} (lt:α→α→Bool)
theorem srt_last (hw:Wk lt) {B1:List α} {x z:α} (hs:Srt lt (B1++[z])) (h:lt z x=true) : ∀ y∈B1++[z],lt y x=true:=fun y hy=>by
 rcases List.mem_append.1 hy with hy | hy
 ·cases e:lt y x
  ·have:=hw.nt _ _ _ ((List.pairwise_append.1 hs).2.2 y hy z (by simp)) e
   rw [h] at this; cases this
  ·rfl
 ·obtain rfl:y=z:=by simpa using hy
  exact h
theorem mg_one_left (hw:Wk lt) {B1 B2:List α} {x:α} (hs:Srt lt (B1++B2)) (h1 : ∀ y,B1.getLast? = some y→lt y x=true) (h2 : ∀ y,B2.head? = some y→lt y x=false):mg lt [x] (B1++B2)=B1++x :: B2:=by
 have hall : ∀ y∈B1,lt y x=true:=by
  rcases List.eq_nil_or_concat B1 with rfl | ⟨B',z,rfl⟩
  ·simp
  ·rw [List.concat_eq_append] at *
   exact srt_last lt hw (List.pairwise_append.1 hs).1 (h1 z (by simp))
 have:=mg_split lt [x] B2 [] B1 (fun b hb a ha=>by obtain rfl:a=x:=(by simpa using ha); exact hall b hb) (by simp)
 rw [List.nil_append,mg_nil] at this
 rw [this]
 congr 1
 cases B2 with
 | nil=>simp
 | cons y B2=>rw [mg_ge lt _ _ (h2 y rfl),mg_nil]
theorem mg_one_right (hw:Wk lt) {A1 A2:List α} {y:α} (hs:Srt lt (A1++A2)) (h1 : ∀ x,A1.getLast? = some x→lt y x=false) (h2 : ∀ x,A2.head? = some x→lt y x=true):mg lt (A1++A2) [y]=A1++y :: A2:=by
 have hall : ∀ x∈A1,lt y x=false:=by
  rcases List.eq_nil_or_concat A1 with rfl | ⟨B',z,rfl⟩
  ·simp
  ·rw [List.concat_eq_append] at *
   intro x hx
   have hz:=h1 z (by simp)
   rcases List.mem_append.1 hx with hx | hx
   ·exact hw.nt _ _ _ hz ((List.pairwise_append.1 (List.pairwise_append.1 hs).1).2.2 x hx z (by simp))
   ·obtain rfl:x=z:=by simpa using hx
    exact hz
 have:=mg_split lt A2 [y] A1 [] (by simp) (fun a ha b hb=>by obtain rfl:b=y:=(by simpa using hb); exact hall a ha)
 rw [List.nil_append,mg_nil'] at this
 rw [this]
 congr 1
 cases A2 with
 | nil=>simp
 | cons x A2=>rw [mg_lt lt _ _ (h2 x rfl),mg_nil']
theorem mg_cut (hw:Wk lt) {A1 A2 B1 B2:List α} (hA:Srt lt (A1++A2)) (hB:Srt lt (B1++B2)) (h1 : ∀ x y,A1.getLast? = some x→B2.head? = some y→lt y x=false) (h2 : ∀ x y,A2.head? = some x→B1.getLast? = some y→lt y x=true) :
  mg lt (A1++A2) (B1++B2)=mg lt A1 B1++mg lt A2 B2:=by
 refine mg_split lt A2 B2 A1 B1 (fun b hb a ha=>?_) (fun a ha b hb=>?_)
 ·rcases List.eq_nil_or_concat B1 with rfl | ⟨B',z,rfl⟩
  ·simp at hb
  rw [List.concat_eq_append] at *
  cases A2 with
  | nil=>simp at ha
  | cons x A2 =>
   have hzx:=h2 x z rfl (by simp)
   have hbx:=srt_last lt hw (List.pairwise_append.1 hB).1 hzx b hb
   rcases List.mem_cons.1 ha with rfl | ha
   ·exact hbx
   ·have hax:=(List.pairwise_cons.1 (List.pairwise_append.1 hA).2.1).1 a ha
    cases e:lt b a
    ·have:=hw.nt _ _ _ e hax; rw [hbx] at this; cases this
    ·rfl
 ·rcases List.eq_nil_or_concat A1 with rfl | ⟨A',z,rfl⟩
  ·simp at ha
  rw [List.concat_eq_append] at *
  cases B2 with
  | nil=>simp at hb
  | cons y B2 =>
   have hyz:=h1 z y (by simp) rfl
   have hya:lt y a=false:=by
    rcases List.mem_append.1 ha with ha | ha
    ·exact hw.nt _ _ _ hyz ((List.pairwise_append.1 (List.pairwise_append.1 hA).1).2.2 a ha z (by simp))
    ·obtain rfl:a=z:=by simpa using ha
     exact hyz
   rcases List.mem_cons.1 hb with rfl | hb
   ·exact hya
   ·exact hw.nt _ _ _ ((List.pairwise_cons.1 (List.pairwise_append.1 hB).2.1).1 b hb) hya
end
section
variable {α:Type} [Inhabited α]
theorem at_app {d:Array α} {X B Z:List α} (h:d.toList=X++(B++Z)) {t:Nat} (ht:t<B.length):d[X.length+t]! = B[t]:=by
 obtain rfl:d=(X++(B++Z)).toArray:=by rw [← h]
 simp [List.getElem?_append_right,List.getElem?_append_left,ht]
omit [Inhabited α] in
theorem last_take {B:List α} {t:Nat} {y:α} (ht:t≤B.length) (h:(B.take t).getLast? = some y) : ∃ (h0:t - 1<B.length),0<t∧B[t - 1]=y:=by
 cases t with
 | zero=>simp at h
 | succ n =>
  refine ⟨by omega,by omega,?_⟩
  rw [List.getLast?_eq_getElem?] at h
  simp only [List.length_take,Nat.min_eq_left ht] at h
  rw [List.getElem?_take_of_lt (by omega)] at h
  obtain ⟨_,h⟩:=List.getElem?_eq_some_iff.1 h
  exact h
omit [Inhabited α] in
theorem head_drop {B:List α} {t:Nat} {y:α} (h:(B.drop t).head? = some y) : ∃ (h0:t<B.length),B[t]=y:=by
 rw [List.head?_drop] at h
 exact List.getElem?_eq_some_iff.1 h
end
end Sc
end Go.Proofs.YtkkpahmoljiepaaGreatDoor
