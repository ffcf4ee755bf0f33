/- Contracts: the methods of lookup.Table that ask its list: of, set, isThere. -/
import Derived.Test.YtkkpahmoljiepaaGreatDoorJ06
import Derived.Test.YtkkpahmoljiepaaGreatDoorJ03
import Derived.Test.YtkkpahmoljiepaaGreatDoorShelf
import Derived.Lib.SmallJoins
import Derived.Laws.OwnMore
set_option linter.unusedSimpArgs false
set_option linter.unusedVariables false
set_option maxRecDepth 1000000
set_option maxHeartbeats 12800000
namespace Go.Proofs.YtkkpahmoljiepaaGreatDoor
open Go.RowKit
open Pu (Str aH aU)
attribute [local go_sem] Oper.semAt_some
def aN (w:World) (zb:Nat) (o:Str) (b off cap:Nat) (rs:List Rec):Prop :=
 zb<w.heap.size∧w.cell? ⟨zb,0,none⟩=some (.string (B o))∧w.cell? ⟨zb,1,none⟩=some (.slice (some ⟨b,off,none⟩) rs.length cap)∧rs.length≤cap∧bE w b off rs
theorem aN.below {w w':World} {zb b off cap:Nat} {o:Str} {rs:List Rec} (h:aN w zb o b off cap rs) (hb:Below w.heap.size w w'):aN w' zb o b off cap rs :=
 ⟨Nat.lt_of_lt_of_le h.1 hb.size,(hb.cell (p:=⟨zb,0,none⟩) h.1).trans h.2.1,(hb.cell (p:=⟨zb,1,none⟩) h.1).trans h.2.2.1,h.2.2.2.1,h.2.2.2.2.below hb⟩
theorem aN.low {w w':World} {zb b off cap n:Nat} {o:Str} {rs:List Rec} (h:aN w zb o b off cap rs) (hb:Below n w w') (h1:zb<n) (h2:b<n):aN w' zb o b off cap rs :=
 ⟨Nat.lt_of_lt_of_le h.1 hb.size,(hb.cell (p:=⟨zb,0,none⟩) h1).trans h.2.1,(hb.cell (p:=⟨zb,1,none⟩) h1).trans h.2.2.1,h.2.2.2.1,Ia.bE.low h.2.2.2.2 hb h2⟩
def Fit (o:Str) (rs:List Rec):Prop:=rs.length≤3001∧o.length≤3000∧∀ r∈rs,r.owner.length≤3000∧r.data.length≤3000
def there (rs:List Rec) (n:Str):Bool:=!(underRuns n rs).isEmpty
namespace Za
open Ka Kd Rg Ia Iow Ie Zb Zc
theorem of_t (zb b off cap:Nat) (o n:Str) (rs:List Rec) (w:World) (hz:aN w zb o b off cap rs) (hlen:rs.length≤3001) :
  Calls Tryz.prog 270 #[.pointer (some ⟨zb,0,none⟩),.string (B n)] w fun e w'=>(∃ v,e=.returned v∧Piece b off rs v (ofP rs n))∧Below w.heap.size w w':=by
 obtain ⟨hzb,hz0,hz1,hcap,hr⟩:=hz
 have HC:=aH (of_any b off cap n rs w hr hcap hlen)
 clear hr
 go_enter Tryz.func270,Tryz.ntmps270
 go_wp2_with fail
 refine (aU HC).mono ?_
 rintro e w1 ⟨⟨v,rfl,hv⟩,hb1⟩
 have HV:=aH hv
 clear hv
 go_wp2_with fail
 go_ret
 exact ⟨⟨_,rfl,aU HV⟩,hb1⟩
theorem set_t (zb b off cap:Nat) (o n:Str) (k:Int) (rs:List Rec) (w:World) (hz:aN w zb o b off cap rs) (hlen:rs.length≤3001) :
  Calls Tryz.prog 192 #[.pointer (some ⟨zb,0,none⟩),.string (B n),.int .i64 k] w fun e w'=>(∃ v,e=.returned v∧Piece b off rs v (setP (ofP rs n) k))∧Below w.heap.size w w':=by
 obtain ⟨hzb,hz0,hz1,hcap,hr⟩:=hz
 have HC:=aH (set_any b off cap n k rs w hr hcap hlen)
 clear hr
 go_enter Tryz.func192,Tryz.ntmps192
 go_wp2_with fail
 refine (aU HC).mono ?_
 rintro e w1 ⟨⟨v,rfl,hv⟩,hb1⟩
 have HV:=aH hv
 clear hv
 go_wp2_with fail
 go_ret
 exact ⟨⟨_,rfl,aU HV⟩,hb1⟩
theorem isThere_any (zb b off cap:Nat) (o n:Str) (rs:List Rec) (w:World) (hz:aN w zb o b off cap rs) (hlen:rs.length≤3001) (hn:n.length≤3000) (ho : ∀ r∈rs,r.owner.length≤3000) :
  Calls Tryz.prog 269 #[.pointer (some ⟨zb,0,none⟩),.string (B n)] w fun e w'=>e=.returned (.bool (there rs n))∧Below w.heap.size w w':=by
 refine (callsIn_wide (n:=0)).1 ?_
 refine callsIn_of_wp_marks Tryz.func269 rfl trivial ?_
 simp only [Tryz.ntmps269,List.size_toArray,List.length_cons,List.length_nil,Nat.reduceAdd,Nat.reduceSub,Array.replicate_succ,Array.replicate_zero,List.push_toArray,List.append_toArray,List.nil_append,List.cons_append]
 have HO:=aH ho
 obtain ⟨hzb,hz0,hz1,hcap,hr⟩:=hz
 have HR:=aH hr
 have hb:=hr.1
 clear hr ho
 gi_wp2_with fail
 refine ⟨trivial,rfl,?_⟩
 refine (callsIn_wide.2 (under_o _ _ _ _ _)).mono ?_
 rintro e W2 ⟨rfl,e4,hb2,e1,e2⟩
 have e0:It.Box W2 w.heap.size (.bool false) 4:=(It.Box.new _ _ _).below hb2 (by simp <;> omega)
 have e5:Below w.heap.size w W2:=((Below.refl _ _).alloc (Nat.le_refl _) _).trans (hb2.mono (by simp <;> omega))
 simp only [World.size_alloc] at e4 e1 e2
 gi_wp2_with fail
 have hgrow : ∀ r,Below W2.heap.size W2 ((W2.alloc (.deferred (some []))).alloc (.loop r)):=fun r=>((Below.refl _ _).alloc (Nat.le_refl _) _).alloc (by simp) _
 have hgsz : ∀ r,((W2.alloc (.deferred (some []))).alloc (.loop r)).heap.size=W2.heap.size+2:=fun r=>by simp
 refine It.rangeB (xs:=underRuns n rs) (encs:=fun x:Nat×List Rec=>#[.string (B (aI x)),.slice (some ⟨b,off+x.1*4,none⟩) x.2.length x.2.length]) (St:=fun A B=>Below (W2.heap.size+2) A B) (Kp:=fun A B=>(B.heap[b]? = A.heap[b]?∧B.heap[w.heap.size+1+1]? = A.heap[w.heap.size+1+1]?)∧It.Above (W2.heap.size+2) A B) (Kx:=fun A B=>It.Above (W2.heap.size+2) A B)
  (gf:=235) (lb:=#[.pointer (some ⟨w.heap.size+1,0,none⟩),.pointer (some ⟨w.heap.size+1+1,0,none⟩)]) rfl (enters_of Tryz.func235 (by kernel_rfl) rfl) (fun _=>rfl) ?seq
  [b,w.heap.size+1+1] (by simp; omega) (fun _ _ _ h=>h) (fun A B h h'=>⟨⟨h _ (by simp),h _ (by simp)⟩,h'⟩) (fun _ _ h=>h)
  (fun i W=>i=0∧Below w.heap.size w W∧It.Box W w.heap.size (.bool false) 4)
  (fun c W=>c=.ret∧there rs n=true∧Below w.heap.size w W∧It.Box W w.heap.size (.bool true) 4)
  (fun i A B h hb=>⟨h.1,h.2.1.trans (hb.mono (by omega)),h.2.2.below hb (by omega)⟩)
  (fun c A B h hb=>⟨h.1,h.2.1,h.2.2.1.trans (hb.mono (by omega)),h.2.2.2.below hb (by omega)⟩)
  ⟨rfl,e5,e0⟩
  ?round ?done ?stop
 case seq =>
  intro r
  have hg:=hgrow r
  have:=under_seq b off cap (w.heap.size+1) (w.heap.size+1+1) n rs ((W2.alloc (.deferred (some []))).alloc (.loop r)) (((aU HR).below e5).below hg) hcap ((hg.cell (p:=⟨w.heap.size+1,0,none⟩) (by show w.heap.size+1<W2.heap.size; omega)).trans e1) ((hg.cell (p:=⟨w.heap.size+1+1,0,none⟩) (by show w.heap.size+1+1<W2.heap.size; omega)).trans e2) (by have:=hg.size; omega) (by have:=hg.size; omega) hlen hn (aU HO)
  rw [hgsz r] at this
  exact this
 case round =>
  intro l' i x V W hx hI hsz
  gi_wp2_with fail
  refine ⟨trivial,?_⟩
  obtain ⟨rfl,hB,hc⟩:=hI
  have cb:=hc.cell
  have cf:=hc.frozen
  have hth:there rs n=true:=by
   unfold there
   cases h:underRuns n rs with
   | nil=>rw [h] at hx; simp at hx
   | cons y t=>rfl
  gi_wp2_with fail
  exact ⟨It.Above.setCell W _ _ (by omega),rfl,hth,hB.setCell (Nat.le_refl _) _,hc.set _⟩
 case done =>
  intro W hI hdef hsz
  obtain ⟨h0,hB,hc⟩:=hI
  have cb:=hc.cell
  have cf:=hc.frozen
  have hth:there rs n=false:=by
   unfold there
   cases h:underRuns n rs with
   | nil=>rfl
   | cons y t=>rw [h] at h0; simp at h0
  gi_wp2_with fail
  refine ⟨by simp,.inl ⟨_,_,rfl,run_takeDeferred ((Below.heap_setCell _ _ _ _ (by show W2.heap.size≠w.heap.size; omega)).trans hdef),?_⟩⟩
  have cr:=((hc.set (.bool false)).put (d:=W2.heap.size) (o:=.deferred none) (by omega)).cell
  refine ⟨.bool false,by simp [results,Tryz.results269,go_sem,cr],by rw [hth],?_⟩
  exact (hB.setCell (Nat.le_refl _) _).trans (belowK_b (w:=W2) (by omega) _ _ _ _ (Nat.le_refl _) ((Below.heap_setCell _ _ _ _ (by show W2.heap.size≠w.heap.size; omega)).trans hdef) rfl rfl)
 case stop =>
  intro c W hI hdef hsz
  obtain ⟨rfl,ht,hB,hc⟩:=hI
  have cb:=hc.cell
  gi_wp2_with fail
  refine ⟨by simp,.inl ⟨_,_,rfl,run_takeDeferred hdef,?_⟩⟩
  have cr:=(hc.put (d:=W2.heap.size) (o:=.deferred none) (by omega)).cell
  refine ⟨.bool true,by simp [results,Tryz.results269,go_sem,cr],by rw [ht],?_⟩
  exact hB.trans (belowK_b (w:=W2) (by omega) _ _ _ _ (Nat.le_refl _) hdef rfl rfl)
end Za
end Go.Proofs.YtkkpahmoljiepaaGreatDoor

set_option maxRecDepth 1000000
set_option maxHeartbeats 12800000
namespace Go.Proofs.YtkkpahmoljiepaaGreatDoor
open Go.RowKit
open Pu (Str aH aU)
attribute [local go_sem] Oper.semAt_some
def after (l:Str):Str:=(Lib.cut l [46]).2.1
def endsF:Nat→Str→List Str
 | 0,_=>[]
 | f+1,l=>if l = [] then [] else l :: endsF f (after l)
def ends (l:Str):List Str:=endsF l.length l
theorem after_some (a b:Str) (h:(46:UInt8) ∉ a):after (a++46 :: b)=b:=by
 unfold after Lib.cut
 rw [Lib.index_one,Sp.indexByte_some 46 a b h,if_pos (by omega)]
 simp [Int.toNat_natCast]
theorem after_none (l:Str) (h:(46:UInt8) ∉ l):after l = []:=by
 unfold after Lib.cut
 rw [Lib.index_one,Sp.indexByte_none 46 l h,if_neg (by decide)]
theorem after_len (l:Str) (h:l≠[]):(after l).length<l.length:=by
 by_cases hc:(46:UInt8)∈l
 ·obtain ⟨a,b,rfl,ha⟩:=List.eq_append_cons_of_mem hc
  rw [after_some a b ha]; simp; omega
 ·rw [after_none l hc]
  cases l with
  | nil=>exact absurd rfl h
  | cons x t=>simp
theorem endsF_fuel : ∀ (f:Nat) (l:Str),l.length≤f→endsF f l=endsF l.length l
 | 0,l,h=>by
  obtain rfl:l = []:=List.eq_nil_of_length_eq_zero (by omega)
  rfl
 | f+1,l,h=>by
  by_cases hl:l = []
  ·subst hl; rfl
  ·have h1:=after_len l hl
   obtain ⟨k,hk⟩ : ∃ k,l.length=k+1:=⟨l.length - 1,by cases l with | nil=>exact absurd rfl hl | cons x t=>simp⟩
   rw [hk,endsF,endsF,if_neg hl,if_neg hl,endsF_fuel f _ (by omega),endsF_fuel k _ (by omega)]
theorem ends_nil:ends [] = []:=rfl
theorem ends_cons (l:Str) (h:l≠[]):ends l=l :: ends (after l):=by
 have h1:=after_len l h
 unfold ends
 obtain ⟨k,hk⟩ : ∃ k,l.length=k+1:=⟨l.length - 1,by cases l with | nil=>exact absurd rfl h | cons x t=>simp⟩
 rw [hk,endsF,if_neg h,endsF_fuel k _ (by omega)]
theorem ends_len : ∀ (f:Nat) (l:Str),l.length≤f→∀ x∈ends l,x.length≤l.length
 | 0,l,h,x,hx=>by
  obtain rfl:l = []:=List.eq_nil_of_length_eq_zero (by omega)
  simp [ends_nil] at hx
 | f+1,l,h,x,hx=>by
  by_cases hl:l = []
  ·subst hl; simp [ends_nil] at hx
  ·rw [ends_cons l hl,List.mem_cons] at hx
   have h1:=after_len l hl
   rcases hx with rfl | hx
   ·exact Nat.le_refl _
   ·have:=ends_len f (after l) (by omega) x hx; omega
theorem ends_mem_len {l x:Str} (hx:x∈ends l):x.length≤l.length:=ends_len _ _ (Nat.le_refl _) x hx
def strLen:Value→Nat
 | .string s=>s.size
 | _=>0
namespace La
open Ka Kd Rg Ia Iow Ie Zb Zc Za
theorem ends_o (n:Str) (w:World) :
  Calls Tryz.prog 191 #[.string (B n)] w fun e w'=>e=.returned (.func (.func 241) #[] #[.pointer (some ⟨w.heap.size,0,none⟩)])∧w'.heap.size=w.heap.size+1∧Below w.heap.size w w'∧w'.cell? ⟨w.heap.size,0,none⟩=some (.string (B n)):=by
 go_enter Tryz.func191,Tryz.ntmps191
 go_wp2
 go_ret
 exact ⟨rfl,by simp,(Below.refl _ _).alloc (Nat.le_refl _) _,by go_simp⟩
theorem cut_any (e:Str) (w:World) (hg:G w) (he:e.length≤3000) :
  Calls Tryz.prog 242 #[.string (B e),.string ⟨#[46]⟩] w fun x w'=>(∃ b c,x=.returned (.tuple #[.string (B b),.string (B (after e)),.bool c]))∧Below w.heap.size w w':=by
 obtain ⟨_,m,hm⟩:=hg
 refine (Tryz.strings_Cut (B e) ⟨#[46]⟩ m w (by rw [size_B]; omega) hm).mono ?_
 rintro x w' ⟨rfl,k,rfl⟩
 exact ⟨⟨_,_,rfl⟩,Rg.below_drewN (Below.refl _ w) k⟩
theorem ancestors_o (n:Str) (w:World) (hg:G w) (hn:n.length≤3000) :
  Calls Tryz.prog 271 #[.string (B n)] w fun e w'=>∃ bn,e=.returned (.func (.func 241) #[] #[.pointer (some ⟨bn,0,none⟩)])∧bn<w'.heap.size∧w.heap.size≤bn∧Below w.heap.size w w'∧w'.cell? ⟨bn,0,none⟩=some (.string (B (after n))):=by
 have HC:=aH (cut_any n w hg hn)
 clear hg
 go_enter Tryz.func271,Tryz.ntmps271
 go_wp2_with fail
 refine (aU HC).mono ?_
 rintro e w1 ⟨⟨b,c,rfl⟩,hb1⟩
 go_wp2_with fail
 refine (ends_o (after n) w1).mono ?_
 rintro e w2 ⟨rfl,hs2,hb2,c2⟩
 have C2:=aH c2
 clear c2
 go_wp2_with fail
 go_ret
 have:=hb1.size
 exact ⟨_,rfl,by omega,by omega,hb1.trans (hb2.mono hb1.size),aU C2⟩
theorem ends_seq (bn:Nat) (n:Str) (W0:World) (hc:W0.cell? ⟨bn,0,none⟩=some (.string (B n))) (hg:G W0) (hn:n.length≤3000) :
  It.Seq Tryz.prog 241 #[.pointer (some ⟨bn,0,none⟩)] (fun e:Str=>#[.string (B e)]) (ends n)
   (fun A B=>Below A.heap.size A B) (fun A B=>A.heap.size≤B.heap.size∧B.heap[0]? = A.heap[0]?) (fun _ _=>True) W0:=by
 intro l J Jx hJ hJx hY h0
 have HY:=aH hY
 have HJ:=aH hJ
 have HG:=aH hg
 clear hY hJ hJx hg
 refine callsIn_of_wp Tryz.func241 rfl trivial ?_
 simp only [Tryz.ntmps241,List.size_toArray,List.length_cons,List.length_nil,Nat.reduceAdd,Nat.reduceSub,Array.replicate_succ,Array.replicate_zero,List.push_toArray,List.append_toArray,List.nil_append,List.cons_append]
 gi_wp2
 gi_loopw [3] (fun s wr=>∃ (i:Nat) (e:Str),s=.string (B e)∧e.length≤n.length∧i≤(ends n).length∧(ends n).drop i=ends e∧J i wr∧(W0.heap.size≤wr.heap.size∧wr.heap[0]? = W0.heap[0]?)) (fun s _=>strLen s)
 case atStart=>exact ⟨0,n,rfl,Nat.le_refl _,Nat.zero_le _,rfl,h0,Nat.le_refl _,rfl⟩
 case round =>
  obtain ⟨i,e,rfl,hel,hi,hdr,hJi,hB⟩:=hrel
  have HD:=aH hdr
  have HJi:=aH hJi
  clear hdr hJi
  by_cases he:e = []
  ·have hne:((B e).toList == [])=true:=by rw [he,ByteArray.toList_eq]; rfl
   have hfin:Hid (i=(ends n).length):=by
    have:=congrArg List.length (aU HD)
    rw [List.length_drop,he,ends_nil,List.length_nil] at this
    rw [Hid]; omega
   clear hc HY HJ HG HD hel hi hB he
   gi_wp2
   go_end0
   exact ⟨⟨_,rfl⟩,.inl (by rw [← aU hfin]; exact aU HJi)⟩
  ·have hne:((B e).toList == [])=false:=by
    rw [beq_eq_false_iff_ne,ByteArray.toList_eq]; exact he
   have HIX:Hid ((ends n)[i]? = some e):=by
    have:=congrArg (fun l:List Str=>l[0]?) (aU HD)
    rw [ends_cons e he] at this
    rw [Hid]
    simpa using this
   have HNX:Hid ((ends n).drop (i+1)=ends (after e)):=by
    rw [Hid,← List.drop_drop,aU HD,ends_cons e he]; rfl
   have HI1:Hid (i+1≤(ends n).length):=(List.getElem?_eq_some_iff.1 (aU HIX)).1
   have hal:=after_len e he
   have hyi:=aU HY i e wr (aU HIX) (aU HJi)
   obtain ⟨fn,tmps,assign,body,hy,hR⟩:=hyi
   gi_wp2_with fail
   refine ⟨rfl,hR.mono ?_⟩
   rintro x W3 (⟨rfl,hJ4,hk4⟩ | ⟨rfl,hJx4,_⟩)
   ·have HJ4:=aH hJ4
    have hB4:W0.heap.size≤W3.heap.size∧W3.heap[0]? = W0.heap[0]?:=⟨Nat.le_trans hB.1 hk4.1,hk4.2.trans hB.2⟩
    have HG3:G W3:=by
     obtain ⟨g0,m,hm⟩:=aU HG
     exact ⟨Nat.lt_of_lt_of_le g0 hB4.1,m,(World.cell?_of_block hB4.2).trans hm⟩
    have HC:=aH (cut_any e W3 HG3 (by omega))
    have h03:=HG3.1
    clear hJ4 hk4 HG3
    gi_wp2_with fail
    refine ⟨trivial,rfl,?_⟩
    refine (callsIn_wide.2 (aU HC)).mono ?_
    rintro x W5 ⟨⟨b,c,rfl⟩,hb5⟩
    have HE:=aH (aU HJ _ _ _ (aU HJ4) hb5)
    have hB5:W0.heap.size≤W5.heap.size∧W5.heap[0]? = W0.heap[0]?:=⟨Nat.le_trans hB4.1 hb5.size,(hb5.block 0 h03).trans hB4.2⟩
    gi_wp2_with fail
    exact ⟨⟨i+1,after e,rfl,by omega,aU HI1,aU HNX,aU HE,hB5⟩,by simp only [strLen,size_B]; omega⟩
   ·gi_wp2
    refine bodyPost_ret (results_none rfl _ _ _) rfl ?_
    exact ⟨⟨_,rfl⟩,.inr hJx4⟩
end La
end Go.Proofs.YtkkpahmoljiepaaGreatDoor

set_option maxRecDepth 1000000
set_option maxHeartbeats 12800000
namespace Go.Proofs.YtkkpahmoljiepaaGreatDoor
open Go.RowKit
open Pu (Str aH aU)
attribute [local go_sem] Oper.semAt_some undef
def cutStep (rs:List Rec) (acc:List Rec) (e:Str):List Rec:=if (setP (ofP rs e) 2).length=0 then acc else setP (ofP rs e) 2
def cutP (o:Str) (rs:List Rec) (n:Str):List Rec:=((ends n).takeWhile (fun e=>!(e == o))).foldl (cutStep rs) []
namespace Lb
open Ka Kd Rg Ia Iow Ie Zb Zc Za La
theorem takeWhile_all {α:Type} (p:α→Bool) : ∀ (l:List α),l.all p=true→l.takeWhile p=l
 | [],_=>rfl
 | x :: t,h=>by
  rw [List.all_cons,Bool.and_eq_true] at h
  rw [List.takeWhile_cons_of_pos h.1,takeWhile_all p t h.2]
theorem takeWhile_stop {α:Type} (p:α→Bool) : ∀ (l:List α) (i:Nat) (x:α),l[i]? = some x→(l.take i).all p=true→p x=false→l.takeWhile p=l.take i
 | [],i,x,h,_,_=>by simp at h
 | y :: t,0,x,h,_,hp=>by
  simp at h; subst h
  rw [List.takeWhile_cons_of_neg (by simp [hp])]; rfl
 | y :: t,i+1,x,h,ha,hp=>by
  rw [List.take_succ_cons,List.all_cons,Bool.and_eq_true] at ha
  rw [List.takeWhile_cons_of_pos ha.1,List.take_succ_cons,takeWhile_stop p t i x (by simpa using h) ha.2 hp]
theorem take_one {α:Type} {l:List α} {i:Nat} {x:α} (h:l[i]? = some x):l.take (i+1)=l.take i++[x]:=by
 obtain ⟨hi,rfl⟩:=List.getElem?_eq_some_iff.1 h
 exact List.take_succ_eq_append_getElem hi
theorem cutOver_any (zb b off cap:Nat) (o n:Str) (rs:List Rec) (w:World) (hz:aN w zb o b off cap rs) (hg:G w) (hlen:rs.length≤3001) (hn:n.length≤3000) (hol:o.length≤3000) :
  Calls Tryz.prog 126 #[.pointer (some ⟨zb,0,none⟩),.string (B n)] w fun e w'=>(∃ v,e=.returned v∧Piece b off rs v (cutP o rs n))∧Below w.heap.size w w':=by
 refine (callsIn_wide (n:=0)).1 ?_
 refine callsIn_of_wp_marks Tryz.func126 rfl trivial ?_
 simp only [Tryz.ntmps126,List.size_toArray,List.length_cons,List.length_nil,Nat.reduceAdd,Nat.reduceSub,Array.replicate_succ,Array.replicate_zero,List.push_toArray,List.append_toArray,List.nil_append,List.cons_append]
 have HZ:=aH hz
 have HG:=aH hg
 have hzb:=hz.1
 have hg0:=hg.1
 clear hz hg
 gi_wp2_with fail
 refine ⟨trivial,rfl,?_⟩
 refine (callsIn_wide.2 (ends_o _ _)).mono ?_
 rintro e W2 ⟨rfl,e4,hb2,e2⟩
 have e0:It.Box W2 w.heap.size (.pointer (some ⟨zb,0,none⟩)) 110:=((It.Box.new _ _ _).alloc _).below hb2 (by simp <;> omega)
 have e1:It.Box W2 (w.heap.size+1) (.slice none 0 0) 41:=by
  have:=(It.Box.new (w.alloc (.cells #[.pointer (some ⟨zb,0,none⟩)] 110)) (.slice none 0 0) 41).below hb2 (by simp <;> omega)
  rwa [World.size_alloc] at this
 have e5:Below w.heap.size w W2:=(((Below.refl _ _).alloc (Nat.le_refl _) _).alloc (by simp) _).trans (hb2.mono (by simp <;> omega))
 simp only [World.size_alloc] at e4 e2
 gi_wp2_with fail
 have hgrow : ∀ r,Below W2.heap.size W2 ((W2.alloc (.deferred (some []))).alloc (.loop r)):=fun r=>((Below.refl _ _).alloc (Nat.le_refl _) _).alloc (by simp) _
 refine It.rangeB (xs:=ends n) (encs:=fun e:Str=>#[.string (B e)]) (St:=fun A B=>Below A.heap.size A B) (Kp:=fun A B=>A.heap.size≤B.heap.size∧B.heap[0]? = A.heap[0]?) (Kx:=fun _ _=>True)
  (gf:=241) (lb:=#[.pointer (some ⟨w.heap.size+1+1,0,none⟩)]) rfl (enters_of Tryz.func241 (by kernel_rfl) rfl) (fun _=>rfl) ?seq
  [0] (by simp; omega) (fun A B hA h=>h.mono hA) (fun A B h h'=>⟨h'.1,h _ (by simp)⟩) (fun _ _ _=>trivial)
  (fun i W=>((ends n).take i).all (fun e=>!(e == o))=true∧Below w.heap.size w W∧It.Box W w.heap.size (.pointer (some ⟨zb,0,none⟩)) 110∧∃ v,Piece b off rs v (((ends n).take i).foldl (cutStep rs) [])∧It.Box W (w.heap.size+1) v 41)
  (fun c W=>c=.exit 0∧Below w.heap.size w W∧∃ v,Piece b off rs v (cutP o rs n)∧It.Box W (w.heap.size+1) v 41)
  (fun i A B h hb=>⟨h.1,h.2.1.trans (hb.mono (by omega)),h.2.2.1.below hb (by omega),by obtain ⟨v,h1,h2⟩:=h.2.2.2; exact ⟨v,h1,h2.below hb (by omega)⟩⟩)
  (fun c A B h hb=>⟨h.1,h.2.1.trans (hb.mono (by omega)),by obtain ⟨v,h1,h2⟩:=h.2.2; exact ⟨v,h1,h2.below hb (by omega)⟩⟩)
  ⟨rfl,e5,e0,_,.inl ⟨rfl,rfl⟩,e1⟩
  ?round ?done ?stop
 case seq =>
  intro r
  have hg:=hgrow r
  exact ends_seq _ n _ ((hg.cell (p:=⟨w.heap.size+1+1,0,none⟩) (by show w.heap.size+1+1<W2.heap.size; omega)).trans e2) (((aU HG).below e5).below hg) hn
 case round =>
  intro l' i x V W hx hI hsz
  gi_wp2_with fail
  refine ⟨trivial,?_⟩
  obtain ⟨hall,hB,hn0,v,hv,hc⟩:=hI
  have hxl:=ends_mem_len (List.mem_of_getElem? hx)
  have hzW:=(aU HZ).below hB
  have z0:=hzW.2.1
  have HZW:=aH hzW
  have cn:=hn0.cell
  have hBB:((B x).toList == (B o).toList)=(x == o):=B_inj
  have HN0:=aH hn0
  have HCB:=aH hc
  have HX:=aH hx
  have HALL:=aH hall
  have HV:=aH hv
  have hclt:=hc.lt
  have hnlt:=hn0.lt
  have hzlt:=hzW.1
  clear hn0 hc hx hall hv hzW
  cases ho:x == o
  ·rw [ho] at hBB
   have HA1:Hid (((ends n).take (i+1)).all (fun e=>!(e == o))=true):=by
    rw [Hid,take_one (aU HX),List.all_append,aU HALL]; simp [ho]
   have HF1:Hid (((ends n).take (i+1)).foldl (cutStep rs) []=cutStep rs (((ends n).take i).foldl (cutStep rs) []) x):=by
    rw [Hid,take_one (aU HX),List.foldl_append]; rfl
   have HCS:=aH (set_t zb b off cap o x 2 rs W (aU HZW) hlen)
   gi_wp2_with fail
   refine ⟨trivial,rfl,?_⟩
   refine (CallsIn.inRound l' (callsIn_wide.2 (aU HCS))).mono ?_
   rintro e W4 ⟨⟨v4,rfl,hv4⟩,hb4⟩
   obtain ⟨a4,c4,rfl⟩:=hv4.slice
   have HV4:=aH hv4
   have b4:=(aU HCB).below hb4 hclt
   have cb4:=b4.cell
   have cf4:=b4.frozen
   have HB4:=aH b4
   have HN4:=aH ((aU HN0).below hb4 hnlt)
   have hb4s:=hb4.size
   clear hv4 b4
   by_cases hm:(setP (ofP rs x) 2).length=0
   ·have HE:Hid (((ends n).take (i+1)).foldl (cutStep rs) []=((ends n).take i).foldl (cutStep rs) []):=by rw [Hid,aU HF1,cutStep,if_pos hm]
    have hmI : ¬ (0:Int)<((setP (ofP rs x) 2).length:Int):=by omega
    gi_wp2_with fail
    exact ⟨It.Above.of_grown hb4,fun k hk=>hb4.block k (by simp at hk; omega),aU HA1,hB.trans (hb4.mono hB.size),aU HN4,v,by rw [aU HE]; exact aU HV,aU HB4⟩
   ·have HE:Hid (((ends n).take (i+1)).foldl (cutStep rs) []=setP (ofP rs x) 2):=by rw [Hid,aU HF1,cutStep,if_neg hm]
    have hmI:(0:Int)<((setP (ofP rs x) 2).length:Int):=by omega
    clear hm
    gi_wp2_with fail
    refine ⟨(It.Above.of_grown hb4).trans (It.Above.setCell W4 _ _ (by omega)),fun k hk=>?_,aU HA1,(hB.trans (hb4.mono hB.size)).setCell (by show w.heap.size≤w.heap.size+1; omega) _,?_,_,by rw [aU HE]; exact aU HV4,(aU HB4).set _⟩
    ·obtain rfl:k=0:=by simpa using hk
     exact (Below.heap_setCell _ _ _ _ (by show 0≠w.heap.size+1; omega)).trans (hb4.block 0 (by omega))
    ·exact (Below.heap_setCell _ _ _ _ (by show w.heap.size≠w.heap.size+1; omega)).trans (aU HN4)
  ·rw [ho] at hBB
   have HE:Hid (cutP o rs n=((ends n).take i).foldl (cutStep rs) []):=by
    rw [Hid,cutP,takeWhile_stop _ _ i x (aU HX) (aU HALL) (by simp [ho])]
   gi_wp2_with fail
   exact ⟨It.Above.refl _ _,rfl,hB,v,by rw [aU HE]; exact aU HV,aU HCB⟩
 case done =>
  intro W hI hdef hsz
  obtain ⟨hall,hB,hn0,v,hv,hc⟩:=hI
  rw [List.take_length] at hall hv
  have HE:Hid (cutP o rs n=(ends n).foldl (cutStep rs) []):=by rw [Hid,cutP,takeWhile_all _ _ hall]
  have HV:=aH hv
  clear hall hv hn0
  have cb:=hc.cell
  gi_wp2_with fail
  refine ⟨by simp,.inl ⟨_,_,rfl,run_takeDeferred hdef,?_⟩⟩
  have hB':=hB.trans (belowK_b (w:=W2) (show w.heap.size≤W2.heap.size by omega) W _ _ (.deferred none) (Nat.le_refl _) hdef rfl rfl)
  refine ⟨v,by simp [results,Tryz.results126,go_sem],⟨v,rfl,?_⟩,hB'⟩
  rw [aU HE]; exact aU HV
 case stop =>
  intro c W hI hdef hsz
  obtain ⟨rfl,hB,v,hv,hc⟩:=hI
  have HV:=aH hv
  clear hv
  have cb:=hc.cell
  gi_wp2_with fail
  refine ⟨by simp,.inl ⟨_,_,rfl,run_takeDeferred hdef,?_⟩⟩
  have hB':=hB.trans (belowK_b (w:=W2) (show w.heap.size≤W2.heap.size by omega) W _ _ (.deferred none) (Nat.le_refl _) hdef rfl rfl)
  exact ⟨v,by simp [results,Tryz.results126,go_sem],⟨v,rfl,aU HV⟩,hB'⟩
end Lb
end Go.Proofs.YtkkpahmoljiepaaGreatDoor

set_option maxRecDepth 1000000
set_option maxHeartbeats 12800000
namespace Go.Proofs.YtkkpahmoljiepaaGreatDoor
open Go.RowKit
open Pu (Str aH aU)
def OwnR (w:World) (base:Nat) (v:Value) (rs:List Rec):Prop:=w.ownsRow base 47 4 v rs.length (encs rs)
def setOwner (n:Str) (r:Rec):Rec:=(n,r.ttl,r.type,r.data)
def lastW (l:Str):Str:=l.drop (Lib.lastIndexByte (B l) 32+1).toNat
def minN (r:Rec):Nat:=((Lib.atoi (lastW r.data)).getD 0).toNat
def soaOk (r:Rec):Prop:=(lastW r.data).length≤18∧∃ m:Nat,Lib.atoi (lastW r.data)=some (m:Int)∧m≤1000000000
def denyR (r:Rec):Rec:=(r.owner,min r.ttl (minN r),r.type,r.data)
def denyP (o:Str) (rs:List Rec):List Rec:=(setP (ofP rs o) 6).map denyR
section
open Rf Re
theorem OwnR.below {w w':World} {base:Nat} {v:Value} {rs:List Rec} (h:OwnR w base v rs) (hb:Below w.heap.size w w'):OwnR w' base v rs:=own_below h hb
theorem OwnR.base {w:World} {base base':Nat} {v:Value} {rs:List Rec} (h:OwnR w base v rs) (hb:base'≤base):OwnR w base' v rs:=own_base h hb
theorem OwnR.keeps {w w':World} {base d:Nat} {v:Value} {rs:List Rec} (h:OwnR w base v rs) (hk:It.Keeps d w w') (hd:d<base):OwnR w' base v rs:=by
 obtain ⟨h1,h2⟩:=h
 refine ⟨h1,?_⟩
 rcases h2 with h2 | ⟨g,cap,cur,e,hb,hcur,hr⟩
 ·exact .inl h2
 ·exact .inr ⟨g,cap,cur,e,hb,(hk.block g (Array.getElem?_eq_some_iff.1 hcur).1 (by omega)).trans hcur,hr⟩
theorem OwnR.set_other {w:World} {base k:Nat} {v:Value} {rs:List Rec} (h:OwnR w base v rs) (hk:k<base) (u:Value):OwnR (w.setCell ⟨k,0,none⟩ u) base v rs:=ownsRow_setCell_below h hk u
theorem OwnR.set_low {w:World} {base k i:Nat} {v:Value} {rs:List Rec} (h:OwnR w base v rs) (hk:k<base) (u:Value):OwnR (w.setCell ⟨k,i,none⟩ u) base v rs:=ownsRow_setCell_below h hk u
theorem OwnR.own_lt0 {w:World} {base:Nat} {v:Value} {rs:List Rec} (h:OwnR w base v rs) : ∀ g,v.ownBlock=some g→base≤g∧g<w.heap.size:=World.ownsRow.lt h
theorem OwnR.slice {w:World} {base:Nat} {v:Value} {rs:List Rec} (h:OwnR w base v rs) : ∃ a c,v=.slice a rs.length c:=by
 rcases h.2 with ⟨rfl,h0⟩ | ⟨g,cap,cur,rfl,_⟩
 ·exact ⟨none,0,by rw [h0]⟩
 ·exact ⟨_,_,rfl⟩
theorem OwnR.rv {w:World} {base:Nat} {v:Value} {rs:List Rec} (h:OwnR w base v rs):RV w v rs:=by
 rcases h.2 with ⟨rfl,h0⟩ | ⟨g,cap,cur,rfl,hb,hcur,hc,hm,hsz,htk⟩
 ·exact .inl ⟨rfl,List.eq_nil_of_length_eq_zero h0⟩
 ·refine .inr ⟨g,0,cap,rfl,hc,recsAt_of_encs ((Array.getElem?_eq_some_iff.1 hcur).1) (fun j u hu=>?_)⟩
  have:=World.ownsRow.cellAt h j (by have:=(List.getElem?_eq_some_iff.1 hu).1; rw [encs_len] at this; exact this)
  rw [Nat.zero_add,this,hu]
end
namespace Lc
open Ka Kd Rf Rg Ia Iow Ie Zb Zc Za La Lb Re
theorem encs_of_recsAt {w:World} {b off:Nat} {rs:List Rec} (h:bE w b off rs) : ∀ j u,(encs rs)[j]? = some u→w.cell? ⟨b,off+j,none⟩=some u:=by
 intro j u hu
 have hj:j<rs.length*4:=by have:=(List.getElem?_eq_some_iff.1 hu).1; rwa [encs_len] at this
 have hj4:j/4<rs.length:=by omega
 have e:j=j/4*4+j%4:=by omega
 rw [e,encs_get rs (j/4) (j%4) hj4 (by omega)] at hu
 have:=h.2 (j/4) hj4 (j%4) u hu
 rw [Nat.add_assoc,← e] at this
 exact this
theorem encs_one {rs:List Rec} : ∀ u∈encs rs,u.oneCell'=true:=by
 intro u hu
 unfold encs at hu
 obtain ⟨r,_,hr⟩:=List.mem_flatMap.1 hu
 simp [Rec.enc] at hr
 rcases hr with rfl | rfl | rfl | rfl <;> rfl
theorem clone_any (v:Value) (rs:List Rec) (w:World) (hv:RV w v rs) (hl:rs.length≤3001) :
  Calls Tryz.prog 243 #[v] w fun e w'=>∃ v',e=.returned v'∧OwnR w' w.heap.size v' rs∧Below w.heap.size w w':=by
 rcases hv with ⟨rfl,rfl⟩ | ⟨b,off,cap,rfl,hcap,hr⟩
 ·refine (AnyE.slices_Clone_nil Tryz.lClone 0 0 w).mono ?_
  rintro e w' ⟨rfl,rfl⟩
  exact ⟨_,rfl,World.ownsRow_nil _ _ _ _,Below.refl _ _⟩
 ·obtain ⟨i0,hi,hz0,hz1,hz2⟩:=info_parts infoR
  refine (AnyE.slices_Clone Tryz.lClone i0 _ 4 48 hi hz0 hz1 hz2 rfl (by omega) Tryz.sizeOf47 b off rs.length cap (encs rs) w (encs_len rs) (by simp [maxLen]; omega) (by omega) (encs_of_recsAt hr) encs_one).mono ?_
  rintro e w' ⟨v',rfl,h1,_,h2⟩
  exact ⟨v',rfl,h1,h2⟩
theorem encs_set_owner (n:Str) : ∀ (rs:List Rec) (i:Nat) (h:i<rs.length),(encs rs).set (i*4) (.string (B n))=encs (rs.set i (setOwner n rs[i]))
 | [],i,h=>by simp at h
 | r :: t,0,_=>by simp [encs,Rec.enc,setOwner,Rec.owner,Rec.ttl,Rec.type,Rec.data]
 | r :: t,i+1,h=>by
  have ih:=encs_set_owner n t i (by simpa using h)
  have e:(i+1)*4=i*4+1+1+1+1:=by omega
  simp only [encs,List.flatMap_cons,List.set_cons_succ,List.getElem_cons_succ] at ih ⊢
  rw [← ih,e]
  simp [Rec.enc]
theorem map_step {f:Rec→Rec} {rs:List Rec} {k:Nat} (hk:k<rs.length) :
  ∃ h:k<((rs.take k).map f++rs.drop k).length,((rs.take k).map f++rs.drop k)[k]=rs[k]∧((rs.take k).map f++rs.drop k).set k (f rs[k])=(rs.take (k+1)).map f++rs.drop (k+1):=by
 have hl:((rs.take k).map f).length=k:=by simp; omega
 refine ⟨by simp; omega,?_,?_⟩
 ·rw [List.getElem_append_right (by omega)]
  simp only [hl,Nat.sub_self,List.getElem_drop,Nat.add_zero]
 ·rw [List.set_append_right _ _ (by omega),hl,Nat.sub_self,List.drop_eq_getElem_cons hk,List.set_cons_zero,List.take_succ_eq_append_getElem hk,List.map_append]
  simp
theorem map_len {f:Rec→Rec} {rs:List Rec} {k:Nat} (hk:k≤rs.length):((rs.take k).map f++rs.drop k).length=rs.length:=by simp; omega
theorem owned_any (n:Str) (v:Value) (rs:List Rec) (w:World) (hv:RV w v rs) (hl:rs.length≤3001) :
  Calls Tryz.prog 272 #[.string (B n),v] w fun e w'=>∃ v',e=.returned v'∧OwnR w' w.heap.size v' (rs.map (setOwner n))∧Below w.heap.size w w':=by
 have HC:=aH (clone_any v rs w hv hl)
 clear hv
 go_enter Tryz.func272,Tryz.ntmps272
 go_wp2_with fail
 refine (aU HC).mono ?_
 rintro e w1 ⟨v',rfl,hown,hb1⟩
 obtain ⟨a,c,rfl⟩:=hown.slice
 have HO:=aH hown
 clear hown
 go_wp2_with fail
 go_loopw [10] (fun i wr=>∃ k:Nat,i=.int .i64 k∧k≤rs.length∧OwnR wr w.heap.size (.slice a rs.length c) ((rs.take k).map (setOwner n)++rs.drop k)∧Below w.heap.size w wr) (fun i _=>rs.length - (intOf i).toNat)
 case atStart=>exact ⟨0,rfl,Nat.zero_le _,by simpa using aU HO,hb1⟩
 case round =>
  obtain ⟨k,rfl,hk,hown,hb⟩:=hrel
  clear HO hb1
  by_cases hlt:k<rs.length
  ·obtain ⟨hk',hget,hset⟩:=map_step (f:=setOwner n) hlt
   have hml:=map_len (f:=setOwner n) hk
   have hown':wr.ownsRow w.heap.size 47 4 (.slice a rs.length c) rs.length (encs ((rs.take k).map (setOwner n)++rs.drop k)):=by
    have:=hown; unfold OwnR at this; rwa [hml] at this
   rcases hown'.2 with ⟨e1,e2⟩ | ⟨g,cap,cur,e1,hbg,hcur,hcc,hcm,hcsz,htk⟩
   ·omega
   ·cases e1
    have hst:=hown'.stored (k*4) (.string (B n))
    have hfr:=hown'.frozenAt (k*4)
    have hce:=hown'.cellAt (k*4) (by omega)
    rw [encs_set_owner n _ k hk',hget,hset] at hst
    have hcs : ∃ u,wr.cell? ⟨g,k*4,none⟩=some u:=by
     rw [hce]
     have:k*4<(encs ((rs.take k).map (setOwner n)++rs.drop k)).length:=by rw [encs_len,hml]; omega
     exact ⟨_,List.getElem?_eq_getElem this⟩
    obtain ⟨u,hu⟩:=hcs
    have HST:=aH hst
    have hbS:=aH (hb.setCell (p:=⟨g,k*4,none⟩) hbg (.string (B n)))
    clear hst hown hown' hce hcur htk hget hset
    go_wp2_with fail
    go_roundw
    case rel =>
     refine ⟨k+1,by go_num,by omega,?_,by simpa using aU hbS⟩
     have:=(aU HST).1
     unfold OwnR
     rw [map_len (by omega)]
     simpa using this
    case measure=>simp [intOf]; omega
  ·obtain rfl:k=rs.length:=by omega
   have HO:=aH hown
   clear hown
   go_wp2_with fail
   go_ret
   refine ⟨_,rfl,?_,hb⟩
   have:=aU HO
   rw [List.take_length,List.drop_length,List.append_nil] at this
   exact this
end Lc
namespace Le
open Ka Kd Rf Rg Ia Iow Ie Zb Zc Za La Lb Re Lc
theorem last_bounds (s:ByteArray) : -1≤Lib.lastIndexByte s 32∧Lib.lastIndexByte s 32<s.size:=by
 unfold Lib.lastIndexByte
 rcases Lib.lastIdx_spec s 32 s.size with ⟨h,_⟩ | ⟨i,h1,h2,_⟩
 ·omega
 ·omega
theorem lastWord_any (l:Str) (w:World) (hl:l.length≤3000) :
  Calls Tryz.prog 196 #[.string (B l)] w fun e w'=>e=.returned (.string (B (lastW l)))∧w'=w:=by
 have hb:=last_bounds (B l)
 have hs:(B l).size≤3000:=by rw [size_B]; exact hl
 have hfin:Hid (lastW l=(B l).data.toList.drop (Lib.lastIndexByte (B l) 32+1).toNat):=rfl
 have HC:=aH (Tryz.strings_LastIndexByte (B l) 32 (by omega) w)
 generalize Lib.lastIndexByte (B l) 32=i at *
 obtain ⟨k,hk⟩ : ∃ k:Nat,i+1=k:=⟨(i+1).toNat,by omega⟩
 go_enter Tryz.func196,Tryz.ntmps196
 go_wp2_with fail
 refine (aU HC).mono ?_
 rintro e w ⟨rfl,rfl⟩
 go_wp2_with fail
 go_ret
 refine ⟨ret_str ?_,rfl⟩
 rw [data_B,aU hfin,hk,Int.toNat_natCast,ByteArray.data_extract,Array.toList_extract]
 simp
 exact List.take_of_length_le (by rw [List.length_drop,Pu.len_eq]; omega)
theorem encs_set_ttl (m:Nat) : ∀ (rs:List Rec) (i:Nat) (h:i<rs.length),(encs rs).set (i*4+1) (.int .i64 m)=encs (rs.set i (rs[i].owner,m,rs[i].type,rs[i].data))
 | [],i,h=>by simp at h
 | r :: t,0,_=>by simp [encs,Rec.enc,Rec.owner,Rec.ttl,Rec.type,Rec.data]
 | r :: t,i+1,h=>by
  have ih:=encs_set_ttl m t i (by simpa using h)
  have e:(i+1)*4+1=(i*4+1)+1+1+1+1:=by omega
  simp only [encs,List.flatMap_cons,List.set_cons_succ,List.getElem_cons_succ] at ih ⊢
  rw [← ih,e]
  simp [Rec.enc]
theorem atoi_any (l:Str) (m:Nat) (w:World) (hl:l.length≤18) (h:Lib.atoi l=some (m:Int)) :
  Calls Tryz.prog 274 #[.string (B l)] w fun e w'=>e=.returned (.tuple #[.int .i64 m,.nilIface])∧Below w.heap.size w w':=by
 refine (Tryz.strconv_Atoi (B l) m (by rw [size_B]; exact hl) h w).mono ?_
 rintro e w' ⟨rfl,t,rfl⟩
 exact ⟨rfl,Go.Joins.below_bytesWorld _ _ _ _ (Nat.le_refl _)⟩
theorem denial_any (zb b off cap:Nat) (o:Str) (rs:List Rec) (w:World) (hz:aN w zb o b off cap rs) (hlen:rs.length≤3001) (hok : ∀ r∈setP (ofP rs o) 6,soaOk r∧r.data.length≤3000∧r.ttl≤1000000000) :
  Calls Tryz.prog 245 #[.pointer (some ⟨zb,0,none⟩)] w fun e w'=>∃ v',e=.returned v'∧OwnR w' w.heap.size v' (denyP o rs)∧Below w.heap.size w w':=by
 have HS:=aH (set_t zb b off cap o o 6 rs w hz hlen)
 have hz0:=hz.2.1
 have HR:=aH hz.2.2.2.2
 have hsl:(setP (ofP rs o) 6).length≤3001:=Nat.le_trans (setP_len _ _) (Nat.le_trans (ofP_len _ _) hlen)
 have hfin:Hid (denyP o rs=(setP (ofP rs o) 6).map denyR):=rfl
 have HOK:=aH hok
 clear hz hok
 generalize setP (ofP rs o) 6=ss at *
 go_enter Tryz.func245,Tryz.ntmps245
 go_wp2_with fail
 refine (aU HS).mono ?_
 rintro e w1 ⟨⟨v1,rfl,hv1⟩,hb1⟩
 have HC:=aH (clone_any v1 ss w1 (hv1.rv ((aU HR).below hb1)) hsl)
 clear hv1
 go_wp2_with fail
 refine (aU HC).mono ?_
 rintro e w2 ⟨v',rfl,hown,hb2⟩
 obtain ⟨a,c,rfl⟩:=hown.slice
 have hs1:=hb1.size
 have HO:=aH (hown.base hs1)
 have hb12:=hb1.trans (hb2.mono hs1)
 clear hown
 go_wp2_with fail
 go_loopw [17] (fun i wr=>∃ k:Nat,i=.int .i64 k∧k≤ss.length∧OwnR wr w.heap.size (.slice a ss.length c) ((ss.take k).map denyR++ss.drop k)∧Below w.heap.size w wr) (fun i _=>ss.length - (intOf i).toNat)
 case atStart=>exact ⟨0,rfl,Nat.zero_le _,by simpa using aU HO,hb12⟩
 case round =>
  obtain ⟨k,rfl,hk,hown,hb⟩:=hrel
  clear HO hb1 hb2 hb12
  by_cases hlt:k<ss.length
  ·obtain ⟨hk',hget,hset⟩:=map_step (f:=denyR) hlt
   have hml:=map_len (f:=denyR) hk
   have hown':wr.ownsRow w.heap.size 47 4 (.slice a ss.length c) ss.length (encs ((ss.take k).map denyR++ss.drop k)):=by
    have:=hown; unfold OwnR at this; rwa [hml] at this
   have hra:=hown.rv
   obtain ⟨⟨hok1,m,hok2,hok3⟩,hdl,httl⟩:=aU HOK ss[k] (List.getElem_mem hlt)
   rcases hown'.2 with ⟨e1,e2⟩ | ⟨g,cap,cur,e1,hbg,hcur,hcc,hcm,hcsz,htk⟩
   ·omega
   ·cases e1
    have hra':bE wr g 0 ((ss.take k).map denyR++ss.drop k):=by
     rcases hra with ⟨e,_⟩ | ⟨b',off',cap',e,_,hr⟩
     ·cases e
     ·simp only [Value.slice.injEq,Option.some.injEq,Addr.mk.injEq] at e
      obtain ⟨⟨rfl,rfl,_⟩,_,_⟩:=e
      exact hr
    obtain ⟨c0,c1,c2,c3⟩:=hra'.four k hk'
    rw [hget] at c0 c1 c2 c3
    rw [Nat.zero_add] at c0 c1 c2 c3
    have hst:=fun (W:World) (h:Below wr.heap.size wr W)=>(own_below hown' h).stored (k*4+1) (.int .i64 ((min ss[k].ttl m:Nat):Int))
    have hfr:=fun (W:World) (h:Below wr.heap.size wr W)=>(own_below hown' h).frozenAt (k*4+1)
    rw [encs_set_ttl _ _ k hk',hget] at hst
    have hdr:denyR ss[k]=(ss[k].owner,min ss[k].ttl m,ss[k].type,ss[k].data):=by
     unfold denyR minN; rw [hok2]; rfl
    rw [← hdr,hset] at hst
    have HST:=aH hst
    have HFR:=aH hfr
    have hglt:g<wr.heap.size:=(Array.getElem?_eq_some_iff.1 hcur).1
    have HLW:=aH (fun W=>lastWord_any ss[k].data W hdl)
    have HAT:=aH (fun W=>atoi_any (lastW ss[k].data) m W hok1 hok2)
    clear hst hfr hown hown' hcur htk hget hset hdr hra hra' hok2
    generalize ss[k]=r at *
    go_wp2_with fail
    refine (aU HLW _).mono ?_
    rintro e w4 ⟨rfl,hw4⟩
    have hb4:Below wr.heap.size wr w4:=by rw [hw4]; exact (Below.refl _ _).alloc (Nat.le_refl _) _
    have d1:w4.cell? ⟨wr.heap.size,1,none⟩=some (.int .i64 r.ttl):=by rw [hw4]; go_simp
    have l4:wr.heap.size<w4.heap.size:=by rw [hw4]; simp
    clear hw4
    go_wp2_with fail
    refine (aU HAT _).mono ?_
    rintro e w5 ⟨rfl,hb5⟩
    have d5:=(hb5.cell (p:=⟨wr.heap.size,1,none⟩) l4).trans d1
    have hb45:=hb4.trans (hb5.mono hb4.size)
    have q1:=(hb45.cell (p:=⟨g,k*4+1,none⟩) hglt).trans c1
    have f1:=aU HFR w5 hb45
    have S5:=aH (aU HST w5 hb45)
    have hBS:=aH (((hb.trans (hb45.mono hb.size))).setCell (p:=⟨g,k*4+1,none⟩) hbg (.int .i64 ((min r.ttl m:Nat):Int)))
    have hmin:(min (r.ttl:Int) (m:Int))=((min r.ttl m:Nat):Int):=by omega
    clear HLW HAT HST HFR
    go_wp2_with fail
    go_roundw
    case rel =>
     refine ⟨k+1,by go_num,by omega,?_,by simpa using aU hBS⟩
     have:=(aU S5).1
     unfold OwnR
     rw [map_len (by omega)]
     simpa using this
    case measure=>simp [intOf]; omega
  ·obtain rfl:k=ss.length:=by omega
   have HO:=aH hown
   clear hown
   go_wp2_with fail
   go_ret
   refine ⟨_,rfl,?_,hb⟩
   have:=aU HO
   rw [List.take_length,List.drop_length,List.append_nil] at this
   rw [aU hfin]
   exact this
end Le
end Go.Proofs.YtkkpahmoljiepaaGreatDoor
