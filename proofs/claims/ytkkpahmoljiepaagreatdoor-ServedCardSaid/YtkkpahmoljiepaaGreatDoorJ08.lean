/- Contracts: names' FromLabels. -/
import Derived.Test.YtkkpahmoljiepaaGreatDoorJ07
import Derived.Test.YtkkpahmoljiepaaGreatDoorShelf
import Derived.Laws.MakeOwn
import Derived.Test.YtkkpahmoljiepaaGreatDoorJ04
import Derived.Lib.SmallJoins
import Derived.Laws.OwnMore
set_option linter.unusedSimpArgs false
set_option linter.unusedVariables false
set_option maxRecDepth 1000000
set_option maxHeartbeats 12800000
namespace Go.Proofs.YtkkpahmoljiepaaGreatDoor
open Go.RowKit
open Pu (Str aH aU)
def TextsAt (w:World) (g:Nat) (l:List Str):Prop:=w.heap[g]? = some (.cells ((l.map fun x=>Value.string (B x)).toArray) 9)
section
variable {w:World} {g:Nat} {l:List Str}
theorem TextsAt.lt (h:TextsAt w g l):g<w.heap.size:=(Array.getElem?_eq_some_iff.1 h).1
theorem TextsAt.cell (h:TextsAt w g l) (i:Nat) (hi:i<l.length):w.cell? ⟨g,i,none⟩=some (.string (B l[i])):=by
 unfold TextsAt at h; simp [World.cell?,h,hi]
theorem TextsAt.frozen (h:TextsAt w g l) (i:Nat):w.frozen? ⟨g,i,none⟩=false:=by
 unfold TextsAt at h; simp [World.frozen?,h]
theorem TextsAt.set (h:TextsAt w g l) (i:Nat) (x:Str):TextsAt (w.setCell ⟨g,i,none⟩ (.string (B x))) g (l.set i x):=by
 unfold TextsAt at *; simp only [World.setCell]; rw [Array.getElem?_modify,if_pos rfl,h]
 simp
theorem TextsAt.below {w':World} (h:TextsAt w g l) (hb:Below w.heap.size w w'):TextsAt w' g l:=(hb.block g h.lt).trans h
end
def StrsV (w:World) (v:Value) (ls:List Str):Prop:=(v=.slice none 0 0∧ls = [])∨∃ g c,v=.slice (some ⟨g,0,none⟩) ls.length c∧ls.length≤c∧g<w.heap.size∧∀ j (h:j<ls.length),w.cell? ⟨g,j,none⟩=some (.string (B ls[j]))
namespace We
open Ka Wa Wb Wd Re
def foldL (l:Str):Str:=l.map foldC
theorem foldL_len (l:Str):(foldL l).length=l.length:=by simp [foldL]
def nameP (ls:List Str):Str:=Lib.join (ls.map foldL) [46]
theorem made_texts (w:World) (n:Nat):TextsAt (w.alloc (.cells (madeCells (Value.string ⟨#[]⟩).cells n) 9)) w.heap.size (List.replicate n []):=by
 have e:madeCells (Value.string ⟨#[]⟩).cells n=((List.replicate n ([]:Str)).map fun x=>Value.string (B x)).toArray:=by
  apply Array.ext'
  simp only [madeCells,Value.cells,Array.toList_map,Array.toList_range]
  apply List.ext_getElem
  ·simp
  ·intro i h1 h2
   simp [B,Nat.mod_one]
 rw [e]
 exact World.alloc_heap_new w _
theorem step_set (ls:List Str) (k:Nat) (h:k<ls.length):(((ls.take k).map foldL)++List.replicate (ls.length - k) []).set k (foldL ls[k])=((ls.take (k+1)).map foldL)++List.replicate (ls.length - (k+1)) []:=by
 have e1:((ls.take k).map foldL).length=k:=by simp; omega
 rw [List.set_append,if_neg (by omega),e1,Nat.sub_self,List.take_succ_eq_append_getElem h,show ls.length - k=(ls.length - (k+1))+1 from by omega,List.replicate_succ,List.set_cons_zero,List.map_append,List.append_assoc]
 rfl
theorem data_Bs (l:List Str):(l.map B).map (·.data.toList)=l:=by
 rw [List.map_map]
 exact List.map_id' l
theorem join_len (M:Nat) : ∀ xs:List Str,(∀ x∈xs,x.length≤M)→(Lib.join xs [46]).length≤xs.length*(M+1)
 | [],_=>by simp [Lib.join,List.intercalate]
 | [x],h=>by
  have:=h x (by simp)
  simp [Lib.join,List.intercalate]; omega
 | x :: y :: t,h=>by
  have ih:=join_len M (y :: t) (fun z hz=>h z (List.mem_cons_of_mem _ hz))
  have hx:=h x (by simp)
  simp only [Lib.join,List.intercalate] at ih ⊢
  rw [List.intersperse]
  simp only [List.flatten_cons,List.length_append,List.length_cons,List.length_nil] at ih ⊢
  ·rw [Nat.succ_mul]
   omega
  ·intro e; cases e
theorem fromLabels_any (v:Value) (ls:List Str) (w:World) (hv:StrsV w v ls) (hn:ls.length≤1000) (hl : ∀ l∈ls,l.length≤1000) :
  Calls Tryz.prog 200 #[v] w fun e w'=>e=.returned (.string (B (nameP ls)))∧Below w.heap.size w w':=by
 obtain ⟨i0,hi,hz0,hz1,hz2⟩:=info_parts infoS
 have km:=run_make (P:=Tryz.prog) w 49 9 i0 (.string ⟨#[]⟩) underS hi hz0 .i64 .i64 ls.length ls.length (by omega) (Int.le_refl _) (by rw [hz2]; omega) (by omega)
 rw [hz1] at km
 simp only [Int.toNat_natCast,Nat.mul_one] at km
 have HT:=aH (made_texts w ls.length)
 have HB:=aH ((Below.refl w.heap.size w).alloc (Nat.le_refl _) (.cells (madeCells (Value.string ⟨#[]⟩).cells ls.length) 9))
 have HJ:=aH (Any.strings_Join Tryz.lays156 Tryz.Builder_Extra_156)
 have HV:=aH hv
 have HL:=aH hl
 generalize w.alloc (.cells (madeCells (Value.string ⟨#[]⟩).cells ls.length) 9)=W at *
 clear hi hz0 hz1 hz2 i0 hl
 rcases hv with ⟨rfl,rfl⟩ | ⟨g,c,rfl,hc,hg,hcells⟩
 ·have HN:=aH (fun W:World=>Any.strings_Join_none Tryz.lays156 Tryz.Builder_Extra_156 (some ⟨w.heap.size,0,none⟩) 0 ⟨#[46]⟩ W)
  clear HJ
  simp only [List.length_nil] at km HT HB
  have km0:(Instr.makeSlice 49 (.int .i64 0) (.int .i64 0)).run Tryz.prog w=.ok (.slice (some ⟨w.heap.size,0,none⟩) 0 0) W:=km
  clear km
  go_enter Tryz.func200,Tryz.ntmps200
  go_wp2_with fail
  go_loopw [11] (fun i wr=>i=.int .i64 0∧wr=W) (fun _ _=>0)
  case atStart=>exact ⟨rfl,rfl⟩
  case round =>
   obtain ⟨rfl,rfl⟩:=hrel
   go_wp2_with fail
   refine (aU HN _).mono ?_
   rintro e w2 ⟨rfl,rfl⟩
   go_wp2_with fail
   go_ret
   exact ⟨rfl,aU HB⟩
 ·have HC:=aH hcells
  clear hcells
  go_enter Tryz.func200,Tryz.ntmps200
  go_wp2_with fail
  go_loopw [11] (fun i wr=>∃ k:Nat,i=.int .i64 k∧k≤ls.length∧TextsAt wr w.heap.size (((ls.take k).map foldL)++List.replicate (ls.length - k) [])∧Below w.heap.size w wr) (fun i _=>ls.length - (intOf i).toNat)
  case atStart=>exact ⟨0,rfl,Nat.zero_le _,by simpa using aU HT,aU HB⟩
  case round =>
   obtain ⟨k,rfl,hk,hta,hb⟩:=hrel
   have HTA:=aH hta
   have HBB:=aH hb
   clear hta hb
   by_cases hlk:k<ls.length
   ·have hcell:wr.cell? ⟨g,k,none⟩=some (.string (B ls[k])):=((aU HBB).cell (p:=⟨g,k,none⟩) hg).trans (aU HC k hlk)
    have HS:=aH (step_set ls k hlk)
    have hlk':=aU HL ls[k] (List.getElem_mem hlk)
    have hlen:(((ls.take k).map foldL)++List.replicate (ls.length - k) []).length=ls.length:=by simp; omega
    generalize ls[k]=x at *
    have HF:=aH (show Calls Tryz.prog 252 #[.string (B x)] wr fun e w'=>e=.returned (.string (B (foldL x)))∧Below wr.heap.size wr w' from fold_any x wr hlk')
    go_wp2_with fail
    refine (aU HF).mono ?_
    rintro e w2 ⟨rfl,hb2⟩
    have hT2:=(aU HTA).below hb2
    have hcell2:=hT2.cell k (by omega)
    have hfz2:=hT2.frozen k
    have HT2:=aH (hT2.set k (foldL x))
    have HB2:=aH (((aU HBB).trans (hb2.mono (aU HBB).size)).setCell (p:=⟨w.heap.size,k,none⟩) (Nat.le_refl _) (.string (B (foldL x))))
    rw [aU HS] at HT2
    clear hb2 hT2
    go_wp2_with fail
    exact ⟨⟨k+1,by go_num,by omega,aU HT2,aU HB2⟩,by simp [intOf]; omega⟩
   ·have hkl:k=ls.length:=by omega
    subst hkl
    have HTE:Hid (TextsAt wr w.heap.size (ls.map foldL)):=by
     have:=aU HTA
     rw [List.take_length,Nat.sub_self,List.replicate_zero,List.append_nil] at this
     exact this
    have HJ2:=aH (aU HJ w.heap.size 0 ls.length ((ls.map foldL).map B) ⟨#[46]⟩ wr ?c1 (aU HTE).lt ?c2 ?c3 ?c4)
    case c1 =>
     intro j x hx
     rw [Nat.zero_add]
     rw [List.getElem?_map,Option.map_eq_some_iff] at hx
     obtain ⟨y,hy,rfl⟩:=hx
     obtain ⟨hj,rfl⟩:=List.getElem?_eq_some_iff.1 hy
     exact (aU HTE).cell j hj
    case c2=>simp; omega
    case c3=>simp
    case c4 =>
     rw [data_Bs]
     refine Nat.le_trans (join_len 1000 _ ?_) ?_
     ·intro x hx
      obtain ⟨y,hy,rfl⟩:=List.mem_map.1 hx
      rw [foldL_len]; exact aU HL y hy
     ·rw [List.length_map]; omega
    rw [data_Bs,List.length_map,List.length_map] at HJ2
    go_wp2_with fail
    refine (aU HJ2).mono ?_
    rintro e w2 ⟨rfl,hb2⟩
    go_wp2_with fail
    go_ret
    exact ⟨rfl,(aU HBB).trans (hb2.mono (aU HBB).size)⟩
end We
attribute [local go_sem] Oper.semAt_some undef
def cutStep (rs:List Rec) (acc:List Rec) (e:Str):List Rec:=if (setP (ofP rs e) 2).length=0 then acc else setP (ofP rs e) 2
def cutP (o:Str) (rs:List Rec) (n:Str):List Rec:=((ends n).takeWhile (fun e=>!(e == o))).foldl (cutStep rs) []
namespace Lb
open Ka Kd Rg Ia Iow Ie Zb Zc Za La
theorem takeWhile_all {α:Type} (p:α→Bool) : ∀ (l:List α),l.all p=true→l.takeWhile p=l
 | [],_=>rfl
 | x :: t,h=>by
  rw [List.all_cons,Bool.and_eq_true] at h
  rw [List.takeWhile_cons_of_pos h.1,takeWhile_all p t h.2]
theorem takeWhile_stop {α:Type} (p:α→Bool) : ∀ (l:List α) (i:Nat) (x:α),l[i]? = some x→(l.take i).all p=true→p x=false→l.takeWhile p=l.take i
 | [],i,x,h,_,_=>by simp at h
 | y :: t,0,x,h,_,hp=>by
  simp at h; subst h
  rw [List.takeWhile_cons_of_neg (by simp [hp])]; rfl
 | y :: t,i+1,x,h,ha,hp=>by
  rw [List.take_succ_cons,List.all_cons,Bool.and_eq_true] at ha
  rw [List.takeWhile_cons_of_pos ha.1,List.take_succ_cons,takeWhile_stop p t i x (by simpa using h) ha.2 hp]
theorem take_one {α:Type} {l:List α} {i:Nat} {x:α} (h:l[i]? = some x):l.take (i+1)=l.take i++[x]:=by
 obtain ⟨hi,rfl⟩:=List.getElem?_eq_some_iff.1 h
 exact List.take_succ_eq_append_getElem hi
theorem cutOver_any (zb b off cap:Nat) (o n:Str) (rs:List Rec) (w:World) (hz:aN w zb o b off cap rs) (hg:G w) (hlen:rs.length≤3001) (hn:n.length≤3000) (hol:o.length≤3000) :
  Calls Tryz.prog 126 #[.pointer (some ⟨zb,0,none⟩),.string (B n)] w fun e w'=>(∃ v,e=.returned v∧Piece b off rs v (cutP o rs n))∧Below w.heap.size w w':=by
 refine (callsIn_wide (n:=0)).1 ?_
 refine callsIn_of_wp_marks Tryz.func126 rfl trivial ?_
 simp only [Tryz.ntmps126,List.size_toArray,List.length_cons,List.length_nil,Nat.reduceAdd,Nat.reduceSub,Array.replicate_succ,Array.replicate_zero,List.push_toArray,List.append_toArray,List.nil_append,List.cons_append]
 have HZ:=aH hz
 have HG:=aH hg
 have hzb:=hz.1
 have hg0:=hg.1
 clear hz hg
 gi_wp2_with fail
 refine ⟨trivial,rfl,?_⟩
 refine (callsIn_wide.2 (ends_o _ _)).mono ?_
 rintro e W2 ⟨rfl,e4,hb2,e2⟩
 have e0:It.Box W2 w.heap.size (.pointer (some ⟨zb,0,none⟩)) 110:=((It.Box.new _ _ _).alloc _).below hb2 (by simp <;> omega)
 have e1:It.Box W2 (w.heap.size+1) (.slice none 0 0) 41:=by
  have:=(It.Box.new (w.alloc (.cells #[.pointer (some ⟨zb,0,none⟩)] 110)) (.slice none 0 0) 41).below hb2 (by simp <;> omega)
  rwa [World.size_alloc] at this
 have e5:Below w.heap.size w W2:=(((Below.refl _ _).alloc (Nat.le_refl _) _).alloc (by simp) _).trans (hb2.mono (by simp <;> omega))
 simp only [World.size_alloc] at e4 e2
 gi_wp2_with fail
 have hgrow : ∀ r,Below W2.heap.size W2 ((W2.alloc (.deferred (some []))).alloc (.loop r)):=fun r=>((Below.refl _ _).alloc (Nat.le_refl _) _).alloc (by simp) _
 refine It.rangeB (xs:=ends n) (encs:=fun e:Str=>#[.string (B e)]) (St:=fun A B=>Below A.heap.size A B) (Kp:=fun A B=>A.heap.size≤B.heap.size∧B.heap[0]? = A.heap[0]?) (Kx:=fun _ _=>True)
  (gf:=241) (lb:=#[.pointer (some ⟨w.heap.size+1+1,0,none⟩)]) rfl (enters_of Tryz.func241 (by kernel_rfl) rfl) (fun _=>rfl) ?seq
  [0] (by simp; omega) (fun A B hA h=>h.mono hA) (fun A B h h'=>⟨h'.1,h _ (by simp)⟩) (fun _ _ _=>trivial)
  (fun i W=>((ends n).take i).all (fun e=>!(e == o))=true∧Below w.heap.size w W∧It.Box W w.heap.size (.pointer (some ⟨zb,0,none⟩)) 110∧∃ v,Piece b off rs v (((ends n).take i).foldl (cutStep rs) [])∧It.Box W (w.heap.size+1) v 41)
  (fun c W=>c=.exit 0∧Below w.heap.size w W∧∃ v,Piece b off rs v (cutP o rs n)∧It.Box W (w.heap.size+1) v 41)
  (fun i A B h hb=>⟨h.1,h.2.1.trans (hb.mono (by omega)),h.2.2.1.below hb (by omega),by obtain ⟨v,h1,h2⟩:=h.2.2.2; exact ⟨v,h1,h2.below hb (by omega)⟩⟩)
  (fun c A B h hb=>⟨h.1,h.2.1.trans (hb.mono (by omega)),by obtain ⟨v,h1,h2⟩:=h.2.2; exact ⟨v,h1,h2.below hb (by omega)⟩⟩)
  ⟨rfl,e5,e0,_,.inl ⟨rfl,rfl⟩,e1⟩
  ?round ?done ?stop
 case seq =>
  intro r
  have hg:=hgrow r
  exact ends_seq _ n _ ((hg.cell (p:=⟨w.heap.size+1+1,0,none⟩) (by show w.heap.size+1+1<W2.heap.size; omega)).trans e2) (((aU HG).below e5).below hg) hn
 case round =>
  intro l' i x V W hx hI hsz
  gi_wp2_with fail
  refine ⟨trivial,?_⟩
  obtain ⟨hall,hB,hn0,v,hv,hc⟩:=hI
  have hxl:=ends_mem_len (List.mem_of_getElem? hx)
  have hzW:=(aU HZ).below hB
  have z0:=hzW.2.1
  have HZW:=aH hzW
  have cn:=hn0.cell
  have hBB:((B x).toList == (B o).toList)=(x == o):=B_inj
  have HN0:=aH hn0
  have HCB:=aH hc
  have HX:=aH hx
  have HALL:=aH hall
  have HV:=aH hv
  have hclt:=hc.lt
  have hnlt:=hn0.lt
  have hzlt:=hzW.1
  clear hn0 hc hx hall hv hzW
  cases ho:x == o
  ·rw [ho] at hBB
   have HA1:Hid (((ends n).take (i+1)).all (fun e=>!(e == o))=true):=by
    rw [Hid,take_one (aU HX),List.all_append,aU HALL]; simp [ho]
   have HF1:Hid (((ends n).take (i+1)).foldl (cutStep rs) []=cutStep rs (((ends n).take i).foldl (cutStep rs) []) x):=by
    rw [Hid,take_one (aU HX),List.foldl_append]; rfl
   have HCS:=aH (set_t zb b off cap o x 2 rs W (aU HZW) hlen)
   gi_wp2_with fail
   refine ⟨trivial,rfl,?_⟩
   refine (CallsIn.inRound l' (callsIn_wide.2 (aU HCS))).mono ?_
   rintro e W4 ⟨⟨v4,rfl,hv4⟩,hb4⟩
   obtain ⟨a4,c4,rfl⟩:=hv4.slice
   have HV4:=aH hv4
   have b4:=(aU HCB).below hb4 hclt
   have cb4:=b4.cell
   have cf4:=b4.frozen
   have HB4:=aH b4
   have HN4:=aH ((aU HN0).below hb4 hnlt)
   have hb4s:=hb4.size
   clear hv4 b4
   by_cases hm:(setP (ofP rs x) 2).length=0
   ·have HE:Hid (((ends n).take (i+1)).foldl (cutStep rs) []=((ends n).take i).foldl (cutStep rs) []):=by rw [Hid,aU HF1,cutStep,if_pos hm]
    have hmI : ¬ (0:Int)<((setP (ofP rs x) 2).length:Int):=by omega
    gi_wp2_with fail
    exact ⟨It.Above.of_grown hb4,fun k hk=>hb4.block k (by simp at hk; omega),aU HA1,hB.trans (hb4.mono hB.size),aU HN4,v,by rw [aU HE]; exact aU HV,aU HB4⟩
   ·have HE:Hid (((ends n).take (i+1)).foldl (cutStep rs) []=setP (ofP rs x) 2):=by rw [Hid,aU HF1,cutStep,if_neg hm]
    have hmI:(0:Int)<((setP (ofP rs x) 2).length:Int):=by omega
    clear hm
    gi_wp2_with fail
    refine ⟨(It.Above.of_grown hb4).trans (It.Above.setCell W4 _ _ (by omega)),fun k hk=>?_,aU HA1,(hB.trans (hb4.mono hB.size)).setCell (by show w.heap.size≤w.heap.size+1; omega) _,?_,_,by rw [aU HE]; exact aU HV4,(aU HB4).set _⟩
    ·obtain rfl:k=0:=by simpa using hk
     exact (Below.heap_setCell _ _ _ _ (by show 0≠w.heap.size+1; omega)).trans (hb4.block 0 (by omega))
    ·exact (Below.heap_setCell _ _ _ _ (by show w.heap.size≠w.heap.size+1; omega)).trans (aU HN4)
  ·rw [ho] at hBB
   have HE:Hid (cutP o rs n=((ends n).take i).foldl (cutStep rs) []):=by
    rw [Hid,cutP,takeWhile_stop _ _ i x (aU HX) (aU HALL) (by simp [ho])]
   gi_wp2_with fail
   exact ⟨It.Above.refl _ _,rfl,hB,v,by rw [aU HE]; exact aU HV,aU HCB⟩
 case done =>
  intro W hI hdef hsz
  obtain ⟨hall,hB,hn0,v,hv,hc⟩:=hI
  rw [List.take_length] at hall hv
  have HE:Hid (cutP o rs n=(ends n).foldl (cutStep rs) []):=by rw [Hid,cutP,takeWhile_all _ _ hall]
  have HV:=aH hv
  clear hall hv hn0
  have cb:=hc.cell
  gi_wp2_with fail
  refine ⟨by simp,.inl ⟨_,_,rfl,run_takeDeferred hdef,?_⟩⟩
  have hB':=hB.trans (belowK_b (w:=W2) (show w.heap.size≤W2.heap.size by omega) W _ _ (.deferred none) (Nat.le_refl _) hdef rfl rfl)
  refine ⟨v,by simp [results,Tryz.results126,go_sem],⟨v,rfl,?_⟩,hB'⟩
  rw [aU HE]; exact aU HV
 case stop =>
  intro c W hI hdef hsz
  obtain ⟨rfl,hB,v,hv,hc⟩:=hI
  have HV:=aH hv
  clear hv
  have cb:=hc.cell
  gi_wp2_with fail
  refine ⟨by simp,.inl ⟨_,_,rfl,run_takeDeferred hdef,?_⟩⟩
  have hB':=hB.trans (belowK_b (w:=W2) (show w.heap.size≤W2.heap.size by omega) W _ _ (.deferred none) (Nat.le_refl _) hdef rfl rfl)
  exact ⟨v,by simp [results,Tryz.results126,go_sem],⟨v,rfl,aU HV⟩,hB'⟩
end Lb
end Go.Proofs.YtkkpahmoljiepaaGreatDoor

set_option maxRecDepth 1000000
set_option maxHeartbeats 12800000
namespace Go.Proofs.YtkkpahmoljiepaaGreatDoor
open Go.RowKit
open Pu (Str aH aU)
def OwnR (w:World) (base:Nat) (v:Value) (rs:List Rec):Prop:=w.ownsRow base 47 4 v rs.length (encs rs)
def setOwner (n:Str) (r:Rec):Rec:=(n,r.ttl,r.type,r.data)
def lastW (l:Str):Str:=l.drop (Lib.lastIndexByte (B l) 32+1).toNat
def minN (r:Rec):Nat:=((Lib.atoi (lastW r.data)).getD 0).toNat
def soaOk (r:Rec):Prop:=(lastW r.data).length≤18∧∃ m:Nat,Lib.atoi (lastW r.data)=some (m:Int)∧m≤1000000000
def denyR (r:Rec):Rec:=(r.owner,min r.ttl (minN r),r.type,r.data)
def denyP (o:Str) (rs:List Rec):List Rec:=(setP (ofP rs o) 6).map denyR
section
open Rf Re
theorem OwnR.below {w w':World} {base:Nat} {v:Value} {rs:List Rec} (h:OwnR w base v rs) (hb:Below w.heap.size w w'):OwnR w' base v rs:=own_below h hb
theorem OwnR.base {w:World} {base base':Nat} {v:Value} {rs:List Rec} (h:OwnR w base v rs) (hb:base'≤base):OwnR w base' v rs:=own_base h hb
theorem OwnR.keeps {w w':World} {base d:Nat} {v:Value} {rs:List Rec} (h:OwnR w base v rs) (hk:It.Keeps d w w') (hd:d<base):OwnR w' base v rs:=by
 obtain ⟨h1,h2⟩:=h
 refine ⟨h1,?_⟩
 rcases h2 with h2 | ⟨g,cap,cur,e,hb,hcur,hr⟩
 ·exact .inl h2
 ·exact .inr ⟨g,cap,cur,e,hb,(hk.block g (Array.getElem?_eq_some_iff.1 hcur).1 (by omega)).trans hcur,hr⟩
theorem OwnR.set_other {w:World} {base k:Nat} {v:Value} {rs:List Rec} (h:OwnR w base v rs) (hk:k<base) (u:Value):OwnR (w.setCell ⟨k,0,none⟩ u) base v rs:=ownsRow_setCell_below h hk u
theorem OwnR.set_low {w:World} {base k i:Nat} {v:Value} {rs:List Rec} (h:OwnR w base v rs) (hk:k<base) (u:Value):OwnR (w.setCell ⟨k,i,none⟩ u) base v rs:=ownsRow_setCell_below h hk u
theorem OwnR.own_lt0 {w:World} {base:Nat} {v:Value} {rs:List Rec} (h:OwnR w base v rs) : ∀ g,v.ownBlock=some g→base≤g∧g<w.heap.size:=World.ownsRow.lt h
theorem OwnR.slice {w:World} {base:Nat} {v:Value} {rs:List Rec} (h:OwnR w base v rs) : ∃ a c,v=.slice a rs.length c:=by
 rcases h.2 with ⟨rfl,h0⟩ | ⟨g,cap,cur,rfl,_⟩
 ·exact ⟨none,0,by rw [h0]⟩
 ·exact ⟨_,_,rfl⟩
theorem OwnR.rv {w:World} {base:Nat} {v:Value} {rs:List Rec} (h:OwnR w base v rs):RV w v rs:=by
 rcases h.2 with ⟨rfl,h0⟩ | ⟨g,cap,cur,rfl,hb,hcur,hc,hm,hsz,htk⟩
 ·exact .inl ⟨rfl,List.eq_nil_of_length_eq_zero h0⟩
 ·refine .inr ⟨g,0,cap,rfl,hc,recsAt_of_encs ((Array.getElem?_eq_some_iff.1 hcur).1) (fun j u hu=>?_)⟩
  have:=World.ownsRow.cellAt h j (by have:=(List.getElem?_eq_some_iff.1 hu).1; rw [encs_len] at this; exact this)
  rw [Nat.zero_add,this,hu]
end
namespace Lc
open Ka Kd Rf Rg Ia Iow Ie Zb Zc Za La Lb Re
theorem encs_of_recsAt {w:World} {b off:Nat} {rs:List Rec} (h:bE w b off rs) : ∀ j u,(encs rs)[j]? = some u→w.cell? ⟨b,off+j,none⟩=some u:=by
 intro j u hu
 have hj:j<rs.length*4:=by have:=(List.getElem?_eq_some_iff.1 hu).1; rwa [encs_len] at this
 have hj4:j/4<rs.length:=by omega
 have e:j=j/4*4+j%4:=by omega
 rw [e,encs_get rs (j/4) (j%4) hj4 (by omega)] at hu
 have:=h.2 (j/4) hj4 (j%4) u hu
 rw [Nat.add_assoc,← e] at this
 exact this
theorem encs_one {rs:List Rec} : ∀ u∈encs rs,u.oneCell'=true:=by
 intro u hu
 unfold encs at hu
 obtain ⟨r,_,hr⟩:=List.mem_flatMap.1 hu
 simp [Rec.enc] at hr
 rcases hr with rfl | rfl | rfl | rfl <;> rfl
theorem clone_any (v:Value) (rs:List Rec) (w:World) (hv:RV w v rs) (hl:rs.length≤3001) :
  Calls Tryz.prog 243 #[v] w fun e w'=>∃ v',e=.returned v'∧OwnR w' w.heap.size v' rs∧Below w.heap.size w w':=by
 rcases hv with ⟨rfl,rfl⟩ | ⟨b,off,cap,rfl,hcap,hr⟩
 ·refine (AnyE.slices_Clone_nil Tryz.lClone 0 0 w).mono ?_
  rintro e w' ⟨rfl,rfl⟩
  exact ⟨_,rfl,World.ownsRow_nil _ _ _ _,Below.refl _ _⟩
 ·obtain ⟨i0,hi,hz0,hz1,hz2⟩:=info_parts infoR
  refine (AnyE.slices_Clone Tryz.lClone i0 _ 4 48 hi hz0 hz1 hz2 rfl (by omega) Tryz.sizeOf47 b off rs.length cap (encs rs) w (encs_len rs) (by simp [maxLen]; omega) (by omega) (encs_of_recsAt hr) encs_one).mono ?_
  rintro e w' ⟨v',rfl,h1,_,h2⟩
  exact ⟨v',rfl,h1,h2⟩
theorem encs_set_owner (n:Str) : ∀ (rs:List Rec) (i:Nat) (h:i<rs.length),(encs rs).set (i*4) (.string (B n))=encs (rs.set i (setOwner n rs[i]))
 | [],i,h=>by simp at h
 | r :: t,0,_=>by simp [encs,Rec.enc,setOwner,Rec.owner,Rec.ttl,Rec.type,Rec.data]
 | r :: t,i+1,h=>by
  have ih:=encs_set_owner n t i (by simpa using h)
  have e:(i+1)*4=i*4+1+1+1+1:=by omega
  simp only [encs,List.flatMap_cons,List.set_cons_succ,List.getElem_cons_succ] at ih ⊢
  rw [← ih,e]
  simp [Rec.enc]
theorem map_step {f:Rec→Rec} {rs:List Rec} {k:Nat} (hk:k<rs.length) :
  ∃ h:k<((rs.take k).map f++rs.drop k).length,((rs.take k).map f++rs.drop k)[k]=rs[k]∧((rs.take k).map f++rs.drop k).set k (f rs[k])=(rs.take (k+1)).map f++rs.drop (k+1):=by
 have hl:((rs.take k).map f).length=k:=by simp; omega
 refine ⟨by simp; omega,?_,?_⟩
 ·rw [List.getElem_append_right (by omega)]
  simp only [hl,Nat.sub_self,List.getElem_drop,Nat.add_zero]
 ·rw [List.set_append_right _ _ (by omega),hl,Nat.sub_self,List.drop_eq_getElem_cons hk,List.set_cons_zero,List.take_succ_eq_append_getElem hk,List.map_append]
  simp
theorem map_len {f:Rec→Rec} {rs:List Rec} {k:Nat} (hk:k≤rs.length):((rs.take k).map f++rs.drop k).length=rs.length:=by simp; omega
theorem owned_any (n:Str) (v:Value) (rs:List Rec) (w:World) (hv:RV w v rs) (hl:rs.length≤3001) :
  Calls Tryz.prog 272 #[.string (B n),v] w fun e w'=>∃ v',e=.returned v'∧OwnR w' w.heap.size v' (rs.map (setOwner n))∧Below w.heap.size w w':=by
 have HC:=aH (clone_any v rs w hv hl)
 clear hv
 go_enter Tryz.func272,Tryz.ntmps272
 go_wp2_with fail
 refine (aU HC).mono ?_
 rintro e w1 ⟨v',rfl,hown,hb1⟩
 obtain ⟨a,c,rfl⟩:=hown.slice
 have HO:=aH hown
 clear hown
 go_wp2_with fail
 go_loopw [10] (fun i wr=>∃ k:Nat,i=.int .i64 k∧k≤rs.length∧OwnR wr w.heap.size (.slice a rs.length c) ((rs.take k).map (setOwner n)++rs.drop k)∧Below w.heap.size w wr) (fun i _=>rs.length - (intOf i).toNat)
 case atStart=>exact ⟨0,rfl,Nat.zero_le _,by simpa using aU HO,hb1⟩
 case round =>
  obtain ⟨k,rfl,hk,hown,hb⟩:=hrel
  clear HO hb1
  by_cases hlt:k<rs.length
  ·obtain ⟨hk',hget,hset⟩:=map_step (f:=setOwner n) hlt
   have hml:=map_len (f:=setOwner n) hk
   have hown':wr.ownsRow w.heap.size 47 4 (.slice a rs.length c) rs.length (encs ((rs.take k).map (setOwner n)++rs.drop k)):=by
    have:=hown; unfold OwnR at this; rwa [hml] at this
   rcases hown'.2 with ⟨e1,e2⟩ | ⟨g,cap,cur,e1,hbg,hcur,hcc,hcm,hcsz,htk⟩
   ·omega
   ·cases e1
    have hst:=hown'.stored (k*4) (.string (B n))
    have hfr:=hown'.frozenAt (k*4)
    have hce:=hown'.cellAt (k*4) (by omega)
    rw [encs_set_owner n _ k hk',hget,hset] at hst
    have hcs : ∃ u,wr.cell? ⟨g,k*4,none⟩=some u:=by
     rw [hce]
     have:k*4<(encs ((rs.take k).map (setOwner n)++rs.drop k)).length:=by rw [encs_len,hml]; omega
     exact ⟨_,List.getElem?_eq_getElem this⟩
    obtain ⟨u,hu⟩:=hcs
    have HST:=aH hst
    have hbS:=aH (hb.setCell (p:=⟨g,k*4,none⟩) hbg (.string (B n)))
    clear hst hown hown' hce hcur htk hget hset
    go_wp2_with fail
    go_roundw
    case rel =>
     refine ⟨k+1,by go_num,by omega,?_,by simpa using aU hbS⟩
     have:=(aU HST).1
     unfold OwnR
     rw [map_len (by omega)]
     simpa using this
    case measure=>simp [intOf]; omega
  ·obtain rfl:k=rs.length:=by omega
   have HO:=aH hown
   clear hown
   go_wp2_with fail
   go_ret
   refine ⟨_,rfl,?_,hb⟩
   have:=aU HO
   rw [List.take_length,List.drop_length,List.append_nil] at this
   exact this
end Lc
namespace Le
open Ka Kd Rf Rg Ia Iow Ie Zb Zc Za La Lb Re Lc
theorem last_bounds (s:ByteArray) : -1≤Lib.lastIndexByte s 32∧Lib.lastIndexByte s 32<s.size:=by
 unfold Lib.lastIndexByte
 rcases Lib.lastIdx_spec s 32 s.size with ⟨h,_⟩ | ⟨i,h1,h2,_⟩
 ·omega
 ·omega
theorem lastWord_any (l:Str) (w:World) (hl:l.length≤3000) :
  Calls Tryz.prog 196 #[.string (B l)] w fun e w'=>e=.returned (.string (B (lastW l)))∧w'=w:=by
 have hb:=last_bounds (B l)
 have hs:(B l).size≤3000:=by rw [size_B]; exact hl
 have hfin:Hid (lastW l=(B l).data.toList.drop (Lib.lastIndexByte (B l) 32+1).toNat):=rfl
 have HC:=aH (Tryz.strings_LastIndexByte (B l) 32 (by omega) w)
 generalize Lib.lastIndexByte (B l) 32=i at *
 obtain ⟨k,hk⟩ : ∃ k:Nat,i+1=k:=⟨(i+1).toNat,by omega⟩
 go_enter Tryz.func196,Tryz.ntmps196
 go_wp2_with fail
 refine (aU HC).mono ?_
 rintro e w ⟨rfl,rfl⟩
 go_wp2_with fail
 go_ret
 refine ⟨ret_str ?_,rfl⟩
 rw [data_B,aU hfin,hk,Int.toNat_natCast,ByteArray.data_extract,Array.toList_extract]
 simp
 exact List.take_of_length_le (by rw [List.length_drop,Pu.len_eq]; omega)
theorem encs_set_ttl (m:Nat) : ∀ (rs:List Rec) (i:Nat) (h:i<rs.length),(encs rs).set (i*4+1) (.int .i64 m)=encs (rs.set i (rs[i].owner,m,rs[i].type,rs[i].data))
 | [],i,h=>by simp at h
 | r :: t,0,_=>by simp [encs,Rec.enc,Rec.owner,Rec.ttl,Rec.type,Rec.data]
 | r :: t,i+1,h=>by
  have ih:=encs_set_ttl m t i (by simpa using h)
  have e:(i+1)*4+1=(i*4+1)+1+1+1+1:=by omega
  simp only [encs,List.flatMap_cons,List.set_cons_succ,List.getElem_cons_succ] at ih ⊢
  rw [← ih,e]
  simp [Rec.enc]
theorem atoi_any (l:Str) (m:Nat) (w:World) (hl:l.length≤18) (h:Lib.atoi l=some (m:Int)) :
  Calls Tryz.prog 274 #[.string (B l)] w fun e w'=>e=.returned (.tuple #[.int .i64 m,.nilIface])∧Below w.heap.size w w':=by
 refine (Tryz.strconv_Atoi (B l) m (by rw [size_B]; exact hl) h w).mono ?_
 rintro e w' ⟨rfl,t,rfl⟩
 exact ⟨rfl,Go.Joins.below_bytesWorld _ _ _ _ (Nat.le_refl _)⟩
theorem denial_any (zb b off cap:Nat) (o:Str) (rs:List Rec) (w:World) (hz:aN w zb o b off cap rs) (hlen:rs.length≤3001) (hok : ∀ r∈setP (ofP rs o) 6,soaOk r∧r.data.length≤3000∧r.ttl≤1000000000) :
  Calls Tryz.prog 245 #[.pointer (some ⟨zb,0,none⟩)] w fun e w'=>∃ v',e=.returned v'∧OwnR w' w.heap.size v' (denyP o rs)∧Below w.heap.size w w':=by
 have HS:=aH (set_t zb b off cap o o 6 rs w hz hlen)
 have hz0:=hz.2.1
 have HR:=aH hz.2.2.2.2
 have hsl:(setP (ofP rs o) 6).length≤3001:=Nat.le_trans (setP_len _ _) (Nat.le_trans (ofP_len _ _) hlen)
 have hfin:Hid (denyP o rs=(setP (ofP rs o) 6).map denyR):=rfl
 have HOK:=aH hok
 clear hz hok
 generalize setP (ofP rs o) 6=ss at *
 go_enter Tryz.func245,Tryz.ntmps245
 go_wp2_with fail
 refine (aU HS).mono ?_
 rintro e w1 ⟨⟨v1,rfl,hv1⟩,hb1⟩
 have HC:=aH (clone_any v1 ss w1 (hv1.rv ((aU HR).below hb1)) hsl)
 clear hv1
 go_wp2_with fail
 refine (aU HC).mono ?_
 rintro e w2 ⟨v',rfl,hown,hb2⟩
 obtain ⟨a,c,rfl⟩:=hown.slice
 have hs1:=hb1.size
 have HO:=aH (hown.base hs1)
 have hb12:=hb1.trans (hb2.mono hs1)
 clear hown
 go_wp2_with fail
 go_loopw [17] (fun i wr=>∃ k:Nat,i=.int .i64 k∧k≤ss.length∧OwnR wr w.heap.size (.slice a ss.length c) ((ss.take k).map denyR++ss.drop k)∧Below w.heap.size w wr) (fun i _=>ss.length - (intOf i).toNat)
 case atStart=>exact ⟨0,rfl,Nat.zero_le _,by simpa using aU HO,hb12⟩
 case round =>
  obtain ⟨k,rfl,hk,hown,hb⟩:=hrel
  clear HO hb1 hb2 hb12
  by_cases hlt:k<ss.length
  ·obtain ⟨hk',hget,hset⟩:=map_step (f:=denyR) hlt
   have hml:=map_len (f:=denyR) hk
   have hown':wr.ownsRow w.heap.size 47 4 (.slice a ss.length c) ss.length (encs ((ss.take k).map denyR++ss.drop k)):=by
    have:=hown; unfold OwnR at this; rwa [hml] at this
   have hra:=hown.rv
   obtain ⟨⟨hok1,m,hok2,hok3⟩,hdl,httl⟩:=aU HOK ss[k] (List.getElem_mem hlt)
   rcases hown'.2 with ⟨e1,e2⟩ | ⟨g,cap,cur,e1,hbg,hcur,hcc,hcm,hcsz,htk⟩
   ·omega
   ·cases e1
    have hra':bE wr g 0 ((ss.take k).map denyR++ss.drop k):=by
     rcases hra with ⟨e,_⟩ | ⟨b',off',cap',e,_,hr⟩
     ·cases e
     ·simp only [Value.slice.injEq,Option.some.injEq,Addr.mk.injEq] at e
      obtain ⟨⟨rfl,rfl,_⟩,_,_⟩:=e
      exact hr
    obtain ⟨c0,c1,c2,c3⟩:=hra'.four k hk'
    rw [hget] at c0 c1 c2 c3
    rw [Nat.zero_add] at c0 c1 c2 c3
    have hst:=fun (W:World) (h:Below wr.heap.size wr W)=>(own_below hown' h).stored (k*4+1) (.int .i64 ((min ss[k].ttl m:Nat):Int))
    have hfr:=fun (W:World) (h:Below wr.heap.size wr W)=>(own_below hown' h).frozenAt (k*4+1)
    rw [encs_set_ttl _ _ k hk',hget] at hst
    have hdr:denyR ss[k]=(ss[k].owner,min ss[k].ttl m,ss[k].type,ss[k].data):=by
     unfold denyR minN; rw [hok2]; rfl
    rw [← hdr,hset] at hst
    have HST:=aH hst
    have HFR:=aH hfr
    have hglt:g<wr.heap.size:=(Array.getElem?_eq_some_iff.1 hcur).1
    have HLW:=aH (fun W=>lastWord_any ss[k].data W hdl)
    have HAT:=aH (fun W=>atoi_any (lastW ss[k].data) m W hok1 hok2)
    clear hst hfr hown hown' hcur htk hget hset hdr hra hra' hok2
    generalize ss[k]=r at *
    go_wp2_with fail
    refine (aU HLW _).mono ?_
    rintro e w4 ⟨rfl,hw4⟩
    have hb4:Below wr.heap.size wr w4:=by rw [hw4]; exact (Below.refl _ _).alloc (Nat.le_refl _) _
    have d1:w4.cell? ⟨wr.heap.size,1,none⟩=some (.int .i64 r.ttl):=by rw [hw4]; go_simp
    have l4:wr.heap.size<w4.heap.size:=by rw [hw4]; simp
    clear hw4
    go_wp2_with fail
    refine (aU HAT _).mono ?_
    rintro e w5 ⟨rfl,hb5⟩
    have d5:=(hb5.cell (p:=⟨wr.heap.size,1,none⟩) l4).trans d1
    have hb45:=hb4.trans (hb5.mono hb4.size)
    have q1:=(hb45.cell (p:=⟨g,k*4+1,none⟩) hglt).trans c1
    have f1:=aU HFR w5 hb45
    have S5:=aH (aU HST w5 hb45)
    have hBS:=aH (((hb.trans (hb45.mono hb.size))).setCell (p:=⟨g,k*4+1,none⟩) hbg (.int .i64 ((min r.ttl m:Nat):Int)))
    have hmin:(min (r.ttl:Int) (m:Int))=((min r.ttl m:Nat):Int):=by omega
    clear HLW HAT HST HFR
    go_wp2_with fail
    go_roundw
    case rel =>
     refine ⟨k+1,by go_num,by omega,?_,by simpa using aU hBS⟩
     have:=(aU S5).1
     unfold OwnR
     rw [map_len (by omega)]
     simpa using this
    case measure=>simp [intOf]; omega
  ·obtain rfl:k=ss.length:=by omega
   have HO:=aH hown
   clear hown
   go_wp2_with fail
   go_ret
   refine ⟨_,rfl,?_,hb⟩
   have:=aU HO
   rw [List.take_length,List.drop_length,List.append_nil] at this
   rw [aU hfin]
   exact this
end Le
end Go.Proofs.YtkkpahmoljiepaaGreatDoor
