/- The document's answer (beaconref): the records of a name and a type. -/
import Derived.Test.YtkkpahmoljiepaaGreatDoorJ18
import Derived.Deep.AppendLies
import Derived.Maps.AppendAt
import Derived.Test.YtkkpahmoljiepaaGreatDoorJ19
import Derived.Test.YtkkpahmoljiepaaGreatDoorJ09
set_option linter.unusedSimpArgs false
set_option linter.unusedVariables false
set_option maxRecDepth 1000000
set_option maxHeartbeats 12800000
namespace Go.Proofs.YtkkpahmoljiepaaGreatDoor
open Go.RowKit
open Pu (Str aH aU)
namespace Eu
open Ka Kb Re Wa Wb Ea Eb Ec Ed Ee Ef Eh
theorem underQ:Tryz.prog.underlying 115=some (.slice 119):=by kernel_rfl
theorem infoQ:(Tryz.prog.info? 119).map (fun i=>(i.zero,i.size,i.bytes))=some (some (.agg #[.slice none 0 0,.int .i64 0,.int .i64 0,.string ⟨#[]⟩,.slice none 0 0]),5,80):=by kernel_rfl
def wdV (w:World) (b off j:Nat):Value:=(w.cell? ⟨b,off+j*5+4,none⟩).getD (.slice none 0 0)
def enc5 (w:World) (b off:Nat) (ow:Value) (rs:List Rec) (j:Nat):List Value:=[ow,.int .i64 (rs[j]?.getD Rec.zero).ttl,.int .i64 (rs[j]?.getD Rec.zero).type,.string (B (rs[j]?.getD Rec.zero).data),wdV w b off j]
def pick (rs:List Rec) (ns:List Str) (k:Int) (j:Nat):Bool:=decide (Sp.spl 46 (rs[j]?.getD Rec.zero).owner=ns) && (rs[j]?.getD Rec.zero).type == k
def rowJ (rs:List Rec) (ns:List Str) (k:Int) (i:Nat):List Nat:=(List.range i).filter (pick rs ns k)
def setJ (rs:List Rec) (ns:List Str) (t:Int):Nat→List Nat
 | 0=>[]
 | k+1=>setJ rs ns t k++if t≠255∧t≠(k:Int) then [] else if k=0 then [] else rowJ rs ns k rs.length
theorem rowJ_succ (rs:List Rec) (ns:List Str) (k:Int) (i:Nat):rowJ rs ns k (i+1)=rowJ rs ns k i++if pick rs ns k i then [i] else []:=by
 unfold rowJ
 rw [List.range_succ,List.filter_append]
 by_cases h:pick rs ns k i=true <;> simp [h]
theorem rowJ_len (rs:List Rec) (ns:List Str) (k:Int) (i:Nat):(rowJ rs ns k i).length≤i:=by
 unfold rowJ
 exact Nat.le_trans (List.length_filter_le _ _) (by simp)
theorem setJ_len (rs:List Rec) (ns:List Str) (t:Int) : ∀ k,(setJ rs ns t k).length≤k*rs.length
 | 0=>by simp [setJ]
 | k+1=>by
  rw [setJ,List.length_append,Nat.succ_mul]
  have:=setJ_len rs ns t k
  have h2:=rowJ_len rs ns k rs.length
  split
  ·simp; omega
  ·split
   ·simp; omega
   ·omega
theorem new5 (W:World) (g:Nat) (hg:g=W.heap.size) (a b c d e:Value) (t:TypeId) : ∀ (j:Nat) (u:Value),[a,b,c,d,e][j]? = some u→(W.alloc (.cells #[a,b,c,d,e] t)).cell? ((⟨g,0,none⟩:Addr).add j)=some u:=fun j u hj=>by
 subst hg
 exact World.news_of_block (World.alloc_heap_new W (.cells #[a,b,c,d,e] t)) j u hj
theorem one5 (a a':Option Addr) (n c n' c':Nat) (x y:Int) (d:ByteArray) : ∀ u∈[Value.slice a n c,.int .i64 x,.int .i64 y,.string d,.slice a' n' c'],u.oneCell'=true:=by
 intro u hu
 simp at hu
 rcases hu with rfl | rfl | rfl | rfl | rfl <;> rfl
theorem set_any (zb:Nat) (o:Str) (rs:List Rec) (u:Value) (oa:Option Addr) (on oc:Nat) (ns:List Str) (t:Int) (w:World) (b off cap:Nat) (vo:Value) (z0:w.heap[zb]? = some (.cells #[vo,.slice (some ⟨b,off,none⟩) rs.length cap] 117)) (z2:rs.length≤cap) (z3:RRecs w b off rs) (hf:RFit o rs) (hu:NmV w u ns) (hn:ns.length≤1000) :
  Calls Tryz.prog 237 #[.pointer (some ⟨zb,0,none⟩),u,.int .i64 t,.slice oa on oc] w fun e w'=>(∃ v,e=.returned v∧w'.ownsRow w.heap.size 119 5 v (setJ rs ns t 17).length ((setJ rs ns t 17).flatMap (enc5 w b off (.slice oa on oc) rs)))∧Below w.heap.size w w':=by
 obtain ⟨i0,hi0,hz0,hz1,hz2⟩:=info_parts infoQ
 have hzl:zb<w.heap.size:=(Array.getElem?_eq_some_iff.1 z0).1
 have HU:=aH hu
 have HR:=aH z3
 have HZB:=aH z0
 have hfl:=hf.2.1
 have HF:=aH hf
 clear z0 z3 hu hf
 go_enter Tryz.func237,Tryz.ntmps237
 go_wp2_with fail
 go_loopw [9,10] (fun out k wr=>∃ kn:Nat,1≤kn∧kn≤17∧k=.int .i64 kn∧(∃ a n c,out=.slice a n c)∧wr.ownsRow w.heap.size 119 5 out (setJ rs ns t kn).length ((setJ rs ns t kn).flatMap (enc5 w b off (.slice oa on oc) rs))∧Below w.heap.size w wr) (fun _ k _=>17 - (intOf k).toNat)
 case atStart =>
  refine ⟨1,by omega,by omega,rfl,⟨_,_,_,rfl⟩,?_,Below.refl _ _⟩
  have:setJ rs ns t 1 = []:=by simp [setJ]
  rw [this]
  exact ⟨rfl,.inl ⟨rfl,rfl⟩⟩
 case round =>
  obtain ⟨kn,hk1,hk17,rfl,⟨aa,an,ac,rfl⟩,hown,hb⟩:=hrel
  have HO:=aH hown
  have HB:=aH hb
  clear hown hb
  by_cases hlt:kn<17
  ·have hltI:(kn:Int)<17:=by omega
   have hN:=setJ_len rs ns t kn
   have hN2:kn*rs.length≤17*3001:=Nat.mul_le_mul (by omega) hfl
   by_cases hsk:t≠255∧t≠(kn:Int)
   ·have h1:(t != 255)=true:=by simpa using hsk.1
    have h2:(t != (kn:Int))=true:=by simpa using hsk.2
    have hs1:setJ rs ns t (kn+1)=setJ rs ns t kn:=by rw [setJ,if_pos hsk,List.append_nil]
    clear hsk
    go_wp2_with fail
    refine ⟨⟨kn+1,by omega,by omega,by go_num,⟨_,_,_,rfl⟩,by rw [hs1]; exact aU HO,aU HB⟩,by simp [intOf]; omega⟩
   ·have hs1:setJ rs ns t (kn+1)=setJ rs ns t kn++rowJ rs ns kn rs.length:=by rw [setJ,if_neg hsk,if_neg (by omega)]
    have HS1:=aH hs1
    clear hs1
    have hcase:(t != 255)=false∨((t != 255)=true∧(t != (kn:Int))=false):=by
     by_cases h1:t=255
     ·left; simp [h1]
     ·right
      have h2:t=(kn:Int):=Classical.byContradiction fun hc=>hsk ⟨h1,hc⟩
      exact ⟨by simpa using h1,by simp [h2]⟩
    clear hsk
    generalize setJ rs ns t kn=J0 at *
    rcases hcase with h1 | ⟨h1,h2⟩
    all_goals
     go_wp2_with fail
     go_loopw [9,11] (fun out iv wi=>∃ i:Nat,i≤rs.length∧iv=.int .i64 i∧(∃ a n c,out=.slice a n c)∧wi.ownsRow w.heap.size 119 5 out (J0++rowJ rs ns kn i).length ((J0++rowJ rs ns kn i).flatMap (enc5 w b off (.slice oa on oc) rs))∧Below w.heap.size w wi) (fun _ iv _=>rs.length - (intOf iv).toNat)
     case atStart =>
      refine ⟨0,by omega,rfl,⟨_,_,_,rfl⟩,?_,aU HB⟩
      have:rowJ rs ns kn 0 = []:=rfl
      rw [this,List.append_nil]
      exact aU HO
     case round =>
      clear HO HB
      obtain ⟨i,hi,rfl,⟨ba,bn,bc,rfl⟩,hown,hb⟩:=hrel
      have HO:=aH hown
      have HB:=aH hb
      have zc:wr.cell? ⟨zb,1,none⟩=some (.slice (some ⟨b,off,none⟩) rs.length cap):=by
       have:=(hb.block zb hzl).trans (aU HZB)
       unfold World.cell?; rw [this]; rfl
      by_cases hil:i<rs.length
      ·have hilI:(i:Int)<(rs.length:Int):=by omega
       obtain ⟨ro,rv,c0,c1,c2,c3,c4,c5,c6⟩:=(aU HR) i hil
       have hrl:=(aU HF).2.2 rs[i] (List.getElem_mem hil)
       have HS:=aH (same_any ro u (Sp.spl 46 rs[i].owner) ns wr (c5.below hb) ((aU HU).below hb) (spl_small hrl) hn)
       have HEN:Hid (enc5 w b off (.slice oa on oc) rs i = [.slice oa on oc,.int .i64 rs[i].ttl,.int .i64 rs[i].type,.string (B rs[i].data),rv]):=by
        unfold Hid enc5 wdV
        rw [c4,List.getElem?_eq_getElem hil]; rfl
       have HPK:Hid (pick rs ns kn i=(decide (Sp.spl 46 rs[i].owner=ns) && rs[i].type == (kn:Int))):=by
        unfold Hid pick
        rw [List.getElem?_eq_getElem hil]; rfl
       have HJ:=aH (rowJ_succ rs ns kn i)
       obtain ⟨rg,rof,rc,rfl,_,_⟩:=c6
       obtain ⟨og,oof,occ,rfl,_,_⟩:=c5
       generalize hrlen:(Sp.spl 32 rs[i].data).length=dl at *
       have kp : ∀ (W:World),Below w.heap.size w W→W.cell? ⟨b,off+i*5,none⟩=some (.slice (some ⟨og,oof,none⟩) (Sp.spl 46 rs[i].owner).length occ)∧W.cell? ⟨b,off+i*5+1,none⟩=some (.int .i64 rs[i].ttl)∧W.cell? ⟨b,off+i*5+2,none⟩=some (.int .i64 rs[i].type)∧W.cell? ⟨b,off+i*5+3,none⟩=some (.string (B rs[i].data))∧W.cell? ⟨b,off+i*5+4,none⟩=some (.slice (some ⟨rg,rof,none⟩) dl rc)∧W.cell? ⟨zb,1,none⟩=some (.slice (some ⟨b,off,none⟩) rs.length cap):=fun W hW=>by
        have k : ∀ (a:Addr) (v:Value),w.cell? a=some v→W.cell? a=some v:=fun a v h=>(hW.cell (World.block_lt_of_cell? w a h)).trans h
        refine ⟨k _ _ c0,k _ _ c1,k _ _ c2,k _ _ c3,k _ _ c4,?_⟩
        have:=(hW.block zb hzl).trans (aU HZB)
        unfold World.cell?; rw [this]; rfl
       have HKP:=aH kp
       have d0:=(kp wr hb).1
       clear c0 c1 c2 c3 c4 kp hown hb hrl hrlen
       generalize rs[i]=r at *
       go_wp2_with fail
       refine (aU HS).mono ?_
       rintro e w1 ⟨rfl,hb1⟩
       have HB1:=aH ((aU HB).trans (hb1.mono (aU HB).size))
       have HO1:=aH (own_below (aU HO) hb1)
       obtain ⟨e0,e1,e2,e3,e4,e5⟩:=aU HKP w1 (aU HB1)
       clear hb1 HS d0 zc
       cases hs:decide (Sp.spl 46 r.owner=ns)
       ·have HP:Hid (rowJ rs ns kn (i+1)=rowJ rs ns kn i):=by
         have h3:=aU HPK
         rw [hs] at h3
         have h4:=aU HJ
         rw [h3] at h4
         exact (by simpa using h4:rowJ rs ns kn (i+1)=_)
        clear hs
        go_wp2_with fail
        exact ⟨⟨i+1,by omega,by go_num,⟨_,_,_,rfl⟩,by rw [aU HP]; exact aU HO1,aU HB1⟩,by simp [intOf]; omega⟩
       ·cases hty:(r.type == (kn:Int))
        ·have HP:Hid (rowJ rs ns kn (i+1)=rowJ rs ns kn i):=by
          have h3:=aU HPK
          rw [hs,hty] at h3
          have h4:=aU HJ
          rw [h3] at h4
          exact (by simpa using h4:rowJ rs ns kn (i+1)=_)
         clear hs
         go_wp2_with fail
         exact ⟨⟨i+1,by omega,by go_num,⟨_,_,_,rfl⟩,by rw [aU HP]; exact aU HO1,aU HB1⟩,by simp [intOf]; omega⟩
        ·have HP:Hid (rowJ rs ns kn (i+1)=rowJ rs ns kn i++[i]):=by
          have h3:=aU HPK
          rw [hs,hty] at h3
          have h4:=aU HJ
          rw [h3] at h4
          exact (by simpa using h4:rowJ rs ns kn (i+1)=_)
         clear hs
         have hJl:(J0++rowJ rs ns kn i).length≤60000:=by
          have:=rowJ_len rs ns kn i
          rw [List.length_append]; omega
         have hws:=(aU HB1).size
         go_wp2_with (at_builtin; go_loud (refine wpList_append_own_at _ rfl (.tmp 66) (.tmp 68) 115 rfl w.heap.size 119 i0 (.agg #[.slice none 0 0,.int .i64 0,.int .i64 0,.string ⟨#[]⟩,.slice none 0 0]) 5 80 underQ hi0 hz0 hz1 hz2 rfl (by decide) _ (J0++rowJ rs ns kn i).length _ rfl (own_below (aU HO1) (((Below.refl _ _).alloc (Nat.le_refl _) _).alloc (by simp) _)) ⟨w1.heap.size+1,0,none⟩ 1 1 [.slice oa on oc,.int .i64 r.ttl,.int .i64 r.type,.string (B r.data),.slice (some ⟨rg,rof,none⟩) dl rc] rfl rfl (new5 _ _ (by simp) _ _ _ _ _ _) (one5 _ _ _ _ _ _ _ _ _) (by unfold maxLen; omega) (by omega) (by simp; omega) ?_))
         intro v' w3 hown3 hgrow hnil hat
         have hown4:w3.ownsRow w.heap.size 119 5 v' (J0++rowJ rs ns kn (i+1)).length ((J0++rowJ rs ns kn (i+1)).flatMap (enc5 w b off (.slice oa on oc) rs)):=by
          rw [aU HP,← List.append_assoc,List.length_append,List.flatMap_append]
          have : [i].flatMap (enc5 w b off (.slice oa on oc) rs) = [.slice oa on oc,.int .i64 r.ttl,.int .i64 r.type,.string (B r.data),.slice (some ⟨rg,rof,none⟩) dl rc]:=by
           rw [List.flatMap_cons,List.flatMap_nil,List.append_nil]; exact aU HEN
          rw [this,List.length_append,List.flatMap_append,List.append_assoc]
          exact hown3
         have hbw:Below w.heap.size w w3:=⟨hgrow.os.trans (aU HB1).os,hgrow.tape.trans (aU HB1).tape,hgrow.output.trans (aU HB1).output,Nat.le_trans (by simp; omega) hgrow.size,fun q hq=>by
          refine (hgrow.block q (by simp; omega) (fun hc=>?_)).trans ?_
          ·obtain ⟨_,⟨hv,_⟩ | ⟨g,cp,cur,hv,hg,_⟩⟩:=aU HO1
           ·rw [hv] at hc; cases hc
           ·rw [hv] at hc
            have:q=g:=by simpa [Value.ownBlock] using hc
            omega
          ·exact (((Below.refl w1.heap.size w1).alloc (Nat.le_refl _) _).alloc (by simp) _).block q (by omega) |>.trans ((aU HB1).block q hq)⟩
         have HB3:=aH hbw
         have HO3:=aH hown4
         obtain ⟨ya,yn,yc,rfl⟩ : ∃ a n c,v'=.slice a n c:=by
          obtain ⟨_,⟨hv,_⟩ | ⟨g,cp,cur,hv,_⟩⟩:=hown4
          ·exact ⟨_,_,_,hv⟩
          ·exact ⟨_,_,_,hv⟩
         clear hown3 hgrow hnil hat hown4 hbw
         go_wp2_with fail
         exact ⟨⟨i+1,by omega,by go_num,⟨_,_,_,rfl⟩,aU HO3,aU HB3⟩,by simp [intOf]; omega⟩
      ·have hilI : ¬ (i:Int)<(rs.length:Int):=by omega
       have hie:i=rs.length:=by omega
       subst hie
       go_wp2_with fail
       refine ⟨⟨kn+1,by omega,by omega,by go_num,⟨_,_,_,rfl⟩,by rw [aU HS1]; exact aU HO,aU HB⟩,by simp [intOf]; omega⟩
  ·have hltI : ¬ (kn:Int)<17:=by omega
   have hk:kn=17:=by omega
   subst hk
   go_wp2_with fail
   go_ret
   exact ⟨⟨_,rfl,aU HO⟩,aU HB⟩
end Eu
namespace Ex
open Ka Kb Re Wa Wb Ea Eb Ec Ed Ee Ef Eh Eu
def recJ (rs:List Rec) (n:Str) (j:Nat):Rec:=(n,(rs[j]?.getD Rec.zero).ttl,(rs[j]?.getD Rec.zero).type,(rs[j]?.getD Rec.zero).data)
theorem rowJ_lt (rs:List Rec) (ns:List Str) (k:Int) (i j:Nat) (h:j∈rowJ rs ns k i):j<i:=by
 unfold rowJ at h
 exact List.mem_range.1 (List.mem_filter.1 h).1
theorem setJ_lt (rs:List Rec) (ns:List Str) (t:Int) : ∀ k,∀ j∈setJ rs ns t k,j<rs.length
 | 0,j,h=>by simp [setJ] at h
 | k+1,j,h=>by
  rw [setJ,List.mem_append] at h
  rcases h with h | h
  ·exact setJ_lt rs ns t k j h
  ·split at h
   ·cases h
   ·split at h
    ·cases h
    ·exact rowJ_lt _ _ _ _ _ h
end Ex
def own (rs:List Rec) (n:Str) (k:Int):List Rec:=rs.filter fun r=>r.owner == n && r.type == k
def ownT (rs:List Rec) (n:Str) (t:Int):List Rec:=if t=255 then (List.range 17).flatMap fun k:Nat=>own rs n (k:Int) else own rs n t
def TyOk (rs:List Rec):Prop:=∀ r∈rs,1≤r.type∧r.type≤16
namespace Oa
open Ka Ed Ek Em En Ep Ia Sc Sf Si Lg Eu Ex Eh
theorem mg_one_filter {α:Type} (lt:α→α→Bool) (hw:Wk lt) (p:α→Bool) (x:α) : ∀ (S:List α),Srt lt S→(∀ a∈S,p a=true→p x=true→lt x a=false)→(mg lt S [x]).filter p=S.filter p++[x].filter p
 | [],_,_=>by simp
 | a :: S,hs,h=>by
  rw [mg_cons]
  have hs':=List.pairwise_cons.1 hs
  split
  ·rename_i hl
   rw [mg_nil']
   by_cases hx:p x=true
   ·have h0:(a :: S).filter p = []:=by
     rw [List.filter_eq_nil_iff]
     intro y hy hp
     have h1:=h y hy hp hx
     rcases List.mem_cons.1 hy with rfl | hy'
     ·rw [hl] at h1; cases h1
     ·have:=hw.nt _ _ _ h1 (hs'.1 y hy')
      rw [hl] at this; cases this
    rw [List.filter_cons_of_pos hx,h0]; simp [hx]
   ·rw [List.filter_cons_of_neg (by simpa using hx)]; simp [hx]
  ·have ih:=mg_one_filter lt hw p x S hs'.2 (fun y hy=>h y (List.mem_cons_of_mem _ hy))
   by_cases ha:p a=true
   ·rw [List.filter_cons_of_pos ha,ih,List.filter_cons_of_pos ha]; rfl
   ·rw [List.filter_cons_of_neg (a:=a) (by simpa using ha),ih,List.filter_cons_of_neg (a:=a) (by simpa using ha)]
theorem iso_filter {α:Type} (lt:α→α→Bool) (hw:Wk lt) (ir : ∀ x,lt x x=false) (p:α→Bool) (h : ∀ a x,p a=true→p x=true→lt x a=false) (l:List α):(iso lt l).filter p=l.filter p:=by
 have key : ∀ (n:Nat) (l:List α),l.length=n→(iso lt l).filter p=l.filter p:=by
  intro n
  induction n with
  | zero=>intro l hl; obtain rfl:l = []:=List.eq_nil_of_length_eq_zero hl; rfl
  | succ n ih =>
   intro l hl
   have hne:l≠[]:=by rintro rfl; simp at hl
   have e:=List.dropLast_concat_getLast hne
   have hd:l.dropLast.length=n:=by simp; omega
   rw [← e,iso_snoc,mg_one_filter lt hw p _ _ (iso_srt lt hw ir _) (fun a _=>h a _),ih _ hd,List.filter_append]
 exact key l.length l rfl
theorem sort_own (rs:List Rec) (n:Str) (k:Int):own (sortL rs) n k=own rs n k:=by
 unfold own
 rw [Sk.sortL_iso]
 refine iso_filter ltR wkR irR _ (fun a x ha hx=>?_) rs
 simp only [Bool.and_eq_true,beq_iff_eq] at ha hx
 rw [← Bool.not_eq_true]
 intro hl
 rcases (ltR_iff x a).1 hl with h | ⟨_,h⟩
 ·rw [ha.1,hx.1,bl_ir] at h; cases h
 ·rw [ha.2,hx.2] at h; omega
theorem filt_type {L:List Rec} (n:Str) (k:Int):(L.filter fun r=>r.owner == n).filter (fun r=>r.type == k)=own L n k:=by
 unfold own
 rw [List.filter_filter]
 congr 1
 funext r
 rw [Bool.and_comm]
theorem srt_filter {L:List Rec} (h:Srt ltR L) (p:Rec→Bool):Srt ltR (L.filter p):=List.Pairwise.filter p h
section
variable {F:List Rec} (hF:Srt ltR F) (hn : ∀ a∈F,∀ b∈F,a.owner=b.owner)
include hF
theorem run_type {x:Nat×List Rec} (hx:x∈runs aD F):(∀ r∈x.2,r.type=typeOf x)∧x.2≠[]∧(∀ r∈x.2,r∈F):=by
 obtain ⟨r,hr,hh,e⟩:=(runs_set hF).1 x hx
 have ht:typeOf x=r.type:=by
  unfold typeOf
  cases hx:x.2 with
  | nil=>rw [hx] at hh; cases hh
  | cons y t =>
   rw [hx] at hh
   have:y=r:=by simpa using hh
   rw [← this]; rfl
 refine ⟨fun s hs=>?_,?_,fun s hs=>?_⟩
 ·rw [e] at hs
  have:=(Prod.mk.inj ((set_iff r s).1 (List.mem_filter.1 hs).2)).2
  rw [ht,this]
 ·intro h0; rw [h0] at hh; cases hh
 ·rw [e] at hs; exact (List.mem_filter.1 hs).1
theorem take_eq (t:Int):takeP t F=if t=255 then F else F.filter (fun r=>r.type == t):=by
 have hcat:=runs_cat aD F.length 0 F (Nat.le_refl _)
 unfold takeP takeL
 split
 ·rename_i h
  rw [List.filter_eq_self.2 (fun x _=>by unfold takes; simp [h])]
  exact hcat
 ·rename_i h
  have key : ∀ (l:List (Nat×List Rec)),(∀ x∈l,∀ r∈x.2,r.type=typeOf x)→(l.filter (takes t)).flatMap (·.2)=(l.flatMap (·.2)).filter (fun r=>r.type == t):=by
   intro l
   induction l with
   | nil=>intro _; rfl
   | cons x l ih =>
    intro hl
    have i1:=ih (fun y hy=>hl y (List.mem_cons_of_mem _ hy))
    have hx:=hl x (by simp)
    rw [List.flatMap_cons,List.filter_append,← i1]
    by_cases ht:takes t x=true
    ·rw [List.filter_cons_of_pos ht,List.flatMap_cons]
     congr 1
     symm
     rw [List.filter_eq_self]
     intro r hr
     unfold takes at ht
     rw [hx r hr]
     simp [h] at ht
     simp [ht]
    ·rw [List.filter_cons_of_neg (by simpa using ht)]
     have:x.2.filter (fun r=>r.type == t) = []:=by
      rw [List.filter_eq_nil_iff]
      intro r hr hc
      refine ht ?_
      unfold takes
      rw [hx r hr] at hc
      have:typeOf x=t:=by simpa using hc
      simp [this]
     rw [this]; rfl
  rw [key _ (fun x hx=>(run_type hF hx).1)]
  exact congrArg _ hcat
theorem taken_eq (t:Int):takenP t F = !(takeP t F).isEmpty:=by
 unfold takenP takeP takeL
 have key : ∀ (l:List (Nat×List Rec)),(∀ x∈l,x.2≠[])→l.any (takes t) = !((l.filter (takes t)).flatMap (·.2)).isEmpty:=by
  intro l
  induction l with
  | nil=>intro _; rfl
  | cons x l ih =>
   intro hl
   rw [List.any_cons]
   by_cases ht:takes t x=true
   ·rw [List.filter_cons_of_pos ht,List.flatMap_cons,ht]
    have:=hl x (by simp)
    cases hx:x.2 with
    | nil=>exact absurd hx this
    | cons y s=>rfl
   ·rw [List.filter_cons_of_neg (by simpa using ht),ih (fun y hy=>hl y (List.mem_cons_of_mem _ hy))]
    have:takes t x=false:=by simpa using ht
    rw [this,Bool.false_or]
 exact key _ (fun x hx=>(run_type hF hx).2.1)
include hn in
theorem set_eq (k:Int):setP F k=F.filter (fun r=>r.type == k):=by
 unfold setP
 cases hf:(runs aD F).find? (fun x=>typeOf x == k) with
 | some x =>
  have hm:=List.mem_of_find?_eq_some hf
  have ht:typeOf x=k:=by simpa using List.find?_some hf
  obtain ⟨r,hr,hh,e⟩:=(runs_set hF).1 x hm
  have hrx:r∈x.2:=by rw [e]; exact List.mem_filter.2 ⟨hr,(set_iff r r).2 rfl⟩
  have hrt:=(run_type hF hm).1 r hrx
  show x.2=_
  rw [e]
  refine List.filter_congr (fun y hy=>?_)
  rw [Bool.eq_iff_iff,set_iff,beq_iff_eq,Prod.mk.injEq]
  refine ⟨fun h=>by rw [← h.2,hrt,ht],fun h=>⟨hn r hr y hy,by rw [hrt,ht,h]⟩⟩
 | none =>
  show []=_
  symm
  rw [List.filter_eq_nil_iff]
  intro r hr hc
  obtain ⟨x,hx,e⟩:=(runs_set hF).2 r hr
  have hrx:r∈x.2:=by rw [e]; exact List.mem_filter.2 ⟨hr,(set_iff r r).2 rfl⟩
  have hrt:=(run_type hF hx).1 r hrx
  have:=List.find?_eq_none.1 hf x hx
  rw [← hrt] at this
  exact this hc
include hn in
theorem below_eq (m:Nat):F.filter (fun r=>decide (r.type<(m:Int)))++F.filter (fun r=>r.type == (m:Int))=F.filter (fun r=>decide (r.type<((m+1:Nat):Int))):=by
 have key : ∀ (F:List Rec),Srt ltR F→(∀ a∈F,∀ b∈F,a.owner=b.owner)→F.filter (fun r=>decide (r.type<(m:Int)))++F.filter (fun r=>r.type == (m:Int))=F.filter (fun r=>decide (r.type<((m+1:Nat):Int))):=by
  intro F
  induction F with
  | nil=>intro _ _; rfl
  | cons a F ih =>
   intro hF hn
   have h':=List.pairwise_cons.1 hF
   have i1:=ih h'.2 (fun x hx y hy=>hn x (List.mem_cons_of_mem _ hx) y (List.mem_cons_of_mem _ hy))
   by_cases h1:a.type<(m:Int)
   ·rw [List.filter_cons_of_pos (by simpa using h1),List.filter_cons_of_neg (by simp; omega),List.filter_cons_of_pos (by simp; omega),List.cons_append,i1]
   ·rw [List.filter_cons_of_neg (by simpa using h1)]
    have h0:F.filter (fun r=>decide (r.type<(m:Int))) = []:=by
     rw [List.filter_eq_nil_iff]
     intro y hy hc
     have hc':y.type<(m:Int):=by simpa using hc
     have:=(not_lt (h'.1 y hy)).2 (hn y (List.mem_cons_of_mem _ hy) a (by simp))
     omega
    rw [h0] at i1 ⊢
    by_cases h2:a.type=(m:Int)
    ·rw [List.filter_cons_of_pos (by simpa using h2),List.filter_cons_of_pos (by simp; omega),List.nil_append,← i1,List.nil_append]
    ·rw [List.filter_cons_of_neg (by simpa using h2),List.filter_cons_of_neg (by simp; omega),i1]
 exact key F hF hn
include hn in
theorem all_eq (m:Nat) (h0 : ∀ r∈F,0≤r.type):(List.range m).flatMap (fun k:Nat=>F.filter (fun r=>r.type == (k:Int)))=F.filter (fun r=>decide (r.type<(m:Int))):=by
 induction m with
 | zero =>
  symm
  show _ = []
  rw [List.filter_eq_nil_iff]
  intro r hr hc
  have:=h0 r hr
  have:r.type<((0:Nat):Int):=by simpa using hc
  omega
 | succ m ih =>
  rw [List.range_succ,List.flatMap_append,ih,← below_eq hF hn m]
  simp
end
theorem of_own (rs:List Rec) (n:Str):ofP (sortL rs) n=(sortL rs).filter (fun r=>r.owner == n):=of_filter (sort_srt rs) n
theorem of_same (rs:List Rec) (n:Str) : ∀ a∈ofP (sortL rs) n,∀ b∈ofP (sortL rs) n,a.owner=b.owner:=fun a ha b hb=>by
 rw [of_own] at ha hb
 have h1:=(List.mem_filter.1 ha).2
 have h2:=(List.mem_filter.1 hb).2
 simp only [beq_iff_eq] at h1 h2
 rw [h1,h2]
theorem of_srt (rs:List Rec) (n:Str):Srt ltR (ofP (sortL rs) n):=by rw [of_own]; exact srt_filter (sort_srt rs) _
theorem set_own (rs:List Rec) (n:Str) (k:Int):setP (ofP (sortL rs) n) k=own rs n k:=by
 rw [set_eq (of_srt rs n) (of_same rs n),of_own,filt_type,sort_own]
theorem of_mem {rs:List Rec} {n:Str} {r:Rec} (h:r∈ofP (sortL rs) n):r∈rs∧r.owner=n:=by
 rw [of_own] at h
 have:=List.mem_filter.1 h
 exact ⟨(sort_perm rs).mem_iff.1 this.1,by simpa using this.2⟩
theorem take_own (rs:List Rec) (n:Str) (t:Int) (hty:TyOk rs):takeP t (ofP (sortL rs) n)=ownT rs n t:=by
 rw [take_eq (of_srt rs n)]
 unfold ownT
 split
 ·have:=all_eq (of_srt rs n) (of_same rs n) 17 (fun r hr=>by have:=(hty r (of_mem hr).1).1; omega)
  rw [List.filter_eq_self.2 (fun r hr=>by have:=(hty r (of_mem hr).1).2; simp; omega)] at this
  rw [← this]
  congr 1
  funext k
  rw [of_own,filt_type,sort_own]
 ·rw [of_own,filt_type,sort_own]
theorem srt_owner {F:List Rec} (h:Srt ltR F) (hn : ∀ a∈F,∀ b∈F,a.owner=b.owner) (m:Str):Srt ltR (F.map (setOwner m)):=by
 unfold Srt
 rw [List.pairwise_map]
 refine List.Pairwise.imp_of_mem (fun {a b} ha hb hab=>?_) h
 rw [← Bool.not_eq_true]
 intro hl
 rcases (ltR_iff _ _).1 hl with h1 | ⟨_,h1⟩
 ·rw [show (setOwner m b).owner=m from rfl,show (setOwner m a).owner=m from rfl,bl_ir] at h1; cases h1
 ·exact (not_lt hab).2 (hn b hb a ha) h1
theorem take_owner {F:List Rec} (h:Srt ltR F) (hn : ∀ a∈F,∀ b∈F,a.owner=b.owner) (m:Str) (t:Int):takeP t (F.map (setOwner m))=(takeP t F).map (setOwner m):=by
 rw [take_eq (srt_owner h hn m),take_eq h]
 split
 ·rfl
 ·rw [List.filter_map]; rfl
theorem take_star (rs:List Rec) (n m:Str) (t:Int) (hty:TyOk rs):takeP t ((ofP (sortL rs) n).map (setOwner m))=(ownT rs n t).map (setOwner m):=by
 rw [take_owner (of_srt rs n) (of_same rs n),take_own rs n t hty]
theorem row_own (rs:List Rec) (n:Str) (k:Int):(rowJ rs (Sp.spl 46 n) k rs.length).map (fun j=>rs[j]?.getD Rec.zero)=own rs n k:=by
 have key : ∀ i,i≤rs.length→(rowJ rs (Sp.spl 46 n) k i).map (fun j=>rs[j]?.getD Rec.zero)=own (rs.take i) n k:=by
  intro i
  induction i with
  | zero=>intro _; rfl
  | succ i ih =>
   intro hi
   rw [rowJ_succ,List.map_append,ih (by omega),List.take_succ_eq_append_getElem (by omega)]
   unfold own
   rw [List.filter_append]
   congr 1
   have hp:pick rs (Sp.spl 46 n) k i=(rs[i].owner == n && rs[i].type == k):=by
    unfold pick
    rw [List.getElem?_eq_getElem (by omega)]
    show (decide (Sp.spl 46 rs[i].owner=Sp.spl 46 n) && _)=_
    congr 1
    rw [Bool.eq_iff_iff,decide_eq_true_iff,beq_iff_eq]
    exact ⟨spl_inj,fun h=>by rw [h]⟩
   rw [hp]
   by_cases h:(rs[i].owner == n && rs[i].type == k)=true
   ·rw [if_pos h,List.filter_cons_of_pos (p:=fun r:Rec=>r.owner == n && r.type == k) h]
    simp [List.getElem?_eq_getElem (show i<rs.length by omega)]
   ·rw [if_neg h,List.filter_cons_of_neg (p:=fun r:Rec=>r.owner == n && r.type == k) h]; rfl
 have:=key rs.length (Nat.le_refl _)
 rw [List.take_length] at this
 exact this
theorem own_zero {rs:List Rec} (hty:TyOk rs) (n:Str) {t:Int} (ht:t<1∨16<t):own rs n t = []:=by
 unfold own
 rw [List.filter_eq_nil_iff]
 intro r hr hc
 have:=hty r hr
 have:r.type=t:=by simp at hc; exact hc.2
 omega
theorem set_rows (rs:List Rec) (n:Str) (t:Int) (hty:TyOk rs):(setJ rs (Sp.spl 46 n) t 17).map (fun j=>rs[j]?.getD Rec.zero)=ownT rs n t:=by
 have key : ∀ m,(setJ rs (Sp.spl 46 n) t m).map (fun j=>rs[j]?.getD Rec.zero)=(List.range m).flatMap fun k:Nat=>if t≠255∧t≠(k:Int) then [] else own rs n (k:Int):=by
  intro m
  induction m with
  | zero=>rfl
  | succ m ih =>
   rw [setJ,List.map_append,ih,List.range_succ,List.flatMap_append]
   congr 1
   simp only [List.flatMap_cons,List.flatMap_nil,List.append_nil]
   split
   ·rfl
   ·split
    ·rename_i h; subst h
     rw [own_zero hty n (.inl (by omega))]; rfl
    ·exact row_own rs n m
 rw [key]
 unfold ownT
 split
 ·rename_i h; simp [h]
 ·rename_i h
  have k2 : ∀ m:Nat,((List.range m).flatMap fun k:Nat=>if t≠255∧t≠(k:Int) then [] else own rs n (k:Int))=if 0≤t∧t<(m:Int) then own rs n t else []:=by
   intro m
   induction m with
   | zero=>rw [if_neg (by omega)]; rfl
   | succ m ih =>
    rw [List.range_succ,List.flatMap_append,ih]
    simp only [List.flatMap_cons,List.flatMap_nil,List.append_nil]
    by_cases h1:t=(m:Int)
    ·rw [if_neg (by omega),if_neg (by simp [h1]),if_pos (by omega),← h1]; rfl
    ·rw [if_pos (show t≠255∧t≠(m:Int) from ⟨h,h1⟩),List.append_nil]
     by_cases h2:0≤t∧t<(m:Int)
     ·rw [if_pos h2,if_pos (by omega)]
     ·rw [if_neg h2,if_neg (by omega)]
  rw [k2]
  split
  ·rfl
  ·rename_i h2
   exact (own_zero hty n (by omega)).symm
theorem rec_owner (rs:List Rec) (m:Str) (js:List Nat):js.map (recJ rs m)=(js.map (fun j=>rs[j]?.getD Rec.zero)).map (setOwner m):=by
 rw [List.map_map]; rfl
theorem set_recs (rs:List Rec) (n m:Str) (t:Int) (hty:TyOk rs):(setJ rs (Sp.spl 46 n) t 17).map (recJ rs m)=(ownT rs n t).map (setOwner m):=by
 rw [rec_owner,set_rows rs n t hty]
theorem own_id (rs:List Rec) (n:Str) (t:Int):(ownT rs n t).map (setOwner n)=ownT rs n t:=by
 have h1 : ∀ k,(own rs n k).map (setOwner n)=own rs n k:=fun k=>by
  conv=>rhs; rw [← List.map_id (own rs n k)]
  refine List.map_congr_left (fun r hr=>?_)
  have:=(List.mem_filter.1 hr).2
  simp only [Bool.and_eq_true,beq_iff_eq] at this
  unfold setOwner
  rw [← this.1]; rfl
 unfold ownT
 split
 ·rw [List.map_flatMap]
  congr 1
  funext k
  exact h1 k
 ·exact h1 t
theorem has_own (rs:List Rec) (n:Str) (t:Int) (hty:TyOk rs):hasR rs (Sp.spl 46 n) t = !(ownT rs n t).isEmpty:=by
 rw [Bool.eq_iff_iff]
 have hm : ∀ (l:List Rec),(!l.isEmpty)=true ↔ ∃ r,r∈l:=fun l=>by cases l <;> simp
 rw [hm]
 unfold hasR ownT own
 rw [List.any_eq_true]
 constructor
 ·rintro ⟨r,hr,h⟩
  rw [Bool.and_eq_true,decide_eq_true_iff,Bool.or_eq_true] at h
  have ho:=spl_inj h.1
  refine ⟨r,?_⟩
  split
  ·rw [List.mem_flatMap]
   have:=hty r hr
   refine ⟨r.type.toNat,by simp; omega,List.mem_filter.2 ⟨hr,?_⟩⟩
   rw [Int.toNat_of_nonneg (by omega)]
   simp [ho]
  ·rename_i h255
   refine List.mem_filter.2 ⟨hr,?_⟩
   rcases h.2 with h2 | h2
   ·exact absurd (by simpa using h2) h255
   ·simp [ho]; simpa using h2
 ·rintro ⟨r,hr⟩
  split at hr
  ·rename_i h255
   obtain ⟨k,_,hk⟩:=List.mem_flatMap.1 hr
   have:=List.mem_filter.1 hk
   simp only [Bool.and_eq_true,beq_iff_eq] at this
   exact ⟨r,this.1,by simp [h255,this.2.1]⟩
  ·have:=List.mem_filter.1 hr
   simp only [Bool.and_eq_true,beq_iff_eq] at this
   exact ⟨r,this.1,by simp [this.2.1,this.2.2]⟩
end Oa
namespace Es
open Ka Kb Re Wa Wb Ea Eb Ec Ed Ee Ef Eh
def AbV (o:Str) (rs:List Rec) (ns:List Str) (g off cap:Nat) (v:Value):Prop :=
 (v=.slice none 0 0∧∀ j,j+(Sp.spl 46 o).length<ns.length→hasR rs (ns.drop j) 2=false) ∨
 ∃ i,i+(Sp.spl 46 o).length<ns.length∧hasR rs (ns.drop i) 2=true∧(∀ j,i<j→j+(Sp.spl 46 o).length<ns.length→hasR rs (ns.drop j) 2=false)∧v=.slice (some ⟨g,off+i,none⟩) (ns.length - i) (cap - i)
theorem above_any (zb:Nat) (o:Str) (rs:List Rec) (g no nc:Nat) (ns:List Str) (w:World) (hz:RZone w zb o rs) (hf:RFit o rs) (hu:TxAt w g no ns) (hnc:ns.length≤nc) (hn:ns.length≤1000) (hm:(Sp.spl 46 o).length≤ns.length) :
  Calls Tryz.prog 236 #[.pointer (some ⟨zb,0,none⟩),.slice (some ⟨g,no,none⟩) ns.length nc] w fun e w'=>(∃ v,e=.returned v∧AbV o rs ns g no nc v)∧Below w.heap.size w w':=by
 have HU:=aH hu
 have HZ:=aH hz
 obtain ⟨vo,b,off,cap,z0,z1,z2,z3⟩:=hz
 have hzl:zb<w.heap.size:=(Array.getElem?_eq_some_iff.1 z0).1
 have HZB:=aH z0
 have hgl:=hu.1
 have HF:=aH hf
 obtain ⟨og,oo,oc,rfl,hoc,hot⟩:=z1
 have hpos:=spl_pos o
 have zc0:w.cell? ⟨zb,0,none⟩=some (.slice (some ⟨og,oo,none⟩) (Sp.spl 46 o).length oc):=by
  unfold World.cell?; rw [z0]; rfl
 have HGOAL:Hid (∀ v,AbV o rs ns g no nc v ↔ AbV o rs ns g no nc v):=fun _=>Iff.rfl
 have HNO:Hid (∀ v,v=Value.slice none 0 0→(∀ j,j+(Sp.spl 46 o).length<ns.length→hasR rs (ns.drop j) 2=false)→AbV o rs ns g no nc v):=fun v h1 h2=>.inl ⟨h1,h2⟩
 have HYES:Hid (∀ i,i+(Sp.spl 46 o).length<ns.length→hasR rs (ns.drop i) 2=true→(∀ j,i<j→j+(Sp.spl 46 o).length<ns.length→hasR rs (ns.drop j) 2=false)→AbV o rs ns g no nc (.slice (some ⟨g,no+i,none⟩) (ns.length - i) (nc - i))):=fun i h1 h2 h3=>.inr ⟨i,h1,h2,h3,rfl⟩
 generalize hM:(Sp.spl 46 o).length=M at *
 clear z0 z3 hu hf hot hM HGOAL
 go_enter Tryz.func236,Tryz.ntmps236
 go_wp2_with fail
 go_loopw [5] (fun i wr=>∃ k:Nat,k+M≤ns.length∧i=.int .i64 ((k:Int) - 1)∧(∀ j,k≤j→j+M<ns.length→hasR rs (ns.drop j) 2=false)∧Below w.heap.size w wr) (fun i _=>(intOf i+1).toNat)
 case atStart=>exact ⟨ns.length - M,by omega,by congr 1; omega,fun j h1 h2=>by omega,Below.refl _ _⟩
 case round =>
  obtain ⟨k,hk,rfl,hno,hb⟩:=hrel
  have HNO':=aH hno
  have HB:=aH hb
  cases k with
  | zero =>
   have hltI : ¬ (0:Int)≤(((0:Nat):Int) - 1):=by omega
   have HP:=aH (aU HNO _ rfl fun j hj=>hno j (Nat.zero_le _) hj)
   clear hno hb
   go_wp2_with fail
   go_ret
   exact ⟨⟨_,rfl,aU HP⟩,aU HB⟩
  | succ i =>
   have e1:(((i+1:Nat):Int) - 1)=(i:Int):=by omega
   rw [e1]
   have hI:(0:Int)≤(i:Int):=by omega
   have hil:i≤ns.length:=by omega
   have hcd : ¬ nc=i:=by omega
   have HS:=aH (has_any zb o rs _ (ns.drop i) 2 wr ((aU HZ).below hb) (aU HF) (nm_drop ((aU HU).below hb) hnc i hil) (by rw [List.length_drop]; omega))
   clear hno hb
   go_wp2_with fail
   refine (aU HS).mono ?_
   rintro e w1 ⟨rfl,hb1⟩
   have HB1:=aH ((aU HB).trans (hb1.mono (aU HB).size))
   clear hb1 HS
   cases hs:hasR rs (ns.drop i) 2
   ·have HP:Hid (∀ j,i≤j→j+M<ns.length→hasR rs (ns.drop j) 2=false):=fun j h1 h2=>by
     rcases Nat.lt_or_ge i j with h | h
     ·exact aU HNO' j h h2
     ·have:j=i:=by omega
      rw [this]; exact hs
    clear hs
    go_wp2_with fail
    exact ⟨⟨i,by omega,by go_num,aU HP,aU HB1⟩,by simp [intOf]⟩
   ·have HP:=aH (aU HYES i (by omega) hs fun j h1 h2=>aU HNO' j h1 h2)
    clear hs
    go_wp2_with fail
    go_ret
    exact ⟨⟨_,rfl,aU HP⟩,aU HB1⟩
end Es
namespace Er
open Ka Kb Re Wa Wb Ea Eb Ec Ed Ee Ef Eh
def thereR (rs:List Rec) (ns:List Str):Bool:=rs.any fun r=>undP (Sp.spl 46 r.owner) ns
theorem there_any (zb:Nat) (o:Str) (rs:List Rec) (u:Value) (ns:List Str) (w:World) (hz:RZone w zb o rs) (hf:RFit o rs) (hu:NmV w u ns) (hn:ns.length≤1000) (hn0:0<ns.length) :
  Calls Tryz.prog 143 #[.pointer (some ⟨zb,0,none⟩),u] w fun e w'=>e=.returned (.bool (thereR rs ns))∧Below w.heap.size w w':=by
 have HU:=aH hu
 have HZ:=aH hz
 obtain ⟨vo,b,off,cap,z0,z1,z2,z3⟩:=hz
 have hzl:zb<w.heap.size:=(Array.getElem?_eq_some_iff.1 z0).1
 have HR:=aH z3
 have HZB:=aH z0
 have hfl:=hf.2.1
 have HF:=aH hf
 clear z0 z1 z3 hu hf
 go_enter Tryz.func143,Tryz.ntmps143
 go_wp2_with fail
 go_loopw [5] (fun i wr=>∃ k:Nat,k≤rs.length∧i=.int .i64 k∧(rs.take k).any (fun r=>undP (Sp.spl 46 r.owner) ns)=false∧Below w.heap.size w wr) (fun i _=>rs.length - (intOf i).toNat)
 case atStart=>exact ⟨0,Nat.zero_le _,rfl,rfl,Below.refl _ _⟩
 case round =>
  obtain ⟨k,hk,rfl,hno,hb⟩:=hrel
  have HNO:=aH hno
  have HB:=aH hb
  have zc:wr.cell? ⟨zb,1,none⟩=some (.slice (some ⟨b,off,none⟩) rs.length cap):=by
   have:=(hb.block zb hzl).trans (aU HZB)
   unfold World.cell?; rw [this]; rfl
  by_cases hlt:k<rs.length
  ·have hltI:(k:Int)<(rs.length:Int):=by omega
   obtain ⟨ro,rw',c0,c1,c2,c3,c4,c5,c6⟩:=((aU HR) k hlt).below hb
   have hrl:=(aU HF).2.2 rs[k] (List.getElem_mem hlt)
   have HAT:=aH (any_take (fun r=>undP (Sp.spl 46 r.owner) ns) rs k hlt hno)
   have HYES:Hid (undP (Sp.spl 46 rs[k].owner) ns=true→thereR rs ns=true):=fun h=>List.any_eq_true.2 ⟨rs[k],List.getElem_mem hlt,h⟩
   have HS:=aH (under_any ro u (Sp.spl 46 rs[k].owner) ns wr c5 ((aU HU).below hb) (spl_small hrl) hn hn0)
   generalize rs[k]=r at *
   clear c1 c2 c3 c4 c5 c6 hno hb hrl
   go_wp2_with fail
   refine (aU HS).mono ?_
   rintro e w1 ⟨rfl,hb1⟩
   have HB1:=aH ((aU HB).trans (hb1.mono (aU HB).size))
   clear hb1 HS
   cases hs:undP (Sp.spl 46 r.owner) ns
   ·have HP:Hid ((rs.take (k+1)).any (fun r=>undP (Sp.spl 46 r.owner) ns)=false):=aU HAT hs
    clear hs
    go_wp2_with fail
    exact ⟨⟨k+1,by omega,by go_num,aU HP,aU HB1⟩,by simp [intOf]; omega⟩
   ·have HP:=aH (aU HYES hs)
    clear hs
    go_wp2_with fail
    go_ret
    exact ⟨ret_bool (aU HP).symm,aU HB1⟩
  ·have hltI : ¬ (k:Int)<(rs.length:Int):=by omega
   have hks:k=rs.length:=by omega
   have HP:Hid (thereR rs ns=false):=by
    have:=aU HNO
    rw [hks,List.take_length] at this
    exact this
   clear hno hb
   go_wp2_with fail
   go_ret
   exact ⟨ret_bool (aU HP).symm,aU HB⟩
end Er
end Go.Proofs.YtkkpahmoljiepaaGreatDoor
