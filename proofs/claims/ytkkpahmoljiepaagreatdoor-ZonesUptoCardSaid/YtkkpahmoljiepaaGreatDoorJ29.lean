/- The law's own memory: what keeps it; four lists more are kept. -/
import Derived.Test.YtkkpahmoljiepaaGreatDoorJ28
import Derived.Test.YtkkpahmoljiepaaGreatDoorJ18
import Derived.Maps.AppendAt
import Derived.Deep.RegionLaw
import Derived.Deep.AppendLies
import Derived.Deep.RegionHeldLaw
set_option linter.unusedSimpArgs false
set_option linter.unusedVariables false
set_option maxRecDepth 1000000
set_option maxHeartbeats 12800000
namespace Go.Proofs.YtkkpahmoljiepaaGreatDoor
open Go.RowKit
open Pu (Str aH aU)
namespace Df
open Dc Dd De Re Lg
theorem row_kept {w w':World} {base e size n:Nat} {v:Value} {xs:List Value} (h:w.ownsRow base e size v n xs) (hg : ∀ g,v.ownBlock=some g→w'.heap[g]? = w.heap[g]?):w'.ownsRow base e size v n xs:=by
 obtain ⟨h1,h2⟩:=h
 refine ⟨h1,?_⟩
 rcases h2 with h2 | ⟨g,cap,cur,rfl,hb,hcur,hr⟩
 ·exact .inl h2
 ·exact .inr ⟨g,cap,cur,rfl,hb,(hg g rfl).trans hcur,hr⟩
theorem wpList_append_run {P:Program} {w:World} {ops:Array Oper} {rest:List Oper} {o:Oper} {a:Act} {Q:Exit→Act→World→Prop} (hgd:o.guard=none) (s x:Operand) (t:TypeId)
  (ho:o.op=.call { callee:=.builtin .append,args:=#[s,x],argTypes:=#[t,t] }) (v xv v':Value) (w':World) (hs:a.eval s=v) (hx:a.eval x=xv)
  (hr:(Builtin.append_ #[t,t] o.type #[v,xv]).run P w=.ok v' w') (h:wpList P ops Q rest (a.put o.dst v') w'):wpList P ops Q (o :: rest) a w:=by
 refine wpList_plain hgd fun K hK=>?_
 unfold Oper.wp execOp
 simp only [ho,resolve,invoke,builtin,Sem.run_bind,Sem.run_pure,Result.andThen_ok,List.map_toArray,List.map_cons,List.map_nil,hs,hx,hr]
 exact hK _ _ h
section
variable {w:World} {kb n:Nat} {vk:Value} {ks:List (Nat×Nat×Value)} (h:KI w kb n vk ks)
include h
theorem _root_.Go.Proofs.YtkkpahmoljiepaaGreatDoor.KI.lt:kb<w.heap.size:=(Array.getElem?_eq_some_iff.1 h.kn).1
theorem _root_.Go.Proofs.YtkkpahmoljiepaaGreatDoor.KI.fr {p:Nat→Prop} {w':World} (hf:Fr p w w') (h0:p kb) (h1 : ∀ g,vk.ownBlock=some g→p g) (h2 : ∀ x∈ks,∀ g,x.2.2.ownBlock=some g→p g):KI w' kb n vk ks :=
 ⟨(hf.block kb h.lt h0).trans h.kn,row_kept h.ko (fun g hg=>hf.block g (World.ownsRow.lt h.ko g hg).2 (h1 g hg)),fun x hx=>⟨row_kept (h.km x hx).1 (fun g hg=>hf.block g (World.ownsRow.lt (h.km x hx).1 g hg).2 (h2 x hx g hg)),(h.km x hx).2⟩⟩
theorem _root_.Go.Proofs.YtkkpahmoljiepaaGreatDoor.KI.below {w':World} (hb:Below w.heap.size w w'):KI w' kb n vk ks:=h.fr (p:=fun _=>True) (Fr.of_below hb) trivial (fun _ _=>trivial) (fun _ _ _ _=>trivial)
theorem _root_.Go.Proofs.YtkkpahmoljiepaaGreatDoor.KI.next:KI (w.setCell ⟨kb,0,none⟩ (.int .i64 ((n+1:Nat):Int))) kb (n+1) vk ks:=by
 have hf:Fr (fun k=>k≠kb) w (w.setCell ⟨kb,0,none⟩ (.int .i64 ((n+1:Nat):Int))):=Fr.of_set _ (fun k hk=>hk)
 refine ⟨?_,row_kept h.ko (fun g hg=>hf.block g (World.ownsRow.lt h.ko g hg).2 (by have:=(World.ownsRow.lt h.ko g hg).1; omega)),fun x hx=>⟨row_kept (h.km x hx).1 (fun g hg=>hf.block g (World.ownsRow.lt (h.km x hx).1 g hg).2 (by have:=(World.ownsRow.lt (h.km x hx).1 g hg).1; omega)),by have:=(h.km x hx).2.1; omega,(h.km x hx).2.2⟩⟩
 simp only [World.setCell]; rw [Array.getElem?_modify,if_pos rfl,h.kn]; rfl
theorem _root_.Go.Proofs.YtkkpahmoljiepaaGreatDoor.KI.cells:w.cell? ⟨kb,0,none⟩=some (.int .i64 n)∧w.cell? ⟨kb,1,none⟩=some vk∧w.frozen? ⟨kb,0,none⟩=false∧w.frozen? ⟨kb,1,none⟩=false:=by
 refine ⟨?_,?_,?_,?_⟩ <;> simp [World.cell?,World.frozen?,h.kn]
theorem _root_.Go.Proofs.YtkkpahmoljiepaaGreatDoor.KI.slice : ∃ a c,vk=.slice a ks.length c:=by
 rcases h.ko.2 with ⟨rfl,h0⟩ | ⟨g,cap,_,rfl,_⟩
 ·exact ⟨none,0,by rw [h0]⟩
 ·exact ⟨_,_,rfl⟩
end
theorem underK:Tryz.prog.underlying 31=some (.slice 128):=by kernel_rfl
theorem infoK:(Tryz.prog.info? 128).map (fun i=>(i.zero,i.size,i.bytes))=some (some (.agg #[.int .i64 0,.slice none 0 0]),2,32):=by kernel_rfl
theorem kp_len : ∀ es:List (Nat×Nat×Value),(es.flatMap kpE).length=es.length*2
 | []=>rfl
 | x :: es=>by rw [List.flatMap_cons,List.length_append,kp_len es]; show 2+_=_; simp; omega
theorem _root_.Go.Proofs.YtkkpahmoljiepaaGreatDoor.KI.add {w:World} {kb n:Nat} {vk:Value} {ks:List (Nat×Nat×Value)} (h:KI w kb n vk ks) (es:List (Nat×Nat×Value)) (he:es.length=4)
  (hes : ∀ x∈es,MkR w (kb+1) x.2.2 (-(x.1:Int)) x.2.1∧x.1≤n∧x.2.1≤100000∧∀ g,x.2.2.ownBlock=some g→vk.ownBlock≠some g) (hl:ks.length≤1000000000) :
  ∃ vk' w',(Builtin.append_ #[31,31] 31 #[vk,.slice (some ⟨w.heap.size,0,none⟩) 4 4]).run Tryz.prog (w.alloc (.cells (es.flatMap kpE).toArray 128))=.ok vk' w'∧w'.heap[kb]? = w.heap[kb]?∧KI (w'.setCell ⟨kb,1,none⟩ vk') kb n vk' (ks++es)∧Fr (fun k=>k≠kb∧some k≠vk.ownBlock) w (w'.setCell ⟨kb,1,none⟩ vk') ∧
   (vk'.ownBlock=vk.ownBlock∨∃ q,w.heap.size≤q∧vk'.ownBlock=some q)∧∃ a c,vk'=.slice a (ks.length+4) c:=by
 obtain ⟨i0,hi,hz0,hz1,hz2⟩:=info_parts infoK
 obtain ⟨O,hO⟩ : ∃ O:Obj,O=.cells (es.flatMap kpE).toArray 128:=⟨_,rfl⟩
 rw [← hO]
 have hba:Below w.heap.size w (w.alloc O):=(Below.refl _ _).alloc (Nat.le_refl _) _
 have hsz:(w.alloc O).heap.size=w.heap.size+1:=World.size_alloc w O
 have hcell : ∀ j u,(es.flatMap kpE)[j]? = some u→(w.alloc O).cell? ((⟨w.heap.size,0,none⟩:Addr).add j)=some u:=fun j u hj=>by
  rw [Addr.add_lit,Nat.zero_add]
  have:=World.alloc_heap_new w O
  unfold World.cell?
  rw [this,hO]
  simpa using hj
 have hone : ∀ u∈es.flatMap kpE,u.oneCell'=true:=fun u hu=>by
  obtain ⟨x,hx,hu⟩:=List.mem_flatMap.1 hu
  simp only [kpE,List.mem_cons,List.not_mem_nil,or_false] at hu
  rcases hu with rfl | rfl
  ·rfl
  ·obtain ⟨a,c,e⟩:=(hes x hx).1.slice
   rw [e]; rfl
 have hlt:=h.lt
 obtain ⟨v',w',k1,k2,k3,k4,k5⟩:=run_append_two (P:=Tryz.prog) (w.alloc O) (kb+1) 31 31 128 i0 _ 2 32 underK hi hz0 hz1 hz2 rfl (by omega) vk ks.length (ks.flatMap kpE) (own_below h.ko hba) ⟨w.heap.size,0,none⟩ 4 4 (es.flatMap kpE) (by rw [kp_len,he]) hcell hone (by simp [maxLen]; omega) (by omega) (by omega) (by omega)
 have hf0:Fr (fun k=>some k≠vk.ownBlock) w w':=(Fr.of_below hba).trans (Fr.of_grown k3 (fun k hk=>hk))
 have hf1:Fr (fun k=>k≠kb) w' (w'.setCell ⟨kb,1,none⟩ v'):=Fr.of_set _ (fun k hk=>hk)
 have hf:Fr (fun k=>k≠kb∧some k≠vk.ownBlock) w (w'.setCell ⟨kb,1,none⟩ v'):=(hf0.mono (fun _ _ h=>h.2)).trans (hf1.mono (fun _ _ h=>h.1))
 have hkb:w'.heap[kb]? = w.heap[kb]?:=hf0.block kb hlt (fun e=>by have:=(World.ownsRow.lt h.ko kb e.symm).1; omega)
 have hvb:v'.ownBlock=vk.ownBlock∨∃ q,w.heap.size≤q∧v'.ownBlock=some q:=by
  rcases k5 with h5 | ⟨h5,_⟩
  ·exact .inl h5
  ·exact .inr ⟨_,by omega,h5⟩
 have hall : ∀ x∈ks++es,MkR w (kb+1) x.2.2 (-(x.1:Int)) x.2.1∧x.1≤n∧x.2.1≤100000∧∀ g,x.2.2.ownBlock=some g→vk.ownBlock≠some g:=fun x hx=>by
  rcases List.mem_append.1 hx with hx | hx
  ·exact h.km x hx
  ·exact hes x hx
 refine ⟨v',w',k1,hkb,⟨?_,?_,fun x hx=>?_⟩,hf,hvb,k4⟩
 ·simp only [World.setCell]; rw [Array.getElem?_modify,if_pos rfl,hkb,h.kn]; rfl
 ·rw [List.length_append,he,List.flatMap_append]
  exact row_kept k2 (fun g hg=>hf1.block g (World.ownsRow.lt k2 g hg).2 (by have:=(World.ownsRow.lt k2 g hg).1; omega))
 ·obtain ⟨m1,m2,m3,m4⟩:=hall x hx
  refine ⟨row_kept m1 (fun g hg=>hf.block g (World.ownsRow.lt m1 g hg).2 ⟨by have:=(World.ownsRow.lt m1 g hg).1; omega,fun e=>m4 g hg e.symm⟩),m2,m3,fun g hg=>?_⟩
  rcases hvb with e | ⟨q,hq,e⟩
  ·rw [e]; exact m4 g hg
  ·rw [e]; intro e'; have:=(World.ownsRow.lt m1 g hg).2; have:q=g:=Option.some.inj e'; omega
end Df
namespace Ew
open Ka Kb Re Wa Wb Ea Eb Ec Ed Ee Ef Eh
theorem new4 {W:World} {g:Nat} {a b c d:Value} {t:TypeId} (h:W.heap[g]? = some (.cells #[a,b,c,d] t)) : ∀ (j:Nat) (u:Value),[a,b,c,d][j]? = some u→W.cell? ((⟨g,0,none⟩:Addr).add j)=some u:=fun j u hj=>World.news_of_block h j u hj
theorem one4 (x y:Int) (d e:ByteArray) : ∀ u∈[Value.string d,.int .i64 x,.int .i64 y,.string e],u.oneCell'=true:=by
 intro u hu
 simp at hu
 rcases hu with rfl | rfl | rfl | rfl <;> rfl
theorem plain_any (b off cap:Nat) (rs:List Rec) (w:World) (hc:rs.length≤cap) (hr:RRecs w b off rs) (hl:rs.length≤60000) (ho : ∀ r∈rs,r.owner.length≤900) :
  Calls Tryz.prog 122 #[.slice (some ⟨b,off,none⟩) rs.length cap] w fun e w'=>(∃ v,e=.returned v∧w'.ownsRow w.heap.size 47 4 v rs.length (encs rs))∧Below w.heap.size w w':=by
 obtain ⟨i0,hi0,hz0,hz1,hz2⟩:=info_parts infoR
 have HR:=aH hr
 have HL:=aH ho
 clear hr ho
 go_enter Tryz.func122,Tryz.ntmps122
 go_wp2_with fail
 go_loopw [3,4] (fun out iv wr=>∃ i:Nat,i≤rs.length∧iv=.int .i64 i∧(∃ a n c,out=.slice a n c)∧wr.ownsRow w.heap.size 47 4 out i (encs (rs.take i))∧Below w.heap.size w wr) (fun _ iv _=>rs.length - (intOf iv).toNat)
 case atStart=>exact ⟨0,by omega,rfl,⟨_,_,_,rfl⟩,⟨rfl,.inl ⟨rfl,rfl⟩⟩,Below.refl _ _⟩
 case round =>
  obtain ⟨i,hi,rfl,⟨aa,an,ac,rfl⟩,hown,hb⟩:=hrel
  have HO:=aH hown
  have HB:=aH hb
  by_cases hlt:i<rs.length
  ·have hltI:(i:Int)<(rs.length:Int):=by omega
   obtain ⟨ro,rv,c0,c1,c2,c3,c4,c5,c6⟩:=((aU HR) i hlt).below hb
   have hrl:=(aU HL) rs[i] (List.getElem_mem hlt)
   have hblt:=World.block_lt_of_cell? _ _ c0
   have HTE:Hid (∀ W,Below wr.heap.size wr W→Calls Tryz.prog 188 #[ro] W fun e w'=>e=.returned (.string (B rs[i].owner))∧w'=W):=fun W hW=>by
    have:=text_any ro _ W (c5.below hW) (spl_small hrl) (fun x hx=>by have:=Sp.spl_mem_len 46 rs[i].owner.length rs[i].owner (Nat.le_refl _) x hx; omega)
    rw [join_spl] at this
    exact this
   have HTK:Hid (encs (rs.take (i+1))=encs (rs.take i)++rs[i].enc):=by
    rw [Hid,List.take_succ_eq_append_getElem hlt,encs_snoc]
   have hws:=hb.size
   have hbl:b<w.heap.size:=by
    obtain ⟨_,_,h,_⟩:=(aU HR) i hlt
    exact World.block_lt_of_cell? w _ h
   have hnb:some b≠(Value.slice aa an ac).ownBlock:=fun e=>by have:=(World.ownsRow.lt hown b e.symm).1; omega
   clear c4 c5 c6 hown hb hrl
   generalize rs[i]=r at *
   go_upto_region 5 with fail
   have hq:wr.drew.cell? ⟨b,off+i*5,none⟩=some ro∧wr.drew.cell? ⟨b,off+i*5+1,none⟩=some (.int .i64 r.ttl)∧wr.drew.cell? ⟨b,off+i*5+2,none⟩=some (.int .i64 r.type)∧wr.drew.cell? ⟨b,off+i*5+3,none⟩=some (.string (B r.data)):=⟨c0,c1,c2,c3⟩
   have HK3:Hid (∀ (w3:World) (o:Obj),(wr.drew.alloc o).grownBy w3 (Value.slice aa an ac).ownBlock→w3.cell? ⟨b,off+i*5,none⟩=some ro∧w3.cell? ⟨b,off+i*5+1,none⟩=some (.int .i64 r.ttl)∧w3.cell? ⟨b,off+i*5+2,none⟩=some (.int .i64 r.type)∧w3.cell? ⟨b,off+i*5+3,none⟩=some (.string (B r.data))):=fun w3 o hg=>by
    have k : ∀ j,w3.cell? ⟨b,j,none⟩=wr.cell? ⟨b,j,none⟩:=fun j=>(hg.cell_far ⟨b,j,none⟩ (by show b<(wr.alloc o).heap.size; rw [World.size_alloc]; omega) hnb).trans (World.cell?_of_block (Below.heap_alloc wr.drew o b hblt))
    rw [k,k,k,k]
    exact ⟨c0,c1,c2,c3⟩
   have HT2:=aH (aU HTE wr.drew (Below.refl _ _).drew)
   go_region_held_law (fun w'=>w'.cell? ⟨b,off+i*5,none⟩=some ro∧w'.cell? ⟨b,off+i*5+1,none⟩=some (.int .i64 r.ttl)∧w'.cell? ⟨b,off+i*5+2,none⟩=some (.int .i64 r.type)∧w'.cell? ⟨b,off+i*5+3,none⟩=some (.string (B r.data))) (first | assumption | go_keep)
    (first
    | (go_at_call 188; go_loud (refine (aU HT2).mono ?_; rintro e w2 ⟨rfl,rfl⟩))
    | (refine step_append_lies _ (by rfl) (.tmp 11) (.tmp 34) 41 (by rfl) w.heap.size 47 i0 _ 4 48 underR hi0 hz0 hz1 hz2 rfl (by decide) _ i (encs (rs.take i)) (by rfl) (own_below (aU HO) ((Below.refl _ _).drew.alloc (Nat.le_refl _) _)) ⟨wr.heap.size,0,none⟩ 1 1 [.string (B r.owner),.int .i64 r.ttl,.int .i64 r.type,.string (B r.data)] (by rfl) rfl (new4 (World.alloc_heap_new wr.drew _)) (one4 _ _ _ _) (by decide) (by unfold maxLen; omega) (by omega) (by simp; omega) (wr.heap.size+1) (by simp) ?_; intro g cap' w3 hown3 hgrow hat hlt3; have hS3:=aU HK3 w3 _ hgrow))
   all_goals
    have HO3:Hid (w3.ownsRow w.heap.size 47 4 (Value.slice (some ⟨g,0,none⟩) (i+1) cap') (i+1) (encs (rs.take (i+1)))):=by
     rw [Hid,aU HTK]
     exact hown3
    have HB3:Hid (Below w.heap.size w w3):=⟨hgrow.os.trans (aU HB).os,hgrow.tape.trans (aU HB).tape,hgrow.output.trans (aU HB).output,Nat.le_trans (Nat.le_trans hws (by show _≤(wr.alloc _).heap.size; rw [World.size_alloc]; omega)) hgrow.size,fun q hq=>(hgrow.block q (by show q<(wr.alloc _).heap.size; rw [World.size_alloc]; omega) (fun e=>by have:=(World.ownsRow.lt (aU HO) q e.symm).1; omega)).trans ((Below.heap_alloc wr _ q (by omega)).trans ((aU HB).block q hq))⟩
    clear hown3 hgrow hat hS3
    go_wp2_with fail
    exact ⟨⟨i+1,by omega,by go_num,⟨_,_,_,rfl⟩,aU HO3,aU HB3⟩,by simp [intOf]; omega⟩
  ·have hltI : ¬ (i:Int)<(rs.length:Int):=by omega
   have hie:i=rs.length:=by omega
   subst hie
   have HE:Hid (encs (rs.take rs.length)=encs rs):=by rw [Hid,List.take_length]
   clear hown hb
   go_wp2_with fail
   go_ret
   exact ⟨⟨_,rfl,by rw [← aU HE]; exact aU HO⟩,aU HB⟩
theorem plain_none (w:World):Calls Tryz.prog 122 #[.slice none 0 0] w fun e w'=>e=.returned (.slice none 0 0)∧w'=w:=by
 go_enter Tryz.func122,Tryz.ntmps122
 go_wp2_with fail
 go_loopw [3,4] (fun out iv wr=>out=.slice none 0 0∧iv=.int .i64 0∧wr=w) (fun _ _ _=>0)
 case atStart=>exact ⟨rfl,rfl,rfl⟩
 case round =>
  obtain ⟨rfl,rfl,rfl⟩:=hrel
  go_wp2_with fail
  go_ret
  exact ⟨rfl,rfl⟩
end Ew
end Go.Proofs.YtkkpahmoljiepaaGreatDoor
