/- Contract: (*lookup.search).take. -/
import Derived.Test.YtkkpahmoljiepaaGreatDoorJ06
import Derived.Maps.AppendAt
import Derived.Test.YtkkpahmoljiepaaGreatDoorJ03
import Derived.Lib.AppendStr
import Derived.Below
import Derived.Laws.OwnMore
set_option linter.unusedSimpArgs false
set_option linter.unusedVariables false
namespace Go.Proofs.YtkkpahmoljiepaaGreatDoor
open Go.RowKit
open Pu (Str aH aU)
attribute [local go_sem] Oper.semAt_some
structure Fr (p:Nat→Prop) (A B:World):Prop where
 os:B.os=A.os
 tape:B.tape=A.tape
 output:B.output=A.output
 size:A.heap.size≤B.heap.size
 block : ∀ k,k<A.heap.size→p k→B.heap[k]? = A.heap[k]?
theorem Fr.trans {p:Nat→Prop} {A B C:World} (h:Fr p A B) (k:Fr p B C):Fr p A C :=
 ⟨k.os.trans h.os,k.tape.trans h.tape,k.output.trans h.output,Nat.le_trans h.size k.size,fun i hi hp=>(k.block i (Nat.lt_of_lt_of_le hi h.size) hp).trans (h.block i hi hp)⟩
theorem Fr.of_below {p:Nat→Prop} {A B:World} (h:Below A.heap.size A B):Fr p A B:=⟨h.os,h.tape,h.output,h.size,fun k hk _=>h.block k hk⟩
theorem Fr.of_grown {p:Nat→Prop} {A B:World} {row:Option Nat} (h:A.grownBy B row) (hp : ∀ k,p k→some k≠row):Fr p A B:=⟨h.os,h.tape,h.output,h.size,fun k hk hk'=>h.block k hk (hp k hk')⟩
theorem Fr.of_set {p:Nat→Prop} {A:World} {a:Addr} (u:Value) (hp : ∀ k,p k→k≠a.block):Fr p A (A.setCell a u):=⟨rfl,rfl,rfl,by simp [World.setCell],fun k _ hk=>Below.heap_setCell _ _ _ _ (hp k hk)⟩
theorem Fr.below {p:Nat→Prop} {A B:World} {n:Nat} (h:Fr p A B) (hp : ∀ k,k<n→p k) (hn:n≤A.heap.size):Below n A B:=⟨h.os,h.tape,h.output,h.size,fun k hk=>h.block k (by omega) (hp k hk)⟩
section
variable {w:World} {sb zb cb:Nat} {k rc:Int} {au:Bool} {va vb vc:Value}
end
namespace Lg
open Ka Kd Rf Rg Ia Iow Ie Zb Zc Za La Lb Re Lc Le Lf
end Lg
end Go.Proofs.YtkkpahmoljiepaaGreatDoor

namespace Go.Proofs.YtkkpahmoljiepaaGreatDoor
open Go.RowKit
open Pu (Str aH aU)
section
variable {w:World} {b:Nat} {xs:List Int} {t:TypeId}
end
namespace Wc
open Ka Re Wa Wb
end Wc
section
variable {w:World} {b:Nat} {h0 h1 h2 h3 h4 h5:Int} {q n:Str} {k c:Int} {opt:Bool} {sz ver:Int}
end
namespace Wf
open Ka Wa Wb Wc Wd We Re
end Wf
namespace Wg
open Ka Wa Wb Wc Wd We Wf Re
end Wg
namespace Wh
open Ka Wa Wb Wc Wd We Wf Wg Re
end Wh
end Go.Proofs.YtkkpahmoljiepaaGreatDoor

namespace Go.Proofs.YtkkpahmoljiepaaGreatDoor
open Go
def ownLen:Value→Nat
 | .slice _ n _=>n
 | _=>0
structure Stp (w w':World) (t:TypeId) (sz:Nat) (v v':Value):Prop where
 row : ∀ (i:Nat) (cur:Array Value),w.heap[i]? = some (.cells cur t (0,0))→∃ cur',w'.heap[i]? = some (.cells cur' t (0,0))∧cur'.size=cur.size∧∀ j,(v.ownBlock=some i→j<ownLen v*sz)→cur'[j]? = cur[j]?
 own : ∀ g,v'.ownBlock=some g→(v.ownBlock=some g∧ownLen v≤ownLen v')∨w.heap.size≤g
section
variable {w w' w1:World} {t:TypeId} {sz:Nat} {v v' v1:Value}
theorem Stp.same (v:Value) (sz:Nat) (h : ∀ (i:Nat) (cur:Array Value),w.heap[i]? = some (.cells cur t (0,0))→w'.heap[i]? = w.heap[i]?):Stp w w' t sz v v :=
 ⟨fun i cur hc=>⟨cur,(h i cur hc).trans hc,rfl,fun _ _=>rfl⟩,fun _ hg=>.inl ⟨hg,Nat.le_refl _⟩⟩
theorem Stp.refl (w:World) (t:TypeId) (sz:Nat) (v:Value):Stp w w t sz v v:=Stp.same v sz fun _ _ _=>rfl
theorem Stp.trans (h:Stp w w1 t sz v v1) (k:Stp w1 w' t sz v1 v') (hs:w.heap.size≤w1.heap.size):Stp w w' t sz v v':=by
 refine ⟨fun i cur hc=>?_,fun g hg=>?_⟩
 ·obtain ⟨c1,h1,h2,h3⟩:=h.row i cur hc
  obtain ⟨c2,k1,k2,k3⟩:=k.row i c1 h1
  have hi:=(Array.getElem?_eq_some_iff.1 hc).1
  refine ⟨c2,k1,k2.trans h2,fun j hj=>(k3 j fun e=>?_).trans (h3 j hj)⟩
  rcases h.own i e with ⟨a,b⟩ | a
  ·exact Nat.lt_of_lt_of_le (hj a) (Nat.mul_le_mul_right _ b)
  ·omega
 ·rcases k.own g hg with ⟨a,b⟩ | a
  ·rcases h.own g a with ⟨c,d⟩ | c
   ·exact .inl ⟨c,Nat.le_trans d b⟩
   ·exact .inr c
  ·exact .inr (Nat.le_trans hs a)
end
theorem drew_old {w:World} {o:Obj} {i:Nat} (hi:i<w.heap.size):(w.drew.alloc o).heap[i]? = w.heap[i]?:=Go.RowKit.Below.heap_alloc w.drew o i hi
theorem stp_new {w:World} {t:TypeId} {sz:Nat} {v v':Value} (o:Obj) (hv:v'.ownBlock=some w.heap.size):Stp w (w.drew.alloc o) t sz v v' :=
 ⟨fun i cur hc=>⟨cur,(drew_old (Array.getElem?_eq_some_iff.1 hc).1).trans hc,rfl,fun _ _=>rfl⟩,fun g hg=>.inr (by rw [hv] at hg; cases hg; exact Nat.le_refl _)⟩
theorem stp_room {w:World} {t:TypeId} {sz g n k cap:Nat} {cur:Array Value} {news:List Value} (hg:w.heap[g]? = some (.cells cur t (0,0))) (hfit:n*sz+news.length≤cur.size) (hk:n≤k) :
  Stp w (w.setRow g (cur.toList.take (n*sz)++news++cur.toList.drop (n*sz+news.length)).toArray) t sz (.slice (some ⟨g,0,none⟩) n cap) (.slice (some ⟨g,0,none⟩) k cap):=by
 refine ⟨fun i c hc=>?_,fun g' hg'=>.inl ⟨hg',hk⟩⟩
 by_cases e:i=g
 ·subst e
  rw [hg] at hc
  obtain rfl:cur=c:=by simpa using hc
  refine ⟨_,setRow_heap w i cur _ t _ hg,by simp; omega,fun j hj=>?_⟩
  have hj':j<n*sz:=hj rfl
  rw [List.getElem?_toArray,List.append_assoc,List.getElem?_append_left (by simp; omega),List.getElem?_take,if_pos hj']
  simp
 ·exact ⟨c,(setRow_other w g i _ e).trans hc,rfl,fun _ _=>rfl⟩
section
variable {P:Program} (w:World)
theorem run_append_stp (base:Nat) (t ty e:TypeId) (i:TypeInfo) (z:Value) (size bytes:Nat) (ht:P.underlying t=some (.slice e)) (hi:P.info? e=some i) (hz:i.zero=some z)
  (hsize:i.size=size) (hby:i.bytes=bytes) (hsz:0<size)
  (v:Value) (n:Nat) (xs:List Value) (hown:w.ownsRow base e size v n xs)
  (a:Addr) (m c:Nat) (news:List Value) (hl:news.length=m*size) (hnews : ∀ j u,news[j]? = some u→w.cell? (a.add j)=some u) (h1 : ∀ u∈news,u.oneCell'=true)
  (h63:n+m≤maxLen) (hbytes:(n+m)*bytes≤140737488355328) (v':Value) (w':World) (hr:(Builtin.append_ #[t,t] ty #[v,.slice (some a) m c]).run P w=.ok v' w') (hm:0<m):Stp w w' e size v v':=by
 subst hsize
 subst hby
 have hsmall:n+m≤9223372036854775807:=by simp only [maxLen] at h63; omega
 rcases hown.2 with ⟨rfl,rfl⟩ | ⟨g,cap,cur,rfl,hbg,hg,hnc,hcm,hcs,htake⟩
 ·have q:=run_append_nil (P:=P) w t ty e i z ht hi hz a m c news hl hnews hm (by omega) (by simp only [Nat.zero_add] at hbytes; omega)
  rw [q] at hr
  cases hr
  exact stp_new _ rfl
 ·by_cases hroom:n+m≤cap
  ·have hfit:n*i.size+news.length≤cur.size:=by rw [hl,hcs,← Nat.add_mul]; exact Nat.mul_le_mul_right _ hroom
   have q:=run_append_room (P:=P) w t ty e i ht hi g n cap cur hg a m c news hl hnews h1 hroom hfit
   rw [q] at hr
   cases hr
   exact stp_room hg hfit (by omega)
  ·have holds:=hown.cells (g:=g) rfl
   have q:=run_append_grow (P:=P) w t ty e i z ht hi hz ⟨g,0,none⟩ n cap xs hown.1 holds a m c news hl hnews (by omega) (by omega) (growslice_fits (by omega) hbytes)
   rw [q] at hr
   cases hr
   exact stp_new _ rfl
theorem run_append_stp_string (base:Nat) (t u ty e:TypeId) (i:TypeInfo) (ht:P.underlying t=some (.slice e)) (hu:P.underlying u=some .string) (hi:P.info? e=some i) (hz:i.zero=some (.int .u8 0))
  (hsize:i.size=1) (hby:i.bytes=1) (v:Value) (n:Nat) (xs:List Value) (hown:w.ownsRow base e 1 v n xs) (s:ByteArray)
  (h63:n+s.size≤maxLen) (hbytes:n+s.size≤140737488355328) (v':Value) (w':World) (hr:(Builtin.append_ #[t,u] ty #[v,.string s]).run P w=.ok v' w'):Stp w w' e 1 v v':=by
 have hsmall:n+s.size≤9223372036854775807:=by simp only [maxLen] at h63; omega
 have hxl:xs.length=n:=by simpa using hown.1
 rcases hown.2 with ⟨rfl,rfl⟩ | ⟨g,cap,cur,rfl,hbg,hg,hnc,hcm,hcs,htake⟩
 ·by_cases hm:s.size=0
  ·have hf:=Lib.run_firstCells_string (P:=P) w 1 s
   rw [hm] at hf
   have q:(Builtin.append_ #[t,u] ty #[.slice none 0 0,.string s]).run P w=.ok (.slice none 0 0) w:=by
    simp [Builtin.append_,run_underlying ht,run_underlying hu,sizeOf,typeInfo,hi,hsize,Builtin.lenOf,hm,hf]
   rw [q] at hr
   cases hr
   exact Stp.refl _ _ _ _
  ·have q:=run_append_nil_string (P:=P) w t u ty e i (.int .u8 0) ht hu hi hz s (by omega) (by omega) (by rw [hby]; omega)
   rw [q] at hr
   cases hr
   exact stp_new _ rfl
 ·have hcs':cur.size=cap:=by simpa using hcs
  by_cases hroom:n+s.size≤cap
  ·have q:=Lib.run_append_room_string (P:=P) w t u ty e i ht hu hi hsize g n cap cur hg s hroom (by omega)
   rw [q] at hr
   cases hr
   have:=stp_room (sz:=1) (n:=n) (k:=n+s.size) (cap:=cap) (news:=Lib.strCells s) hg (by rw [Lib.strCells_length]; omega) (by omega)
   rw [Nat.mul_one,Lib.strCells_length] at this
   exact this
  ·have holds:=hown.cells (g:=g) rfl
   have q:=Lib.run_append_grow_string (P:=P) w t u ty e i (.int .u8 0) ht hu hi hz ⟨g,0,none⟩ n cap xs (by rw [hsize]; simpa using hxl) holds s (by omega) (by omega) (by rw [hby]; exact growslice_fits (by omega) (by omega))
   rw [q] at hr
   cases hr
   exact stp_new _ rfl
theorem wpList_append_stp {ops:Array Oper} {rest:List Oper} {o:Oper} {a:Act} {Q:Exit→Act→World→Prop} (hgd:o.guard=none) (s x:Operand) (t:TypeId)
  (ho:o.op=.call { callee:=.builtin .append,args:=#[s,x],argTypes:=#[t,t] })
  (base:Nat) (e:TypeId) (i:TypeInfo) (z:Value) (size bytes:Nat) (ht:P.underlying t=some (.slice e)) (hi:P.info? e=some i) (hz:i.zero=some z)
  (hsize:i.size=size) (hby:i.bytes=bytes) (hzs:z.cells.size=size) (hsz:0<size)
  (v:Value) (n:Nat) (xs:List Value) (hs:a.eval s=v) (hown:w.ownsRow base e size v n xs)
  (ad:Addr) (m c:Nat) (news:List Value) (hm:0<m) (hx:a.eval x=.slice (some ad) m c) (hl:news.length=m*size) (hnews : ∀ j u,news[j]? = some u→w.cell? (ad.add j)=some u) (h1 : ∀ u∈news,u.oneCell'=true)
  (h63:n+m≤maxLen) (hbytes:(n+m)*bytes≤140737488355328) (hbase:base≤w.heap.size)
  (h : ∀ v' w',w'.ownsRow base e size v' (n+m) (xs++news)→w.grownBy w' v.ownBlock→Stp w w' e size v v'→(v'.ownBlock=v.ownBlock∨v'.ownBlock=some w.heap.size)→wpList P ops Q rest (a.put o.dst v') w') :
  wpList P ops Q (o :: rest) a w:=by
 refine wpList_plain hgd fun K hK=>?_
 obtain ⟨v',w',hr,h2,h3,_,h5⟩:=run_append_own_at (P:=P) w base t o.type e i z size bytes ht hi hz hsize hby hzs hsz v n xs hown ad m c news hl hnews h1 h63 hbytes hbase
 have h4:=run_append_stp (P:=P) w base t o.type e i z size bytes ht hi hz hsize hby hsz v n xs hown ad m c news hl hnews h1 h63 hbytes v' w' hr hm
 unfold Oper.wp execOp
 simp only [ho,resolve,invoke,builtin,Sem.run_bind,Sem.run_pure,Result.andThen_ok,List.map_toArray,List.map_cons,List.map_nil,hs,hx,hr]
 exact hK _ _ (h v' w' h2 h3 h4 h5)
theorem wpList_append_stp_string {ops:Array Oper} {rest:List Oper} {o:Oper} {a:Act} {Q:Exit→Act→World→Prop} (hgd:o.guard=none) (sl x:Operand) (t u:TypeId)
  (ho:o.op=.call { callee:=.builtin .append,args:=#[sl,x],argTypes:=#[t,u] })
  (base:Nat) (e:TypeId) (i:TypeInfo) (ht:P.underlying t=some (.slice e)) (hu:P.underlying u=some .string) (hi:P.info? e=some i) (hz:i.zero=some (.int .u8 0))
  (hsize:i.size=1) (hby:i.bytes=1)
  (v:Value) (n:Nat) (xs:List Value) (hs:a.eval sl=v) (hown:w.ownsRow base e 1 v n xs) (s:ByteArray) (hx:a.eval x=.string s)
  (h63:n+s.size≤maxLen) (hbytes:n+s.size≤140737488355328) (hbase:base≤w.heap.size)
  (h : ∀ v' w',w'.ownsRow base e 1 v' (n+s.size) (xs++Lib.strCells s)→w.grownBy w' v.ownBlock→Stp w w' e 1 v v'→wpList P ops Q rest (a.put o.dst v') w'):wpList P ops Q (o :: rest) a w:=by
 refine wpList_plain hgd fun K hK=>?_
 obtain ⟨v',w',hr,h2,h3,_⟩:=Lib.run_append_own_string (P:=P) w base t u o.type e i ht hu hi hz hsize hby v n xs hown s h63 hbytes hbase
 have h4:=run_append_stp_string (P:=P) w base t u o.type e i ht hu hi hz hsize hby v n xs hown s h63 hbytes v' w' hr
 unfold Oper.wp execOp
 simp only [ho,resolve,invoke,builtin,Sem.run_bind,Sem.run_pure,Result.andThen_ok,List.map_toArray,List.map_cons,List.map_nil,hs,hx,hr]
 exact hK _ _ (h v' w' h2 h3 h4)
end
end Go.Proofs.YtkkpahmoljiepaaGreatDoor

set_option maxRecDepth 1000000
set_option maxHeartbeats 12800000
namespace Go.Proofs.YtkkpahmoljiepaaGreatDoor
open Go.RowKit
open Pu (Str aH aU)
def MsgAt (w:World) (b:Nat) (vb vp:Value):Prop:=w.heap[b]? = some (.cells #[vb,vp] 283)
section
variable {w:World} {b:Nat} {vb vp:Value}
theorem MsgAt.lt (h:MsgAt w b vb vp):b<w.heap.size:=(Array.getElem?_eq_some_iff.1 h).1
theorem MsgAt.cells (h:MsgAt w b vb vp):w.cell? ⟨b,0,none⟩=some vb∧w.cell? ⟨b,1,none⟩=some vp:=by
 unfold MsgAt at h
 constructor <;> simp [World.cell?,h]
theorem MsgAt.frozen (h:MsgAt w b vb vp) (i:Nat):w.frozen? ⟨b,i,none⟩=false:=by
 unfold MsgAt at h; simp [World.frozen?,h]
theorem MsgAt.set0 (h:MsgAt w b vb vp) (v:Value):MsgAt (w.setCell ⟨b,0,none⟩ v) b v vp:=by
 unfold MsgAt at *; simp only [World.setCell]; rw [Array.getElem?_modify,if_pos rfl,h]; rfl
theorem MsgAt.kept {w':World} (h:MsgAt w b vb vp) (hb:w'.heap[b]? = w.heap[b]?):MsgAt w' b vb vp:=hb.trans h
end
theorem stp_msg {w:World} {mb:Nat} {vb vp:Value} {t:TypeId} (hm:MsgAt w mb vb vp) (ht:t≠283) (o:Nat) (u v:Value) (sz:Nat):Stp w (w.setCell ⟨mb,o,none⟩ u) t sz v v :=
 Stp.same v sz fun i cur hc=>Below.heap_setCell _ _ _ _ fun e=>by
  have e':i=mb:=e
  rw [e',hm] at hc
  simp at hc
  exact ht hc.2.symm
theorem stp_alloc (w:World) (o:Obj) (t:TypeId) (sz:Nat) (v:Value):Stp w (w.alloc o) t sz v v :=
 Stp.same v sz fun _ _ hc=>Below.heap_alloc _ _ _ (Array.getElem?_eq_some_iff.1 hc).1
def OwnB (w:World) (base:Nat) (v:Value) (l:Str):Prop:=w.ownsRow base 5 1 v l.length (l.map fun c=>.int .u8 c.toNat)
namespace Wi
open Ka Wa Wb Wc Wd We Wf Wg Wh Re
theorem infoB:(Tryz.prog.info? 5).map (fun i=>(i.zero,i.size,i.bytes))=some (some (.int .u8 0),1,1):=by kernel_rfl
theorem underB:Tryz.prog.underlying 58=some (.slice 5):=by kernel_rfl
theorem aS {w:World} {base d:Nat} {t:TypeId} {sz n:Nat} {v:Value} {xs:List Value} (h:w.ownsRow base t sz v n xs) (hd:some d≠v.ownBlock) (o:Nat) (u:Value):(w.setCell ⟨d,o,none⟩ u).ownsRow base t sz v n xs:=by
 obtain ⟨h1,h2⟩:=h
 refine ⟨h1,?_⟩
 rcases h2 with h2 | ⟨g,cap,cur,rfl,hb,hcur,hr⟩
 ·exact .inl h2
 ·exact .inr ⟨g,cap,cur,rfl,hb,(Below.heap_setCell _ _ _ _ (by show g≠d; intro e; subst e; exact hd rfl)).trans hcur,hr⟩
theorem msg_ne {w:World} {mb base:Nat} {vb vp v:Value} {l:Str} (hm:MsgAt w mb vb vp) (ho:OwnB w base v l):some mb≠v.ownBlock:=fun e=>by
 obtain ⟨_,⟨rfl,_⟩ | ⟨g,cap,cur,rfl,_,hcur,_⟩⟩:=ho
 ·simp [Value.ownBlock] at e
 ·simp only [Value.ownBlock,Option.some.injEq] at e
  subst e
  rw [hm] at hcur
  simp at hcur
theorem own_slice {w:World} {base:Nat} {t:TypeId} {sz n:Nat} {v:Value} {xs:List Value} (h:w.ownsRow base t sz v n xs) : ∃ a m c,v=.slice a m c:=by
 obtain ⟨_,⟨rfl,_⟩ | ⟨g,cap,cur,rfl,_⟩⟩:=h
 ·exact ⟨_,_,_,rfl⟩
 ·exact ⟨_,_,_,rfl⟩
theorem octet_w (mb base:Nat) (c:UInt8) (vb vp:Value) (l:Str) (w:World) (hm:MsgAt w mb vb vp) (ho:OwnB w base vb l) (hbs:base≤w.heap.size) (hl:l.length≤1000000) :
  Calls Tryz.prog 341 #[.int .u8 c.toNat,.pointer (some ⟨mb,0,none⟩)] w fun e w' =>
   e=.returned (.tuple #[])∧∃ vb',MsgAt w' mb vb' vp∧OwnB w' base vb' (l++[c])∧(vb'.ownBlock=vb.ownBlock∨∃ g,vb'.ownBlock=some g∧w.heap.size≤g)∧Stp w w' 5 1 vb vb'∧Fr (fun i=>i≠mb∧some i≠vb.ownBlock) w w':=by
 obtain ⟨i0,hi,hz0,hz1,hz2⟩:=info_parts infoB
 have hc0:=hm.cells.1
 have HM:=aH hm
 have HO:=aH ho
 have hlt:=hm.lt
 clear hm ho
 go_enter Tryz.func341,Tryz.ntmps341
 go_wp2_with (at_builtin; go_loud (refine wpList_append_stp _ rfl (.tmp 8) (.tmp 10) 58 rfl base 5 i0 (.int .u8 0) 1 1 underB hi hz0 hz1 hz2 rfl (by decide) _ l.length _ rfl ((aU HO).alloc _) ⟨w.heap.size,0,none⟩ 1 1 [.int .u8 c.toNat] (by decide) rfl rfl ?c1 ?c2 ?c3 ?c4 ?c5 ?_))
 case c1 =>
  intro j u hj
  match j,hj with
  | 0,hj=>simp at hj; subst hj; simp [Addr.add]
  | n+1,hj=>simp at hj
 case c2=>intro u hu; simp at hu; subst hu; rfl
 case c3=>unfold maxLen; omega
 case c4=>omega
 case c5=>simp; omega
 intro v' w3 hown' hgrow hstp hat
 obtain ⟨va,vn,vc,rfl⟩:=own_slice hown'
 have HO3:Hid (OwnB w3 base (.slice va vn vc) (l++[c])):=by
  unfold Hid OwnB
  rw [List.length_append,List.map_append]
  exact hown'
 have hblk : ∀ i,i<w.heap.size→some i≠vb.ownBlock→w3.heap[i]? = w.heap[i]?:=fun i hi hne =>
  (hgrow.block i (by simp; omega) hne).trans (Below.heap_alloc _ _ _ hi)
 have hne:some mb≠vb.ownBlock:=msg_ne (aU HM) (aU HO)
 have HM3:=aH ((aU HM).kept (hblk mb hlt hne))
 have HF3:Hid (Fr (fun i=>i≠mb∧some i≠vb.ownBlock) w w3) :=
  ⟨hgrow.os,hgrow.tape,hgrow.output,Nat.le_trans (by simp) hgrow.size,fun i hi hp=>hblk i hi hp.2⟩
 have HA:Hid ((Value.slice va vn vc).ownBlock=vb.ownBlock∨∃ g,(Value.slice va vn vc).ownBlock=some g∧w.heap.size≤g):=by
  rcases hat with h | h
  ·exact .inl h
  ·exact .inr ⟨_,h,by simp⟩
 have HSTP:Hid (Stp w w3 5 1 vb (.slice va vn vc)):=(stp_alloc w _ _ _ _).trans hstp (by simp)
 have hfz:=(aU HM3).frozen
 have hc:=(aU HM3).cells.1
 clear hown' hgrow hstp hat hblk hne HM HO
 go_wp2_with fail
 refine bodyPost_end (v:=.tuple #[]) (by simp [results,Tryz.results341]) rfl ?_
 refine ⟨rfl,_,(aU HM3).set0 _,?_,aU HA,(aU HSTP).trans (stp_msg (aU HM3) (by decide) _ _ _ _) (aU HF3).size,(aU HF3).trans (Fr.of_set _ fun i h=>h.1)⟩
 exact aS (aU HO3) (msg_ne (aU HM3) (aU HO3)) _ _
end Wi
def Kp (mb:Nat) (w w':World):Prop:=∀ vb vp,MsgAt w mb vb vp→∃ vb' vp',MsgAt w' mb vb' vp'∧Stp w w' 5 1 vb vb'∧Stp w w' 343 2 vp vp'
theorem Kp.of {mb:Nat} {w w':World} {vb vp vb' vp':Value} (hm:MsgAt w mb vb vp) (hm':MsgAt w' mb vb' vp') (h1:Stp w w' 5 1 vb vb') (h2:Stp w w' 343 2 vp vp'):Kp mb w w':=fun xb xp hx=>by
 unfold MsgAt at hm hx
 rw [hm] at hx
 obtain ⟨rfl,rfl⟩:vb=xb∧vp=xp:=by simpa using hx
 exact ⟨_,_,hm',h1,h2⟩
theorem Kp.trans {mb:Nat} {w w1 w':World} (h:Kp mb w w1) (k:Kp mb w1 w') (hs:w.heap.size≤w1.heap.size):Kp mb w w':=fun vb vp hm=>by
 obtain ⟨b1,p1,m1,x1,y1⟩:=h vb vp hm
 obtain ⟨b2,p2,m2,x2,y2⟩:=k b1 p1 m1
 exact ⟨b2,p2,m2,x1.trans x2 hs,y1.trans y2 hs⟩
theorem Kp.same {mb:Nat} {w w1 w':World} (h:Kp mb w w1) (hb : ∀ i,i<w.heap.size→w'.heap[i]? = w1.heap[i]?):Kp mb w w':=fun vb vp hm=>by
 obtain ⟨b1,p1,m1,x1,y1⟩:=h vb vp hm
 have hlt:=hm.lt
 refine ⟨b1,p1,m1.kept (hb mb hlt),⟨fun i cur hc=>?_,x1.own⟩,⟨fun i cur hc=>?_,y1.own⟩⟩
 ·obtain ⟨c,k1,k2⟩:=x1.row i cur hc
  exact ⟨c,(hb i (Array.getElem?_eq_some_iff.1 hc).1).trans k1,k2⟩
 ·obtain ⟨c,k1,k2⟩:=y1.row i cur hc
  exact ⟨c,(hb i (Array.getElem?_eq_some_iff.1 hc).1).trans k1,k2⟩
theorem Kp.refl (mb:Nat) (w:World):Kp mb w w:=fun vb vp hm=>⟨vb,vp,hm,Stp.refl _ _ _ _,Stp.refl _ _ _ _⟩
theorem Kp.below {mb:Nat} {w w':World} (h:Below w.heap.size w w'):Kp mb w w':=(Kp.refl mb w).same fun i hi=>h.block i hi
structure TF (mb base:Nat) (w w':World):Prop where
 os:w'.os=w.os
 tape:w'.tape=w.tape
 output:w'.output=w.output
 size:w.heap.size≤w'.heap.size
 block : ∀ i,i<w.heap.size→i≠mb→(i<base∨∀ cur,w.heap[i]?≠some (.cells cur 5 (0,0)))→w'.heap[i]? = w.heap[i]?
 kp:Kp mb w w'
theorem TF.refl (mb base:Nat) (w:World):TF mb base w w:=⟨rfl,rfl,rfl,Nat.le_refl _,fun _ _ _ _=>rfl,Kp.refl _ _⟩
theorem TF.trans {mb base:Nat} {A B C:World} (h:TF mb base A B) (k:TF mb base B C):TF mb base A C :=
 ⟨k.os.trans h.os,k.tape.trans h.tape,k.output.trans h.output,Nat.le_trans h.size k.size,fun i hi hm hp=>by
  have e:=h.block i hi hm hp
  refine (k.block i (Nat.lt_of_lt_of_le hi h.size) hm ?_).trans e
  rw [e]; exact hp,h.kp.trans k.kp h.size⟩
theorem TF.of_below {mb base:Nat} {A B:World} (h:Below A.heap.size A B):TF mb base A B:=⟨h.os,h.tape,h.output,h.size,fun i hi _ _=>h.block i hi,Kp.below h⟩
theorem TF.of_fr {mb base:Nat} {A B:World} {v:Value} {l:Str} (ho:OwnB A base v l) (h:Fr (fun i=>i≠mb∧some i≠v.ownBlock) A B) {vp v':Value} (hm:MsgAt A mb v vp) (hm':MsgAt B mb v' vp) (hs:Stp A B 5 1 v v'):TF mb base A B :=
 ⟨h.os,h.tape,h.output,h.size,fun i hi hm hp=>h.block i hi ⟨hm,fun e=>by
  obtain ⟨_,⟨rfl,_⟩ | ⟨g,cap,cur,rfl,hb,hcur,_⟩⟩:=ho
  ·simp [Value.ownBlock] at e
  ·simp only [Value.ownBlock,Option.some.injEq] at e
   subst e
   rcases hp with hp | hp
   ·omega
   ·exact hp cur hcur⟩,Kp.of hm hm' hs (Stp.same _ _ fun i cur hc=>h.block i (Array.getElem?_eq_some_iff.1 hc).1 ⟨fun e=>by rw [e,hm] at hc; simp at hc,fun e=>by
  obtain ⟨_,⟨rfl,_⟩ | ⟨g,cap,cur',rfl,hb,hcur,_⟩⟩:=ho
  ·simp [Value.ownBlock] at e
  ·simp only [Value.ownBlock,Option.some.injEq] at e
   subst e
   rw [hcur] at hc
   simp at hc⟩)⟩
namespace Wj
open Ka Wa Wb Wc Wd We Wf Wg Wh Wi Re
theorem octet_t (mb base:Nat) (c:UInt8) (vb vp:Value) (l:Str) (w:World) (hm:MsgAt w mb vb vp) (ho:OwnB w base vb l) (hbs:base≤w.heap.size) (hl:l.length≤1000000) :
  Calls Tryz.prog 341 #[.int .u8 c.toNat,.pointer (some ⟨mb,0,none⟩)] w fun e w' =>
   e=.returned (.tuple #[])∧(∃ vb',MsgAt w' mb vb' vp∧OwnB w' base vb' (l++[c]))∧TF mb base w w':=by
 refine (octet_w mb base c vb vp l w hm ho hbs hl).mono ?_
 rintro e w' ⟨rfl,vb',h1,h2,_,h3,h4⟩
 exact ⟨rfl,⟨vb',h1,h2⟩,TF.of_fr ho h4 hm h1 h3⟩
theorem raw_t (mb base:Nat) (s:Str) (vb vp:Value) (l:Str) (w:World) (hm:MsgAt w mb vb vp) (ho:OwnB w base vb l) (hbs:base≤w.heap.size) (hl:l.length≤1000000) (hs:s.length≤1000000000) :
  Calls Tryz.prog 336 #[.string (B s),.pointer (some ⟨mb,0,none⟩)] w fun e w' =>
   e=.returned (.tuple #[])∧(∃ vb',MsgAt w' mb vb' vp∧OwnB w' base vb' (l++s))∧TF mb base w w':=by
 obtain ⟨i0,hi,hz0,hz1,hz2⟩:=info_parts infoB
 have hc0:=hm.cells.1
 have HM:=aH hm
 have HO:=aH ho
 have hlt:=hm.lt
 have hsz:(B s).size=s.length:=size_B s
 have HU:Hid (Tryz.prog.underlying 224=some .string):=by unfold Hid; kernel_rfl
 clear hm ho
 go_enter Tryz.func336,Tryz.ntmps336
 go_wp2_with (at_builtin; go_loud (refine wpList_append_stp_string _ rfl (.tmp 8) (.tmp 9) 58 224 rfl base 5 i0 underB (aU HU) hi hz0 hz1 hz2 _ l.length _ rfl (aU HO) (B s) rfl ?c3 ?c4 hbs ?_))
 case c3=>unfold maxLen; omega
 case c4=>omega
 intro v' w3 hown' hgrow hstp
 obtain ⟨va,vn,vc,rfl⟩:=own_slice hown'
 have HO3:Hid (OwnB w3 base (.slice va vn vc) (l++s)):=by
  unfold Hid OwnB
  rw [List.length_append,List.map_append,← hsz]
  exact hown'
 have hne:some mb≠vb.ownBlock:=msg_ne (aU HM) (aU HO)
 have HM3:=aH ((aU HM).kept (hgrow.block mb hlt hne))
 have HF3:Hid (TF mb base w (w3.setCell ⟨mb,0,none⟩ (.slice va vn vc))):=TF.of_fr (aU HO)
  (Fr.trans ⟨hgrow.os,hgrow.tape,hgrow.output,hgrow.size,fun i hi hp=>hgrow.block i hi hp.2⟩ (Fr.of_set _ fun i h=>h.1)) (aU HM) ((aU HM3).set0 _) (hstp.trans (stp_msg (aU HM3) (by decide) _ _ _ _) hgrow.size)
 have hfz:=(aU HM3).frozen
 have hc:=(aU HM3).cells.1
 clear hown' hgrow hstp hne HM HO
 go_wp2_with fail
 refine bodyPost_end (v:=.tuple #[]) (by simp [results,Tryz.results336]) rfl ?_
 refine ⟨rfl,⟨_,(aU HM3).set0 _,aS (aU HO3) (msg_ne (aU HM3) (aU HO3)) _ _⟩,aU HF3⟩
end Wj
def Wr (fn:FuncId) (x:Value) (out:Str):Prop:=∀ (mb base:Nat) (vb vp:Value) (l:Str) (w:World),MsgAt w mb vb vp→OwnB w base vb l→base≤w.heap.size→l.length+out.length≤1000000 →
 Calls Tryz.prog fn #[x,.pointer (some ⟨mb,0,none⟩)] w fun e w'=>e=.returned (.tuple #[])∧(∃ vb',MsgAt w' mb vb' vp∧OwnB w' base vb' (l++out))∧TF mb base w w'
structure Fd where
 t:TypeId
 x:Value
 fn:FuncId
 out:Str
def Fd.Ok (f : Fd) : Prop := (∀ W : World, (method 521 f.t f.x "beacon/wire.writeTo").run Tryz.prog W = .ok (f.fn, f.x) W) ∧ (∀ (args : Array Value) (W : World), (callFunc f.fn args).run Tryz.prog W = .ok (.enter f.fn args) W) ∧ Wr f.fn f.x f.out
def outs (fs:List Fd):Str:=fs.flatMap (·.out)
namespace Wk
open Ka Wa Wb Wc Wd We Wf Wg Wh Wi Wj Re
theorem outs_take (fs:List Fd) (k:Nat) (h:k<fs.length):outs (fs.take (k+1))=outs (fs.take k)++fs[k].out:=by
 rw [outs,List.take_succ_eq_append_getElem h,List.flatMap_append]; simp [outs]
theorem outs_le (fs:List Fd) (k:Nat):(outs (fs.take k)).length≤(outs fs).length:=by
 have:outs fs=outs (fs.take k)++outs (fs.drop k):=by rw [outs,outs,outs,← List.flatMap_append,List.take_append_drop]
 rw [this]; simp
theorem put_any (mb base g cap:Nat) (fs:List Fd) (vb vp:Value) (l:Str) (w:World) (hm:MsgAt w mb vb vp) (ho:OwnB w base vb l) (hbs:base≤w.heap.size)
  (hok : ∀ f∈fs,f.Ok) (hlt:g<w.heap.size) (hgm:g≠mb) (hkeep:g<base∨∀ cur,w.heap[g]?≠some (.cells cur 5 (0,0))) (hcells : ∀ j (h:j<fs.length),w.cell? ⟨g,j,none⟩=some (.iface fs[j].t fs[j].x))
  (hn:fs.length≤cap) (hc:fs.length≤1000000) (hl:l.length+(outs fs).length≤1000000) :
  Calls Tryz.prog 139 #[.pointer (some ⟨mb,0,none⟩),.slice (some ⟨g,0,none⟩) fs.length cap] w fun e w' =>
   e=.returned (.tuple #[])∧(∃ vb',MsgAt w' mb vb' vp∧OwnB w' base vb' (l++outs fs))∧TF mb base w w':=by
 have HM:=aH hm
 have HO:=aH ho
 have HOK:=aH hok
 have HC:=aH hcells
 have HK:=aH hkeep
 clear hm ho hok hcells hkeep
 go_enter Tryz.func139,Tryz.ntmps139
 go_wp2_with fail
 go_loopw [8] (fun i wr=>∃ (k:Nat) (vb':Value),i=.int .i64 k∧k≤fs.length∧MsgAt wr mb vb' vp∧OwnB wr base vb' (l++outs (fs.take k))∧TF mb base w wr) (fun i _=>fs.length - (intOf i).toNat)
 case atStart=>exact ⟨0,vb,rfl,Nat.zero_le _,aU HM,by simpa [outs] using aU HO,TF.refl _ _ _⟩
 case round =>
  obtain ⟨k,vb',rfl,hk,hm,ho,ht⟩:=hrel
  have HM1:=aH hm
  have HO1:=aH ho
  have HT1:=aH ht
  have hsz:=ht.size
  clear hm ho ht
  by_cases hlk:k<fs.length
  ·have hcell:wr.cell? ⟨g,k,none⟩=some (.iface fs[k].t fs[k].x):=(World.cell?_of_block (w:=w) ((aU HT1).block g hlt hgm (aU HK))).trans (aU HC k hlk)
   have hOK:=aU HOK fs[k] (List.getElem_mem hlk)
   have HE:=aH (outs_take fs k hlk)
   have HL:=aH (outs_le fs (k+1))
   rw [outs_take fs k hlk,List.length_append] at HL
   generalize fs[k]=f at *
   have hmeth:=hOK.1
   have hcf:=hOK.2.1
   have HW:=aH (hOK.2.2 mb base vb' vp _ wr (aU HM1) (aU HO1) (by omega) (by rw [List.length_append]; have:=aU HL; omega))
   clear hOK
   go_wp2_with fail
   refine (aU HW).mono ?_
   rintro e w2 ⟨rfl,⟨vb2,h1,h2⟩,h3⟩
   rw [List.append_assoc,← aU HE] at h2
   have HF:=aH (And.intro h1 (And.intro h2 ((aU HT1).trans h3)))
   clear h1 h2 h3 HW
   go_wp2_with fail
   exact ⟨⟨k+1,vb2,by go_num,by omega,(aU HF).1,(aU HF).2.1,(aU HF).2.2⟩,by simp [intOf]; omega⟩
  ·have hkl:k=fs.length:=by omega
   subst hkl
   have HO2:=aU HO1
   rw [List.take_length] at HO2
   have HO3:=aH HO2
   clear HO2
   go_wp2
   refine bodyPost_end (v:=.tuple #[]) (by simp [results,Tryz.results139]) rfl ?_
   exact ⟨rfl,⟨vb',aU HM1,aU HO3⟩,aU HT1⟩
end Wk
namespace Wl
open Ka Wa Wb Wc Wd We Wf Wg Wh Wi Wj Wk Re
def fOctet (c:UInt8):Fd:=⟨292,.int .u8 c.toNat,341,[c]⟩
def fRaw (s:Str):Fd:=⟨224,.string (B s),336,s⟩
theorem m_octet (n : Int) (W : World) : (method 521 292 (.int .u8 n) "beacon/wire.writeTo").run Tryz.prog W = .ok (341, .int .u8 n) W := by kernel_rfl
theorem m_raw (s : ByteArray) (W : World) : (method 521 224 (.string s) "beacon/wire.writeTo").run Tryz.prog W = .ok (336, .string s) W := by kernel_rfl
theorem c_octet (args:Array Value) (W:World):(callFunc 341 args).run Tryz.prog W=.ok (.enter 341 args) W:=by kernel_rfl
theorem c_raw (args:Array Value) (W:World):(callFunc 336 args).run Tryz.prog W=.ok (.enter 336 args) W:=by kernel_rfl
theorem octet_ok (c:UInt8):(fOctet c).Ok :=
 ⟨m_octet _,c_octet,fun mb base vb vp l w hm ho hbs hl=>octet_t mb base c vb vp l w hm ho hbs (by simp [fOctet] at hl; omega)⟩
theorem raw_ok (s:Str):(fRaw s).Ok :=
 ⟨m_raw _,c_raw,fun mb base vb vp l w hm ho hbs hl=>raw_t mb base s vb vp l w hm ho hbs (by simp [fRaw] at hl; omega) (by simp [fRaw] at hl; omega)⟩
def hi (n:Nat):UInt8:=UInt8.ofNat (n/256)
def lo (n:Nat):UInt8:=UInt8.ofNat n
def fShort (n:Nat):Fd:=⟨284,.int .u16 n,337,[hi n,lo n]⟩
theorem m_short (n : Int) (W : World) : (method 521 284 (.int .u16 n) "beacon/wire.writeTo").run Tryz.prog W = .ok (337, .int .u16 n) W := by kernel_rfl
theorem c_short (args:Array Value) (W:World):(callFunc 337 args).run Tryz.prog W=.ok (.enter 337 args) W:=by kernel_rfl
theorem short_w (n:Nat) (hn:n<65536):Wr 337 (.int .u16 n) [hi n,lo n]:=by
 intro mb base vb vp l w hm ho hbs hl
 have HM:=aH hm
 have HO:=aH ho
 have hlt:=hm.lt
 clear hm ho
 go_enter Tryz.func337,Tryz.ntmps337
 go_wp2_with fail
 have eh:(n:Int)/256=((hi n).toNat:Int):=by unfold hi; rw [UInt8.toNat_ofNat']; omega
 have el:(n:Int)%256=((lo n).toNat:Int):=by unfold lo; rw [UInt8.toNat_ofNat']; omega
 rw [eh,el]
 have hnew:=World.alloc_heap_new w (.cells #[.iface 292 (.int .u8 (hi n).toNat),.iface 292 (.int .u8 (lo n).toNat)] 297)
 refine (put_any mb base w.heap.size 2 [fOctet (hi n),fOctet (lo n)] vb vp l _ ((Below.heap_alloc _ _ _ hlt).trans (aU HM)) ((aU HO).alloc _) (by simp; omega) ?_ (by simp) (by omega) (.inr ?_) ?_ (by simp) (by simp) ?_).mono ?_
 ·intro f hf
  simp at hf
  rcases hf with rfl | rfl <;> exact octet_ok _
 ·intro cur h
  rw [hnew] at h
  simp at h
 ·intro j hj
  match j,hj with
  | 0,_=>unfold World.cell?; rw [hnew]; rfl
  | 1,_=>unfold World.cell?; rw [hnew]; rfl
  | j+2,hj=>simp at hj; omega
 ·simp [outs,fOctet] at hl ⊢; omega
 rintro e w2 ⟨rfl,⟨vb2,h1,h2⟩,h3⟩
 have HF:Hid ((∃ vb',MsgAt w2 mb vb' vp∧OwnB w2 base vb' (l++[hi n,lo n]))∧TF mb base w w2) :=
  ⟨⟨vb2,h1,h2⟩,(TF.of_below ((Below.refl _ _).alloc (Nat.le_refl _) _)).trans h3⟩
 clear h1 h2 h3 hnew eh el
 go_wp2_with fail
 refine bodyPost_end (v:=.tuple #[]) (by simp [results,Tryz.results337]) rfl ?_
 exact ⟨rfl,aU HF⟩
theorem short_ok (n:Nat) (hn:n<65536):(fShort n).Ok:=⟨m_short _,c_short,short_w n hn⟩
end Wl
namespace Wm
open Ka Wa Wb Wc Wd We Wf Wg Wh Wi Wj Wk Wl Re
theorem own_string {w:World} {base:Nat} {v:Value} {l:Str} (h:OwnB w base v l):(convert 58 9 v).run Tryz.prog w=.ok (.string (B l)) w:=by
 obtain ⟨h1,⟨rfl,h2⟩ | ⟨g,cap,cur,rfl,hb,hcur,hn,hm,hs,ht⟩⟩:=h
 ·obtain rfl:l = []:=List.eq_nil_of_length_eq_zero h2
  kernel_rfl
 ·refine run_convert_bytes_back (P:=Tryz.prog) w 58 9 5 ⟨g,0,none⟩ cap l Tryz.underlying58 Tryz.underlying5 Tryz.underlying9 fun j hj=>?_
  have e:(⟨g,0,none⟩:Addr).add j=⟨g,j,none⟩:=by unfold Addr.add; by_cases h:j=0 <;> simp [h]
  rw [e]
  have e2:cur.toList[j]? = (l.map fun c=>Value.int .u8 (c.toNat:Int))[j]?:=by
   rw [← ht,List.getElem?_take,if_pos (by omega)]
  simp only [World.cell?,hcur]
  rw [← Array.getElem?_toList,e2]
  simp [hj]
theorem written_any (g cap:Nat) (fs:List Fd) (w:World) (hok : ∀ f∈fs,f.Ok) (hlt:g<w.heap.size) (hcells : ∀ j (h:j<fs.length),w.cell? ⟨g,j,none⟩=some (.iface fs[j].t fs[j].x))
  (hn:fs.length≤cap) (hc:fs.length≤1000000) (hl:(outs fs).length≤1000000) :
  Calls Tryz.prog 199 #[.slice (some ⟨g,0,none⟩) fs.length cap] w fun e w'=>e=.returned (.string (B (outs fs)))∧Below w.heap.size w w':=by
 have hnew:=World.alloc_heap_new w (.cells #[.slice none 0 0,.slice none 0 0] 283)
 have HP:=aH (put_any w.heap.size (w.heap.size+1) g cap fs (.slice none 0 0) (.slice none 0 0) [] (w.alloc (.cells #[.slice none 0 0,.slice none 0 0] 283)) hnew (World.ownsRow_nil _ _ _ _) (by simp) hok (by simp; omega) (by omega) (.inl (by omega))
  (fun j hj=>(World.cell?_of_block (w:=w) (Below.heap_alloc _ _ _ hlt)).trans (hcells j hj)) hn hc (by simpa using hl))
 clear hnew hok hcells
 go_enter Tryz.func199,Tryz.ntmps199
 go_wp2_with fail
 refine (aU HP).mono ?_
 rintro e w2 ⟨rfl,⟨vb,h1,h2⟩,h3⟩
 have hc0:=h1.cells.1
 have hcv:=own_string h2
 have HB:Hid (Below w.heap.size w w2):=((Below.refl _ _).alloc (Nat.le_refl _) _).trans ⟨h3.os,h3.tape,h3.output,h3.size,fun k hk=>h3.block k (by simp; omega) (by omega) (.inl (by omega))⟩
 rw [List.nil_append] at hcv
 obtain ⟨va,vn,vc,rfl⟩:=own_slice h2
 clear h1 h2 h3 HP
 go_wp2_with fail
 go_ret
 exact ⟨rfl,aU HB⟩
end Wm
namespace Ha
end Ha
namespace Vc
open Ka Wa Wb Wd
end Vc
end Go.Proofs.YtkkpahmoljiepaaGreatDoor
