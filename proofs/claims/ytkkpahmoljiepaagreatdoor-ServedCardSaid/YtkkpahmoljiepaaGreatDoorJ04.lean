/- Contract: zone.readZone. -/
import Derived.Test.YtkkpahmoljiepaaGreatDoorJ03
import Derived.Shelf.SlicesQ.Contains
import Derived.Shelf.SlicesQ.IndexFunc
import Derived.Shelf.SlicesE.Clone
import Derived.Shelf.SlSortCmp.InsertionK
import Derived.Ground.SlgqProg
import Derived.Ground.SlgfProg
import Derived.Ground.SlsfProg
import Derived.Ground.SlgnProg
import Derived.Test.YtkkpahmoljiepaaGreatDoorProg
import Derived.Laws.StructEq
set_option linter.unusedSimpArgs false
set_option linter.unusedVariables false
set_option maxRecDepth 1000000
set_option maxHeartbeats 12800000
namespace Go.Proofs.YtkkpahmoljiepaaGreatDoor
open Go.RowKit
open Pu (Str aH aU)
def readAll:List Str→Option (List Rec)
 | []=>some []
 | l :: t=>(readRec l).bind fun r=>(readAll t).map (r :: ·)
def originW:Str:=[111,114,105,103,105,110,32]
def readLines:List Str→Option (Str×List Rec)
 | []=>none
 | f :: t=>if Lib.hasPrefix f originW && Sp.plain (Lib.trimPrefix f originW) then (readAll t).map (fun rs=>(Lib.trimPrefix f originW,rs)) else none
def readZ (l:Str):Option (Str×List Rec) :=
 if Lib.hasSuffix l [10] then readLines (Sp.spl 10 (Lib.trimSuffix l [10])) else none
def encs (rs:List Rec):List Value:=rs.flatMap Rec.enc
theorem encs_snoc (rs:List Rec) (r:Rec):encs (rs++[r])=encs rs++r.enc:=by simp [encs]
theorem encs_len (rs:List Rec):(encs rs).length=rs.length*4:=by
 induction rs with
 | nil=>rfl
 | cons r t ih=>simp only [encs,List.flatMap_cons,List.length_append] at *; rw [ih]; simp [Rec.enc]; omega
def RecsOwn (w:World) (base:Nat) (v:Value) (rs:List Rec):Prop:=w.ownsRow base 47 4 v rs.length (encs rs)∧(v=.slice none 0 0 ↔ rs = [])
theorem own_below {w w':World} {B e size n:Nat} {v:Value} {xs:List Value} (h:w.ownsRow B e size v n xs) (hb:Below w.heap.size w w'):w'.ownsRow B e size v n xs :=
 h.kept (row:=none) ⟨hb.os,hb.tape,hb.output,hb.size,fun k hk _=>hb.block k hk⟩ (Classical.em _)
theorem own_base {w:World} {B B' e size n:Nat} {v:Value} {xs:List Value} (h:w.ownsRow B e size v n xs) (hb:B'≤B):w.ownsRow B' e size v n xs:=by
 obtain ⟨hl,h | ⟨g,cap,cur,hv,hg,h1,h2,h3,h4,h5⟩⟩:=h
 ·exact ⟨hl,.inl h⟩
 ·exact ⟨hl,.inr ⟨g,cap,cur,hv,Nat.le_trans hb hg,h1,h2,h3,h4,h5⟩⟩
theorem RecsOwn.below {w w':World} {B:Nat} {v:Value} {rs:List Rec} (h:RecsOwn w B v rs) (hb:Below w.heap.size w w'):RecsOwn w' B v rs:=⟨own_below h.1 hb,h.2⟩
theorem RecsOwn.base {w:World} {B B':Nat} {v:Value} {rs:List Rec} (h:RecsOwn w B v rs) (hb:B'≤B):RecsOwn w B' v rs:=⟨own_base h.1 hb,h.2⟩
namespace Re
open Ka Kb Kd Ke Kf Rc Rd
theorem readRecord_no (s:ByteArray) (w:World) (hg:G w) (hs:s.size≤3000) (h:readRec s.data.toList=none) :
  Calls Tryz.prog 99 #[.string s] w fun e w'=>e=.returned (.tuple #[.agg #[.string ⟨#[]⟩,.int .i64 0,.int .i64 0,.string ⟨#[]⟩],.bool false])∧Below w.heap.size w w':=by
 have:=readRecord_any s w hg hs
 rw [h] at this
 exact this
theorem readRecord_yes (s:ByteArray) (r:Rec) (w:World) (hg:G w) (hs:s.size≤3000) (h:readRec s.data.toList=some r) :
  Calls Tryz.prog 99 #[.string s] w fun e w'=>e=.returned (.tuple #[.agg #[.string (B r.owner),.int .i64 r.ttl,.int .i64 r.type,.string (B r.data)],.bool true])∧Below w.heap.size w w':=by
 have:=readRecord_any s w hg hs
 rw [h] at this
 exact this
theorem infoR:(Tryz.prog.info? 47).map (fun i=>(i.zero,i.size,i.bytes))=some (some (.agg #[.string ⟨#[]⟩,.int .i64 0,.int .i64 0,.string ⟨#[]⟩]),4,48):=by kernel_rfl
theorem underR:Tryz.prog.underlying 41=some (.slice 47):=by kernel_rfl
def noneV:Value:=.tuple #[.string ⟨#[]⟩,.slice none 0 0,.bool false]
def zoneR (o:Option (Str×List Rec)) (base:Nat) (e:Ending) (w':World):Prop :=
 match o with
 | none=>e=.returned noneV
 | some (o,rs)=>∃ v,e=.returned (.tuple #[.string (B o),v,.bool true])∧RecsOwn w' base v rs
theorem zoneR_none {base:Nat} {e:Ending} {w':World} (h:e=.returned noneV):zoneR none base e w':=h
theorem readZone_noend (s:ByteArray) (w:World) (hs:s.size≤3000) (h:Lib.hasSuffix s.data.toList [10]=false) :
  Calls Tryz.prog 56 #[.string s] w fun e w'=>e=.returned noneV∧Below w.heap.size w w':=by
 go_enter Tryz.func56,Tryz.ntmps56
 go_wp2_with (go_at_call 96; refine (Tryz.strings_CutSuffix s _ _ (by omega)).mono ?_; rintro e w' ⟨rfl,rfl⟩)
 go_ret3
 exact ⟨rfl,Below.refl _ _⟩
theorem trimSuffix_len (l p:Str):(Lib.trimSuffix l p).length≤l.length:=by
 unfold Lib.trimSuffix; split
 ·simp
 ·exact Nat.le_refl _
theorem trimPrefix_len (l p:Str):(Lib.trimPrefix l p).length≤l.length:=by
 unfold Lib.trimPrefix; split
 ·simp
 ·exact Nat.le_refl _
theorem readZone_end (s:ByteArray) (w:World) (hg:G w) (hs:s.size≤3000) (h:Lib.hasSuffix s.data.toList [10]=true) :
  Calls Tryz.prog 56 #[.string s] w fun e w' =>
   zoneR (readZ s.data.toList) w.heap.size e w'∧Below w.heap.size w w':=by
 have hz:Hid (readZ s.data.toList=readLines (Sp.spl 10 (Lib.trimSuffix s.data.toList [10]))):=by unfold readZ; rw [Hid,if_pos h]
 have hcut:=Tryz.strings_CutSuffix s ⟨#[10]⟩ w (by omega)
 rw [h] at hcut
 obtain ⟨body,hbody⟩ : ∃ body:ByteArray,⟨(Lib.trimSuffix s.data.toList [10]).toArray⟩=body:=⟨_,rfl⟩
 have hbd:body.data.toList=Lib.trimSuffix s.data.toList [10]:=by rw [← hbody]
 have hbs:body.size≤3000:=by
  have:=trimSuffix_len s.data.toList [10]
  rw [← hbd,Pu.len_eq,Pu.len_eq] at this
  omega
 have hcut':Calls Tryz.prog 96 #[.string s,.string ⟨#[10]⟩] w fun e w'=>e=.returned (.tuple #[.string body,.bool true])∧w'=w:=by rw [← hbody]; exact hcut
 rw [← hbd,← Sp.pieces_data] at hz
 have hps:=aH (Sp.piece_size 10 body)
 have hlen:(Sp.pieces 10 body).length≤3001:=by
  have:=Sp.spl_len_le 10 body.data.toList
  rw [← Sp.pieces_data,List.length_map,Pu.len_eq] at this
  omega
 have hat:=strsAt_alloc w (Sp.pieces 10 body)
 have hcall:=split_any body 10 w hg (by omega)
 have hb0:Below w.heap.size w (w.alloc (.cells ((Sp.pieces 10 body).map Value.string).toArray 9)):=(Below.refl _ _).alloc (Nat.le_refl _) _
 have hne':1≤(Sp.pieces 10 body).length:=by have:=Sp.pieces_len 10 body; omega
 clear hbody hbd hcut
 generalize Sp.pieces 10 body=L at *
 cases L with
 | nil=>simp at hne'
 | cons f t =>
 have hcf:_:=hat.2 0 (by simp)
 have hsf:f.size≤3000:=Nat.le_trans (aU hps f (by simp)) hbs
 have hst : ∀ x∈t,x.size≤3000:=fun x hx=>Nat.le_trans (aU hps x (by simp [hx])) hbs
 have HST:=aH hst
 clear hst hps
 generalize w.alloc (.cells ((f :: t).map Value.string).toArray 9)=W at *
 have hcf':W.cell? ⟨w.heap.size,0,none⟩=some (.string f):=hcf
 have hgW:=hg.below hb0
 have hlt:(t.length:Int)≤3000:=by simp at hlen; omega
 rw [List.length_cons] at hcall
 have HC0:=aH hcut'
 have HC:=aH hcall
 have HB:=aH hb0
 have HA:=aH hat
 clear hcall hb0 hat hcut' hcf hlen hne'
 have hcp:=Tryz.strings_CutPrefix f ⟨#[111,114,105,103,105,110,32]⟩ W
 obtain ⟨org,horg⟩ : ∃ org:ByteArray,⟨(Lib.trimPrefix f.data.toList originW).toArray⟩=org:=⟨_,rfl⟩
 have hod:org.data.toList=Lib.trimPrefix f.data.toList originW:=by rw [← horg]
 have hos:org.size≤maxLen:=by
  have:=trimPrefix_len f.data.toList originW
  rw [← hod,Pu.len_eq,Pu.len_eq] at this
  unfold maxLen
  omega
 obtain ⟨hp,hhp⟩ : ∃ hp,hp=Lib.hasPrefix f.data.toList originW:=⟨_,rfl⟩
 have hcp':Calls Tryz.prog 98 #[.string f,.string ⟨#[111,114,105,103,105,110,32]⟩] W fun e w'=>e=.returned (.tuple #[.string org,.bool hp])∧w'=W:=by rw [← horg,hhp]; exact hcp
 have HP:=aH hcp'
 clear hcp hcp'
 have hrl:Hid (readZ s.data.toList=if hp && Sp.plain org.data.toList then (readAll (t.map (·.data.toList))).map (fun rs=>(org.data.toList,rs)) else none):=by
  rw [Hid,aU hz,List.map_cons,readLines,hhp,hod]
 clear hz horg hod hhp
 cases hp
 ·go_enter Tryz.func56,Tryz.ntmps56
  go_wp2_with fail
  refine (aU HC0).mono ?_
  rintro e w ⟨rfl,rfl⟩
  go_wp2_with fail
  refine (aU HC).mono ?_
  rintro e W ⟨rfl,rfl⟩
  go_wp2_with fail
  refine (aU HP).mono ?_
  rintro e W ⟨rfl,rfl⟩
  go_wp2_with fail
  go_ret3
  rw [aU hrl]
  exact ⟨zoneR_none rfl,aU HB⟩
 cases hpl:Sp.plain org.data.toList
 ·go_enter Tryz.func56,Tryz.ntmps56
  go_wp2_with fail
  refine (aU HC0).mono ?_
  rintro e w ⟨rfl,rfl⟩
  go_wp2_with fail
  refine (aU HC).mono ?_
  rintro e W ⟨rfl,rfl⟩
  go_wp2_with fail
  refine (aU HP).mono ?_
  rintro e W ⟨rfl,rfl⟩
  go_wp2_with fail
  refine (plain_any org _ hgW hos).mono ?_
  rintro e w1 ⟨rfl,hb1⟩
  go_wp2_with fail
  go_ret3
  rw [aU hrl,hpl]
  exact ⟨zoneR_none rfl,(aU HB).trans (hb1.mono (aU HB).size)⟩
 have hrl':Hid (readZ s.data.toList=(readAll (t.map (·.data.toList))).map (fun rs=>(org.data.toList,rs))):=by
  rw [Hid,aU hrl,hpl]; rfl
 clear hrl
 have hrl:=hrl'
 clear hrl'
 cases t with
 | nil =>
  go_enter Tryz.func56,Tryz.ntmps56
  go_wp2_with fail
  refine (aU HC0).mono ?_
  rintro e w ⟨rfl,rfl⟩
  go_wp2_with fail
  refine (aU HC).mono ?_
  rintro e W ⟨rfl,rfl⟩
  go_wp2_with fail
  refine (aU HP).mono ?_
  rintro e W ⟨rfl,rfl⟩
  go_wp2_with fail
  refine (plain_any org _ hgW hos).mono ?_
  rintro e w1 ⟨rfl,hb1⟩
  go_wp2_with fail
  go_loop [10,41] (fun v i=>v=.slice none 0 0∧i=.int .i64 0) (fun _ _=>0)
  case atStart=>exact ⟨rfl,rfl⟩
  case round =>
   obtain ⟨rfl,rfl⟩:=hrel
   go_wp2
   go_ret3
   rw [aU hrl]
   exact ⟨⟨_,by rw [B_data]; rfl,World.ownsRow_nil _ _ _ _,by simp⟩,(aU HB).trans (hb1.mono (aU HB).size)⟩
 | cons t0 ts =>
  generalize hT:t0 :: ts=t at *
  have htn : ¬ t = []:=by rw [← hT]; simp
  have htl:0<t.length:=by rw [← hT]; simp
  clear hT
  go_enter Tryz.func56,Tryz.ntmps56
  go_wp2_with fail
  refine (aU HC0).mono ?_
  rintro e w ⟨rfl,rfl⟩
  go_wp2_with fail
  refine (aU HC).mono ?_
  rintro e W ⟨rfl,rfl⟩
  go_wp2_with fail
  refine (aU HP).mono ?_
  rintro e W ⟨rfl,rfl⟩
  go_wp2_with fail
  refine (plain_any org _ hgW hos).mono ?_
  rintro e w1 ⟨rfl,hb1⟩
  go_wp2_with fail
  have hgw1:=hgW.below hb1
  have hbA:Below w.heap.size w w1:=(aU HB).trans (hb1.mono (aU HB).size)
  have hs1:=hbA.size
  have HBA:=aH hbA
  clear hbA
  have hat1:=(aU HA).below hb1
  have HA1:=aH hat1
  clear hat1 HC HC0 HP
  go_loopw [10,41] (fun v i wr=>∃ (k:Nat) (rs:List Rec),k≤t.length∧i=.int .i64 k∧rs.length=k∧RecsOwn wr w1.heap.size v rs∧readAll (t.map (·.data.toList))=(readAll ((t.map (·.data.toList)).drop k)).map (rs++·)∧Below w1.heap.size w1 wr) (fun _ i _=>t.length - (intOf i).toNat)
  case atStart=>exact ⟨0,[],Nat.zero_le _,rfl,rfl,⟨World.ownsRow_nil _ _ _ _,by simp⟩,by simp,Below.refl _ _⟩
  case round =>
   obtain ⟨k,rs,hk,rfl,hrs,hown,hread,hbr⟩:=hrel
   have HR:=aH hread
   have HO:=aH hown
   clear hread hown
   have hgr:=hgw1.below hbr
   have hsz1:=hbr.size
   by_cases hlk:k<t.length
   ·have hck:wr.cell? ⟨w.heap.size,1+k,none⟩=some (.string t[k]):=by
     have:=((aU HA1).below hbr).2 (k+1) (by simpa using hlk)
     rw [show 0+(k+1)=1+k from by omega] at this
     simpa using this
    have hdr:Hid ((t.map (·.data.toList)).drop k=t[k].data.toList :: (t.map (·.data.toList)).drop (k+1)):=by
     rw [Hid,List.drop_eq_getElem_cons (by simpa using hlk),List.getElem_map]
    have hxs:=aU HST t[k] (List.getElem_mem hlk)
    generalize t[k]=x at *
    cases hr:readRec x.data.toList with
    | none =>
     have hfin:Hid (readZ s.data.toList=none):=by
      rw [Hid,aU hrl,aU HR,aU hdr,readAll,hr]; rfl
     go_wp2_with fail
     refine (readRecord_no x _ hgr hxs hr).mono ?_
     rintro e w2 ⟨rfl,hb2⟩
     go_wp2_with fail
     go_ret3
     rw [aU hfin]
     exact ⟨zoneR_none rfl,((aU HBA).trans ((hbr.mono hs1).trans (hb2.mono (by omega)))).alloc (by have:=hb2.size; omega) _⟩
    | some r =>
     obtain ⟨i0,hi,hz0,hz1,hz2⟩:=info_parts infoR
     have hfin:Hid (readAll (t.map (·.data.toList))=(readAll ((t.map (·.data.toList)).drop (k+1))).map ((rs++[r])++·)):=by
      rw [Hid,aU HR,aU hdr,readAll,hr]
      simp [Option.map_map,Function.comp_def]
     go_wp2_with fail
     refine (readRecord_yes x r _ hgr hxs hr).mono ?_
     rintro e w2 ⟨rfl,hb2⟩
     have hown2:=(aU HO).below hb2
     have HO2:=aH hown2
     clear hown2
     have hsz2:=hb2.size
     go_wp2_with (at_builtin; refine wpList_append_own _ rfl (.tmp 52) (.tmp 54) 41 rfl w1.heap.size 47 i0 (.agg #[.string ⟨#[]⟩,.int .i64 0,.int .i64 0,.string ⟨#[]⟩]) 4 48 underR hi hz0 hz1 hz2 rfl (by decide) _ rs.length (encs rs) rfl (((aU HO2).1.alloc _).alloc _) ⟨w2.heap.size+1,0,none⟩ 1 1 r.enc rfl rfl ?c1 ?c2 ?c3 ?c4 ?c5 ?_)
     case c1 =>
      intro j u hj
      match j,hj with
      | 0,hj=>simp [Rec.enc] at hj; subst hj; simp [Addr.add]
      | 1,hj=>simp [Rec.enc] at hj; subst hj; simp [Addr.add]
      | 2,hj=>simp [Rec.enc] at hj; subst hj; simp [Addr.add]
      | 3,hj=>simp [Rec.enc] at hj; subst hj; simp [Addr.add]
      | n+4,hj=>simp [Rec.enc] at hj
     case c2=>intro u hu; simp [Rec.enc] at hu; rcases hu with rfl | rfl | rfl | rfl <;> rfl
     case c3=>unfold maxLen; omega
     case c4=>omega
     case c5=>simp; omega
     intro v' w3 hown' hgrow hnil
     have hO3:RecsOwn w3 w1.heap.size v' (rs++[r]):=by
      refine ⟨?_,?_⟩
      ·rw [encs_snoc,List.length_append,hrs]; exact hown'
      ·exact ⟨fun h=>absurd h hnil,fun h=>by simp at h⟩
     have hB3:Below w1.heap.size w1 w3:=by
      refine ((((hbr.trans (hb2.mono (by omega))).alloc (by omega) _).alloc (by simp; omega) _)).grown hgrow (by simp; omega) ?_
      intro k' hk'
      exact ((aU HO2).1.lt k' hk').1
     have HO3:=aH hO3
     have HB3:=aH hB3
     clear hO3 hB3 hown' hgrow hnil
     go_wp2
     go_roundw
     case rel=>exact ⟨k+1,rs++[r],by omega,by go_num,by simp [hrs],aU HO3,aU hfin,aU HB3⟩
     case measure=>simp [intOf]; omega
   ·have hfin:Hid (readZ s.data.toList=some (org.data.toList,rs)):=by
     rw [Hid,aU hrl,aU HR,List.drop_of_length_le (by simp; omega)]
     simp [readAll]
    go_wp2
    go_ret3
    rw [aU hfin]
    exact ⟨⟨_,by rw [B_data]; rfl,(aU HO).base (aU HBA).size⟩,(aU HBA).trans (hbr.mono hs1)⟩
theorem readZone_any (s:ByteArray) (w:World) (hg:G w) (hs:s.size≤3000) :
  Calls Tryz.prog 56 #[.string s] w fun e w'=>zoneR (readZ s.data.toList) w.heap.size e w'∧Below w.heap.size w w':=by
 cases h:Lib.hasSuffix s.data.toList [10]
 ·have e:readZ s.data.toList=none:=by unfold readZ; rw [h]; rfl
  rw [e]
  exact readZone_noend s w hs h
 ·exact readZone_end s w hg hs h
end Re
def StrsOwn (w:World) (base:Nat) (v:Value) (ls:List Str):Prop:=w.ownsRow base 9 1 v ls.length (ls.map fun l=>.string (B l))∧(v=.slice none 0 0 ↔ ls = [])
namespace Wb
open Ka Re Wa
theorem infoS:(Tryz.prog.info? 9).map (fun i=>(i.zero,i.size,i.bytes))=some (some (.string ⟨#[]⟩),1,16):=by kernel_rfl
theorem underS:Tryz.prog.underlying 49=some (.slice 9):=by kernel_rfl
def takP (s:Str) (br:Bool) (n:Nat):Str×Str×Bool:=if n≤s.length then (s.take n,s.drop n,br) else ([],[],true)
theorem takP_len (s:Str) (br:Bool) (n:Nat):(takP s br n).2.1.length≤s.length:=by unfold takP; split <;> simp
theorem take_any (b n:Nat) (s:Str) (br:Bool) (w:World) (h:RdAt w b s br) (hn:n≤1000000000) (hl:s.length≤1000000000) :
  Calls Tryz.prog 148 #[.pointer (some ⟨b,0,none⟩),.int .i64 n] w fun e w' =>
   e=.returned (.string (B (takP s br n).1))∧RdAt w' b (takP s br n).2.1 (takP s br n).2.2∧It.Keeps b w w'∧w'.heap.size=w.heap.size:=by
 by_cases hc:n≤s.length
 ·unfold takP; rw [if_pos hc]; exact take_ok b n s br w h hc hl
 ·unfold takP; rw [if_neg hc]; exact take_no b n s br w h (by omega) hn
def labGo:Nat→Nat→Str→Bool→Nat→List Str→List Str×Str×Bool
 | 0,_,s,br,_,acc=>(acc,s,br)
 | f+1,n,s,br,size,acc =>
  if n=0 then (acc,s,br)
  else if 63<n∨255<size+1+n then ([],s,true)
  else labGo f (octP (takP s br n).2.1 (takP s br n).2.2).1 (octP (takP s br n).2.1 (takP s br n).2.2).2.1 (octP (takP s br n).2.1 (takP s br n).2.2).2.2 (size+1+n) (acc++[(takP s br n).1])
def labP (s:Str) (br:Bool):List Str×Str×Bool:=labGo 256 (octP s br).1 (octP s br).2.1 (octP s br).2.2 1 []
theorem Keeps_grown {d:Nat} {w A C:World} {row:Option Nat} (h:It.Keeps d w A) (hg:A.grownBy C row) (hr : ∀ k,row=some k→w.heap.size≤k):It.Keeps d w C :=
 ⟨hg.os.trans h.os,hg.tape.trans h.tape,hg.output.trans h.output,Nat.le_trans h.size hg.size,
  fun k hk hd=>(hg.block k (Nat.lt_of_lt_of_le hk h.size) (fun e=>by have:=hr k e.symm; omega)).trans (h.block k hk hd)⟩
theorem Keeps_alloc {d:Nat} {w A:World} (h:It.Keeps d w A) (o:Obj):It.Keeps d w (A.alloc o) :=
 ⟨h.os,h.tape,h.output,Nat.le_trans h.size (by simp),fun k hk hd=>(Below.heap_alloc _ _ _ (Nat.lt_of_lt_of_le hk h.size)).trans (h.block k hk hd)⟩
theorem own_keeps {w w':World} {base d:Nat} {t:TypeId} {sz n:Nat} {v:Value} {xs:List Value} (h:w.ownsRow base t sz v n xs) (hk:It.Keeps d w w') (hd:d<base):w'.ownsRow base t sz v n xs:=by
 obtain ⟨h1,h2⟩:=h
 refine ⟨h1,?_⟩
 rcases h2 with h2 | ⟨g,cap,cur,rfl,hb,hcur,hr⟩
 ·exact .inl h2
 ·exact .inr ⟨g,cap,cur,rfl,hb,(hk.block g (Array.getElem?_eq_some_iff.1 hcur).1 (by omega)).trans hcur,hr⟩
theorem labels_any (b:Nat) (s:Str) (br:Bool) (w:World) (h:RdAt w b s br) (hl:s.length≤1000000000) :
  Calls Tryz.prog 201 #[.pointer (some ⟨b,0,none⟩)] w fun e w' =>
   ∃ v,e=.returned v∧StrsOwn w' w.heap.size v (labP s br).1∧RdAt w' b (labP s br).2.1 (labP s br).2.2∧It.Keeps b w w':=by
 have hbw:=h.lt
 have HC:=aH (octet_any b s br w h hl)
 have HL:=aH (Nat.le_trans (octP_len s br) hl)
 have HN:=aH (octP_lt s br)
 have HE:Hid (labP s br=labGo 256 (octP s br).1 (octP s br).2.1 (octP s br).2.2 1 []):=rfl
 generalize octP s br=x at *
 obtain ⟨n0,s0,br0⟩:=x
 simp only at HC HL HN HE
 clear h hl
 generalize labP s br=R at *
 go_enter Tryz.func201,Tryz.ntmps201
 go_wp2_with fail
 refine (aU HC).mono ?_
 rintro e w1 ⟨rfl,hr1,hk1,hz1⟩
 have HR1:=aH hr1
 have HK1:=aH hk1
 clear hr1 hk1 HC
 go_wp2_with fail
 go_loopw [3,4,5] (fun v sz n wr=>∃ (f size k:Nat) (t:Str) (bt:Bool) (acc:List Str),sz=.int .i64 size∧n=.int .i64 k∧k<256∧size≤255∧256≤f+size∧0<f∧t.length≤1000000000∧acc.length≤size∧RdAt wr b t bt∧StrsOwn wr w.heap.size v acc∧It.Keeps b w wr∧R=labGo f k t bt size acc) (fun _ sz _ _=>256 - (intOf sz).toNat)
 case atStart=>exact ⟨256,1,n0,s0,br0,[],rfl,rfl,aU HN,by omega,by omega,by omega,aU HL,by simp,aU HR1,⟨World.ownsRow_nil _ _ _ _,by simp⟩,aU HK1,aU HE⟩
 case round =>
  obtain ⟨f,size,k,t,bt,acc,rfl,rfl,hk,hsize,hf,hf0,htl,hal,hrd,hown,hkp,hR⟩:=hrel
  have HRD:=aH hrd
  have HO:=aH hown
  have HKP:=aH hkp
  have HR:=aH hR
  have hfz:=hrd.frozen
  have hc1:=hrd.cells.2
  have hsz:=hkp.size
  clear hrd hown hkp hR
  obtain ⟨f,rfl⟩ : ∃ g,f=g+1:=⟨f - 1,by omega⟩
  by_cases h0:k=0
  ·subst h0
   have HF:Hid (R=(acc,t,bt)):=by rw [Hid,aU HR]; simp [labGo]
   clear HR
   go_wp2
   go_ret
   rw [aU HF]
   exact ⟨_,rfl,aU HO,aU HRD,aU HKP⟩
  ·by_cases hbad:63<k∨255<size+1+k
   ·have HF:Hid (R=([],t,true)):=by rw [Hid,aU HR,labGo,if_neg h0,if_pos hbad]
    clear HR
    have hpos:0<k:=by omega
    by_cases h63:63<k
    ·go_wp2
     go_ret
     rw [aU HF]
     exact ⟨_,rfl,⟨World.ownsRow_nil _ _ _ _,by simp⟩,(aU HRD).set1 _,Keeps_set (aU HKP) _ _⟩
    ·have h255:255<size+1+k:=by omega
     go_wp2
     go_ret
     rw [aU HF]
     exact ⟨_,rfl,⟨World.ownsRow_nil _ _ _ _,by simp⟩,(aU HRD).set1 _,Keeps_set (aU HKP) _ _⟩
   ·have hpos:0<k:=by omega
    have h63 : ¬ 63<k:=by omega
    have h255 : ¬ 255<size+1+k:=by omega
    have HF:Hid (R=labGo f (octP (takP t bt k).2.1 (takP t bt k).2.2).1 (octP (takP t bt k).2.1 (takP t bt k).2.2).2.1 (octP (takP t bt k).2.1 (takP t bt k).2.2).2.2 (size+1+k) (acc++[(takP t bt k).1])):=by
     rw [Hid,aU HR,labGo,if_neg h0,if_neg hbad]
    have HT:=aH (take_any b k t bt wr (aU HRD) (by omega) htl)
    have HTL:=aH (Nat.le_trans (takP_len t bt k) htl)
    generalize takP t bt k=y at *
    obtain ⟨t1,t2,bt1⟩:=y
    simp only at HF HT HTL
    obtain ⟨i0,hi,hz0,hz1',hz2⟩:=info_parts infoS
    clear HR
    go_wp2_with fail
    refine (aU HT).mono ?_
    rintro e w2 ⟨rfl,hr2,hk2,hs2⟩
    have HO2:=aH (own_keeps (aU HO).1 hk2 hbw)
    have HRD2:=aH hr2
    have HK2:=aH (Keeps_trans (aU HKP) hk2)
    have HS2:=aH hs2
    clear hr2 hk2 hs2 HT
    go_wp2_with (at_builtin; go_loud (refine wpList_append_own _ rfl (.tmp 25) (.tmp 29) 49 rfl w.heap.size 9 i0 (.string ⟨#[]⟩) 1 16 underS hi hz0 hz1' hz2 rfl (by decide) _ acc.length _ rfl ((aU HO2).alloc _) ⟨w2.heap.size,0,none⟩ 1 1 [.string (B t1)] rfl rfl ?c1 ?c2 ?c3 ?c4 ?c5 ?_))
    case c1 =>
     intro j u hj
     match j,hj with
     | 0,hj=>simp at hj; subst hj; simp [Addr.add]
     | n+1,hj=>simp at hj
    case c2=>intro u hu; simp at hu; subst hu; rfl
    case c3=>unfold maxLen; omega
    case c4=>omega
    case c5=>have:=aU HS2; simp; omega
    intro v' w3 hown' hgrow hnil
    have HO3:Hid (StrsOwn w3 w.heap.size v' (acc++[t1])):=by
     refine ⟨?_,fun h=>absurd h hnil,fun h=>by simp at h⟩
     rw [List.length_append,List.map_append]; exact hown'
    have HK3:Hid (It.Keeps b w w3):=Keeps_grown (Keeps_alloc (aU HK2) _) hgrow fun k' hk'=>((aU HO2).lt k' hk').1
    have HRD3:Hid (RdAt w3 b t2 bt1):=by
     have hlt:=(aU HRD2).lt
     refine (hgrow.block b (by simp; omega) ?_).trans ((Below.heap_alloc _ _ _ hlt).trans (aU HRD2))
     intro e
     have:=((aU HO2).lt b e.symm).1
     omega
    have HC:=aH (octet_any b t2 bt1 w3 (aU HRD3) (aU HTL))
    have HL3:=aH (Nat.le_trans (octP_len t2 bt1) (aU HTL))
    have HN3:=aH (octP_lt t2 bt1)
    generalize octP t2 bt1=z at *
    obtain ⟨n4,t4,bt4⟩:=z
    simp only at HC HL3 HN3 HF
    clear hown' hgrow hnil HRD3 HRD2 HO2 HK2
    go_wp2_with fail
    refine (aU HC).mono ?_
    rintro e w4 ⟨rfl,hr4,hk4,hs4⟩
    have HR4:=aH hr4
    have HK4:=aH (Keeps_trans (aU HK3) hk4)
    have HO4:Hid (StrsOwn w4 w.heap.size v' (acc++[t1])):=⟨own_keeps (aU HO3).1 hk4 hbw,(aU HO3).2⟩
    clear hr4 hk4 hs4 HC
    go_wp2_with fail
    go_roundw
    case rel=>exact ⟨f,size+1+k,n4,t4,bt4,acc++[t1],by go_num,rfl,aU HN3,by omega,by omega,by omega,aU HL3,by simp; omega,aU HR4,aU HO4,aU HK4,aU HF⟩
    case measure=>simp [intOf]; omega
end Wb
end Go.Proofs.YtkkpahmoljiepaaGreatDoor

namespace Go.Proofs
open Go.Shelf
def Tryz.lContainsFunc_ren : Go.Shelf.Ren := ⟨fun | 8 => 171 | 6 => 230 | n => n, fun | 22 => 41 | 23 => 47 | 25 => 258 | 4 => 4 | 3 => 3 | 0 => 0 | n => n, fun | n => n⟩
theorem Tryz.lContainsFunc : Go.Proofs.SlLaysH0.n8 Tryz.prog Tryz.lContainsFunc_ren := {
  mixed := by kernel_rfl
  f6 := ⟨Tryz.f230.name, by decide, Tryz.func230.trans (congrArg some (by kernel_rfl))⟩
  f8 := ⟨Tryz.f171.name, by decide, Tryz.func171.trans (congrArg some (by kernel_rfl))⟩
  t0 := Tryz.underlying0
  a0 := Tryz.isAgg0
  z0 := Tryz.sizeOf0
  v0 := Tryz.zeroValue0
  t3 := Tryz.underlying3
  a3 := Tryz.isAgg3
  z3 := Tryz.sizeOf3
  v3 := Tryz.zeroValue3
  t4 := Tryz.underlying4
  a4 := Tryz.isAgg4
  z4 := Tryz.sizeOf4
  v4 := Tryz.zeroValue4
  t22 := Tryz.underlying41
  a22 := Tryz.isAgg41
  z22 := Tryz.sizeOf41
  v22 := Tryz.zeroValue41
  t25 := Tryz.underlying258
  a25 := Tryz.isAgg258
  z25 := Tryz.sizeOf258
  v25 := Tryz.zeroValue258 }
def Tryz.lContains_ren : Go.Shelf.Ren := ⟨fun | 7 => 178 | 6 => 234 | n => n, fun | 22 => 41 | 24 => 47 | 4 => 4 | 0 => 0 | 3 => 3 | n => n, fun | n => n⟩
theorem Tryz.lContains : Go.Proofs.SlLaysQ.n7 Tryz.prog Tryz.lContains_ren := {
  mixed := by kernel_rfl
  f6 := ⟨Tryz.f234.name, by decide, Tryz.func234.trans (congrArg some (by kernel_rfl))⟩
  f7 := ⟨Tryz.f178.name, by decide, Tryz.func178.trans (congrArg some (by kernel_rfl))⟩
  t0 := Tryz.underlying0
  a0 := Tryz.isAgg0
  z0 := Tryz.sizeOf0
  v0 := Tryz.zeroValue0
  t3 := Tryz.underlying3
  a3 := Tryz.isAgg3
  z3 := Tryz.sizeOf3
  v3 := Tryz.zeroValue3
  t4 := Tryz.underlying4
  a4 := Tryz.isAgg4
  z4 := Tryz.sizeOf4
  v4 := Tryz.zeroValue4
  t22 := Tryz.underlying41
  a22 := Tryz.isAgg41
  z22 := Tryz.sizeOf41
  v22 := Tryz.zeroValue41 }
def Tryz.lClone_ren : Go.Shelf.Ren := ⟨fun | 41 => 243 | n => n, fun | 22 => 41 | 23 => 47 | 4 => 4 | n => n, fun | n => n⟩
theorem Tryz.lClone : Go.Proofs.SlLaysE0.n41 Tryz.prog Tryz.lClone_ren := {
  mixed := by kernel_rfl
  f41 := ⟨Tryz.f243.name, by decide, Tryz.func243.trans (congrArg some (by kernel_rfl))⟩
  t4 := Tryz.underlying4
  a4 := Tryz.isAgg4
  z4 := Tryz.sizeOf4
  v4 := Tryz.zeroValue4
  t22 := Tryz.underlying41
  a22 := Tryz.isAgg41
  z22 := Tryz.sizeOf41
  v22 := Tryz.zeroValue41 }
def Tryz.lInsertion_ren : Go.Shelf.Ren := ⟨fun | 20 => 231 | n => n, fun | 24 => 47 | 22 => 41 | 3 => 3 | 25 => 186 | 4 => 4 | 0 => 0 | n => n, fun | n => n⟩
theorem Tryz.lInsertion : Go.Proofs.SlLaysF0.n20 Tryz.prog Tryz.lInsertion_ren := {
  mixed := by kernel_rfl
  f20 := ⟨Tryz.f231.name, by decide, Tryz.func231.trans (congrArg some (by kernel_rfl))⟩
  t0 := Tryz.underlying0
  a0 := Tryz.isAgg0
  z0 := Tryz.sizeOf0
  v0 := Tryz.zeroValue0
  t3 := Tryz.underlying3
  a3 := Tryz.isAgg3
  z3 := Tryz.sizeOf3
  v3 := Tryz.zeroValue3
  t4 := Tryz.underlying4
  a4 := Tryz.isAgg4
  z4 := Tryz.sizeOf4
  v4 := Tryz.zeroValue4
  t22 := Tryz.underlying41
  a22 := Tryz.isAgg41
  z22 := Tryz.sizeOf41
  v22 := Tryz.zeroValue41
  t25 := Tryz.underlying186
  a25 := Tryz.isAgg186
  z25 := Tryz.sizeOf186
  v25 := Tryz.zeroValue186 }
end Go.Proofs

set_option maxRecDepth 1000000
set_option maxHeartbeats 12800000
namespace Go.Proofs.YtkkpahmoljiepaaGreatDoor
open Go.RowKit
open Pu (Str aH aU)
def bE (w:World) (b off:Nat) (rs:List Rec):Prop:=b<w.heap.size∧∀ j,j<rs.length→∀ i u,(Rec.enc rs[j]!)[i]? = some u→w.cell? ⟨b,off+j*4+i,none⟩=some u
theorem bE.below {w w':World} {b off:Nat} {rs:List Rec} (h:bE w b off rs) (hb:Below w.heap.size w w'):bE w' b off rs :=
 ⟨Nat.lt_of_lt_of_le h.1 hb.size,fun j hj i u hu=>(hb.cell (p:=⟨b,off+j*4+i,none⟩) h.1).trans (h.2 j hj i u hu)⟩
def RV (w:World) (v:Value) (rs:List Rec):Prop:=(v=.slice none 0 0∧rs = [])∨∃ b off cap,v=.slice (some ⟨b,off,none⟩) rs.length cap∧rs.length≤cap∧bE w b off rs
theorem RV.below {w w':World} {v:Value} {rs:List Rec} (h:RV w v rs) (hb:Below w.heap.size w w'):RV w' v rs:=by
 rcases h with h | ⟨b,off,cap,hv,hc,hr⟩
 ·exact .inl h
 ·exact .inr ⟨b,off,cap,hv,hc,hr.below hb⟩
theorem encs_get (rs:List Rec) (j i:Nat) (hj:j<rs.length) (hi:i<4):(encs rs)[j*4+i]? = (Rec.enc rs[j]!)[i]?:=by
 induction rs generalizing j with
 | nil=>simp at hj
 | cons r t ih =>
  have e:encs (r :: t)=r.enc++encs t:=by simp [encs]
  have hl:r.enc.length=4:=rfl
  rw [e]
  cases j with
  | zero=>rw [List.getElem?_append_left (by omega)]; simp
  | succ j =>
   rw [List.getElem?_append_right (by omega),hl,show (j+1)*4+i - 4=j*4+i from by omega,ih j (by simpa using hj)]
   simp
theorem recsAt_of_encs {w:World} {b off:Nat} {rs:List Rec} (hb:b<w.heap.size) (h : ∀ j u,(encs rs)[j]? = some u→w.cell? ⟨b,off+j,none⟩=some u):bE w b off rs:=by
 refine ⟨hb,fun j hj i u hu=>?_⟩
 have hi:i<4:=by
  rcases Nat.lt_or_ge i 4 with h | h
  ·exact h
  ·rw [List.getElem?_eq_none (by simpa [Rec.enc] using h)] at hu; cases hu
 have:=h (j*4+i) u (by rw [encs_get rs j i hj hi]; exact hu)
 rwa [← Nat.add_assoc] at this
theorem RecsOwn.rv {w:World} {B:Nat} {v:Value} {rs:List Rec} (h:RecsOwn w B v rs):RV w v rs:=by
 obtain ⟨⟨hl,h | ⟨g,cap,cur,hv,hg,h1,h2,h3,h4,h5⟩⟩,hn⟩:=h
 ·exact .inl ⟨h.1,hn.1 h.1⟩
 ·refine .inr ⟨g,0,cap,hv,h2,recsAt_of_encs (Array.getElem?_eq_some_iff.1 h1).1 fun j u hu=>?_⟩
  have hj:cur[j]? = some u:=by
   rw [← h5] at hu
   have hjl:j<(cur.toList.take (rs.length*4)).length:=(List.getElem?_eq_some_iff.1 hu).1
   rw [List.getElem?_take] at hu
   split at hu
   ·simpa using hu
   ·cases hu
  simp [World.cell?,h1,hj]
theorem bE.drop {w:World} {b off:Nat} {rs:List Rec} (h:bE w b off rs) (k:Nat):bE w b (off+k*4) (rs.drop k):=by
 refine ⟨h.1,fun j hj i u hu=>?_⟩
 rw [List.length_drop] at hj
 have e:(rs.drop k)[j]! = rs[k+j]!:=by simp
 rw [e] at hu
 have:=h.2 (k+j) (by omega) i u hu
 rwa [show off+(k+j)*4+i=off+k*4+j*4+i from by omega] at this
theorem bE.take {w:World} {b off:Nat} {rs:List Rec} (h:bE w b off rs) (k:Nat):bE w b off (rs.take k):=by
 refine ⟨h.1,fun j hj i u hu=>?_⟩
 rw [List.length_take] at hj
 have e:(rs.take k)[j]! = rs[j]!:=by
  rw [List.getElem!_eq_getElem?_getD,List.getElem!_eq_getElem?_getD,List.getElem?_take,if_pos (by omega)]
 rw [e] at hu
 exact h.2 j (by omega) i u hu
theorem bE.four {w:World} {b off:Nat} {rs:List Rec} (h:bE w b off rs) (j:Nat) (hj:j<rs.length) :
  w.cell? ⟨b,off+j*4,none⟩=some (.string (B rs[j].owner))∧w.cell? ⟨b,off+j*4+1,none⟩=some (.int .i64 rs[j].ttl) ∧
  w.cell? ⟨b,off+j*4+2,none⟩=some (.int .i64 rs[j].type)∧w.cell? ⟨b,off+j*4+3,none⟩=some (.string (B rs[j].data)):=by
 have e:rs[j]! = rs[j]:=getElem!_pos rs j hj
 have:=h.2 j hj
 rw [e] at this
 exact ⟨this 0 _ rfl,this 1 _ rfl,this 2 _ rfl,this 3 _ rfl⟩
namespace Rf
open Ka Kb Kd Ke Kf Rc Rd Re
def hasP (k:Int) (r:Rec):Bool:=r.type == k
theorem has1_any (r:Rec) (k:Int) (bk:Nat) (W:World) (hc:W.cell? ⟨bk,0,none⟩=some (.int .i64 k)) (hb:bk<W.heap.size) :
  Calls Tryz.prog 172 #[.agg #[.string (B r.owner),.int .i64 r.ttl,.int .i64 r.type,.string (B r.data)],.pointer (some ⟨bk,0,none⟩)] W fun e w'=>e=.returned (.bool (hasP k r))∧Below W.heap.size W w':=by
 go_enter Tryz.func172,Tryz.ntmps172
 go_wp2
 go_ret
 exact ⟨rfl,(Below.refl _ _).alloc (Nat.le_refl _) _⟩
theorem hasPred (k:Int) (bk:Nat) (w:World) (hc:w.cell? ⟨bk,0,none⟩=some (.int .i64 k)) (hb:bk<w.heap.size) :
  PredBelow Tryz.prog 172 #[.pointer (some ⟨bk,0,none⟩)] (fun x=>.agg (Rec.enc x).toArray) (hasP k) w:=by
 intro W r hB
 refine (has1_any r k bk W ((hB.cell (p:=⟨bk,0,none⟩) hb).trans hc) (Nat.lt_of_lt_of_le hb hB.size)).mono ?_
 rintro e w' ⟨rfl,hb'⟩
 exact ⟨rfl,hB.trans (hb'.mono hB.size)⟩
theorem containsFunc_some (k:Int) (bk b off cap:Nat) (rs:List Rec) (w:World) (hc:w.cell? ⟨bk,0,none⟩=some (.int .i64 k)) (hb:bk<w.heap.size) (hr:bE w b off rs) (hl:rs.length≤3001) :
  Calls Tryz.prog 171 #[.slice (some ⟨b,off,none⟩) rs.length cap,.func (.func 172) #[] #[.pointer (some ⟨bk,0,none⟩)]] w fun e w' =>
   e=.returned (.bool (rs.any (hasP k)))∧Below w.heap.size w w':=by
 have:=AnyQ.slices_ContainsFunc Tryz.lContainsFunc 4 Tryz.isAgg47 Tryz.sizeOf47 Rec.enc (fun _=>rfl) (hasP k) 172 #[.pointer (some ⟨bk,0,none⟩)] (enters_of Tryz.func172 (by kernel_rfl) rfl) b off rs.length cap rs w (hasPred k bk w hc hb) (Nat.le_refl _) (by omega) hr.1 hr.2
 rw [List.take_length] at this
 exact this
theorem has_some (k:Int) (b off cap:Nat) (rs:List Rec) (w:World) (hr:bE w b off rs) (hl:rs.length≤3001) :
  Calls Tryz.prog 101 #[.slice (some ⟨b,off,none⟩) rs.length cap,.int .i64 k] w fun e w'=>e=.returned (.bool (rs.any (hasP k)))∧Below w.heap.size w w':=by
 have hb0:Below w.heap.size w (w.alloc (.cells #[.int .i64 k] 3)):=(Below.refl _ _).alloc (Nat.le_refl _) _
 have HC:=aH (containsFunc_some k w.heap.size b off cap rs (w.alloc (.cells #[.int .i64 k] 3)) (by simp) (by simp) (hr.below hb0) hl)
 clear hr
 go_enter Tryz.func101,Tryz.ntmps101
 go_wp2_with fail
 refine (aU HC).mono ?_
 rintro e w' ⟨rfl,hb'⟩
 go_wp2_with fail
 go_ret
 exact ⟨rfl,hb0.trans (hb'.mono (by simp))⟩
theorem indexFunc_nil (f:Value) (w:World) :
  Calls Tryz.prog 230 #[.slice none 0 0,f] w fun e w'=>e=.returned (.int .i64 (-1))∧w'=w:=by
 go_enter Tryz.func230,Tryz.ntmps230
 go_wp2_with fail
 go_loop [8] (fun i=>i=.int .i64 0) (fun _=>0)
 case atStart=>rfl
 case round =>
  obtain rfl:=hrel
  go_wp2
  go_ret
  exact ⟨rfl,rfl⟩
theorem has_nil (k:Int) (w:World) :
  Calls Tryz.prog 101 #[.slice none 0 0,.int .i64 k] w fun e w'=>e=.returned (.bool false)∧Below w.heap.size w w':=by
 have HC:Hid (∀ f w,Calls Tryz.prog 171 #[.slice none 0 0,f] w fun e w'=>e=.returned (.bool false)∧w'=w):=by
  intro f w
  go_enter Tryz.func171,Tryz.ntmps171
  go_wp2_with (go_at_call 230; refine (indexFunc_nil _ _).mono ?_; rintro e w' ⟨rfl,rfl⟩)
  go_ret
  exact ⟨rfl,rfl⟩
 go_enter Tryz.func101,Tryz.ntmps101
 go_wp2_with fail
 refine (aU HC _ _).mono ?_
 rintro e w' ⟨rfl,rfl⟩
 go_wp2_with fail
 go_ret
 exact ⟨rfl,(Below.refl _ _).alloc (Nat.le_refl _) _⟩
theorem has_any (k:Int) (v:Value) (rs:List Rec) (w:World) (hv:RV w v rs) (hl:rs.length≤3001) :
  Calls Tryz.prog 101 #[v,.int .i64 k] w fun e w'=>e=.returned (.bool (rs.any (hasP k)))∧Below w.heap.size w w':=by
 rcases hv with ⟨rfl,rfl⟩ | ⟨b,off,cap,rfl,_,hr⟩
 ·exact has_nil k w
 ·exact has_some k b off cap rs w hr hl
def startsR (o:Str) (rs:List Rec):Bool :=
 match rs with
 | []=>false
 | r :: t=>decide (rs.length≤60) && (r.owner == o && r.type == 6 && !t.any (hasP 6))
theorem startsRight_any (o:Str) (v:Value) (rs:List Rec) (w:World) (hv:RV w v rs) (hl:rs.length≤3001) :
  Calls Tryz.prog 58 #[.string (B o),v] w fun e w'=>e=.returned (.bool (startsR o rs))∧Below w.heap.size w w':=by
 rcases hv with ⟨rfl,rfl⟩ | ⟨b,off,cap,rfl,hcap,hr⟩
 ·go_enter Tryz.func58,Tryz.ntmps58
  go_wp2
  go_ret
  exact ⟨rfl,Below.refl _ _⟩
 cases rs with
 | nil =>
  go_enter Tryz.func58,Tryz.ntmps58
  go_wp2
  go_ret
  exact ⟨rfl,Below.refl _ _⟩
 | cons r t =>
  rw [List.length_cons] at hcap hl ⊢
  obtain ⟨c0,_,c2,_⟩:=hr.four 0 (by simp)
  have hd:=hr.drop 1
  have he:bE w b off []:=⟨hr.1,fun j hj=>by simp at hj⟩
  simp only [Nat.zero_mul,Nat.add_zero,List.getElem_cons_zero,Nat.one_mul,List.drop_succ_cons,List.drop_zero] at c0 c2 hd
  have HD:=aH hd
  have HE:=aH he
  have hb:=hr.1
  clear hd he hr
  by_cases h60:(60:Int)<(t.length:Int)+1
  ·have hfin:Hid (startsR o (r :: t)=false):=by
    unfold startsR; rw [Hid,List.length_cons,decide_eq_false (by omega)]; rfl
   go_enter Tryz.func58,Tryz.ntmps58
   go_wp2
   go_ret
   exact ⟨ret_bool (aU hfin).symm,Below.refl _ _⟩
  have hfin:Hid (startsR o (r :: t)=(r.owner == o && r.type == 6 && !t.any (hasP 6))):=by
   unfold startsR; rw [Hid,List.length_cons,decide_eq_true (by omega)]; rfl
  have hBB:((B r.owner).toList == (B o).toList)=(r.owner == o):=by rw [str_eq]; rfl
  cases ho:r.owner == o
  ·rw [ho] at hBB
   go_enter Tryz.func58,Tryz.ntmps58
   go_wp2
   go_ret
   exact ⟨ret_bool (by rw [aU hfin,ho]; rfl),Below.refl _ _⟩
  rw [ho] at hBB
  cases ht:r.type == 6
  ·go_enter Tryz.func58,Tryz.ntmps58
   go_wp2
   go_ret
   exact ⟨ret_bool (by rw [aU hfin,ho,ht]; rfl),Below.refl _ _⟩
  by_cases hc1:cap=1
  ·subst hc1
   obtain rfl:t = []:=List.eq_nil_of_length_eq_zero (by omega)
   go_enter Tryz.func58,Tryz.ntmps58
   go_wp2_with fail
   refine (has_some 6 b off 0 [] w (aU HE) (by simp)).mono ?_
   rintro e w' ⟨rfl,hb'⟩
   go_wp2_with fail
   go_ret
   exact ⟨ret_bool (by rw [aU hfin,ho,ht]; rfl),hb'⟩
  ·have hcap2:2≤cap:=by omega
   go_enter Tryz.func58,Tryz.ntmps58
   go_wp2_with fail
   refine (has_some 6 b (off+4) _ t w (aU HD) (by omega)).mono ?_
   rintro e w' ⟨rfl,hb'⟩
   go_wp2_with fail
   go_ret
   exact ⟨ret_bool (by rw [aU hfin,ho,ht]; rfl),hb'⟩
end Rf
end Go.Proofs.YtkkpahmoljiepaaGreatDoor
