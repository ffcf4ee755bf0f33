/- Served's loop 4: what went out is held against what is wanted. -/
import Derived.Test.YtkkpahmoljiepaaGreatDoorJNt
import Derived.Deep.QuietTactic
import Derived.BigQuiet
set_option linter.unusedSimpArgs false
set_option linter.unusedVariables false
set_option maxRecDepth 1000000
set_option maxHeartbeats 12800000
namespace Go.Proofs.YtkkpahmoljiepaaGreatDoor
open Go.RowKit
open Pu (Str aH aU)
namespace Nu
open Ka Kc Vb Vd Wa Wb Wc Wd We Wf Wg Wh Wi Wj Wk Wl Wm Ha Hb Hc Hh Hk Re Qa Qb Qc Qd Qe Qf Qg Qh Qi Qj Qk Ql Qm Qn Qo Qp Qr Qq Qs Qu Qv Qw Qx Na Nb Nc Nd Nee Nf Nh Ni Nj No Np Nq
open Ta (zz)
open Nl
set_option maxRecDepth 1000000
def bq (b0:Str) (back:Bool) (s0 q:Nat):Str:=if back=true then bkK b0 s0 q else b0
theorem bq_rd (b0:Str) (back:Bool) (s0 q p l:Nat) (h:p+l≤772∨836≤p):rdN (bq b0 back s0 q) p l=rdN b0 p l:=by
 unfold bq; split
 ·exact bkK_rd _ _ _ _ _ h
 ·rfl
theorem bq_lies (b0:Str) (back:Bool) (s0 q p:Nat) (s:Str) (h:836≤p) (hs:LiesB b0 p s):LiesB (bq b0 back s0 q) p s:=by
 unfold bq; split
 ·exact bkK_lies _ _ _ _ _ h hs
 ·exact hs
theorem bq_len (b0:Str) (back:Bool) (s0 q:Nat):(bq b0 back s0 q).length=b0.length:=by
 unfold bq; split
 ·exact bkK_len _ _ _
 ·rfl
def Rel4 (W1:World) (xb zb rb sb mb bb base:Nat) (b0:Str) (cnt st n sent sus mp wb:Nat) (v:Value) (ls:List Str) (back:Bool) (s0 may o:Nat) (Kp:World→Prop) (x:Value) (W:World):Prop:=∃ q:Nat,x=.int .i64 q∧q≤may∧In W1 W xb zb rb sb mb bb base (bq b0 back s0 q) cnt st n sent sus mp wb v ls∧Kp W
def WI4 (W1:World) (xb zb rb sb mb bb base:Nat) (b0:Str) (cnt st n sent sus mp wb:Nat) (v:Value) (ls:List Str) (back:Bool) (s0 may o:Nat) (Kp:World→Prop) (c0 c1 c3 c4 c5 c6 c7 c9 c10 c11 c12 c13 c15 c17 c18 c19 c20 c21 c22 c23 c24 c25 c26 c32 c33 c34 c35 c36 c37 c38 c39 c40 c41 c42 c43 c44 c45 c46 c47 c48 c49 c50 c51 c52 c53 c54 c55 c56 c57 c58 c59 c60 c61 c62 c63 c64 c65 c66 c67 c68 c69 c70 c71 c72 c73 c74 c75 c76 c77 c78 c79 c80 c81 c82 c83 c84 c85 c86 c87 c88 c89 c90 c91 c92 c93 c94 c95 c96 c97 c98 c99 cDW cDX cDY cDZ cEA cEB cEC cED cEE cEF cEG cEH cEI cEJ cEK cEL cEM cEN cEO cEP cEQ cER cES cET cEU cEV cEW cEX cEY cEZ cFA cFB cFC cFD cFE cFF cFG cFH cFI cFJ cFK cFL cFM cFN cFO cFP cFQ cFR cFS cFT cFU cFV cFW cFX cFY cFZ cGA cGB cGC cGD cGE cGF cGG cGH cGI cGJ cGK cGL cGM cGN cGO cGP cGQ cGR cGS cGT cGU cGV cGW cGX cGY cGZ cHA cHB cHC cHD cHE cHF cHG cHH cHI cHJ cHK cHL cHM cHN cHO cHP cHQ cHR cHS cHT cHU cHV cHW cHX cHY cHZ cIA cIB cIC cID cIE cIF cIG cIH cII cIJ cIK cIL cIM cIN cIO cIP cIQ cIR cIS cIT cIU cLN cLO cLP cLQ cLR cLS cLT cLU cLV cLW cLX cLY cLZ:Value) (a:Act) (W:World):Prop:=∃ u28 u29 u30 u31 uIV uIW uIX uIY uIZ uJA uJB uJC uJD uJE uJF uJG uJH uJI uJJ uJK uJL uJM uJN uJO uJP uJQ uJR uJS uJT uJU uJV uJW uJX uJY uJZ uKA uKB uKC uKD uKE uKF uKG uKH uKI uKJ uKK uKL uKM uKN uKO uKP uKQ uKR uKS uKT uKU uKV uKW uKX uKY uKZ uLA uLB uLC uLD uLE uLF uLG uLH uLI uLJ uLK uLL uLM:Value,Rel4 W1 xb zb rb sb mb bb base b0 cnt st n sent sus mp wb v ls back s0 may o Kp u28 W∧a=⟨#[c0,c1,.bool back,c3,c4,c5,c6,c7,.pointer (some ⟨mb,0,none⟩),c9,c10,c11,c12,c13,.int .i64 s0,c15,v,c17,c18,c19,c20,c21,c22,c23,c24,c25,c26,.int .i64 may,u28,u29,u30,u31,c32,c33,c34,c35,c36,c37,c38,c39,c40,c41,c42,c43,c44,c45,c46,c47,c48,c49,c50,c51,c52,c53,c54,c55,c56,c57,c58,c59,c60,c61,c62,c63,c64,c65,c66,c67,c68,c69,c70,c71,c72,c73,c74,c75,c76,c77,c78,c79,c80,c81,c82,c83,c84,c85,c86,c87,c88,c89,c90,c91,c92,c93,c94,c95,c96,c97,c98,c99,cDW,cDX,cDY,cDZ,cEA,cEB,cEC,cED,cEE,cEF,cEG,cEH,cEI,cEJ,cEK,cEL,cEM,cEN,cEO,cEP,cEQ,cER,cES,cET,cEU,cEV,cEW,cEX,cEY,cEZ,cFA,cFB,cFC,cFD,cFE,cFF,cFG,cFH,cFI,cFJ,cFK,cFL,cFM,cFN,cFO,cFP,cFQ,cFR,cFS,cFT,cFU,cFV,cFW,cFX,cFY,cFZ,cGA,cGB,cGC,cGD,cGE,cGF,cGG,cGH,cGI,cGJ,cGK,cGL,cGM,cGN,cGO,cGP,cGQ,cGR,cGS,cGT,cGU,cGV,cGW,cGX,cGY,cGZ,cHA,cHB,cHC,cHD,cHE,cHF,cHG,cHH,cHI,cHJ,cHK,cHL,cHM,cHN,cHO,cHP,cHQ,cHR,cHS,cHT,cHU,cHV,cHW,cHX,cHY,cHZ,cIA,cIB,cIC,cID,cIE,cIF,cIG,cIH,cII,cIJ,cIK,cIL,cIM,cIN,cIO,cIP,cIQ,cIR,cIS,cIT,cIU,uIV,uIW,uIX,uIY,uIZ,uJA,uJB,uJC,uJD,uJE,uJF,uJG,uJH,uJI,uJJ,uJK,uJL,uJM,uJN,uJO,uJP,uJQ,uJR,uJS,uJT,uJU,uJV,uJW,uJX,uJY,uJZ,uKA,uKB,uKC,uKD,uKE,uKF,uKG,uKH,uKI,uKJ,uKK,uKL,uKM,uKN,uKO,uKP,uKQ,uKR,uKS,uKT,uKU,uKV,uKW,uKX,uKY,uKZ,uLA,uLB,uLC,uLD,uLE,uLF,uLG,uLH,uLI,uLJ,uLK,uLL,uLM,cLN,cLO,cLP,cLQ,cLR,cLS,cLT,cLU,cLV,cLW,cLX,cLY,cLZ],[]⟩
def mu4 (may:Nat) (a:Act) (_:World):Nat:=may - (intOf (a.tmps.getD 28 undef)).toNat
theorem conv_mid {w:World} {bb p cp:Nat} {bs s:Str} (h:RowB w bb bs) (hs:LiesB bs p s) (hp:p+s.length≤bs.length) (hpos:0<p) : ∀ W:World,W.heap[bb]? = w.heap[bb]?→(convert 58 9 (.slice (some ⟨bb,p,none⟩) s.length cp)).run Tryz.prog W=.ok (.string (B s)) W:=fun W hW=>by
 refine run_convert_bytes_back (P:=Tryz.prog) W 58 9 5 ⟨bb,p,none⟩ cp s Tryz.underlying58 Tryz.underlying5 Tryz.underlying9 fun j hj=>?_
 have e:(⟨bb,p,none⟩:Addr).add j=⟨bb,p+j,none⟩:=by unfold Addr.add; by_cases h:j=0 <;> simp [h]
 rw [e]
 have hl:p+j<bs.length:=by omega
 have hr:RowB W bb bs:=RowB.of h hW
 have:=hr.2.cell (p+j) (by simpa using hl)
 rw [this,List.getElem_map]
 have h2:=hs j hj
 rw [List.getElem?_eq_getElem hl,List.getElem?_eq_getElem hj,Option.some.injEq] at h2
 rw [h2]
theorem round4 (W1:World) (xb zb rb sb mb bb base:Nat) (b0:Str) (cnt st n sent sus mp wb:Nat) (v:Value) (ls:List Str) (back:Bool) (s0 may o:Nat) (Kp:World→Prop) {c0 c1 c3 c4 c5 c6 c7 c9 c10 c11 c12 c13 c15 c17 c18 c19 c20 c21 c22 c23 c24 c25 c26 c32 c33 c34 c35 c36 c37 c38 c39 c40 c41 c42 c43 c44 c45 c46 c47 c48 c49 c50 c51 c52 c53 c54 c55 c56 c57 c58 c59 c60 c61 c62 c63 c64 c65 c66 c67 c68 c69 c70 c71 c72 c73 c74 c75 c76 c77 c78 c79 c80 c81 c82 c83 c84 c85 c86 c87 c88 c89 c90 c91 c92 c93 c94 c95 c96 c97 c98 c99 cDW cDX cDY cDZ cEA cEB cEC cED cEE cEF cEG cEH cEI cEJ cEK cEL cEM cEN cEO cEP cEQ cER cES cET cEU cEV cEW cEX cEY cEZ cFA cFB cFC cFD cFE cFF cFG cFH cFI cFJ cFK cFL cFM cFN cFO cFP cFQ cFR cFS cFT cFU cFV cFW cFX cFY cFZ cGA cGB cGC cGD cGE cGF cGG cGH cGI cGJ cGK cGL cGM cGN cGO cGP cGQ cGR cGS cGT cGU cGV cGW cGX cGY cGZ cHA cHB cHC cHD cHE cHF cHG cHH cHI cHJ cHK cHL cHM cHN cHO cHP cHQ cHR cHS cHT cHU cHV cHW cHX cHY cHZ cIA cIB cIC cID cIE cIF cIG cIH cII cIJ cIK cIL cIM cIN cIO cIP cIQ cIR cIS cIT cIU cLN cLO cLP cLQ cLR cLS cLT cLU cLV cLW cLX cLY cLZ u29 u30 u31 uIV uIW uIX uIY uIZ uJA uJB uJC uJD uJE uJF uJG uJH uJI uJJ uJK uJL uJM uJN uJO uJP uJQ uJR uJS uJT uJU uJV uJW uJX uJY uJZ uKA uKB uKC uKD uKE uKF uKG uKH uKI uKJ uKK uKL uKM uKN uKO uKP uKQ uKR uKS uKT uKU uKV uKW uKX uKY uKZ uLA uLB uLC uLD uLE uLF uLG uLH uLI uLJ uLK uLL uLM:Value} (Q0:Exit→Act→World→Prop) (q:Nat) (w:World) (hl:b0.length=25600) (hd2 : ∀ j,j<8→rdN b0 (512+16*j) 8=13312+1536*j) (hse : ∀ q,q<may→rdN b0 (644+2*((s0+q)%8)) 2=o+q∧rdN b0 (512+16*(o+q)+8) 4=12+(ls[q]?.getD []).length∧LiesB b0 (13312+1536*(o+q)+12) (ls[q]?.getD [])) (hlen : ∀ q,q<may→(ls[q]?.getD []).length≤200) (hml:may≤ls.length) (hom:o+may≤8) (hs0:s0≤300) (hbo:back=true→o=0) (hKp : ∀ A B,Kp A→It.Keeps bb A B→Kp B) (hq:q<may) (hIN:In W1 w xb zb rb sb mb bb base (bq b0 back s0 q) cnt st n sent sus mp wb v ls) (hKw:Kp w) :
  Code.wp Tryz.prog body4 (Exit.then (fun a' w''=>WI4 W1 xb zb rb sb mb bb base b0 cnt st n sent sus mp wb v ls back s0 may o Kp c0 c1 c3 c4 c5 c6 c7 c9 c10 c11 c12 c13 c15 c17 c18 c19 c20 c21 c22 c23 c24 c25 c26 c32 c33 c34 c35 c36 c37 c38 c39 c40 c41 c42 c43 c44 c45 c46 c47 c48 c49 c50 c51 c52 c53 c54 c55 c56 c57 c58 c59 c60 c61 c62 c63 c64 c65 c66 c67 c68 c69 c70 c71 c72 c73 c74 c75 c76 c77 c78 c79 c80 c81 c82 c83 c84 c85 c86 c87 c88 c89 c90 c91 c92 c93 c94 c95 c96 c97 c98 c99 cDW cDX cDY cDZ cEA cEB cEC cED cEE cEF cEG cEH cEI cEJ cEK cEL cEM cEN cEO cEP cEQ cER cES cET cEU cEV cEW cEX cEY cEZ cFA cFB cFC cFD cFE cFF cFG cFH cFI cFJ cFK cFL cFM cFN cFO cFP cFQ cFR cFS cFT cFU cFV cFW cFX cFY cFZ cGA cGB cGC cGD cGE cGF cGG cGH cGI cGJ cGK cGL cGM cGN cGO cGP cGQ cGR cGS cGT cGU cGV cGW cGX cGY cGZ cHA cHB cHC cHD cHE cHF cHG cHH cHI cHJ cHK cHL cHM cHN cHO cHP cHQ cHR cHS cHT cHU cHV cHW cHX cHY cHZ cIA cIB cIC cID cIE cIF cIG cIH cII cIJ cIK cIL cIM cIN cIO cIP cIQ cIR cIS cIT cIU cLN cLO cLP cLQ cLR cLS cLT cLU cLV cLW cLX cLY cLZ a' w''∧mu4 may a' w''<mu4 may ⟨#[c0,c1,.bool back,c3,c4,c5,c6,c7,.pointer (some ⟨mb,0,none⟩),c9,c10,c11,c12,c13,.int .i64 s0,c15,v,c17,c18,c19,c20,c21,c22,c23,c24,c25,c26,.int .i64 may,.int .i64 q,u29,u30,u31,c32,c33,c34,c35,c36,c37,c38,c39,c40,c41,c42,c43,c44,c45,c46,c47,c48,c49,c50,c51,c52,c53,c54,c55,c56,c57,c58,c59,c60,c61,c62,c63,c64,c65,c66,c67,c68,c69,c70,c71,c72,c73,c74,c75,c76,c77,c78,c79,c80,c81,c82,c83,c84,c85,c86,c87,c88,c89,c90,c91,c92,c93,c94,c95,c96,c97,c98,c99,cDW,cDX,cDY,cDZ,cEA,cEB,cEC,cED,cEE,cEF,cEG,cEH,cEI,cEJ,cEK,cEL,cEM,cEN,cEO,cEP,cEQ,cER,cES,cET,cEU,cEV,cEW,cEX,cEY,cEZ,cFA,cFB,cFC,cFD,cFE,cFF,cFG,cFH,cFI,cFJ,cFK,cFL,cFM,cFN,cFO,cFP,cFQ,cFR,cFS,cFT,cFU,cFV,cFW,cFX,cFY,cFZ,cGA,cGB,cGC,cGD,cGE,cGF,cGG,cGH,cGI,cGJ,cGK,cGL,cGM,cGN,cGO,cGP,cGQ,cGR,cGS,cGT,cGU,cGV,cGW,cGX,cGY,cGZ,cHA,cHB,cHC,cHD,cHE,cHF,cHG,cHH,cHI,cHJ,cHK,cHL,cHM,cHN,cHO,cHP,cHQ,cHR,cHS,cHT,cHU,cHV,cHW,cHX,cHY,cHZ,cIA,cIB,cIC,cID,cIE,cIF,cIG,cIH,cII,cIJ,cIK,cIL,cIM,cIN,cIO,cIP,cIQ,cIR,cIS,cIT,cIU,uIV,uIW,uIX,uIY,uIZ,uJA,uJB,uJC,uJD,uJE,uJF,uJG,uJH,uJI,uJJ,uJK,uJL,uJM,uJN,uJO,uJP,uJQ,uJR,uJS,uJT,uJU,uJV,uJW,uJX,uJY,uJZ,uKA,uKB,uKC,uKD,uKE,uKF,uKG,uKH,uKI,uKJ,uKK,uKL,uKM,uKN,uKO,uKP,uKQ,uKR,uKS,uKT,uKU,uKV,uKW,uKX,uKY,uKZ,uLA,uLB,uLC,uLD,uLE,uLF,uLG,uLH,uLI,uLJ,uLK,uLL,uLM,cLN,cLO,cLP,cLQ,cLR,cLS,cLT,cLU,cLV,cLW,cLX,cLY,cLZ],[]⟩ w) Q0) ⟨#[c0,c1,.bool back,c3,c4,c5,c6,c7,.pointer (some ⟨mb,0,none⟩),c9,c10,c11,c12,c13,.int .i64 s0,c15,v,c17,c18,c19,c20,c21,c22,c23,c24,c25,c26,.int .i64 may,.int .i64 q,u29,u30,u31,c32,c33,c34,c35,c36,c37,c38,c39,c40,c41,c42,c43,c44,c45,c46,c47,c48,c49,c50,c51,c52,c53,c54,c55,c56,c57,c58,c59,c60,c61,c62,c63,c64,c65,c66,c67,c68,c69,c70,c71,c72,c73,c74,c75,c76,c77,c78,c79,c80,c81,c82,c83,c84,c85,c86,c87,c88,c89,c90,c91,c92,c93,c94,c95,c96,c97,c98,c99,cDW,cDX,cDY,cDZ,cEA,cEB,cEC,cED,cEE,cEF,cEG,cEH,cEI,cEJ,cEK,cEL,cEM,cEN,cEO,cEP,cEQ,cER,cES,cET,cEU,cEV,cEW,cEX,cEY,cEZ,cFA,cFB,cFC,cFD,cFE,cFF,cFG,cFH,cFI,cFJ,cFK,cFL,cFM,cFN,cFO,cFP,cFQ,cFR,cFS,cFT,cFU,cFV,cFW,cFX,cFY,cFZ,cGA,cGB,cGC,cGD,cGE,cGF,cGG,cGH,cGI,cGJ,cGK,cGL,cGM,cGN,cGO,cGP,cGQ,cGR,cGS,cGT,cGU,cGV,cGW,cGX,cGY,cGZ,cHA,cHB,cHC,cHD,cHE,cHF,cHG,cHH,cHI,cHJ,cHK,cHL,cHM,cHN,cHO,cHP,cHQ,cHR,cHS,cHT,cHU,cHV,cHW,cHX,cHY,cHZ,cIA,cIB,cIC,cID,cIE,cIF,cIG,cIH,cII,cIJ,cIK,cIL,cIM,cIN,cIO,cIP,cIQ,cIR,cIS,cIT,cIU,uIV,uIW,uIX,uIY,uIZ,uJA,uJB,uJC,uJD,uJE,uJF,uJG,uJH,uJI,uJJ,uJK,uJL,uJM,uJN,uJO,uJP,uJQ,uJR,uJS,uJT,uJU,uJV,uJW,uJX,uJY,uJZ,uKA,uKB,uKC,uKD,uKE,uKF,uKG,uKH,uKI,uKJ,uKK,uKL,uKM,uKN,uKO,uKP,uKQ,uKR,uKS,uKT,uKU,uKV,uKW,uKX,uKY,uKZ,uLA,uLB,uLC,uLD,uLE,uLF,uLG,uLH,uLI,uLJ,uLK,uLL,uLM,cLN,cLO,cLP,cLQ,cLR,cLS,cLT,cLU,cLV,cLW,cLX,cLY,cLZ],[]⟩ w:=by
 obtain ⟨h1,h2,h3⟩:=hse q hq
 have hL:=hlen q hq
 obtain ⟨gv,vc,rfl,hwc⟩:=hIN.own.cell (fun e=>by rw [e] at hml; simp at hml; omega)
 have hql:q<ls.length:=by omega
 obtain ⟨a,ha⟩ : ∃ a,a=ls[q]?.getD []:=⟨_,rfl⟩
 have hwa:w.cell? ⟨gv,q,none⟩=some (.string (B a)):=by rw [ha,List.getElem?_eq_getElem hql]; exact hwc q hql
 rw [← ha] at h2 h3 hL
 obtain ⟨sq,hsq⟩ : ∃ sq,sq=s0+q:=⟨_,rfl⟩
 obtain ⟨m8,hm8⟩ : ∃ m8,m8=sq%8:=⟨_,rfl⟩
 obtain ⟨q1,hq1⟩ : ∃ q1,q1=644+2*m8:=⟨_,rfl⟩
 obtain ⟨sl,hsl⟩ : ∃ sl,sl=o+q:=⟨_,rfl⟩
 obtain ⟨q2,hq2⟩ : ∃ q2,q2=512+16*sl:=⟨_,rfl⟩
 obtain ⟨q3,hq3⟩ : ∃ q3,q3=q2+8:=⟨_,rfl⟩
 obtain ⟨lg,hlg⟩ : ∃ lg,lg=12+a.length:=⟨_,rfl⟩
 obtain ⟨p0,hp0⟩ : ∃ p0,p0=13312+1536*sl:=⟨_,rfl⟩
 have hs:=mem_seen hIN.mac.mem
 have HN1:=aH (number_any mb bb q1 2 _ w hs (by omega) (by omega) (by rw [bq_rd _ _ _ _ _ _ (by omega),hq1,hm8,hsq,h1]; omega))
 rw [bq_rd _ _ _ _ _ _ (by omega),show rdN b0 q1 2=sl by rw [hq1,hm8,hsq,h1,hsl]] at HN1
 have HN2:=aH (number_any mb bb q3 4 _ w hs (by omega) (by omega) (by rw [bq_rd _ _ _ _ _ _ (by omega),hq3,hq2,hsl,h2]; omega))
 rw [bq_rd _ _ _ _ _ _ (by omega),show rdN b0 q3 4=lg by rw [hq3,hq2,hsl,h2,hlg]] at HN2
 have HN3:=aH (number_any mb bb q2 8 _ w hs (by omega) (by omega) (by rw [bq_rd _ _ _ _ _ _ (by omega),hq2,hd2 sl (by omega)]; omega))
 rw [bq_rd _ _ _ _ _ _ (by omega),show rdN b0 q2 8=p0 by rw [hq2,hd2 sl (by omega),hp0]] at HN3
 have e0:(s0:Int)+(q:Int)=(sq:Int):=by omega
 have e1:(sq:Int).tmod 8=(m8:Int):=by rw [Int.tmod_eq_emod_of_nonneg (by omega)]; omega
 have e1':(sq:Int)%8=(m8:Int):=by omega
 have e2:(644:Int)+2*(m8:Int)=(q1:Int):=by omega
 have k7 : ¬ (7:Int)<(sl:Int):=by omega
 have e3:(512:Int)+16*(sl:Int)=(q2:Int):=by omega
 have e4:(q2:Int)+8=(q3:Int):=by omega
 obtain ⟨s8,hs8⟩ : ∃ s8,s8=8+sl:=⟨_,rfl⟩
 have e5:(8:Int)+(sl:Int)=(s8:Int):=by omega
 have e6:(1024:Int)+1536*(s8:Int)=(p0:Int):=by omega
 have sza:(B a).size=a.length:=size_B a
 have e7:(12:Int)+(a.length:Int)=(lg:Int):=by omega
 obtain ⟨p12,hp12⟩ : ∃ p12,p12=p0+12:=⟨_,rfl⟩
 obtain ⟨pe,hpe⟩ : ∃ pe,pe=p0+lg:=⟨_,rfl⟩
 have e8:(p0:Int)+12=(p12:Int):=by omega
 have e9:(p0:Int)+(lg:Int)=(pe:Int):=by omega
 have hc0:=hs.1
 have HCV:=aH (conv_mid (cp:=25600 - p12) hs.2 (bq_lies b0 back s0 q p12 a (by omega) (by rw [hp12,hp0,hsl]; exact h3)) (by rw [bq_len,hl]; omega) (by omega))
 have hqI:(q:Int)<(may:Int):=by omega
 have hd:pe - p12=a.length:=by omega
 have HIN:=aH hIN
 have HSL:=aH hsl
 have HM8:=aH hm8
 have HSQ:=aH hsq
 have hb1:p12≤pe:=by omega
 have hb2:pe≤25600:=by omega
 have hslb:sl<8:=by omega
 have hm8b:m8<8:=by omega
 have HKP0:=aH hKp
 have HKW0:=aH hKw
 clear hs hIN hse hlen hKp hKw hd2 h1 h2 h3 hwc ha hsq hm8 hq1 hsl hq2 hq3 hlg hp0 hs8 hp12 hpe
 conv=>arg 2; whnf
 go_wp2_with fail
 refine (aU HN1).mono ?_
 rintro e w ⟨rfl,rfl⟩
 go_wp2_with fail
 refine (aU HN2).mono ?_
 rintro e w ⟨rfl,rfl⟩
 go_wp2_with fail
 refine (aU HN3).mono ?_
 rintro e w ⟨rfl,rfl⟩
 clear HN1 HN2 HN3
 have hcv : ∀ m,(convert 58 9 (.slice (some ⟨bb,p12,none⟩) a.length (25600 - p12))).run Tryz.prog (w.drewN m)=.ok (.string (B a)) (w.drewN m):=fun m=>aU HCV (w.drewN m) rfl
 have hdI:((pe:Int) - (p12:Int)).toNat=a.length:=by omega
 have hb1I:(p12:Int)≤(pe:Int):=by omega
 have hb2I:(pe:Int)≤25600:=by omega
 have hb3I:(0:Int)≤(p12:Int):=by omega
 have hqlI:(q:Int)<(ls.length:Int):=by omega
 go_wp2_with fail
 go_quiet (fail)
 have hKd:=(aU HKP0) _ _ (aU HKW0) (It.Keeps.of_below (B:=w.drewN nq) ⟨rfl,rfl,rfl,Nat.le_refl _,fun _ _=>rfl⟩)
 have HKD:=aH hKd
 have HKP:=aH (aU HKP0)
 clear hKd
 have hI2:=(aU HIN).below (W':=w.drewN nq) ⟨rfl,rfl,rfl,Nat.le_refl _,fun _ _=>rfl⟩
 obtain ⟨k1,hk1⟩ : ∃ k1,k1=q+1:=⟨_,rfl⟩
 have kk1:(q:Int)+1=(k1:Int):=by omega
 have HK1:=aH hk1
 have hqb:q≤8:=by omega
 cases back with
 | true =>
  obtain ⟨q5,hq5⟩ : ∃ q5,q5=772+8*m8:=⟨_,rfl⟩
  have e10:(772:Int)+8*(m8:Int)=(q5:Int):=by omega
  have HST:=aH (set_any mb bb base q5 4 sl false cnt st _ (w.drewN nq) hI2.mac.mem (by omega) (by omega) (by omega))
  have HI2:=aH hI2
  have HWN:Hid (wrN (bq b0 true s0 q) q5 sl 4=bq b0 true s0 k1):=by
   have h0:=hbo rfl
   have h1:=aU HSL
   have h2:=aU HM8
   have h3:=aU HSQ
   rw [Hid,hk1,hq5,h2,h3,show sl=q by omega]
   rfl
  clear hI2 hq5 hk1 HIN HCV hcv hbo
  go_wp2_with fail
  refine (aU HST).mono ?_
  rintro e w3 ⟨rfl,hm3,hk3,hz3⟩
  rw [aU HWN] at hm3
  have HI3:=aH ((aU HI2).row hm3 hk3)
  have HK3:=aH (aU HKP _ _ (aU HKD) hk3)
  clear hm3 hk3 hz3 HST HI2 HWN
  go_wp2_with fail
  refine ⟨?_,by have:=aU HK1; simp [mu4,intOf]; omega⟩
  unfold WI4
  exact ⟨_,_,_,_,_,_,_,_,_,_,_,_,_,_,_,_,_,_,_,_,_,_,_,_,_,_,_,_,_,_,_,_,_,_,_,_,_,_,_,_,_,_,_,_,_,_,_,_,_,_,_,_,_,_,_,_,_,_,_,_,_,_,_,_,_,_,_,_,_,_,_,_,_,_,⟨k1,rfl,by have:=aU HK1; omega,aU HI3,aU HK3⟩,rfl⟩
 | false =>
  have HI2:Hid (In W1 (w.drewN nq) xb zb rb sb mb bb base (bq b0 false s0 k1) cnt st n sent sus mp wb (.slice (some ⟨gv,0,none⟩) ls.length vc) ls):=hI2
  clear hI2 hk1 HIN HCV hcv hbo
  go_wp2_with fail
  refine ⟨?_,by have:=aU HK1; simp [mu4,intOf]; omega⟩
  unfold WI4
  exact ⟨_,_,_,_,_,_,_,_,_,_,_,_,_,_,_,_,_,_,_,_,_,_,_,_,_,_,_,_,_,_,_,_,_,_,_,_,_,_,_,_,_,_,_,_,_,_,_,_,_,_,_,_,_,_,_,_,_,_,_,_,_,_,_,_,_,_,_,_,_,_,_,_,_,_,⟨k1,rfl,by have:=aU HK1; omega,aU HI2,aU HKD⟩,rfl⟩
theorem loop4 (W1:World) (xb zb rb sb mb bb base:Nat) (b0:Str) (cnt st n sent sus mp wb:Nat) (v:Value) (ls:List Str) (back:Bool) (s0 may o:Nat) (Kp:World→Prop) {c0 c1 c3 c4 c5 c6 c7 c9 c10 c11 c12 c13 c15 c17 c18 c19 c20 c21 c22 c23 c24 c25 c26 c32 c33 c34 c35 c36 c37 c38 c39 c40 c41 c42 c43 c44 c45 c46 c47 c48 c49 c50 c51 c52 c53 c54 c55 c56 c57 c58 c59 c60 c61 c62 c63 c64 c65 c66 c67 c68 c69 c70 c71 c72 c73 c74 c75 c76 c77 c78 c79 c80 c81 c82 c83 c84 c85 c86 c87 c88 c89 c90 c91 c92 c93 c94 c95 c96 c97 c98 c99 cDW cDX cDY cDZ cEA cEB cEC cED cEE cEF cEG cEH cEI cEJ cEK cEL cEM cEN cEO cEP cEQ cER cES cET cEU cEV cEW cEX cEY cEZ cFA cFB cFC cFD cFE cFF cFG cFH cFI cFJ cFK cFL cFM cFN cFO cFP cFQ cFR cFS cFT cFU cFV cFW cFX cFY cFZ cGA cGB cGC cGD cGE cGF cGG cGH cGI cGJ cGK cGL cGM cGN cGO cGP cGQ cGR cGS cGT cGU cGV cGW cGX cGY cGZ cHA cHB cHC cHD cHE cHF cHG cHH cHI cHJ cHK cHL cHM cHN cHO cHP cHQ cHR cHS cHT cHU cHV cHW cHX cHY cHZ cIA cIB cIC cID cIE cIF cIG cIH cII cIJ cIK cIL cIM cIN cIO cIP cIQ cIR cIS cIT cIU cLN cLO cLP cLQ cLR cLS cLT cLU cLV cLW cLX cLY cLZ u29 u30 u31 uIV uIW uIX uIY uIZ uJA uJB uJC uJD uJE uJF uJG uJH uJI uJJ uJK uJL uJM uJN uJO uJP uJQ uJR uJS uJT uJU uJV uJW uJX uJY uJZ uKA uKB uKC uKD uKE uKF uKG uKH uKI uKJ uKK uKL uKM uKN uKO uKP uKQ uKR uKS uKT uKU uKV uKW uKX uKY uKZ uLA uLB uLC uLD uLE uLF uLG uLH uLI uLJ uLK uLL uLM:Value} (Q0:Exit→Act→World→Prop) (w:World) (hl:b0.length=25600) (hd2 : ∀ j,j<8→rdN b0 (512+16*j) 8=13312+1536*j) (hse : ∀ q,q<may→rdN b0 (644+2*((s0+q)%8)) 2=o+q∧rdN b0 (512+16*(o+q)+8) 4=12+(ls[q]?.getD []).length∧LiesB b0 (13312+1536*(o+q)+12) (ls[q]?.getD [])) (hlen : ∀ q,q<may→(ls[q]?.getD []).length≤200) (hml:may≤ls.length) (hom:o+may≤8) (hs0:s0≤300) (hbo:back=true→o=0) (hKp : ∀ A B,Kp A→It.Keeps bb A B→Kp B) (hIN:In W1 w xb zb rb sb mb bb base b0 cnt st n sent sus mp wb v ls) (hKw:Kp w)
  (hexit : ∀ (u29 u30 u31 uIV uIW uIX uIY uIZ uJA uJB uJC uJD uJE uJF uJG uJH uJI uJJ uJK uJL uJM uJN uJO uJP uJQ uJR uJS uJT uJU uJV uJW uJX uJY uJZ uKA uKB uKC uKD uKE uKF uKG uKH uKI uKJ uKK uKL uKM uKN uKO uKP uKQ uKR uKS uKT uKU uKV uKW uKX uKY uKZ uLA uLB uLC uLD uLE uLF uLG uLH uLI uLJ uLK uLL uLM:Value) (w':World),In W1 w' xb zb rb sb mb bb base (bq b0 back s0 may) cnt st n sent sus mp wb v ls→Kp w'→Q0 (.exit 6) ⟨#[c0,c1,.bool back,c3,c4,c5,c6,c7,.pointer (some ⟨mb,0,none⟩),c9,c10,c11,c12,c13,.int .i64 s0,c15,v,c17,c18,c19,c20,c21,c22,c23,c24,c25,c26,.int .i64 may,.int .i64 may,u29,u30,u31,c32,c33,c34,c35,c36,c37,c38,c39,c40,c41,c42,c43,c44,c45,c46,c47,c48,c49,c50,c51,c52,c53,c54,c55,c56,c57,c58,c59,c60,c61,c62,c63,c64,c65,c66,c67,c68,c69,c70,c71,c72,c73,c74,c75,c76,c77,c78,c79,c80,c81,c82,c83,c84,c85,c86,c87,c88,c89,c90,c91,c92,c93,c94,c95,c96,c97,c98,c99,cDW,cDX,cDY,cDZ,cEA,cEB,cEC,cED,cEE,cEF,cEG,cEH,cEI,cEJ,cEK,cEL,cEM,cEN,cEO,cEP,cEQ,cER,cES,cET,cEU,cEV,cEW,cEX,cEY,cEZ,cFA,cFB,cFC,cFD,cFE,cFF,cFG,cFH,cFI,cFJ,cFK,cFL,cFM,cFN,cFO,cFP,cFQ,cFR,cFS,cFT,cFU,cFV,cFW,cFX,cFY,cFZ,cGA,cGB,cGC,cGD,cGE,cGF,cGG,cGH,cGI,cGJ,cGK,cGL,cGM,cGN,cGO,cGP,cGQ,cGR,cGS,cGT,cGU,cGV,cGW,cGX,cGY,cGZ,cHA,cHB,cHC,cHD,cHE,cHF,cHG,cHH,cHI,cHJ,cHK,cHL,cHM,cHN,cHO,cHP,cHQ,cHR,cHS,cHT,cHU,cHV,cHW,cHX,cHY,cHZ,cIA,cIB,cIC,cID,cIE,cIF,cIG,cIH,cII,cIJ,cIK,cIL,cIM,cIN,cIO,cIP,cIQ,cIR,cIS,cIT,cIU,uIV,uIW,uIX,uIY,uIZ,uJA,uJB,uJC,uJD,uJE,uJF,uJG,uJH,uJI,uJJ,uJK,uJL,uJM,uJN,uJO,uJP,uJQ,uJR,uJS,uJT,uJU,uJV,uJW,uJX,uJY,uJZ,uKA,uKB,uKC,uKD,uKE,uKF,uKG,uKH,uKI,uKJ,uKK,uKL,uKM,uKN,uKO,uKP,uKQ,uKR,uKS,uKT,uKU,uKV,uKW,uKX,uKY,uKZ,uLA,uLB,uLC,uLD,uLE,uLF,uLG,uLH,uLI,uLJ,uLK,uLL,uLM,cLN,cLO,cLP,cLQ,cLR,cLS,cLT,cLU,cLV,cLW,cLX,cLY,cLZ],[]⟩ w') :
  Code.wp Tryz.prog (Code.loop body4) Q0 ⟨#[c0,c1,.bool back,c3,c4,c5,c6,c7,.pointer (some ⟨mb,0,none⟩),c9,c10,c11,c12,c13,.int .i64 s0,c15,v,c17,c18,c19,c20,c21,c22,c23,c24,c25,c26,.int .i64 may,.int .i64 0,u29,u30,u31,c32,c33,c34,c35,c36,c37,c38,c39,c40,c41,c42,c43,c44,c45,c46,c47,c48,c49,c50,c51,c52,c53,c54,c55,c56,c57,c58,c59,c60,c61,c62,c63,c64,c65,c66,c67,c68,c69,c70,c71,c72,c73,c74,c75,c76,c77,c78,c79,c80,c81,c82,c83,c84,c85,c86,c87,c88,c89,c90,c91,c92,c93,c94,c95,c96,c97,c98,c99,cDW,cDX,cDY,cDZ,cEA,cEB,cEC,cED,cEE,cEF,cEG,cEH,cEI,cEJ,cEK,cEL,cEM,cEN,cEO,cEP,cEQ,cER,cES,cET,cEU,cEV,cEW,cEX,cEY,cEZ,cFA,cFB,cFC,cFD,cFE,cFF,cFG,cFH,cFI,cFJ,cFK,cFL,cFM,cFN,cFO,cFP,cFQ,cFR,cFS,cFT,cFU,cFV,cFW,cFX,cFY,cFZ,cGA,cGB,cGC,cGD,cGE,cGF,cGG,cGH,cGI,cGJ,cGK,cGL,cGM,cGN,cGO,cGP,cGQ,cGR,cGS,cGT,cGU,cGV,cGW,cGX,cGY,cGZ,cHA,cHB,cHC,cHD,cHE,cHF,cHG,cHH,cHI,cHJ,cHK,cHL,cHM,cHN,cHO,cHP,cHQ,cHR,cHS,cHT,cHU,cHV,cHW,cHX,cHY,cHZ,cIA,cIB,cIC,cID,cIE,cIF,cIG,cIH,cII,cIJ,cIK,cIL,cIM,cIN,cIO,cIP,cIQ,cIR,cIS,cIT,cIU,uIV,uIW,uIX,uIY,uIZ,uJA,uJB,uJC,uJD,uJE,uJF,uJG,uJH,uJI,uJJ,uJK,uJL,uJM,uJN,uJO,uJP,uJQ,uJR,uJS,uJT,uJU,uJV,uJW,uJX,uJY,uJZ,uKA,uKB,uKC,uKD,uKE,uKF,uKG,uKH,uKI,uKJ,uKK,uKL,uKM,uKN,uKO,uKP,uKQ,uKR,uKS,uKT,uKU,uKV,uKW,uKX,uKY,uKZ,uLA,uLB,uLC,uLD,uLE,uLF,uLG,uLH,uLI,uLJ,uLK,uLL,uLM,cLN,cLO,cLP,cLQ,cLR,cLS,cLT,cLU,cLV,cLW,cLX,cLY,cLZ],[]⟩ w:=by
 refine wp_loop (WI4 W1 xb zb rb sb mb bb base b0 cnt st n sent sus mp wb v ls back s0 may o Kp c0 c1 c3 c4 c5 c6 c7 c9 c10 c11 c12 c13 c15 c17 c18 c19 c20 c21 c22 c23 c24 c25 c26 c32 c33 c34 c35 c36 c37 c38 c39 c40 c41 c42 c43 c44 c45 c46 c47 c48 c49 c50 c51 c52 c53 c54 c55 c56 c57 c58 c59 c60 c61 c62 c63 c64 c65 c66 c67 c68 c69 c70 c71 c72 c73 c74 c75 c76 c77 c78 c79 c80 c81 c82 c83 c84 c85 c86 c87 c88 c89 c90 c91 c92 c93 c94 c95 c96 c97 c98 c99 cDW cDX cDY cDZ cEA cEB cEC cED cEE cEF cEG cEH cEI cEJ cEK cEL cEM cEN cEO cEP cEQ cER cES cET cEU cEV cEW cEX cEY cEZ cFA cFB cFC cFD cFE cFF cFG cFH cFI cFJ cFK cFL cFM cFN cFO cFP cFQ cFR cFS cFT cFU cFV cFW cFX cFY cFZ cGA cGB cGC cGD cGE cGF cGG cGH cGI cGJ cGK cGL cGM cGN cGO cGP cGQ cGR cGS cGT cGU cGV cGW cGX cGY cGZ cHA cHB cHC cHD cHE cHF cHG cHH cHI cHJ cHK cHL cHM cHN cHO cHP cHQ cHR cHS cHT cHU cHV cHW cHX cHY cHZ cIA cIB cIC cID cIE cIF cIG cIH cII cIJ cIK cIL cIM cIN cIO cIP cIQ cIR cIS cIT cIU cLN cLO cLP cLQ cLR cLS cLT cLU cLV cLW cLX cLY cLZ) (mu4 may) ?_ ?_
 ·unfold WI4
  refine ⟨_,_,_,_,_,_,_,_,_,_,_,_,_,_,_,_,_,_,_,_,_,_,_,_,_,_,_,_,_,_,_,_,_,_,_,_,_,_,_,_,_,_,_,_,_,_,_,_,_,_,_,_,_,_,_,_,_,_,_,_,_,_,_,_,_,_,_,_,_,_,_,_,_,_,⟨0,rfl,Nat.zero_le _,?_⟩,rfl⟩
  have e:bq b0 back s0 0=b0:=by unfold bq; split <;> rfl
  rw [e]; exact ⟨hIN,hKw⟩
 ·intro a w'' hI
  unfold WI4 at hI
  obtain ⟨u28,hI⟩:=hI
  obtain ⟨u29,hI⟩:=hI
  obtain ⟨u30,hI⟩:=hI
  obtain ⟨u31,hI⟩:=hI
  obtain ⟨uIV,hI⟩:=hI
  obtain ⟨uIW,hI⟩:=hI
  obtain ⟨uIX,hI⟩:=hI
  obtain ⟨uIY,hI⟩:=hI
  obtain ⟨uIZ,hI⟩:=hI
  obtain ⟨uJA,hI⟩:=hI
  obtain ⟨uJB,hI⟩:=hI
  obtain ⟨uJC,hI⟩:=hI
  obtain ⟨uJD,hI⟩:=hI
  obtain ⟨uJE,hI⟩:=hI
  obtain ⟨uJF,hI⟩:=hI
  obtain ⟨uJG,hI⟩:=hI
  obtain ⟨uJH,hI⟩:=hI
  obtain ⟨uJI,hI⟩:=hI
  obtain ⟨uJJ,hI⟩:=hI
  obtain ⟨uJK,hI⟩:=hI
  obtain ⟨uJL,hI⟩:=hI
  obtain ⟨uJM,hI⟩:=hI
  obtain ⟨uJN,hI⟩:=hI
  obtain ⟨uJO,hI⟩:=hI
  obtain ⟨uJP,hI⟩:=hI
  obtain ⟨uJQ,hI⟩:=hI
  obtain ⟨uJR,hI⟩:=hI
  obtain ⟨uJS,hI⟩:=hI
  obtain ⟨uJT,hI⟩:=hI
  obtain ⟨uJU,hI⟩:=hI
  obtain ⟨uJV,hI⟩:=hI
  obtain ⟨uJW,hI⟩:=hI
  obtain ⟨uJX,hI⟩:=hI
  obtain ⟨uJY,hI⟩:=hI
  obtain ⟨uJZ,hI⟩:=hI
  obtain ⟨uKA,hI⟩:=hI
  obtain ⟨uKB,hI⟩:=hI
  obtain ⟨uKC,hI⟩:=hI
  obtain ⟨uKD,hI⟩:=hI
  obtain ⟨uKE,hI⟩:=hI
  obtain ⟨uKF,hI⟩:=hI
  obtain ⟨uKG,hI⟩:=hI
  obtain ⟨uKH,hI⟩:=hI
  obtain ⟨uKI,hI⟩:=hI
  obtain ⟨uKJ,hI⟩:=hI
  obtain ⟨uKK,hI⟩:=hI
  obtain ⟨uKL,hI⟩:=hI
  obtain ⟨uKM,hI⟩:=hI
  obtain ⟨uKN,hI⟩:=hI
  obtain ⟨uKO,hI⟩:=hI
  obtain ⟨uKP,hI⟩:=hI
  obtain ⟨uKQ,hI⟩:=hI
  obtain ⟨uKR,hI⟩:=hI
  obtain ⟨uKS,hI⟩:=hI
  obtain ⟨uKT,hI⟩:=hI
  obtain ⟨uKU,hI⟩:=hI
  obtain ⟨uKV,hI⟩:=hI
  obtain ⟨uKW,hI⟩:=hI
  obtain ⟨uKX,hI⟩:=hI
  obtain ⟨uKY,hI⟩:=hI
  obtain ⟨uKZ,hI⟩:=hI
  obtain ⟨uLA,hI⟩:=hI
  obtain ⟨uLB,hI⟩:=hI
  obtain ⟨uLC,hI⟩:=hI
  obtain ⟨uLD,hI⟩:=hI
  obtain ⟨uLE,hI⟩:=hI
  obtain ⟨uLF,hI⟩:=hI
  obtain ⟨uLG,hI⟩:=hI
  obtain ⟨uLH,hI⟩:=hI
  obtain ⟨uLI,hI⟩:=hI
  obtain ⟨uLJ,hI⟩:=hI
  obtain ⟨uLK,hI⟩:=hI
  obtain ⟨uLL,hI⟩:=hI
  obtain ⟨uLM,hI⟩:=hI
  obtain ⟨⟨q,rfl,hq,hIN',hKw'⟩,rfl⟩:=hI
  by_cases hqm:q<may
  ·exact round4 W1 xb zb rb sb mb bb base b0 cnt st n sent sus mp wb v ls back s0 may o Kp Q0 q w'' hl hd2 hse hlen hml hom hs0 hbo hKp hqm hIN' hKw'
  ·have hqe:q=may:=by omega
   subst hqe
   have hk : ¬ (q:Int)<(q:Int):=by omega
   conv=>arg 2; whnf
   go_wp2_with fail
   all_goals first | exact hIN' | exact hexit _ _ _ _ _ _ _ _ _ _ _ _ _ _ _ _ _ _ _ _ _ _ _ _ _ _ _ _ _ _ _ _ _ _ _ _ _ _ _ _ _ _ _ _ _ _ _ _ _ _ _ _ _ _ _ _ _ _ _ _ _ _ _ _ _ _ _ _ _ _ _ _ _ _ hIN' hKw'
end Nu
end Go.Proofs.YtkkpahmoljiepaaGreatDoor
