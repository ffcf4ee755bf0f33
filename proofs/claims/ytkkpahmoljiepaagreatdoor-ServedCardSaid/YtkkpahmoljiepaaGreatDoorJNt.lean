/- Served's loop 2: the questions of a round come in. -/
import Derived.Test.YtkkpahmoljiepaaGreatDoorJ36
set_option linter.unusedSimpArgs false
set_option linter.unusedVariables false
set_option maxRecDepth 1000000
set_option maxHeartbeats 12800000
namespace Go.Proofs.YtkkpahmoljiepaaGreatDoor
open Go.RowKit
open Pu (Str aH aU)
namespace Nt
open Ka Kc Vb Vd Wa Wb Wc Wd We Wf Wg Wh Wi Wj Wk Wl Wm Ha Hb Hc Hh Hk Re Qa Qb Qc Qd Qe Qf Qg Qh Qi Qj Qk Ql Qm Qn Qo Qp Qr Qq Qs Qu Qv Qw Qx Na Nb Nc Nd Nee Nf Nh Ni Nj No Np Nq
open Ta (zz)
open Nl Nmm
set_option maxRecDepth 1000000
theorem pick_nat (c:Int) (m:Nat) (hm:0<m) : ∃ k:Nat,Pu.pick c m=k∧k<m:=by
 have h:0≤Pu.pick c m∧Pu.pick c m<m:=by
  unfold Pu.pick
  split
  ·exact ⟨Int.emod_nonneg _ (by omega),Int.emod_lt_of_pos _ (by omega)⟩
  ·exact ⟨Int.emod_nonneg _ (by omega),Int.emod_lt_of_pos _ (by omega)⟩
 exact ⟨(Pu.pick c m).toNat,by omega,by omega⟩
theorem host_d (n:Nat) (w:World) (hn:n<10):Calls Tryz.prog 25 #[.int .i64 n] w fun e w'=>e=.returned (.string (B [104,dg n]))∧Below w.heap.size w w':=by
 refine (host_any n w (by omega)).mono ?_
 rintro e w' ⟨rfl,hb⟩
 rw [digK n hn]
 exact ⟨rfl,hb⟩
def vo (al:List Int) (k:Nat):Nat:=(Pu.pick (al[k]?.getD 0) 4).toNat
theorem vo_lt (al:List Int) (k:Nat):vo al k<4∧Pu.pick (al[k]?.getD 0) 4=(vo al k:Int):=by
 obtain ⟨x,hx,hl⟩:=pick_nat (al[k]?.getD 0) 4 (by decide)
 have:Pu.pick (al[k]?.getD 0) 4=(x:Int):=hx
 unfold vo; rw [this]; exact ⟨by omega,by omega⟩
def Rel2 (w W1:World) (zb1 g1 cap1 cb xb zb rb sb mb bb g cap base:Nat) (bs:Str) (cnt st n sent sus mp wb:Nat) (al:List Int) (acap ab ao size i c:Nat) (fr an:Nat→Str) (x13 x16 x18:Value) (W:World):Prop:=∃ (j:Nat) (v:Value),v=x16∧x13=.int .i64 (n+j:Nat)∧x18=.int .i64 (i+j:Nat)∧j≤c∧In W1 W xb zb rb sb mb bb base (cdK bs n fr j) cnt st n sent sus mp wb v ((List.range j).map an)
def WI2 (w W1:World) (zb1 g1 cap1 cb xb zb rb sb mb bb g cap base:Nat) (bs:Str) (cnt st n sent sus mp wb:Nat) (al:List Int) (acap ab ao size i c:Nat) (fr an:Nat→Str) (c1 c2 c3 c4 c5 c6 c10 c11 c14 c24 c25 c26 c27 c28 c29 c30 c31 c32 c33 c34 c35 c36 c37 c38 c39 c40 c41 c42 c43 c44 c45 c46 c47 c48 c49 c50 c51 c52 c53 c54 c55 c56 c57 c58 c59 c60 c61 c62 c63 c64 c65 c66 c67 c68 c69 c70 c71 c72 c73 c74 c75 c76 c77 c78 c79 c80 c81 c82 c83 cHC cHD cHE cHF cHG cHH cHI cHJ cHK cHL cHM cHN cHO cHP cHQ cHR cHS cHT cHU cHV cHW cHX cHY cHZ cIA cIB cIC cID cIE cIF cIG cIH cII cIJ cIK cIL cIM cIN cIO cIP cIQ cIR cIS cIT cIU cIV cIW cIX cIY cIZ cJA cJB cJC cJD cJE cJF cJG cJH cJI cJJ cJK cJL cJM cJN cJO cJP cJQ cJR cJS cJT cJU cJV cJW cJX cJY cJZ cKA cKB cKC cKD cKE cKF cKG cKH cKI cKJ cKK cKL cKM cKN cKO cKP cKQ cKR cKS cKT cKU cKV cKW cKX cKY cKZ cLA cLB cLC cLD cLE cLF cLG cLH cLI cLJ cLK cLL cLM cLN cLO cLP cLQ cLR cLS cLT cLU cLV cLW cLX cLY cLZ:Value) (a:Act) (W:World):Prop:=∃ u13 u16 u18 u19 u20 u21 u22 u23 u84 u85 u86 u87 u88 u89 u90 u91 u92 u93 u94 u95 u96 u97 u98 u99 uDW uDX uDY uDZ uEA uEB uEC uED uEE uEF uEG uEH uEI uEJ uEK uEL uEM uEN uEO uEP uEQ uER uES uET uEU uEV uEW uEX uEY uEZ uFA uFB uFC uFD uFE uFF uFG uFH uFI uFJ uFK uFL uFM uFN uFO uFP uFQ uFR uFS uFT uFU uFV uFW uFX uFY uFZ uGA uGB uGC uGD uGE uGF uGG uGH uGI uGJ uGK uGL uGM uGN uGO uGP uGQ uGR uGS uGT uGU uGV uGW uGX uGY uGZ uHA uHB:Value,Rel2 w W1 zb1 g1 cap1 cb xb zb rb sb mb bb g cap base bs cnt st n sent sus mp wb al acap ab ao size i c fr an u13 u16 u18 W∧a=⟨#[.slice (some ⟨ab,ao,none⟩) al.length acap,c1,c2,c3,c4,c5,c6,.pointer (some ⟨zb1,0,none⟩),.pointer (some ⟨mb,0,none⟩),.pointer (some ⟨cb,0,none⟩),c10,c11,.int .i64 size,u13,c14,.int .i64 i,u16,.int .i64 n,u18,u19,u20,u21,u22,u23,c24,c25,c26,c27,c28,c29,c30,c31,c32,c33,c34,c35,c36,c37,c38,c39,c40,c41,c42,c43,c44,c45,c46,c47,c48,c49,c50,c51,c52,c53,c54,c55,c56,c57,c58,c59,c60,c61,c62,c63,c64,c65,c66,c67,c68,c69,c70,c71,c72,c73,c74,c75,c76,c77,c78,c79,c80,c81,c82,c83,u84,u85,u86,u87,u88,u89,u90,u91,u92,u93,u94,u95,u96,u97,u98,u99,uDW,uDX,uDY,uDZ,uEA,uEB,uEC,uED,uEE,uEF,uEG,uEH,uEI,uEJ,uEK,uEL,uEM,uEN,uEO,uEP,uEQ,uER,uES,uET,uEU,uEV,uEW,uEX,uEY,uEZ,uFA,uFB,uFC,uFD,uFE,uFF,uFG,uFH,uFI,uFJ,uFK,uFL,uFM,uFN,uFO,uFP,uFQ,uFR,uFS,uFT,uFU,uFV,uFW,uFX,uFY,uFZ,uGA,uGB,uGC,uGD,uGE,uGF,uGG,uGH,uGI,uGJ,uGK,uGL,uGM,uGN,uGO,uGP,uGQ,uGR,uGS,uGT,uGU,uGV,uGW,uGX,uGY,uGZ,uHA,uHB,cHC,cHD,cHE,cHF,cHG,cHH,cHI,cHJ,cHK,cHL,cHM,cHN,cHO,cHP,cHQ,cHR,cHS,cHT,cHU,cHV,cHW,cHX,cHY,cHZ,cIA,cIB,cIC,cID,cIE,cIF,cIG,cIH,cII,cIJ,cIK,cIL,cIM,cIN,cIO,cIP,cIQ,cIR,cIS,cIT,cIU,cIV,cIW,cIX,cIY,cIZ,cJA,cJB,cJC,cJD,cJE,cJF,cJG,cJH,cJI,cJJ,cJK,cJL,cJM,cJN,cJO,cJP,cJQ,cJR,cJS,cJT,cJU,cJV,cJW,cJX,cJY,cJZ,cKA,cKB,cKC,cKD,cKE,cKF,cKG,cKH,cKI,cKJ,cKK,cKL,cKM,cKN,cKO,cKP,cKQ,cKR,cKS,cKT,cKU,cKV,cKW,cKX,cKY,cKZ,cLA,cLB,cLC,cLD,cLE,cLF,cLG,cLH,cLI,cLJ,cLK,cLL,cLM,cLN,cLO,cLP,cLQ,cLR,cLS,cLT,cLU,cLV,cLW,cLX,cLY,cLZ],[]⟩
def mu2 (a:Act) (_:World):Nat:=300 - (intOf (a.tmps.getD 18 undef)).toNat
theorem round2 (w W1:World) (zb1 g1 cap1 cb xb zb rb sb mb bb g cap base:Nat) (bs:Str) (cnt st n sent sus mp wb:Nat) (al:List Int) (acap ab ao size i c:Nat) (fr an:Nat→Str) {c1 c2 c3 c4 c5 c6 c10 c11 c14 c24 c25 c26 c27 c28 c29 c30 c31 c32 c33 c34 c35 c36 c37 c38 c39 c40 c41 c42 c43 c44 c45 c46 c47 c48 c49 c50 c51 c52 c53 c54 c55 c56 c57 c58 c59 c60 c61 c62 c63 c64 c65 c66 c67 c68 c69 c70 c71 c72 c73 c74 c75 c76 c77 c78 c79 c80 c81 c82 c83 cHC cHD cHE cHF cHG cHH cHI cHJ cHK cHL cHM cHN cHO cHP cHQ cHR cHS cHT cHU cHV cHW cHX cHY cHZ cIA cIB cIC cID cIE cIF cIG cIH cII cIJ cIK cIL cIM cIN cIO cIP cIQ cIR cIS cIT cIU cIV cIW cIX cIY cIZ cJA cJB cJC cJD cJE cJF cJG cJH cJI cJJ cJK cJL cJM cJN cJO cJP cJQ cJR cJS cJT cJU cJV cJW cJX cJY cJZ cKA cKB cKC cKD cKE cKF cKG cKH cKI cKJ cKK cKL cKM cKN cKO cKP cKQ cKR cKS cKT cKU cKV cKW cKX cKY cKZ cLA cLB cLC cLD cLE cLF cLG cLH cLI cLJ cLK cLL cLM cLN cLO cLP cLQ cLR cLS cLT cLU cLV cLW cLX cLY cLZ u19 u20 u21 u22 u23 u84 u85 u86 u87 u88 u89 u90 u91 u92 u93 u94 u95 u96 u97 u98 u99 uDW uDX uDY uDZ uEA uEB uEC uED uEE uEF uEG uEH uEI uEJ uEK uEL uEM uEN uEO uEP uEQ uER uES uET uEU uEV uEW uEX uEY uEZ uFA uFB uFC uFD uFE uFF uFG uFH uFI uFJ uFK uFL uFM uFN uFO uFP uFQ uFR uFS uFT uFU uFV uFW uFX uFY uFZ uGA uGB uGC uGD uGE uGF uGG uGH uGI uGJ uGK uGL uGM uGN uGO uGP uGQ uGR uGS uGT uGU uGV uGW uGX uGY uGZ uHA uHB:Value} (Q0:Exit→Act→World→Prop) (j:Nat) (v:Value) (wr2:World) (hGo:Go1 w W1 zb1 g1 cap1 cb mb bb xb zb rb sb g cap base) (hBs:Bs bs n sent) (hal : ∀ a∈al,-9223372036854775808≤a∧a≤9223372036854775807) (hab:ab<w.heap.size) (hce : ∀ k (h:k<al.length),w.cell? ⟨ab,ao+k,none⟩=some (.int .i64 al[k])) (hln:al.length≤9223372036854775807) (hcd:c=min size (al.length - i)) (hi2:i<200) (hs8:size≤8) (hn:n≤i) (hfr:fr=fun q=>fr1 (i+q) (vo al (i+q))) (han:an=fun q=>an1 (i+q) (vo al (i+q))) (hjc:j<c) (hIN:In W1 wr2 xb zb rb sb mb bb base (cdK bs n fr j) cnt st n sent sus mp wb v ((List.range j).map an)) :
  Code.wp Tryz.prog body2 (Exit.then (fun a' w''=>WI2 w W1 zb1 g1 cap1 cb xb zb rb sb mb bb g cap base bs cnt st n sent sus mp wb al acap ab ao size i c fr an c1 c2 c3 c4 c5 c6 c10 c11 c14 c24 c25 c26 c27 c28 c29 c30 c31 c32 c33 c34 c35 c36 c37 c38 c39 c40 c41 c42 c43 c44 c45 c46 c47 c48 c49 c50 c51 c52 c53 c54 c55 c56 c57 c58 c59 c60 c61 c62 c63 c64 c65 c66 c67 c68 c69 c70 c71 c72 c73 c74 c75 c76 c77 c78 c79 c80 c81 c82 c83 cHC cHD cHE cHF cHG cHH cHI cHJ cHK cHL cHM cHN cHO cHP cHQ cHR cHS cHT cHU cHV cHW cHX cHY cHZ cIA cIB cIC cID cIE cIF cIG cIH cII cIJ cIK cIL cIM cIN cIO cIP cIQ cIR cIS cIT cIU cIV cIW cIX cIY cIZ cJA cJB cJC cJD cJE cJF cJG cJH cJI cJJ cJK cJL cJM cJN cJO cJP cJQ cJR cJS cJT cJU cJV cJW cJX cJY cJZ cKA cKB cKC cKD cKE cKF cKG cKH cKI cKJ cKK cKL cKM cKN cKO cKP cKQ cKR cKS cKT cKU cKV cKW cKX cKY cKZ cLA cLB cLC cLD cLE cLF cLG cLH cLI cLJ cLK cLL cLM cLN cLO cLP cLQ cLR cLS cLT cLU cLV cLW cLX cLY cLZ a' w''∧mu2 a' w''<mu2 ⟨#[.slice (some ⟨ab,ao,none⟩) al.length acap,c1,c2,c3,c4,c5,c6,.pointer (some ⟨zb1,0,none⟩),.pointer (some ⟨mb,0,none⟩),.pointer (some ⟨cb,0,none⟩),c10,c11,.int .i64 size,.int .i64 (n+j:Nat),c14,.int .i64 i,v,.int .i64 n,.int .i64 (i+j:Nat),u19,u20,u21,u22,u23,c24,c25,c26,c27,c28,c29,c30,c31,c32,c33,c34,c35,c36,c37,c38,c39,c40,c41,c42,c43,c44,c45,c46,c47,c48,c49,c50,c51,c52,c53,c54,c55,c56,c57,c58,c59,c60,c61,c62,c63,c64,c65,c66,c67,c68,c69,c70,c71,c72,c73,c74,c75,c76,c77,c78,c79,c80,c81,c82,c83,u84,u85,u86,u87,u88,u89,u90,u91,u92,u93,u94,u95,u96,u97,u98,u99,uDW,uDX,uDY,uDZ,uEA,uEB,uEC,uED,uEE,uEF,uEG,uEH,uEI,uEJ,uEK,uEL,uEM,uEN,uEO,uEP,uEQ,uER,uES,uET,uEU,uEV,uEW,uEX,uEY,uEZ,uFA,uFB,uFC,uFD,uFE,uFF,uFG,uFH,uFI,uFJ,uFK,uFL,uFM,uFN,uFO,uFP,uFQ,uFR,uFS,uFT,uFU,uFV,uFW,uFX,uFY,uFZ,uGA,uGB,uGC,uGD,uGE,uGF,uGG,uGH,uGI,uGJ,uGK,uGL,uGM,uGN,uGO,uGP,uGQ,uGR,uGS,uGT,uGU,uGV,uGW,uGX,uGY,uGZ,uHA,uHB,cHC,cHD,cHE,cHF,cHG,cHH,cHI,cHJ,cHK,cHL,cHM,cHN,cHO,cHP,cHQ,cHR,cHS,cHT,cHU,cHV,cHW,cHX,cHY,cHZ,cIA,cIB,cIC,cID,cIE,cIF,cIG,cIH,cII,cIJ,cIK,cIL,cIM,cIN,cIO,cIP,cIQ,cIR,cIS,cIT,cIU,cIV,cIW,cIX,cIY,cIZ,cJA,cJB,cJC,cJD,cJE,cJF,cJG,cJH,cJI,cJJ,cJK,cJL,cJM,cJN,cJO,cJP,cJQ,cJR,cJS,cJT,cJU,cJV,cJW,cJX,cJY,cJZ,cKA,cKB,cKC,cKD,cKE,cKF,cKG,cKH,cKI,cKJ,cKK,cKL,cKM,cKN,cKO,cKP,cKQ,cKR,cKS,cKT,cKU,cKV,cKW,cKX,cKY,cKZ,cLA,cLB,cLC,cLD,cLE,cLF,cLG,cLH,cLI,cLJ,cLK,cLL,cLM,cLN,cLO,cLP,cLQ,cLR,cLS,cLT,cLU,cLV,cLW,cLX,cLY,cLZ],[]⟩ wr2) Q0) ⟨#[.slice (some ⟨ab,ao,none⟩) al.length acap,c1,c2,c3,c4,c5,c6,.pointer (some ⟨zb1,0,none⟩),.pointer (some ⟨mb,0,none⟩),.pointer (some ⟨cb,0,none⟩),c10,c11,.int .i64 size,.int .i64 (n+j:Nat),c14,.int .i64 i,v,.int .i64 n,.int .i64 (i+j:Nat),u19,u20,u21,u22,u23,c24,c25,c26,c27,c28,c29,c30,c31,c32,c33,c34,c35,c36,c37,c38,c39,c40,c41,c42,c43,c44,c45,c46,c47,c48,c49,c50,c51,c52,c53,c54,c55,c56,c57,c58,c59,c60,c61,c62,c63,c64,c65,c66,c67,c68,c69,c70,c71,c72,c73,c74,c75,c76,c77,c78,c79,c80,c81,c82,c83,u84,u85,u86,u87,u88,u89,u90,u91,u92,u93,u94,u95,u96,u97,u98,u99,uDW,uDX,uDY,uDZ,uEA,uEB,uEC,uED,uEE,uEF,uEG,uEH,uEI,uEJ,uEK,uEL,uEM,uEN,uEO,uEP,uEQ,uER,uES,uET,uEU,uEV,uEW,uEX,uEY,uEZ,uFA,uFB,uFC,uFD,uFE,uFF,uFG,uFH,uFI,uFJ,uFK,uFL,uFM,uFN,uFO,uFP,uFQ,uFR,uFS,uFT,uFU,uFV,uFW,uFX,uFY,uFZ,uGA,uGB,uGC,uGD,uGE,uGF,uGG,uGH,uGI,uGJ,uGK,uGL,uGM,uGN,uGO,uGP,uGQ,uGR,uGS,uGT,uGU,uGV,uGW,uGX,uGY,uGZ,uHA,uHB,cHC,cHD,cHE,cHF,cHG,cHH,cHI,cHJ,cHK,cHL,cHM,cHN,cHO,cHP,cHQ,cHR,cHS,cHT,cHU,cHV,cHW,cHX,cHY,cHZ,cIA,cIB,cIC,cID,cIE,cIF,cIG,cIH,cII,cIJ,cIK,cIL,cIM,cIN,cIO,cIP,cIQ,cIR,cIS,cIT,cIU,cIV,cIW,cIX,cIY,cIZ,cJA,cJB,cJC,cJD,cJE,cJF,cJG,cJH,cJI,cJJ,cJK,cJL,cJM,cJN,cJO,cJP,cJQ,cJR,cJS,cJT,cJU,cJV,cJW,cJX,cJY,cJZ,cKA,cKB,cKC,cKD,cKE,cKF,cKG,cKH,cKI,cKJ,cKK,cKL,cKM,cKN,cKO,cKP,cKQ,cKR,cKS,cKT,cKU,cKV,cKW,cKX,cKY,cKZ,cLA,cLB,cLC,cLD,cLE,cLF,cLG,cLH,cLI,cLJ,cLK,cLL,cLM,cLN,cLO,cLP,cLQ,cLR,cLS,cLT,cLU,cLV,cLW,cLX,cLY,cLZ],[]⟩ wr2:=by
 obtain ⟨k,hk⟩ : ∃ k,k=i+j:=⟨_,rfl⟩
 obtain ⟨nj,hnj⟩ : ∃ nj,nj=n+j:=⟨_,rfl⟩
 have hkl:k<al.length:=by omega
 obtain ⟨x,hx⟩ : ∃ x:Int,al[k]=x:=⟨_,rfl⟩
 obtain ⟨v4,hv4⟩ : ∃ v4,v4=vo al k:=⟨_,rfl⟩
 have hxr:=hal x (hx ▸ List.getElem_mem hkl)
 have hvl:=vo_lt al k
 rw [← hv4,List.getElem?_eq_getElem hkl,Option.getD_some,hx] at hvl
 have HPK:Hid (∀ W,Calls Tryz.prog 20 #[.int .i64 x,.int .i64 4] W fun e w'=>e=.returned (.int .i64 v4)∧w'=W):=fun W=>by
  have:=pick_any x 4 W hxr.1 hxr.2 (by decide) (by decide)
  rw [hvl.2] at this; exact this
 have hv4l:=hvl.1
 have hcell:wr2.cell? ⟨ab,ao+k,none⟩=some (.int .i64 x):=by
  obtain ⟨l1,l2,l3,l4,l5,l6⟩:=hGo.low
  have e1:=hIN.kept.low (i:=ab) hGo.hb (by omega) ⟨by omega,by omega,by omega,by omega,by omega⟩
  exact (World.cell?_of_block (e1.trans (hGo.below.block ab hab))).trans (by rw [← hx]; exact hce k hkl)
 have hk1:(k:Int)<(i:Int)+(size:Int):=by omega
 have hk2:(k:Int)<(al.length:Int):=by omega
 obtain ⟨n1,hn1⟩ : ∃ n1,n1=1+v4:=⟨_,rfl⟩
 have kn1:(1:Int)+(v4:Int)=(n1:Int):=by omega
 have n15:n1<5:=by omega
 obtain ⟨pk,hpk⟩ : ∃ pk,pk=1000+k:=⟨_,rfl⟩
 have kpk:(1000:Int)+(k:Int)=(pk:Int):=by omega
 have hkb:k<300:=by omega
 have hpkb:pk<1300:=by omega
 have HFJ:Hid (frI (asks k (quest [104,dg n1] [122,122] 1)) pk true=fr j):=by rw [Hid,hfr,hn1,hv4,hpk,hk]; rfl
 have HAJ:Hid (an j=an1 k v4):=by rw [Hid,han,hv4,hk]
 have HFK:Hid (fr j=fr1 k v4):=by rw [Hid,hfr,hv4,hk]
 have HI0:=aH hIN
 have HKJ:=aH hk
 have HNJ:=aH hnj
 have hnjb:nj≤300:=by omega
 have HGO:=aH hGo
 have HBS:=aH hBs
 have hfl : ∀ q,(fr q).length=65:=fun q=>by rw [hfr]; exact fr1_len _ _
 have HFL:=aH hfl
 obtain ⟨n8,hn8⟩ : ∃ n8,n8=n+8:=⟨_,rfl⟩
 have kn8:(n:Int)+8=(n8:Int):=by omega
 have HN8:=aH hn8
 have hc8:c≤8:=by omega
 rw [← hk,← hnj]
 clear hIN hx hxr hvl hv4 hn1 hpk hk hnj hGo hBs hal hce hfr han hfl hn8 hcd
 conv=>arg 2; whnf
 go_wp2_with fail
 refine (aU HPK _).mono ?_
 rintro e wr2 ⟨rfl,rfl⟩
 have HH:=aH (host_d n1 wr2 (by omega))
 clear HPK
 go_wp2_with fail
 refine (aU HH).mono ?_
 rintro e w6 ⟨rfl,hb6⟩
 have HQ:Hid (Calls Tryz.prog 29 #[.slice (some ⟨w6.heap.size,0,none⟩) 2 2,.int .i64 1] (w6.alloc (.cells #[.string (B [104,dg n1]),.string ⟨#[122,122]⟩] 9)) fun e w'=>e=.returned (.string (B (quest [104,dg n1] [122,122] 1)))∧Below (w6.alloc (.cells #[.string (B [104,dg n1]),.string ⟨#[122,122]⟩] 9)).heap.size (w6.alloc (.cells #[.string (B [104,dg n1]),.string ⟨#[122,122]⟩] 9)) w') :=
  question_two w6.heap.size 1 [104,dg n1] [122,122] (w6.alloc (.cells #[.string (B [104,dg n1]),.string ⟨#[122,122]⟩] 9)) (by unfold World.cell?; rw [World.alloc_heap_new]; rfl) (by unfold World.cell?; rw [World.alloc_heap_new]; rfl) (by simp) (by simp) (by omega)
 have HI6:=aH (((aU HI0).below hb6).below ((Below.refl _ _).alloc (Nat.le_refl _) (.cells #[.string (B [104,dg n1]),.string ⟨#[122,122]⟩] 9)))
 clear hb6 HH HI0 hcell
 go_wp2_with fail
 refine (aU HQ).mono ?_
 rintro e w7 ⟨rfl,hb7⟩
 have HI7:=aH ((aU HI6).below hb7)
 have HQY:=aH (query_plain k (quest [104,dg n1] [122,122] 1) w7 (by omega) (by simp [quest]))
 clear hb7 HQ HI6
 go_wp2_with fail
 refine (aU HQY).mono ?_
 rintro e w8 ⟨rfl,hb8⟩
 have HI8:=aH ((aU HI7).below hb8)
 have hml:(asks k (quest [104,dg n1] [122,122] 1)).length=23:=rfl
 have HFR:=aH (frame_any (asks k (quest [104,dg n1] [122,122] 1)) pk true w8 (by omega) (by omega))
 rw [aU HFJ] at HFR
 generalize asks k (quest [104,dg n1] [122,122] 1)=mq at *
 clear hb8 HQY HI7 hml HFJ
 go_wp2_with fail
 refine (aU HFR).mono ?_
 rintro e w9 ⟨rfl,hb9⟩
 have hI9:=(aU HI8).below hb9
 obtain ⟨sl,hsl⟩ : ∃ sl,sl=nj%8:=⟨_,rfl⟩
 have hsl8:sl<8:=by omega
 obtain ⟨q1,hq1⟩ : ∃ q1,q1=132+2*sl:=⟨_,rfl⟩
 obtain ⟨bj,hbj⟩ : ∃ bj,bj=cdK bs n fr j:=⟨_,rfl⟩
 rw [← hbj] at hI9
 obtain ⟨d0,d1,d2,d3,_,_⟩:=(aU HBS).cd fr j (fun q _=>by rw [aU HFL]; omega)
 rw [← hbj] at d0 d1 d2 d3
 have e1:(nj:Int).tmod 8=(sl:Int):=by rw [Int.tmod_eq_emod_of_nonneg (by omega)]; omega
 have e1':(nj:Int)%8=(sl:Int):=by omega
 have e2:(132:Int)+2*(sl:Int)=(q1:Int):=by omega
 have k7 : ¬ (7:Int)<(sl:Int):=by omega
 have HSE:=aH (mem_seen hI9.mac.mem)
 have HN1:=aH (number_any mb bb q1 2 bj w9 (aU HSE) (by omega) (by omega) (by rw [hq1,d2 sl hsl8]; omega))
 rw [show rdN bj q1 2=sl by rw [hq1,d2 sl hsl8]] at HN1
 have HN2:Hid (Calls Tryz.prog 53 #[.pointer (some ⟨mb,0,none⟩),.int .i64 130,.int .i64 2] w9 fun e w'=>e=.returned (.int .i64 n8)∧w'=w9):=by
  have:=number_any mb bb 130 2 bj w9 (aU HSE) (by omega) (by omega) (by rw [d1]; omega)
  rw [d1,← aU HN8] at this
  exact this
 obtain ⟨q3,hq3⟩ : ∃ q3,q3=16*sl:=⟨_,rfl⟩
 obtain ⟨p0,hp0⟩ : ∃ p0,p0=1024+1536*sl:=⟨_,rfl⟩
 have e3:(16:Int)*(sl:Int)=(q3:Int):=by omega
 have e4:(1024:Int)+1536*(sl:Int)=(p0:Int):=by omega
 have HN3:=aH (number_any mb bb q3 8 bj w9 (aU HSE) (by omega) (by omega) (by rw [hq3,d3 sl hsl8]; omega))
 rw [show rdN bj q3 8=p0 by rw [hq3,d3 sl hsl8,hp0]] at HN3
 have HI9:=aH hI9
 have HSL:=aH hsl
 have HP0:=aH hp0
 have HBJ:=aH hbj
 have hflj:(fr j).length=65:=aU HFL j
 have szf:(B (fr j)).size=65:=by rw [size_B,hflj]
 obtain ⟨f,hf⟩ : ∃ f,f=fr j:=⟨_,rfl⟩
 rw [← hf] at hflj szf ⊢
 have HF:=aH hf
 clear hb9 HFR HI8 hI9 hq1 hq3 hp0 hsl hbj d0 d1 d2 d3 hf
 go_wp2_with fail
 refine (aU HN1).mono ?_
 rintro e w9 ⟨rfl,rfl⟩
 clear HN1
 go_wp2_with fail
 refine (aU HN2).mono ?_
 rintro e w9 ⟨rfl,rfl⟩
 clear HN2
 go_wp2_with fail
 refine (aU HN3).mono ?_
 rintro e w9 ⟨rfl,rfl⟩
 clear HN3 HSE
 go_wp2_with fail
 refine loop3 W1 xb zb rb sb mb bb base bj cnt st n sent sus mp wb v ((List.range j).map an) f p0 _ w9 (by rw [hflj]; have:=aU HP0; omega) (aU HI9) ?_
 rintro u22 uFF uFG uFH uFI uFJ uFK uFL uFM uFN uFO uFP uFQ uFR uFS uFT uFU uFV uFW w10 hI10
 obtain ⟨q4,hq4⟩ : ∃ q4,q4=260+8*sl:=⟨_,rfl⟩
 obtain ⟨q5,hq5⟩ : ∃ q5,q5=264+8*sl:=⟨_,rfl⟩
 obtain ⟨nk,hnk⟩ : ∃ nk,nk=nj+1:=⟨_,rfl⟩
 have e5:(260:Int)+8*(sl:Int)=(q4:Int):=by omega
 have e6:(264:Int)+8*(sl:Int)=(q5:Int):=by omega
 have e7:(nj:Int)+1=(nk:Int):=by omega
 have HS1:=aH (set_any mb bb base q4 4 sl false cnt st _ w10 hI10.mac.mem (by omega) (by omega) (by omega))
 have HI10:=aH hI10
 have HQ4:=aH hq4
 have HQ5:=aH hq5
 have HNK:=aH hnk
 have hq5b:q5≤330:=by omega
 have hnkb:nk≤400:=by omega
 clear hI10 hq4 hq5 hnk HI9
 go_wp2_with fail
 refine (aU HS1).mono ?_
 rintro e w11 ⟨rfl,hm11,hk11,hz11⟩
 have hI11:=(aU HI10).row hm11 hk11
 have HS2:Hid (Calls Tryz.prog 52 #[.pointer (some ⟨mb,0,none⟩),.int .i64 q5,.int .i64 4,.int .i64 77] w11 _):=set_any mb bb base q5 4 77 false cnt st _ w11 hI11.mac.mem (by omega) (by omega) (by omega)
 have HI11:=aH hI11
 clear hm11 hk11 hz11 hI11 HS1 HI10
 go_wp2_with fail
 refine (aU HS2).mono ?_
 rintro e w12 ⟨rfl,hm12,hk12,hz12⟩
 have hI12:=(aU HI11).row hm12 hk12
 have HS3:Hid (Calls Tryz.prog 52 #[.pointer (some ⟨mb,0,none⟩),.int .i64 258,.int .i64 2,.int .i64 nk] w12 _):=set_any mb bb base 258 2 nk false cnt st _ w12 hI12.mac.mem (by omega) (by omega) (by omega)
 have HI12:=aH hI12
 clear hm12 hk12 hz12 hI12 HS2 HI11
 go_wp2_with fail
 refine (aU HS3).mono ?_
 rintro e w13 ⟨rfl,hm13,hk13,hz13⟩
 have hI13:=(aU HI12).row hm13 hk13
 rw [show wrN (wrN (wrN (wrS bj (p0+12) f f.length) q4 sl 4) q5 77 4) 258 nk 2=cdK bs n fr (j+1) by
  rw [cdK,cdB,← aU HBJ,← aU HNJ,← aU HSL,← aU HF,← aU HP0,← aU HQ4,← aU HQ5,← aU HNK,hflj]] at hI13
 have hST:=(aU HGO).st.gf (aU HGO).ap (aU HGO).hb hI13.kept
 have c0:w13.cell? ⟨cb,0,none⟩=some (.string (B mine)):=aB.cell hST.c 0 (by simp)
 have c1:w13.cell? ⟨cb,1,none⟩=some (.string (B ipMe)):=aB.cell hST.c 1 (by simp)
 have HHA:=aH (handle_ask zb1 g1 cap1 k v4 hv4l (by omega) w13 hST.z1 hST.gl)
 rw [← aU HFK,← aU HAJ,← aU HF] at HHA
 have hne:((B (an j)).toList == [])=false:=by
  rw [beq_eq_false_iff_ne,ByteArray.toList_eq,aU HAJ]; exact (an1_len k v4).2
 have HI13:=aH hI13
 clear hm13 hk13 hz13 hI13 HS3 HI12 hST HBJ HSL HP0 HQ4 HQ5 HF HFK
 go_wp2_with fail
 refine (aU HHA).mono ?_
 rintro e w14 ⟨rfl,hb14⟩
 have hI14:=(aU HI13).below hb14
 have HI14:=aH hI14
 obtain ⟨i0,hi0,hz0,hz1,hz2⟩:=info_parts infoS
 have hOW:w14.ownsRow wb 9 1 v j (((List.range j).map an).map fun l=>.string (B l)):=by
  have:=hI14.own
  unfold OwnT at this
  rwa [List.length_map,List.length_range] at this
 have HOW:=aH hOW
 have hwb:=hI14.hw
 clear hb14 hI14 HHA HI13 hOW c0 c1
 go_wp2_with (at_builtin; go_loud (refine wpList_append_own _ rfl (.tmp 180) (.tmp 182) 49 rfl wb 9 i0 (.string ⟨#[]⟩) 1 16 underS hi0 hz0 hz1 hz2 rfl (by decide) _ j _ rfl ((aU HOW).alloc _) ⟨w14.heap.size,0,none⟩ 1 1 [.string (B (an j))] rfl rfl ?c1 ?c2 ?c3 ?c4 ?c5 ?_))
 case c1 =>
  intro j' u hj'
  match j',hj' with
  | 0,hj'=>simp at hj'; subst hj'; simp [Addr.add]
  | n+1,hj'=>simp at hj'
 case c2=>intro u hu; simp at hu; subst hu; rfl
 case c3=>unfold maxLen; omega
 case c4=>omega
 case c5=>simp; omega
 intro v' w15 hown' hgrow hnil
 have hI15:=(aU HI14).more (a:=an j) (by rw [List.length_map,List.length_range,List.map_map]; exact hown') hgrow
 rw [show (List.range j).map an++[an j]=(List.range (j+1)).map an by rw [List.range_succ,List.map_append]; rfl] at hI15
 have HI15:=aH hI15
 obtain ⟨k1,hk1'⟩ : ∃ k1,k1=k+1:=⟨_,rfl⟩
 have kk1:(k:Int)+1=(k1:Int):=by omega
 have HK1:=aH hk1'
 clear hown' hgrow hnil hI15 HI14 HOW hk1'
 go_wp2_with fail
 refine ⟨?_,by have:=aU HK1; simp [mu2,intOf]; omega⟩
 unfold WI2
 exact ⟨_,_,_,_,_,_,_,_,_,_,_,_,_,_,_,_,_,_,_,_,_,_,_,_,_,_,_,_,_,_,_,_,_,_,_,_,_,_,_,_,_,_,_,_,_,_,_,_,_,_,_,_,_,_,_,_,_,_,_,_,_,_,_,_,_,_,_,_,_,_,_,_,_,_,_,_,_,_,_,_,_,_,_,_,_,_,_,_,_,_,_,_,_,_,_,_,_,_,_,_,_,_,_,_,_,_,_,_,⟨j+1,v',rfl,by rw [aU HNK,aU HNJ]; rfl,by rw [aU HK1,aU HKJ]; rfl,by omega,aU HI15⟩,rfl⟩
theorem last2 (w W1:World) (zb1 g1 cap1 cb xb zb rb sb mb bb g cap base:Nat) (bs:Str) (cnt st n sent sus mp wb:Nat) (al:List Int) (acap ab ao size i c:Nat) (fr an:Nat→Str) {c1 c2 c3 c4 c5 c6 c10 c11 c14 c24 c25 c26 c27 c28 c29 c30 c31 c32 c33 c34 c35 c36 c37 c38 c39 c40 c41 c42 c43 c44 c45 c46 c47 c48 c49 c50 c51 c52 c53 c54 c55 c56 c57 c58 c59 c60 c61 c62 c63 c64 c65 c66 c67 c68 c69 c70 c71 c72 c73 c74 c75 c76 c77 c78 c79 c80 c81 c82 c83 cHC cHD cHE cHF cHG cHH cHI cHJ cHK cHL cHM cHN cHO cHP cHQ cHR cHS cHT cHU cHV cHW cHX cHY cHZ cIA cIB cIC cID cIE cIF cIG cIH cII cIJ cIK cIL cIM cIN cIO cIP cIQ cIR cIS cIT cIU cIV cIW cIX cIY cIZ cJA cJB cJC cJD cJE cJF cJG cJH cJI cJJ cJK cJL cJM cJN cJO cJP cJQ cJR cJS cJT cJU cJV cJW cJX cJY cJZ cKA cKB cKC cKD cKE cKF cKG cKH cKI cKJ cKK cKL cKM cKN cKO cKP cKQ cKR cKS cKT cKU cKV cKW cKX cKY cKZ cLA cLB cLC cLD cLE cLF cLG cLH cLI cLJ cLK cLL cLM cLN cLO cLP cLQ cLR cLS cLT cLU cLV cLW cLX cLY cLZ u19 u20 u21 u22 u23 u84 u85 u86 u87 u88 u89 u90 u91 u92 u93 u94 u95 u96 u97 u98 u99 uDW uDX uDY uDZ uEA uEB uEC uED uEE uEF uEG uEH uEI uEJ uEK uEL uEM uEN uEO uEP uEQ uER uES uET uEU uEV uEW uEX uEY uEZ uFA uFB uFC uFD uFE uFF uFG uFH uFI uFJ uFK uFL uFM uFN uFO uFP uFQ uFR uFS uFT uFU uFV uFW uFX uFY uFZ uGA uGB uGC uGD uGE uGF uGG uGH uGI uGJ uGK uGL uGM uGN uGO uGP uGQ uGR uGS uGT uGU uGV uGW uGX uGY uGZ uHA uHB:Value} (Q0:Exit→Act→World→Prop) (v:Value) (wr2:World) (hcd:c=min size (al.length - i)) (hil:i<al.length) (hi2:i<200) (hs8:size≤8) (hln:al.length≤9223372036854775807) (hIN:In W1 wr2 xb zb rb sb mb bb base (cdK bs n fr c) cnt st n sent sus mp wb v ((List.range c).map an))
  (hexit : ∀ (u19 u20 u21 u22 u23 u84 u85 u86 u87 u88 u89 u90 u91 u92 u93 u94 u95 u96 u97 u98 u99 uDW uDX uDY uDZ uEA uEB uEC uED uEE uEF uEG uEH uEI uEJ uEK uEL uEM uEN uEO uEP uEQ uER uES uET uEU uEV uEW uEX uEY uEZ uFA uFB uFC uFD uFE uFF uFG uFH uFI uFJ uFK uFL uFM uFN uFO uFP uFQ uFR uFS uFT uFU uFV uFW uFX uFY uFZ uGA uGB uGC uGD uGE uGF uGG uGH uGI uGJ uGK uGL uGM uGN uGO uGP uGQ uGR uGS uGT uGU uGV uGW uGX uGY uGZ uHA uHB v:Value) (w':World),In W1 w' xb zb rb sb mb bb base (cdK bs n fr c) cnt st n sent sus mp wb v ((List.range c).map an)→Q0 (.exit 2) ⟨#[.slice (some ⟨ab,ao,none⟩) al.length acap,c1,c2,c3,c4,c5,c6,.pointer (some ⟨zb1,0,none⟩),.pointer (some ⟨mb,0,none⟩),.pointer (some ⟨cb,0,none⟩),c10,c11,.int .i64 size,.int .i64 (n+c:Nat),c14,.int .i64 i,v,.int .i64 n,.int .i64 (i+c:Nat),u19,u20,u21,u22,u23,c24,c25,c26,c27,c28,c29,c30,c31,c32,c33,c34,c35,c36,c37,c38,c39,c40,c41,c42,c43,c44,c45,c46,c47,c48,c49,c50,c51,c52,c53,c54,c55,c56,c57,c58,c59,c60,c61,c62,c63,c64,c65,c66,c67,c68,c69,c70,c71,c72,c73,c74,c75,c76,c77,c78,c79,c80,c81,c82,c83,u84,u85,u86,u87,u88,u89,u90,u91,u92,u93,u94,u95,u96,u97,u98,u99,uDW,uDX,uDY,uDZ,uEA,uEB,uEC,uED,uEE,uEF,uEG,uEH,uEI,uEJ,uEK,uEL,uEM,uEN,uEO,uEP,uEQ,uER,uES,uET,uEU,uEV,uEW,uEX,uEY,uEZ,uFA,uFB,uFC,uFD,uFE,uFF,uFG,uFH,uFI,uFJ,uFK,uFL,uFM,uFN,uFO,uFP,uFQ,uFR,uFS,uFT,uFU,uFV,uFW,uFX,uFY,uFZ,uGA,uGB,uGC,uGD,uGE,uGF,uGG,uGH,uGI,uGJ,uGK,uGL,uGM,uGN,uGO,uGP,uGQ,uGR,uGS,uGT,uGU,uGV,uGW,uGX,uGY,uGZ,uHA,uHB,cHC,cHD,cHE,cHF,cHG,cHH,cHI,cHJ,cHK,cHL,cHM,cHN,cHO,cHP,cHQ,cHR,cHS,cHT,cHU,cHV,cHW,cHX,cHY,cHZ,cIA,cIB,cIC,cID,cIE,cIF,cIG,cIH,cII,cIJ,cIK,cIL,cIM,cIN,cIO,cIP,cIQ,cIR,cIS,cIT,cIU,cIV,cIW,cIX,cIY,cIZ,cJA,cJB,cJC,cJD,cJE,cJF,cJG,cJH,cJI,cJJ,cJK,cJL,cJM,cJN,cJO,cJP,cJQ,cJR,cJS,cJT,cJU,cJV,cJW,cJX,cJY,cJZ,cKA,cKB,cKC,cKD,cKE,cKF,cKG,cKH,cKI,cKJ,cKK,cKL,cKM,cKN,cKO,cKP,cKQ,cKR,cKS,cKT,cKU,cKV,cKW,cKX,cKY,cKZ,cLA,cLB,cLC,cLD,cLE,cLF,cLG,cLH,cLI,cLJ,cLK,cLL,cLM,cLN,cLO,cLP,cLQ,cLR,cLS,cLT,cLU,cLV,cLW,cLX,cLY,cLZ],[]⟩ w') :
  Code.wp Tryz.prog body2 (Exit.then (fun a' w''=>WI2 w W1 zb1 g1 cap1 cb xb zb rb sb mb bb g cap base bs cnt st n sent sus mp wb al acap ab ao size i c fr an c1 c2 c3 c4 c5 c6 c10 c11 c14 c24 c25 c26 c27 c28 c29 c30 c31 c32 c33 c34 c35 c36 c37 c38 c39 c40 c41 c42 c43 c44 c45 c46 c47 c48 c49 c50 c51 c52 c53 c54 c55 c56 c57 c58 c59 c60 c61 c62 c63 c64 c65 c66 c67 c68 c69 c70 c71 c72 c73 c74 c75 c76 c77 c78 c79 c80 c81 c82 c83 cHC cHD cHE cHF cHG cHH cHI cHJ cHK cHL cHM cHN cHO cHP cHQ cHR cHS cHT cHU cHV cHW cHX cHY cHZ cIA cIB cIC cID cIE cIF cIG cIH cII cIJ cIK cIL cIM cIN cIO cIP cIQ cIR cIS cIT cIU cIV cIW cIX cIY cIZ cJA cJB cJC cJD cJE cJF cJG cJH cJI cJJ cJK cJL cJM cJN cJO cJP cJQ cJR cJS cJT cJU cJV cJW cJX cJY cJZ cKA cKB cKC cKD cKE cKF cKG cKH cKI cKJ cKK cKL cKM cKN cKO cKP cKQ cKR cKS cKT cKU cKV cKW cKX cKY cKZ cLA cLB cLC cLD cLE cLF cLG cLH cLI cLJ cLK cLL cLM cLN cLO cLP cLQ cLR cLS cLT cLU cLV cLW cLX cLY cLZ a' w''∧mu2 a' w''<mu2 ⟨#[.slice (some ⟨ab,ao,none⟩) al.length acap,c1,c2,c3,c4,c5,c6,.pointer (some ⟨zb1,0,none⟩),.pointer (some ⟨mb,0,none⟩),.pointer (some ⟨cb,0,none⟩),c10,c11,.int .i64 size,.int .i64 (n+c:Nat),c14,.int .i64 i,v,.int .i64 n,.int .i64 (i+c:Nat),u19,u20,u21,u22,u23,c24,c25,c26,c27,c28,c29,c30,c31,c32,c33,c34,c35,c36,c37,c38,c39,c40,c41,c42,c43,c44,c45,c46,c47,c48,c49,c50,c51,c52,c53,c54,c55,c56,c57,c58,c59,c60,c61,c62,c63,c64,c65,c66,c67,c68,c69,c70,c71,c72,c73,c74,c75,c76,c77,c78,c79,c80,c81,c82,c83,u84,u85,u86,u87,u88,u89,u90,u91,u92,u93,u94,u95,u96,u97,u98,u99,uDW,uDX,uDY,uDZ,uEA,uEB,uEC,uED,uEE,uEF,uEG,uEH,uEI,uEJ,uEK,uEL,uEM,uEN,uEO,uEP,uEQ,uER,uES,uET,uEU,uEV,uEW,uEX,uEY,uEZ,uFA,uFB,uFC,uFD,uFE,uFF,uFG,uFH,uFI,uFJ,uFK,uFL,uFM,uFN,uFO,uFP,uFQ,uFR,uFS,uFT,uFU,uFV,uFW,uFX,uFY,uFZ,uGA,uGB,uGC,uGD,uGE,uGF,uGG,uGH,uGI,uGJ,uGK,uGL,uGM,uGN,uGO,uGP,uGQ,uGR,uGS,uGT,uGU,uGV,uGW,uGX,uGY,uGZ,uHA,uHB,cHC,cHD,cHE,cHF,cHG,cHH,cHI,cHJ,cHK,cHL,cHM,cHN,cHO,cHP,cHQ,cHR,cHS,cHT,cHU,cHV,cHW,cHX,cHY,cHZ,cIA,cIB,cIC,cID,cIE,cIF,cIG,cIH,cII,cIJ,cIK,cIL,cIM,cIN,cIO,cIP,cIQ,cIR,cIS,cIT,cIU,cIV,cIW,cIX,cIY,cIZ,cJA,cJB,cJC,cJD,cJE,cJF,cJG,cJH,cJI,cJJ,cJK,cJL,cJM,cJN,cJO,cJP,cJQ,cJR,cJS,cJT,cJU,cJV,cJW,cJX,cJY,cJZ,cKA,cKB,cKC,cKD,cKE,cKF,cKG,cKH,cKI,cKJ,cKK,cKL,cKM,cKN,cKO,cKP,cKQ,cKR,cKS,cKT,cKU,cKV,cKW,cKX,cKY,cKZ,cLA,cLB,cLC,cLD,cLE,cLF,cLG,cLH,cLI,cLJ,cLK,cLL,cLM,cLN,cLO,cLP,cLQ,cLR,cLS,cLT,cLU,cLV,cLW,cLX,cLY,cLZ],[]⟩ wr2) Q0) ⟨#[.slice (some ⟨ab,ao,none⟩) al.length acap,c1,c2,c3,c4,c5,c6,.pointer (some ⟨zb1,0,none⟩),.pointer (some ⟨mb,0,none⟩),.pointer (some ⟨cb,0,none⟩),c10,c11,.int .i64 size,.int .i64 (n+c:Nat),c14,.int .i64 i,v,.int .i64 n,.int .i64 (i+c:Nat),u19,u20,u21,u22,u23,c24,c25,c26,c27,c28,c29,c30,c31,c32,c33,c34,c35,c36,c37,c38,c39,c40,c41,c42,c43,c44,c45,c46,c47,c48,c49,c50,c51,c52,c53,c54,c55,c56,c57,c58,c59,c60,c61,c62,c63,c64,c65,c66,c67,c68,c69,c70,c71,c72,c73,c74,c75,c76,c77,c78,c79,c80,c81,c82,c83,u84,u85,u86,u87,u88,u89,u90,u91,u92,u93,u94,u95,u96,u97,u98,u99,uDW,uDX,uDY,uDZ,uEA,uEB,uEC,uED,uEE,uEF,uEG,uEH,uEI,uEJ,uEK,uEL,uEM,uEN,uEO,uEP,uEQ,uER,uES,uET,uEU,uEV,uEW,uEX,uEY,uEZ,uFA,uFB,uFC,uFD,uFE,uFF,uFG,uFH,uFI,uFJ,uFK,uFL,uFM,uFN,uFO,uFP,uFQ,uFR,uFS,uFT,uFU,uFV,uFW,uFX,uFY,uFZ,uGA,uGB,uGC,uGD,uGE,uGF,uGG,uGH,uGI,uGJ,uGK,uGL,uGM,uGN,uGO,uGP,uGQ,uGR,uGS,uGT,uGU,uGV,uGW,uGX,uGY,uGZ,uHA,uHB,cHC,cHD,cHE,cHF,cHG,cHH,cHI,cHJ,cHK,cHL,cHM,cHN,cHO,cHP,cHQ,cHR,cHS,cHT,cHU,cHV,cHW,cHX,cHY,cHZ,cIA,cIB,cIC,cID,cIE,cIF,cIG,cIH,cII,cIJ,cIK,cIL,cIM,cIN,cIO,cIP,cIQ,cIR,cIS,cIT,cIU,cIV,cIW,cIX,cIY,cIZ,cJA,cJB,cJC,cJD,cJE,cJF,cJG,cJH,cJI,cJJ,cJK,cJL,cJM,cJN,cJO,cJP,cJQ,cJR,cJS,cJT,cJU,cJV,cJW,cJX,cJY,cJZ,cKA,cKB,cKC,cKD,cKE,cKF,cKG,cKH,cKI,cKJ,cKK,cKL,cKM,cKN,cKO,cKP,cKQ,cKR,cKS,cKT,cKU,cKV,cKW,cKX,cKY,cKZ,cLA,cLB,cLC,cLD,cLE,cLF,cLG,cLH,cLI,cLJ,cLK,cLL,cLM,cLN,cLO,cLP,cLQ,cLR,cLS,cLT,cLU,cLV,cLW,cLX,cLY,cLZ],[]⟩ wr2:=by
 obtain ⟨k,hk⟩ : ∃ k,k=i+c:=⟨_,rfl⟩
 obtain ⟨nc,hnc⟩ : ∃ nc,nc=n+c:=⟨_,rfl⟩
 have HI:=aH hIN
 have HE:Hid (∀ (u19 u20 u21 u22 u23 u84 u85 u86 u87 u88 u89 u90 u91 u92 u93 u94 u95 u96 u97 u98 u99 uDW uDX uDY uDZ uEA uEB uEC uED uEE uEF uEG uEH uEI uEJ uEK uEL uEM uEN uEO uEP uEQ uER uES uET uEU uEV uEW uEX uEY uEZ uFA uFB uFC uFD uFE uFF uFG uFH uFI uFJ uFK uFL uFM uFN uFO uFP uFQ uFR uFS uFT uFU uFV uFW uFX uFY uFZ uGA uGB uGC uGD uGE uGF uGG uGH uGI uGJ uGK uGL uGM uGN uGO uGP uGQ uGR uGS uGT uGU uGV uGW uGX uGY uGZ uHA uHB v:Value) (w':World),In W1 w' xb zb rb sb mb bb base (cdK bs n fr c) cnt st n sent sus mp wb v ((List.range c).map an)→Q0 (.exit 2) ⟨#[.slice (some ⟨ab,ao,none⟩) al.length acap,c1,c2,c3,c4,c5,c6,.pointer (some ⟨zb1,0,none⟩),.pointer (some ⟨mb,0,none⟩),.pointer (some ⟨cb,0,none⟩),c10,c11,.int .i64 size,.int .i64 nc,c14,.int .i64 i,v,.int .i64 n,.int .i64 k,u19,u20,u21,u22,u23,c24,c25,c26,c27,c28,c29,c30,c31,c32,c33,c34,c35,c36,c37,c38,c39,c40,c41,c42,c43,c44,c45,c46,c47,c48,c49,c50,c51,c52,c53,c54,c55,c56,c57,c58,c59,c60,c61,c62,c63,c64,c65,c66,c67,c68,c69,c70,c71,c72,c73,c74,c75,c76,c77,c78,c79,c80,c81,c82,c83,u84,u85,u86,u87,u88,u89,u90,u91,u92,u93,u94,u95,u96,u97,u98,u99,uDW,uDX,uDY,uDZ,uEA,uEB,uEC,uED,uEE,uEF,uEG,uEH,uEI,uEJ,uEK,uEL,uEM,uEN,uEO,uEP,uEQ,uER,uES,uET,uEU,uEV,uEW,uEX,uEY,uEZ,uFA,uFB,uFC,uFD,uFE,uFF,uFG,uFH,uFI,uFJ,uFK,uFL,uFM,uFN,uFO,uFP,uFQ,uFR,uFS,uFT,uFU,uFV,uFW,uFX,uFY,uFZ,uGA,uGB,uGC,uGD,uGE,uGF,uGG,uGH,uGI,uGJ,uGK,uGL,uGM,uGN,uGO,uGP,uGQ,uGR,uGS,uGT,uGU,uGV,uGW,uGX,uGY,uGZ,uHA,uHB,cHC,cHD,cHE,cHF,cHG,cHH,cHI,cHJ,cHK,cHL,cHM,cHN,cHO,cHP,cHQ,cHR,cHS,cHT,cHU,cHV,cHW,cHX,cHY,cHZ,cIA,cIB,cIC,cID,cIE,cIF,cIG,cIH,cII,cIJ,cIK,cIL,cIM,cIN,cIO,cIP,cIQ,cIR,cIS,cIT,cIU,cIV,cIW,cIX,cIY,cIZ,cJA,cJB,cJC,cJD,cJE,cJF,cJG,cJH,cJI,cJJ,cJK,cJL,cJM,cJN,cJO,cJP,cJQ,cJR,cJS,cJT,cJU,cJV,cJW,cJX,cJY,cJZ,cKA,cKB,cKC,cKD,cKE,cKF,cKG,cKH,cKI,cKJ,cKK,cKL,cKM,cKN,cKO,cKP,cKQ,cKR,cKS,cKT,cKU,cKV,cKW,cKX,cKY,cKZ,cLA,cLB,cLC,cLD,cLE,cLF,cLG,cLH,cLI,cLJ,cLK,cLL,cLM,cLN,cLO,cLP,cLQ,cLR,cLS,cLT,cLU,cLV,cLW,cLX,cLY,cLZ],[]⟩ w'):=by rw [Hid,hk,hnc]; exact hexit
 rw [← hk,← hnc]
 by_cases hcs:c=size
 ·have hk1 : ¬ (k:Int)<(i:Int)+(size:Int):=by omega
  clear hIN hexit hk hnc hcd hcs
  conv=>arg 2; whnf
  go_wp2_with fail
  exact aU HE _ _ _ _ _ _ _ _ _ _ _ _ _ _ _ _ _ _ _ _ _ _ _ _ _ _ _ _ _ _ _ _ _ _ _ _ _ _ _ _ _ _ _ _ _ _ _ _ _ _ _ _ _ _ _ _ _ _ _ _ _ _ _ _ _ _ _ _ _ _ _ _ _ _ _ _ _ _ _ _ _ _ _ _ _ _ _ _ _ _ _ _ _ _ _ _ _ _ _ _ _ _ _ _ _ _ _ (aU HI)
 ·have hk1:(k:Int)<(i:Int)+(size:Int):=by omega
  have hk2 : ¬ (k:Int)<(al.length:Int):=by omega
  clear hIN hexit hk hnc hcd hcs
  conv=>arg 2; whnf
  go_wp2_with fail
  exact aU HE _ _ _ _ _ _ _ _ _ _ _ _ _ _ _ _ _ _ _ _ _ _ _ _ _ _ _ _ _ _ _ _ _ _ _ _ _ _ _ _ _ _ _ _ _ _ _ _ _ _ _ _ _ _ _ _ _ _ _ _ _ _ _ _ _ _ _ _ _ _ _ _ _ _ _ _ _ _ _ _ _ _ _ _ _ _ _ _ _ _ _ _ _ _ _ _ _ _ _ _ _ _ _ _ _ _ _ (aU HI)
theorem loop2 (w W1:World) (zb1 g1 cap1 cb xb zb rb sb mb bb g cap base:Nat) (bs:Str) (cnt st n sent sus mp wb:Nat) (al:List Int) (acap ab ao size i c:Nat) (fr an:Nat→Str) {c1 c2 c3 c4 c5 c6 c10 c11 c14 c24 c25 c26 c27 c28 c29 c30 c31 c32 c33 c34 c35 c36 c37 c38 c39 c40 c41 c42 c43 c44 c45 c46 c47 c48 c49 c50 c51 c52 c53 c54 c55 c56 c57 c58 c59 c60 c61 c62 c63 c64 c65 c66 c67 c68 c69 c70 c71 c72 c73 c74 c75 c76 c77 c78 c79 c80 c81 c82 c83 cHC cHD cHE cHF cHG cHH cHI cHJ cHK cHL cHM cHN cHO cHP cHQ cHR cHS cHT cHU cHV cHW cHX cHY cHZ cIA cIB cIC cID cIE cIF cIG cIH cII cIJ cIK cIL cIM cIN cIO cIP cIQ cIR cIS cIT cIU cIV cIW cIX cIY cIZ cJA cJB cJC cJD cJE cJF cJG cJH cJI cJJ cJK cJL cJM cJN cJO cJP cJQ cJR cJS cJT cJU cJV cJW cJX cJY cJZ cKA cKB cKC cKD cKE cKF cKG cKH cKI cKJ cKK cKL cKM cKN cKO cKP cKQ cKR cKS cKT cKU cKV cKW cKX cKY cKZ cLA cLB cLC cLD cLE cLF cLG cLH cLI cLJ cLK cLL cLM cLN cLO cLP cLQ cLR cLS cLT cLU cLV cLW cLX cLY cLZ u19 u20 u21 u22 u23 u84 u85 u86 u87 u88 u89 u90 u91 u92 u93 u94 u95 u96 u97 u98 u99 uDW uDX uDY uDZ uEA uEB uEC uED uEE uEF uEG uEH uEI uEJ uEK uEL uEM uEN uEO uEP uEQ uER uES uET uEU uEV uEW uEX uEY uEZ uFA uFB uFC uFD uFE uFF uFG uFH uFI uFJ uFK uFL uFM uFN uFO uFP uFQ uFR uFS uFT uFU uFV uFW uFX uFY uFZ uGA uGB uGC uGD uGE uGF uGG uGH uGI uGJ uGK uGL uGM uGN uGO uGP uGQ uGR uGS uGT uGU uGV uGW uGX uGY uGZ uHA uHB:Value} (Q0:Exit→Act→World→Prop) (v:Value) (wr:World) (hGo:Go1 w W1 zb1 g1 cap1 cb mb bb xb zb rb sb g cap base) (hBs:Bs bs n sent) (hal : ∀ a∈al,-9223372036854775808≤a∧a≤9223372036854775807) (hab:ab<w.heap.size) (hce : ∀ k (h:k<al.length),w.cell? ⟨ab,ao+k,none⟩=some (.int .i64 al[k])) (hln:al.length≤9223372036854775807) (hcd:c=min size (al.length - i)) (hi2:i<200) (hs8:size≤8) (hn:n≤i) (hfr:fr=fun q=>fr1 (i+q) (vo al (i+q))) (han:an=fun q=>an1 (i+q) (vo al (i+q))) (hil:i<al.length) (hIN:In W1 wr xb zb rb sb mb bb base bs cnt st n sent sus mp wb v [])
  (hexit : ∀ (u19 u20 u21 u22 u23 u84 u85 u86 u87 u88 u89 u90 u91 u92 u93 u94 u95 u96 u97 u98 u99 uDW uDX uDY uDZ uEA uEB uEC uED uEE uEF uEG uEH uEI uEJ uEK uEL uEM uEN uEO uEP uEQ uER uES uET uEU uEV uEW uEX uEY uEZ uFA uFB uFC uFD uFE uFF uFG uFH uFI uFJ uFK uFL uFM uFN uFO uFP uFQ uFR uFS uFT uFU uFV uFW uFX uFY uFZ uGA uGB uGC uGD uGE uGF uGG uGH uGI uGJ uGK uGL uGM uGN uGO uGP uGQ uGR uGS uGT uGU uGV uGW uGX uGY uGZ uHA uHB v:Value) (w':World),In W1 w' xb zb rb sb mb bb base (cdK bs n fr c) cnt st n sent sus mp wb v ((List.range c).map an)→Q0 (.exit 2) ⟨#[.slice (some ⟨ab,ao,none⟩) al.length acap,c1,c2,c3,c4,c5,c6,.pointer (some ⟨zb1,0,none⟩),.pointer (some ⟨mb,0,none⟩),.pointer (some ⟨cb,0,none⟩),c10,c11,.int .i64 size,.int .i64 (n+c:Nat),c14,.int .i64 i,v,.int .i64 n,.int .i64 (i+c:Nat),u19,u20,u21,u22,u23,c24,c25,c26,c27,c28,c29,c30,c31,c32,c33,c34,c35,c36,c37,c38,c39,c40,c41,c42,c43,c44,c45,c46,c47,c48,c49,c50,c51,c52,c53,c54,c55,c56,c57,c58,c59,c60,c61,c62,c63,c64,c65,c66,c67,c68,c69,c70,c71,c72,c73,c74,c75,c76,c77,c78,c79,c80,c81,c82,c83,u84,u85,u86,u87,u88,u89,u90,u91,u92,u93,u94,u95,u96,u97,u98,u99,uDW,uDX,uDY,uDZ,uEA,uEB,uEC,uED,uEE,uEF,uEG,uEH,uEI,uEJ,uEK,uEL,uEM,uEN,uEO,uEP,uEQ,uER,uES,uET,uEU,uEV,uEW,uEX,uEY,uEZ,uFA,uFB,uFC,uFD,uFE,uFF,uFG,uFH,uFI,uFJ,uFK,uFL,uFM,uFN,uFO,uFP,uFQ,uFR,uFS,uFT,uFU,uFV,uFW,uFX,uFY,uFZ,uGA,uGB,uGC,uGD,uGE,uGF,uGG,uGH,uGI,uGJ,uGK,uGL,uGM,uGN,uGO,uGP,uGQ,uGR,uGS,uGT,uGU,uGV,uGW,uGX,uGY,uGZ,uHA,uHB,cHC,cHD,cHE,cHF,cHG,cHH,cHI,cHJ,cHK,cHL,cHM,cHN,cHO,cHP,cHQ,cHR,cHS,cHT,cHU,cHV,cHW,cHX,cHY,cHZ,cIA,cIB,cIC,cID,cIE,cIF,cIG,cIH,cII,cIJ,cIK,cIL,cIM,cIN,cIO,cIP,cIQ,cIR,cIS,cIT,cIU,cIV,cIW,cIX,cIY,cIZ,cJA,cJB,cJC,cJD,cJE,cJF,cJG,cJH,cJI,cJJ,cJK,cJL,cJM,cJN,cJO,cJP,cJQ,cJR,cJS,cJT,cJU,cJV,cJW,cJX,cJY,cJZ,cKA,cKB,cKC,cKD,cKE,cKF,cKG,cKH,cKI,cKJ,cKK,cKL,cKM,cKN,cKO,cKP,cKQ,cKR,cKS,cKT,cKU,cKV,cKW,cKX,cKY,cKZ,cLA,cLB,cLC,cLD,cLE,cLF,cLG,cLH,cLI,cLJ,cLK,cLL,cLM,cLN,cLO,cLP,cLQ,cLR,cLS,cLT,cLU,cLV,cLW,cLX,cLY,cLZ],[]⟩ w') :
  Code.wp Tryz.prog (Code.loop body2) Q0 ⟨#[.slice (some ⟨ab,ao,none⟩) al.length acap,c1,c2,c3,c4,c5,c6,.pointer (some ⟨zb1,0,none⟩),.pointer (some ⟨mb,0,none⟩),.pointer (some ⟨cb,0,none⟩),c10,c11,.int .i64 size,.int .i64 n,c14,.int .i64 i,v,.int .i64 n,.int .i64 i,u19,u20,u21,u22,u23,c24,c25,c26,c27,c28,c29,c30,c31,c32,c33,c34,c35,c36,c37,c38,c39,c40,c41,c42,c43,c44,c45,c46,c47,c48,c49,c50,c51,c52,c53,c54,c55,c56,c57,c58,c59,c60,c61,c62,c63,c64,c65,c66,c67,c68,c69,c70,c71,c72,c73,c74,c75,c76,c77,c78,c79,c80,c81,c82,c83,u84,u85,u86,u87,u88,u89,u90,u91,u92,u93,u94,u95,u96,u97,u98,u99,uDW,uDX,uDY,uDZ,uEA,uEB,uEC,uED,uEE,uEF,uEG,uEH,uEI,uEJ,uEK,uEL,uEM,uEN,uEO,uEP,uEQ,uER,uES,uET,uEU,uEV,uEW,uEX,uEY,uEZ,uFA,uFB,uFC,uFD,uFE,uFF,uFG,uFH,uFI,uFJ,uFK,uFL,uFM,uFN,uFO,uFP,uFQ,uFR,uFS,uFT,uFU,uFV,uFW,uFX,uFY,uFZ,uGA,uGB,uGC,uGD,uGE,uGF,uGG,uGH,uGI,uGJ,uGK,uGL,uGM,uGN,uGO,uGP,uGQ,uGR,uGS,uGT,uGU,uGV,uGW,uGX,uGY,uGZ,uHA,uHB,cHC,cHD,cHE,cHF,cHG,cHH,cHI,cHJ,cHK,cHL,cHM,cHN,cHO,cHP,cHQ,cHR,cHS,cHT,cHU,cHV,cHW,cHX,cHY,cHZ,cIA,cIB,cIC,cID,cIE,cIF,cIG,cIH,cII,cIJ,cIK,cIL,cIM,cIN,cIO,cIP,cIQ,cIR,cIS,cIT,cIU,cIV,cIW,cIX,cIY,cIZ,cJA,cJB,cJC,cJD,cJE,cJF,cJG,cJH,cJI,cJJ,cJK,cJL,cJM,cJN,cJO,cJP,cJQ,cJR,cJS,cJT,cJU,cJV,cJW,cJX,cJY,cJZ,cKA,cKB,cKC,cKD,cKE,cKF,cKG,cKH,cKI,cKJ,cKK,cKL,cKM,cKN,cKO,cKP,cKQ,cKR,cKS,cKT,cKU,cKV,cKW,cKX,cKY,cKZ,cLA,cLB,cLC,cLD,cLE,cLF,cLG,cLH,cLI,cLJ,cLK,cLL,cLM,cLN,cLO,cLP,cLQ,cLR,cLS,cLT,cLU,cLV,cLW,cLX,cLY,cLZ],[]⟩ wr:=by
 refine wp_loop (WI2 w W1 zb1 g1 cap1 cb xb zb rb sb mb bb g cap base bs cnt st n sent sus mp wb al acap ab ao size i c fr an c1 c2 c3 c4 c5 c6 c10 c11 c14 c24 c25 c26 c27 c28 c29 c30 c31 c32 c33 c34 c35 c36 c37 c38 c39 c40 c41 c42 c43 c44 c45 c46 c47 c48 c49 c50 c51 c52 c53 c54 c55 c56 c57 c58 c59 c60 c61 c62 c63 c64 c65 c66 c67 c68 c69 c70 c71 c72 c73 c74 c75 c76 c77 c78 c79 c80 c81 c82 c83 cHC cHD cHE cHF cHG cHH cHI cHJ cHK cHL cHM cHN cHO cHP cHQ cHR cHS cHT cHU cHV cHW cHX cHY cHZ cIA cIB cIC cID cIE cIF cIG cIH cII cIJ cIK cIL cIM cIN cIO cIP cIQ cIR cIS cIT cIU cIV cIW cIX cIY cIZ cJA cJB cJC cJD cJE cJF cJG cJH cJI cJJ cJK cJL cJM cJN cJO cJP cJQ cJR cJS cJT cJU cJV cJW cJX cJY cJZ cKA cKB cKC cKD cKE cKF cKG cKH cKI cKJ cKK cKL cKM cKN cKO cKP cKQ cKR cKS cKT cKU cKV cKW cKX cKY cKZ cLA cLB cLC cLD cLE cLF cLG cLH cLI cLJ cLK cLL cLM cLN cLO cLP cLQ cLR cLS cLT cLU cLV cLW cLX cLY cLZ) mu2 ?_ ?_
 ·unfold WI2
  exact ⟨_,_,_,_,_,_,_,_,_,_,_,_,_,_,_,_,_,_,_,_,_,_,_,_,_,_,_,_,_,_,_,_,_,_,_,_,_,_,_,_,_,_,_,_,_,_,_,_,_,_,_,_,_,_,_,_,_,_,_,_,_,_,_,_,_,_,_,_,_,_,_,_,_,_,_,_,_,_,_,_,_,_,_,_,_,_,_,_,_,_,_,_,_,_,_,_,_,_,_,_,_,_,_,_,_,_,_,_,⟨0,v,rfl,rfl,rfl,Nat.zero_le _,hIN⟩,rfl⟩
 ·intro a w'' hI
  unfold WI2 at hI
  obtain ⟨u13,hI⟩:=hI
  obtain ⟨u16,hI⟩:=hI
  obtain ⟨u18,hI⟩:=hI
  obtain ⟨u19,hI⟩:=hI
  obtain ⟨u20,hI⟩:=hI
  obtain ⟨u21,hI⟩:=hI
  obtain ⟨u22,hI⟩:=hI
  obtain ⟨u23,hI⟩:=hI
  obtain ⟨u84,hI⟩:=hI
  obtain ⟨u85,hI⟩:=hI
  obtain ⟨u86,hI⟩:=hI
  obtain ⟨u87,hI⟩:=hI
  obtain ⟨u88,hI⟩:=hI
  obtain ⟨u89,hI⟩:=hI
  obtain ⟨u90,hI⟩:=hI
  obtain ⟨u91,hI⟩:=hI
  obtain ⟨u92,hI⟩:=hI
  obtain ⟨u93,hI⟩:=hI
  obtain ⟨u94,hI⟩:=hI
  obtain ⟨u95,hI⟩:=hI
  obtain ⟨u96,hI⟩:=hI
  obtain ⟨u97,hI⟩:=hI
  obtain ⟨u98,hI⟩:=hI
  obtain ⟨u99,hI⟩:=hI
  obtain ⟨uDW,hI⟩:=hI
  obtain ⟨uDX,hI⟩:=hI
  obtain ⟨uDY,hI⟩:=hI
  obtain ⟨uDZ,hI⟩:=hI
  obtain ⟨uEA,hI⟩:=hI
  obtain ⟨uEB,hI⟩:=hI
  obtain ⟨uEC,hI⟩:=hI
  obtain ⟨uED,hI⟩:=hI
  obtain ⟨uEE,hI⟩:=hI
  obtain ⟨uEF,hI⟩:=hI
  obtain ⟨uEG,hI⟩:=hI
  obtain ⟨uEH,hI⟩:=hI
  obtain ⟨uEI,hI⟩:=hI
  obtain ⟨uEJ,hI⟩:=hI
  obtain ⟨uEK,hI⟩:=hI
  obtain ⟨uEL,hI⟩:=hI
  obtain ⟨uEM,hI⟩:=hI
  obtain ⟨uEN,hI⟩:=hI
  obtain ⟨uEO,hI⟩:=hI
  obtain ⟨uEP,hI⟩:=hI
  obtain ⟨uEQ,hI⟩:=hI
  obtain ⟨uER,hI⟩:=hI
  obtain ⟨uES,hI⟩:=hI
  obtain ⟨uET,hI⟩:=hI
  obtain ⟨uEU,hI⟩:=hI
  obtain ⟨uEV,hI⟩:=hI
  obtain ⟨uEW,hI⟩:=hI
  obtain ⟨uEX,hI⟩:=hI
  obtain ⟨uEY,hI⟩:=hI
  obtain ⟨uEZ,hI⟩:=hI
  obtain ⟨uFA,hI⟩:=hI
  obtain ⟨uFB,hI⟩:=hI
  obtain ⟨uFC,hI⟩:=hI
  obtain ⟨uFD,hI⟩:=hI
  obtain ⟨uFE,hI⟩:=hI
  obtain ⟨uFF,hI⟩:=hI
  obtain ⟨uFG,hI⟩:=hI
  obtain ⟨uFH,hI⟩:=hI
  obtain ⟨uFI,hI⟩:=hI
  obtain ⟨uFJ,hI⟩:=hI
  obtain ⟨uFK,hI⟩:=hI
  obtain ⟨uFL,hI⟩:=hI
  obtain ⟨uFM,hI⟩:=hI
  obtain ⟨uFN,hI⟩:=hI
  obtain ⟨uFO,hI⟩:=hI
  obtain ⟨uFP,hI⟩:=hI
  obtain ⟨uFQ,hI⟩:=hI
  obtain ⟨uFR,hI⟩:=hI
  obtain ⟨uFS,hI⟩:=hI
  obtain ⟨uFT,hI⟩:=hI
  obtain ⟨uFU,hI⟩:=hI
  obtain ⟨uFV,hI⟩:=hI
  obtain ⟨uFW,hI⟩:=hI
  obtain ⟨uFX,hI⟩:=hI
  obtain ⟨uFY,hI⟩:=hI
  obtain ⟨uFZ,hI⟩:=hI
  obtain ⟨uGA,hI⟩:=hI
  obtain ⟨uGB,hI⟩:=hI
  obtain ⟨uGC,hI⟩:=hI
  obtain ⟨uGD,hI⟩:=hI
  obtain ⟨uGE,hI⟩:=hI
  obtain ⟨uGF,hI⟩:=hI
  obtain ⟨uGG,hI⟩:=hI
  obtain ⟨uGH,hI⟩:=hI
  obtain ⟨uGI,hI⟩:=hI
  obtain ⟨uGJ,hI⟩:=hI
  obtain ⟨uGK,hI⟩:=hI
  obtain ⟨uGL,hI⟩:=hI
  obtain ⟨uGM,hI⟩:=hI
  obtain ⟨uGN,hI⟩:=hI
  obtain ⟨uGO,hI⟩:=hI
  obtain ⟨uGP,hI⟩:=hI
  obtain ⟨uGQ,hI⟩:=hI
  obtain ⟨uGR,hI⟩:=hI
  obtain ⟨uGS,hI⟩:=hI
  obtain ⟨uGT,hI⟩:=hI
  obtain ⟨uGU,hI⟩:=hI
  obtain ⟨uGV,hI⟩:=hI
  obtain ⟨uGW,hI⟩:=hI
  obtain ⟨uGX,hI⟩:=hI
  obtain ⟨uGY,hI⟩:=hI
  obtain ⟨uGZ,hI⟩:=hI
  obtain ⟨uHA,hI⟩:=hI
  obtain ⟨uHB,hI⟩:=hI
  obtain ⟨⟨j,v',rfl,rfl,rfl,hj,hIN'⟩,rfl⟩:=hI
  by_cases hjc:j<c
  ·exact round2 w W1 zb1 g1 cap1 cb xb zb rb sb mb bb g cap base bs cnt st n sent sus mp wb al acap ab ao size i c fr an Q0 j _ w'' hGo hBs hal hab hce hln hcd hi2 hs8 hn hfr han hjc hIN'
  ·have hjc':j=c:=by omega
   subst hjc'
   exact last2 w W1 zb1 g1 cap1 cb xb zb rb sb mb bb g cap base bs cnt st n sent sus mp wb al acap ab ao size i j fr an Q0 _ w'' hcd hil hi2 hs8 hln hIN' hexit
end Nt
end Go.Proofs.YtkkpahmoljiepaaGreatDoor
