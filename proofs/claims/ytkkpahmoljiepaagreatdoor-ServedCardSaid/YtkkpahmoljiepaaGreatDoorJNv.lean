/- Served's loop 1: its rounds. -/
import Derived.Test.YtkkpahmoljiepaaGreatDoorJNu
set_option linter.unusedSimpArgs false
set_option linter.unusedVariables false
set_option maxRecDepth 1000000
set_option maxHeartbeats 12800000
namespace Go.Proofs.YtkkpahmoljiepaaGreatDoor
open Go.RowKit
open Pu (Str aH aU)
namespace Nv
open Ka Kc Vb Vd Wa Wb Wc Wd We Wf Wg Wh Wi Wj Wk Wl Wm Ha Hb Hc Hh Hk Re Qa Qb Qc Qd Qe Qf Qg Qh Qi Qj Qk Ql Qm Qn Qo Qp Qr Qq Qs Qu Qv Qw Qx Na Nb Nc Nd Nee Nf Nh Ni Nj No Np Nq
open Ta (zz)
open Nl Nt Nu
set_option maxRecDepth 1000000
theorem poll_in {W1 w2 w3:World} {xb zb rb sb mb bb base:Nat} {bs b2:Str} {cnt cn st n sent sus sus' mp wb c o:Nat} {v:Value} {ls:List Str} {id:Nat→Nat} {fr an:Nat→Str} (hA:At xb zb rb sb mb bb base mine ipMe bs false cn st (n+8) n sent sus' o n sent (n - sent) id fr an c w3) (hI:In W1 w2 xb zb rb sb mb bb base b2 cnt st n sent sus mp wb v ls) (hF:GF (Off xb rb sb mb bb) base w2 w3) (hsn:sent≤n) :
  In W1 w3 xb zb rb sb mb bb base (bsK bs (n+8) sent o id an c) (cntK cn fr c) (stK st o an c) (n+c) (sent+sk o c) sus' (o+sk o c) wb v ls:=by
 unfold At at hA
 have h1:sk o c≤c:=by unfold sk; omega
 rw [show n+8+c=n+c+8 by omega,show n - sent+(c - sk o c)=n+c - (sent+sk o c) by omega] at hA
 exact ⟨hA,hI.own.gf hF hI.far.2,hI.kept.trans hF,Nat.le_trans hI.hw hF.size,hI.far⟩
theorem In.end {W1 W:World} {xb zb rb sb mb bb base:Nat} {bs:Str} {cnt st n sent sus mp wb i:Nat} {v:Value} {ls:List Str} {back:Bool} (h:In W1 W xb zb rb sb mb bb base bs cnt st n sent sus mp wb v ls) (h1:cnt≤200*i) (h2:st≤300+300*i) (h3:Bs bs n sent) (h4:Bk bs back sent sus mp) (h5:sent≤n) (h6:n≤i):SI W1 xb zb rb sb mb bb base back n sent i W :=
 ⟨⟨bs,cnt,st,sus,mp,h.mac,h1,h2,h3,h4⟩,h5,h6,h.kept⟩
theorem mem_wild {w:World} {mb bb base:Nat} {bs:Str} {wild:Bool} {cnt st:Nat} (h:Mem w mb bb base bs wild cnt st):w.cell? ⟨mb,2,none⟩=some (.bool wild):=by
 obtain ⟨vl,vm,ns,⟨early,d0,d1,hm⟩,_⟩:=h
 exact aF.at2 hm
def Told (db:Nat) (a b d:Nat) (W:World):Prop:=aB W db [.int .i64 a,.int .i64 b,.int .i64 d,.bool false] 101
def Rel1 (w W1:World) (zb1 g1 cap1 cb xb zb rb sb mb bb g cap base:Nat) (al:List Int) (adr:Option Addr) (acap ab ao size:Nat) (back:Bool) (x13 x14 x15:Value) (W:World):Prop:=∃ n sent i:Nat,x13=.int .i64 n∧x14=.int .i64 sent∧x15=.int .i64 i∧i≤207∧SI W1 xb zb rb sb mb bb base back n sent i W
def WI1 (w W1:World) (zb1 g1 cap1 cb xb zb rb sb mb bb g cap base:Nat) (al:List Int) (adr:Option Addr) (acap ab ao size:Nat) (back:Bool) (c1 c3 c4 c5 c6 c11 c32 c33 c34 c35 c36 c37 c38 c39 c40 c41 c42 c43 c44 c45 c46 c47 c48 c49 c50 c51 c52 c53 c54 c55 c56 c57 c58 c59 c60 c61 c62 c63 c64 c65 c66 c67 c68 c69 c70:Value) (a:Act) (W:World):Prop:=∃ u13 u14 u15 u16 u17 u18 u19 u20 u21 u22 u23 u24 u25 u26 u27 u28 u29 u30 u31 u71 u72 u73 u74 u75 u76 u77 u78 u79 u80 u81 u82 u83 u84 u85 u86 u87 u88 u89 u90 u91 u92 u93 u94 u95 u96 u97 u98 u99 uDW uDX uDY uDZ uEA uEB uEC uED uEE uEF uEG uEH uEI uEJ uEK uEL uEM uEN uEO uEP uEQ uER uES uET uEU uEV uEW uEX uEY uEZ uFA uFB uFC uFD uFE uFF uFG uFH uFI uFJ uFK uFL uFM uFN uFO uFP uFQ uFR uFS uFT uFU uFV uFW uFX uFY uFZ uGA uGB uGC uGD uGE uGF uGG uGH uGI uGJ uGK uGL uGM uGN uGO uGP uGQ uGR uGS uGT uGU uGV uGW uGX uGY uGZ uHA uHB uHC uHD uHE uHF uHG uHH uHI uHJ uHK uHL uHM uHN uHO uHP uHQ uHR uHS uHT uHU uHV uHW uHX uHY uHZ uIA uIB uIC uID uIE uIF uIG uIH uII uIJ uIK uIL uIM uIN uIO uIP uIQ uIR uIS uIT uIU uIV uIW uIX uIY uIZ uJA uJB uJC uJD uJE uJF uJG uJH uJI uJJ uJK uJL uJM uJN uJO uJP uJQ uJR uJS uJT uJU uJV uJW uJX uJY uJZ uKA uKB uKC uKD uKE uKF uKG uKH uKI uKJ uKK uKL uKM uKN uKO uKP uKQ uKR uKS uKT uKU uKV uKW uKX uKY uKZ uLA uLB uLC uLD uLE uLF uLG uLH uLI uLJ uLK uLL uLM uLN uLO uLP uLQ uLR uLS uLT uLU uLV uLW uLX uLY uLZ:Value,Rel1 w W1 zb1 g1 cap1 cb xb zb rb sb mb bb g cap base al adr acap ab ao size back u13 u14 u15 W∧a=⟨#[.slice adr al.length acap,c1,.bool back,c3,c4,c5,c6,.pointer (some ⟨zb1,0,none⟩),.pointer (some ⟨mb,0,none⟩),.pointer (some ⟨cb,0,none⟩),.pointer (some ⟨xb,0,none⟩),c11,.int .i64 size,u13,u14,u15,u16,u17,u18,u19,u20,u21,u22,u23,u24,u25,u26,u27,u28,u29,u30,u31,c32,c33,c34,c35,c36,c37,c38,c39,c40,c41,c42,c43,c44,c45,c46,c47,c48,c49,c50,c51,c52,c53,c54,c55,c56,c57,c58,c59,c60,c61,c62,c63,c64,c65,c66,c67,c68,c69,c70,u71,u72,u73,u74,u75,u76,u77,u78,u79,u80,u81,u82,u83,u84,u85,u86,u87,u88,u89,u90,u91,u92,u93,u94,u95,u96,u97,u98,u99,uDW,uDX,uDY,uDZ,uEA,uEB,uEC,uED,uEE,uEF,uEG,uEH,uEI,uEJ,uEK,uEL,uEM,uEN,uEO,uEP,uEQ,uER,uES,uET,uEU,uEV,uEW,uEX,uEY,uEZ,uFA,uFB,uFC,uFD,uFE,uFF,uFG,uFH,uFI,uFJ,uFK,uFL,uFM,uFN,uFO,uFP,uFQ,uFR,uFS,uFT,uFU,uFV,uFW,uFX,uFY,uFZ,uGA,uGB,uGC,uGD,uGE,uGF,uGG,uGH,uGI,uGJ,uGK,uGL,uGM,uGN,uGO,uGP,uGQ,uGR,uGS,uGT,uGU,uGV,uGW,uGX,uGY,uGZ,uHA,uHB,uHC,uHD,uHE,uHF,uHG,uHH,uHI,uHJ,uHK,uHL,uHM,uHN,uHO,uHP,uHQ,uHR,uHS,uHT,uHU,uHV,uHW,uHX,uHY,uHZ,uIA,uIB,uIC,uID,uIE,uIF,uIG,uIH,uII,uIJ,uIK,uIL,uIM,uIN,uIO,uIP,uIQ,uIR,uIS,uIT,uIU,uIV,uIW,uIX,uIY,uIZ,uJA,uJB,uJC,uJD,uJE,uJF,uJG,uJH,uJI,uJJ,uJK,uJL,uJM,uJN,uJO,uJP,uJQ,uJR,uJS,uJT,uJU,uJV,uJW,uJX,uJY,uJZ,uKA,uKB,uKC,uKD,uKE,uKF,uKG,uKH,uKI,uKJ,uKK,uKL,uKM,uKN,uKO,uKP,uKQ,uKR,uKS,uKT,uKU,uKV,uKW,uKX,uKY,uKZ,uLA,uLB,uLC,uLD,uLE,uLF,uLG,uLH,uLI,uLJ,uLK,uLL,uLM,uLN,uLO,uLP,uLQ,uLR,uLS,uLT,uLU,uLV,uLW,uLX,uLY,uLZ],[]⟩
def mu1 (a:Act) (_:World):Nat:=208 - (intOf (a.tmps.getD 15 undef)).toNat
theorem round1t (w W1:World) (zb1 g1 cap1 cb xb zb rb sb mb bb g cap base:Nat) (al:List Int) (adr:Option Addr) (acap ab ao size:Nat) {c1 c3 c4 c5 c6 c11 c32 c33 c34 c35 c36 c37 c38 c39 c40 c41 c42 c43 c44 c45 c46 c47 c48 c49 c50 c51 c52 c53 c54 c55 c56 c57 c58 c59 c60 c61 c62 c63 c64 c65 c66 c67 c68 c69 c70 u16 u17 u18 u19 u20 u21 u22 u23 u24 u25 u26 u27 u28 u29 u30 u31 u71 u72 u73 u74 u75 u76 u77 u78 u79 u80 u81 u82 u83 u84 u85 u86 u87 u88 u89 u90 u91 u92 u93 u94 u95 u96 u97 u98 u99 uDW uDX uDY uDZ uEA uEB uEC uED uEE uEF uEG uEH uEI uEJ uEK uEL uEM uEN uEO uEP uEQ uER uES uET uEU uEV uEW uEX uEY uEZ uFA uFB uFC uFD uFE uFF uFG uFH uFI uFJ uFK uFL uFM uFN uFO uFP uFQ uFR uFS uFT uFU uFV uFW uFX uFY uFZ uGA uGB uGC uGD uGE uGF uGG uGH uGI uGJ uGK uGL uGM uGN uGO uGP uGQ uGR uGS uGT uGU uGV uGW uGX uGY uGZ uHA uHB uHC uHD uHE uHF uHG uHH uHI uHJ uHK uHL uHM uHN uHO uHP uHQ uHR uHS uHT uHU uHV uHW uHX uHY uHZ uIA uIB uIC uID uIE uIF uIG uIH uII uIJ uIK uIL uIM uIN uIO uIP uIQ uIR uIS uIT uIU uIV uIW uIX uIY uIZ uJA uJB uJC uJD uJE uJF uJG uJH uJI uJJ uJK uJL uJM uJN uJO uJP uJQ uJR uJS uJT uJU uJV uJW uJX uJY uJZ uKA uKB uKC uKD uKE uKF uKG uKH uKI uKJ uKK uKL uKM uKN uKO uKP uKQ uKR uKS uKT uKU uKV uKW uKX uKY uKZ uLA uLB uLC uLD uLE uLF uLG uLH uLI uLJ uLK uLL uLM uLN uLO uLP uLQ uLR uLS uLT uLU uLV uLW uLX uLY uLZ:Value} (Q0:Exit→Act→World→Prop) (n sent i:Nat) (wr:World) (hGo:Go1 w W1 zb1 g1 cap1 cb mb bb xb zb rb sb g cap base) (hal : ∀ a∈al,-9223372036854775808≤a∧a≤9223372036854775807) (hadr:al≠[]→adr=some ⟨ab,ao,none⟩∧ab<w.heap.size) (hce : ∀ k (h:k<al.length),w.cell? ⟨ab,ao+k,none⟩=some (.int .i64 al[k])) (hln:al.length≤9223372036854775807) (hs1:0<size) (hs8:size≤8) (hil:i<al.length) (hi2:i<200) (hSI:SI W1 xb zb rb sb mb bb base true n sent i wr) :
  Code.wp Tryz.prog body1 (Exit.then (fun a' w''=>WI1 w W1 zb1 g1 cap1 cb xb zb rb sb mb bb g cap base al adr acap ab ao size true c1 c3 c4 c5 c6 c11 c32 c33 c34 c35 c36 c37 c38 c39 c40 c41 c42 c43 c44 c45 c46 c47 c48 c49 c50 c51 c52 c53 c54 c55 c56 c57 c58 c59 c60 c61 c62 c63 c64 c65 c66 c67 c68 c69 c70 a' w''∧mu1 a' w''<mu1 ⟨#[.slice adr al.length acap,c1,.bool true,c3,c4,c5,c6,.pointer (some ⟨zb1,0,none⟩),.pointer (some ⟨mb,0,none⟩),.pointer (some ⟨cb,0,none⟩),.pointer (some ⟨xb,0,none⟩),c11,.int .i64 size,.int .i64 n,.int .i64 sent,.int .i64 i,u16,u17,u18,u19,u20,u21,u22,u23,u24,u25,u26,u27,u28,u29,u30,u31,c32,c33,c34,c35,c36,c37,c38,c39,c40,c41,c42,c43,c44,c45,c46,c47,c48,c49,c50,c51,c52,c53,c54,c55,c56,c57,c58,c59,c60,c61,c62,c63,c64,c65,c66,c67,c68,c69,c70,u71,u72,u73,u74,u75,u76,u77,u78,u79,u80,u81,u82,u83,u84,u85,u86,u87,u88,u89,u90,u91,u92,u93,u94,u95,u96,u97,u98,u99,uDW,uDX,uDY,uDZ,uEA,uEB,uEC,uED,uEE,uEF,uEG,uEH,uEI,uEJ,uEK,uEL,uEM,uEN,uEO,uEP,uEQ,uER,uES,uET,uEU,uEV,uEW,uEX,uEY,uEZ,uFA,uFB,uFC,uFD,uFE,uFF,uFG,uFH,uFI,uFJ,uFK,uFL,uFM,uFN,uFO,uFP,uFQ,uFR,uFS,uFT,uFU,uFV,uFW,uFX,uFY,uFZ,uGA,uGB,uGC,uGD,uGE,uGF,uGG,uGH,uGI,uGJ,uGK,uGL,uGM,uGN,uGO,uGP,uGQ,uGR,uGS,uGT,uGU,uGV,uGW,uGX,uGY,uGZ,uHA,uHB,uHC,uHD,uHE,uHF,uHG,uHH,uHI,uHJ,uHK,uHL,uHM,uHN,uHO,uHP,uHQ,uHR,uHS,uHT,uHU,uHV,uHW,uHX,uHY,uHZ,uIA,uIB,uIC,uID,uIE,uIF,uIG,uIH,uII,uIJ,uIK,uIL,uIM,uIN,uIO,uIP,uIQ,uIR,uIS,uIT,uIU,uIV,uIW,uIX,uIY,uIZ,uJA,uJB,uJC,uJD,uJE,uJF,uJG,uJH,uJI,uJJ,uJK,uJL,uJM,uJN,uJO,uJP,uJQ,uJR,uJS,uJT,uJU,uJV,uJW,uJX,uJY,uJZ,uKA,uKB,uKC,uKD,uKE,uKF,uKG,uKH,uKI,uKJ,uKK,uKL,uKM,uKN,uKO,uKP,uKQ,uKR,uKS,uKT,uKU,uKV,uKW,uKX,uKY,uKZ,uLA,uLB,uLC,uLD,uLE,uLF,uLG,uLH,uLI,uLJ,uLK,uLL,uLM,uLN,uLO,uLP,uLQ,uLR,uLS,uLT,uLU,uLV,uLW,uLX,uLY,uLZ],[]⟩ wr) Q0) ⟨#[.slice adr al.length acap,c1,.bool true,c3,c4,c5,c6,.pointer (some ⟨zb1,0,none⟩),.pointer (some ⟨mb,0,none⟩),.pointer (some ⟨cb,0,none⟩),.pointer (some ⟨xb,0,none⟩),c11,.int .i64 size,.int .i64 n,.int .i64 sent,.int .i64 i,u16,u17,u18,u19,u20,u21,u22,u23,u24,u25,u26,u27,u28,u29,u30,u31,c32,c33,c34,c35,c36,c37,c38,c39,c40,c41,c42,c43,c44,c45,c46,c47,c48,c49,c50,c51,c52,c53,c54,c55,c56,c57,c58,c59,c60,c61,c62,c63,c64,c65,c66,c67,c68,c69,c70,u71,u72,u73,u74,u75,u76,u77,u78,u79,u80,u81,u82,u83,u84,u85,u86,u87,u88,u89,u90,u91,u92,u93,u94,u95,u96,u97,u98,u99,uDW,uDX,uDY,uDZ,uEA,uEB,uEC,uED,uEE,uEF,uEG,uEH,uEI,uEJ,uEK,uEL,uEM,uEN,uEO,uEP,uEQ,uER,uES,uET,uEU,uEV,uEW,uEX,uEY,uEZ,uFA,uFB,uFC,uFD,uFE,uFF,uFG,uFH,uFI,uFJ,uFK,uFL,uFM,uFN,uFO,uFP,uFQ,uFR,uFS,uFT,uFU,uFV,uFW,uFX,uFY,uFZ,uGA,uGB,uGC,uGD,uGE,uGF,uGG,uGH,uGI,uGJ,uGK,uGL,uGM,uGN,uGO,uGP,uGQ,uGR,uGS,uGT,uGU,uGV,uGW,uGX,uGY,uGZ,uHA,uHB,uHC,uHD,uHE,uHF,uHG,uHH,uHI,uHJ,uHK,uHL,uHM,uHN,uHO,uHP,uHQ,uHR,uHS,uHT,uHU,uHV,uHW,uHX,uHY,uHZ,uIA,uIB,uIC,uID,uIE,uIF,uIG,uIH,uII,uIJ,uIK,uIL,uIM,uIN,uIO,uIP,uIQ,uIR,uIS,uIT,uIU,uIV,uIW,uIX,uIY,uIZ,uJA,uJB,uJC,uJD,uJE,uJF,uJG,uJH,uJI,uJJ,uJK,uJL,uJM,uJN,uJO,uJP,uJQ,uJR,uJS,uJT,uJU,uJV,uJW,uJX,uJY,uJZ,uKA,uKB,uKC,uKD,uKE,uKF,uKG,uKH,uKI,uKJ,uKK,uKL,uKM,uKN,uKO,uKP,uKQ,uKR,uKS,uKT,uKU,uKV,uKW,uKX,uKY,uKZ,uLA,uLB,uLC,uLD,uLE,uLF,uLG,uLH,uLI,uLJ,uLK,uLL,uLM,uLN,uLO,uLP,uLQ,uLR,uLS,uLT,uLU,uLV,uLW,uLX,uLY,uLZ],[]⟩ wr:=by
 obtain ⟨rfl,hab⟩:=hadr (fun e=>by rw [e] at hil; simp at hil)
 obtain ⟨⟨bs,cnt,st,sus,mp,hMac,hcnt,hst,hBs,hBk⟩,hsn,hni,hF⟩:=hSI
 obtain ⟨c,hcd⟩ : ∃ c,c=min size (al.length - i):=⟨_,rfl⟩
 obtain ⟨fr,hfr⟩ : ∃ fr:Nat→Str,fr=fun q=>fr1 (i+q) (vo al (i+q)):=⟨_,rfl⟩
 obtain ⟨an,han⟩ : ∃ an:Nat→Str,an=fun q=>an1 (i+q) (vo al (i+q)):=⟨_,rfl⟩
 have hc8:c≤8:=by omega
 have hc0:0<c:=by omega
 have hcs:c≤size:=by omega
 have hfl : ∀ q,(fr q).length=65:=fun q=>by rw [hfr]; exact fr1_len _ _
 have han2 : ∀ q,(an q).length≤200∧an q≠[]:=fun q=>by rw [han]; exact an1_len _ _
 have hIN:In W1 wr xb zb rb sb mb bb base bs cnt st n sent sus mp wr.heap.size (.slice none 0 0) [] :=
  ⟨hMac,World.ownsRow_nil _ _ _ _,hF,Nat.le_refl _,hF.size,fun g hg=>by
   obtain ⟨l1,l2,l3,l4,l5⟩:=Mac.lts hMac
   exact ⟨by omega,by omega,by omega,by omega,by omega⟩⟩
 have hlI:(i:Int)<(al.length:Int):=by omega
 have hl2:(i:Int)<200:=by omega
 have HGO:=aH hGo
 have HBS:=aH hBs
 have HBK:=aH hBk
 have HFR:=aH hfr
 have HAN:=aH han
 have HFL:=aH hfl
 have HA2:=aH han2
 have HLP:=aH (fun (Q:Exit→Act→World→Prop)=>@loop2 w W1 zb1 g1 cap1 cb xb zb rb sb mb bb g cap base bs cnt st n sent sus mp wr.heap.size al acap ab ao size i c fr an)
 have HAB:=aH hab
 have HAL:=aH hal
 have HCE:=aH hce
 have HCD:=aH hcd
 have HIN:=aH hIN
 clear hMac hF hBs hBk hfr han hfl han2 hGo hal hce hadr hcd hIN
 conv=>arg 2; whnf
 go_wp2_with fail
 refine loop2 w W1 zb1 g1 cap1 cb xb zb rb sb mb bb g cap base bs cnt st n sent sus mp wr.heap.size al acap ab ao size i c fr an _ _ wr (aU HGO) (aU HBS) (aU HAL) hab (aU HCE) hln (aU HCD) hi2 hs8 hni (aU HFR) (aU HAN) hil (aU HIN) ?_
 rintro u19 u20 u21 u22 u23 u84 u85 u86 u87 u88 u89 u90 u91 u92 u93 u94 u95 u96 u97 u98 u99 uDW uDX uDY uDZ uEA uEB uEC uED uEE uEF uEG uEH uEI uEJ uEK uEL uEM uEN uEO uEP uEQ uER uES uET uEU uEV uEW uEX uEY uEZ uFA uFB uFC uFD uFE uFF uFG uFH uFI uFJ uFK uFL uFM uFN uFO uFP uFQ uFR uFS uFT uFU uFV uFW uFX uFY uFZ uGA uGB uGC uGD uGE uGF uGG uGH uGI uGJ uGK uGL uGM uGN uGO uGP uGQ uGR uGS uGT uGU uGV uGW uGX uGY uGZ uHA uHB v w2 hI2
 obtain ⟨d0,d1,d2,d3,d4,d5⟩:=(aU HBS).cd fr c (fun q _=>by rw [aU HFL]; omega)
 have hBk2:=(aU HBK).cd (n:=n) fr c (fun q _=>by rw [aU HFL]; omega)
 obtain ⟨f,o,O,p1,p2,p3,p4,p5,p6,p7,p8,p9⟩:=hBk2.poll
 rw [if_pos rfl] at p9
 obtain ⟨p9,p10⟩:=p9
 have hin:=cdK_in bs n fr (aU HBS).hl c hc8 (fun q _=>by rw [aU HFL]; omega)
 have hmp:mp≤8:=(aU HBK).1
 have hss:sus≤300:=by
  have:=(aU HBK).2
  rw [if_pos rfl] at this
  omega
 have hH : ∀ k W,k<c→GF (Off xb rb sb mb bb) base w2 W→Calls Tryz.prog 37 #[.pointer (some ⟨zb,0,none⟩),.agg #[.string (B mine),.string (B ipMe)],.string (B (fr k))] W fun e w'=>e=.returned (.string (B (an k)))∧Below W.heap.size W w':=fun k W hk hFW=>by
  have hST:=(aU HGO).st.gf (aU HGO).ap (aU HGO).hb (hI2.kept.trans hFW)
  have:=handle_ask zb g cap (i+k) (vo al (i+k)) (vo_lt al (i+k)).1 (by omega) W hST.z hST.gl
  rw [aU HFR,aU HAN]; exact this
 obtain ⟨my,hmy⟩ : ∃ my,my=sk o c:=⟨_,rfl⟩
 have hmyc:my≤c∧o+my≤8:=by rw [hmy]; unfold sk; omega
 have HP:=aH (poll_ok xb zb rb sb mb bb base mine ipMe (cdK bs n fr c) false cnt st (n+8) n sent sus o n sent (n - sent) f c (tr mp) O (fun k=>k) (fun q=>(n+q)%8) fr an w2 hI2.mac d0 (by omega) (tr_len mp (by omega)) p1 p2 p4 p5 p6 p7 p8 hc8 (cdK_258 _ _ _ (aU HBS).hl (aU HBS).h258 c (by omega)) (by omega) (by omega) (by omega) (by omega) (by omega) (by omega) (by omega) (fun q _=>Nat.mod_lt _ (by omega)) (fun q hq=>(hin q hq).1) (fun q hq=>(hin q hq).2.1) (fun q _=>by rw [aU HFL]; omega) (fun q _=>Nat.le_trans (aU HA2 q).1 (by omega)) (fun q _=>(aU HA2 q).2) (fun q hq=>(hin q hq).2.2) hH)
 have hbs3:=(aU HBS).polled fr an o c hc8 p8 (by omega) (by omega) (fun q _=>by rw [aU HFL]; omega) (fun q _=>Nat.le_trans (aU HA2 q).1 (by omega))
 have hse3:=bsK_sent (cdK bs n fr c) (n+8) sent o (fun q=>(n+q)%8) an d0 c hc8 (fun q _=>Nat.le_trans (aU HA2 q).1 (by omega))
 have hcn3:=cntK_m (cnt+4+4*f) 65 fr c (fun q _=>by rw [aU HFL]; omega)
 have hst3:=stK_m o an st 200 c (fun q _=>(aU HA2 q).1)
 have hkp3:=fun (h:o=sent) (h2:rdN bs 770 2=0)=>Bk.kept (n:=n) (bs:=bs) (sent:=sent) fr an (fun q=>(n+q)%8) (n+8) o c hc8 h p8 h2 (fun q _=>by rw [aU HFL]; omega) (fun q _=>Nat.le_trans (aU HA2 q).1 (by omega))
 obtain ⟨gv,vc,rfl,hwc⟩:=hI2.own.cell (fun e=>by have:=congrArg List.length e; simp at this; omega)
 rw [List.length_map,List.length_range] at *
 rw [← hmy] at hbs3 hse3 hkp3
 obtain ⟨nc,hnc⟩ : ∃ nc,nc=n+c:=⟨_,rfl⟩
 obtain ⟨sm,hsm⟩ : ∃ sm,sm=sent+my:=⟨_,rfl⟩
 obtain ⟨dd,hdd⟩ : ∃ dd,dd=nc - sm:=⟨_,rfl⟩
 have HB3:=aH hbs3
 have HS3:=aH hse3
 have HK3:=aH hkp3
 have HI2:=aH hI2
 have HC3:=aH hcn3
 have HT3:=aH hst3
 have HMY:=aH hmy
 have HNC:=aH hnc
 have HSM:=aH hsm
 have HDD:=aH hdd
 have HP10:=aH p10
 have HP9:=aH p9
 have kI:(n:Int)+(c:Int)=(nc:Int):=by omega
 rw [← hnc]
 clear hbs3 hse3 hkp3 hI2 hcn3 hst3 hmy hnc hsm hdd p1 p2 p4 p5 p6 p7 hH hin d0 d1 d2 d3 d4 d5 hBk2 hwc p10 p9
 go_wp2_with fail
 refine (aU HP).mono ?_
 rintro e w3 ⟨rfl,hA3,hF3⟩
 dsimp only
 have hI3:=poll_in hA3 (aU HI2) hF3 hsn
 rw [← aU HMY,← aU HNC,← aU HSM] at hI3
 have hdd0:nc - sm=dd:=(aU HDD).symm
 obtain ⟨b3,hb3⟩ : ∃ b3,b3=bsK (cdK bs n fr c) (n+8) sent o (fun q=>(n+q)%8) an c:=⟨_,rfl⟩
 rw [← hb3] at hI3
 rw [← hb3,← aU HNC,← aU HSM] at HB3
 rw [← hb3] at HS3
 rw [← hb3] at HK3
 obtain ⟨cn3,hc3⟩ : ∃ cn3,cn3=cntK (cnt+4+4*f) fr c:=⟨_,rfl⟩
 obtain ⟨sn3,hs3⟩ : ∃ sn3,sn3=stK st o an c:=⟨_,rfl⟩
 rw [← hc3,← hs3] at hI3
 rw [← hc3] at HC3
 rw [← hs3] at HT3
 have hmac3:=hI3.mac.mac
 rw [hdd0] at hmac3
 have HCT:=aH (counts_any xb zb rb sb mine ipMe nc sm dd false w3 hmac3)
 have HI3:=aH hI3
 clear hA3 hF3 hI3 hb3 hc3 hs3 hmac3 HP HI2 HBS HBK
 go_wp2_with fail
 refine (aU HCT).mono ?_
 rintro e w4 ⟨rfl,hb4⟩
 dsimp only
 have hI5:=((aU HI3).below hb4).below ((Below.refl w4.heap.size w4).alloc (Nat.le_refl _) (.cells #[.int .i64 nc,.int .i64 sm,.int .i64 dd,.bool false] 101))
 have hT5:Told w4.heap.size nc sm dd (w4.alloc (.cells #[.int .i64 nc,.int .i64 sm,.int .i64 dd,.bool false] 101)):=aB.new w4 _ _
 have HN:Hid (Calls Tryz.prog 53 #[.pointer (some ⟨mb,0,none⟩),.int .i64 642,.int .i64 2] (w4.alloc (.cells #[.int .i64 nc,.int .i64 sm,.int .i64 dd,.bool false] 101)) fun e w'=>e=.returned (.int .i64 sm)∧w'=(w4.alloc (.cells #[.int .i64 nc,.int .i64 sm,.int .i64 dd,.bool false] 101))):=by
  have h642:=(aU HB3).h642
  have:=number_any mb bb 642 2 b3 _ (mem_seen hI5.mac.mem) (by omega) (by omega) (by rw [h642]; have:=aU HSM; omega)
  rw [h642] at this
  exact this
 have HI5:=aH hI5
 have HT5:=aH hT5
 have hwl:=mem_wild hI5.mac.mem
 have t0:(w4.alloc (.cells #[.int .i64 nc,.int .i64 sm,.int .i64 dd,.bool false] 101)).cell? ⟨w4.heap.size,0,none⟩=some (.int .i64 nc):=aB.cell hT5 0 (by simp)
 have t1:(w4.alloc (.cells #[.int .i64 nc,.int .i64 sm,.int .i64 dd,.bool false] 101)).cell? ⟨w4.heap.size,1,none⟩=some (.int .i64 sm):=aB.cell hT5 1 (by simp)
 have t3:(w4.alloc (.cells #[.int .i64 nc,.int .i64 sm,.int .i64 dd,.bool false] 101)).cell? ⟨w4.heap.size,3,none⟩=some (.bool false):=aB.cell hT5 3 (by simp)
 have hdbb:w4.heap.size≠bb:=by
  obtain ⟨_,⟨cs2,h2⟩⟩:=mem_blk hI5.mac.mem
  exact blk_ne hT5 h2 (by decide)
 clear hb4 hI5 hT5 HCT HI3
 go_wp2_with fail
 refine (aU HN).mono ?_
 rintro e w5 ⟨rfl,hw5⟩
 dsimp only
 rw [← hw5] at HI5 HT5 hwl t0 t1 t3
 have hdb:w4.heap.size=w4.heap.size:=rfl
 generalize w4.heap.size=db at *
 clear HN hw5 hdb
 have kS:(sent:Int)+(my:Int)=(sm:Int):=by have:=aU HSM; omega
 have kM:my=c:=by have:=aU HMY; have h0:o=0:=aU HP9; unfold sk at this; omega
 subst kM
 have HLS:Hid (∀ q,q<my→((List.range my).map an)[q]?.getD []=an q):=fun q hq=>by simp [hq]
 obtain ⟨isz,hisz⟩ : ∃ isz,isz=i+size:=⟨_,rfl⟩
 have kZ:(i:Int)+(size:Int)=(isz:Int):=by omega
 have HIZ:=aH hisz
 have kD:(nc:Int) - (sm:Int)=(dd:Int):=by have:=aU HDD; have:=aU HNC; have:=aU HSM; omega
 clear hisz
 go_wp2_with fail
 refine loop4 W1 xb zb rb sb mb bb base b3 cn3 sn3 nc sm (sus+f) (o+my) wr.heap.size _ ((List.range my).map an) true sent my o (Told db nc sm dd) _ w5 (aU HB3).hl (aU HB3).hd2 (fun q hq=>by rw [aU HLS q (by omega)]; exact aU HS3 q hq) (fun q hq=>by rw [aU HLS q (by omega)]; exact (aU HA2 q).1) (by simp <;> omega) (by omega) (by omega) (fun _=>aU HP9) (fun A B hA hk=>(hk.block db (aB.lt hA) hdbb).trans hA) (aU HI5) (aU HT5) ?_
 rintro u29 u30 u31 uIV uIW uIX uIY uIZ uJA uJB uJC uJD uJE uJF uJG uJH uJI uJJ uJK uJL uJM uJN uJO uJP uJQ uJR uJS uJT uJU uJV uJW uJX uJY uJZ uKA uKB uKC uKD uKE uKF uKG uKH uKI uKJ uKK uKL uKM uKN uKO uKP uKQ uKR uKS uKT uKU uKV uKW uKX uKY uKZ uLA uLB uLC uLD uLE uLF uLG uLH uLI uLJ uLK uLL uLM w6 hI6 hT6
 have HS:=aH (set_any mb bb base 770 2 sm false cn3 sn3 _ w6 hI6.mac.mem (by omega) (by omega) (by have:=aU HSM; omega))
 have HI6:=aH hI6
 have HT6:=aH hT6
 clear hI6 hT6 HI5 HT5 hwl t0 t1 t3
 go_wp2_with fail
 refine (aU HS).mono ?_
 rintro e w7 ⟨rfl,hm7,hk7,hz7⟩
 dsimp only
 have hI7:=(aU HI6).row hm7 hk7
 have hT7:Told db nc sm dd w7:=(hk7.block db (aB.lt (aU HT6)) hdbb).trans (aU HT6)
 have t2:w7.cell? ⟨db,2,none⟩=some (.int .i64 dd):=aB.cell hT7 2 (by simp)
 have e770:wrN (bq b3 true sent my) 770 sm 2=wrN (bkK b3 sent my) 770 sm 2:=rfl
 rw [e770,show sus+f=sent from aU HP10,show o+my=my by have h0:o=0:=aU HP9; omega] at hI7
 have hbk7:Bk (wrN (bkK b3 sent my) 770 sm 2) true sm sent my:=by
  have:=Bk.given (bs:=b3) (sent:=sent) (k:=my) (aU HB3).hl (by omega) (by omega)
  rw [← aU HSM] at this
  exact this
 have HSI:=aH (In.end (back:=true) (i:=isz) hI7 (by have:=aU HC3; have:=aU HIZ; omega) (by have:=aU HT3; have:=aU HIZ; omega) ((aU HB3).given sent my sm) hbk7 (by have:=aU HSM; have:=aU HNC; omega) (by have:=aU HNC; have:=aU HIZ; omega))
 clear hm7 hk7 hz7 hI7 hT7 e770 hbk7 HS HI6 HT6
 go_wp2_with fail
 refine ⟨?_,by have:=aU HIZ; simp [mu1,intOf]; omega⟩
 unfold WI1
 exact ⟨_,_,_,_,_,_,_,_,_,_,_,_,_,_,_,_,_,_,_,_,_,_,_,_,_,_,_,_,_,_,_,_,_,_,_,_,_,_,_,_,_,_,_,_,_,_,_,_,_,_,_,_,_,_,_,_,_,_,_,_,_,_,_,_,_,_,_,_,_,_,_,_,_,_,_,_,_,_,_,_,_,_,_,_,_,_,_,_,_,_,_,_,_,_,_,_,_,_,_,_,_,_,_,_,_,_,_,_,_,_,_,_,_,_,_,_,_,_,_,_,_,_,_,_,_,_,_,_,_,_,_,_,_,_,_,_,_,_,_,_,_,_,_,_,_,_,_,_,_,_,_,_,_,_,_,_,_,_,_,_,_,_,_,_,_,_,_,_,_,_,_,_,_,_,_,_,_,_,_,_,_,_,_,_,_,_,_,_,_,_,_,_,_,_,_,_,_,_,_,_,_,_,_,_,_,_,_,_,_,_,_,_,_,_,_,_,_,_,_,_,_,_,_,_,_,_,_,_,_,_,_,_,_,_,_,_,_,_,_,_,_,_,_,_,_,_,_,_,_,_,_,_,_,_,_,_,_,_,_,_,⟨nc,sm,isz,rfl,rfl,rfl,by have:=aU HIZ; omega,aU HSI⟩,rfl⟩
theorem round1f (w W1:World) (zb1 g1 cap1 cb xb zb rb sb mb bb g cap base:Nat) (al:List Int) (adr:Option Addr) (acap ab ao size:Nat) {c1 c3 c4 c5 c6 c11 c32 c33 c34 c35 c36 c37 c38 c39 c40 c41 c42 c43 c44 c45 c46 c47 c48 c49 c50 c51 c52 c53 c54 c55 c56 c57 c58 c59 c60 c61 c62 c63 c64 c65 c66 c67 c68 c69 c70 u16 u17 u18 u19 u20 u21 u22 u23 u24 u25 u26 u27 u28 u29 u30 u31 u71 u72 u73 u74 u75 u76 u77 u78 u79 u80 u81 u82 u83 u84 u85 u86 u87 u88 u89 u90 u91 u92 u93 u94 u95 u96 u97 u98 u99 uDW uDX uDY uDZ uEA uEB uEC uED uEE uEF uEG uEH uEI uEJ uEK uEL uEM uEN uEO uEP uEQ uER uES uET uEU uEV uEW uEX uEY uEZ uFA uFB uFC uFD uFE uFF uFG uFH uFI uFJ uFK uFL uFM uFN uFO uFP uFQ uFR uFS uFT uFU uFV uFW uFX uFY uFZ uGA uGB uGC uGD uGE uGF uGG uGH uGI uGJ uGK uGL uGM uGN uGO uGP uGQ uGR uGS uGT uGU uGV uGW uGX uGY uGZ uHA uHB uHC uHD uHE uHF uHG uHH uHI uHJ uHK uHL uHM uHN uHO uHP uHQ uHR uHS uHT uHU uHV uHW uHX uHY uHZ uIA uIB uIC uID uIE uIF uIG uIH uII uIJ uIK uIL uIM uIN uIO uIP uIQ uIR uIS uIT uIU uIV uIW uIX uIY uIZ uJA uJB uJC uJD uJE uJF uJG uJH uJI uJJ uJK uJL uJM uJN uJO uJP uJQ uJR uJS uJT uJU uJV uJW uJX uJY uJZ uKA uKB uKC uKD uKE uKF uKG uKH uKI uKJ uKK uKL uKM uKN uKO uKP uKQ uKR uKS uKT uKU uKV uKW uKX uKY uKZ uLA uLB uLC uLD uLE uLF uLG uLH uLI uLJ uLK uLL uLM uLN uLO uLP uLQ uLR uLS uLT uLU uLV uLW uLX uLY uLZ:Value} (Q0:Exit→Act→World→Prop) (n sent i:Nat) (wr:World) (hGo:Go1 w W1 zb1 g1 cap1 cb mb bb xb zb rb sb g cap base) (hal : ∀ a∈al,-9223372036854775808≤a∧a≤9223372036854775807) (hadr:al≠[]→adr=some ⟨ab,ao,none⟩∧ab<w.heap.size) (hce : ∀ k (h:k<al.length),w.cell? ⟨ab,ao+k,none⟩=some (.int .i64 al[k])) (hln:al.length≤9223372036854775807) (hs1:0<size) (hs8:size≤8) (hil:i<al.length) (hi2:i<200) (hSI:SI W1 xb zb rb sb mb bb base false n sent i wr) :
  Code.wp Tryz.prog body1 (Exit.then (fun a' w''=>WI1 w W1 zb1 g1 cap1 cb xb zb rb sb mb bb g cap base al adr acap ab ao size false c1 c3 c4 c5 c6 c11 c32 c33 c34 c35 c36 c37 c38 c39 c40 c41 c42 c43 c44 c45 c46 c47 c48 c49 c50 c51 c52 c53 c54 c55 c56 c57 c58 c59 c60 c61 c62 c63 c64 c65 c66 c67 c68 c69 c70 a' w''∧mu1 a' w''<mu1 ⟨#[.slice adr al.length acap,c1,.bool false,c3,c4,c5,c6,.pointer (some ⟨zb1,0,none⟩),.pointer (some ⟨mb,0,none⟩),.pointer (some ⟨cb,0,none⟩),.pointer (some ⟨xb,0,none⟩),c11,.int .i64 size,.int .i64 n,.int .i64 sent,.int .i64 i,u16,u17,u18,u19,u20,u21,u22,u23,u24,u25,u26,u27,u28,u29,u30,u31,c32,c33,c34,c35,c36,c37,c38,c39,c40,c41,c42,c43,c44,c45,c46,c47,c48,c49,c50,c51,c52,c53,c54,c55,c56,c57,c58,c59,c60,c61,c62,c63,c64,c65,c66,c67,c68,c69,c70,u71,u72,u73,u74,u75,u76,u77,u78,u79,u80,u81,u82,u83,u84,u85,u86,u87,u88,u89,u90,u91,u92,u93,u94,u95,u96,u97,u98,u99,uDW,uDX,uDY,uDZ,uEA,uEB,uEC,uED,uEE,uEF,uEG,uEH,uEI,uEJ,uEK,uEL,uEM,uEN,uEO,uEP,uEQ,uER,uES,uET,uEU,uEV,uEW,uEX,uEY,uEZ,uFA,uFB,uFC,uFD,uFE,uFF,uFG,uFH,uFI,uFJ,uFK,uFL,uFM,uFN,uFO,uFP,uFQ,uFR,uFS,uFT,uFU,uFV,uFW,uFX,uFY,uFZ,uGA,uGB,uGC,uGD,uGE,uGF,uGG,uGH,uGI,uGJ,uGK,uGL,uGM,uGN,uGO,uGP,uGQ,uGR,uGS,uGT,uGU,uGV,uGW,uGX,uGY,uGZ,uHA,uHB,uHC,uHD,uHE,uHF,uHG,uHH,uHI,uHJ,uHK,uHL,uHM,uHN,uHO,uHP,uHQ,uHR,uHS,uHT,uHU,uHV,uHW,uHX,uHY,uHZ,uIA,uIB,uIC,uID,uIE,uIF,uIG,uIH,uII,uIJ,uIK,uIL,uIM,uIN,uIO,uIP,uIQ,uIR,uIS,uIT,uIU,uIV,uIW,uIX,uIY,uIZ,uJA,uJB,uJC,uJD,uJE,uJF,uJG,uJH,uJI,uJJ,uJK,uJL,uJM,uJN,uJO,uJP,uJQ,uJR,uJS,uJT,uJU,uJV,uJW,uJX,uJY,uJZ,uKA,uKB,uKC,uKD,uKE,uKF,uKG,uKH,uKI,uKJ,uKK,uKL,uKM,uKN,uKO,uKP,uKQ,uKR,uKS,uKT,uKU,uKV,uKW,uKX,uKY,uKZ,uLA,uLB,uLC,uLD,uLE,uLF,uLG,uLH,uLI,uLJ,uLK,uLL,uLM,uLN,uLO,uLP,uLQ,uLR,uLS,uLT,uLU,uLV,uLW,uLX,uLY,uLZ],[]⟩ wr) Q0) ⟨#[.slice adr al.length acap,c1,.bool false,c3,c4,c5,c6,.pointer (some ⟨zb1,0,none⟩),.pointer (some ⟨mb,0,none⟩),.pointer (some ⟨cb,0,none⟩),.pointer (some ⟨xb,0,none⟩),c11,.int .i64 size,.int .i64 n,.int .i64 sent,.int .i64 i,u16,u17,u18,u19,u20,u21,u22,u23,u24,u25,u26,u27,u28,u29,u30,u31,c32,c33,c34,c35,c36,c37,c38,c39,c40,c41,c42,c43,c44,c45,c46,c47,c48,c49,c50,c51,c52,c53,c54,c55,c56,c57,c58,c59,c60,c61,c62,c63,c64,c65,c66,c67,c68,c69,c70,u71,u72,u73,u74,u75,u76,u77,u78,u79,u80,u81,u82,u83,u84,u85,u86,u87,u88,u89,u90,u91,u92,u93,u94,u95,u96,u97,u98,u99,uDW,uDX,uDY,uDZ,uEA,uEB,uEC,uED,uEE,uEF,uEG,uEH,uEI,uEJ,uEK,uEL,uEM,uEN,uEO,uEP,uEQ,uER,uES,uET,uEU,uEV,uEW,uEX,uEY,uEZ,uFA,uFB,uFC,uFD,uFE,uFF,uFG,uFH,uFI,uFJ,uFK,uFL,uFM,uFN,uFO,uFP,uFQ,uFR,uFS,uFT,uFU,uFV,uFW,uFX,uFY,uFZ,uGA,uGB,uGC,uGD,uGE,uGF,uGG,uGH,uGI,uGJ,uGK,uGL,uGM,uGN,uGO,uGP,uGQ,uGR,uGS,uGT,uGU,uGV,uGW,uGX,uGY,uGZ,uHA,uHB,uHC,uHD,uHE,uHF,uHG,uHH,uHI,uHJ,uHK,uHL,uHM,uHN,uHO,uHP,uHQ,uHR,uHS,uHT,uHU,uHV,uHW,uHX,uHY,uHZ,uIA,uIB,uIC,uID,uIE,uIF,uIG,uIH,uII,uIJ,uIK,uIL,uIM,uIN,uIO,uIP,uIQ,uIR,uIS,uIT,uIU,uIV,uIW,uIX,uIY,uIZ,uJA,uJB,uJC,uJD,uJE,uJF,uJG,uJH,uJI,uJJ,uJK,uJL,uJM,uJN,uJO,uJP,uJQ,uJR,uJS,uJT,uJU,uJV,uJW,uJX,uJY,uJZ,uKA,uKB,uKC,uKD,uKE,uKF,uKG,uKH,uKI,uKJ,uKK,uKL,uKM,uKN,uKO,uKP,uKQ,uKR,uKS,uKT,uKU,uKV,uKW,uKX,uKY,uKZ,uLA,uLB,uLC,uLD,uLE,uLF,uLG,uLH,uLI,uLJ,uLK,uLL,uLM,uLN,uLO,uLP,uLQ,uLR,uLS,uLT,uLU,uLV,uLW,uLX,uLY,uLZ],[]⟩ wr:=by
 obtain ⟨rfl,hab⟩:=hadr (fun e=>by rw [e] at hil; simp at hil)
 obtain ⟨⟨bs,cnt,st,sus,mp,hMac,hcnt,hst,hBs,hBk⟩,hsn,hni,hF⟩:=hSI
 obtain ⟨c,hcd⟩ : ∃ c,c=min size (al.length - i):=⟨_,rfl⟩
 obtain ⟨fr,hfr⟩ : ∃ fr:Nat→Str,fr=fun q=>fr1 (i+q) (vo al (i+q)):=⟨_,rfl⟩
 obtain ⟨an,han⟩ : ∃ an:Nat→Str,an=fun q=>an1 (i+q) (vo al (i+q)):=⟨_,rfl⟩
 have hc8:c≤8:=by omega
 have hc0:0<c:=by omega
 have hcs:c≤size:=by omega
 have hfl : ∀ q,(fr q).length=65:=fun q=>by rw [hfr]; exact fr1_len _ _
 have han2 : ∀ q,(an q).length≤200∧an q≠[]:=fun q=>by rw [han]; exact an1_len _ _
 have hIN:In W1 wr xb zb rb sb mb bb base bs cnt st n sent sus mp wr.heap.size (.slice none 0 0) [] :=
  ⟨hMac,World.ownsRow_nil _ _ _ _,hF,Nat.le_refl _,hF.size,fun g hg=>by
   obtain ⟨l1,l2,l3,l4,l5⟩:=Mac.lts hMac
   exact ⟨by omega,by omega,by omega,by omega,by omega⟩⟩
 have hlI:(i:Int)<(al.length:Int):=by omega
 have hl2:(i:Int)<200:=by omega
 have HGO:=aH hGo
 have HBS:=aH hBs
 have HBK:=aH hBk
 have HFR:=aH hfr
 have HAN:=aH han
 have HFL:=aH hfl
 have HA2:=aH han2
 have HLP:=aH (fun (Q:Exit→Act→World→Prop)=>@loop2 w W1 zb1 g1 cap1 cb xb zb rb sb mb bb g cap base bs cnt st n sent sus mp wr.heap.size al acap ab ao size i c fr an)
 have HAB:=aH hab
 have HAL:=aH hal
 have HCE:=aH hce
 have HCD:=aH hcd
 have HIN:=aH hIN
 clear hMac hF hBs hBk hfr han hfl han2 hGo hal hce hadr hcd hIN
 conv=>arg 2; whnf
 go_wp2_with fail
 refine loop2 w W1 zb1 g1 cap1 cb xb zb rb sb mb bb g cap base bs cnt st n sent sus mp wr.heap.size al acap ab ao size i c fr an _ _ wr (aU HGO) (aU HBS) (aU HAL) hab (aU HCE) hln (aU HCD) hi2 hs8 hni (aU HFR) (aU HAN) hil (aU HIN) ?_
 rintro u19 u20 u21 u22 u23 u84 u85 u86 u87 u88 u89 u90 u91 u92 u93 u94 u95 u96 u97 u98 u99 uDW uDX uDY uDZ uEA uEB uEC uED uEE uEF uEG uEH uEI uEJ uEK uEL uEM uEN uEO uEP uEQ uER uES uET uEU uEV uEW uEX uEY uEZ uFA uFB uFC uFD uFE uFF uFG uFH uFI uFJ uFK uFL uFM uFN uFO uFP uFQ uFR uFS uFT uFU uFV uFW uFX uFY uFZ uGA uGB uGC uGD uGE uGF uGG uGH uGI uGJ uGK uGL uGM uGN uGO uGP uGQ uGR uGS uGT uGU uGV uGW uGX uGY uGZ uHA uHB v w2 hI2
 obtain ⟨d0,d1,d2,d3,d4,d5⟩:=(aU HBS).cd fr c (fun q _=>by rw [aU HFL]; omega)
 have hBk2:=(aU HBK).cd (n:=n) fr c (fun q _=>by rw [aU HFL]; omega)
 obtain ⟨f,o,O,p1,p2,p3,p4,p5,p6,p7,p8,p9⟩:=hBk2.poll
 rw [if_neg (by decide)] at p9
 obtain ⟨p9,p10⟩:=p9
 have hin:=cdK_in bs n fr (aU HBS).hl c hc8 (fun q _=>by rw [aU HFL]; omega)
 have hmp:mp≤8:=(aU HBK).1
 have hss:sus≤300:=by
  have:=(aU HBK).2
  rw [if_neg (by decide)] at this
  omega
 have hH : ∀ k W,k<c→GF (Off xb rb sb mb bb) base w2 W→Calls Tryz.prog 37 #[.pointer (some ⟨zb,0,none⟩),.agg #[.string (B mine),.string (B ipMe)],.string (B (fr k))] W fun e w'=>e=.returned (.string (B (an k)))∧Below W.heap.size W w':=fun k W hk hFW=>by
  have hST:=(aU HGO).st.gf (aU HGO).ap (aU HGO).hb (hI2.kept.trans hFW)
  have:=handle_ask zb g cap (i+k) (vo al (i+k)) (vo_lt al (i+k)).1 (by omega) W hST.z hST.gl
  rw [aU HFR,aU HAN]; exact this
 obtain ⟨my,hmy⟩ : ∃ my,my=sk o c:=⟨_,rfl⟩
 have hmyc:my≤c∧o+my≤8:=by rw [hmy]; unfold sk; omega
 have HP:=aH (poll_ok xb zb rb sb mb bb base mine ipMe (cdK bs n fr c) false cnt st (n+8) n sent sus o n sent (n - sent) f c (tr mp) O (fun k=>k) (fun q=>(n+q)%8) fr an w2 hI2.mac d0 (by omega) (tr_len mp (by omega)) p1 p2 p4 p5 p6 p7 p8 hc8 (cdK_258 _ _ _ (aU HBS).hl (aU HBS).h258 c (by omega)) (by omega) (by omega) (by omega) (by omega) (by omega) (by omega) (by omega) (fun q _=>Nat.mod_lt _ (by omega)) (fun q hq=>(hin q hq).1) (fun q hq=>(hin q hq).2.1) (fun q _=>by rw [aU HFL]; omega) (fun q _=>Nat.le_trans (aU HA2 q).1 (by omega)) (fun q _=>(aU HA2 q).2) (fun q hq=>(hin q hq).2.2) hH)
 have hbs3:=(aU HBS).polled fr an o c hc8 p8 (by omega) (by omega) (fun q _=>by rw [aU HFL]; omega) (fun q _=>Nat.le_trans (aU HA2 q).1 (by omega))
 have hse3:=bsK_sent (cdK bs n fr c) (n+8) sent o (fun q=>(n+q)%8) an d0 c hc8 (fun q _=>Nat.le_trans (aU HA2 q).1 (by omega))
 have hcn3:=cntK_m (cnt+4+4*f) 65 fr c (fun q _=>by rw [aU HFL]; omega)
 have hst3:=stK_m o an st 200 c (fun q _=>(aU HA2 q).1)
 have hkp3:=fun (h:o=sent) (h2:rdN bs 770 2=0)=>Bk.kept (n:=n) (bs:=bs) (sent:=sent) fr an (fun q=>(n+q)%8) (n+8) o c hc8 h p8 h2 (fun q _=>by rw [aU HFL]; omega) (fun q _=>Nat.le_trans (aU HA2 q).1 (by omega))
 obtain ⟨gv,vc,rfl,hwc⟩:=hI2.own.cell (fun e=>by have:=congrArg List.length e; simp at this; omega)
 rw [List.length_map,List.length_range] at *
 rw [← hmy] at hbs3 hse3 hkp3
 obtain ⟨nc,hnc⟩ : ∃ nc,nc=n+c:=⟨_,rfl⟩
 obtain ⟨sm,hsm⟩ : ∃ sm,sm=sent+my:=⟨_,rfl⟩
 obtain ⟨dd,hdd⟩ : ∃ dd,dd=nc - sm:=⟨_,rfl⟩
 have HB3:=aH hbs3
 have HS3:=aH hse3
 have HK3:=aH hkp3
 have HI2:=aH hI2
 have HC3:=aH hcn3
 have HT3:=aH hst3
 have hbf:=(aU HBK).2
 rw [if_neg (by decide)] at hbf
 have HSU:=aH hbf.1
 have HKF:=aH (hkp3 p9 hbf.2.2)
 have HMY:=aH hmy
 have HNC:=aH hnc
 have HSM:=aH hsm
 have HDD:=aH hdd
 have HP10:=aH p10
 have HP9:=aH p9
 have kI:(n:Int)+(c:Int)=(nc:Int):=by omega
 rw [← hnc]
 clear hbs3 hse3 hkp3 hI2 hcn3 hst3 hmy hnc hsm hdd p1 p2 p4 p5 p6 p7 hH hin d0 d1 d2 d3 d4 d5 hBk2 hwc p10 p9
 go_wp2_with fail
 refine (aU HP).mono ?_
 rintro e w3 ⟨rfl,hA3,hF3⟩
 dsimp only
 have hI3:=poll_in hA3 (aU HI2) hF3 hsn
 rw [← aU HMY,← aU HNC,← aU HSM] at hI3
 have hdd0:nc - sm=dd:=(aU HDD).symm
 obtain ⟨b3,hb3⟩ : ∃ b3,b3=bsK (cdK bs n fr c) (n+8) sent o (fun q=>(n+q)%8) an c:=⟨_,rfl⟩
 rw [← hb3] at hI3
 rw [← hb3,← aU HNC,← aU HSM] at HB3
 rw [← hb3] at HS3
 rw [← hb3] at HK3
 rw [← hb3] at HKF
 obtain ⟨cn3,hc3⟩ : ∃ cn3,cn3=cntK (cnt+4+4*f) fr c:=⟨_,rfl⟩
 obtain ⟨sn3,hs3⟩ : ∃ sn3,sn3=stK st o an c:=⟨_,rfl⟩
 rw [← hc3,← hs3] at hI3
 rw [← hc3] at HC3
 rw [← hs3] at HT3
 have hmac3:=hI3.mac.mac
 rw [hdd0] at hmac3
 have HCT:=aH (counts_any xb zb rb sb mine ipMe nc sm dd false w3 hmac3)
 have HI3:=aH hI3
 clear hA3 hF3 hI3 hb3 hc3 hs3 hmac3 HP HI2 HBS HBK
 go_wp2_with fail
 refine (aU HCT).mono ?_
 rintro e w4 ⟨rfl,hb4⟩
 dsimp only
 have hI5:=((aU HI3).below hb4).below ((Below.refl w4.heap.size w4).alloc (Nat.le_refl _) (.cells #[.int .i64 nc,.int .i64 sm,.int .i64 dd,.bool false] 101))
 have hT5:Told w4.heap.size nc sm dd (w4.alloc (.cells #[.int .i64 nc,.int .i64 sm,.int .i64 dd,.bool false] 101)):=aB.new w4 _ _
 have HN:Hid (Calls Tryz.prog 53 #[.pointer (some ⟨mb,0,none⟩),.int .i64 642,.int .i64 2] (w4.alloc (.cells #[.int .i64 nc,.int .i64 sm,.int .i64 dd,.bool false] 101)) fun e w'=>e=.returned (.int .i64 sm)∧w'=(w4.alloc (.cells #[.int .i64 nc,.int .i64 sm,.int .i64 dd,.bool false] 101))):=by
  have h642:=(aU HB3).h642
  have:=number_any mb bb 642 2 b3 _ (mem_seen hI5.mac.mem) (by omega) (by omega) (by rw [h642]; have:=aU HSM; omega)
  rw [h642] at this
  exact this
 have HI5:=aH hI5
 have HT5:=aH hT5
 have hwl:=mem_wild hI5.mac.mem
 have t0:(w4.alloc (.cells #[.int .i64 nc,.int .i64 sm,.int .i64 dd,.bool false] 101)).cell? ⟨w4.heap.size,0,none⟩=some (.int .i64 nc):=aB.cell hT5 0 (by simp)
 have t1:(w4.alloc (.cells #[.int .i64 nc,.int .i64 sm,.int .i64 dd,.bool false] 101)).cell? ⟨w4.heap.size,1,none⟩=some (.int .i64 sm):=aB.cell hT5 1 (by simp)
 have t3:(w4.alloc (.cells #[.int .i64 nc,.int .i64 sm,.int .i64 dd,.bool false] 101)).cell? ⟨w4.heap.size,3,none⟩=some (.bool false):=aB.cell hT5 3 (by simp)
 have hdbb:w4.heap.size≠bb:=by
  obtain ⟨_,⟨cs2,h2⟩⟩:=mem_blk hI5.mac.mem
  exact blk_ne hT5 h2 (by decide)
 clear hb4 hI5 hT5 HCT HI3
 go_wp2_with fail
 refine (aU HN).mono ?_
 rintro e w5 ⟨rfl,hw5⟩
 dsimp only
 rw [← hw5] at HI5 HT5 hwl t0 t1 t3
 have hdb:w4.heap.size=w4.heap.size:=rfl
 generalize w4.heap.size=db at *
 clear HN hw5 hdb
 have kS:(sent:Int)+(my:Int)=(sm:Int):=by have:=aU HSM; omega
 have kO:sent≤8:=by have:o=sent:=aU HP9; omega
 obtain ⟨r8,hr8⟩ : ∃ r8,r8=8 - sent:=⟨_,rfl⟩
 have kR:(8:Int) - (sent:Int)=(r8:Int):=by omega
 have kM:min (c:Int) (r8:Int)=(my:Int):=by have:=aU HMY; have h0:o=sent:=aU HP9; unfold sk at this; omega
 clear hr8
 have HLS:Hid (∀ q,q<c→((List.range c).map an)[q]?.getD []=an q):=fun q hq=>by simp [hq]
 obtain ⟨isz,hisz⟩ : ∃ isz,isz=i+size:=⟨_,rfl⟩
 have kZ:(i:Int)+(size:Int)=(isz:Int):=by omega
 have HIZ:=aH hisz
 have kD:(nc:Int) - (sm:Int)=(dd:Int):=by have:=aU HDD; have:=aU HNC; have:=aU HSM; omega
 clear hisz
 go_wp2_with fail
 refine loop4 W1 xb zb rb sb mb bb base b3 cn3 sn3 nc sm (sus+f) (o+my) wr.heap.size _ ((List.range c).map an) false sent my o (Told db nc sm dd) _ w5 (aU HB3).hl (aU HB3).hd2 (fun q hq=>by rw [aU HLS q (by omega)]; exact aU HS3 q hq) (fun q hq=>by rw [aU HLS q (by omega)]; exact (aU HA2 q).1) (by simp <;> omega) (by omega) (by omega) (fun h=>by cases h) (fun A B hA hk=>(hk.block db (aB.lt hA) hdbb).trans hA) (aU HI5) (aU HT5) ?_
 rintro u29 u30 u31 uIV uIW uIX uIY uIZ uJA uJB uJC uJD uJE uJF uJG uJH uJI uJJ uJK uJL uJM uJN uJO uJP uJQ uJR uJS uJT uJU uJV uJW uJX uJY uJZ uKA uKB uKC uKD uKE uKF uKG uKH uKI uKJ uKK uKL uKM uKN uKO uKP uKQ uKR uKS uKT uKU uKV uKW uKX uKY uKZ uLA uLB uLC uLD uLE uLF uLG uLH uLI uLJ uLK uLL uLM w6 hI6 hT6
 have t2:w6.cell? ⟨db,2,none⟩=some (.int .i64 dd):=aB.cell hT6 2 (by simp)
 have e6:bq b3 false sent my=b3:=rfl
 rw [e6,show sus+f=0 by have:f=0:=aU HP10; have:=aU HSU; omega] at hI6
 have hbk6:Bk b3 false sm 0 (o+my):=by
  have:=aU HKF
  rw [← aU HSM] at this
  exact this
 have HSI:=aH (In.end (back:=false) (i:=isz) hI6 (by have:=aU HC3; have:=aU HIZ; omega) (by have:=aU HT3; have:=aU HIZ; omega) (aU HB3) hbk6 (by have:=aU HSM; have:=aU HNC; omega) (by have:=aU HNC; have:=aU HIZ; omega))
 clear hI6 hT6 e6 hbk6 HI5 HT5 hwl t0 t1 t3
 go_wp2_with fail
 refine ⟨?_,by have:=aU HIZ; simp [mu1,intOf]; omega⟩
 unfold WI1
 exact ⟨_,_,_,_,_,_,_,_,_,_,_,_,_,_,_,_,_,_,_,_,_,_,_,_,_,_,_,_,_,_,_,_,_,_,_,_,_,_,_,_,_,_,_,_,_,_,_,_,_,_,_,_,_,_,_,_,_,_,_,_,_,_,_,_,_,_,_,_,_,_,_,_,_,_,_,_,_,_,_,_,_,_,_,_,_,_,_,_,_,_,_,_,_,_,_,_,_,_,_,_,_,_,_,_,_,_,_,_,_,_,_,_,_,_,_,_,_,_,_,_,_,_,_,_,_,_,_,_,_,_,_,_,_,_,_,_,_,_,_,_,_,_,_,_,_,_,_,_,_,_,_,_,_,_,_,_,_,_,_,_,_,_,_,_,_,_,_,_,_,_,_,_,_,_,_,_,_,_,_,_,_,_,_,_,_,_,_,_,_,_,_,_,_,_,_,_,_,_,_,_,_,_,_,_,_,_,_,_,_,_,_,_,_,_,_,_,_,_,_,_,_,_,_,_,_,_,_,_,_,_,_,_,_,_,_,_,_,_,_,_,_,_,_,_,_,_,_,_,_,_,_,_,_,_,_,_,_,_,_,_,⟨nc,sm,isz,rfl,rfl,rfl,by have:=aU HIZ; omega,aU HSI⟩,rfl⟩
theorem last1 (w W1:World) (zb1 g1 cap1 cb xb zb rb sb mb bb g cap base:Nat) (al:List Int) (adr:Option Addr) (acap ab ao size:Nat) (back:Bool) {c1 c3 c4 c5 c6 c11 c32 c33 c34 c35 c36 c37 c38 c39 c40 c41 c42 c43 c44 c45 c46 c47 c48 c49 c50 c51 c52 c53 c54 c55 c56 c57 c58 c59 c60 c61 c62 c63 c64 c65 c66 c67 c68 c69 c70 u16 u17 u18 u19 u20 u21 u22 u23 u24 u25 u26 u27 u28 u29 u30 u31 u71 u72 u73 u74 u75 u76 u77 u78 u79 u80 u81 u82 u83 u84 u85 u86 u87 u88 u89 u90 u91 u92 u93 u94 u95 u96 u97 u98 u99 uDW uDX uDY uDZ uEA uEB uEC uED uEE uEF uEG uEH uEI uEJ uEK uEL uEM uEN uEO uEP uEQ uER uES uET uEU uEV uEW uEX uEY uEZ uFA uFB uFC uFD uFE uFF uFG uFH uFI uFJ uFK uFL uFM uFN uFO uFP uFQ uFR uFS uFT uFU uFV uFW uFX uFY uFZ uGA uGB uGC uGD uGE uGF uGG uGH uGI uGJ uGK uGL uGM uGN uGO uGP uGQ uGR uGS uGT uGU uGV uGW uGX uGY uGZ uHA uHB uHC uHD uHE uHF uHG uHH uHI uHJ uHK uHL uHM uHN uHO uHP uHQ uHR uHS uHT uHU uHV uHW uHX uHY uHZ uIA uIB uIC uID uIE uIF uIG uIH uII uIJ uIK uIL uIM uIN uIO uIP uIQ uIR uIS uIT uIU uIV uIW uIX uIY uIZ uJA uJB uJC uJD uJE uJF uJG uJH uJI uJJ uJK uJL uJM uJN uJO uJP uJQ uJR uJS uJT uJU uJV uJW uJX uJY uJZ uKA uKB uKC uKD uKE uKF uKG uKH uKI uKJ uKK uKL uKM uKN uKO uKP uKQ uKR uKS uKT uKU uKV uKW uKX uKY uKZ uLA uLB uLC uLD uLE uLF uLG uLH uLI uLJ uLK uLL uLM uLN uLO uLP uLQ uLR uLS uLT uLU uLV uLW uLX uLY uLZ:Value} (Q0:Exit→Act→World→Prop) (n sent i:Nat) (wr:World) (hln:al.length≤9223372036854775807) (hi:i≤207) (hc : ¬ (i<al.length∧i<200)) (hSI:SI W1 xb zb rb sb mb bb base back n sent i wr)
  (hexit : ∀ (u13 u14 u15 u16 u17 u18 u19 u20 u21 u22 u23 u24 u25 u26 u27 u28 u29 u30 u31 u71 u72 u73 u74 u75 u76 u77 u78 u79 u80 u81 u82 u83 u84 u85 u86 u87 u88 u89 u90 u91 u92 u93 u94 u95 u96 u97 u98 u99 uDW uDX uDY uDZ uEA uEB uEC uED uEE uEF uEG uEH uEI uEJ uEK uEL uEM uEN uEO uEP uEQ uER uES uET uEU uEV uEW uEX uEY uEZ uFA uFB uFC uFD uFE uFF uFG uFH uFI uFJ uFK uFL uFM uFN uFO uFP uFQ uFR uFS uFT uFU uFV uFW uFX uFY uFZ uGA uGB uGC uGD uGE uGF uGG uGH uGI uGJ uGK uGL uGM uGN uGO uGP uGQ uGR uGS uGT uGU uGV uGW uGX uGY uGZ uHA uHB uHC uHD uHE uHF uHG uHH uHI uHJ uHK uHL uHM uHN uHO uHP uHQ uHR uHS uHT uHU uHV uHW uHX uHY uHZ uIA uIB uIC uID uIE uIF uIG uIH uII uIJ uIK uIL uIM uIN uIO uIP uIQ uIR uIS uIT uIU uIV uIW uIX uIY uIZ uJA uJB uJC uJD uJE uJF uJG uJH uJI uJJ uJK uJL uJM uJN uJO uJP uJQ uJR uJS uJT uJU uJV uJW uJX uJY uJZ uKA uKB uKC uKD uKE uKF uKG uKH uKI uKJ uKK uKL uKM uKN uKO uKP uKQ uKR uKS uKT uKU uKV uKW uKX uKY uKZ uLA uLB uLC uLD uLE uLF uLG uLH uLI uLJ uLK uLL uLM uLN uLO uLP uLQ uLR uLS uLT uLU uLV uLW uLX uLY uLZ:Value) (w':World),GF (Off xb rb sb mb bb) base W1 w'→Q0 (.exit 0) ⟨#[.slice adr al.length acap,c1,.bool back,c3,c4,c5,c6,.pointer (some ⟨zb1,0,none⟩),.pointer (some ⟨mb,0,none⟩),.pointer (some ⟨cb,0,none⟩),.pointer (some ⟨xb,0,none⟩),c11,.int .i64 size,u13,u14,u15,u16,u17,u18,u19,u20,u21,u22,u23,u24,u25,u26,u27,u28,u29,u30,u31,c32,c33,c34,c35,c36,c37,c38,c39,c40,c41,c42,c43,c44,c45,c46,c47,c48,c49,c50,c51,c52,c53,c54,c55,c56,c57,c58,c59,c60,c61,c62,c63,c64,c65,c66,c67,c68,c69,c70,u71,u72,u73,u74,u75,u76,u77,u78,u79,u80,u81,u82,u83,u84,u85,u86,u87,u88,u89,u90,u91,u92,u93,u94,u95,u96,u97,u98,u99,uDW,uDX,uDY,uDZ,uEA,uEB,uEC,uED,uEE,uEF,uEG,uEH,uEI,uEJ,uEK,uEL,uEM,uEN,uEO,uEP,uEQ,uER,uES,uET,uEU,uEV,uEW,uEX,uEY,uEZ,uFA,uFB,uFC,uFD,uFE,uFF,uFG,uFH,uFI,uFJ,uFK,uFL,uFM,uFN,uFO,uFP,uFQ,uFR,uFS,uFT,uFU,uFV,uFW,uFX,uFY,uFZ,uGA,uGB,uGC,uGD,uGE,uGF,uGG,uGH,uGI,uGJ,uGK,uGL,uGM,uGN,uGO,uGP,uGQ,uGR,uGS,uGT,uGU,uGV,uGW,uGX,uGY,uGZ,uHA,uHB,uHC,uHD,uHE,uHF,uHG,uHH,uHI,uHJ,uHK,uHL,uHM,uHN,uHO,uHP,uHQ,uHR,uHS,uHT,uHU,uHV,uHW,uHX,uHY,uHZ,uIA,uIB,uIC,uID,uIE,uIF,uIG,uIH,uII,uIJ,uIK,uIL,uIM,uIN,uIO,uIP,uIQ,uIR,uIS,uIT,uIU,uIV,uIW,uIX,uIY,uIZ,uJA,uJB,uJC,uJD,uJE,uJF,uJG,uJH,uJI,uJJ,uJK,uJL,uJM,uJN,uJO,uJP,uJQ,uJR,uJS,uJT,uJU,uJV,uJW,uJX,uJY,uJZ,uKA,uKB,uKC,uKD,uKE,uKF,uKG,uKH,uKI,uKJ,uKK,uKL,uKM,uKN,uKO,uKP,uKQ,uKR,uKS,uKT,uKU,uKV,uKW,uKX,uKY,uKZ,uLA,uLB,uLC,uLD,uLE,uLF,uLG,uLH,uLI,uLJ,uLK,uLL,uLM,uLN,uLO,uLP,uLQ,uLR,uLS,uLT,uLU,uLV,uLW,uLX,uLY,uLZ],[]⟩ w') :
  Code.wp Tryz.prog body1 (Exit.then (fun a' w''=>WI1 w W1 zb1 g1 cap1 cb xb zb rb sb mb bb g cap base al adr acap ab ao size back c1 c3 c4 c5 c6 c11 c32 c33 c34 c35 c36 c37 c38 c39 c40 c41 c42 c43 c44 c45 c46 c47 c48 c49 c50 c51 c52 c53 c54 c55 c56 c57 c58 c59 c60 c61 c62 c63 c64 c65 c66 c67 c68 c69 c70 a' w''∧mu1 a' w''<mu1 ⟨#[.slice adr al.length acap,c1,.bool back,c3,c4,c5,c6,.pointer (some ⟨zb1,0,none⟩),.pointer (some ⟨mb,0,none⟩),.pointer (some ⟨cb,0,none⟩),.pointer (some ⟨xb,0,none⟩),c11,.int .i64 size,.int .i64 n,.int .i64 sent,.int .i64 i,u16,u17,u18,u19,u20,u21,u22,u23,u24,u25,u26,u27,u28,u29,u30,u31,c32,c33,c34,c35,c36,c37,c38,c39,c40,c41,c42,c43,c44,c45,c46,c47,c48,c49,c50,c51,c52,c53,c54,c55,c56,c57,c58,c59,c60,c61,c62,c63,c64,c65,c66,c67,c68,c69,c70,u71,u72,u73,u74,u75,u76,u77,u78,u79,u80,u81,u82,u83,u84,u85,u86,u87,u88,u89,u90,u91,u92,u93,u94,u95,u96,u97,u98,u99,uDW,uDX,uDY,uDZ,uEA,uEB,uEC,uED,uEE,uEF,uEG,uEH,uEI,uEJ,uEK,uEL,uEM,uEN,uEO,uEP,uEQ,uER,uES,uET,uEU,uEV,uEW,uEX,uEY,uEZ,uFA,uFB,uFC,uFD,uFE,uFF,uFG,uFH,uFI,uFJ,uFK,uFL,uFM,uFN,uFO,uFP,uFQ,uFR,uFS,uFT,uFU,uFV,uFW,uFX,uFY,uFZ,uGA,uGB,uGC,uGD,uGE,uGF,uGG,uGH,uGI,uGJ,uGK,uGL,uGM,uGN,uGO,uGP,uGQ,uGR,uGS,uGT,uGU,uGV,uGW,uGX,uGY,uGZ,uHA,uHB,uHC,uHD,uHE,uHF,uHG,uHH,uHI,uHJ,uHK,uHL,uHM,uHN,uHO,uHP,uHQ,uHR,uHS,uHT,uHU,uHV,uHW,uHX,uHY,uHZ,uIA,uIB,uIC,uID,uIE,uIF,uIG,uIH,uII,uIJ,uIK,uIL,uIM,uIN,uIO,uIP,uIQ,uIR,uIS,uIT,uIU,uIV,uIW,uIX,uIY,uIZ,uJA,uJB,uJC,uJD,uJE,uJF,uJG,uJH,uJI,uJJ,uJK,uJL,uJM,uJN,uJO,uJP,uJQ,uJR,uJS,uJT,uJU,uJV,uJW,uJX,uJY,uJZ,uKA,uKB,uKC,uKD,uKE,uKF,uKG,uKH,uKI,uKJ,uKK,uKL,uKM,uKN,uKO,uKP,uKQ,uKR,uKS,uKT,uKU,uKV,uKW,uKX,uKY,uKZ,uLA,uLB,uLC,uLD,uLE,uLF,uLG,uLH,uLI,uLJ,uLK,uLL,uLM,uLN,uLO,uLP,uLQ,uLR,uLS,uLT,uLU,uLV,uLW,uLX,uLY,uLZ],[]⟩ wr) Q0) ⟨#[.slice adr al.length acap,c1,.bool back,c3,c4,c5,c6,.pointer (some ⟨zb1,0,none⟩),.pointer (some ⟨mb,0,none⟩),.pointer (some ⟨cb,0,none⟩),.pointer (some ⟨xb,0,none⟩),c11,.int .i64 size,.int .i64 n,.int .i64 sent,.int .i64 i,u16,u17,u18,u19,u20,u21,u22,u23,u24,u25,u26,u27,u28,u29,u30,u31,c32,c33,c34,c35,c36,c37,c38,c39,c40,c41,c42,c43,c44,c45,c46,c47,c48,c49,c50,c51,c52,c53,c54,c55,c56,c57,c58,c59,c60,c61,c62,c63,c64,c65,c66,c67,c68,c69,c70,u71,u72,u73,u74,u75,u76,u77,u78,u79,u80,u81,u82,u83,u84,u85,u86,u87,u88,u89,u90,u91,u92,u93,u94,u95,u96,u97,u98,u99,uDW,uDX,uDY,uDZ,uEA,uEB,uEC,uED,uEE,uEF,uEG,uEH,uEI,uEJ,uEK,uEL,uEM,uEN,uEO,uEP,uEQ,uER,uES,uET,uEU,uEV,uEW,uEX,uEY,uEZ,uFA,uFB,uFC,uFD,uFE,uFF,uFG,uFH,uFI,uFJ,uFK,uFL,uFM,uFN,uFO,uFP,uFQ,uFR,uFS,uFT,uFU,uFV,uFW,uFX,uFY,uFZ,uGA,uGB,uGC,uGD,uGE,uGF,uGG,uGH,uGI,uGJ,uGK,uGL,uGM,uGN,uGO,uGP,uGQ,uGR,uGS,uGT,uGU,uGV,uGW,uGX,uGY,uGZ,uHA,uHB,uHC,uHD,uHE,uHF,uHG,uHH,uHI,uHJ,uHK,uHL,uHM,uHN,uHO,uHP,uHQ,uHR,uHS,uHT,uHU,uHV,uHW,uHX,uHY,uHZ,uIA,uIB,uIC,uID,uIE,uIF,uIG,uIH,uII,uIJ,uIK,uIL,uIM,uIN,uIO,uIP,uIQ,uIR,uIS,uIT,uIU,uIV,uIW,uIX,uIY,uIZ,uJA,uJB,uJC,uJD,uJE,uJF,uJG,uJH,uJI,uJJ,uJK,uJL,uJM,uJN,uJO,uJP,uJQ,uJR,uJS,uJT,uJU,uJV,uJW,uJX,uJY,uJZ,uKA,uKB,uKC,uKD,uKE,uKF,uKG,uKH,uKI,uKJ,uKK,uKL,uKM,uKN,uKO,uKP,uKQ,uKR,uKS,uKT,uKU,uKV,uKW,uKX,uKY,uKZ,uLA,uLB,uLC,uLD,uLE,uLF,uLG,uLH,uLI,uLJ,uLK,uLL,uLM,uLN,uLO,uLP,uLQ,uLR,uLS,uLT,uLU,uLV,uLW,uLX,uLY,uLZ],[]⟩ wr:=by
 have HK:=aH hSI.kept
 have HE:=aH hexit
 clear hSI hexit
 by_cases hil:i<al.length
 ·have h1:(i:Int)<(al.length:Int):=by omega
  have h2 : ¬ (i:Int)<200:=by omega
  clear hc
  conv=>arg 2; whnf
  go_wp2_with fail
  exact aU HE _ _ _ _ _ _ _ _ _ _ _ _ _ _ _ _ _ _ _ _ _ _ _ _ _ _ _ _ _ _ _ _ _ _ _ _ _ _ _ _ _ _ _ _ _ _ _ _ _ _ _ _ _ _ _ _ _ _ _ _ _ _ _ _ _ _ _ _ _ _ _ _ _ _ _ _ _ _ _ _ _ _ _ _ _ _ _ _ _ _ _ _ _ _ _ _ _ _ _ _ _ _ _ _ _ _ _ _ _ _ _ _ _ _ _ _ _ _ _ _ _ _ _ _ _ _ _ _ _ _ _ _ _ _ _ _ _ _ _ _ _ _ _ _ _ _ _ _ _ _ _ _ _ _ _ _ _ _ _ _ _ _ _ _ _ _ _ _ _ _ _ _ _ _ _ _ _ _ _ _ _ _ _ _ _ _ _ _ _ _ _ _ _ _ _ _ _ _ _ _ _ _ _ _ _ _ _ _ _ _ _ _ _ _ _ _ _ _ _ _ _ _ _ _ _ _ _ _ _ _ _ _ _ _ _ _ _ _ _ _ _ _ _ _ _ _ _ _ _ _ _ _ _ _ _ _ _ _ _ _ _ (aU HK)
 ·have h1 : ¬ (i:Int)<(al.length:Int):=by omega
  clear hc
  conv=>arg 2; whnf
  go_wp2_with fail
  exact aU HE _ _ _ _ _ _ _ _ _ _ _ _ _ _ _ _ _ _ _ _ _ _ _ _ _ _ _ _ _ _ _ _ _ _ _ _ _ _ _ _ _ _ _ _ _ _ _ _ _ _ _ _ _ _ _ _ _ _ _ _ _ _ _ _ _ _ _ _ _ _ _ _ _ _ _ _ _ _ _ _ _ _ _ _ _ _ _ _ _ _ _ _ _ _ _ _ _ _ _ _ _ _ _ _ _ _ _ _ _ _ _ _ _ _ _ _ _ _ _ _ _ _ _ _ _ _ _ _ _ _ _ _ _ _ _ _ _ _ _ _ _ _ _ _ _ _ _ _ _ _ _ _ _ _ _ _ _ _ _ _ _ _ _ _ _ _ _ _ _ _ _ _ _ _ _ _ _ _ _ _ _ _ _ _ _ _ _ _ _ _ _ _ _ _ _ _ _ _ _ _ _ _ _ _ _ _ _ _ _ _ _ _ _ _ _ _ _ _ _ _ _ _ _ _ _ _ _ _ _ _ _ _ _ _ _ _ _ _ _ _ _ _ _ _ _ _ _ _ _ _ _ _ _ _ _ _ _ _ _ _ _ (aU HK)
theorem loop1 (w W1:World) (zb1 g1 cap1 cb xb zb rb sb mb bb g cap base:Nat) (al:List Int) (adr:Option Addr) (acap ab ao size:Nat) (back:Bool) {c1 c3 c4 c5 c6 c11 c32 c33 c34 c35 c36 c37 c38 c39 c40 c41 c42 c43 c44 c45 c46 c47 c48 c49 c50 c51 c52 c53 c54 c55 c56 c57 c58 c59 c60 c61 c62 c63 c64 c65 c66 c67 c68 c69 c70 u16 u17 u18 u19 u20 u21 u22 u23 u24 u25 u26 u27 u28 u29 u30 u31 u71 u72 u73 u74 u75 u76 u77 u78 u79 u80 u81 u82 u83 u84 u85 u86 u87 u88 u89 u90 u91 u92 u93 u94 u95 u96 u97 u98 u99 uDW uDX uDY uDZ uEA uEB uEC uED uEE uEF uEG uEH uEI uEJ uEK uEL uEM uEN uEO uEP uEQ uER uES uET uEU uEV uEW uEX uEY uEZ uFA uFB uFC uFD uFE uFF uFG uFH uFI uFJ uFK uFL uFM uFN uFO uFP uFQ uFR uFS uFT uFU uFV uFW uFX uFY uFZ uGA uGB uGC uGD uGE uGF uGG uGH uGI uGJ uGK uGL uGM uGN uGO uGP uGQ uGR uGS uGT uGU uGV uGW uGX uGY uGZ uHA uHB uHC uHD uHE uHF uHG uHH uHI uHJ uHK uHL uHM uHN uHO uHP uHQ uHR uHS uHT uHU uHV uHW uHX uHY uHZ uIA uIB uIC uID uIE uIF uIG uIH uII uIJ uIK uIL uIM uIN uIO uIP uIQ uIR uIS uIT uIU uIV uIW uIX uIY uIZ uJA uJB uJC uJD uJE uJF uJG uJH uJI uJJ uJK uJL uJM uJN uJO uJP uJQ uJR uJS uJT uJU uJV uJW uJX uJY uJZ uKA uKB uKC uKD uKE uKF uKG uKH uKI uKJ uKK uKL uKM uKN uKO uKP uKQ uKR uKS uKT uKU uKV uKW uKX uKY uKZ uLA uLB uLC uLD uLE uLF uLG uLH uLI uLJ uLK uLL uLM uLN uLO uLP uLQ uLR uLS uLT uLU uLV uLW uLX uLY uLZ:Value} (Q0:Exit→Act→World→Prop) (wr:World) (hGo:Go1 w W1 zb1 g1 cap1 cb mb bb xb zb rb sb g cap base) (hal : ∀ a∈al,-9223372036854775808≤a∧a≤9223372036854775807) (hadr:al≠[]→adr=some ⟨ab,ao,none⟩∧ab<w.heap.size) (hce : ∀ k (h:k<al.length),w.cell? ⟨ab,ao+k,none⟩=some (.int .i64 al[k])) (hln:al.length≤9223372036854775807) (hs1:0<size) (hs8:size≤8) (hSI:SI W1 xb zb rb sb mb bb base back 0 0 0 wr)
  (hexit : ∀ (u13 u14 u15 u16 u17 u18 u19 u20 u21 u22 u23 u24 u25 u26 u27 u28 u29 u30 u31 u71 u72 u73 u74 u75 u76 u77 u78 u79 u80 u81 u82 u83 u84 u85 u86 u87 u88 u89 u90 u91 u92 u93 u94 u95 u96 u97 u98 u99 uDW uDX uDY uDZ uEA uEB uEC uED uEE uEF uEG uEH uEI uEJ uEK uEL uEM uEN uEO uEP uEQ uER uES uET uEU uEV uEW uEX uEY uEZ uFA uFB uFC uFD uFE uFF uFG uFH uFI uFJ uFK uFL uFM uFN uFO uFP uFQ uFR uFS uFT uFU uFV uFW uFX uFY uFZ uGA uGB uGC uGD uGE uGF uGG uGH uGI uGJ uGK uGL uGM uGN uGO uGP uGQ uGR uGS uGT uGU uGV uGW uGX uGY uGZ uHA uHB uHC uHD uHE uHF uHG uHH uHI uHJ uHK uHL uHM uHN uHO uHP uHQ uHR uHS uHT uHU uHV uHW uHX uHY uHZ uIA uIB uIC uID uIE uIF uIG uIH uII uIJ uIK uIL uIM uIN uIO uIP uIQ uIR uIS uIT uIU uIV uIW uIX uIY uIZ uJA uJB uJC uJD uJE uJF uJG uJH uJI uJJ uJK uJL uJM uJN uJO uJP uJQ uJR uJS uJT uJU uJV uJW uJX uJY uJZ uKA uKB uKC uKD uKE uKF uKG uKH uKI uKJ uKK uKL uKM uKN uKO uKP uKQ uKR uKS uKT uKU uKV uKW uKX uKY uKZ uLA uLB uLC uLD uLE uLF uLG uLH uLI uLJ uLK uLL uLM uLN uLO uLP uLQ uLR uLS uLT uLU uLV uLW uLX uLY uLZ:Value) (w':World),GF (Off xb rb sb mb bb) base W1 w'→Q0 (.exit 0) ⟨#[.slice adr al.length acap,c1,.bool back,c3,c4,c5,c6,.pointer (some ⟨zb1,0,none⟩),.pointer (some ⟨mb,0,none⟩),.pointer (some ⟨cb,0,none⟩),.pointer (some ⟨xb,0,none⟩),c11,.int .i64 size,u13,u14,u15,u16,u17,u18,u19,u20,u21,u22,u23,u24,u25,u26,u27,u28,u29,u30,u31,c32,c33,c34,c35,c36,c37,c38,c39,c40,c41,c42,c43,c44,c45,c46,c47,c48,c49,c50,c51,c52,c53,c54,c55,c56,c57,c58,c59,c60,c61,c62,c63,c64,c65,c66,c67,c68,c69,c70,u71,u72,u73,u74,u75,u76,u77,u78,u79,u80,u81,u82,u83,u84,u85,u86,u87,u88,u89,u90,u91,u92,u93,u94,u95,u96,u97,u98,u99,uDW,uDX,uDY,uDZ,uEA,uEB,uEC,uED,uEE,uEF,uEG,uEH,uEI,uEJ,uEK,uEL,uEM,uEN,uEO,uEP,uEQ,uER,uES,uET,uEU,uEV,uEW,uEX,uEY,uEZ,uFA,uFB,uFC,uFD,uFE,uFF,uFG,uFH,uFI,uFJ,uFK,uFL,uFM,uFN,uFO,uFP,uFQ,uFR,uFS,uFT,uFU,uFV,uFW,uFX,uFY,uFZ,uGA,uGB,uGC,uGD,uGE,uGF,uGG,uGH,uGI,uGJ,uGK,uGL,uGM,uGN,uGO,uGP,uGQ,uGR,uGS,uGT,uGU,uGV,uGW,uGX,uGY,uGZ,uHA,uHB,uHC,uHD,uHE,uHF,uHG,uHH,uHI,uHJ,uHK,uHL,uHM,uHN,uHO,uHP,uHQ,uHR,uHS,uHT,uHU,uHV,uHW,uHX,uHY,uHZ,uIA,uIB,uIC,uID,uIE,uIF,uIG,uIH,uII,uIJ,uIK,uIL,uIM,uIN,uIO,uIP,uIQ,uIR,uIS,uIT,uIU,uIV,uIW,uIX,uIY,uIZ,uJA,uJB,uJC,uJD,uJE,uJF,uJG,uJH,uJI,uJJ,uJK,uJL,uJM,uJN,uJO,uJP,uJQ,uJR,uJS,uJT,uJU,uJV,uJW,uJX,uJY,uJZ,uKA,uKB,uKC,uKD,uKE,uKF,uKG,uKH,uKI,uKJ,uKK,uKL,uKM,uKN,uKO,uKP,uKQ,uKR,uKS,uKT,uKU,uKV,uKW,uKX,uKY,uKZ,uLA,uLB,uLC,uLD,uLE,uLF,uLG,uLH,uLI,uLJ,uLK,uLL,uLM,uLN,uLO,uLP,uLQ,uLR,uLS,uLT,uLU,uLV,uLW,uLX,uLY,uLZ],[]⟩ w') :
  Code.wp Tryz.prog (Code.loop body1) Q0 ⟨#[.slice adr al.length acap,c1,.bool back,c3,c4,c5,c6,.pointer (some ⟨zb1,0,none⟩),.pointer (some ⟨mb,0,none⟩),.pointer (some ⟨cb,0,none⟩),.pointer (some ⟨xb,0,none⟩),c11,.int .i64 size,.int .i64 0,.int .i64 0,.int .i64 0,u16,u17,u18,u19,u20,u21,u22,u23,u24,u25,u26,u27,u28,u29,u30,u31,c32,c33,c34,c35,c36,c37,c38,c39,c40,c41,c42,c43,c44,c45,c46,c47,c48,c49,c50,c51,c52,c53,c54,c55,c56,c57,c58,c59,c60,c61,c62,c63,c64,c65,c66,c67,c68,c69,c70,u71,u72,u73,u74,u75,u76,u77,u78,u79,u80,u81,u82,u83,u84,u85,u86,u87,u88,u89,u90,u91,u92,u93,u94,u95,u96,u97,u98,u99,uDW,uDX,uDY,uDZ,uEA,uEB,uEC,uED,uEE,uEF,uEG,uEH,uEI,uEJ,uEK,uEL,uEM,uEN,uEO,uEP,uEQ,uER,uES,uET,uEU,uEV,uEW,uEX,uEY,uEZ,uFA,uFB,uFC,uFD,uFE,uFF,uFG,uFH,uFI,uFJ,uFK,uFL,uFM,uFN,uFO,uFP,uFQ,uFR,uFS,uFT,uFU,uFV,uFW,uFX,uFY,uFZ,uGA,uGB,uGC,uGD,uGE,uGF,uGG,uGH,uGI,uGJ,uGK,uGL,uGM,uGN,uGO,uGP,uGQ,uGR,uGS,uGT,uGU,uGV,uGW,uGX,uGY,uGZ,uHA,uHB,uHC,uHD,uHE,uHF,uHG,uHH,uHI,uHJ,uHK,uHL,uHM,uHN,uHO,uHP,uHQ,uHR,uHS,uHT,uHU,uHV,uHW,uHX,uHY,uHZ,uIA,uIB,uIC,uID,uIE,uIF,uIG,uIH,uII,uIJ,uIK,uIL,uIM,uIN,uIO,uIP,uIQ,uIR,uIS,uIT,uIU,uIV,uIW,uIX,uIY,uIZ,uJA,uJB,uJC,uJD,uJE,uJF,uJG,uJH,uJI,uJJ,uJK,uJL,uJM,uJN,uJO,uJP,uJQ,uJR,uJS,uJT,uJU,uJV,uJW,uJX,uJY,uJZ,uKA,uKB,uKC,uKD,uKE,uKF,uKG,uKH,uKI,uKJ,uKK,uKL,uKM,uKN,uKO,uKP,uKQ,uKR,uKS,uKT,uKU,uKV,uKW,uKX,uKY,uKZ,uLA,uLB,uLC,uLD,uLE,uLF,uLG,uLH,uLI,uLJ,uLK,uLL,uLM,uLN,uLO,uLP,uLQ,uLR,uLS,uLT,uLU,uLV,uLW,uLX,uLY,uLZ],[]⟩ wr:=by
 refine wp_loop (WI1 w W1 zb1 g1 cap1 cb xb zb rb sb mb bb g cap base al adr acap ab ao size back c1 c3 c4 c5 c6 c11 c32 c33 c34 c35 c36 c37 c38 c39 c40 c41 c42 c43 c44 c45 c46 c47 c48 c49 c50 c51 c52 c53 c54 c55 c56 c57 c58 c59 c60 c61 c62 c63 c64 c65 c66 c67 c68 c69 c70) mu1 ?_ ?_
 ·unfold WI1
  exact ⟨_,_,_,_,_,_,_,_,_,_,_,_,_,_,_,_,_,_,_,_,_,_,_,_,_,_,_,_,_,_,_,_,_,_,_,_,_,_,_,_,_,_,_,_,_,_,_,_,_,_,_,_,_,_,_,_,_,_,_,_,_,_,_,_,_,_,_,_,_,_,_,_,_,_,_,_,_,_,_,_,_,_,_,_,_,_,_,_,_,_,_,_,_,_,_,_,_,_,_,_,_,_,_,_,_,_,_,_,_,_,_,_,_,_,_,_,_,_,_,_,_,_,_,_,_,_,_,_,_,_,_,_,_,_,_,_,_,_,_,_,_,_,_,_,_,_,_,_,_,_,_,_,_,_,_,_,_,_,_,_,_,_,_,_,_,_,_,_,_,_,_,_,_,_,_,_,_,_,_,_,_,_,_,_,_,_,_,_,_,_,_,_,_,_,_,_,_,_,_,_,_,_,_,_,_,_,_,_,_,_,_,_,_,_,_,_,_,_,_,_,_,_,_,_,_,_,_,_,_,_,_,_,_,_,_,_,_,_,_,_,_,_,_,_,_,_,_,_,_,_,_,_,_,_,_,_,_,_,_,_,⟨0,0,0,rfl,rfl,rfl,by omega,hSI⟩,rfl⟩
 ·intro a w'' hI
  unfold WI1 at hI
  obtain ⟨u13,hI⟩:=hI
  obtain ⟨u14,hI⟩:=hI
  obtain ⟨u15,hI⟩:=hI
  obtain ⟨u16,hI⟩:=hI
  obtain ⟨u17,hI⟩:=hI
  obtain ⟨u18,hI⟩:=hI
  obtain ⟨u19,hI⟩:=hI
  obtain ⟨u20,hI⟩:=hI
  obtain ⟨u21,hI⟩:=hI
  obtain ⟨u22,hI⟩:=hI
  obtain ⟨u23,hI⟩:=hI
  obtain ⟨u24,hI⟩:=hI
  obtain ⟨u25,hI⟩:=hI
  obtain ⟨u26,hI⟩:=hI
  obtain ⟨u27,hI⟩:=hI
  obtain ⟨u28,hI⟩:=hI
  obtain ⟨u29,hI⟩:=hI
  obtain ⟨u30,hI⟩:=hI
  obtain ⟨u31,hI⟩:=hI
  obtain ⟨u71,hI⟩:=hI
  obtain ⟨u72,hI⟩:=hI
  obtain ⟨u73,hI⟩:=hI
  obtain ⟨u74,hI⟩:=hI
  obtain ⟨u75,hI⟩:=hI
  obtain ⟨u76,hI⟩:=hI
  obtain ⟨u77,hI⟩:=hI
  obtain ⟨u78,hI⟩:=hI
  obtain ⟨u79,hI⟩:=hI
  obtain ⟨u80,hI⟩:=hI
  obtain ⟨u81,hI⟩:=hI
  obtain ⟨u82,hI⟩:=hI
  obtain ⟨u83,hI⟩:=hI
  obtain ⟨u84,hI⟩:=hI
  obtain ⟨u85,hI⟩:=hI
  obtain ⟨u86,hI⟩:=hI
  obtain ⟨u87,hI⟩:=hI
  obtain ⟨u88,hI⟩:=hI
  obtain ⟨u89,hI⟩:=hI
  obtain ⟨u90,hI⟩:=hI
  obtain ⟨u91,hI⟩:=hI
  obtain ⟨u92,hI⟩:=hI
  obtain ⟨u93,hI⟩:=hI
  obtain ⟨u94,hI⟩:=hI
  obtain ⟨u95,hI⟩:=hI
  obtain ⟨u96,hI⟩:=hI
  obtain ⟨u97,hI⟩:=hI
  obtain ⟨u98,hI⟩:=hI
  obtain ⟨u99,hI⟩:=hI
  obtain ⟨uDW,hI⟩:=hI
  obtain ⟨uDX,hI⟩:=hI
  obtain ⟨uDY,hI⟩:=hI
  obtain ⟨uDZ,hI⟩:=hI
  obtain ⟨uEA,hI⟩:=hI
  obtain ⟨uEB,hI⟩:=hI
  obtain ⟨uEC,hI⟩:=hI
  obtain ⟨uED,hI⟩:=hI
  obtain ⟨uEE,hI⟩:=hI
  obtain ⟨uEF,hI⟩:=hI
  obtain ⟨uEG,hI⟩:=hI
  obtain ⟨uEH,hI⟩:=hI
  obtain ⟨uEI,hI⟩:=hI
  obtain ⟨uEJ,hI⟩:=hI
  obtain ⟨uEK,hI⟩:=hI
  obtain ⟨uEL,hI⟩:=hI
  obtain ⟨uEM,hI⟩:=hI
  obtain ⟨uEN,hI⟩:=hI
  obtain ⟨uEO,hI⟩:=hI
  obtain ⟨uEP,hI⟩:=hI
  obtain ⟨uEQ,hI⟩:=hI
  obtain ⟨uER,hI⟩:=hI
  obtain ⟨uES,hI⟩:=hI
  obtain ⟨uET,hI⟩:=hI
  obtain ⟨uEU,hI⟩:=hI
  obtain ⟨uEV,hI⟩:=hI
  obtain ⟨uEW,hI⟩:=hI
  obtain ⟨uEX,hI⟩:=hI
  obtain ⟨uEY,hI⟩:=hI
  obtain ⟨uEZ,hI⟩:=hI
  obtain ⟨uFA,hI⟩:=hI
  obtain ⟨uFB,hI⟩:=hI
  obtain ⟨uFC,hI⟩:=hI
  obtain ⟨uFD,hI⟩:=hI
  obtain ⟨uFE,hI⟩:=hI
  obtain ⟨uFF,hI⟩:=hI
  obtain ⟨uFG,hI⟩:=hI
  obtain ⟨uFH,hI⟩:=hI
  obtain ⟨uFI,hI⟩:=hI
  obtain ⟨uFJ,hI⟩:=hI
  obtain ⟨uFK,hI⟩:=hI
  obtain ⟨uFL,hI⟩:=hI
  obtain ⟨uFM,hI⟩:=hI
  obtain ⟨uFN,hI⟩:=hI
  obtain ⟨uFO,hI⟩:=hI
  obtain ⟨uFP,hI⟩:=hI
  obtain ⟨uFQ,hI⟩:=hI
  obtain ⟨uFR,hI⟩:=hI
  obtain ⟨uFS,hI⟩:=hI
  obtain ⟨uFT,hI⟩:=hI
  obtain ⟨uFU,hI⟩:=hI
  obtain ⟨uFV,hI⟩:=hI
  obtain ⟨uFW,hI⟩:=hI
  obtain ⟨uFX,hI⟩:=hI
  obtain ⟨uFY,hI⟩:=hI
  obtain ⟨uFZ,hI⟩:=hI
  obtain ⟨uGA,hI⟩:=hI
  obtain ⟨uGB,hI⟩:=hI
  obtain ⟨uGC,hI⟩:=hI
  obtain ⟨uGD,hI⟩:=hI
  obtain ⟨uGE,hI⟩:=hI
  obtain ⟨uGF,hI⟩:=hI
  obtain ⟨uGG,hI⟩:=hI
  obtain ⟨uGH,hI⟩:=hI
  obtain ⟨uGI,hI⟩:=hI
  obtain ⟨uGJ,hI⟩:=hI
  obtain ⟨uGK,hI⟩:=hI
  obtain ⟨uGL,hI⟩:=hI
  obtain ⟨uGM,hI⟩:=hI
  obtain ⟨uGN,hI⟩:=hI
  obtain ⟨uGO,hI⟩:=hI
  obtain ⟨uGP,hI⟩:=hI
  obtain ⟨uGQ,hI⟩:=hI
  obtain ⟨uGR,hI⟩:=hI
  obtain ⟨uGS,hI⟩:=hI
  obtain ⟨uGT,hI⟩:=hI
  obtain ⟨uGU,hI⟩:=hI
  obtain ⟨uGV,hI⟩:=hI
  obtain ⟨uGW,hI⟩:=hI
  obtain ⟨uGX,hI⟩:=hI
  obtain ⟨uGY,hI⟩:=hI
  obtain ⟨uGZ,hI⟩:=hI
  obtain ⟨uHA,hI⟩:=hI
  obtain ⟨uHB,hI⟩:=hI
  obtain ⟨uHC,hI⟩:=hI
  obtain ⟨uHD,hI⟩:=hI
  obtain ⟨uHE,hI⟩:=hI
  obtain ⟨uHF,hI⟩:=hI
  obtain ⟨uHG,hI⟩:=hI
  obtain ⟨uHH,hI⟩:=hI
  obtain ⟨uHI,hI⟩:=hI
  obtain ⟨uHJ,hI⟩:=hI
  obtain ⟨uHK,hI⟩:=hI
  obtain ⟨uHL,hI⟩:=hI
  obtain ⟨uHM,hI⟩:=hI
  obtain ⟨uHN,hI⟩:=hI
  obtain ⟨uHO,hI⟩:=hI
  obtain ⟨uHP,hI⟩:=hI
  obtain ⟨uHQ,hI⟩:=hI
  obtain ⟨uHR,hI⟩:=hI
  obtain ⟨uHS,hI⟩:=hI
  obtain ⟨uHT,hI⟩:=hI
  obtain ⟨uHU,hI⟩:=hI
  obtain ⟨uHV,hI⟩:=hI
  obtain ⟨uHW,hI⟩:=hI
  obtain ⟨uHX,hI⟩:=hI
  obtain ⟨uHY,hI⟩:=hI
  obtain ⟨uHZ,hI⟩:=hI
  obtain ⟨uIA,hI⟩:=hI
  obtain ⟨uIB,hI⟩:=hI
  obtain ⟨uIC,hI⟩:=hI
  obtain ⟨uID,hI⟩:=hI
  obtain ⟨uIE,hI⟩:=hI
  obtain ⟨uIF,hI⟩:=hI
  obtain ⟨uIG,hI⟩:=hI
  obtain ⟨uIH,hI⟩:=hI
  obtain ⟨uII,hI⟩:=hI
  obtain ⟨uIJ,hI⟩:=hI
  obtain ⟨uIK,hI⟩:=hI
  obtain ⟨uIL,hI⟩:=hI
  obtain ⟨uIM,hI⟩:=hI
  obtain ⟨uIN,hI⟩:=hI
  obtain ⟨uIO,hI⟩:=hI
  obtain ⟨uIP,hI⟩:=hI
  obtain ⟨uIQ,hI⟩:=hI
  obtain ⟨uIR,hI⟩:=hI
  obtain ⟨uIS,hI⟩:=hI
  obtain ⟨uIT,hI⟩:=hI
  obtain ⟨uIU,hI⟩:=hI
  obtain ⟨uIV,hI⟩:=hI
  obtain ⟨uIW,hI⟩:=hI
  obtain ⟨uIX,hI⟩:=hI
  obtain ⟨uIY,hI⟩:=hI
  obtain ⟨uIZ,hI⟩:=hI
  obtain ⟨uJA,hI⟩:=hI
  obtain ⟨uJB,hI⟩:=hI
  obtain ⟨uJC,hI⟩:=hI
  obtain ⟨uJD,hI⟩:=hI
  obtain ⟨uJE,hI⟩:=hI
  obtain ⟨uJF,hI⟩:=hI
  obtain ⟨uJG,hI⟩:=hI
  obtain ⟨uJH,hI⟩:=hI
  obtain ⟨uJI,hI⟩:=hI
  obtain ⟨uJJ,hI⟩:=hI
  obtain ⟨uJK,hI⟩:=hI
  obtain ⟨uJL,hI⟩:=hI
  obtain ⟨uJM,hI⟩:=hI
  obtain ⟨uJN,hI⟩:=hI
  obtain ⟨uJO,hI⟩:=hI
  obtain ⟨uJP,hI⟩:=hI
  obtain ⟨uJQ,hI⟩:=hI
  obtain ⟨uJR,hI⟩:=hI
  obtain ⟨uJS,hI⟩:=hI
  obtain ⟨uJT,hI⟩:=hI
  obtain ⟨uJU,hI⟩:=hI
  obtain ⟨uJV,hI⟩:=hI
  obtain ⟨uJW,hI⟩:=hI
  obtain ⟨uJX,hI⟩:=hI
  obtain ⟨uJY,hI⟩:=hI
  obtain ⟨uJZ,hI⟩:=hI
  obtain ⟨uKA,hI⟩:=hI
  obtain ⟨uKB,hI⟩:=hI
  obtain ⟨uKC,hI⟩:=hI
  obtain ⟨uKD,hI⟩:=hI
  obtain ⟨uKE,hI⟩:=hI
  obtain ⟨uKF,hI⟩:=hI
  obtain ⟨uKG,hI⟩:=hI
  obtain ⟨uKH,hI⟩:=hI
  obtain ⟨uKI,hI⟩:=hI
  obtain ⟨uKJ,hI⟩:=hI
  obtain ⟨uKK,hI⟩:=hI
  obtain ⟨uKL,hI⟩:=hI
  obtain ⟨uKM,hI⟩:=hI
  obtain ⟨uKN,hI⟩:=hI
  obtain ⟨uKO,hI⟩:=hI
  obtain ⟨uKP,hI⟩:=hI
  obtain ⟨uKQ,hI⟩:=hI
  obtain ⟨uKR,hI⟩:=hI
  obtain ⟨uKS,hI⟩:=hI
  obtain ⟨uKT,hI⟩:=hI
  obtain ⟨uKU,hI⟩:=hI
  obtain ⟨uKV,hI⟩:=hI
  obtain ⟨uKW,hI⟩:=hI
  obtain ⟨uKX,hI⟩:=hI
  obtain ⟨uKY,hI⟩:=hI
  obtain ⟨uKZ,hI⟩:=hI
  obtain ⟨uLA,hI⟩:=hI
  obtain ⟨uLB,hI⟩:=hI
  obtain ⟨uLC,hI⟩:=hI
  obtain ⟨uLD,hI⟩:=hI
  obtain ⟨uLE,hI⟩:=hI
  obtain ⟨uLF,hI⟩:=hI
  obtain ⟨uLG,hI⟩:=hI
  obtain ⟨uLH,hI⟩:=hI
  obtain ⟨uLI,hI⟩:=hI
  obtain ⟨uLJ,hI⟩:=hI
  obtain ⟨uLK,hI⟩:=hI
  obtain ⟨uLL,hI⟩:=hI
  obtain ⟨uLM,hI⟩:=hI
  obtain ⟨uLN,hI⟩:=hI
  obtain ⟨uLO,hI⟩:=hI
  obtain ⟨uLP,hI⟩:=hI
  obtain ⟨uLQ,hI⟩:=hI
  obtain ⟨uLR,hI⟩:=hI
  obtain ⟨uLS,hI⟩:=hI
  obtain ⟨uLT,hI⟩:=hI
  obtain ⟨uLU,hI⟩:=hI
  obtain ⟨uLV,hI⟩:=hI
  obtain ⟨uLW,hI⟩:=hI
  obtain ⟨uLX,hI⟩:=hI
  obtain ⟨uLY,hI⟩:=hI
  obtain ⟨uLZ,hI⟩:=hI
  obtain ⟨⟨n,sent,i,rfl,rfl,rfl,hi,hSI'⟩,rfl⟩:=hI
  by_cases hc:i<al.length∧i<200
  ·cases back with
   | true=>exact round1t w W1 zb1 g1 cap1 cb xb zb rb sb mb bb g cap base al adr acap ab ao size Q0 n sent i w'' hGo hal hadr hce hln hs1 hs8 hc.1 hc.2 hSI'
   | false=>exact round1f w W1 zb1 g1 cap1 cb xb zb rb sb mb bb g cap base al adr acap ab ao size Q0 n sent i w'' hGo hal hadr hce hln hs1 hs8 hc.1 hc.2 hSI'
  ·exact last1 w W1 zb1 g1 cap1 cb xb zb rb sb mb bb g cap base al adr acap ab ao size back Q0 n sent i w'' hln hi hc hSI' hexit
end Nv
end Go.Proofs.YtkkpahmoljiepaaGreatDoor
