/- Contract: rings' Reclaim of an honest card. -/
import Derived.Test.YtkkpahmoljiepaaGreatDoorJ19
import Derived.Test.YtkkpahmoljiepaaGreatDoorJ16
set_option linter.unusedSimpArgs false
set_option linter.unusedVariables false
set_option maxRecDepth 1000000
set_option maxHeartbeats 12800000
namespace Go.Proofs.YtkkpahmoljiepaaGreatDoor
open Go.RowKit
open Pu (Str aH aU)
namespace Qx
open Ka Wa Wb Wc Wd We Wf Wg Wh Wi Wj Wk Wl Wm Ha Hb Hc Re Qa Qb Qc Qd Qe Qf Qg Qh Qi Qj Qk Ql Qm Qn Qo Qp Qr Qq Qs
theorem reclaim_ok (rb mb bb base ba bu av us f:Nat) (t:TypeId) (out:List Bool) (O:Nat→List Bool) (ids:Nat→Nat) (wild:Bool) (cnt st:Nat) (bs:Str) (w:World) (h:Mem w mb bb base bs wild cnt st) (hr:aO w rb t mb ba bu av us out) (hbs:base≤w.heap.size) (hba:ba≤1000) (hl:bs.length=25600) (hus:us+f<65536) (hol:out.length=8)
  (hf:rdN bs (ba+258) 2=us+f) (hfo:f≤cOut out) (hO0:O 0=out) (hOs : ∀ k,k<f→O (k+1)=(O k).set (ids k) false) (hids : ∀ k,k<f→ids k<8∧(O k)[ids k]? = some true∧rdN bs (ba+(260+8*((us+k)%8))) 4=ids k) (hcnt:cnt≤800000) (ht1:t≠3) (ht2:t≠177) (hrm:rb≠mb) (hrb:rb≠bb) :
  Calls Tryz.prog 161 #[.pointer (some ⟨rb,0,none⟩)] w fun e w' =>
   e=.returned (.bool true)∧Mem w' mb bb base bs wild (cnt+2+4*f) st∧aO w' rb t mb ba bu av (us+f) (O f)∧GF (fun i=>i≠rb∧i≠mb∧i≠bb) base w w':=by
 have hf8:f≤8:=Nat.le_trans hfo (by unfold cOut; exact Nat.le_trans (List.length_filter_le _ _) (by omega))
 obtain ⟨o0,o1,o2,o3,o4,o5,o6,o7,rfl⟩ : ∃ o0 o1 o2 o3 o4 o5 o6 o7,out = [o0,o1,o2,o3,o4,o5,o6,o7]:=by
  match out,hol with
  | [o0,o1,o2,o3,o4,o5,o6,o7],_=>exact ⟨_,_,_,_,_,_,_,_,rfl⟩
 have HFR:=aH (fresh_any rb mb bb base ba bu av us f t o0 o1 o2 o3 o4 o5 o6 o7 wild cnt st bs w h hr hbs hba hl (by omega) (by omega) (by rw [hf]; omega) ht1 ht2 hrm hrb)
 have kd:decide ((f:Int)≤(cOut [o0,o1,o2,o3,o4,o5,o6,o7]:Nat))=true:=decide_eq_true (by omega)
 rw [kd] at HFR
 have HR:=aH hr
 have HO0:=aH hO0
 have HOS:=aH hOs
 have HID:=aH hids
 clear h hr hfo hO0 hOs hids kd hf
 go_enter Tryz.func161,Tryz.ntmps161
 go_wp2_with fail
 refine (aU HFR).mono ?_
 rintro e w1 ⟨rfl,hm1,hF1⟩
 have HR1:Hid (aO w1 rb t mb ba bu av us (O 0)):=by rw [Hid,aU HO0]; exact ring_keep (aU HR) hF1 ht1 ht2 hrm hrb
 have HM1:=aH hm1
 have HF1:=aH (GF.of_mf (p:=fun i=>i≠rb∧i≠mb∧i≠bb) hF1 fun i hp=>hp.2)
 clear hm1 hF1 HR HFR
 go_wp2_with fail
 go_loopw [3,4] (fun n ok wr=>∃ k:Nat,ok=.bool true∧n=.int .i64 (f - k:Nat)∧k≤f∧Mem wr mb bb base bs wild (cnt+2+4*k) st∧aO wr rb t mb ba bu av (us+k) (O k)∧GF (fun i=>i≠rb∧i≠mb∧i≠bb) base w wr) (fun n _ _=>(intOf n).toNat)
 case atStart=>exact ⟨0,rfl,rfl,Nat.zero_le _,aU HM1,aU HR1,aU HF1⟩
 case round =>
  obtain ⟨k,rfl,rfl,hk,hm,hR,hF⟩:=hrel
  have hsz1:=hF.size
  by_cases hlk:k<f
  ·obtain ⟨hi8,hot,hrd⟩:=aU HID k hlk
   obtain ⟨m,hm0⟩ : ∃ m,m=f - k:=⟨_,rfl⟩
   rw [← hm0]
   have km:(0:Int)<(m:Int):=by omega
   obtain ⟨m1,hm1⟩ : ∃ m1,m=m1+1:=⟨m - 1,by omega⟩
   have km1:(m:Int) - 1=(m1:Int):=by omega
   have kw1:IntKind.i64.wrap (m1:Int)=(m1:Int):=by rw [IntKind.wrap_i64]; omega
   obtain ⟨q,hq⟩ : ∃ q,q=260+8*((us+k)%8):=⟨_,rfl⟩
   rw [← hq] at hrd
   have HEN:=aH (entry_any rb mb ba bu av (us+k) t (O k) wr.drew hR (by omega))
   rw [← hq] at HEN
   have HLD:Hid (Calls Tryz.prog 217 #[.pointer (some ⟨rb,0,none⟩),.int .i64 q,.int .i64 4] wr.drew _):=rload_any rb mb bb base ba bu av (us+k) q 4 t (O k) wild (cnt+2+4*k) st bs wr.drew hm hR (by show base≤wr.heap.size; omega) (by omega) (by omega) hl (by omega) ht1 ht2 hrm hrb
   rw [hrd] at HLD
   have HRk:=aH hR
   have HTB:=aH (fun (W:World) (hW:aO W rb t mb ba bu av (us+k) (O k))=>takeBack_ok rb mb ba bu av (us+k) (ids k) t (O k) W hW hi8 hot (by omega))
   have HFk:=aH hF
   have HOK:=aH (aU HOS k hlk)
   have HMk:=aH hm
   have HMM:Hid (m1=f - (k+1)):=by rw [Hid]; omega
   have hu1:(us+k+1)%65536=us+(k+1):=by omega
   generalize ids k=id at *
   clear hm hR hF hot hrd hq hm0 hm1
   go_wp2_with fail
   go_region_held (fun _=>True) (trivial)
    (first | (go_at_call 218; go_loud (refine (aU HEN).mono ?_; rintro e w' ⟨rfl,rfl⟩)) | (go_at_call 217; go_loud (refine (aU HLD).mono ?_; rintro e w2 ⟨rfl,hm2,hF2⟩; have hR2:=ring_keep (w:=wr.drew) (aU HRk) hF2 ht1 ht2 hrm hrb; have HTB2:=aH (aU HTB w2 hR2))) | (go_at_call 216; go_loud (refine (aU HTB2).mono ?_; rintro e w3 ⟨rfl,hR3,hK3,hz3⟩)))
   all_goals
    rw [hu1,← aU HOK] at hR3
    have hm3:=mem_keep hm2 rb t _ hR2 ht1 ht2 hrm hrb (fun i hi hne=>hK3.block i hi hne)
    have HM3:=aH hm3
    have HR3:=aH hR3
    have HF3:=aH (((aU HFk).trans (GF.of_below (Below.refl _ _).drew)).trans ((GF.of_mf (p:=fun i=>i≠rb∧i≠mb∧i≠bb) hF2 fun i hp=>hp.2).trans (GF.of_keeps hK3 (by omega) fun i hp=>hp.1)))
    clear hm2 hF2 hR2 hm3 hR3 hK3
    go_wp2_with fail
    exact ⟨⟨k+1,rfl,by rw [← aU HMM],by omega,by have:=aU HM3; rwa [show cnt+2+4*k+4=cnt+2+4*(k+1) by omega] at this,aU HR3,aU HF3⟩,by simp [intOf]; omega⟩
  ·have hkl:k=f:=by omega
   subst hkl
   have HM2:=aH hm
   have HR2:=aH hR
   have HF2:=aH hF
   have km:k - k=0:=by omega
   rw [km]
   clear hm hR hF
   go_wp2
   go_ret
   exact ⟨rfl,aU HM2,aU HR2,aU HF2⟩
end Qx
namespace He
open Ka Kc Wa Wb Wc Wd We Wf Wg Wh Wi Wj Wk Wl Wm Ha Hb Hc Re
theorem ok1 {a:Fd} (h1:a.Ok) : ∀ f∈[a],f.Ok:=by intro f hf; simp at hf; subst hf; exact h1
theorem okc {a:Fd} {l:List Fd} (h1:a.Ok) (h2 : ∀ f∈l,f.Ok) : ∀ f∈a :: l,f.Ok:=by
 intro f hf
 rcases List.mem_cons.1 hf with rfl | hf
 ·exact h1
 ·exact h2 f hf
def uSum (a b s:Str):Nat:=fold (ws true (a++b++[0,17,hi s.length,lo s.length]++s))
theorem sumWith_any (a b r s:Str) (w:World) (ha:a.length≤1000) (hb:b.length≤1000) (hs:s.length<65536) :
  Calls Tryz.prog 282 #[.agg #[.string (B a),.string (B b),.string (B r)],.string (B s)] w fun e w'=>e=.returned (.int .i64 (uSum a b s))∧Below w.heap.size w w':=by
 have hz:(B s).size=s.length:=size_B s
 have kw:IntKind.u16.wrap (s.length:Int)=(s.length:Int):=by rw [IntKind.wrap_u16]; omega
 have HS:Hid (∀ (gb:Nat) (W:World),gb=W.heap.size→Calls Tryz.prog 256 #[.slice (some ⟨gb,0,none⟩) 5 5] (W.alloc (.cells #[.iface 224 (.string (B a)),.iface 224 (.string (B b)),.iface 284 (.int .u16 17),.iface 284 (.int .u16 s.length),.iface 224 (.string (B s))] 297)) fun e w'=>e=.returned (.int .i64 (uSum a b s))∧Below gb W w'):=fun gb W hgb=>by
  subst hgb
  have:=sum_new [fRaw a,fRaw b,fShort 17,fShort s.length,fRaw s] W (okc (raw_ok a) (okc (raw_ok b) (okc (short_ok 17 (by omega)) (okc (short_ok _ hs) (ok1 (raw_ok s)))))) (by simp) (by simp [outs,fRaw,fShort]; omega)
  rw [show outs [fRaw a,fRaw b,fShort 17,fShort s.length,fRaw s]=a++b++[0,17,hi s.length,lo s.length]++s by simp [outs,fRaw,fShort]; exact ⟨rfl,rfl⟩] at this
  exact this
 go_enter Tryz.func282,Tryz.ntmps282
 go_wp2_with fail
 refine (aU HS _ _ (by simp <;> omega)).mono ?_
 rintro e w1 ⟨rfl,hb1⟩
 have HB:=aH (((Below.refl w.heap.size w).alloc (Nat.le_refl _) _).trans (hb1.mono (by simp)))
 clear hb1
 go_wp2_with fail
 go_ret
 exact ⟨rfl,aU HB⟩
theorem frameBytes_any (a b r:Str) (k:Nat) (w:World) (ha:a.length≤1000) (hb:b.length≤1000) (hr:r.length≤100000) (hk:k<65536) :
  Calls Tryz.prog 209 #[.agg #[.string (B a),.string (B b),.int .i64 k,.string (B r)]] w fun e w'=>e=.returned (.string (B (a++b++[hi k,lo k]++r)))∧Below w.heap.size w w':=by
 have kw:IntKind.u16.wrap (k:Int)=(k:Int):=by rw [IntKind.wrap_u16]; omega
 have HS:Hid (∀ (gb:Nat) (W:World),gb=W.heap.size→Calls Tryz.prog 199 #[.slice (some ⟨gb,0,none⟩) 4 4] (W.alloc (.cells #[.iface 224 (.string (B a)),.iface 224 (.string (B b)),.iface 284 (.int .u16 k),.iface 224 (.string (B r))] 297)) fun e w'=>e=.returned (.string (B (a++b++[hi k,lo k]++r)))∧Below gb W w'):=fun gb W hgb=>by
  subst hgb
  have:=written_new [fRaw a,fRaw b,fShort k,fRaw r] W (okc (raw_ok a) (okc (raw_ok b) (okc (short_ok k hk) (ok1 (raw_ok r))))) (by simp) (by simp [outs,fRaw,fShort]; omega)
  rw [show outs [fRaw a,fRaw b,fShort k,fRaw r]=a++b++[hi k,lo k]++r by simp [outs,fRaw,fShort]] at this
  exact this
 go_enter Tryz.func209,Tryz.ntmps209
 go_wp2_with fail
 refine (aU HS _ _ (by simp <;> omega)).mono ?_
 rintro e w1 ⟨rfl,hb1⟩
 have HB:=aH (((Below.refl w.heap.size w).alloc (Nat.le_refl _) _).trans (hb1.mono (by simp)))
 clear hb1
 go_wp2_with fail
 go_ret
 exact ⟨congrArg (fun x=>Ending.returned (.string (B x))) (by simp),aU HB⟩
def ipOA (n:Nat):Str:=[69,0,hi (20+n),lo (20+n),0,0,64,0,64,17]
def ipOC (a b:Str) (n:Nat):Nat:=65535 - fold (ws true (ipOA n++a++b))
def ipO (a b r:Str):Str:=ipOA r.length++[hi (ipOC a b r.length),lo (ipOC a b r.length)]++a++b++r
theorem packetBytes_any (a b r:Str) (w:World) (ha:a.length≤1000) (hb:b.length≤1000) (hr:r.length≤60000) :
  Calls Tryz.prog 212 #[.agg #[.string (B a),.string (B b),.string (B r)]] w fun e w'=>e=.returned (.string (B (ipO a b r)))∧Below w.heap.size w w':=by
 have hz:(B r).size=r.length:=size_B r
 obtain ⟨n,hn⟩ : ∃ n,n=20+r.length:=⟨_,rfl⟩
 have kn:(20:Int)+(r.length:Int)=(n:Int):=by omega
 have kw:IntKind.u16.wrap (n:Int)=(n:Int):=by rw [IntKind.wrap_u16]; omega
 have HA:Hid (ipOA r.length = [69,0,hi n,lo n,0,0,64,0,64,17]):=by rw [Hid,hn]; rfl
 have H1:Hid (∀ (gb:Nat) (W:World),gb=W.heap.size→Calls Tryz.prog 199 #[.slice (some ⟨gb,0,none⟩) 7 7] (W.alloc (.cells #[.iface 292 (.int .u8 69),.iface 292 (.int .u8 0),.iface 284 (.int .u16 n),.iface 284 (.int .u16 0),.iface 284 (.int .u16 16384),.iface 292 (.int .u8 64),.iface 292 (.int .u8 17)] 297)) fun e w'=>e=.returned (.string (B (ipOA r.length)))∧Below gb W w'):=fun gb W hgb=>by
  subst hgb
  have:=written_new [fOctet 69,fOctet 0,fShort n,fShort 0,fShort 16384,fOctet 64,fOctet 17] W (okc (octet_ok 69) (okc (octet_ok 0) (okc (short_ok n (by omega)) (okc (short_ok 0 (by omega)) (okc (short_ok 16384 (by omega)) (okc (octet_ok 64) (ok1 (octet_ok 17)))))))) (by simp) (by simp [outs,fOctet,fShort])
  rw [aU HA]
  exact this
 obtain ⟨h,hh⟩ : ∃ h,h=ipOA r.length:=⟨_,rfl⟩
 have lh:h.length=10:=by rw [hh]; rfl
 have HC:Hid (ipOC a b r.length=65535 - fold (ws true (h++a++b))):=by rw [Hid,hh]; rfl
 have HO:Hid (ipO a b r=h++[hi (ipOC a b r.length),lo (ipOC a b r.length)]++a++b++r):=by rw [Hid,hh]; rfl
 rw [← hh] at H1
 have H2:Hid (∀ (gb:Nat) (W:World),gb=W.heap.size→Calls Tryz.prog 256 #[.slice (some ⟨gb,0,none⟩) 3 3] (W.alloc (.cells #[.iface 224 (.string (B h)),.iface 224 (.string (B a)),.iface 224 (.string (B b))] 297)) fun e w'=>e=.returned (.int .i64 (fold (ws true (h++a++b))))∧Below gb W w'):=fun gb W hgb=>by
  subst hgb
  have:=sum_new [fRaw h,fRaw a,fRaw b] W (okc (raw_ok h) (okc (raw_ok a) (ok1 (raw_ok b)))) (by simp) (by simp [outs,fRaw]; omega)
  rw [show outs [fRaw h,fRaw a,fRaw b]=h++a++b by simp [outs,fRaw]] at this
  exact this
 have hfl:=fold_le (ws true (h++a++b))
 generalize fold (ws true (h++a++b))=f at *
 obtain ⟨c,hc⟩ : ∃ c,c=ipOC a b r.length:=⟨_,rfl⟩
 rw [← hc] at HC HO
 have kc:(65535:Int) - (f:Int)=(c:Int):=by have:=aU HC; omega
 have kcw:IntKind.u16.wrap (c:Int)=(c:Int):=by rw [IntKind.wrap_u16]; have:=aU HC; omega
 have hcl:c<65536:=by have:=aU HC; omega
 have H3:Hid (∀ (gb:Nat) (W:World),gb=W.heap.size→Calls Tryz.prog 199 #[.slice (some ⟨gb,0,none⟩) 5 5] (W.alloc (.cells #[.iface 224 (.string (B h)),.iface 284 (.int .u16 c),.iface 224 (.string (B a)),.iface 224 (.string (B b)),.iface 224 (.string (B r))] 297)) fun e w'=>e=.returned (.string (B (ipO a b r)))∧Below gb W w'):=fun gb W hgb=>by
  subst hgb
  have:=written_new [fRaw h,fShort c,fRaw a,fRaw b,fRaw r] W (okc (raw_ok h) (okc (short_ok c hcl) (okc (raw_ok a) (okc (raw_ok b) (ok1 (raw_ok r)))))) (by simp) (by simp [outs,fRaw,fShort]; omega)
  rw [show outs [fRaw h,fShort c,fRaw a,fRaw b,fRaw r]=ipO a b r by rw [aU HO]; simp [outs,fRaw,fShort]] at this
  exact this
 clear HA HC HO hh hc hn lh
 have HZ:=aH (aB.new w [.string (B a),.string (B b),.string (B r)] 307)
 have HB:=aH ((Below.refl w.heap.size w).alloc (Nat.le_refl _) (.cells #[.string (B a),.string (B b),.string (B r)] 307))
 have hsz:(w.alloc (.cells #[.string (B a),.string (B b),.string (B r)] 307)).heap.size=w.heap.size+1:=by simp
 go_enter Tryz.func212,Tryz.ntmps212
 go_wp2_with fail
 refine (aU H1 _ _ (by simp <;> omega)).mono ?_
 rintro e w1 ⟨rfl,hb1⟩
 have HZ1:=aH ((aU HZ).below hb1 (by simp))
 have HB1:=aH ((aU HB).trans (hb1.mono (by simp)))
 clear hb1 HZ HB hsz
 have y0:=(aU HZ1).cell 0 (by simp)
 have y1:=(aU HZ1).cell 1 (by simp)
 have y2:=(aU HZ1).cell 2 (by simp)
 simp at y0 y1 y2
 have hlt:=(aU HZ1).lt
 go_wp2_with fail
 refine (aU H2 _ _ (by simp <;> omega)).mono ?_
 rintro e w2 ⟨rfl,hb2⟩
 have HZ2:=aH ((aU HZ1).below hb2 hlt)
 have HB2:=aH ((aU HB1).trans (hb2.mono (by omega)))
 clear hb2 HZ1 HB1 y0 y1 y2
 have y0:=(aU HZ2).cell 0 (by simp)
 have y1:=(aU HZ2).cell 1 (by simp)
 have y2:=(aU HZ2).cell 2 (by simp)
 simp at y0 y1 y2
 have hlt2:=(aU HZ2).lt
 go_wp2_with fail
 refine (aU H3 _ _ (by simp <;> omega)).mono ?_
 rintro e w3 ⟨rfl,hb3⟩
 have HB3:=aH ((aU HB2).trans (hb3.mono (by omega)))
 clear hb3
 go_wp2_with fail
 go_ret
 exact ⟨rfl,aU HB3⟩
def udA (sp dp:Nat) (m:Str):Str:=[hi sp,lo sp,hi dp,lo dp,hi (8+m.length),lo (8+m.length)]
def udC (a b:Str) (sp dp:Nat) (m:Str):Nat:=if 65535 - uSum a b (udA sp dp m++[0,0]++m)=0 then 65535 else 65535 - uSum a b (udA sp dp m++[0,0]++m)
def udO (a b:Str) (sp dp:Nat) (m:Str):Str:=udA sp dp m++[hi (udC a b sp dp m),lo (udC a b sp dp m)]++m
structure Cy (w W:World) (a b r m:Str) (sp dp:Nat):Prop where
 p:aB W w.heap.size [.string (B a),.string (B b),.string (B r)] 307
 d:aB W (w.heap.size+1) [.int .i64 sp,.int .i64 dp,.string (B m)] 349
 z:aB W (w.heap.size+2) [.string ⟨#[]⟩,.string ⟨#[]⟩,.string ⟨#[]⟩] 307
 below:Below w.heap.size w W
theorem Cy.size {w W:World} {a b r m:Str} {sp dp:Nat} (h:Cy w W a b r m sp dp):w.heap.size+2<W.heap.size:=h.z.lt
theorem Cy.next {w W W':World} {a b r m:Str} {sp dp:Nat} (h:Cy w W a b r m sp dp) (hb:Below W.heap.size W W'):Cy w W' a b r m sp dp :=
 ⟨h.p.below hb h.p.lt,h.d.below hb h.d.lt,h.z.below hb h.z.lt,h.below.trans (hb.mono (by have:=h.size; omega))⟩
theorem Cy.start (w:World) (a b r m:Str) (sp dp:Nat):Cy w (((w.alloc (.cells #[.string (B a),.string (B b),.string (B r)] 307)).alloc (.cells #[.int .i64 sp,.int .i64 dp,.string (B m)] 349)).alloc (.cells #[.string ⟨#[]⟩,.string ⟨#[]⟩,.string ⟨#[]⟩] 307)) a b r m sp dp where
 p:=((aB.new w _ _).alloc _).alloc _
 d:=by
  have:=(aB.new (w.alloc (.cells #[.string (B a),.string (B b),.string (B r)] 307)) [.int .i64 sp,.int .i64 dp,.string (B m)] 349).alloc (.cells #[.string ⟨#[]⟩,.string ⟨#[]⟩,.string ⟨#[]⟩] 307)
  simpa using this
 z:=by
  have:=aB.new ((w.alloc (.cells #[.string (B a),.string (B b),.string (B r)] 307)).alloc (.cells #[.int .i64 sp,.int .i64 dp,.string (B m)] 349)) [.string ⟨#[]⟩,.string ⟨#[]⟩,.string ⟨#[]⟩] 307
  simpa using this
 below:=(((Below.refl _ _).alloc (Nat.le_refl _) _).alloc (by simp) _).alloc (by simp; omega) _
theorem carrying_any (a b r m:Str) (sp dp:Nat) (w:World) (ha:a.length≤1000) (hb:b.length≤1000) (hm:m.length≤60000) (hsp:sp<65536) (hdp:dp<65536) :
  Calls Tryz.prog 258 #[.agg #[.string (B a),.string (B b),.string (B r)],.agg #[.int .i64 sp,.int .i64 dp,.string (B m)]] w fun e w'=>e=.returned (.agg #[.string (B a),.string (B b),.string (B (udO a b sp dp m))])∧Below w.heap.size w w':=by
 have hz:(B m).size=m.length:=size_B m
 obtain ⟨n,hn⟩ : ∃ n,n=8+m.length:=⟨_,rfl⟩
 have kn:(8:Int)+(m.length:Int)=(n:Int):=by omega
 have kw:IntKind.u16.wrap (n:Int)=(n:Int):=by rw [IntKind.wrap_u16]; omega
 have ks:IntKind.u16.wrap (sp:Int)=(sp:Int):=by rw [IntKind.wrap_u16]; omega
 have kd:IntKind.u16.wrap (dp:Int)=(dp:Int):=by rw [IntKind.wrap_u16]; omega
 have H1:Hid (∀ (gb:Nat) (W:World),gb=W.heap.size→Calls Tryz.prog 199 #[.slice (some ⟨gb,0,none⟩) 3 3] (W.alloc (.cells #[.iface 284 (.int .u16 sp),.iface 284 (.int .u16 dp),.iface 284 (.int .u16 n)] 297)) fun e w'=>e=.returned (.string (B (udA sp dp m)))∧Below gb W w'):=fun gb W hgb=>by
  subst hgb
  have:=written_new [fShort sp,fShort dp,fShort n] W (okc (short_ok sp hsp) (okc (short_ok dp hdp) (ok1 (short_ok n (by omega))))) (by simp) (by simp [outs,fShort])
  rw [udA,← hn]
  exact this
 obtain ⟨h,hh⟩ : ∃ h,h=udA sp dp m:=⟨_,rfl⟩
 have lh:h.length=6:=by rw [hh]; rfl
 rw [← hh] at H1
 have H2:Hid (∀ (gb:Nat) (W:World),gb=W.heap.size→Calls Tryz.prog 199 #[.slice (some ⟨gb,0,none⟩) 3 3] (W.alloc (.cells #[.iface 224 (.string (B h)),.iface 284 (.int .u16 0),.iface 224 (.string (B m))] 297)) fun e w'=>e=.returned (.string (B (h++[0,0]++m)))∧Below gb W w'):=fun gb W hgb=>by
  subst hgb
  have:=written_new [fRaw h,fShort 0,fRaw m] W (okc (raw_ok h) (okc (short_ok 0 (by omega)) (ok1 (raw_ok m)))) (by simp) (by simp [outs,fRaw,fShort]; omega)
  rw [show outs [fRaw h,fShort 0,fRaw m]=h++[0,0]++m by simp [outs,fRaw,fShort]; exact ⟨rfl,rfl⟩] at this
  exact this
 have H3:=aH (fun W=>sumWith_any a b r (h++[0,0]++m) W ha hb (by simp; omega))
 have HC:Hid (udC a b sp dp m=if 65535 - uSum a b (h++[0,0]++m)=0 then 65535 else 65535 - uSum a b (h++[0,0]++m)):=by rw [Hid,hh]; rfl
 have HO:Hid (udO a b sp dp m=h++[hi (udC a b sp dp m),lo (udC a b sp dp m)]++m):=by rw [Hid,hh]; rfl
 have hfl:uSum a b (h++[0,0]++m)≤65535:=fold_le _
 generalize uSum a b (h++[0,0]++m)=f at *
 generalize h++[0,0]++m=u at *
 obtain ⟨c,hc⟩ : ∃ c,c=udC a b sp dp m:=⟨_,rfl⟩
 rw [← hc] at HC HO
 have hcl:c<65536:=by rw [aU HC]; split <;> omega
 have H4:Hid (∀ (gb:Nat) (W:World),gb=W.heap.size→Calls Tryz.prog 199 #[.slice (some ⟨gb,0,none⟩) 3 3] (W.alloc (.cells #[.iface 224 (.string (B h)),.iface 284 (.int .u16 c),.iface 224 (.string (B m))] 297)) fun e w'=>e=.returned (.string (B (udO a b sp dp m)))∧Below gb W w'):=fun gb W hgb=>by
  subst hgb
  have:=written_new [fRaw h,fShort c,fRaw m] W (okc (raw_ok h) (okc (short_ok c hcl) (ok1 (raw_ok m)))) (by simp) (by simp [outs,fRaw,fShort]; omega)
  rw [show outs [fRaw h,fShort c,fRaw m]=udO a b sp dp m by rw [aU HO]; simp [outs,fRaw,fShort]] at this
  exact this
 clear HO hh hc hn lh
 have HS0:=aH (Cy.start w a b r m sp dp)
 go_enter Tryz.func258,Tryz.ntmps258
 go_wp2_with fail
 refine (aU H1 _ _ (by simp <;> omega)).mono ?_
 rintro e w1 ⟨rfl,hb1⟩
 have HS1:=aH ((aU HS0).next (hb1.mono (by simp <;> omega)))
 clear hb1 HS0 H1
 have y2:=(aU HS1).d.cell 2 (by simp)
 simp at y2
 go_wp2_with fail
 refine (aU H2 _ _ (by simp <;> omega)).mono ?_
 rintro e w2 ⟨rfl,hb2⟩
 have HS2:=aH ((aU HS1).next hb2)
 clear hb2 HS1 H2 y2
 have x0:=(aU HS2).p.cell 0 (by simp)
 have x1:=(aU HS2).p.cell 1 (by simp)
 have x2:=(aU HS2).p.cell 2 (by simp)
 have y2:=(aU HS2).d.cell 2 (by simp)
 simp at x0 x1 x2 y2
 go_wp2_with fail
 refine (aU H3 _).mono ?_
 rintro e w3 ⟨rfl,hb3⟩
 have HS3:=aH ((aU HS2).next hb3)
 clear hb3 HS2 H3 x0 x1 x2 y2
 have x0:=(aU HS3).p.cell 0 (by simp)
 have x1:=(aU HS3).p.cell 1 (by simp)
 have x2:=(aU HS3).p.cell 2 (by simp)
 have y2:=(aU HS3).d.cell 2 (by simp)
 simp at x0 x1 x2 y2
 by_cases h0:f=65535
 ·subst h0
  have hc':c=65535:=by rw [aU HC]; rfl
  subst hc'
  go_wp2_with fail
  refine (aU H4 _ _ (by simp <;> omega)).mono ?_
  rintro e w4 ⟨rfl,hb4⟩
  have HS4:=aH ((aU HS3).next hb4)
  clear hb4 HS3 H4 x0 x1 x2 y2
  have x0:=(aU HS4).p.cell 0 (by simp)
  have x1:=(aU HS4).p.cell 1 (by simp)
  have x2:=(aU HS4).p.cell 2 (by simp)
  have z0:=(aU HS4).z.cell 0 (by simp)
  have z1:=(aU HS4).z.cell 1 (by simp)
  have z2:=(aU HS4).z.cell 2 (by simp)
  have hf1:=(aU HS4).p.frozen
  have hf2:=(aU HS4).z.frozen
  simp at x0 x1 x2 z0 z1 z2
  have HB:=aH (aU HS4).below
  clear HS4
  go_wp2
  refine bodyPost_ret (v:=.agg #[.string (B a),.string (B b),.string (B (udO a b sp dp m))]) ?_ rfl ?_
  ·simp [results,Tryz.results258,go_sem,x0,x1,x2,z0,z1,z2]
  ·exact ⟨rfl,((((aU HB).setCell (Nat.le_refl _) _).setCell (by show w.heap.size≤w.heap.size+2; omega) _).setCell (by show w.heap.size≤w.heap.size+2; omega) _).setCell (by show w.heap.size≤w.heap.size+2; omega) _⟩
 ·have hc':c=65535 - f:=by rw [aU HC,if_neg (by omega)]
  have kc:(65535:Int) - (f:Int)=(c:Int):=by omega
  have kc0 : ¬ (c:Int)=0:=by omega
  have kcw:IntKind.u16.wrap (c:Int)=(c:Int):=by rw [IntKind.wrap_u16]; omega
  clear hc'
  go_wp2_with fail
  refine (aU H4 _ _ (by simp <;> omega)).mono ?_
  rintro e w4 ⟨rfl,hb4⟩
  have HS4:=aH ((aU HS3).next hb4)
  clear hb4 HS3 H4 x0 x1 x2 y2
  have x0:=(aU HS4).p.cell 0 (by simp)
  have x1:=(aU HS4).p.cell 1 (by simp)
  have x2:=(aU HS4).p.cell 2 (by simp)
  have z0:=(aU HS4).z.cell 0 (by simp)
  have z1:=(aU HS4).z.cell 1 (by simp)
  have z2:=(aU HS4).z.cell 2 (by simp)
  have hf1:=(aU HS4).p.frozen
  have hf2:=(aU HS4).z.frozen
  simp at x0 x1 x2 z0 z1 z2
  have HB:=aH (aU HS4).below
  clear HS4
  go_wp2
  refine bodyPost_ret (v:=.agg #[.string (B a),.string (B b),.string (B (udO a b sp dp m))]) ?_ rfl ?_
  ·simp [results,Tryz.results258,go_sem,x0,x1,x2,z0,z1,z2]
  ·exact ⟨rfl,((((aU HB).setCell (Nat.le_refl _) _).setCell (by show w.heap.size≤w.heap.size+2; omega) _).setCell (by show w.heap.size≤w.heap.size+2; omega) _).setCell (by show w.heap.size≤w.heap.size+2; omega) _⟩
end He
end Go.Proofs.YtkkpahmoljiepaaGreatDoor
