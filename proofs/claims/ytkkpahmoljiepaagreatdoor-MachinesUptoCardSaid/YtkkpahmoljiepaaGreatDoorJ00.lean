import Derived.ChangeFn
import Derived.CallsIn
import Derived.Laws.BitsLemmas
import Derived.Laws.Entries
set_option maxRecDepth 1000000
set_option maxHeartbeats 12800000
set_option linter.all false
namespace Go.Proofs.YtkkpahmoljiepaaGreatDoor
variable{a:Nat}
variable{P:Prop}
def af.{u}{α:Sort u}{a:α}:a=a:=rfl
open Go
def cj{b a:Prop}(c:b)(d:b->a:=by omega):a:=d c
def _root_.Go.Calls.m{d f h b v}{g:World->Prop}{e:Ending->World->Prop}(a:Calls d f h b λi c=>i=v/\g c)(j:∀c,g c->e v c):Calls d f h b e:=a.mono λ_ b a=>a.1▸j b a.2
def _root_.Go.CallsIn.m{d n e f i b v}{h:World->Prop}{g:Ending->World->Prop}(a:CallsIn d n e f i b λj c=>j=v/\h c)(k:∀c,h c->g v c):CallsIn d n e f i b g:=a.mono λ_ b a=>a.1▸k b a.2
def bi{α:Sort _}(a:α):∃b,b=a:=⟨a,af⟩
def dK{α:Sort _}(a:α):∃b,a=b:=⟨a,af⟩
abbrev co(c:World)(a b:Nat)(v:Value):Prop:=c.cell? ⟨a,b,none⟩=some v
def bv:a≤a:=Nat.le_refl a
abbrev J:=Value.int .i64
abbrev M(b a:Nat):Addr:=⟨b,a,none⟩
abbrev bY:Value:=.slice none 0 0
abbrev N(b:Nat):Value:=.pointer<|some ⟨b,0,none⟩
abbrev bC(a d c b:Nat):Value:=.slice (some ⟨a,d,none⟩) c b
def G{a:Prop}(b:a:=by omega):a:=b
def b8{a:Prop}(b:a:=by kernel_rfl):a:=b
def aA{a:Prop}(b:a:=by simp):a:=b
def bL{a:Prop}(b:a:=by decide):a:=b
def cx{a:Prop}(b:a:=by simp; omega):a:=b
def dS{a:Prop}(b:a:=by rfl):a:=b
def hV{a:Prop}(b:a:=by simp<;>omega):a:=b
abbrev cv:=@And.intro
abbrev akv:=@Array.getElem?_eq_none
abbrev ea:=@Array.getElem?_eq_some_iff
abbrev xP:=@Array.getElem?_modify
abbrev Lg:=@Array.getElem?_push
abbrev R6:=@Array.getElem_setIfInBounds
abbrev sy:=@Array.length_toList
abbrev ov:=@Array.replicate_succ
abbrev oQ:=@Array.replicate_zero
abbrev Lh:=@BitVec.toNat_and
abbrev GB:=@Bool.and_false
abbrev GC:=@Bool.and_true
abbrev sd:=@Bool.eq_iff_iff
abbrev ym:=@Bool.false_and
abbrev zG:=@Bool.false_or
abbrev DP:=@Bool.not_false
abbrev Li:=@Bool.or_false
abbrev yn:=@Bool.true_and
abbrev Lj:=@Bool.true_or
abbrev Zp:=@ByteArray.data_extract
abbrev KN:=@ByteArray.ext
abbrev BR:=@Classical.byContradiction
abbrev DR:=@Go.Addr.add_lit
abbrev zI:=@Go.Result.andThen_ok
abbrev DS:=@Go.Sem.run_pure
abbrev np:=@Go.Value.slice.inj
abbrev KR:=@Go.run_underlying
abbrev qQ:=@Int.tmod_eq_emod_of_nonneg
abbrev vi:=@Int.toNat_natCast
abbrev GG:=@Int.toNat_of_nonneg
abbrev DN:=@List.Pairwise.filter
abbrev D7:=@List.cons.inj
abbrev Sc:=@List.getElem?_eq_none_iff
abbrev j_:=@List.getElem?_eq_some_iff
abbrev rV:=@Nat.add_assoc
abbrev K6:=@Nat.add_mul
abbrev GR:=@Nat.add_sub_cancel
abbrev GT:=@Nat.add_sub_cancel_left
abbrev jn:=@Nat.add_zero
abbrev cW:=@Nat.le_refl
abbrev cU:=@Nat.le_trans
abbrev zQ:=@Nat.lt_of_le_of_lt
abbrev e8:=@Nat.lt_of_lt_of_le
abbrev uI:=@Nat.min_eq_left
abbrev zR:=@Nat.mul_comm
abbrev uJ:=@Nat.mul_one
abbrev K8:=@Nat.mul_zero
abbrev Gc:=@Nat.pow_le_pow_right
abbrev sm:=@Nat.sub_self
abbrev g8:=@Nat.zero_add
abbrev K9:=@Nat.zero_lt_one
abbrev rW:=@Nat.zero_mul
abbrev Gd:=@Option.getD_some
abbrev ih:=@Option.some.inj
abbrev ug:=@Option.some.injEq
abbrev Eh:=@Prod.ext
abbrev lR:=@Prod.mk.inj
abbrev Ge:=@Prod.mk.injEq
abbrev vG:=@UInt8.toNat.inj
abbrev zT:=@UInt8.toNat_inj
abbrev gY:=@UInt8.toNat_lt
abbrev rJ:=@UInt8.toNat_ofNat'
abbrev kE:=@beq_eq_false_iff_ne
abbrev jy:=@beq_iff_eq
abbrev BF:=@bne_iff_ne
abbrev fE:=@congrArg
abbrev gD:=@decide_eq_false
abbrev Ei:=@decide_eq_false_iff_not
abbrev mL:=@decide_eq_true
abbrev sq:=@decide_eq_true_eq
abbrev Gf:=@decide_eq_true_iff
abbrev BW:=@getElem!_pos
abbrev bJ:=@if_neg
abbrev b7:=@if_pos
abbrev pi:=@if_true
abbrev yu:=@of_decide_eq_true
abbrev tf:=@or_false
abbrev cE:=@trivial
def jW(a:Int)(b:-9223372036854775808<=a/\a<9223372036854775808:=by omega):IntKind.i64.wrap a=a:=by rw[Go.IntKind.wrap_i64];omega
def qe(a:Int)(b:0<=a/\a<65536:=by omega):IntKind.u16.wrap a=a:=by simp[IntKind.wrap,IntKind.bits,IntKind.signed];omega
def ZP(a:Int)(b:0<=a/\a<4294967296:=by omega):IntKind.u32.wrap a=a:=by rw[Go.IntKind.wrap_u32];omega
def Il(h:P:=by simpa using hy):P:=h
def Ii(h:P:=by simpa using hl):P:=h
def FK(h:P:=by exact⟨af,bU⟩):P:=h
def JZ(h:P:=by exact(ct cd bv _).alloc aA _):P:=h
def FX(h:P:=by simp only[jI,g_,jz]):P:=h
def QG(h:P:=by{rw[hc0,jw,gw (by rw[de]at h;exact h)];rfl}):P:=h
def Kn(h:P:=by simp[Region.wanted,hg]):P:=h
def FQ(h:P:=by rw[fC];omega):P:=h
def Qt(h:P:=by exact(((ct cd bv _).alloc aA _).alloc cx _).alloc cx _):P:=h
def Iq(h:P:=by unfold ax;omega):P:=h
def H2(h:P:=by simp at hk;omega):P:=h
def Di(h:P:=by simp at hj):P:=h
def DA(h:P:=by simp at this;omega):P:=h
def Rd(h:P:=by exact bE ⟨g,cap,cur,af,hb,(hg g af).trans bP,hr⟩):P:=h
def Zw(h:P:=by exact ua _ _):P:=h
def F0(h:P:=by show g<_;omega):P:=h
def FU(h:P:=by simpa using hk):P:=h
def JX(h:P:=by exact⟨0,eb _,af,af,dz _ _⟩):P:=h
def Bu(h:P:=by simp[hC]):P:=h
def Io(h:P:=by exact(dz _ _).alloc (cW _) _):P:=h
def zv(h:P:=by{simp_all}):P:=h
def Bt(h:P:=by exact ct cd bv _):P:=h
def FS(h:P:=by exact⟨af,dz _ _⟩):P:=h
def Dl(h:P:=by rw[ho,hZ];rfl):P:=h
def J2(h:P:=by show U w.1+1+1<U W2.1;omega):P:=h
def KA(h:P:=by show U W2.1≠U w.1+1;omega):P:=h
def Ky(h:P:=by simp at hu;rcases hu with rfl|rfl<;>rfl):P:=h
def BD(h:P:=by exact⟨af,aT⟩):P:=h
def xO(h:P:=by rw[h];rfl):P:=h
def J8(h:P:=by show U w.1+1+1+1<U W2.1;omega):P:=h
def Do(h:P:=by simpa using hj):P:=h
def J7(h:P:=by refine⟨?_,?_,?_,?_,?_⟩<;>simp[aD,h]):P:=h
def BC(h:P:=by rw[jy];omega):P:=h
def FR(h:P:=by rw[BF];omega):P:=h
def FM(h:P:=by rw[qQ G];exact i1):P:=h
def FN(h:P:=by rw[xT,hu,rJ];omega):P:=h
def FT(h:P:=by unfold maxLen;omega):P:=h
def Kr(h:P:=by exact⟨⟨k+1,dH,G,HS,fk mg bv _⟩,ee⟩):P:=h
def BA(h:P:=by simp at h):P:=h
def DB(h:P:=by simp[hC];omega):P:=h
def Ik(h:P:=by exact⟨⟨k+1,dH,G,bn,mg⟩,ee⟩):P:=h
def PY(h:P:=by unfold hM at h0;split at h0;{have⟨k,_,hk⟩:=xV.1 h0;exact(jo.1 hk).1};{exact(jo.1 h0).1}):P:=h
def FL(h:P:=by exact⟨af,ct cd bv _⟩):P:=h
def FW(h:P:=by rw[hnew]at h;simp at h):P:=h
def Bz(h:P:=by simp[fJ];omega):P:=h
def PP(h:P:=by exact⟨af,V aT⟩):P:=h
def H6(h:P:=by exact⟨⟨k+1,by rw[V hz],dH,G,cE⟩,ee⟩):P:=h
def Ph(h:P:=by simp[intOf];omega):P:=h
def Dk(h:P:=by  simp only[a_];grind):P:=h
def Dn(h:P:=by simp at hj;subst hj;simp[Addr.add]):P:=h
def PV(h:P:=by simp at hu;subst hu;rfl):P:=h
def ZD(h:P:=by simp[World.frozen?,h]):P:=h
def H1(h:P:=by simp only[a_,xP,pi,h];rfl):P:=h
def oF(h:P:=by simp[a_]):P:=h
def m7(h:P:=by rw[de];omega):P:=h
def Zs(h:P:=by exact⟨af,af⟩):P:=h
def PL(h:P:=by refine⟨⟨by rw[dE,kq,V cN];exact hown',⟨λh=>absurd h<|by simpa using Hx,λh=>by simp at h⟩⟩,?_⟩;have hB:=bN aT<|bV bU aT.4;exact(ct hB G _).trans ⟨hgrow.1,hgrow.2,hgrow.3,hgrow.4,λk hk=>hgrow.5 k cx λe=>cj<|(kX (V fU) k<|bZ e).1⟩):P:=h
def uV(h:P:=by show U w.1<=U w.1+1;omega):P:=h
def PC(h:P:=by  simp only[a_];rw[xP,b7 af,h];rfl):P:=h
def P5(h:P:=by unfold hC;omega):P:=h
def ZF(h:P:=by unfold aD; rw[hnew];rfl):P:=h
def kB(h:P:=by rw[kE];omega):P:=h
def fN(h:P:=by assumption):P:=h
def fT(h:P:=by rw[wL];omega):P:=h
def H0(h:P:=by intro u hu;exact PV):P:=h
def Zx(h:P:=by exact ZD):P:=h
def Bw(h:P:=by exact PV):P:=h
def Zr(h:P:=by exact Ph):P:=h
def ZI(h:P:=by exact Zw):P:=h
def ZG(h:P:=by exact Zs):P:=h
def ZC(h:P:=by exact ZF):P:=h
def QO(h:P:=by exact P5):P:=h
def m9(h:P:=by exact P5):P:=h
def t8(h:P:=by exact Zr):P:=h
def tb(h:P:=by exact Zx):P:=h
def qM(h:P:=by exact ZI):P:=h
def uW(h:P:=by exact QO):P:=h
def pf(h:P:=by exact ZG):P:=h
def m8(h:P:=by exact ZC):P:=h
section
open Bool
abbrev BQ:=@and_eq_false_iff
abbrev fx:=@and_eq_true
abbrev GE:=@false_eq_true
abbrev vU:=@not_eq_true
abbrev zH:=@not_eq_true'
abbrev DQ:=@or_eq_false_iff
abbrev vY:=@or_eq_true
end
section
open Go.World
abbrev i8:=@block_lt_of_cell?
abbrev DM:=@cell?_setCell_other
abbrev GF:=@cell?_spot
abbrev KQ:=@cells?_some
abbrev gd:=@size_alloc
end
section
open List
abbrev zJ:=@all_append
abbrev yo:=@all_cons
abbrev DT:=@all_eq_false
abbrev uB:=@all_eq_true
abbrev pr:=@any_eq_true
abbrev jI:=@append_assoc
abbrev mw:=@append_nil
abbrev oR:=@append_toArray
abbrev se:=@concat_eq_append
abbrev g_:=@cons_append
abbrev KT:=@dropLast_concat_getLast
abbrev R7:=@dropWhile_sublist
abbrev pk:=@drop_drop
abbrev lA:=@drop_eq_getElem_cons
abbrev D8:=@drop_eq_nil_of_le
abbrev KU:=@drop_left
abbrev w_:=@drop_length
abbrev sh:=@drop_of_length_le
abbrev O5:=@drop_one
abbrev sk:=@drop_zero
abbrev D9:=@eq_append_cons_of_mem
abbrev R8:=@eq_nil_iff_forall_not_mem
abbrev iM:=@eq_nil_of_length_eq_zero
abbrev si:=@eq_nil_or_concat
abbrev tG:=@filter_append
abbrev BS:=@filter_cons_of_neg
abbrev zK:=@filter_cons_of_pos
abbrev sj:=@filter_eq_nil_iff
abbrev yp:=@filter_eq_self
abbrev KV:=@find?_cons
abbrev R9:=@find?_eq_none
abbrev R_:=@findIdx?_eq_none_iff
abbrev KY:=@findIdx?_eq_some_iff_getElem
abbrev rR:=@flatMap_append
abbrev l5:=@flatMap_cons
abbrev D_:=@flatMap_nil
abbrev zL:=@foldl_append
abbrev GH:=@foldl_cons
abbrev jw:=@getD_eq_getElem?_getD
abbrev Sa:=@getElem!_eq_getElem?_getD
abbrev GI:=@getElem?_append_left
abbrev uC:=@getElem?_append_right
abbrev KZ:=@getElem?_drop
abbrev gw:=@getElem?_eq_getElem
abbrev Sb:=@getElem?_eq_none
abbrev vy:=@getElem?_map
abbrev Sd:=@getElem?_set_ne
abbrev K0:=@getElem?_set_self
abbrev DH:=@getElem?_take
abbrev uD:=@getElem?_take_of_lt
abbrev RH:=@getElem_append_left
abbrev RI:=@getElem_append_right
abbrev fw:=@getElem_cons_succ
abbrev e9:=@getElem_cons_zero
abbrev BT:=@getElem_drop
abbrev rS:=@getElem_map
abbrev eP:=@getElem_mem
abbrev RJ:=@isSuffixOf_iff_suffix
abbrev dE:=@length_append
abbrev ey:=@length_cons
abbrev js:=@length_drop
abbrev GJ:=@length_eq_one_iff
abbrev rT:=@length_eq_zero_iff
abbrev vA:=@length_filter_le
abbrev fC:=@length_map
abbrev h8:=@length_nil
abbrev yq:=@length_pos_iff
abbrev akQ:=@length_range
abbrev akR:=@length_replicate
abbrev rU:=@length_set
abbrev RK:=@length_singleton
abbrev jF:=@length_take
abbrev kq:=@map_append
abbrev pt:=@map_congr_left
abbrev nr:=@map_cons
abbrev Ea:=@map_drop
abbrev zM:=@map_id
abbrev nu:=@map_map
abbrev u_:=@map_nil
abbrev GK:=@map_set
abbrev K1:=@map_take
abbrev Eb:=@map_toArray
abbrev lc:=@mem_append
abbrev gC:=@mem_cons
abbrev nU:=@mem_cons_of_mem
abbrev jo:=@mem_filter
abbrev xV:=@mem_flatMap
abbrev GL:=@mem_iff_getElem
abbrev lZ:=@mem_map
abbrev Ec:=@mem_map_of_mem
abbrev uf:=@mem_nil_iff
abbrev Ed:=@mem_of_find?_eq_some
abbrev rM:=@mem_of_getElem?
abbrev RL:=@mem_of_mem_drop
abbrev zP:=@mem_of_mem_take
abbrev K2:=@mem_or_eq_of_mem_set
abbrev GN:=@mem_range
abbrev BU:=@mem_singleton
abbrev jz:=@nil_append
abbrev K3:=@nodup_cons
abbrev pL:=@pairwise_append
abbrev vB:=@pairwise_cons
abbrev GO:=@pairwise_iff_getElem
abbrev oS:=@push_toArray
abbrev BV:=@range_succ
abbrev K4:=@range_succ_eq_map
abbrev mK:=@setIfInBounds_toArray
abbrev K5:=@set_append
abbrev vC:=@set_append_right
abbrev lp:=@set_cons_succ
abbrev kH:=@set_cons_zero
abbrev ox:=@size_toArray
abbrev O6:=@tail_cons
abbrev uH:=@takeWhile_append_dropWhile
abbrev akS:=@takeWhile_cons_of_neg
abbrev GP:=@takeWhile_cons_of_pos
abbrev RM:=@takeWhile_sublist
abbrev GQ:=@take_add
abbrev lP:=@take_append_drop
abbrev ld:=@take_length
abbrev oT:=@take_of_length_le
abbrev yr:=@take_succ_cons
abbrev iH:=@take_succ_eq_append_getElem
abbrev tH:=@take_zero
end
section
open Nat
abbrev Gb:=@and_le_right
abbrev RO:=@and_two_pow_sub_one_eq_mod
abbrev Ee:=@le_add_right
abbrev Ef:=@mod_eq_of_lt
abbrev tI:=@mod_lt
abbrev ys:=@mul_le_mul_right
abbrev zS:=@ne_of_lt
abbrev Eg:=@or_lt_two_pow
abbrev RP:=@shiftLeft_add_eq_or_of_lt
abbrev eb:=@zero_le
end
end Go.Proofs.YtkkpahmoljiepaaGreatDoor
