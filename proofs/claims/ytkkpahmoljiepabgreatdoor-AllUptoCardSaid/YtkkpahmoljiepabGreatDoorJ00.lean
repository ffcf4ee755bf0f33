import Derived.ChangeFn
import Derived.CallsIn
import Derived.Laws.BitsLemmas
set_option maxRecDepth 1000000
set_option maxHeartbeats 12800000
set_option linter.all false
namespace Go.Proofs.YtkkpahmoljiepabGreatDoor
variable{a:Nat}
variable{P:Prop}
def U.{u}{α:Sort u}{a:α}:a=a:=rfl
open Go
def bd{a c:Prop}(d:a)(b:c):a/\c:=⟨d,b⟩
def eR.{d}{α:Sort d}{b:α->Prop}(a:α)(c:b a):∃e,b e:=⟨a,c⟩
def cd{b a:Prop}(c:b)(d:b->a:=by omega):a:=d c
def _root_.Go.Calls.m{d f h b v}{g:World->Prop}{e:Ending->World->Prop}(a:Calls d f h b λi c=>i=v/\g c)(j:∀c,g c->e v c):Calls d f h b e:=a.mono λ_ b a=>a.1▸j b a.2
def _root_.Go.CallsIn.m{d n e f i b v}{h:World->Prop}{g:Ending->World->Prop}(a:CallsIn d n e f i b λj c=>j=v/\h c)(k:∀c,h c->g v c):CallsIn d n e f i b g:=a.mono λ_ b a=>a.1▸k b a.2
def bm{α:Sort _}(a:α):∃b,b=a:=⟨a,U⟩
def du{α:Sort _}(a:α):∃b,a=b:=⟨a,U⟩
abbrev bY(c:World)(b a:Nat)(v:Value):Prop:=c.cell? ⟨b,a,none⟩=some v
def bo:a≤a:=Nat.le_refl a
abbrev M:=Value.int .i64
abbrev N(b a:Nat):Addr:=⟨b,a,none⟩
abbrev bX:Value:=.slice none 0 0
abbrev bv(b:Nat):Value:=.pointer<|some ⟨b,0,none⟩
abbrev bL(a d c b:Nat):Value:=.slice (some ⟨a,d,none⟩) c b
def G{a:Prop}(b:a:=by omega):a:=b
def b6{a:Prop}(b:a:=by kernel_rfl):a:=b
def ax{a:Prop}(b:a:=by simp):a:=b
def bW{a:Prop}(b:a:=by decide):a:=b
def ct{a:Prop}(b:a:=by simp;omega):a:=b
def dl{a:Prop}(b:a:=by rfl):a:=b
def gB{a:Prop}(b:a:=by simp<;>omega):a:=b
abbrev cj:=@And.intro
abbrev agt:=@Array.getElem?_eq_none
abbrev dK:=@Array.getElem?_eq_some_iff
abbrev ru:=@Array.getElem?_modify
abbrev Iv:=@Array.getElem?_push
abbrev O_:=@Array.getElem_setIfInBounds
abbrev p6:=@Array.length_toList
abbrev mx:=@Array.replicate_succ
abbrev mP:=@Array.replicate_zero
abbrev Iw:=@BitVec.toNat_and
abbrev DC:=@Bool.and_false
abbrev DD:=@Bool.and_true
abbrev pR:=@Bool.eq_iff_iff
abbrev uM:=@Bool.false_and
abbrev wy:=@Bool.false_or
abbrev AT:=@Bool.not_false
abbrev Ix:=@Bool.or_false
abbrev uN:=@Bool.true_and
abbrev Iz:=@Bool.true_or
abbrev VN:=@ByteArray.data_extract
abbrev Gu:=@ByteArray.ext
abbrev yO:=@Classical.byContradiction
abbrev yl:=@Go.Addr.add_lit
abbrev wB:=@Go.Result.andThen_ok
abbrev AV:=@Go.Sem.run_pure
abbrev js:=@Go.Value.slice.inj
abbrev Ia:=@Go.run_underlying
abbrev oK:=@Int.tmod_eq_emod_of_nonneg
abbrev sA:=@Int.toNat_natCast
abbrev DF:=@Int.toNat_of_nonneg
abbrev AR:=@List.Pairwise.filter
abbrev A7:=@List.cons.inj
abbrev Pi:=@List.getElem?_eq_none_iff
abbrev iW:=@List.getElem?_eq_some_iff
abbrev pL:=@Nat.add_assoc
abbrev C2:=@Nat.add_mul
abbrev DS:=@Nat.add_sub_cancel
abbrev DT:=@Nat.add_sub_cancel_left
abbrev h8:=@Nat.add_zero
abbrev cO:=@Nat.le_refl
abbrev cJ:=@Nat.le_trans
abbrev wH:=@Nat.lt_of_le_of_lt
abbrev eA:=@Nat.lt_of_lt_of_le
abbrev ro:=@Nat.min_eq_left
abbrev wI:=@Nat.mul_comm
abbrev r5:=@Nat.mul_one
abbrev In:=@Nat.mul_zero
abbrev Df:=@Nat.pow_le_pow_right
abbrev pX:=@Nat.sub_self
abbrev fM:=@Nat.zero_add
abbrev Io:=@Nat.zero_lt_one
abbrev o7:=@Nat.zero_mul
abbrev Dg:=@Option.getD_some
abbrev gm:=@Option.some.inj
abbrev rG:=@Option.some.injEq
abbrev Bk:=@Prod.ext
abbrev kv:=@Prod.mk.inj
abbrev Dh:=@Prod.mk.injEq
abbrev sM:=@UInt8.toNat.inj
abbrev wK:=@UInt8.toNat_inj
abbrev gp:=@UInt8.toNat_lt
abbrev pB:=@UInt8.toNat_ofNat'
abbrev ju:=@beq_eq_false_iff_ne
abbrev iE:=@beq_iff_eq
abbrev yC:=@bne_iff_ne
abbrev eQ:=@congrArg
abbrev fI:=@decide_eq_false
abbrev Bl:=@decide_eq_false_iff_not
abbrev lx:=@decide_eq_true
abbrev pZ:=@decide_eq_true_eq
abbrev Di:=@decide_eq_true_iff
abbrev yT:=@getElem!_pos
abbrev bV:=@if_neg
abbrev b8:=@if_pos
abbrev mM:=@if_true
abbrev oH:=@of_decide_eq_true
abbrev n_:=@or_false
abbrev cy:=@trivial
def iV(a:Int)(b:-9223372036854775808<=a/\a<9223372036854775808:=by omega):IntKind.i64.wrap a=a:=by rw[Go.IntKind.wrap_i64];omega
def od(a:Int)(b:0<=a/\a<65536:=by omega):IntKind.u16.wrap a=a:=by simp[IntKind.wrap,IntKind.bits,IntKind.signed];omega
def V8(a:Int)(b:0<=a/\a<4294967296:=by omega):IntKind.u32.wrap a=a:=by rw[Go.IntKind.wrap_u32];omega
def EY(h:P:=by simpa using hy):P:=h
def EV(h:P:=by simpa using hl):P:=h
def CL(h:P:=by simp only[iz,fN,iF]):P:=h
def MI(h:P:=by{rw[hc0,iA,fs (by rw[cV]at h;exact h)];rfl}):P:=h
def Ni(h:P:=by{rw[ao,g8 (by rw[qc];exact hlk)];simp[er]}):P:=h
def GW(h:P:=by simp[Region.wanted,hg]):P:=h
def CG(h:P:=by rw[ff];omega):P:=h
def Hu(h:P:=by unfold aA;rw[oO];rfl):P:=h
def yu(h:P:=by exact bJ U):P:=h
def NU(h:P:=by exact(((cf cc bo _).alloc ax _).alloc ct _).alloc ct _):P:=h
def E2(h:P:=by unfold ao;omega):P:=h
def E_(h:P:=by simp at hk;omega):P:=h
def AF(h:P:=by simp at hj):P:=h
def At(h:P:=by simp at this;omega):P:=h
def CB(h:P:=by rw[ho,gC];rfl):P:=h
def G3(h:P:=by exact⟨0,U,dJ _,cA,qJ _ _ _⟩):P:=h
def Hm(h:P:=by exact⟨0,dJ _,U,U,U⟩):P:=h
def G2(h:P:=by rw[hW3];exact cf cc bo _):P:=h
def Ct(h:P:=by show g<_;omega):P:=h
def Cx(h:P:=by simpa using hk):P:=h
def yp(h:P:=by simp[fk]):P:=h
def wg(h:P:=by{simp_all}):P:=h
def Fg(h:P:=by exact bd U<|cf cc bo _):P:=h
def Hy(h:P:=by show J w.1+1+1<J W2.1;omega):P:=h
def Hi(h:P:=by show J W2.1≠J w.1+1;omega):P:=h
def Ht(h:P:=by simp at hu;rcases hu with rfl|rfl<;>rfl):P:=h
def uo(h:P:=by rw[h];rfl):P:=h
def Hl(h:P:=by show J w.1+1+1+1<J W2.1;omega):P:=h
def AA(h:P:=by simpa using hj):P:=h
def Hk(h:P:=by refine⟨?_,?_,?_,?_,?_⟩<;>simp[aA,h]):P:=h
def yv(h:P:=by rw[iE];omega):P:=h
def CE(h:P:=by rw[yC];omega):P:=h
def CA(h:P:=by rw[oK G];exact i1):P:=h
def CC(h:P:=by rw[ur,hu,pB];omega):P:=h
def yo(h:P:=by simp at h):P:=h
def Nm(h:P:=by unfold f_ at h0;split at h0;{let⟨k,_,hk⟩:=tI.1 h0;exact(ig.1 hk).1};{exact(ig.1 h0).1}):P:=h
def VP(h:P:=by exact⟨_,_,U⟩):P:=h
def G9(h:P:=by exact(dv (aN w fO) eV (J w.1) ax).trans<|cW w fO):P:=h
def Ay(h:P:=by unfold maxLen;omega):P:=h
def v7(h:P:=by simp[fj];omega):P:=h
def AC(h:P:=by simp[d_,ev,fB];omega):P:=h
def Cz(h:P:=by simp at hj;subst hj;simp[Addr.add]):P:=h
def VS(h:P:=by simp[intOf];omega):P:=h
def up(h:P:=by simp[fk];omega):P:=h
def AG(h:P:=by  simp only[a7];grind):P:=h
def MK(h:P:=by refine wpList_plain hgd λK hK=>?_;simp only[Oper.wp,execOp,ho,resolve,invoke,builtin,Sem.run_bind,AV,wB,Bd,lU,sv,hs,hx,hr];exact hK _ _ h):P:=h
def LY(h:P:=by simp at hu;subst hu;rfl):P:=h
def No(h:P:=by let⟨h1,h2⟩:=h;refine bd h1 ?_;rcases h2 with h2|⟨g,cap,cur,rfl,hb,bP,hr⟩;{exact bJ h2};{exact bE ⟨g,cap,cur,U,hb,(hg g U).trans bP,hr⟩}):P:=h
def VX(h:P:=by simp[World.frozen?,h]):P:=h
def EX(h:P:=by simp only[a7,ru,mM,h];rfl):P:=h
def mo(h:P:=by simp[a7]):P:=h
def VT(h:P:=by exact bd U U):P:=h
def lv(h:P:=by rw[cV];omega):P:=h
def MO(h:P:=by refine⟨⟨by rw[dj,jg,V cN];exact hown',⟨λh=>absurd h<|by simpa using Hx,λh=>by simp at h⟩⟩,?_⟩;have hB:=bC aT<|bN bU aT.4;exact(cf hB G _).trans ⟨hgrow.1,hgrow.2,hgrow.3,hgrow.4,λk hk=>hgrow.5 k ct λe=>cd<|(fS (V fU) k<|b5 e).1⟩):P:=h
def wd(h:P:=by show J w.1<=J w.1+1;omega):P:=h
def lN(h:P:=by unfold fk;omega):P:=h
def VO(h:P:=by unfold aA;rw[hnew];rfl):P:=h
def iQ(h:P:=by rw[ju];omega):P:=h
def fi(h:P:=by assumption):P:=h
def fl(h:P:=by rw[tv];omega):P:=h
def VW(h:P:=by exact VP):P:=h
def E5(h:P:=by intro u hu;exact LY):P:=h
def Me(h:P:=by exact⟨U,((fc aT wd _).setCell wd _).setCell wd _⟩):P:=h
def V0(h:P:=by exact VX):P:=h
def VZ(h:P:=by exact VS):P:=h
def yn(h:P:=by exact LY):P:=h
def V3(h:P:=by exact VT):P:=h
def VU(h:P:=by exact VO):P:=h
def wa(h:P:=by exact VW):P:=h
def qE(h:P:=by exact V0):P:=h
def qD(h:P:=by exact VZ):P:=h
def oa(h:P:=by exact V3):P:=h
def lL(h:P:=by exact VU):P:=h
section
open Bool
abbrev yN:=@and_eq_false_iff
abbrev e9:=@and_eq_true
abbrev DE:=@false_eq_true
abbrev sY:=@not_eq_true
abbrev wA:=@not_eq_true'
abbrev AU:=@or_eq_false_iff
abbrev sZ:=@or_eq_true
end
section
open Go.World
abbrev g_:=@block_lt_of_cell?
abbrev zM:=@cell?_setCell_other
abbrev Cq:=@cell?_spot
abbrev Gv:=@cells?_some
abbrev eE:=@size_alloc
end
section
open List
abbrev wC:=@all_append
abbrev uO:=@all_cons
abbrev AW:=@all_eq_false
abbrev rX:=@all_eq_true
abbrev ni:=@any_eq_true
abbrev iz:=@append_assoc
abbrev kW:=@append_nil
abbrev mQ:=@append_toArray
abbrev pe:=@concat_eq_append
abbrev fN:=@cons_append
abbrev Ib:=@dropLast_concat_getLast
abbrev Pa:=@dropWhile_sublist
abbrev my:=@drop_drop
abbrev jM:=@drop_eq_getElem_cons
abbrev A8:=@drop_eq_nil_of_le
abbrev Ic:=@drop_left
abbrev tl:=@drop_length
abbrev pT:=@drop_of_length_le
abbrev DG:=@drop_one
abbrev pW:=@drop_zero
abbrev A9:=@eq_append_cons_of_mem
abbrev Pc:=@eq_nil_iff_forall_not_mem
abbrev hq:=@eq_nil_of_length_eq_zero
abbrev pf:=@eq_nil_or_concat
abbrev qV:=@filter_append
abbrev yP:=@filter_cons_of_neg
abbrev wD:=@filter_cons_of_pos
abbrev pU:=@filter_eq_nil_iff
abbrev uP:=@filter_eq_self
abbrev Id:=@find?_cons
abbrev Pd:=@find?_eq_none
abbrev Pf:=@findIdx?_eq_none_iff
abbrev If:=@findIdx?_eq_some_iff_getElem
abbrev o3:=@flatMap_append
abbrev kj:=@flatMap_cons
abbrev A_:=@flatMap_nil
abbrev wE:=@foldl_append
abbrev DH:=@foldl_cons
abbrev iA:=@getD_eq_getElem?_getD
abbrev Pg:=@getElem!_eq_getElem?_getD
abbrev Cr:=@getElem?_append_left
abbrev pv:=@getElem?_append_right
abbrev Ig:=@getElem?_drop
abbrev fs:=@getElem?_eq_getElem
abbrev Ph:=@getElem?_eq_none
abbrev sG:=@getElem?_map
abbrev Pj:=@getElem?_set_ne
abbrev Ih:=@getElem?_set_self
abbrev yG:=@getElem?_take
abbrev qA:=@getElem?_take_of_lt
abbrev ON:=@getElem_append_left
abbrev OO:=@getElem_append_right
abbrev eG:=@getElem_cons_succ
abbrev eB:=@getElem_cons_zero
abbrev yQ:=@getElem_drop
abbrev pH:=@getElem_map
abbrev ei:=@getElem_mem
abbrev OP:=@isSuffixOf_iff_suffix
abbrev dj:=@length_append
abbrev dW:=@length_cons
abbrev il:=@length_drop
abbrev DI:=@length_eq_one_iff
abbrev pJ:=@length_eq_zero_iff
abbrev sH:=@length_filter_le
abbrev ff:=@length_map
abbrev gG:=@length_nil
abbrev tn:=@length_pos_iff
abbrev agP:=@length_range
abbrev agQ:=@length_replicate
abbrev o4:=@length_set
abbrev OQ:=@length_singleton
abbrev iv:=@length_take
abbrev jg:=@map_append
abbrev nj:=@map_congr_left
abbrev lU:=@map_cons
abbrev Bc:=@map_drop
abbrev wF:=@map_id
abbrev lV:=@map_map
abbrev sv:=@map_nil
abbrev DK:=@map_set
abbrev Ii:=@map_take
abbrev Bd:=@map_toArray
abbrev i_:=@mem_append
abbrev fw:=@mem_cons
abbrev l8:=@mem_cons_of_mem
abbrev ig:=@mem_filter
abbrev tI:=@mem_flatMap
abbrev DM:=@mem_iff_getElem
abbrev kE:=@mem_map
abbrev Be:=@mem_map_of_mem
abbrev rF:=@mem_nil_iff
abbrev Bf:=@mem_of_find?_eq_some
abbrev pE:=@mem_of_getElem?
abbrev OR:=@mem_of_mem_drop
abbrev vL:=@mem_of_mem_take
abbrev Ij:=@mem_or_eq_of_mem_set
abbrev DN:=@mem_range
abbrev yR:=@mem_singleton
abbrev iF:=@nil_append
abbrev Ik:=@nodup_cons
abbrev nK:=@pairwise_append
abbrev sI:=@pairwise_cons
abbrev DO:=@pairwise_iff_getElem
abbrev mR:=@push_toArray
abbrev yS:=@range_succ
abbrev Il:=@range_succ_eq_map
abbrev kB:=@setIfInBounds_toArray
abbrev Im:=@set_append
abbrev sK:=@set_append_right
abbrev iy:=@set_cons_succ
abbrev iR:=@set_cons_zero
abbrev mA:=@size_toArray
abbrev DP:=@tail_cons
abbrev rY:=@takeWhile_append_dropWhile
abbrev agR:=@takeWhile_cons_of_neg
abbrev DQ:=@takeWhile_cons_of_pos
abbrev OT:=@takeWhile_sublist
abbrev DR:=@take_add
abbrev ku:=@take_append_drop
abbrev jc:=@take_length
abbrev mS:=@take_of_length_le
abbrev uQ:=@take_succ_cons
abbrev g8:=@take_succ_eq_append_getElem
abbrev qW:=@take_zero
end
section
open Nat
abbrev De:=@and_le_right
abbrev OU:=@and_two_pow_sub_one_eq_mod
abbrev Bh:=@le_add_right
abbrev Bi:=@mod_eq_of_lt
abbrev qY:=@mod_lt
abbrev tp:=@mul_le_mul_right
abbrev wJ:=@ne_of_lt
abbrev Bj:=@or_lt_two_pow
abbrev OV:=@shiftLeft_add_eq_or_of_lt
abbrev dJ:=@zero_le
end
end Go.Proofs.YtkkpahmoljiepabGreatDoor
