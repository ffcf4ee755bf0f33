import Derived.ChangeFn
import Derived.Laws.Entries
set_option maxRecDepth 1000000
set_option maxHeartbeats 12800000
set_option linter.unusedSimpArgs false
set_option linter.unusedVariables false
namespace Go.Proofs.YtkkpahmoljiepaaGreatDoor
open Go
theorem a2{α:Sort _}(a:α):∃b,b=a:=⟨a,rfl⟩
theorem av{n:Nat}:n≤n:=Nat.le_refl n
abbrev ak:=Value.int .i64
abbrev aq(a i:Nat):Addr:=⟨a,i,none⟩
abbrev aJ:Value:=.slice none 0 0
abbrev aO(a:Nat):Value:=.pointer (some ⟨a,0,none⟩)
abbrev aF(a o n c:Nat):Value:=.slice (some ⟨a,o,none⟩) n c
theorem ae{P:Prop}(h:P:=by omega):P:=h
theorem aB{a:Prop}(b:a:=by kernel_rfl):a:=b
theorem am{P:Prop}(a:P:=by simp):P:=a
theorem ba{a:Prop}(b:a:=by decide):a:=b
theorem aA{P:Prop}(h:P:=by simp; omega):P:=h
theorem dO{a:Prop}(b:a:=by rfl):a:=b
theorem cu{a:Prop}(b:a:=by simp<;>omega):a:=b
abbrev aQ:=@And.intro
abbrev GD:=@Array.getElem?_append_left
abbrev GE:=@Array.getElem?_eq_none
abbrev bn:=@Array.getElem?_eq_some_iff
abbrev j0:=@Array.getElem?_modify
abbrev yU:=@Array.getElem?_push
abbrev yV:=@Array.getElem?_setIfInBounds
abbrev GF:=@Array.getElem?_setIfInBounds_ne
abbrev GG:=@Array.getElem?_setIfInBounds_self_of_lt
abbrev GH:=@Array.getElem?_toList
abbrev GJ:=@Array.getElem_setIfInBounds
abbrev kf:=@Array.length_toList
abbrev GK:=@Array.mem_of_getElem?
abbrev h_:=@Array.replicate_succ
abbrev ik:=@Array.replicate_zero
abbrev yW:=@Array.toList_setIfInBounds
abbrev zr:=@BitVec.toNat_and
abbrev pq:=@Bool.and_eq_false_iff
abbrev bW:=@Bool.and_eq_true
abbrev rd:=@Bool.and_false
abbrev uS:=@Bool.and_true
abbrev i0:=@Bool.eq_iff_iff
abbrev nH:=@Bool.false_and
abbrev pr:=@Bool.false_eq_true
abbrev mF:=@Bool.false_or
abbrev iU:=@Bool.not_eq_true
abbrev lS:=@Bool.not_eq_true'
abbrev uT:=@Bool.not_false
abbrev zs:=@Bool.not_true
abbrev sU:=@Bool.or_eq_false_iff
abbrev lN:=@Bool.or_eq_true
abbrev zt:=@Bool.or_false
abbrev nI:=@Bool.true_and
abbrev uU:=@Bool.true_or
abbrev uV:=@ByteArray.data_extract
abbrev uW:=@ByteArray.ext
abbrev nJ:=@Classical.byContradiction
abbrev sX:=@Go.Addr.add_lit
abbrev qC:=@Go.Result.andThen_ok
abbrev uM:=@Go.Sem.run_pure
abbrev gL:=@Go.Value.slice.inj
abbrev ef:=@Go.World.block_lt_of_cell?
abbrev zu:=@Go.World.cell?_setCell_other
abbrev cv:=@Go.World.size_alloc
abbrev zv:=@Go.run_underlying
abbrev sY:=@Iff.rfl
abbrev GL:=@Int.tdiv_eq_ediv_of_nonneg
abbrev zw:=@Int.tmod_eq_emod_of_nonneg
abbrev pt:=@Int.toNat_natCast
abbrev sR:=@List.Pairwise.filter
abbrev pu:=@List.all_append
abbrev nN:=@List.all_cons
abbrev rg:=@List.all_eq_false
abbrev kM:=@List.all_eq_true
abbrev hM:=@List.any_eq_true
abbrev c_:=@List.append_assoc
abbrev eu:=@List.append_nil
abbrev il:=@List.append_toArray
abbrev jq:=@List.concat_eq_append
abbrev rh:=@List.cons.inj
abbrev dF:=@List.cons_append
abbrev zx:=@List.dropLast_concat_getLast
abbrev GO:=@List.dropWhile_sublist
abbrev zy:=@List.drop_append_of_le_length
abbrev eR:=@List.drop_drop
abbrev fQ:=@List.drop_eq_getElem_cons
abbrev uY:=@List.drop_eq_nil_of_le
abbrev zz:=@List.drop_left
abbrev kN:=@List.drop_length
abbrev jr:=@List.drop_of_length_le
abbrev My:=@List.drop_one
abbrev kg:=@List.drop_zero
abbrev sS:=@List.eq_append_cons_of_mem
abbrev GP:=@List.eq_nil_iff_forall_not_mem
abbrev df:=@List.eq_nil_of_length_eq_zero
abbrev js:=@List.eq_nil_or_concat
abbrev kP:=@List.filter_append
abbrev vz:=@List.filter_cons
abbrev kh:=@List.filter_cons_of_neg
abbrev i1:=@List.filter_cons_of_pos
abbrev i2:=@List.filter_eq_nil_iff
abbrev nP:=@List.filter_eq_self
abbrev DG:=@List.find?_cons
abbrev zA:=@List.find?_eq_none
abbrev zB:=@List.find?_some
abbrev jt:=@List.flatMap_append
abbrev eT:=@List.flatMap_cons
abbrev rj:=@List.flatMap_nil
abbrev mG:=@List.foldl_append
abbrev sT:=@List.foldl_cons
abbrev fh:=@List.getD_eq_getElem?_getD
abbrev GQ:=@List.getElem!_eq_getElem?_getD
abbrev pv:=@List.getElem?_append_left
abbrev lT:=@List.getElem?_append_right
abbrev vA:=@List.getElem?_drop
abbrev dV:=@List.getElem?_eq_getElem
abbrev zD:=@List.getElem?_eq_none
abbrev fy:=@List.getElem?_eq_some_iff
abbrev nR:=@List.getElem?_map
abbrev zE:=@List.getElem?_set_self
abbrev lU:=@List.getElem?_take
abbrev kS:=@List.getElem?_take_of_lt
abbrev GR:=@List.getElem?_toArray
abbrev GS:=@List.getElem_append_left
abbrev uL:=@List.getElem_append_right
abbrev cF:=@List.getElem_cons_succ
abbrev cw:=@List.getElem_cons_zero
abbrev o_:=@List.getElem_drop
abbrev kT:=@List.getElem_map
abbrev bM:=@List.getElem_mem
abbrev GT:=@List.isSuffixOf_iff_suffix
abbrev a6:=@List.length_append
abbrev bi:=@List.length_cons
abbrev c8:=@List.length_drop
abbrev vB:=@List.length_eq_one_iff
abbrev jx:=@List.length_eq_zero_iff
abbrev nS:=@List.length_filter_le
abbrev bD:=@List.length_map
abbrev cW:=@List.length_nil
abbrev nT:=@List.length_pos_iff
abbrev PN:=@List.length_replicate
abbrev s1:=@List.length_set
abbrev te:=@List.length_singleton
abbrev de:=@List.length_take
abbrev d0:=@List.map_append
abbrev hN:=@List.map_congr_left
abbrev fl:=@List.map_cons
abbrev tf:=@List.map_drop
abbrev pw:=@List.map_id
abbrev fT:=@List.map_map
abbrev kK:=@List.map_nil
abbrev zF:=@List.map_set
abbrev zG:=@List.map_take
abbrev uN:=@List.map_toArray
abbrev dv:=@List.mem_append
abbrev vC:=@List.mem_append_left
abbrev zI:=@List.mem_append_right
abbrev co:=@List.mem_cons
abbrev fs:=@List.mem_cons_of_mem
abbrev dg:=@List.mem_filter
abbrev nu:=@List.mem_flatMap
abbrev vE:=@List.mem_iff_getElem
abbrev fz:=@List.mem_map
abbrev nz:=@List.mem_map_of_mem
abbrev lE:=@List.mem_nil_iff
abbrev th:=@List.mem_of_find?_eq_some
abbrev ki:=@List.mem_of_getElem?
abbrev vF:=@List.mem_of_mem_drop
abbrev mJ:=@List.mem_of_mem_take
abbrev zJ:=@List.mem_or_eq_of_mem_set
abbrev vG:=@List.mem_range
abbrev kU:=@List.mem_singleton
abbrev dJ:=@List.nil_append
abbrev zL:=@List.nodup_cons
abbrev hO:=@List.pairwise_append
abbrev lO:=@List.pairwise_cons
abbrev vI:=@List.pairwise_iff_getElem
abbrev im:=@List.push_toArray
abbrev ti:=@List.range_succ
abbrev zM:=@List.range_succ_eq_map
abbrev ep:=@List.setIfInBounds_toArray
abbrev vJ:=@List.set_append
abbrev mU:=@List.set_append_right
abbrev dl:=@List.set_cons_succ
abbrev c5:=@List.set_cons_zero
abbrev GU:=@List.singleton_append
abbrev ib:=@List.size_toArray
abbrev tj:=@List.sum_cons
abbrev MA:=@List.tail_cons
abbrev lP:=@List.takeWhile_append_dropWhile
abbrev vK:=@List.takeWhile_cons_of_neg
abbrev tk:=@List.takeWhile_cons_of_pos
abbrev GV:=@List.takeWhile_sublist
abbrev vM:=@List.take_add
abbrev ft:=@List.take_append_drop
abbrev dK:=@List.take_length
abbrev ie:=@List.take_of_length_le
abbrev nD:=@List.take_succ_cons
abbrev du:=@List.take_succ_eq_append_getElem
abbrev GX:=@List.take_take
abbrev kW:=@List.take_zero
abbrev nE:=@Nat.add_assoc
abbrev rk:=@Nat.add_mul
abbrev vN:=@Nat.add_sub_cancel
abbrev zN:=@Nat.add_sub_cancel_left
abbrev dT:=@Nat.add_zero
abbrev vP:=@Nat.and_le_right
abbrev GY:=@Nat.and_two_pow_sub_one_eq_mod
abbrev nF:=@Nat.le_add_right
abbrev bb:=@Nat.le_refl
abbrev aZ:=@Nat.le_trans
abbrev py:=@Nat.lt_of_le_of_lt
abbrev cp:=@Nat.lt_of_lt_of_le
abbrev zO:=@Nat.lt_or_ge
abbrev kb:=@Nat.min_eq_left
abbrev zQ:=@Nat.mod_eq_of_lt
abbrev mV:=@Nat.mul_comm
abbrev pz:=@Nat.mul_le_mul_right
abbrev lV:=@Nat.mul_one
abbrev zR:=@Nat.mul_succ
abbrev vR:=@Nat.one_mul
abbrev tl:=@Nat.or_lt_two_pow
abbrev GZ:=@Nat.pow_succ
abbrev i3:=@Nat.sub_self
abbrev cT:=@Nat.zero_add
abbrev b6:=@Nat.zero_le
abbrev i4:=@Nat.zero_mul
abbrev rl:=@Ne.symm
abbrev zS:=@Option.getD_some
abbrev G0:=@Option.map_eq_some_iff
abbrev cZ:=@Option.some.inj
abbrev nr:=@Option.some.injEq
abbrev rm:=@Prod.ext
abbrev ev:=@Prod.mk.inj
abbrev rn:=@Prod.mk.injEq
abbrev lX:=@UInt8.toNat.inj
abbrev nG:=@UInt8.toNat_inj
abbrev dt:=@UInt8.toNat_lt
abbrev iZ:=@UInt8.toNat_ofNat'
abbrev eW:=@beq_eq_false_iff_ne
abbrev dE:=@beq_iff_eq
abbrev o9:=@bne_iff_ne
abbrev bP:=@congrArg
abbrev eD:=@decide_eq_false
abbrev ro:=@decide_eq_false_iff_not
abbrev eC:=@decide_eq_true
abbrev jy:=@decide_eq_true_eq
abbrev qL:=@decide_eq_true_iff
abbrev qM:=@getElem!_pos
abbrev pA:=@if_false
abbrev ar:=@if_neg
abbrev ay:=@if_pos
abbrev gC:=@if_true
abbrev pB:=@not_or
abbrev qN:=@of_decide_eq_true
abbrev kd:=@or_false
abbrev aL:=@trivial
theorem yl{P:Prop}(h:P:=by simpa using ht):P:=h
theorem yM{P:Prop}(h:P:=by simpa using h3):P:=h
theorem yO{P:Prop}(h:P:=by simpa using t1):P:=h
theorem BD{P:Prop}(h:P:=by unfold World.cell?; rw[z0];rfl):P:=h
theorem Co{P:Prop}(h:P:=by exact World.alloc_heap_new _ _):P:=h
theorem Cr{P:Prop}(h:P:=by simp[Fence.wide]at h'):P:=h
theorem FZ{P:Prop}(h:P:=by{rw[nL.2.1 k ae];rw[uL aA,o_];simp[kb hk]}):P:=h
theorem F0{P:Prop}(h:P:=by{rw[Hid,du (by rw[ke];exact hlk)];simp[cO]}):P:=h
theorem yj{P:Prop}(h:P:=by intro i _ x hx;cases hx):P:=h
theorem Cj{P:Prop}(h:P:=by simp[Region.wanted,hg]):P:=h
theorem Cv{P:Prop}(h:P:=by unfold aV;rw[iZ];omega):P:=h
theorem BM{P:Prop}(h:P:=by unfold ao;rw[iZ];omega):P:=h
theorem yJ{P:Prop}(h:P:=by show bs<_;omega):P:=h
theorem yG{P:Prop}(h:P:=by show bl<_;omega):P:=h
theorem BB{P:Prop}(h:P:=by exact(aE.alloc av _).alloc am _):P:=h
theorem uE{P:Prop}(h:P:=by rw[bD];omega):P:=h
theorem Cu{P:Prop}(h:P:=by exact⟨0,b6 _,rfl,rfl,bk _ _⟩):P:=h
theorem B1{P:Prop}(h:P:=by exact⟨none,0,by rw[h,h0];rfl⟩):P:=h
theorem yN{P:Prop}(h:P:=by {exact ih (i+1) h.2 x hx}):P:=h
theorem D5{P:Prop}(h:P:=by {exact(((aE.alloc av _).alloc am _).alloc aA _).alloc aA _}):P:=h
theorem Ea{P:Prop}(h:P:=by exact⟨0,0,rfl,b6 _,b6 _,by simp[be],h0,fI.refl _ _ _ _⟩):P:=h
theorem FL{P:Prop}(h:P:=by rintro e w' ⟨rfl,rfl⟩;exact⟨_,rfl,e8 _ _ _ _,bk _ _⟩):P:=h
theorem E0{P:Prop}(h:P:=by obtain⟨ao,rfl⟩:=fy.1 h;rw[fQ ao,DG];cases p l[i]<;>rfl):P:=h
theorem Ek{P:Prop}(h:P:=by rw[hW1];exact⟨by rw[<- hW1];exact h0 _,ee,fD⟩):P:=h
theorem yE{P:Prop}(h:P:=by exact⟨rfl,bk _ _⟩):P:=h
theorem sm{P:Prop}(h:P:=by rw[cg];simp):P:=h
theorem BQ{P:Prop}(h:P:=by exact⟨⟨k+1,ae,bq,bz,bN⟩,ci⟩):P:=h
theorem yH{P:Prop}(h:P:=by rw[GN r]at this;exact this):P:=h
theorem Cp{P:Prop}(h:P:=by constructor<;>simp[World.cell?,h]):P:=h
theorem sB{P:Prop}(h:P:=by simp only[c_,dF,dJ]):P:=h
theorem sr{P:Prop}(h:P:=by exact⟨0,ae,rfl⟩):P:=h
theorem vD{P:Prop}(h:P:=by exact hp.elim):P:=h
theorem uJ{P:Prop}(h:P:=by show g<_;omega):P:=h
theorem sL{P:Prop}(h:P:=by simpa using ha):P:=h
theorem sC{P:Prop}(h:P:=by simpa using hy):P:=h
theorem uG{P:Prop}(h:P:=by simpa using hl):P:=h
theorem uD{P:Prop}(h:P:=by simpa using hj):P:=h
theorem EG{P:Prop}(h:P:=by simp only[co,lE,kd]at hc;rcases hc with rfl|rfl|rfl|rfl<;>omega):P:=h
theorem qj{P:Prop}(h:P:=by rw[h];simp):P:=h
theorem qk{P:Prop}(h:P:=by simp at hj):P:=h
theorem uH{P:Prop}(h:P:=by rw[de,c8];omega):P:=h
theorem ME{P:Prop}(h:P:=by exact .inl rfl):P:=h
theorem MK{P:Prop}(h:P:=by exact j9 _ _):P:=h
theorem EO{P:Prop}(h:P:=by rintro e w' ⟨rfl,hb'⟩;exact⟨rfl,hB.trans (hb'.mono hB.size)⟩):P:=h
theorem F3{P:Prop}(h:P:=by have h1:=dt (s.getD i 0);have h2:=dt (s.getD (i+1) 0);unfold aG;omega):P:=h
theorem Em{P:Prop}(h:P:=by{obtain⟨h',e⟩:=ag AX (m-(k+1)) V7;rw[hg]at e;exact e}):P:=h
theorem us{P:Prop}(h:P:=by exact absurd (df hz) hne):P:=h
theorem ux{P:Prop}(h:P:=by simp at hk;omega):P:=h
theorem ym{P:Prop}(h:P:=by unfold World.cell?;rw[bu];simp):P:=h
theorem qx{P:Prop}(h:P:=by exact aE.alloc av _):P:=h
theorem ys{P:Prop}(h:P:=by rw[h1]at hc;simp at hc):P:=h
theorem ng{P:Prop}(h:P:=by rw[h];rfl):P:=h
theorem MU{P:Prop}(h:P:=by exact .inl h):P:=h
theorem sA{P:Prop}(h:P:=by simpa using h2):P:=h
theorem sJ{P:Prop}(h:P:=by simpa using he):P:=h
theorem sy{P:Prop}(h:P:=by simpa using hc):P:=h
theorem sx{P:Prop}(h:P:=by simpa using hb):P:=h
theorem uA{P:Prop}(h:P:=by rw[sO,hu,iZ];omega):P:=h
theorem sw{P:Prop}(h:P:=by simp[maxLen];omega):P:=h
theorem FT{P:Prop}(h:P:=by have:=ag hend (by rw[h'];exact ql);simp only[h']at this;rw[hg]at this;exact this):P:=h
theorem DS{P:Prop}(h:P:=by simp only[ho,resolve,invoke,builtin,Sem.run_bind,uM,qC,uN,fl,kK,hs,hx,hr];exact h):P:=h
theorem B7{P:Prop}(h:P:=by have:=jo 46 x.length x av y hy;omega):P:=h
theorem BX{P:Prop}(h:P:=by show w.heap.size<=w2.heap.size;omega):P:=h
theorem BU{P:Prop}(h:P:=by  simp only[World.setCell];rw[j0,ay rfl,h];simp):P:=h
theorem BF{P:Prop}(h:P:=by exact⟨⟨k+1,bq,ae,HS,nk.setCell av _⟩,ci⟩):P:=h
theorem Ct{P:Prop}(h:P:=by show W2.heap.size≠w.heap.size+1;omega):P:=h
theorem uB{P:Prop}(h:P:=by exact⟨rfl,aE.alloc av _⟩):P:=h
theorem MX{P:Prop}(h:P:=by simp at this;omega):P:=h
theorem yI{P:Prop}(h:P:=by exact⟨⟨k+1,bq,ae,a_,nk⟩,ci⟩):P:=h
theorem o2{P:Prop}(h:P:=by rw[c8];omega):P:=h
theorem Cg{P:Prop}(h:P:=by rw[e];exact dg.2 ⟨hr,(mB r r).2 rfl⟩):P:=h
theorem qq{P:Prop}(h:P:=by simpa using h1):P:=h
theorem qt{P:Prop}(h:P:=by simpa using hk):P:=h
theorem BC{P:Prop}(h:P:=by refine⟨?_,?_,?_,?_,?_⟩<;>simp[World.cell?,h]):P:=h
theorem Cm{P:Prop}(h:P:=by show w.heap.size+1+1+1<W2.heap.size;omega):P:=h
theorem FH{P:Prop}(h:P:=by unfold cz at h0;split at h0;{obtain⟨k,_,hk⟩:=nu.1 h0;exact(dg.1 hk).1};{exact(dg.1 h0).1}):P:=h
theorem BT{P:Prop}(h:P:=by unfold Addr.add;by_cases h:j=0<;>simp[h]):P:=h
theorem MN{P:Prop}(h:P:=by simpa using this):P:=h
theorem qr{P:Prop}(h:P:=by exact⟨_,_,rfl⟩):P:=h
theorem o3{P:Prop}(h:P:=by rw[o9];omega):P:=h
theorem o5{P:Prop}(h:P:=by simp at h):P:=h
theorem ye{P:Prop}(h:P:=by{rw[Hid,bi,<- ag dh,ag wD];omega}):P:=h
theorem Ew{P:Prop}(h:P:=by rcases hc with hc|hc;{exact hy k hk (fun hx=>hn (.inl hx)) (fun he=>hn (.inr he)) hc};{exact hn (.inr hc)}):P:=h
theorem yg{P:Prop}(h:P:=by rw[hnew]at h;simp at h):P:=h
theorem ss{P:Prop}(h:P:=by simp[bv,bE,cq];omega):P:=h
theorem qm{P:Prop}(h:P:=by have:=ag dw;omega):P:=h
theorem mv{P:Prop}(h:P:=by simp[maxLen]):P:=h
theorem DX{P:Prop}(h:P:=by rw[<- hW1];have:=World.alloc_heap_new (w.alloc (.deferred (some []))) (.loop (rec .ready none));rwa [cv]at this):P:=h
theorem uz{P:Prop}(h:P:=by simp at hj;subst hj;simp[Addr.add]):P:=h
theorem ni{P:Prop}(h:P:=by rw[dE];omega):P:=h
theorem E_{P:Prop}(h:P:=by obtain⟨h1,h2,h3⟩:=hA;have hL:=lA A B (hsz A ⟨_,h2⟩) hst;exact⟨hI i A B h1 hst,hL.2.2.trans h2,hL.2.1.trans h3⟩):P:=h
theorem o7{P:Prop}(h:P:=by first|rfl|trivial):P:=h
theorem MQ{P:Prop}(h:P:=by exact⟨rfl,aR⟩):P:=h
theorem Eu{P:Prop}(h:P:=by obtain⟨c,h1,h2,h3⟩:=hA;have hL:=lA A B (hsz A ⟨_,h2⟩) hst;exact⟨c,om c A B h1 hst,hL.2.2.trans h2,hL.2.1.trans h3⟩):P:=h
theorem yx{P:Prop}(h:P:=by exact(bx _ _ _ am).trans (World.alloc_heap_new w _)):P:=h
theorem o4{P:Prop}(h:P:=by intro r hr;cases hr):P:=h
theorem B8{P:Prop}(h:P:=by exact fun r=>⟨hI 0 w _ h0 av (dz.AR ((aE.alloc av _).alloc am _)),am⟩):P:=h
theorem B2{P:Prop}(h:P:=by exact(bx (w.alloc eH) dP w.heap.size am).trans (World.alloc_heap_new w eH)):P:=h
theorem BS{P:Prop}(h:P:=by rw[World.putObj_size];omega):P:=h
theorem qw{P:Prop}(h:P:=by simp at hu;subst hu;rfl):P:=h
theorem jX{P:Prop}(h:P:=by rw[de];omega):P:=h
theorem kI{P:Prop}(h:P:=by simpa using h):P:=h
theorem yL{P:Prop}(h:P:=by obtain⟨a,c,e⟩:=k2.slice;rw[a6]at e;exact⟨a,c,e⟩):P:=h
theorem Ey{P:Prop}(h:P:=by obtain⟨hL,hk,ao⟩:=hp;obtain⟨f1,f2,f3,f4⟩:=fin none W3 hL;exact⟨_,_,f1,.inl ⟨rfl,⟨wm _ _ _ _ ao f2,f3,f4⟩,qY W _ _ _ W3 h2 hk hL⟩⟩):P:=h
theorem DJ{P:Prop}(h:P:=by rcases h1.2 with hn|⟨g,cap,cur,rfl,hb,BL,rest⟩;{exact .inl hn};{exact .inr ⟨g,cap,cur,rfl,hb,(hf.block g (bn.1 BL).1 (ho g rfl)).trans BL,rest⟩}):P:=h
theorem sH{P:Prop}(h:P:=by exact⟨hp.1,aL,hp.2,aZ hsz hp.1.1⟩):P:=h
theorem yP{P:Prop}(h:P:=by{rw[Hid,<- eR,ag bf,My,MA,ag GI,<- ag dh,<- ag wD]}):P:=h
theorem F5{P:Prop}(h:P:=by obtain⟨h1,h2⟩:=h;refine⟨h1,?_⟩;rcases h2 with h2|⟨g,cap,cur,rfl,hb,bu,hr⟩;{exact .inl h2};{exact .inr ⟨g,cap,cur,rfl,hb,(hg g rfl).trans bu,hr⟩}):P:=h
theorem Fe{P:Prop}(h:P:=by obtain⟨hL,hk,ao⟩:=hp;obtain⟨f1,f2,f3,f4⟩:=fin (some .ret) W3 hL;exact⟨_,_,f1,.inr ⟨rfl,⟨.ret,tN _ _ _ _ ao f2,f3,f4⟩,hKx W _ _ _ W3 h2 hk hL⟩⟩):P:=h
theorem MO{P:Prop}(h:P:=by simp[World.frozen?,h]):P:=h
theorem BJ{P:Prop}(h:P:=by intro A B hA hst;have:=lA A B hst;exact⟨this.size,this.block _ ae,this.block _ ae⟩):P:=h
theorem sK{P:Prop}(h:P:=by rw[Mx];first|omega|(unfold wrap64;omega)):P:=h
theorem Fv{P:Prop}(h:P:=by obtain⟨hL,hk,ao⟩:=hp;obtain⟨f1,f2,f3,f4⟩:=fin (some (.goto t)) W3 hL;exact⟨_,_,f1,.inr ⟨rfl,⟨.goto t,tN _ _ _ _ ao f2,f3,f4⟩,hKx W _ _ _ W3 h2 hk hL⟩⟩):P:=h
theorem DN{P:Prop}(h:P:=by obtain⟨hL,hk,ao⟩:=hp;obtain⟨f1,f2,f3,f4⟩:=fin (some (.exit id)) W3 hL;exact⟨_,_,f1,.inr ⟨rfl,⟨.exit id,tN _ _ _ _ ao f2,f3,f4⟩,hKx W _ _ _ W3 h2 hk hL⟩⟩):P:=h
theorem mx{P:Prop}(h:P:=by intro d aH;cases aH):P:=h
theorem iF{P:Prop}(h:P:=by rw[yQ];omega):P:=h
theorem FR{P:Prop}(h:P:=by have l3:=hL.2.2.trans e2;have hr:=run_endRound (P:=P) jump l3;refine⟨?_,l3,World.putObj_heap_same (bn.1 l3).1,(World.putObj_heap_other ae).trans (hL.2.1.trans e3)⟩;rw[hr,dn]):P:=h
theorem Cw{P:Prop}(h:P:=by intro i A B hA hst;have:=lA A B hst;exact⟨hI i A B hA.1 ae (dz.AR this),aZ hA.2 this.size⟩):P:=h
theorem BR{P:Prop}(h:P:=by intro c A B hA hst;have:=lA A B hst;exact⟨om c A B hA.1 hA.2 (dz.AR this),aZ hA.2 this.size⟩):P:=h
theorem yh{P:Prop}(h:P:=by cases e0<;>first|rfl|exact jT.elim):P:=h
theorem BW{P:Prop}(h:P:=by rcases h1.2 with⟨rfl,h0⟩|⟨g,cap,_,rfl,_⟩;{exact⟨none,0,by rw[h0]⟩};{exact⟨_,_,rfl⟩}):P:=h
theorem DL{P:Prop}(h:P:=by have:=run_endLoop (P:=P) hl (by rw[dn];simp);exact⟨none,_,by rw[this,dn],hdone _ (wm _ _ _ _ ao hl) ((World.putObj_heap_other ae).trans hk) (by rw[World.putObj_size];exact hsz _ ⟨_,hl⟩)⟩):P:=h
theorem Fa{P:Prop}(h:P:=by have:=run_endLoop (P:=P) hl (by rw[dn];simp);exact⟨some c,_,by rw[this,dn],wo c _ (tN _ _ _ _ ao hl) ((World.putObj_heap_other ae).trans hk) (by rw[World.putObj_size];exact hsz _ ⟨_,hl⟩)⟩):P:=h
theorem MF{P:Prop}(h:P:=by simp[intOf];omega):P:=h
theorem EL{P:Prop}(h:P:=by intro W r r' r'' Wc dn hk hL;refine qY _ _ (fun k ia=>?_) ?_;{have:=oq k ia;rw[World.putObj_heap_other ae,hk k ia,World.putObj_heap_other ae]};{have:=hL.1;rw[World.putObj_size]at this ⊢;exact this}):P:=h
theorem sq{P:Prop}(h:P:=by show w.heap.size<=w.heap.size+1+1;omega):P:=h
theorem sI{P:Prop}(h:P:=by show w.heap.size+1+1<W2.heap.size;omega):P:=h
theorem gj{P:Prop}(h:P:=by assumption):P:=h
theorem yc{P:Prop}(h:P:=by rw[World.putObj_size];exact h.2):P:=h
theorem uI{P:Prop}(h:P:=by refine cc (sN rfl _ _ _) rfl ?_;exact⟨⟨_,rfl⟩,.inr su⟩):P:=h
theorem Ed{P:Prop}(h:P:=by unfold fN;intro hc;obtain⟨c,_,hcc⟩:=fz.1 hc;unfold fK at hcc;split at hcc;{have:=bP UInt8.toNat hcc;rw[iZ]at this;have aAS:(46:UInt8).toNat=46:=rfl;omega};{split at hcc;{cases hcc};{rename_i h1 h2;exact h2 (by rw[hcc];rfl)}}):P:=h
theorem gB{P:Prop}(h:P:=by rw[a7];omega):P:=h
theorem yC{P:Prop}(h:P:=by simp only[World.setCell,j0,gC,h];rfl):P:=h
theorem BG{P:Prop}(h:P:=by obtain⟨_,⟨rfl,_⟩|⟨g',cap,cur,rfl,_,bu,_⟩⟩:=h;{simp[Value.ownBlock]at hg};{simp only[Value.ownBlock,nr]at hg;subst hg;exact⟨cur,bu⟩}):P:=h
theorem ij{P:Prop}(h:P:=by have:=hg.size;omega):P:=h
theorem DT{P:Prop}(h:P:=by refine⟨⟨by rw[a6,d0,ag eJ];exact hown',⟨fun h=>absurd h (by simpa using zC),fun h=>by simp at h⟩⟩,?_⟩;have hB:=aR.trans (bQ.mono aR.size);exact(hB.alloc ae _).trans ⟨hgrow.os,hgrow.tape,hgrow.output,hgrow.size,fun k hk=>hgrow.block k aA (fun e=>by have:=(e9 (ag gY) k e.symm).1;omega)⟩):P:=h
theorem g8{P:Prop}(h:P:=by simp[World.setCell]):P:=h
theorem MG{P:Prop}(h:P:=by exact⟨rfl,rfl⟩):P:=h
theorem B_{P:Prop}(h:P:=by have hs:=hk.1;rw[World.putObj_size]at hs;refine⟨by rw[World.putObj_size];exact hs,fun k fR hk2=>?_⟩;rw[World.putObj_heap_other ae,hk.2 _ ae (by rw[World.putObj_size];omega),World.putObj_heap_other ae]):P:=h
theorem DU{P:Prop}(h:P:=by unfold maxLen;omega):P:=h
theorem eP{P:Prop}(h:P:=by rw[eW];omega):P:=h
theorem Ec{P:Prop}(h:P:=by rcases h with h|⟨g,off,cap,h1,h2,h3,h4⟩;{exact .inl h};{have hb:w'.heap[g]? = w.heap[g]?:=hf.block g h3 (hp g (by rw[h1];rfl));have k:∀(o:Nat) (u:Value),w.cell? (aq g o)=some u->w'.cell? (aq g o)=some u:=fun o u hu=>(b7 (a:=⟨g,o,none⟩) hb).trans hu;refine .inr ⟨g,off,cap,h1,h2,cp h3 hf.size,fun j hj=>?_⟩;obtain⟨k0,k1,k2,k3,k4⟩:=h4 j hj;exact⟨k _ _ k0,k _ _ k1,k _ _ k2,k _ _ k3,k _ _ k4⟩}):P:=h
theorem eO{P:Prop}(h:P:=by show b<_;omega):P:=h
theorem MC{P:Prop}(h:P:=by unfold World.cell?; rw[hnew];rfl):P:=h
theorem cX{P:Prop}(h:P:=by rw[Mx];omega):P:=h
theorem MZ{P:Prop}(h:P:=by  simp only[World.setCell];rw[j0,ay rfl,h];rfl):P:=h
theorem c9{P:Prop}(h:P:=by show w.heap.size<=w.heap.size+1;omega):P:=h
theorem MS{P:Prop}(h:P:=by exact ME):P:=h
theorem MY{P:Prop}(h:P:=by exact MX):P:=h
theorem uF{P:Prop}(h:P:=by exact yg):P:=h
theorem MT{P:Prop}(h:P:=by exact MQ):P:=h
theorem MW{P:Prop}(h:P:=by exact MN):P:=h
theorem rU{P:Prop}(h:P:=by exact vD):P:=h
theorem MH{P:Prop}(h:P:=by exact MO):P:=h
theorem MM{P:Prop}(h:P:=by exact MK):P:=h
theorem ML{P:Prop}(h:P:=by exact MU):P:=h
theorem Cx{P:Prop}(h:P:=by exact fun i A r o h dn=>⟨hI i A _ h.1 ae (hput A r o dn),yc⟩):P:=h
theorem Ca{P:Prop}(h:P:=by exact fun c A r o h dn=>⟨om c A _ h.1 h.2 (hput A r o dn),yc⟩):P:=h
theorem MR{P:Prop}(h:P:=by exact MZ):P:=h
theorem MV{P:Prop}(h:P:=by exact MC):P:=h
theorem MD{P:Prop}(h:P:=by exact MF):P:=h
theorem En{P:Prop}(h:P:=by exact DU):P:=h
theorem M0{P:Prop}(h:P:=by exact MG):P:=h
theorem gW{P:Prop}(h:P:=by exact DU):P:=h
theorem nj{P:Prop}(h:P:=by exact MS):P:=h
theorem nh{P:Prop}(h:P:=by exact MY):P:=h
theorem mw{P:Prop}(h:P:=by exact MT):P:=h
theorem kJ{P:Prop}(h:P:=by exact MW):P:=h
theorem ch{P:Prop}(h:P:=by exact rU):P:=h
theorem jW{P:Prop}(h:P:=by exact MH):P:=h
theorem iD{P:Prop}(h:P:=by exact MM):P:=h
theorem iG{P:Prop}(h:P:=by exact ML):P:=h
theorem lC{P:Prop}(h:P:=by exact En):P:=h
theorem gX{P:Prop}(h:P:=by exact MR):P:=h
theorem gA{P:Prop}(h:P:=by exact MV):P:=h
theorem gz{P:Prop}(h:P:=by exact MD):P:=h
theorem dX{P:Prop}(h:P:=by exact M0):P:=h
end Go.Proofs.YtkkpahmoljiepaaGreatDoor
