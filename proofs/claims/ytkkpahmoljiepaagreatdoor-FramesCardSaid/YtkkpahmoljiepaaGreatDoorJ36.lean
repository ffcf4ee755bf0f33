import Derived.Test.YtkkpahmoljiepaaGreatDoorJ35
import Derived.Deep.DeepHandedRow
import Derived.SizedLaws
set_option maxRecDepth 1000000
set_option maxHeartbeats 12800000
set_option linter.unusedSimpArgs false
set_option linter.unusedVariables false
namespace Go.Proofs.YtkkpahmoljiepaaGreatDoor
section
open Go.ChangeShapes Go.WideShapes Go.ChangeAt Go.RowKit
section
open Go.ChangeMaps (open_string shut_string)
variable {H:Type} {enc:TypeId×Value->H}
theorem Of(P:Program)(e:TypeId)(n:Nat):∀(c:List (DataW H)) (b:DataW H),b∈c->n∈b.weights P e->n∈DataW.weightsAll P e c
 | [],_,a,_=>by cases a
 | d::c,b,a,k=>by simp only[DataW.weightsAll,List.mem_append];rcases co.1 a with rfl|a;{exact .inl k};{exact .inr (Of P e n c b a k)}
theorem Mw:Tryz.prog.underlying 49=some (.slice 9):=aB
theorem OK:Tryz.prog.cellsOf 9=1:=aB
theorem Zq0:Tryz.prog.bytesOf 9=16:=aB
theorem O3:laidOutB Tryz.prog=true:=aB
theorem O4:Tryz.prog.readableRec 49=true:=aB
theorem O5{q:World}{v:Value}{j:DataW H}{I:List MemPlace}(C:∃b a d,v=.slice b a d)(k:DataW.Trod enc Tryz.prog q 0 (fun _=>true) true 49 v j I):∃p:List ah,Mp q v p/\(p=[]\/∃es sp,j=.slice es sp/\p.length<=es.length/\∀b∈p,.lit (.string b)∈es):=by
 obtain⟨r,u,t,rfl⟩:=C;obtain⟨K,z⟩:=k;rcases open_strings Mw Tryz.underlying9 OK z with⟨l,c⟩|⟨b,a,d,h,l,_,A,L,E,c,o,M⟩;{
 have n:Value.slice r u t=aJ:=by simpa [Value.cells]using l
 rw[n];exact⟨[],.inl ⟨⟨_,_,rfl⟩,rfl⟩,.inl rfl⟩};{
 have n:Value.slice r u t=.slice (some b) a d:=by simpa [Value.cells]using l
 rw[n];simp only[gC]at E;simp only[rn]at c;obtain⟨rfl,rfl⟩:=c;have g:((h.take a).map (·.data.toList)).length=a:=aA;refine⟨(h.take a).map (·.data.toList),?_,.inr ⟨_,_,rfl,?_,?_⟩⟩;{
 by_cases x:a=0;{subst x;exact .inl ⟨⟨_,_,rfl⟩,am⟩};{
 obtain⟨w,G,J⟩:=b;have B:J=none:=by simpa [Addr.add]using World.cell?_spot (o 0 ae)
 subst B;refine .inr ⟨w,G,d,by rw[g],by rw[g];exact A,?_,fun F ao=>?_⟩;{exact ef _ _ (by have:=o 0 ae;simpa [Addr.add]using this)};{rw[g]at ao;have e:=o F ae;rw[add_plain]at e;rw[e,kT,List.getElem_take,fh,dV ae];rfl}}};{simp[strs]};{intro N c;obtain⟨i,D,rfl⟩:=fz.1 c;exact fz.2 ⟨i,D,rfl⟩}}
theorem O6(E:Stop.Interp)(a:World)(o:Nat)(b:Array Value)(h q:List (DataW H))(I:List MemPlace)(n:∀(d:Nat) e v,Tryz.f9.params[d]? = some e->b[d]? = some v->Value.okWide Tryz.prog a .any o e v)(u:DataW.Whole enc Tryz.prog Tryz.f9.params.toList (OpenSpec.ofChange Rows.framesSpec).vars false a b.toList h q I)(Q:(DataW.weightsEach Tryz.prog (Tryz.f9.params.toList++(OpenSpec.ofChange Rows.framesSpec).bare.plain.varTypes Tryz.prog) (h++q)).all (·<=reachBytes)=true) (D:a.ShapedOpen Tryz.prog):az 9 b a fun p l=>∃v,p=.returned v/\((OpenSpec.ofChange Rows.framesSpec).at E).post enc Tryz.prog Tryz.f9 false true false false a b v l:=by
 have c:∀(d:Nat) e v,Tryz.f9.params[d]? = some e->b[d]? = some v->Value.okWide Tryz.prog a .any o e v:=n;have g:=u;obtain⟨V,av,C,N,rfl,ap,an⟩:=u;have t:DataW.TrodAll enc Tryz.prog a 0 (fun _=>true) true Tryz.f9.params.toList b.toList h V:=C;rw[Tryz.params9]at t c;obtain⟨z,af,cU,aj,ar,aw,ag,rfl,rfl,K,W⟩:=trodAll_cons t;obtain⟨A,aC,ah,ak,au,ax,rfl,rfl,rfl,L,X⟩:=trodAll_cons W;obtain⟨B,aD,ai,al,cK,ay,rfl,rfl,rfl,M,Y⟩:=trodAll_cons X;obtain⟨j,aE,J,am,cx,aA,rfl,rfl,rfl,r,Z⟩:=trodAll_cons Y;obtain⟨rfl,rfl,rfl⟩:=trodAll_nil Z;obtain rfl:b=#[z,A,B,j]:=by cases b;simp_all
 obtain⟨rfl,rfl⟩:=trodVars_none N;obtain⟨aa,rfl,rfl,rfl,ab⟩:=open_string Tryz.underlying9 (c 0 9 z rfl rfl) K;obtain⟨x,rfl,rfl,rfl,ac⟩:=open_string Tryz.underlying9 (c 1 9 A rfl rfl) L;obtain⟨y,rfl,rfl,rfl,ad⟩:=open_string Tryz.underlying9 (c 2 9 B rfl rfl) M;obtain⟨G,O,S⟩:=O5 (okWide_slice Mw (c 3 49 j rfl rfl)) r;rw[Tryz.params9]at Q;have aq:=sized_string Q (j:=1) (t:=9) rfl rfl;have ao:=sized_string Q (j:=2) (t:=9) rfl rfl;have T:G.length<=140737488351232/\∀F∈G,F.length<=140737488351232:=by{rcases S with rfl|⟨es,sp,rfl,T,S⟩;{simp};{have:=sized_slice Q (j:=3) (t:=49) (e:=9) rfl rfl Mw;rw[Zq0]at this;unfold reachBytes at this;refine⟨by omega,fun F i=>?_⟩;have:=List.all_eq_true.1 Q F.length (DataW.weights_mem_each (j:=3) (t:=49) rfl rfl _ (by simp only[DataW.weights,Mw];exact .tail _ (List.mem_append_left _ (Of _ _ _ _ _ (S F i) (by simp[DataW.weights])))));have:=qN this;unfold reachBytes at this;omega}};unfold reachBytes at aq ao;clear C n Q;have R:∀k∈cx,k.block<a.heap.size:=fun k T=>g.lt k (by simp[T]);simp only[eu]at g;have U:=OC aa.data.toList x.data.toList y.data.toList G j a (OE D) ae ae O T.1 T.2;refine U.mono fun p l ⟨P,w⟩=>?_;subst P;exact⟨_,rfl,_,_,_,[],[]++([]++([]++(cx++[]))),[],g,(trodAll_cons_mk (shut_bool Tryz.underlying4 _) trodAll_mk0),(trodAll_cons_mk (shut_string Tryz.underlying9 ab) (trodAll_cons_mk (shut_string Tryz.underlying9 ac) (trodAll_cons_mk (shut_string Tryz.underlying9 ad) (trodAll_cons_mk (Below.trod O3 O4 (qN aB) r w R) trodAll_mk0)))),rfl,w.frame _,fun i=>by cases i⟩
theorem O7(a:Os)(q:a.Started)(H:Type)(enc:TypeId×Value->H)(b:Stop.Interp):ReturnsInHanded {} Tryz.checked a 9 .any ((OpenSpec.ofChange Rows.framesSpec).preRow enc Tryz.prog Tryz.f9 Rows.framesRow.domain false Rows.framesRow.laid) (((OpenSpec.ofChange Rows.framesSpec).at b).post enc Tryz.prog Tryz.f9 false true false false):=by have p:DataW.whole enc Tryz.prog ((World.laidAll Tryz.prog a Rows.framesRow.laid).forCall (fun _ _=>0) ⟨#[],#[.string ⟨#[]⟩,.string ⟨#[]⟩,.string ⟨#[]⟩,aJ],[]⟩).memory Tryz.f9.params.toList (OpenSpec.ofChange Rows.framesSpec).vars false (#[Value.string ⟨#[]⟩,.string ⟨#[]⟩,.string ⟨#[]⟩,aJ]:Array Value).toList 8=some ([.lit (.string []),.lit (.string []),.lit (.string []),.nil],[],[]):=aB;refine returnsInHanded_of_row (C:=Tryz.checked) (s:=OpenSpec.ofChange Rows.framesSpec) OD q aB Tryz.func9 ⟨World.laidAll Tryz.prog a Rows.framesRow.laid,fun _ _=>0,⟨#[],#[.string ⟨#[]⟩,.string ⟨#[]⟩,.string ⟨#[]⟩,aJ],[]⟩,World.laidAll_os _ _ _,World.shaped_of_ZipB aB aB,rfl,(Input.okWide_of_okWideB aB).2, OpenSpec.preRow_of_cond 8 p aB (fun r n=>by cases n) aB (by rw[MakeChecks.laidMetH_plain _ _ _ aB];exact laidMet_laidAll _ aB aB),by{simp only[Assume.holds];exact⟨am,am,fun _=>Modest.zero,am,am⟩}⟩ ?_;intro e h g j k i o l _ _ d _ c _;exact O6 b e h g j k i o l d c
theorem O8:Tryz.f9.isInstance Tryz.prog Rows.framesRow.origin Rows.framesRow.targs:=qN aB
theorem O9:Tryz.f9.isWrapper Tryz.prog Rows.framesRow.wrapper Rows.framesRow.mainSum:=by unfold Func.isWrapper;first|(rw[ay (by decide +kernel)];kernel_rfl)|(rw[ar (by decide +kernel)];exact⟨rfl,rfl⟩)
theorem O_:Rows.FramesSaid :=
 OpenClaim.holds_of_cond 9 Tryz.f9 rfl rfl rfl rfl rfl rfl rfl ⟨rfl,rfl,rfl,rfl,rfl⟩ rfl rfl rfl rfl rfl Mt Tryz.func9 Od O8 O9
  (fun b c H enc _ a=>by rw[OpenClaim.pre_eq_preRow];exact O7 b c H enc a)
end
end
end Go.Proofs.YtkkpahmoljiepaaGreatDoor
