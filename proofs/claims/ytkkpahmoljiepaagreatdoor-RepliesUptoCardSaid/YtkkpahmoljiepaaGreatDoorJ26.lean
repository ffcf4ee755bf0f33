import Derived.Test.YtkkpahmoljiepaaGreatDoorJ22
import Derived.Test.YtkkpahmoljiepaaGreatDoorJ25
import Derived.Deep.DeepHandedRow
set_option maxRecDepth 1000000
set_option maxHeartbeats 12800000
set_option linter.unusedSimpArgs false
set_option linter.unusedVariables false
namespace Go.Proofs.YtkkpahmoljiepaaGreatDoor
section
open Go.ChangeShapes Go.WideShapes Go.ChangeAt Go.RowKit
section
open Go.ChangeMaps (open_string shut_string)
variable {H:Type} {enc:TypeId×Value->H}
theorem ayN(d:DataW H):1<=Rows.uptoBulk d:=by
 cases d with
 | lit l=>cases l <;> simp[Rows.uptoBulk]
 | nil=>simp[Rows.uptoBulk]
 | ptr d=>simp[Rows.uptoBulk]
 | slice a b=>simp[Rows.uptoBulk]
 | agg l=>simp[Rows.uptoBulk]
 | iface t d=>simp[Rows.uptoBulk]
 | map l=>simp[Rows.uptoBulk]
 | held h=>simp[Rows.uptoBulk]
theorem aj1:∀l:List (DataW H),l.length<=Rows.uptoBulkAll l
 | []=>cV _
 | d :: l=>by have:=ayN d;have:=aj1 l;simp only[Rows.uptoBulkAll,bP];omega
theorem aj2:∀(l:List (DataW H)) (d:DataW H),d∈l->Rows.uptoBulk d<=Rows.uptoBulkAll l
 | [],_,h=>by cases h
 | x :: l,d,h=>by simp only[Rows.uptoBulkAll];rcases ei.1 h with rfl|h;{omega};{have:=aj2 l d h;omega}
theorem aj3:Tryz.prog.underlying 49=some (.slice 9):=aI
theorem ayO:Tryz.prog.cellsOf 9=1:=aI
theorem ayP:laidOutB Tryz.prog=true:=aI
theorem ayQ:Tryz.prog.readableRec 49=true:=aI
theorem ayR{W:World}{v:Value}{d:DataW H}{ps:List MemPlace}(hval:∃a len cap,v=.slice a len cap)(h:DataW.Trod enc Tryz.prog W 0 (fun _=>true) true 49 v d ps) :
  ∃ms:List ah,ajX W v ms/\ms.length<=Rows.uptoBulk d/\∀a∈ms,a.length<=Rows.uptoBulk d:=by
 obtain⟨a0,l0,c0,rfl⟩:=hval;obtain⟨fuel,hf⟩:=h;rcases open_strings aj3 Tryz.underlying9 ayO hf with⟨hc,hx⟩|⟨a,len,cap,ss,hc,_,hl,hm,hz,hx,hcell,hsz⟩;{
 have hc':Value.slice a0 l0 c0=aH:=by simpa [Value.cells]using hc
 rw[hc'];exact⟨[],.inl ⟨⟨_,_,rfl⟩,rfl⟩,cV _,(fun a h=>by cases h)⟩};{
 have hc':Value.slice a0 l0 c0=.slice (some a) len cap:=by simpa [Value.cells]using hc
 rw[hc'];simp only[gZ]at hz;simp only[Hv]at hx;obtain⟨rfl,rfl⟩:=hx;have hlen:((ss.take len).map (·.data.toList)).length=len:=aP;refine⟨(ss.take len).map (·.data.toList),?_,?_,?_⟩;{
 by_cases h0:len=0;{subst h0;exact .inl ⟨⟨_,_,rfl⟩,ar⟩};{
 obtain⟨b,off,spot⟩:=a;have hspot:spot=none:=by simpa [Addr.add]using World.cell?_spot (hcell 0 ae)
 subst hspot;refine .inr ⟨b,off,cap,by rw[hlen],by rw[hlen];exact hl,?_,fun i ax=>?_⟩;{exact iz _ _ (by have:=hcell 0 ae;simpa [Addr.add]using this)};{rw[hlen]at ax;have h1:=hcell i ae;rw[add_plain]at h1;rw[h1,vW,List.getElem_take,mU,iw ae];rfl}}};{rw[hlen];have:=aj1 (strs (H:=H) (ss.take len));simp only[strs,bY,gD]at this;simp only[Rows.uptoBulk,strs];omega};{intro x hx;obtain⟨y,hy,rfl⟩:=jZ.1 hx;have h1:=aj2 (strs (H:=H) (ss.take len)) (.lit (.string y.data.toList)) (jZ.2 ⟨y,hy,rfl⟩);have h2:y.data.toList.length<=Rows.uptoBulk (H:=H) (DataW.lit (.string y.data.toList)):=by{simp only[Rows.uptoBulk];omega};simp only[Rows.uptoBulk]at h1 h2 ⊢;omega}}
theorem ayS(F:Stop.Interp)(W:World)(base:Nat)(args:Array Value)(ds gs:List (DataW H))(before:List MemPlace)
  (aj6:∀(j:Nat) t v,Tryz.f6.params[j]? = some t->args[j]? = some v->Value.okWide Tryz.prog W .any base t v)
  (hW:DataW.Whole enc Tryz.prog Tryz.f6.params.toList (Rows.OpenSpec.upto Rows.repliesSpec).vars false W args.toList ds gs before)
  (hk:Rows.uptoSmall H (ds++gs)=true) (Cn:W.ShapedOpen Tryz.prog) :
  aB 6 args W fun e W'=>∃v,e=.returned v/\((Rows.OpenSpec.upto Rows.repliesSpec).at F).post enc Tryz.prog Tryz.f6 false true false false W args v W':=by
 have hval:∀(j:Nat) t v,Tryz.f6.params[j]? = some t->args[j]? = some v->Value.okWide Tryz.prog W .any base t v:=aj6;have ZF:=hW;obtain⟨p,q,yO,hV,rfl,hfz,gz⟩:=hW;have hA:DataW.TrodAll enc Tryz.prog W 0 (fun _=>true) true Tryz.f6.params.toList args.toList ds p:=yO;rw[Tryz.params6]at hA hval;obtain⟨v0,aCd,gu,ds0,p0,q0,aCe,rfl,rfl,h0,r0⟩:=trodAll_cons hA;obtain⟨v1,vs1,d1,ds1,p1,q1,rfl,rfl,rfl,h1,r1⟩:=trodAll_cons r0;obtain⟨rfl,rfl,rfl⟩:=trodAll_nil r1;obtain rfl:args=#[v0,v1]:=by cases args;simp_all
 obtain⟨rfl,rfl⟩:=trodVars_none hV;obtain⟨s0,rfl,rfl,rfl,w0⟩:=open_string Tryz.underlying9 (hval 0 9 v0 rfl rfl) h0;have hb:Rows.uptoBulk d1<=1048576:=by{have:=Ka hk;simp only[fU,gb,Rows.uptoBulkAll]at this;omega};obtain⟨ayT,ha,hl,hn⟩:=ayR (okWide_slice aj3 (hval 1 49 v1 rfl rfl)) h1;clear yO aj6;have hlt:∀x∈p1,x.block<W.heap.size:=fun x hx=>ZF.lt x (by simp[hx]);simp only[h_]at ZF;have hz:=ayu s0.data.toList ayT v1 W (ayw Cn) ha ae (fun a h=>by have:=hn a h;omega);refine hz.mono fun e W' ⟨he,hbl⟩=>?_;subst he;exact⟨_,rfl,_,_,_,[],[]++(p1++[]),[],ZF,(trodAll_cons_mk (shut_bool Tryz.underlying4 _) trodAll_mk0),(trodAll_cons_mk (shut_string Tryz.underlying9 w0) (trodAll_cons_mk (Below.trod ayP ayQ (Ka aI) h1 hbl hlt) trodAll_mk0)),rfl,hbl.frame _,fun h=>by cases h⟩
theorem ayU(os:Os)(started:os.Started)(H:Type)(enc:TypeId×Value->H)(F:Stop.Interp) :
  ReturnsInHanded {} Tryz.checked os 6 .any ((Rows.OpenSpec.upto Rows.repliesSpec).preRow enc Tryz.prog Tryz.f6 Rows.repliesUptoRow.domain false Rows.repliesUptoRow.laid) (((Rows.OpenSpec.upto Rows.repliesSpec).at F).post enc Tryz.prog Tryz.f6 false true false false):=by have hx:DataW.whole enc Tryz.prog ((World.laidAll Tryz.prog os Rows.repliesUptoRow.laid).forCall (fun _ _=>0) ⟨#[],#[.string ⟨#[]⟩,aH],[]⟩).memory Tryz.f6.params.toList (Rows.OpenSpec.upto Rows.repliesSpec).vars false (#[Value.string ⟨#[]⟩,aH]:Array Value).toList 8=some ([.lit (.string []),.nil],[],[]):=aI;refine returnsInHanded_of_row (C:=Tryz.checked) (s:=Rows.OpenSpec.upto Rows.repliesSpec) ayv started aI Tryz.func6 ⟨World.laidAll Tryz.prog os Rows.repliesUptoRow.laid,fun _ _=>0,⟨#[],#[.string ⟨#[]⟩,aH],[]⟩,World.laidAll_os _ _ _,World.shaped_of_ZipB aI aI,rfl,(Input.okWide_of_okWideB aI).2, OpenSpec.preRow_of_cond 8 hx aI (fun k hk=>by cases hk;kernel_rfl) aI (by rw[MakeChecks.laidMetH_plain _ _ _ aI];exact laidMet_laidAll _ aI aI),by{simp only[Assume.holds];exact⟨ar,ar,fun _=>Modest.zero,ar,ar⟩}⟩ ?_;intro W base args ds gs before hval hW _ LX _ _ Cn _;exact ayS F W base args ds gs before hval hW (LX _ rfl) Cn
theorem ayV:Tryz.f6.isInstance Tryz.prog Rows.repliesUptoRow.origin Rows.repliesUptoRow.targs:=Ka aI
theorem ayW:Tryz.f6.isWrapper Tryz.prog Rows.repliesUptoRow.wrapper Rows.repliesUptoRow.mainSum:=by unfold Func.isWrapper;first|(rw[aJ (by decide +kernel)];kernel_rfl)|(rw[aF (by decide +kernel)];exact⟨rfl,rfl⟩)
theorem ayX:Rows.RepliesUptoSaid :=
 OpenClaim.holds_of_cond 6 Tryz.f6 rfl rfl rfl rfl rfl rfl rfl ⟨rfl,rfl,rfl,rfl,rfl⟩ rfl rfl rfl rfl rfl aj0 Tryz.func6 ayM ayV ayW
  (fun os started H enc _ F=>by rw[OpenClaim.pre_eq_preRow];exact ayU os started H enc F)
end
end
end Go.Proofs.YtkkpahmoljiepaaGreatDoor
