import Derived.Test.YtkkpahmoljiepaaGreatDoorJ38
import Derived.Test.YtkkpahmoljiepaaGreatDoorJ41
import Derived.Deep.DeepHandedRow
import Derived.Deep.SlicePairs
import Derived.SizedLaws
set_option maxRecDepth 1000000
set_option maxHeartbeats 12800000
set_option linter.unusedSimpArgs false
set_option linter.unusedVariables false
namespace Go.Proofs.YtkkpahmoljiepaaGreatDoor
section
open Go.ChangeShapes Go.WideShapes Go.ChangeAt Go.RowKit
section
variable {H:Type} {enc:TypeId×Value->H}
theorem abO:Tryz.prog.underlying 58=some (.slice 5):=aK
theorem abP:Tryz.prog.underlying 80=some (.slice 174):=aK
theorem abQ:Tryz.prog.cellsOf 5=1:=aK
theorem apv:Tryz.prog.cellsOf 3=1:=aK
theorem apu:Tryz.prog.bytesOf 174=24:=aK
theorem apw:Tryz.prog.cellsOf 174=3:=aK
theorem abR:laidOutB Tryz.prog=true:=aK
theorem apx:Tryz.prog.readableRec 58=true:=aK
theorem apy:Tryz.prog.readableRec 80=true:=aK
theorem abS{n:Int}(h:(Lit.int .u8 n).wf=true):∃c:UInt8,n=(c.toNat:Int):=by simp[Lit.wf,IntKind.min,IntKind.max,IntKind.signed,IntKind.bits]at h;refine⟨UInt8.ofNat n.toNat,?_⟩;rw[rQ];omega
theorem xi{W:World}{v:Value}{d:DataW H}{ps:List MemPlace}(hval:∃a len cap,v=.slice a len cap)(h:DataW.Trod enc Tryz.prog W 0 (fun _=>true) true 58 v d ps) :
  ∃(il:Option Addr) (sb so cap:Nat) (sd:ai),v=.slice il sd.length cap/\sd.length<=9223372036854775807/\(sd≠[]->il=some ⟨sb,so,none⟩/\sb<W.heap.size)/\∀j (h:j<sd.length),W.cell? ⟨sb,so+j,none⟩=some (.int .u8 sd[j].toNat):=by
 obtain⟨a0,l0,c0,rfl⟩:=hval;obtain⟨fuel,hf⟩:=h;rcases Deep.open_slice abO hf with⟨hc,hx⟩|⟨a,len,cap,m,n,D,cH,hc,_,hl,hm,hmm,hx,hall⟩;{
 have hc':Value.slice a0 l0 c0=.slice none 0 0:=by simpa [Value.cells]using hc
 rw[hc'];exact⟨none,0,0,0,[],rfl,dY _,fun h=>absurd rfl h,fun j h=>by simp at h⟩};{
 have hc':Value.slice a0 l0 c0=.slice (some a) len cap:=by simpa [Value.cells]using hc
 rw[hc'];simp only[pM]at hmm;subst hmm;simp only[Ae]at hx;obtain⟨rfl,rfl⟩:=hx;have hs:∀i,i<len->∃c:UInt8,W.cell? (a.add i)=some (.int .u8 c.toNat):=fun i au=>by{obtain⟨cs',h1,h2⟩:=hall i ae;rw[abQ]at h1;obtain⟨_,h3,h4⟩:=World.cells?_some h1;obtain⟨k,h5,_,h6⟩:=I3 Tryz.underlying5 h2;obtain⟨c,rfl⟩:=abS h6;have:=h4 0 ae;rw[h5]at this;refine⟨c,?_⟩;simpa [Addr.add]using this};obtain⟨S,hS⟩:=Deep.choose_lt (α:=UInt8) (p:=fun i c=>W.cell? (a.add i)=some (.int .u8 c.toNat)) hs;have hlen:((List.range len).map S).length=len:=ak;by_cases h0:len=0;{subst h0;exact⟨some a,0,0,m,[],rfl,dY _,fun h=>absurd rfl h,fun j h=>by simp at h⟩};{
 obtain⟨b,off,spot⟩:=a;have hspot:spot=none:=by simpa [Addr.add]using World.cell?_spot (hS 0 ae)
 subst hspot;refine⟨some ⟨b,off,none⟩,b,off,m,(List.range len).map S,by rw[hlen],?_,fun _=>⟨rfl,?_⟩,fun j hj=>?_⟩;{rw[hlen];unfold maxLen at hm;omega};{exact qD _ _ (by have:=hS 0 ae;simpa [Addr.add]using this)};{rw[hlen]at hj;have h1:=hS j hj;rw[add_plain]at h1;rw[h1];simp}}}
theorem apz{W:World}{v:Value}{d:DataW H}{ps:List MemPlace}(hval:∃a len cap,v=.slice a len cap)(h:DataW.Trod enc Tryz.prog W 0 (fun _=>true) true 80 v d ps):∃np,xP W v np/\(np=0\/∃es sp,d=.slice es sp/\np<=es.length):=by
 obtain⟨a0,l0,c0,rfl⟩:=hval;obtain⟨fuel,hf⟩:=h;rcases Deep.open_slice abP hf with⟨hc,hx⟩|⟨a,len,cap,m,n,D,cH,hc,_,hl,hm,hmm,hx,hall⟩;{
 have hc':Value.slice a0 l0 c0=.slice none 0 0:=by simpa [Value.cells]using hc
 rw[hc'];exact⟨0,⟨none,0,rfl,.inl rfl⟩,.inl rfl⟩};{
 have hc':Value.slice a0 l0 c0=.slice (some a) len cap:=by simpa [Value.cells]using hc
 rw[hc'];simp only[pM]at hmm;subst hmm;simp only[Ae]at hx;obtain⟨rfl,rfl⟩:=hx;refine⟨len,⟨some a,m,rfl,?_⟩,?_⟩;{
 by_cases h0:len=0;{exact .inl h0};{
 have hs:∀i,i<len->∃(x y:Int) (z:UInt8),W.cell? (a.add (i*3))=some (.int .i64 x)/\W.cell? (a.add (i*3+1))=some (.int .i64 y)/\W.cell? (a.add (i*3+2))=some (.int .u8 z.toNat):=fun i au=>by{
 obtain⟨cs',h1,h2⟩:=hall i ae;rw[apw]at h1;obtain⟨_,h3,h4⟩:=World.cells?_some h1;obtain⟨xs,k,hk,kL,_,lR,hf⟩:=DataW.trod_struct Tryz.underlying174 h2;match xs,lR,cs',h3 with
 | [y0,y1,y2],_,[v0,v1,v2],_ =>{have g0:=hf 0 _ rfl;have g1:=hf 1 _ rfl;have g2:=hf 2 _ rfl;simp[apv,abQ]at g0 g1 g2;obtain⟨x,q0,_⟩:=I3 Tryz.underlying3 g0;obtain⟨y,q1,_⟩:=I3 Tryz.underlying3 g1;obtain⟨z,q2,_,q3⟩:=I3 Tryz.underlying5 g2;obtain⟨c,rfl⟩:=abS q3;simp only[List.cons.injEq,and_true]at q0 q1 q2;subst q0 q1 q2;have e0:=h4 0 ae;have e1:=h4 1 ae;have e2:=h4 2 ae;rw[Deep.add_add]at e0 e1 e2;exact⟨x,y,c,by simpa using e0,by simpa using e1,by simpa using e2⟩}};obtain⟨b,off,spot⟩:=a;obtain⟨_,_,_,c0',_⟩:=hs 0 ae;have hspot:spot=none:=by simpa [Addr.add]using World.cell?_spot c0'
 subst hspot;refine .inr ⟨b,off,rfl,?_,fun i au=>?_⟩;{exact qD _ _ c0'};{obtain⟨x,y,z,k0,k1,k2⟩:=hs i au;rw[add_plain]at k0 k1 k2;exact⟨x,y,z,k0,by rw[uX];exact k1,by rw[uX];exact k2⟩}}};{exact .inr ⟨_,_,rfl,by simp⟩}}
theorem apA(F:Stop.Interp)(W:World)(base:Nat)(args:Array Value)(ds gs:List (DataW H))(before:List MemPlace)
  (abT:∀(j:Nat) t v,Tryz.f14.params[j]? = some t->args[j]? = some v->Value.okWide Tryz.prog W .any base t v)
  (hW:DataW.Whole enc Tryz.prog Tryz.f14.params.toList (OpenSpec.ofChange Rows.guardedSpec).vars false W args.toList ds gs before)
  (hk:(DataW.weightsEach Tryz.prog (Tryz.f14.params.toList++(OpenSpec.ofChange Rows.guardedSpec).bare.plain.varTypes Tryz.prog) (ds++gs)).all (·<=reachBytes)=true) (Ct:W.ShapedOpen Tryz.prog) :
  Calls Tryz.prog 14 args W fun e W'=>∃v,e=.returned v/\((OpenSpec.ofChange Rows.guardedSpec).at F).post enc Tryz.prog Tryz.f14 false true false false W args v W':=by
 have hval:∀(j:Nat) t v,Tryz.f14.params[j]? = some t->args[j]? = some v->Value.okWide Tryz.prog W .any base t v:=abT;have jG:=hW;obtain⟨p,q,yX,hV,rfl,hfz,iy⟩:=hW;have hA:DataW.TrodAll enc Tryz.prog W 0 (fun _=>true) true Tryz.f14.params.toList args.toList ds p:=yX;rw[Tryz.params14]at hA hval;obtain⟨v0,ast,bI,ds0,p0,q0,asu,rfl,rfl,h0,r0⟩:=trodAll_cons hA;obtain⟨v1,vs1,d1,ds1,p1,q1,rfl,rfl,rfl,h1,r1⟩:=trodAll_cons r0;obtain⟨v2,vs2,d2,ds2,gB,q2,rfl,rfl,rfl,h2,r2⟩:=trodAll_cons r1;obtain⟨rfl,rfl,rfl⟩:=trodAll_nil r2;obtain rfl:args=#[v0,v1,v2]:=by cases args;simp_all
 obtain⟨rfl,rfl⟩:=trodVars_none hV;obtain⟨a2,rfl,rfl,rfl,w2⟩:=open_int Tryz.underlying3 (hval 2 3 v2 rfl rfl) h2;obtain⟨il,sb,so,cap,sd,rfl,hl,ha,hc⟩:=xi (okWide_slice abO (hval 0 58 v0 rfl rfl)) h0;obtain⟨np,gy,hn⟩:=apz (okWide_slice abP (hval 1 80 v1 rfl rfl)) h1;have hnb:np<=5864062014805:=by{rcases hn with rfl|⟨es,sp,rfl,hn⟩;{omega};{rw[Tryz.params14]at hk;have:=sized_slice hk (j:=1) (t:=80) (e:=174) rfl rfl abP;rw[apu]at this;unfold reachBytes at this;omega}};clear yX abT hk;have Rt:∀x∈p0,x.block<W.heap.size:=fun x hx=>jG.lt x (by simp[hx]);have DY:∀x∈p1,x.block<W.heap.size:=fun x hx=>jG.lt x (by simp[hx]);simp only[jt]at jG;have b2:=bounds_i64 w2;have hz:=ao6 il sb so cap sd v1 np a2 W (ao8 Ct) hl ha hc gy hnb b2.1 b2.2;refine hz.mono fun e W' ⟨he,hbl⟩=>?_;subst he;exact⟨_,rfl,_,_,_,[],p0++(p1++([]++[])),[],jG,(trodAll_cons_mk (shut_bool Tryz.underlying4 _) trodAll_mk0),(trodAll_cons_mk (Below.trod abR apx (CS aK) h0 hbl Rt) (trodAll_cons_mk (Below.trod abR apy (CS aK) h1 hbl DY) (trodAll_cons_mk (shut_int Tryz.underlying3 w2) trodAll_mk0))),rfl,hbl.frame _,fun h=>by cases h⟩
theorem apB(os:Os)(started:os.Started)(H:Type)(enc:TypeId×Value->H)(F:Stop.Interp) :
  ReturnsInHanded {} Tryz.checked os 14 .any ((OpenSpec.ofChange Rows.guardedSpec).preRow enc Tryz.prog Tryz.f14 Rows.guardedRow.domain false Rows.guardedRow.laid) (((OpenSpec.ofChange Rows.guardedSpec).at F).post enc Tryz.prog Tryz.f14 false true false false):=by have hx:DataW.whole enc Tryz.prog ((World.laidAll Tryz.prog os Rows.guardedRow.laid).forCall (fun _ _=>0) ⟨#[],#[.slice none 0 0,.slice none 0 0,.int .i64 0],[]⟩).memory Tryz.f14.params.toList (OpenSpec.ofChange Rows.guardedSpec).vars false (#[Value.slice none 0 0,.slice none 0 0,.int .i64 0]:Array Value).toList 8=some ([.nil,.nil,.lit (.int .i64 0)],[],[]):=aK;refine returnsInHanded_of_row (C:=Tryz.checked) (s:=OpenSpec.ofChange Rows.guardedSpec) ao7 started aK Tryz.func14 ⟨World.laidAll Tryz.prog os Rows.guardedRow.laid,fun _ _=>0,⟨#[],#[.slice none 0 0,.slice none 0 0,.int .i64 0],[]⟩,World.laidAll_os _ _ _,World.shaped_of_ZipB aK aK,rfl,(Input.okWide_of_okWideB aK).2, OpenSpec.preRow_of_cond 8 hx aK (fun k hk=>by cases hk) aK (by rw[MakeChecks.laidMetH_plain _ _ _ aK];exact laidMet_laidAll _ aK aK),by{simp only[Assume.holds];exact⟨ak,ak,fun _=>Modest.zero,ak,ak⟩}⟩ ?_;intro W base args ds gs before hval hW _ _ hz _ Ct _;exact apA F W base args ds gs before hval hW hz Ct
theorem apD:Tryz.f14.isInstance Tryz.prog Rows.guardedRow.origin Rows.guardedRow.targs:=CS aK
theorem apE:Tryz.f14.isWrapper Tryz.prog Rows.guardedRow.wrapper Rows.guardedRow.mainSum:=by unfold Func.isWrapper;first|(rw[aP (by decide +kernel)];kernel_rfl)|(rw[aG (by decide +kernel)];exact⟨rfl,rfl⟩)
theorem apF:Rows.GuardedSaid :=
 OpenClaim.holds_of_cond 14 Tryz.f14 rfl rfl rfl rfl rfl rfl rfl ⟨rfl,rfl,rfl,rfl,rfl⟩ rfl rfl rfl rfl rfl abN Tryz.func14 apt apD apE
  (fun os started H enc _ F=>by rw[OpenClaim.pre_eq_preRow];exact apB os started H enc F)
end
end
end Go.Proofs.YtkkpahmoljiepaaGreatDoor
