import Derived.Test.YtkkpahmoljiepaaGreatDoorJ18
set_option maxRecDepth 1000000
set_option maxHeartbeats 12800000
set_option linter.unusedSimpArgs false
set_option linter.unusedVariables false
namespace Go.Proofs.YtkkpahmoljiepaaGreatDoor
open Go.RowKit Go.Proofs.Tryz
structure fT(w:World)(xb zb rb sb mb bb base:Nat)(ax ip:ai)(ns:List Int)(st m:Nat)(br:Bool):Prop where
 mem:gi w mb bb base ns st
 rr:∃av us,dy w rb 240 mb 0 1024 av us [true,true,true,true,true,true,true,true]/\av<65536/\us<65536
 sr:∃av us out,dy w sb 241 mb 512 13312 av us out/\av<65536/\us<65536/\out.length=8
 ax:∃n s d,pC w xb zb rb sb ax ip n s d br/\n<=m/\s<=m/\d<=m
 hb:base<=w.heap.size
section
variable {w w':World} {xb zb rb sb mb bb base:Nat} {ax ip:ai} {ns ns':List Int} {st st' m m':Nat} {br:Bool}
theorem BM(h:fT w xb zb rb sb mb bb base ax ip ns st m br):xb≠rb/\xb≠sb/\xb≠mb/\xb≠bb/\rb≠sb/\rb≠mb/\rb≠bb/\sb≠mb/\sb≠bb:=by obtain⟨⟨az,h1⟩,⟨c2,h2⟩⟩:=JH h.mem;obtain⟨_,_,hr,_⟩:=h.rr;obtain⟨_,_,_,hs,_⟩:=h.sr;obtain⟨_,_,_,hx,_⟩:=h.ax;exact⟨eP hx hr aC,eP hx hs aC,eP hx h1 aC,eP hx h2 aC,eP hr hs aC,eP hr h1 aC,eP hr h2 aC,eP hs h1 aC,eP hs h2 aC⟩
theorem wo(h:fT w xb zb rb sb mb bb base ax ip ns st m br):xb<w.heap.size/\rb<w.heap.size/\sb<w.heap.size/\mb<w.heap.size/\bb<w.heap.size:=by obtain⟨_,_,hr,_⟩:=h.rr;obtain⟨_,_,_,hs,_⟩:=h.sr;obtain⟨_,_,_,hx,_⟩:=h.ax;exact⟨ay.lt hx,ay.lt hr,ay.lt hs,(Kn h.mem).1,(Kn h.mem).2⟩
theorem Em(h:fT w xb zb rb sb mb bb base ax ip ns st m br)(hm:gi w' mb bb base ns' st')(hs:w.heap.size<=w'.heap.size)(h1:w'.heap[xb]? = w.heap[xb]?)(h2:w'.heap[rb]? = w.heap[rb]?)(h3:w'.heap[sb]? = w.heap[sb]?):fT w' xb zb rb sb mb bb base ax ip ns' st' m br:=by obtain⟨r1,r2,hr,r3⟩:=h.rr;obtain⟨s1,s2,s3,hs',s4⟩:=h.sr;obtain⟨x1,x2,x3,hx,x4⟩:=h.ax;exact⟨hm,⟨r1,r2,h2.trans hr,r3⟩,⟨s1,s2,s3,h3.trans hs',s4⟩,⟨x1,x2,x3,h1.trans hx,x4⟩,a_ h.hb hs⟩
theorem En(h:fT w xb zb rb sb mb bb base ax ip ns st m br)(hb:Below w.heap.size w w'):fT w' xb zb rb sb mb bb base ax ip ns st m br:=by obtain⟨l1,l2,l3,_⟩:=wo h;exact Em h (O9 h.mem hb) hb.size (hb.block _ l1) (hb.block _ l2) (hb.block _ l3)
theorem aiK(h:fT w xb zb rb sb mb bb base ax ip ns st m br)(hm:gi w' mb bb base ns' st')(hF:kM mb bb base w w'):fT w' xb zb rb sb mb bb base ax ip ns' st' m br:=by obtain⟨a1,a2,a3,a4,a5,a6,a7,a8,a9⟩:=BM h;obtain⟨l1,l2,l3,_⟩:=wo h;obtain⟨_,_,hr,_⟩:=h.rr;obtain⟨_,_,_,hs,_⟩:=h.sr;obtain⟨_,_,_,hx,_⟩:=h.ax;exact Em h hm hF.size (hF.block _ l1 a3 a4 (.inr ⟨qo hx aC,qo hx aC⟩)) (hF.block _ l2 a6 a7 (.inr ⟨qo hr aC,qo hr aC⟩)) (hF.block _ l3 a8 a9 (.inr ⟨qo hs aC,qo hs aC⟩))
theorem BN(h:fT w xb zb rb sb mb bb base ax ip ns st m br)(hm:m<=m'):fT w xb zb rb sb mb bb base ax ip ns st m' br:=by obtain⟨x1,x2,x3,hx,x4,x5,x6⟩:=h.ax;exact⟨h.mem,h.rr,h.sr,⟨x1,x2,x3,hx,ae,ae,ae⟩,h.hb⟩
theorem KC{n' s' d':Nat}{Xy:Bool}(h:fT w xb zb rb sb mb bb base ax ip ns st m br)(hk:cF xb w w')(hm:pC w' xb zb rb sb ax ip n' s' d' Xy)(h1:n'<=m')(h2:s'<=m')(h3:d'<=m'):fT w' xb zb rb sb mb bb base ax ip ns st m' Xy:=by obtain⟨a1,a2,a3,a4,_⟩:=BM h;obtain⟨l1,l2,l3,_⟩:=wo h;obtain⟨r1,r2,hr,r3⟩:=h.rr;obtain⟨s1,s2,s3,hs,s4⟩:=h.sr;obtain⟨_,_,_,hx,_⟩:=h.ax;exact⟨Ko h.mem hx aC aC aC a3 a4 (fun i au hne=>hk.block i au hne),⟨r1,r2,(hk.block rb l2 (fun e=>a1 e.symm)).trans hr,r3⟩,⟨s1,s2,s3,(hk.block sb l3 (fun e=>a2 e.symm)).trans hs,s4⟩,⟨n',s',d',hm,h1,h2,h3⟩,a_ h.hb hk.size⟩
end
theorem aiL(l:List Bool)(n:Nat)(h:l.length=n):(∀i,i<n->l[i]? = some true)\/∃j,j<n/\(∀i,i<j->l[i]? = some true)/\l[j]? = some false:=by
 induction l generalizing n with
 | nil=>subst h;exact .inl fun i au=>by simp at au
 | cons b l ih =>{
 subst h;cases b with
 | false=>exact .inr ⟨0,ak,fun i au=>ae,rfl⟩
 | true =>{
 rcases ih l.length rfl with hh|⟨j,h1,h2,h3⟩;{
 refine .inl fun i au=>?_;cases i with
 | zero=>rfl
 | succ i=>exact hh i (by simpa using au)};{
 refine .inr ⟨j+1,by simpa using h1,fun i au=>?_,h3⟩;cases i with
 | zero=>rfl
 | succ i=>exact h2 i ae}}}
def aiM(rb mb bb base us:Nat)(t:TypeId)(ns:List Int)(st:Nat)(w:World)(e:Ending)(w':World):Prop :=
 ∃(ok:Bool) (st' GV:Nat) (out':List Bool),e=.returned (.bool ok)/\st'<=st+1544/\gi w' mb bb base ns st'/\dy w' rb t mb 512 13312 GV us out'/\GV<65536/\out'.length=8/\bX (fun i=>i≠rb/\i≠mb/\i≠bb) base w w'
theorem aiN(rb mb bb base av us:Nat)(t:TypeId)(out:List Bool)(ns:List Int)(st:Nat)(s:ai)(w:World)(h:gi w mb bb base ns st)(hr:dy w rb t mb 512 13312 av us out)(bL:base<=w.heap.size)(sR:av<65536)(eR:out.length=8)(iA:s.length<=1524)(hst:st<=700000)(dW:t≠3)(cL:t≠177)(sM:t≠174)(cV:rb≠mb)(dx:rb≠bb) :
  Calls prog 221 #[.pointer (some ⟨rb,0,none⟩),.string (ah s)] w fun e w'=>aiM rb mb bb base us t ns st w e w':=by rcases aiL out 8 eR with hall|⟨j,hj,hpre,hat⟩;{refine(ah_ rb mb 512 13312 av us t out s w hr hall).mono ?_;rintro e w' ⟨rfl,rfl⟩;exact⟨false,st,av,out,rfl,ae,h,hr,sR,eR,bX.refl _ _ _⟩};{obtain⟨bs,vp,np,hm,hp⟩:=h;refine(aia rb mb bb base 512 13312 av us j t out _ _ st bs s w hm hr bL ae ae sR eR hj hpre hat iA hst dW cL cV dx).mono ?_;rintro e w' ⟨rfl,my,Py,hF'⟩;exact⟨true,st+20+s.length,_,_,rfl,ae,⟨_,vp,np,my,Xc hp hm hr sM hF'⟩,Py,Aa _ ae,by simp[eR],hF'⟩}
theorem aiO(xb zb rb sb mb bb base st m:Nat)(ax ip f:ai)(br:Bool)(ns:List Int)(w:World)(h:fT w xb zb rb sb mb bb base ax ip ns st m br)
  (hH:Calls prog 37 #[.pointer (some ⟨zb,0,none⟩),.agg #[.string (ah ax),.string (ah ip)],.string (ah f)] w.drew fun e w'=>∃o:ai,e=.returned (.string (ah o))/\o.length<=1524/\Below w.drew.heap.size w.drew w')
  (hst:st<=700000) (hm:m<=1000000) :
  Calls prog 163 #[.pointer (some ⟨xb,0,none⟩),.string (ah f)] w fun e w' =>
   e=.returned (.tuple #[])/\(∃st',st'<=st+1544/\fT w' xb zb rb sb mb bb base ax ip ns st' (m+1) br)/\bX (gz xb rb sb mb bb) base w w':=by
 obtain⟨a1,a2,a3,a4,a5,a6,a7,a8,a9⟩:=BM h;have bA:=ag h;have HH:=ag hH;obtain⟨n,s,d,hx,hn,hs,aD⟩:=h.ax;have m0:w.drew.cell? ⟨xb,0,none⟩=some (.pointer (some ⟨zb,0,none⟩)):=ay.cell hx 0 ak;have m1:w.drew.cell? ⟨xb,1,none⟩=some (.string (ah ax)):=ay.cell hx 1 ak;have m2:w.drew.cell? ⟨xb,2,none⟩=some (.string (ah ip)):=ay.cell hx 2 ak;have ot:Hid (∀W,Below w.drew.heap.size w.drew W->W.cell? ⟨xb,0,none⟩=some (.pointer (some ⟨zb,0,none⟩))/\W.cell? ⟨xb,1,none⟩=some (.string (ah ax))/\W.cell? ⟨xb,2,none⟩=some (.string (ah ip))):=fun W hb=>by
  have e:pC W xb zb rb sb ax ip n s d br:=(hb.block xb (ay.lt hx)).trans hx;exact⟨ay.cell e 0 ak,ay.cell e 1 ak,ay.cell e 2 ak⟩
 have cN:=ag hx;clear h hH hx;go_enter func163,ntmps163;go_wp2_with (fail)
 go_region_held (fun w'=>w'.cell? ⟨xb,0,none⟩=some (.pointer (some ⟨zb,0,none⟩))/\w'.cell? ⟨xb,1,none⟩=some (.string (ah ax))/\w'.cell? ⟨xb,2,none⟩=some (.string (ah ip))) (first|assumption|exact⟨m0,m1,m2⟩|go_keep)
  (first|(go_at_call 37;go_loud (refine(af HH).mono ?_;rintro e w1 ⟨o,rfl,eR,hb1⟩;have hS1:=af ot w1 hb1)))
 all_goals
  have hB1:Below w.heap.size w w1:=(bW _ _).drew.trans hb1;have cQ:=En (af bA) hB1;have KD:pC w1 xb zb rb sb ax ip n s d br:=(hB1.block xb (ay.lt (af cN))).trans (af cN);have cM:=ag hB1;by_cases ho:o = []
  ·have hne:((ah o).toList == [])=true:=by rw[ho,gO];rfl
   have aq0:(ah o).toList.isEmpty=true:=by rw[ho,gO];rfl
   have OQ:(ah o).toList = []:=by rw[ho,gO];rfl
   clear ho;have c4:=ag (BN (m':=m+1) cQ ae);clear cQ hB1 hb1 hS1 HH KD;go_wp2_with (fail);refine df (v:=.tuple #[]) (by simp[results,results163]) rfl ?_;exact⟨rfl,⟨st,ae,af c4⟩,bX.sV (af cM)⟩
  ·have hne:((ah o).toList == [])=false:=by
    rw[gL,gO];exact ho
   obtain⟨zq,zr,BL,fc,v1,v2,v3⟩:=cQ.sr;have Xz:=ag (aiN sb mb bb base zq zr _ BL ns st o w1 cQ.mem fc cQ.hb v1 v3 eR hst aC aC aC a8 a9);have bw:w1.cell? ⟨xb,4,none⟩=some (.pointer (some ⟨sb,0,none⟩)):=ay.cell KD 4 ak;have c4:=ag cQ;have XA:=ag KD;clear cQ hB1 hb1 hS1 HH fc KD;go_wp2_with (fail);refine(af Xz).mono ?_;rintro e w2 ⟨ok,st2,Pz,aiP,rfl,PA,fJ,hR2,hv2,ho2,hF2⟩;have BO:pC w2 xb zb rb sb ax ip n s d br:=hF2.blk (af XA) ⟨a2,a3,a4⟩ aC aC;obtain⟨xN,xO,mz,u1⟩:=(af c4).rr;have XB:=hF2.blk mz ⟨a5,a6,a7⟩ aC aC;have kj:fT w2 xb zb rb sb mb bb base ax ip ns st2 m br:=⟨fJ,⟨xN,xO,XB,u1⟩,⟨Pz,zr,aiP,hR2,hv2,v2,ho2⟩,⟨n,s,d,BO,hn,hs,aD⟩,a_ (af c4).hb hF2.size⟩
   have jl:w2.cell? ⟨xb,6,none⟩=some (.int .i64 s):=ay.cell BO 6 ak;have c7:w2.cell? ⟨xb,7,none⟩=some (.int .i64 d):=ay.cell BO 7 ak;have hf:=ay.frozen BO;have iB:=ag ((bX.sV (p:=gz xb rb sb mb bb) (base:=base) (af cM)).trans (hF2.mono fun i hp=>⟨hp.2.2.1,hp.2.2.2⟩));obtain⟨s1,hs1⟩:=bP (s+1);obtain⟨d1,fH⟩:=bP (d+1);have k6:(s:Int)+1=(s1:Int):=ae;have k7:(d:Int)+1=(d1:Int):=ae;have Wy:=ag (KC (m':=m+1) kj (qN (vh _ _) 6 (.int .i64 s1)) (Pv _ _ _ _ _ _ _ _ _ _ _ BO s1).2.1 ae ae ae);have KE:=ag (KC (m':=m+1) kj (qN (vh _ _) 7 (.int .i64 d1)) (Pv _ _ _ _ _ _ _ _ _ _ _ BO d1).2.2 ae ae ae);clear fJ hR2 hF2 BO XB kj Xz c4 cM XA hs1 fH mz;cases ok with
   | true =>
    go_wp2_with (fail);refine fy (v:=.tuple #[]) (by simp[results,results163]) rfl ?_;exact⟨rfl,⟨st2,PA,af Wy⟩,(af iB).trans (bX.Km (rb:=xb) w2 6 _ fun i hp=>hp.1)⟩
   | false =>
    go_wp2_with (fail);refine fy (v:=.tuple #[]) (by simp[results,results163]) rfl ?_;exact⟨rfl,⟨st2,PA,af KE⟩,(af iB).trans (bX.Km (rb:=xb) w2 7 _ fun i hp=>hp.1)⟩
section
variable {P:Program} {α:Type}
def sZ(d:Nat)(r:Loop)(W:World):Prop:=W.heap[d+1]? = some (.loop r)/\W.heap[d]? = some (.deferred (some []))
theorem sZ.of{d:Nat}{r:Loop}{A B:World}(h:sZ d r A)(h1:B.heap[d]? = A.heap[d]?)(h2:B.heap[d+1]? = A.heap[d+1]?):sZ d r B:=⟨h2.trans h.1,h1.trans h.2⟩
end
section
variable {P:Program} {α:Type}
def aiQ(d:Nat)(I Ix:World->Prop)(W:World):Exit->Act->World->Prop
 | .normal,_,W'=>gq d W W'/\I W'
 | .ret,_,W'=>gq d W W'/\Ix W'
 | _,_,_=>False
theorem aiR{g:Operand}{ps:Array Tmp}{assign body:Code}{Q:Exit->Act->World->Prop}{a:Act}{w:World}
  {gf:Nat} {lb:Array Value} (hg:a.eval g=.func (.func gf) #[] lb) (eg:∀args w,(callFunc gf args).run P w=.ok (.enter gf args) w)
  {encs:α->Array Value} (iJ:∀x,(encs x).size=ps.size)
  (I0 Ix:World->Prop) (I:Nat->World->Prop) (I':Nat->α->World->Prop)
  (aiS:∀r rx:Loop,(∀i x W,I' i x W->sZ w.heap.size r W->YieldAt Fence.wide 0 P (w.heap.size+1) (encs x) W fun e W'=>(e=.returned (.bool true)/\I (i+1) W'/\sZ w.heap.size r W')\/(e=.returned (.bool false)/\Ix W'/\sZ w.heap.size rx W')) ->
   ∀W0,I0 W0->sZ w.heap.size r W0->CallsIn Fence.wide 0 P gf (#[.func (.yield (w.heap.size+1)) #[] #[]]++lb) W0 fun e W'=>(∃v,e=.returned v)/\(((∃i,I i W')/\sZ w.heap.size r W')\/(Ix W'/\sZ w.heap.size rx W')))
  (oo:∀i A r o,I i A->A.heap[w.heap.size+1]? = some (.loop r)->I i (A.putObj (w.heap.size+1) o))
  (mN:∀A r o,Ix A->A.heap[w.heap.size+1]? = some (.loop r)->Ix (A.putObj (w.heap.size+1) o))
  (aiT:∀i x A r o,I' i x A->A.heap[w.heap.size+1]? = some (.loop r)->I' i x (A.putObj (w.heap.size+1) o))
  (h0:∀r,I0 ((w.alloc (.deferred (some []))).alloc (.loop r)))
  (qM:∀(l i:Nat) (x:α) (V W:World),I' i x W->w.heap.size+2<=W.heap.size->W.heap[w.heap.size]? = some (.deferred (some []))->(∃r,W.heap[w.heap.size+1]? = some (.loop r)) ->
   assign.wpIn (Fence.wide.inRound l) 0 P (Exit.then (fun a₁ V'=>V'=V/\body.wpIn (Fence.wide.inRound l) 0 P (aiQ w.heap.size (I (i+1)) Ix W) a₁ W) (fun _ _ _=>False)) { tmps:=(ps.zip (encs x)).foldl (fun t (p,v)=>t.setIfInBounds p v) a.tmps,defers:=[] } V)
  (hdone:∀i W,I i W->W.heap[w.heap.size]? = some (.deferred (some []))->w.heap.size+2<=W.heap.size->Q .normal { a with defers:={ target:=.collected w.heap.size,args:=#[] } :: a.defers } W)
  (oQ:∀W,Ix W->W.heap[w.heap.size]? = some (.deferred (some []))->w.heap.size+2<=W.heap.size->Code.ret.wpIn Fence.wide 0 P Q { a with defers:={ target:=.collected w.heap.size,args:=#[] } :: a.defers } W) :
  (Code.rangeFunc g ps assign body).wpIn Fence.wide 0 P Q a w:=by
 refine wpIn_rangeFunc fun fn hfn=>?_;obtain⟨rec,cA⟩:∃rec:LoopState->Option Code->Loop,rec=fun st pe=>{ state:=st,pending:=pe,fn,tmps:=a.tmps,params:=ps,assign,body,defers:=w.heap.size }:=⟨_,rfl⟩
 have Fp:=run_enterLoop_outer (P:=P) (w:=w) fn a.tmps ps assign body;refine⟨w.heap.size+1,[{ target:=.collected w.heap.size,args:=#[] }],(w.alloc (.deferred (some []))).alloc (.loop (rec .ready none)),
  { target:=.fn (.func gf) lb,args:=#[.func (.yield (w.heap.size+1)) #[] #[]] },(w.alloc (.deferred (some []))).alloc (.loop (rec .ready none)),gf,
  #[.func (.yield (w.heap.size+1)) #[] #[]]++lb,(w.alloc (.deferred (some []))).alloc (.loop (rec .ready none)),?_,?_,fun _ _=>aY,?_,fun h=>by simp[Fence.wide]at h,?_⟩
 ·rw[cA];exact Fp
 ·simp only[resolve,hg];simp[go_sem]
 ·simp[invoke,go_sem,eg]
 ·obtain⟨W1,hW1⟩:∃W1,(w.alloc (.deferred (some []))).alloc (.loop (rec .ready none))=W1:=⟨_,rfl⟩
  have dg:W1.heap[w.heap.size+1]? = some (.loop (rec .ready none)):=by
   rw[<- hW1];have:=World.alloc_heap_new (w.alloc (.deferred (some []))) (.loop (rec .ready none));rwa [dI]at this
  have fH:W1.heap[w.heap.size]? = some (.deferred (some [])):=by
   rw[<- hW1];exact(bV _ _ _ ak).trans (World.alloc_heap_new w _)
  have hsz:∀W:World,(∃o,W.heap[w.heap.size+1]? = some o)->w.heap.size+2<=W.heap.size:=fun W ⟨o,h⟩=>by
   have:=(di.1 h).1;omega
  have hs:=aiS (rec .ready none) (rec .done (some .ret))
   (fun i x W h1 hL=>by
    obtain⟨h2,h3⟩:=hL;have hy:=run_yield (P:=P) (args:=encs x) h2 (by rw[cA];exact iJ x);rw[cA]at hy;have hlt:w.heap.size+1<W.heap.size:=(di.1 h2).1;have e2:(W.putObj (w.heap.size+1) (.loop { rec .ready none with state:=.busy })).heap[w.heap.size+1]? = some (.loop { rec .ready none with state:=.busy }):=World.putObj_heap_same hlt;have e3:(W.putObj (w.heap.size+1) (.loop { rec .ready none with state:=.busy })).heap[w.heap.size]? = some (.deferred (some [])):=(World.putObj_heap_other ae).trans h3;refine⟨fn,_,assign,body,hy,roundIn_of_wpIn hfn (wpIn_mono (qM _ i x W (W.putObj (w.heap.size+1) (.loop { rec .ready none with state:=.busy })) (aiT i x W _ _ h1 h2) (by rw[World.putObj_size];omega) e3 ⟨_,e2⟩) ?_)⟩;rintro e0 a0 V0 jf;have eY:e0=.normal:=by cases e0 <;> first|rfl|exact jf.elim
    subst eY;obtain⟨j_,jg⟩:=jf
    replace j_:=j_.symm
    subst j_;refine⟨_,run_beginRound h2 (by rw[cA]),wpIn_mono jg ?_⟩;have fin:∀(jump:Option Code) (W3:World),gq w.heap.size (W.putObj (w.heap.size+1) (.loop { rec .ready none with state:=.busy })) W3 ->
      (Instr.endRound (w.heap.size+1) jump).run P W3=.ok (.bool jump.isNone) (W3.putObj (w.heap.size+1) (.loop (rec (if jump.isNone then .ready else .done) jump))) /\
      W3.heap[w.heap.size+1]? = some (.loop { rec .ready none with state:=.busy }) /\
      (W3.putObj (w.heap.size+1) (.loop (rec (if jump.isNone then .ready else .done) jump))).heap[w.heap.size+1]? = some (.loop (rec (if jump.isNone then .ready else .done) jump)) /\
      (W3.putObj (w.heap.size+1) (.loop (rec (if jump.isNone then .ready else .done) jump))).heap[w.heap.size]? = some (.deferred (some [])):=fun jump W3 hL=>by
     have l3:=hL.2.2.trans e2;have hr:=run_endRound (P:=P) jump l3;refine⟨?_,l3,World.putObj_heap_same (di.1 l3).1,(World.putObj_heap_other ae).trans (hL.2.1.trans e3)⟩;rw[hr,cA]
    rintro e a3 W3 hp;cases e with
    | normal =>
     obtain⟨hL,au⟩:=hp;obtain⟨f1,f2,f3,f4⟩:=fin none W3 hL;exact⟨_,_,f1,.inl ⟨rfl,oo _ _ _ _ au f2,f3,f4⟩⟩
    | ret =>
     obtain⟨hL,au⟩:=hp;obtain⟨f1,f2,f3,f4⟩:=fin (some .ret) W3 hL;exact⟨_,_,f1,.inr ⟨rfl,mN _ _ _ au f2,f3,f4⟩⟩
    | exit id=>exact hp.elim
    | goto t=>exact hp.elim
    | panic ch=>exact hp.elim
    | outgrown=>exact hp.elim)
   W1 (by rw[<- hW1];exact h0 _) ⟨dg,fH⟩
  rw[hW1];refine hs.mono ?_;rintro e W2 ⟨⟨v,rfl⟩,⟨⟨i,au⟩,hl,hk⟩|⟨au,hl,hk⟩⟩
  ·have:=run_endLoop (P:=P) hl (by rw[cA];simp);exact⟨none,_,by rw[this,cA],hdone i _ (oo _ _ _ _ au hl) ((World.putObj_heap_other ae).trans hk) (by rw[World.putObj_size];exact hsz _ ⟨_,hl⟩)⟩
  ·have:=run_endLoop (P:=P) hl (by rw[cA];simp);exact⟨some .ret,_,by rw[this,cA],oQ _ (mN _ _ _ au hl) ((World.putObj_heap_other ae).trans hk) (by rw[World.putObj_size];exact hsz _ ⟨_,hl⟩)⟩
end
section
attribute [local go_sem] Oper.semAt_some
end
def G6(m:Nat):List Bool:=List.replicate m true++List.replicate (8 - m) false
section
attribute [local go_sem] Oper.semAt_some
end
section
attribute [local go_sem] Oper.semAt_some
section
variable {w w':World} {xb zb rb sb mb bb base:Nat} {ax ip:ai} {bs:ai} {bm:Bool} {aH st xN xO:Nat} {Px:List Bool} {zq zr:Nat} {BL:List Bool} {n s d:Nat} {br:Bool}
theorem BP{p:Nat->Prop}{A B C:World}(h:bX p base A B)(h1:C.os=B.os)(h2:C.tape=B.tape)(h3:C.output=B.output)(h4:B.heap.size<=C.heap.size)(h5:∀i,i<A.heap.size->C.heap[i]? = B.heap[i]?):bX p base A C :=
 ⟨h1.trans h.os,h2.trans h.tape,h3.trans h.output,a_ h.size h4,fun i au hp hq=>(h5 i au).trans (h.block i au hp hq)⟩
theorem Eo{p:Nat->Prop}{A B:World}{i:Nat}(h:bX p base A B)(hp:p i)(ho:(∃r,A.heap[i]? = some (.loop r))\/∃x,A.heap[i]? = some (.deferred x)):B.heap[i]? = A.heap[i]?:=by rcases ho with⟨r,hr⟩|⟨x,hx⟩;{exact h.block i (di.1 hr).1 hp (.inr ⟨fun cur e=>by rw[hr]at e;simp at e,fun cur e=>by rw[hr]at e;simp at e⟩)};{exact h.block i (di.1 hx).1 hp (.inr ⟨fun cur e=>by rw[hx]at e;simp at e,fun cur e=>by rw[hx]at e;simp at e⟩)}
end
theorem aiU(rb:Nat)(w:World) :
  Calls prog 162 #[.pointer (some ⟨rb,0,none⟩)] w fun e w'=>e=.returned (.func (.func 219) #[] #[.pointer (some ⟨w.heap.size,0,none⟩)])/\w'=w.alloc (.cells #[.pointer (some ⟨rb,0,none⟩)] 162):=by have Bl:∀(fn:Fn) (first cap:Array Value) (w:World),(Instr.makeFunc fn first cap).run prog w=.ok (.func fn first cap) w:=fun _ _ _ _=>rfl;go_enter func162,ntmps162;go_wp2;go_ret;exact⟨rfl,rfl⟩
theorem PB{A:World}{k:Nat}{r:Loop}(h:A.heap[k]? = some (.loop r))(ob:Obj):∀(i:Nat) (cur:Array Value) (t:TypeId) (p:Nat×Nat),A.heap[i]? = some (Obj.cells cur t p)->(A.putObj k ob).heap[i]? = A.heap[i]?:=fun i cur t p hc =>
 World.putObj_heap_other (fun e=>by subst e;rw[h]at hc;simp at hc)
theorem XC{A:World}{k:Nat}{x:Option (List Deferred)}(h:A.heap[k]? = some (.deferred x))(ob:Obj):∀(i:Nat) (cur:Array Value) (t:TypeId) (p:Nat×Nat),A.heap[i]? = some (Obj.cells cur t p)->(A.putObj k ob).heap[i]? = A.heap[i]?:=fun i cur t p hc =>
 World.putObj_heap_other (fun e=>by subst e;rw[h]at hc;simp at hc)
end
section
attribute [local go_sem] Oper.semAt_some
theorem aiV(l ib rb:Nat)(J:Nat->World->Prop)(J':Nat->ai×Bool->World->Prop)(Jx:World->Prop)(W0:World)(hb0:W0.cell? ⟨ib,0,none⟩=some (.pointer (some ⟨rb,0,none⟩)))
  (XD:∀k W,J k W->W.cell? ⟨ib,0,none⟩=some (.pointer (some ⟨rb,0,none⟩)))
  (hfr:Calls prog 215 #[.pointer (some ⟨rb,0,none⟩)] W0 fun e W'=>∃n:Nat,e=.returned (.tuple #[.int .i64 n,.bool (decide ((n:Int)<=(8:Nat)))])/\n<65536/\J 0 W')
  (hj0:∀W,J 0 W->J' 0 ([],false) W)
  (DX:∀k W,k<8->J k W->Calls prog 220 #[.pointer (some ⟨rb,0,none⟩)] W fun e W'=>∃x:ai×Bool,e=.returned (.tuple #[.string (ah x.1),.bool x.2])/\J' k x W')
  (hY:∀k x W,J' k x W->YieldAt Fence.wide 0 prog l #[.string (ah x.1),.bool x.2] W fun e W'=>(e=.returned (.bool true)/\J (k+1) W')\/(e=.returned (.bool false)/\Jx W')) :
  CallsIn Fence.wide 0 prog 219 (#[.func (.yield l) #[] #[]]++#[.pointer (some ⟨ib,0,none⟩)]) W0 fun e W'=>(∃v,e=.returned v)/\((∃i,J i W')\/Jx W'):=by
 have pY:=ag hfr;have jh:=ag DX;have jw:=ag hY;have aiW:=ag XD;have aiX:=ag hj0;clear hfr DX hY XD hj0;refine SL func219 rfl aY ?_;simp only[ntmps219,lK,cU,fV,Nat.reduceAdd,Nat.reduceSub,l_,mf,mh,mg,fF,dX];gi_wp2_with fail;refine⟨aY,rfl,?_⟩;refine(bR.2 (af pY)).mono ?_;rintro e W1 ⟨n,rfl,hn,hJ1⟩;by_cases aD:(n:Int)<=(8:Nat);{
 rw[jY aD];have aiY:=ag hJ1;have aiZ:n<=8:=ae;clear hJ1 pY aD;gi_wp2_with fail;gi_loopw [19] (fun i wr=>∃k:Nat,i=.int .i64 k/\k<=n/\J k wr) (fun i _=>n - (intOf i).toNat);case atStart=>exact⟨0,rfl,dY _,af aiY⟩
 case round =>(
 obtain⟨k,rfl,hk,G7⟩:=hrel;by_cases hlk:k<n;{
 have eM:=af aiW k wr G7;have dv:=ag (af jh k wr ae G7);clear G7;gi_wp2_with fail;refine⟨aY,rfl,?_⟩;refine(bR.2 (af dv)).mono ?_;rintro e W2 ⟨⟨s,ok⟩,rfl,hJ2⟩;obtain⟨fn,tmps,assign,body,hy,hR⟩:=af jw k (s,ok) W2 hJ2;clear dv hJ2;gi_wp2_with fail;refine⟨rfl,hR.mono ?_⟩;rintro x W3 (⟨rfl,gC⟩|⟨rfl,gC⟩);{
 have mP:=ag gC;clear gC;cases ok with
 | true =>{gi_wp2_with fail;exact⟨⟨k+1,dD,ae,af mP⟩,gN⟩}
 | false =>{gi_wp2;refine df (v:=.tuple #[]) (by simp[results,results219]) rfl ?_;exact⟨⟨_,rfl⟩,.inl ⟨_,af mP⟩⟩}};{have mP:=ag gC;clear gC;gi_wp2;refine df (v:=.tuple #[]) (by simp[results,results219]) rfl ?_;exact⟨⟨_,rfl⟩,.inr (af mP)⟩}};{have ai0:=ag G7;clear G7;gi_wp2;go_end0;exact⟨⟨_,rfl⟩,.inl ⟨k,af ai0⟩⟩})};{rw[hP aD];obtain⟨fn,tmps,assign,body,hy,hR⟩:=af jw 0 ([],false) W1 (af aiX W1 hJ1);have hy:_:=hy;simp only[show ah []=⟨#[]⟩from rfl]at hy;clear hJ1 pY aD;gi_wp2_with fail;refine⟨rfl,hR.mono ?_⟩;rintro x W3 (⟨rfl,gC⟩|⟨rfl,gC⟩);{have mP:=ag gC;clear gC;gi_wp2;refine df (v:=.tuple #[]) (by simp[results,results219]) rfl ?_;exact⟨⟨_,rfl⟩,.inl ⟨_,af mP⟩⟩};{have mP:=ag gC;clear gC;gi_wp2;refine df (v:=.tuple #[]) (by simp[results,results219]) rfl ?_;exact⟨⟨_,rfl⟩,.inr (af mP)⟩}}
section
variable {w w':World} {xb zb rb sb mb bb base:Nat} {ax ip:ai} {ns:List Int} {st m:Nat} {br:Bool}
theorem ai1(h:gi w mb bb base ns st)(hk:∀(i:Nat) (cur:Array Value) (t:TypeId) (p:Nat×Nat),w.heap[i]? = some (Obj.cells cur t p)->w'.heap[i]? = w.heap[i]?):gi w' mb bb base ns st:=by obtain⟨bs,vp,np,⟨fg,vl,vm,ns,hm,hr,ho,hl,ms,eC,gW⟩,hp⟩:=h;refine⟨bs,vp,np,⟨fg,vl,vm,ns,gZ hm (hk mb _ _ _ hm),iH hr (hk bb _ _ _ hr.2),jq ho fun g hg=>?_,hl,ms,jq eC fun g hg=>?_,gW⟩,sQ hp fun i _ au=>hk i _ _ _ au⟩;{obtain⟨_,cur,hc⟩:=px ho hg;exact hk g _ _ _ hc};{obtain⟨_,cur,hc⟩:=px eC hg;exact hk g _ _ _ hc}
theorem ai2(h:fT w xb zb rb sb mb bb base ax ip ns st m br)(hs:w.heap.size<=w'.heap.size)(hk:∀(i:Nat) (cur:Array Value) (t:TypeId) (p:Nat×Nat),w.heap[i]? = some (Obj.cells cur t p)->w'.heap[i]? = w.heap[i]?):fT w' xb zb rb sb mb bb base ax ip ns st m br:=by obtain⟨_,_,hr,_⟩:=h.rr;obtain⟨_,_,_,hs',_⟩:=h.sr;obtain⟨_,_,_,hx,_⟩:=h.ax;exact Em h (ai1 h.mem hk) hs (hk xb _ _ _ hx) (hk rb _ _ _ hr) (hk sb _ _ _ hs')
theorem PC{b:Nat}{cs:List Value}(h:fT w xb zb rb sb mb bb base ax ip ns st m br)(hb:ay w b cs 4)(hs:w.heap.size<=w'.heap.size)(hk:∀i,i<w.heap.size->i≠b->w'.heap[i]? = w.heap[i]?):fT w' xb zb rb sb mb bb base ax ip ns st m br:=by obtain⟨⟨az,h1⟩,⟨c2,h2⟩⟩:=JH h.mem;obtain⟨l1,l2,l3,_⟩:=wo h;obtain⟨_,_,hr,_⟩:=h.rr;obtain⟨_,_,_,hs',_⟩:=h.sr;obtain⟨_,_,_,hx,_⟩:=h.ax;exact Em h (Ko h.mem hb aC aC aC (eP hb h1 aC) (eP hb h2 aC) hk) hs (hk xb l1 (eP hx hb aC)) (hk rb l2 (eP hr hb aC)) (hk sb l3 (eP hs' hb aC))
end
def jF(xb zb rb sb mb bb base:Nat)(ax ip:ai)(ns:List Int)(st m:Nat)(br:Bool)(nl ns':Nat)(k:Nat)(W:World):Prop :=
 ∃(l:List Int) (st':Nat),l.length<=nl/\(∀x∈l,sW x)/\st'<=st+ns'/\fT W xb zb rb sb mb bb base ax ip (ns++l) st' (m+k) br
def ai3(xb zb rb sb mb bb base:Nat)(ax ip:ai)(ns:List Int)(st m:Nat)(w:World)(e:Ending)(w':World):Prop :=
 ∃b:Bool,e=.returned (.bool b)/\jF xb zb rb sb mb bb base ax ip ns st m false 12292 12800 16 w'/\bX (gz xb rb sb mb bb) base w w'
section
variable {xb zb rb sb mb bb base:Nat} {ax ip:ai} {ns:List Int} {st m nl n2 k nl' Gx k':Nat} {W W':World}
theorem jF.XE{br:Bool}(h:jF xb zb rb sb mb bb base ax ip ns st m br nl n2 k W)(h1:nl<=nl')(h2:n2<=Gx)(h3:k<=k'):jF xb zb rb sb mb bb base ax ip ns st m br nl' Gx k' W:=by obtain⟨l,s,a,b,c,d⟩:=h;exact⟨l,s,ae,b,ae,BN d ae⟩
theorem jF.cells{br:Bool}(h:jF xb zb rb sb mb bb base ax ip ns st m br nl n2 k W)(hs:W.heap.size<=W'.heap.size)(hk:∀(i:Nat) (cur:Array Value) (t:TypeId) (p:Nat×Nat),W.heap[i]? = some (Obj.cells cur t p)->W'.heap[i]? = W.heap[i]?):jF xb zb rb sb mb bb base ax ip ns st m br nl n2 k W':=by obtain⟨l,s,a,b,c,d⟩:=h;exact⟨l,s,a,b,c,ai2 d hs hk⟩
end
theorem ai4(xb zb rb sb mb bb base:Nat)(ax ip:ai)(ns:List Int)(st m:Nat)(w:World)(h:fT w xb zb rb sb mb bb base ax ip ns st m false)(nU:ns.length<=600000)(hst:st<=600000)(hm:m<=900000)
  (hH:∀(f:ai) (W:World),f.length<=1524->bX (gz xb rb sb mb bb) base w W->Calls prog 37 #[.pointer (some ⟨zb,0,none⟩),.agg #[.string (ah ax),.string (ah ip)],.string (ah f)] W fun e w'=>∃o:ai,e=.returned (.string (ah o))/\o.length<=1524/\Below W.heap.size W w') :
  Calls prog 95 #[.pointer (some ⟨xb,0,none⟩)] w fun e w'=>ai3 xb zb rb sb mb bb base ax ip ns st m w e w':=by
 obtain⟨a1,a2,a3,a4,a5,a6,a7,a8,a9⟩:=BM h;obtain⟨l1,l2,l3,l4,l5⟩:=wo h;have kA:=h.hb;obtain⟨wA,zt⟩:=bP ((w.alloc (.cells #[.pointer (some ⟨xb,0,none⟩)] 73)).alloc (.cells #[.bool false] 4));have PD:Below w.heap.size w wA:=by rw[zt];exact((bW _ _).alloc (aL _) _).alloc ak _
 have aq1:wA.heap.size=w.heap.size+2:=by rw[zt];simp
 have nV:ay wA w.heap.size [.pointer (some ⟨xb,0,none⟩)] 73:=by rw[zt];exact(ay.eo w _ _).alloc _
 have wu:ay wA (w.heap.size+1) [.bool false] 4:=by{have:=ay.eo (w.alloc (.cells #[.pointer (some ⟨xb,0,none⟩)] 73)) [.bool false] 4;rw[dI]at this;rw[zt];exact this};have G8:=En h PD;obtain⟨zq,zr,BL,fc,v1,v2,v3⟩:=G8.sr;have PE:=ag (ahO sb mb bb base zq zr _ BL ns st wA G8.mem fc G8.hb v2 v3 ae aC aC aC a8 a9);obtain⟨n0,s0,bI,hx0,_⟩:=h.ax;have hx1:pC wA xb zb rb sb ax ip n0 s0 bI false:=(PD.block xb l1).trans hx0;have x2:((w.alloc (.cells #[.pointer (some ⟨xb,0,none⟩)] 73)).alloc (.cells #[.bool false] 4)).cell? ⟨xb,4,none⟩=some (.pointer (some ⟨sb,0,none⟩)):=by rw[<- zt];exact ay.cell hx1 4 ak
 have x3:=ay.cell hx0 4 ak;simp only[dS,ej]at x3;have PG:xb≠w.heap.size:=ae;have rW:=ag nV;have qp:=ag wu;have KF:=ag G8;have mo:=ag PD;have HH:=ag hH;rw[zt]at PE;clear h hH nV wu G8 fc hx0 hx1;refine(bR (n:=0)).1 ?_;refine callsIn_of_wp_marks func95 rfl aY ?_;simp only[ntmps95,lK,cU,fV,Nat.reduceAdd,Nat.reduceSub,l_,mf,mh,mg,fF,dX];gi_wp2_with fail;refine⟨aY,rfl,?_⟩;refine(bR.2 (af PE)).mono ?_;rw[<- zt];rintro e w1 ⟨ok,lr,ai5,out1,rfl,zu,bE,hm1,hr1,hu1,ho1,cz⟩;have hz1:=cz.size;have cQ:fT w1 xb zb rb sb mb bb base ax ip (ns++lr) st m false:=by{obtain⟨r1,r2,mz,r3⟩:=(af KF).rr;obtain⟨x1,x2,x3,hx,x4⟩:=(af KF).ax;exact⟨hm1,⟨r1,r2,cz.blk mz ⟨a5,a6,a7⟩ aC aC,r3⟩,⟨zq,ai5,out1,hr1,v1,hu1,ho1⟩,⟨x1,x2,x3,cz.blk hx ⟨a2,a3,a4⟩ aC aC,x4⟩,a_ (af KF).hb hz1⟩};have hb1:ay w1 w.heap.size [.pointer (some ⟨xb,0,none⟩)] 73:=cz.blk (af rW) ⟨ae,ae,ae⟩ aC aC;have hb2:ay w1 (w.heap.size+1) [.bool false] 4:=cz.blk (af qp) ⟨ae,ae,ae⟩ aC aC;have y1:w1.cell? ⟨w.heap.size,0,none⟩=some (.pointer (some ⟨xb,0,none⟩)):=ay.cell hb1 0 ak;obtain⟨q1,q2,q3,KG,_⟩:=cQ.ax;have y3:w1.cell? ⟨xb,3,none⟩=some (.pointer (some ⟨rb,0,none⟩)):=ay.cell KG 3 ak;have PH:=ag ((bX.sV (p:=gz xb rb sb mb bb) (base:=base) (af mo)).trans (cz.mono fun i hp=>⟨hp.2.2.1,hp.2.2.2⟩));have c4:=ag cQ;have cM:=ag hb1;have eu:=ag hb2;have ew:=ag bE;clear hm1 hr1 cz cQ hb1 hb2 PE KF rW qp mo x2 zt KG bE;cases ok with
 | false =>{have y2:w1.cell? ⟨w.heap.size+1,0,none⟩=some (.bool false):=ay.cell (af eu) 0 ak;have DL:=ay.frozen (af eu);have cN:Hid (fT (w1.setCell ⟨w.heap.size+1,0,none⟩ (.bool false)) xb zb rb sb mb bb base ax ip (ns++lr) st m false):=PC (af c4) (af eu) (by simp[World.setCell]) (fun i _ hne=>bf _ _ _ _ hne);have ai6:Hid (bX (gz xb rb sb mb bb) base w (w1.setCell ⟨w.heap.size+1,0,none⟩ (.bool false))):=BP (af PH) rfl rfl rfl (by simp[World.setCell]) (fun i au=>bf _ _ _ _ (by show i≠w.heap.size+1;omega));have cr:(w1.setCell ⟨w.heap.size+1,0,none⟩ (.bool false)).cell? ⟨w.heap.size+1,0,none⟩=some (.bool false):=ay.cell (ay.set (af eu) 0 (.bool false)) 0 ak;gi_wp2_with fail;refine⟨.bool false,by simp[results,results95,go_sem,cr],false,rfl,⟨lr,st,ae,af ew,ae,BN (af cN) ae⟩,af ai6⟩}
 | true =>
 gi_wp2_with fail;refine⟨aY,rfl,?_⟩;refine(bR.2 (aiU rb w1)).mono ?_;rintro e W2 ⟨rfl,hW2⟩;have G9:Below w1.heap.size w1 W2:=by rw[hW2];exact(bW _ _).alloc (aL _) _
 have XF:W2.heap.size=w1.heap.size+1:=by rw[hW2];simp
 have hib:ay W2 w1.heap.size [.pointer (some ⟨rb,0,none⟩)] 162:=by rw[hW2];exact ay.eo _ _ _
 have kj:=En (af c4) G9;have sD:ay W2 w.heap.size [.pointer (some ⟨xb,0,none⟩)] 73:=(G9.block _ (af cM).lt).trans (af cM);have lZ:ay W2 (w.heap.size+1) [.bool false] 4:=(G9.block _ (af eu).lt).trans (af eu);have PI:=ag ((af PH).trans (bX.sV G9));clear G9 c4 cM eu PH hW2 y1 y3;gi_wp2_with fail;have BQ:∀i,w.heap.size<=i->gz xb rb sb mb bb i:=fun i au=>⟨ae,ae,ae,ae,ae⟩;refine aiR (α:=ai×Bool) (encs:=fun x=>#[.string (ah x.1),.bool x.2]) (gf:=219) (lb:=#[.pointer (some ⟨w1.heap.size,0,none⟩)]) rfl (enters_of func219 aK rfl) (fun _=>rfl) (fun W=>fT W xb zb rb sb mb bb base ax ip (ns++lr) st m false/\bX (gz xb rb sb mb bb) base W2 W) (fun W=>jF xb zb rb sb mb bb base ax ip ns st m false 12292 12800 16 W/\bX (gz xb rb sb mb bb) base W2 W) (fun k W=>(k<=8/\jF xb zb rb sb mb bb base ax ip ns st m false (36+1532*k) (1600*k) (2*k) W)/\bX (gz xb rb sb mb bb) base W2 W) (fun k x W=>(k<8/\x.1.length<=1524/\jF xb zb rb sb mb bb base ax ip ns st m false (36+1532*(k+1)) (1600*k+4) (2*k) W)/\bX (gz xb rb sb mb bb) base W2 W) ?iter ?p1 ?gB ?fD ?h0 ?round ?done ?stop;case h0 =>(intro r;have hg:Below W2.heap.size W2 ((W2.alloc (.deferred (some []))).alloc (.loop r)):=((bW _ _).alloc (aL _) _).alloc ak _;exact⟨En kj hg,bX.sV hg⟩)
 case p1 =>(rintro i A r ob ⟨⟨au,hA⟩,hG⟩ hl';exact⟨⟨au,jF.cells hA (by rw[World.putObj_size];exact aL _) (PB hl' ob)⟩,BP hG rfl rfl rfl (by rw[World.putObj_size];exact aL _) (fun i au=>World.putObj_heap_other ae)⟩)
 case gB =>(rintro A r ob ⟨hA,hG⟩ hl';exact⟨jF.cells hA (by rw[World.putObj_size];exact aL _) (PB hl' ob),BP hG rfl rfl rfl (by rw[World.putObj_size];exact aL _) (fun i au=>World.putObj_heap_other ae)⟩)
 case fD =>(rintro i x A r ob ⟨⟨au,hx,hA⟩,hG⟩ hl';exact⟨⟨au,hx,jF.cells hA (by rw[World.putObj_size];exact aL _) (PB hl' ob)⟩,BP hG rfl rfl rfl (by rw[World.putObj_size];exact aL _) (fun i au=>World.putObj_heap_other ae)⟩)
 case iter =>(
 rintro r rx hY W0 ⟨ql,XG⟩ PJ;have sS:∀ {i},w.heap.size<=i->gz xb rb sb mb bb i:=fun au=>BQ _ au;refine(aiV (W2.heap.size+1) w1.heap.size rb (fun k W=>((k<=8/\jF xb zb rb sb mb bb base ax ip ns st m false (36+1532*k) (1600*k) (2*k) W)/\bX (gz xb rb sb mb bb) base W2 W)/\sZ W2.heap.size r W) (fun k x W=>((k<8/\x.1.length<=1524/\jF xb zb rb sb mb bb base ax ip ns st m false (36+1532*(k+1)) (1600*k+4) (2*k) W)/\bX (gz xb rb sb mb bb) base W2 W)/\sZ W2.heap.size r W) (fun W=>(jF xb zb rb sb mb bb base ax ip ns st m false 12292 12800 16 W/\bX (gz xb rb sb mb bb) base W2 W)/\sZ W2.heap.size rx W) W0 (ay.cell (XG.blk hib (sS ae) aC aC) 0 ak) (fun k W h=>ay.cell (h.1.2.blk hib (sS ae) aC aC) 0 ak) ?fr ?j0 ?nx ?Y).mono ?fin;case fr =>(obtain⟨xN,xO,mz,_,r3⟩:=ql.rr;refine(W8 rb mb bb base 0 1024 xN xO _ true true true true true true true true (ns++lr) st W0 ql.mem mz ql.hb ae (by rw[bU];omega) r3 aC aC a6 a7).mono ?_;rintro e W' ⟨n,rfl,hn,my,hF'⟩;have BR:bX (gz xb rb sb mb bb) base W0 W':=bX.Ed hF' fun i hp=>hp.2.2.2;rw[g_]at my;refine⟨n,rfl,hn,⟨⟨ae,lr++gH (0+258) 2,st,by rw[bU,uA];omega,Kr (af ew) ae,ae,aiK ql my hF'⟩,XG.trans BR⟩,PJ.of (Eo BR (sS ae) (.inr ⟨_,PJ.2⟩)) (Eo BR (sS ae) (.inl ⟨_,PJ.1⟩))⟩)
 case j0 =>(rintro W ⟨⟨⟨_,hA⟩,hG⟩,hL⟩;exact⟨⟨⟨ae,ak,jF.XE hA ae ae ae⟩,hG⟩,hL⟩)
 case nx =>(rintro k W hk ⟨⟨⟨_,l,s',hl,hlo,hs',wy⟩,hG⟩,hL⟩;obtain⟨xN,xO,mz,r2,r3⟩:=wy.rr;refine(ah0 rb mb bb base xN xO _ _ (ns++l) s' W wy.mem mz wy.hb r2 r3 rfl (by rw[bU];omega) ae aC aC aC a6 a7).mono ?_;rintro e W' ⟨s,ok,l2,Pz,ai7,st2,rfl,iA,hl2,ai8,PA,fJ,hR2,ha2,hu2,hF2⟩;have BR:bX (gz xb rb sb mb bb) base W W':=hF2.mono fun i hp=>⟨hp.2.1,hp.2.2.2⟩;rw[g_]at fJ;have ai9:fT W' xb zb rb sb mb bb base ax ip (ns++(l++l2)) st2 (m+2*k) false:=by{obtain⟨s1,s2,s3,hs,s4⟩:=wy.sr;obtain⟨x1,x2,x3,hx,x4⟩:=wy.ax;exact⟨fJ,⟨Pz,ai7,hR2,ha2,hu2⟩,⟨s1,s2,s3,hF2.blk hs ⟨fun e=>a5 e.symm,a8,a9⟩ aC aC,s4⟩,⟨x1,x2,x3,hF2.blk hx ⟨a1,a3,a4⟩ aC aC,x4⟩,a_ wy.hb hF2.size⟩};exact⟨(s,ok),rfl,⟨⟨hk,iA,l++l2,st2,by rw[bU];omega,fun x hx=>(kP.1 hx).elim (hlo x) (ai8 x),ae,ai9⟩,hG.trans BR⟩,hL.of (Eo BR (sS ae) (.inr ⟨_,hL.2⟩)) (Eo BR (sS ae) (.inl ⟨_,hL.1⟩))⟩)
 case Y =>(rintro k x W ⟨hg,hL⟩;refine(hY k x W hg hL).mono ?_;rintro e W' (⟨rfl,h1,h2⟩|⟨rfl,h1,h2⟩);{exact .inl ⟨rfl,h1,h2⟩};{exact .inr ⟨rfl,h1,h2⟩})
 case fin =>(rintro e W' ⟨hv,⟨i,h1,h2⟩|⟨h1,h2⟩⟩;{exact⟨hv,.inl ⟨⟨i,h1⟩,h2⟩⟩};{exact⟨hv,.inr ⟨h1,h2⟩⟩}))
 case round =>(
 rintro l' k ⟨s,ok⟩ V W ⟨⟨hk,iA,PK⟩,hG⟩ hsz cD uo;have hb1:=hG.blk sD (BQ _ (aL _)) aC aC;have hb2:=hG.blk lZ (BQ _ ae) aC aC;have az:W.cell? ⟨w.heap.size,0,none⟩=some (.pointer (some ⟨xb,0,none⟩)):=ay.cell hb1 0 ak;cases ok with
 | false =>{have c2:W.cell? ⟨w.heap.size+1,0,none⟩=some (.bool false):=ay.cell hb2 0 ak;have f2:=ay.frozen hb2;have G_:∀i,(W.setCell ⟨w.heap.size+1,0,none⟩ (.bool false)).heap[i]? = W.heap[i]?:=fun i=>by{by_cases e:i=w.heap.size+1;{subst e;exact(ay.set hb2 0 (.bool false)).trans hb2.symm};{exact bf _ _ _ _ e}};have HW:Hid (jF xb zb rb sb mb bb base ax ip ns st m false 12292 12800 16 (W.setCell ⟨w.heap.size+1,0,none⟩ (.bool false))):=jF.XE (jF.cells PK (by simp[World.setCell]) (fun i _ _ _ _=>G_ i)) ae ae ae;have C5:Hid (gq W2.heap.size W (W.setCell ⟨w.heap.size+1,0,none⟩ (.bool false))):=⟨by simp[World.setCell],G_ _,G_ _⟩;have AG:Hid (bX (gz xb rb sb mb bb) base W2 (W.setCell ⟨w.heap.size+1,0,none⟩ (.bool false))):=hG.trans ⟨rfl,rfl,rfl,by simp[World.setCell],fun i _ _ _=>G_ i⟩;clear PK hG hb1 hb2 G_;gi_wp2_with fail;exact⟨by have:=af C5;rwa [XF]at this,af HW,af AG⟩}
 | true =>{obtain⟨l,s',hl,hlo,hs',wy⟩:=PK;obtain⟨n,sn,aq2,hx,hn,Kg,aq3⟩:=wy.ax;obtain⟨n1,nM⟩:=bP (n+1);have dm:W.cell? ⟨xb,5,none⟩=some (.int .i64 n):=ay.cell hx 5 ak;have kn:(n:Int)+1=(n1:Int):=ae;have cf:=ay.frozen hx;have XH:=KC (m':=m+2*k+1) wy (qN (vh _ _) 5 (.int .i64 n1)) (Pv _ _ _ _ _ _ _ _ _ _ _ hx n1).1 ae ae ae;have d1:(W.setCell ⟨xb,5,none⟩ (.int .i64 n1)).cell? ⟨w.heap.size,0,none⟩=some (.pointer (some ⟨xb,0,none⟩)):=by{rw[E8 _ _ _ _ (fun e=>by have:=ek Addr.block e;simp at this;omega),az]};have PL:bX (gz xb rb sb mb bb) base W (W.setCell ⟨xb,5,none⟩ (.int .i64 n1)):=bX.Km (rb:=xb) W 5 _ fun i hp=>hp.1;have Jw:=ag (aiO xb zb rb sb mb bb base s' (m+2*k+1) ax ip s false (ns++l) _ XH (af HH s (W.setCell ⟨xb,5,none⟩ (.int .i64 n1)).drew iA (((af PI).trans (hG.trans PL)).trans (bX.sV (bW _ _).drew))) ae ae);have XI:=ag PL;have HG:=ag hG;have BS:=ag hlo;have sP:n<=1000000:=ae;clear wy hG XH PL hb1 hb2 nM hx hlo;gi_wp2_with fail;refine⟨aY,rfl,?_⟩;refine(CallsIn.inRound l' (bR.2 (af Jw))).mono ?_;rintro e W3 ⟨rfl,⟨s3,hs3,Ha⟩,dR⟩;have Hb:=(af XI).trans dR;have C5:Hid (gq W2.heap.size W W3):=⟨Hb.size,Eo Hb (BQ _ ae) (.inr ⟨_,cD⟩),Eo Hb (BQ _ ae) (.inl uo)⟩;have Hc:=ag Ha;have AG:=ag ((af HG).trans Hb);clear Ha dR Hb Jw XI HG;gi_wp2_with fail;exact⟨by have:=af C5;first|exact this|rwa [XF]at this,⟨ae,l,s3,ae,af BS,ae,BN (af Hc) ae⟩,af AG⟩})
 case done =>(rintro k W ⟨⟨hk,hA⟩,hG⟩ cD hsz;have hb2:=hG.blk lZ (BQ _ ae) aC aC;have cb:W.cell? ⟨w.heap.size+1,0,none⟩=some (.bool false):=ay.cell hb2 0 ak;have cf:=ay.frozen hb2;have yL:(W.setCell ⟨w.heap.size+1,0,none⟩ (.bool true)).heap[W2.heap.size]? = some (.deferred (some [])):=(bf _ _ _ _ (by show W2.heap.size≠w.heap.size+1;omega)).trans cD;have wu:jF xb zb rb sb mb bb base ax ip ns st m false 12292 12800 16 (W.setCell ⟨w.heap.size+1,0,none⟩ (.bool true)):=by{obtain⟨l,s',h1,h2,h3,h4⟩:=hA;exact⟨l,s',ae,h2,ae,BN (PC h4 hb2 (by simp[World.setCell]) (fun i _ hne=>bf _ _ _ _ hne)) ae⟩};have Hc:=ag (jF.cells wu (by rw[World.putObj_size];exact aL _) (XC yL (.deferred none)));have fY:Hid (bX (gz xb rb sb mb bb) base w ((W.setCell ⟨w.heap.size+1,0,none⟩ (.bool true)).putObj W2.heap.size (.deferred none))) := BP ((af PI).trans hG) rfl rfl rfl (by rw[World.putObj_size];simp[World.setCell]) (fun i au=>(World.putObj_heap_other ae).trans (bf _ _ _ _ (by show i≠w.heap.size+1;omega)));have cr:((W.setCell ⟨w.heap.size+1,0,none⟩ (.bool true)).putObj W2.heap.size (.deferred none)).cell? ⟨w.heap.size+1,0,none⟩=some (.bool true) := (dC (World.putObj_heap_other (by dsimp only;omega))).trans (ay.cell (ay.set hb2 0 (.bool true)) 0 ak);clear hA hG hb2 wu;gi_wp2_with fail;refine⟨ak,.inl ⟨_,_,rfl,run_takeDeferred yL,?_⟩⟩;exact⟨.bool true,by simp[results,results95,go_sem,cr],true,rfl,af Hc,af fY⟩)
 case stop =>(rintro W ⟨hA,hG⟩ cD hsz;have hb2:=hG.blk lZ (BQ _ ae) aC aC;have Hc:=ag (jF.cells hA (by rw[World.putObj_size];exact aL _) (XC cD (.deferred none)));have fY:Hid (bX (gz xb rb sb mb bb) base w (W.putObj W2.heap.size (.deferred none))) := BP ((af PI).trans hG) rfl rfl rfl (by rw[World.putObj_size];exact aL _) (fun i au=>World.putObj_heap_other ae);have cr:(W.putObj W2.heap.size (.deferred none)).cell? ⟨w.heap.size+1,0,none⟩=some (.bool false) := (dC (World.putObj_heap_other (by dsimp only;omega))).trans (ay.cell hb2 0 ak);clear hA hG hb2;gi_wp2_with fail;refine⟨ak,.inl ⟨_,_,rfl,run_takeDeferred cD,?_⟩⟩;exact⟨.bool false,by simp[results,results95,go_sem,cr],false,rfl,af Hc,af fY⟩)
end
theorem XJ(p q:Addr)(w:World)(hp:w.cell? p=some (.bool true)) :
  CallsD prog 151 #[.pointer (some p),.pointer (some q)] .returning w fun e u' w'=>e=.returned (.tuple #[])/\u'=.returning/\w'=w:=by refine callsD_of_wpS func151 rfl fun c₀ cs hu=>?_;apply wpS_seq;apply wpS_region;simp[wpOpsS,go_sem,recoverD,hu,hp,ntmps151,Exit.thenS];refine wpS_cond (t:=false) (by simp[Act.eval,Array.replicate]) ?_;simp only[zT,Ag];refine wpS_of_wp (wp_skip ?_);cases c₀;simp_all [bodyPostS,results,results151]
theorem ai_(args:Array Value)(W:World):(callFunc 95 args).run prog W=.ok (.enter 95 args) W:=aK
theorem aja(args:Array Value)(W:World):(callFunc 89 args).run prog W=.ok (.enter 89 args) W:=aK
def js(w:World)(xb:Nat):World:=(w.alloc (.cells #[.pointer (some ⟨xb,0,none⟩)] 73)).alloc (.cells #[.bool false] 4)
theorem Ep(w:World)(xb:Nat):ay (js w xb) (w.heap.size+1) [.bool false] 4:=by have:=ay.eo (w.alloc (.cells #[.pointer (some ⟨xb,0,none⟩)] 73)) [.bool false] 4;rw[dI]at this;exact this
theorem XK(w:World)(xb:Nat):Below w.heap.size w (js w xb):=((bW _ _).alloc (aL _) _).alloc ak _
theorem ajb(w:World)(xb:Nat):(js w xb).heap.size=w.heap.size+2:=by simp[js]
theorem ajc(xb b1 b2:Nat)(w:World)(K:World->Prop)(hC:Calls prog 89 #[.pointer (some ⟨b1,0,none⟩),.pointer (some ⟨b2,0,none⟩)] (js w xb) fun e W'=>e=.returned (.bool true)/\K W'/\ay W' (w.heap.size+1) [.bool false] 4) :
  Calls prog 88 #[.pointer (some ⟨xb,0,none⟩),.func (.func 89) #[] #[.pointer (some ⟨b1,0,none⟩),.pointer (some ⟨b2,0,none⟩)]] w fun e w'=>e=.returned (.tuple #[])/\∃W',K W'/\ay W' (w.heap.size+1) [.bool false] 4/\w'=W'.setCell ⟨w.heap.size+1,0,none⟩ (.bool true):=by have Bl:∀(fn:Fn) (first cap:Array Value) (w:World),(Instr.makeFunc fn first cap).run prog w=.ok (.func fn first cap) w:=fun _ _ _ _=>rfl;have vr:=aja;have HC:=ag hC;unfold js at HC;have c0:=ay.cell (Ep w xb) 0 ak;have f0:=ay.frozen (Ep w xb) 0;unfold js at c0 f0;clear hC;go_enter_defers func88,ntmps88;go_wp2_with (fail);refine(af HC).mono ?_;rintro e W' ⟨rfl,hK,hb⟩;have HK:=ag hK;have az:W'.cell? ⟨w.heap.size+1,0,none⟩=some (.bool false):=ay.cell hb 0 ak;have f1:=ay.frozen hb 0;have h2:=ay.cell (ay.set hb 0 (.bool true)) 0 ak;have aZ:=ag hb;clear hK HC hb;go_wp2_with (fail);refine leaves_cons (f:=151) (args:=#[.pointer (some ⟨w.heap.size+1,0,none⟩),.pointer (some ⟨w.heap.size,0,none⟩)]) ak (by simp[go_sem]) ?_;refine(XJ ⟨w.heap.size+1,0,none⟩ ⟨w.heap.size,0,none⟩ _ h2).mono ?_;rintro e u' w'' ⟨rfl,rfl,rfl⟩;simp[Leaves,settle,results,results88,go_sem];exact⟨W',af HK,af aZ,rfl⟩
theorem ajd(xb zb rb sb:Nat)(ax ip:ai)(n s d:Nat)(br:Bool)(w:World)(h:pC w xb zb rb sb ax ip n s d br) :
  Calls prog 55 #[.pointer (some ⟨xb,0,none⟩)] w fun e w'=>e=.returned (.agg #[.int .i64 n,.int .i64 s,.int .i64 d,.bool br])/\Below w.heap.size w w':=by
 have hb:pC (w.alloc (.cells #[.int .i64 0,.int .i64 0,.int .i64 0,.bool false] 101)) xb zb rb sb ax ip n s d br:=(bV _ _ _ (ay.lt h)).trans h;have dm:=ay.cell hb 5 ak;have jl:=ay.cell hb 6 ak;have c7:=ay.cell hb 7 ak;have t_:=ay.cell hb 8 ak;simp only[dS,ej]at dm jl c7 t_;have d5:=ay.cell h 5 ak;have d6:=ay.cell h 6 ak;have d7:=ay.cell h 7 ak;have d8:=ay.cell h 8 ak;simp only[dS,ej]at d5 d6 d7 d8;have hne:xb≠w.heap.size:=by have:=ay.lt h;omega
 clear h hb;go_enter func55,ntmps55;go_wp2;refine df (v:=.agg #[.int .i64 n,.int .i64 s,.int .i64 d,.bool br]) ?_ rfl ?_;{simp[results,results55,go_sem]};{refine⟨rfl,?_⟩;repeat (first|exact bW _ _|refine Below.alloc ?_ (aL _) _|refine Below.setCell ?_ (Nat.le_refl _) _)}
theorem aje(p q:Addr)(xb:Nat)(v:Value)(w:World)(hp:w.cell? p=some (.bool false))(hq:w.cell? q=some (.pointer (some ⟨xb,0,none⟩)))(hx:w.cell? ⟨xb,8,none⟩=some v)(hf:w.frozen? ⟨xb,8,none⟩=false) :
  CallsD prog 151 #[.pointer (some p),.pointer (some q)] .returning w fun e u' w'=>e=.returned (.tuple #[])/\u'=.returning/\w'=w.setCell ⟨xb,8,none⟩ (.bool true):=by refine callsD_of_wpS func151 rfl fun c₀ cs hu=>?_;apply wpS_seq;apply wpS_region;simp[wpOpsS,go_sem,recoverD,hu,hp,ntmps151,Exit.thenS];refine wpS_cond (t:=true) (by simp[Act.eval,Array.replicate]) ?_;simp only[pM];refine wpS_of_wp ?_;have hr:Array.replicate 10 undef=#[undef,undef,undef,undef,undef,undef,undef,undef,undef,undef]:=rfl;go_wp2;cases c₀;simp_all [bodyPostS,results,results151]
def XL(w:World)(xb:Nat)(b:Bool)(W:World):World:=if b then W.setCell ⟨w.heap.size+1,0,none⟩ (.bool true)else(W.setCell ⟨w.heap.size+1,0,none⟩ (.bool false)).setCell ⟨xb,8,none⟩ (.bool true)
theorem ajf(w:World)(xb:Nat):ay (js w xb) w.heap.size [.pointer (some ⟨xb,0,none⟩)] 73:=(ay.eo w _ _).alloc _
theorem ajg(xb:Nat)(w:World)(K:Bool->World->Prop)(hx:xb<w.heap.size)(hC:Calls prog 95 #[.pointer (some ⟨xb,0,none⟩)] (js w xb) fun e W'=>∃b,e=.returned (.bool b)/\K b W'/\ay W' (w.heap.size+1) [.bool false] 4/\ay W' w.heap.size [.pointer (some ⟨xb,0,none⟩)] 73/\∃v,W'.cell? ⟨xb,8,none⟩=some v/\W'.frozen? ⟨xb,8,none⟩=false) :
  Calls prog 88 #[.pointer (some ⟨xb,0,none⟩),.func (.func 95) #[.pointer (some ⟨xb,0,none⟩)] #[]] w fun e w'=>e=.returned (.tuple #[])/\∃b W',K b W'/\ay W' (w.heap.size+1) [.bool false] 4/\w'=XL w xb b W':=by
 have Bl:∀(fn:Fn) (first cap:Array Value) (w:World),(Instr.makeFunc fn first cap).run prog w=.ok (.func fn first cap) w:=fun _ _ _ _=>rfl;have vr:=ai_;have HC:=ag hC;unfold js at HC;have c0:=ay.cell (Ep w xb) 0 ak;have f0:=ay.frozen (Ep w xb) 0;unfold js at c0 f0;clear hC;go_enter_defers func88,ntmps88;go_wp2_with (fail);refine(af HC).mono ?_;rintro e W' ⟨b,rfl,hK,hb,hb1,v,hv,XM⟩;have HK:=ag hK;have az:W'.cell? ⟨w.heap.size+1,0,none⟩=some (.bool false):=ay.cell hb 0 ak;have f1:=ay.frozen hb 0;have aZ:=ag hb;have H1:=ag hb1;have ia:=ag (bQ hv XM);clear hK HC hb hb1 hv XM;go_wp2_with (fail);refine leaves_cons (f:=151) (args:=#[.pointer (some ⟨w.heap.size+1,0,none⟩),.pointer (some ⟨w.heap.size,0,none⟩)]) ak (by simp[go_sem]) ?_;cases b with
 | true =>{have h2:=ay.cell (ay.set (af aZ) 0 (.bool true)) 0 ak;refine(XJ ⟨w.heap.size+1,0,none⟩ ⟨w.heap.size,0,none⟩ _ h2).mono ?_;rintro e u' w'' ⟨rfl,rfl,rfl⟩;simp[Leaves,settle,results,results88,go_sem];exact .inr ⟨W',af HK,af aZ,rfl⟩}
 | false =>{have h2:=ay.cell (ay.set (af aZ) 0 (.bool false)) 0 ak;have h3:(W'.setCell ⟨w.heap.size+1,0,none⟩ (.bool false)).cell? ⟨w.heap.size,0,none⟩=some (.pointer (some ⟨xb,0,none⟩)):=(dC (bf _ _ _ _ (by show w.heap.size≠w.heap.size+1;omega))).trans (ay.cell (af H1) 0 ak);have h4:(W'.setCell ⟨w.heap.size+1,0,none⟩ (.bool false)).cell? ⟨xb,8,none⟩=some v:=(dC (bf _ _ _ _ (by show xb≠w.heap.size+1;omega))).trans (af ia).1;have h5:(W'.setCell ⟨w.heap.size+1,0,none⟩ (.bool false)).frozen? ⟨xb,8,none⟩=false:=by{have:=(af ia).2;unfold World.frozen? at this ⊢;rwa [bf _ _ _ _ (by show xb≠w.heap.size+1;omega)]};refine(aje ⟨w.heap.size+1,0,none⟩ ⟨w.heap.size,0,none⟩ xb v _ h2 h3 h4 h5).mono ?_;rintro e u' w'' ⟨rfl,rfl,rfl⟩;simp[Leaves,settle,results,results88,go_sem];exact .inl ⟨W',af HK,af aZ,rfl⟩}
def XN(xb zb rb sb mb bb base:Nat)(ax ip:ai)(ns:List Int)(st m:Nat)(w:World)(e:Ending)(w':World):Prop :=
 ∃b:Bool,e=.returned (.int .i64 (if b then 4 else 0))/\jF xb zb rb sb mb bb base ax ip ns st m b 12292 12800 16 w'/\bX (gz xb rb sb mb bb) base w w'
theorem ajh(xb zb rb sb mb bb base:Nat)(ax ip:ai)(ns:List Int)(st m:Nat)(w:World)(h:fT w xb zb rb sb mb bb base ax ip ns st m false)(nU:ns.length<=600000)(hst:st<=600000)(hm:m<=900000)
  (hH:∀(f:ai) (W:World),f.length<=1524->bX (gz xb rb sb mb bb) base w W->Calls prog 37 #[.pointer (some ⟨zb,0,none⟩),.agg #[.string (ah ax),.string (ah ip)],.string (ah f)] W fun e w'=>∃o:ai,e=.returned (.string (ah o))/\o.length<=1524/\Below W.heap.size W w') :
  Calls prog 54 #[.pointer (some ⟨xb,0,none⟩)] w fun e w'=>XN xb zb rb sb mb bb base ax ip ns st m w e w':=by
 obtain⟨l1,l2,l3,l4,l5⟩:=wo h;obtain⟨a1,a2,a3,a4,_⟩:=BM h;have hB:=XK w xb;have HG:=ag (ajg xb w (fun _ W'=>jF xb zb rb sb mb bb base ax ip ns st m false 12292 12800 16 W'/\bX (gz xb rb sb mb bb) base w W') l1 ((ai4 xb zb rb sb mb bb base ax ip ns st m (js w xb) (En h hB) nU hst hm (fun f W hf hF=>hH f W hf ((bX.sV hB).trans hF))).mono (by{rintro e W' ⟨b,rfl,hA,hF⟩;obtain⟨_,_,_,_,_,hM⟩:=id hA;obtain⟨_,_,_,hX,_⟩:=hM.ax;exact⟨b,rfl,⟨hA,(bX.sV hB).trans hF⟩,hF.blk (Ep w xb) ⟨ae,ae,ae,ae,ae⟩ aC aC,hF.blk (ajf w xb) ⟨ae,ae,ae,ae,ae⟩ aC aC,_,ay.cell hX 8 ak,ay.frozen hX 8⟩})));obtain⟨n0,s0,bI,vR,_⟩:=h.ax;have t_:w.cell? ⟨xb,8,none⟩=some (.bool false):=ay.cell vR 8 ak;have Bl:∀(fn:Fn) (first cap:Array Value) (w:World),(Instr.makeFunc fn first cap).run prog w=.ok (.func fn first cap) w:=fun _ _ _ _=>rfl;clear h hH vR;go_enter func54,ntmps54;go_wp2_with (fail);refine(af HG).mono ?_;rintro e w1 ⟨rfl,b,W',⟨hA,hF⟩,hb,rfl⟩;obtain⟨l,s',h1,h2,h3,hM⟩:=hA;have kj:∀v:Value,fT (W'.setCell ⟨w.heap.size+1,0,none⟩ v) xb zb rb sb mb bb base ax ip (ns++l) s' (m+16) false:=fun v=>PC hM hb (by simp[World.setCell]) (fun i _ hne=>bf _ _ _ _ hne);have hF2:∀v:Value,bX (gz xb rb sb mb bb) base w (W'.setCell ⟨w.heap.size+1,0,none⟩ v):=fun v=>BP (C:=W'.setCell ⟨w.heap.size+1,0,none⟩ v) hF rfl rfl rfl (by simp[World.setCell]) (fun i au=>bf _ _ _ _ (by show i≠w.heap.size+1;omega));have bu:Hid (∃W2,W2=XL w xb b W'/\fT W2 xb zb rb sb mb bb base ax ip (ns++l) s' (m+16) (!b)/\bX (gz xb rb sb mb bb) base w W2):=by{
 cases b with
 | true=>exact⟨_,rfl,kj _,hF2 _⟩
 | false =>{refine⟨_,rfl,?_,(hF2 (.bool false)).trans (bX.Km (rb:=xb) _ 8 _ fun i hp=>hp.1)⟩;obtain⟨n,s,d,hX,q1,q2,q3⟩:=(kj (.bool false)).ax;exact KC (kj (.bool false)) (qN (vh _ _) 8 (.bool true)) (ay.set hX 8 (.bool true)) q1 q2 q3}};obtain⟨W2,hW2,mE,dR⟩:=af bu;rw[<- hW2];obtain⟨n,s,d,hX,_⟩:=mE.ax;have d8:W2.cell? ⟨xb,8,none⟩=some (.bool !b):=ay.cell hX 8 ak;have bG:Hid (XN xb zb rb sb mb bb base ax ip ns st m w (.returned (.int .i64 (if(!b)then 4 else 0))) W2):=⟨!b,rfl,⟨l,s',h1,h2,h3,mE⟩,dR⟩;clear bu HG hM hb kj hF2 hW2 mE dR hX hF;cases b with
 | true =>{go_wp2_with (fail);go_ret;exact af bG}
 | false =>{go_wp2_with (fail);go_ret;exact af bG}
theorem aji(xb zb rb sb:Nat)(ax ip:ai)(n s d:Nat)(w:World)(h:pC w xb zb rb sb ax ip n s d true) :
  Calls prog 54 #[.pointer (some ⟨xb,0,none⟩)] w fun e w'=>e=.returned (.int .i64 4)/\w'=w:=by have t_:w.cell? ⟨xb,8,none⟩=some (.bool true):=ay.cell h 8 ak;clear h;go_enter func54,ntmps54;go_wp2;go_ret;exact⟨rfl,rfl⟩
end Go.Proofs.YtkkpahmoljiepaaGreatDoor
