import Derived.Test.YtkkpahmoljiepaaGreatDoorJ07
import Derived.Test.YtkkpahmoljiepaaGreatDoorJ0h
set_option maxRecDepth 1000000
set_option maxHeartbeats 12800000
set_option linter.unusedSimpArgs false
set_option linter.unusedVariables false
namespace Go.Proofs.YtkkpahmoljiepaaGreatDoor
open Go.RowKit Go.Proofs.Tryz
def jg(w:World)(b:Nat)(vo:Value)(t k:Int)(d:ah)(dS:Value):Prop:=w.heap[b]? = some (.cells #[vo,.int .i64 t,.int .i64 k,.string (aq d),dS] 119)
theorem jg.cells{w:World}{b:Nat}{vo dS:Value}{t k:Int}{d:ah}(h:jg w b vo t k d dS):w.cell? ⟨b,0,none⟩=some vo/\w.cell? ⟨b,1,none⟩=some (.int .i64 t)/\w.cell? ⟨b,2,none⟩=some (.int .i64 k)/\w.cell? ⟨b,3,none⟩=some (.string (aq d))/\w.cell? ⟨b,4,none⟩=some dS:=by unfold jg at h;refine⟨?_,?_,?_,?_,?_⟩ <;> simp[World.cell?,h]
theorem jg.frozen{w:World}{b:Nat}{vo dS:Value}{t k:Int}{d:ah}(h:jg w b vo t k d dS)(i:Nat):w.frozen? ⟨b,i,none⟩=false:=by unfold jg at h;simp[World.frozen?,h]
theorem jg.lt{w:World}{b:Nat}{vo dS:Value}{t k:Int}{d:ah}(h:jg w b vo t k d dS):b<w.heap.size:=(bV.1 h).1
theorem jg.set{w:World}{b:Nat}{vo dS:Value}{t k:Int}{d:ah}(h:jg w b vo t k d dS)(Qa Qb:Value)(t' k':Int)(d':ah):jg (((((w.setCell ⟨b,0,none⟩ Qa).setCell ⟨b,1,none⟩ (.int .i64 t')).setCell ⟨b,2,none⟩ (.int .i64 k')).setCell ⟨b,3,none⟩ (.string (aq d'))).setCell ⟨b,4,none⟩ Qb) b Qa t' k' d' Qb:=by unfold jg at *;simp only[World.setCell,fw,gZ,h];rfl
def Gi(w:World)(base:Nat)(v:Value)(ls:List ah):Prop:=∃g off cap,v=.slice (some ⟨g,off,none⟩) ls.length cap/\ls.length<=cap/\fS w g off ls/\base<=g
def Wq(s:ah)(base:Nat)(e:Ending)(w':World):Prop :=
 ∃va n c t k d ua m uc,e=.returned (.tuple #[.agg #[.slice va n c,.int .i64 t,.int .i64 k,.string (aq d),.slice ua m uc],.bool (gQ s).isSome]) /\
  ∀r,gQ s=some r->t=r.aG/\k=r.type/\d=r.data/\Gi w' base (.slice va n c) (az 46 r.owner)/\Gi w' base (.slice ua m uc) (az 32 r.data)
theorem aeK(c:UInt8):∀(l:List ah) (m:Nat),(∀x∈l,x.length<=m)->(fT c l).length<=l.length*(m+1)
 | [],_,_=>cV _
 | [x],m,h=>by have:=h x ar;simp[fT];omega
 | x :: y :: t,m,h=>by have h1:=h x ar;have h2:=aeK c (y :: t) m (fun z hz=>h z (jY _ hz));rw[fT,bj,bP,bP,Hs];omega
theorem aeL{w1:World}{g i:Nat}(hg:g<w1.heap.size)(o:Obj):(w1.alloc o).drew.cell? ⟨g,i,none⟩=w1.cell? ⟨g,i,none⟩:=dh (cD w1 o g hg)
theorem Qx{w1 W:World}{g:Nat}{x0 x2:Value}{o:Obj}(hg:g<w1.heap.size)(h:W.cell? ⟨g,0,none⟩=some x0/\W.cell? ⟨g,2,none⟩=some x2/\au w1 W):(W.alloc o).cell? ⟨g,0,none⟩=some x0/\(W.alloc o).cell? ⟨g,2,none⟩=some x2/\au w1 (W.alloc o):=by have hs:=h.2.2.size;have hb:au W (W.alloc o):=aO.alloc aA _;exact⟨(hb.cell (p:=⟨g,0,none⟩) (by show g<_;omega)).trans h.1,(hb.cell (p:=⟨g,2,none⟩) (by show g<_;omega)).trans h.2.1,h.2.2.alloc hs _⟩
theorem ard{w1 W:World}{g:Nat}{x0 x2:Value}{o:Obj}(hg:g<w1.heap.size)(h:W.cell? ⟨g,0,none⟩=some x0/\W.cell? ⟨g,2,none⟩=some x2/\au w1 W):(W.alloc o).drew.cell? ⟨g,0,none⟩=some x0/\(W.alloc o).drew.cell? ⟨g,2,none⟩=some x2/\au w1 (W.alloc o).drew :=
 ⟨(Qx (o:=o) hg h).1,(Qx (o:=o) hg h).2.1,(Qx (o:=o) hg h).2.2.drew⟩
theorem sN{w1 W:World}{g b i:Nat}{x0 x2 v:Value}(hg:g<w1.heap.size)(hb:w1.heap.size<=b)(h:W.cell? ⟨g,0,none⟩=some x0/\W.cell? ⟨g,2,none⟩=some x2/\au w1 W):(W.setCell ⟨b,i,none⟩ v).cell? ⟨g,0,none⟩=some x0/\(W.setCell ⟨b,i,none⟩ v).cell? ⟨g,2,none⟩=some x2/\au w1 (W.setCell ⟨b,i,none⟩ v):=by
 have hne:∀k,k≠b->(W.setCell ⟨b,i,none⟩ v).heap[k]? = W.heap[k]?:=fun k hk=>cZ _ _ _ _ hk;have hB:=h.2.2;have hs:(W.setCell ⟨b,i,none⟩ v).heap.size=W.heap.size:=by simp[World.setCell]
 exact⟨(dh (hne g ae)).trans h.1,(dh (hne g ae)).trans h.2.1,hB.os,hB.tape,hB.output,by rw[hs];exact hB.size,fun k hk=>(hne k ae).trans (hB.block k hk)⟩
theorem aeM{w1 W:World}{g:Nat}{x0 x2:Value}(hg:g<w1.heap.size)(h:W.cell? ⟨g,0,none⟩=some x0/\W.cell? ⟨g,2,none⟩=some x2/\au w1 W) :
  ((W.alloc (.cells #[.slice none 0 0,.int .i64 0,.int .i64 0,.string ⟨#[]⟩,.slice none 0 0] 119)).cell? ⟨g,0,none⟩=some x0/\(W.alloc (.cells #[.slice none 0 0,.int .i64 0,.int .i64 0,.string ⟨#[]⟩,.slice none 0 0] 119)).cell? ⟨g,2,none⟩=some x2/\au w1 (W.alloc (.cells #[.slice none 0 0,.int .i64 0,.int .i64 0,.string ⟨#[]⟩,.slice none 0 0] 119))) /\
    jg (W.alloc (.cells #[.slice none 0 0,.int .i64 0,.int .i64 0,.string ⟨#[]⟩,.slice none 0 0] 119)) W.heap.size (.slice none 0 0) 0 0 [] (.slice none 0 0)/\w1.heap.size<=W.heap.size :=
 ⟨Qx hg h,World.alloc_heap_new W _,h.2.2.size⟩
theorem arf{w1:World}{g:Nat}{x0 x2:Value}(hg:g<w1.heap.size)(h:w1.cell? ⟨g,0,none⟩=some x0/\w1.cell? ⟨g,2,none⟩=some x2/\au w1 w1) :
  ((w1.alloc (.cells #[.slice none 0 0,.int .i64 0,.int .i64 0,.string ⟨#[]⟩,.slice none 0 0] 119)).drew.cell? ⟨g,0,none⟩=some x0/\(w1.alloc (.cells #[.slice none 0 0,.int .i64 0,.int .i64 0,.string ⟨#[]⟩,.slice none 0 0] 119)).drew.cell? ⟨g,2,none⟩=some x2/\au w1 (w1.alloc (.cells #[.slice none 0 0,.int .i64 0,.int .i64 0,.string ⟨#[]⟩,.slice none 0 0] 119)).drew) /\
    jg (w1.alloc (.cells #[.slice none 0 0,.int .i64 0,.int .i64 0,.string ⟨#[]⟩,.slice none 0 0] 119)).drew w1.heap.size (.slice none 0 0) 0 0 [] (.slice none 0 0)/\w1.heap.size<=w1.heap.size :=
 ⟨ard hg h,World.alloc_heap_new w1 _,bH _⟩
theorem jg.kept{w w':World}{b:Nat}{vo dS:Value}{t k:Int}{d:ah}(h:jg w b vo t k d dS)(hb:w'.heap[b]? = w.heap[b]?):jg w' b vo t k d dS:=hb.trans h
theorem jg.set1{w:World}{b:Nat}{vo dS:Value}{t k:Int}{d:ah}(h:jg w b vo t k d dS)(t':Int):jg (w.setCell ⟨b,1,none⟩ (.int .i64 t')) b vo t' k d dS:=by unfold jg at *;simp only[World.setCell,fw,gZ,h];rfl
theorem jg.iM{w:World}{b:Nat}{vo dS:Value}{t k:Int}{d:ah}(h:jg w b vo t k d dS)(d':ah):jg (w.setCell ⟨b,3,none⟩ (.string (aq d'))) b vo t k d' dS:=by unfold jg at *;simp only[World.setCell,fw,gZ,h];rfl
theorem Qy{w:World}{b base i:Nat}{va:Option Addr}{vn vc:Nat}{dS v u:Value}{t k:Int}{d:ah}{o:Option (List ah)}(h:jg w b (.slice va vn vc) t k d dS)(hn:tN w base v o):tN (w.setCell ⟨b,i,none⟩ u) base v o:=by
 cases o with
 | none=>exact hn
 | some l =>
  obtain⟨h1,g,cap,h2,h3,h4,h5⟩:=hn;have hne:g≠b:=by
   rintro rfl;have hl:0<l.length:=by cases l with
    | nil=>exact absurd rfl h1
    | cons=>simp
   have:=h5.2 0 hl;rw[gK,h.cells.1]at this;cases this
  exact⟨h1,g,cap,h2,h3,h4,by simp[World.setCell];exact h5.1,fun j hj=>(dh (a:=⟨g,0+j,none⟩) (cZ _ _ _ _ hne)).trans (h5.2 j hj)⟩
theorem aeN{w:World}{base:Nat}{v:Value}{o:Option (List ah)}(ob:Obj)(hn:tN w base v o):tN (w.alloc ob) base v o:=by
 cases o with
 | none=>exact hn
 | some l =>{obtain⟨h1,g,cap,h2,h3,h4,h5⟩:=hn;exact⟨h1,g,cap,h2,h3,h4,h5.below (aO.alloc aA _)⟩}
theorem Ws{w:World}{b base:Nat}{va:Option Addr}{vn vc:Nat}{dS v a0 a1 a2 a3 a4:Value}{t k:Int}{d:ah}{o:Option (List ah)}(h:jg w b (.slice va vn vc) t k d dS)(hn:tN w base v o):tN (((((w.setCell ⟨b,0,none⟩ a0).setCell ⟨b,1,none⟩ a1).setCell ⟨b,2,none⟩ a2).setCell ⟨b,3,none⟩ a3).setCell ⟨b,4,none⟩ a4) base v o:=by
 cases o with
 | none=>exact hn
 | some l =>
  obtain⟨h1,g,cap,h2,h3,h4,h5⟩:=hn;have hne:g≠b:=by
   rintro rfl;have hl:0<l.length:=by cases l with
    | nil=>exact absurd rfl h1
    | cons=>simp
   have:=h5.2 0 hl;rw[gK,h.cells.1]at this;cases this
  have hb:∀(x:World) (i:Nat) (u:Value),(x.setCell ⟨b,i,none⟩ u).heap[g]? = x.heap[g]?:=fun x i u=>cZ _ _ _ _ hne;refine⟨h1,g,cap,h2,h3,h4,by simp[World.setCell];exact h5.1,fun j hj=>?_⟩;rw[<- h5.2 j hj];refine dh (a:=⟨g,0+j,none⟩) ?_;rw[hb,hb,hb,hb,hb]
theorem Qz{w:World}{b i g off:Nat}{u:Value}{l:List ah}(hn:g≠b)(h:fS w g off l):fS (w.setCell ⟨b,i,none⟩ u) g off l :=
 ⟨by simp[World.setCell];exact h.1,fun j hj=>(dh (a:=⟨g,off+j,none⟩) (cZ _ _ _ _ hn)).trans (h.2 j hj)⟩
theorem aeO(c:UInt8):∀(f:Nat) (s:ah),s.length<=f->∀x∈az c s,c ∉ x
 | f,s,hf,x,hx=>by
  rcases oJ c s with⟨h,e⟩|⟨a,b,e0,h,e⟩;{
  rw[e]at hx;have:x=s:=by simpa using hx
  rw[this];exact h};{
  rw[e]at hx;rcases ei.1 hx with rfl|hx;{exact h};{
  have hl:b.length<f:=by rw[e0]at hf;simp at hf;omega
  exact aeO c (f - 1) b ae x hx}}
termination_by f=>f
decreasing_by omega
theorem Wu(c:UInt8):∀(T:List ah),T≠[]->(∀x∈T,c ∉ x)->az c (fT c T)=T
 | [],h,_=>absurd rfl h
 | [x],_,h=>by rcases oJ c x with⟨_,e⟩|⟨a,b,e0,_,_⟩;{exact e};{exact absurd (by rw[e0];simp) (h x ar)}
 | x :: y :: t,_,h=>by
  have hx:=h x ar;have ih:=Wu c (y :: t) ar (fun z hz=>h z (jY _ hz));rw[fT];rcases oJ c (x++c :: fT c (y :: t))with⟨h1,_⟩|⟨a,b,e0,h0,e⟩;{exact absurd ar h1};{
  have:a=x/\b=fT c (y :: t):=by{
  rcases List.append_eq_append_iff.1 e0 with⟨u,hu1,hu2⟩|⟨u,hu1,hu2⟩;{
  cases u with
  | nil=>simp at hu1 hu2;exact⟨hu1,hu2.symm⟩
  | cons z u=>simp at hu2;rw[hu1,<- hu2.1]at h0;exact absurd ar h0};{
  cases u with
  | nil=>simp at hu1 hu2;exact⟨hu1.symm,hu2⟩
  | cons z u=>simp at hu2;rw[hu1,<- hu2.1]at hx;exact absurd ar hx}};rw[e,this.1,this.2,ih]}
theorem aeP{star:Bool}{s:ah}{l:List ah}(h:gT star s=some l):l=az 46 s:=by unfold gT at h;split at h;{exact(fq h).symm};{cases h}
theorem arh{s x0 x1 x2:ah}{T:List ah}(hT:T≠[])(hno:∀x∈T,(32:UInt8) ∉ x)(om:gQ s=KT (x0 :: x1 :: x2 :: T)){wr W:World}{b g cap N base vn vc aG:Nat}{va:Option Addr}{kd:Int}{ok dd:Bool}(hk:gL x2=kd)(bq:dz 86400 x1=ok/\cE (gL x2) T=dd)(pR:ok=true->aG=iY 86400 x1)
  (f_:tN wr base (.slice va vn vc) (gT true x0)) (fZ:fS wr g 3 T) (hN:T.length=N - 3) (hc:N - 3<=cap - 3) (hw:∀k,k≠b->W.heap[k]? = wr.heap[k]?) (hsz:wr.heap.size<=W.heap.size) (hb1:b<base) (hb2:b<g) :
  Wq s b (.returned (.tuple #[.agg #[.slice va vn vc,.int .i64 aG,.int .i64 kd,.string (aq (fT 32 T)),.slice (some ⟨g,3,none⟩) (N - 3) (cap - 3)],.bool (ok && dd && !va.isNone)])) W:=by
 have hv:(!va.isNone)=iC x0:=by
  rw[<- KS];cases ho:gT true x0 with
  | none=>rw[ho]at f_;cases f_;rfl
  | some l=>rw[ho]at f_;obtain⟨_,g',cap',e,_⟩:=f_;cases e;rfl
 obtain⟨y,t,rfl⟩:∃y t,T=y :: t:=by cases T with
  | nil=>exact absurd rfl hT
  | cons y t=>exact⟨y,t,rfl⟩
 have Wv:gQ s=if iC x0 && dz 86400 x1 && cE (gL x2) (y :: t)then some (x0,iY 86400 x1,gL x2,fT 32 (y :: t))else none:=om
 rw[bq.1,bq.2]at Wv;have hsome:(ok && dd && !va.isNone)=(gQ s).isSome:=by
  rw[hv,Wv];cases iC x0 <;> cases ok <;> cases dd <;> rfl
 have hcell:∀(k i:Nat),k≠b->W.cell? ⟨k,i,none⟩=wr.cell? ⟨k,i,none⟩:=fun k i h=>dh (hw k h);refine⟨va,vn,vc,aG,kd,fT 32 (y :: t),some ⟨g,3,none⟩,N - 3,cap - 3,by rw[hsome],fun r hr=>?_⟩;rw[Wv]at hr;split at hr
 ·rename_i LX;simp only[cY]at LX;obtain rfl:=(fq hr).symm;refine⟨?_,hk.symm,rfl,?_,?_⟩
  ·rw[pR LX.1.2];rfl
  ·show Gi W b _ (az 46 x0);cases ho:gT true x0 with
   | none=>have:=KS x0;rw[ho,LX.1.1]at this;cases this
   | some l =>
    rw[ho]at f_;obtain rfl:=aeP ho;obtain⟨_,g',cap',e,h3,h4,h5⟩:=f_;rw[e];exact⟨g',0,cap',rfl,h3,⟨dP h5.1 hsz,fun j hj=>(hcell g' _ ae).trans (h5.2 j hj)⟩,ae⟩
  ·show Gi W b _ (az 32 (fT 32 (y :: t)));rw[Wu 32 (y :: t) ar hno,<- hN];exact⟨g,3,cap - 3,rfl,ae,⟨dP fZ.1 hsz,fun j hj=>(hcell g _ ae).trans (fZ.2 j hj)⟩,ae⟩
 ·cases hr
theorem aeQ(a b:ah):aq a++aq b=aq (a++b):=by apply NI;simp[aq]
theorem ari(a:ah):aq a++⟨#[32]⟩=aq (a++[32]):=aeQ a [32]
theorem arj(s:ah)(w:World)(hl:s.length<=3000) :
  aB 64 #[.string (aq s)] w fun e w'=>Wq s w.heap.size e w'/\au w w':=by
 have hs:(aq s).size=s.length:=bJ s;have r8:Hid (∀W,aB 62 #[.string (aq s),.int .u8 32] W fun e w'=>(∃v,e=.returned v/\mK w' W.heap.size v (az 32 s))/\au W w'):=fun W=>H3 s 32 W ae;have hlen:(az 32 s).length<=3001:=by have:=pQ 32 s;omega
 have r9:Hid (∀x∈az 32 s,x.length<=3000):=fun x hx=>by have:=qK 32 s.length s aA x hx;omega
 have p2:Hid (az 32 s≠[]):=pP 32 s;have ui:Hid (gQ s=KT (az 32 s)):=am3 s;have ark:Hid (∀x∈az 32 s,(32:UInt8) ∉ x):=aeO 32 s.length s aA;generalize az 32 s=L at *;go_enter func64,ntmps64;go_wp2_with fail;refine(r8 _).mono ?_;rintro e w1 ⟨⟨v,rfl,hown⟩,hb1⟩;obtain⟨g,cap,rfl,dt,hbg,fZ⟩:=zH hown (af p2);have tS:jg w1 w.heap.size (.slice none 0 0) 0 0 [] (.slice none 0 0):=(hb1.block _ ar).trans (World.alloc_heap_new w _);have mf:=ag tS;obtain⟨q0,q1,q2,q3,q4⟩:=tS.cells;have hfz:=tS.frozen;have hb0:au w w1:=(aO.alloc aA _).trans (hb1.mono ar);have aeR:w.heap.size+1<=g:=by simpa using hbg
 have HO:=ag (bg aeR (bg fZ hb0));have jq:=fZ.1;clear hown hb1 r8 hbg fZ tS hb0 aeR;by_cases h4:L.length<4;{
 have O6:(L.length:Int)<4:=ae;go_wp2_with fail;have hnone:gQ s=none:=by{
 rw[af ui];match L,h4 with
 | [],_=>rfl
 | [_],_=>rfl
 | [_,_],_=>rfl
 | [_,_,_],_=>rfl
 | _ :: _ :: _ :: _ :: _,h=>exact absurd h ar};have A9:=mf.set (.slice none 0 0) (.slice none 0 0) 0 0 [];obtain⟨n0,n1,n2,n3,n4⟩:=A9.cells;rw[show aq ([]:ah)=⟨#[]⟩from rfl]at n0 n1 n2 n3 n4;refine fB (v:=.tuple #[.agg #[.slice none 0 0,.int .i64 0,.int .i64 0,.string (aq []),.slice none 0 0],.bool (gQ s).isSome]) ?_ rfl ?_;rw[show aq ([]:ah)=⟨#[]⟩from rfl];{simp[results,results64,go_sem,hnone,n0,n1,n2,n3,n4]};{refine⟨⟨none,0,0,0,0,[],none,0,0,rfl,fun r hr=>by rw[hnone]at hr;cases hr⟩,?_⟩;exact((((HO.2.2.setCell (p:=⟨w.heap.size,0,none⟩) aA _).setCell (p:=⟨w.heap.size,1,none⟩) aA _).setCell (p:=⟨w.heap.size,2,none⟩) aA _).setCell (p:=⟨w.heap.size,3,none⟩) aA _).setCell (p:=⟨w.heap.size,4,none⟩) aA _}};{
 have O6:¬(L.length:Int)<4:=ae;obtain⟨x0,x1,x2,T,rfl,hT⟩:∃x0 x1 x2 T,L=x0 :: x1 :: x2 :: T/\T≠[]:=by{
 match L,h4 with
 | x0 :: x1 :: x2 :: y :: t,_=>exact⟨x0,x1,x2,y :: t,rfl,ar⟩
 | [],h=>exact absurd ar h
 | [_],h=>exact absurd ar h
 | [_,_],h=>exact absurd ar h
 | [_,_,_],h=>exact absurd ar h};have c0:=wN HO.2.1 0 x0 rfl;have aC:=wN HO.2.1 1 x1 rfl;have c2:=wN HO.2.1 2 x2 rfl;rw[eY]at c0 aC c2;have hx0:=af r9 x0 ar;have hx1:=af r9 x1 ar;have hx2:=af r9 x2 ar;have ot:Hid (∀W,(W.cell? ⟨g,0,none⟩=some (.string (aq x0))/\W.cell? ⟨g,2,none⟩=some (.string (aq x2))/\au w1 W)->aB 63 #[.string (aq x0),.bool true] W fun e w'=>∃va n c,e=.returned (.slice va n c)/\(w'.cell? ⟨g,0,none⟩=some (.string (aq x0))/\w'.cell? ⟨g,2,none⟩=some (.string (aq x2))/\au w1 w')/\tN w' w1.heap.size (.slice va n c) (gT true x0)/\au W w'):=fun W hS=>by{
 refine(H5 x0 true W ae).mono ?_;rintro e w' ⟨⟨v,rfl,hv⟩,hb⟩;obtain⟨s0,s2,sB⟩:=hS;have hsz:=sB.size;obtain⟨va,n,c,rfl⟩:∃va n c,v=.slice va n c:=by{
 cases ho:gT true x0 with
 | none=>rw[ho]at hv;exact⟨none,0,0,hv⟩
 | some l=>rw[ho]at hv;obtain⟨_,g',cap',rfl,_⟩:=hv;exact⟨_,_,_,rfl⟩};refine⟨va,n,c,rfl,⟨(hb.cell (p:=⟨g,0,none⟩) (by show g<_;omega)).trans s0,(hb.cell (p:=⟨g,2,none⟩) (by show g<_;omega)).trans s2,sB.trans (hb.mono hsz)⟩,?_,hb⟩;cases ho:gT true x0 with
 | none=>rw[ho]at hv;exact hv
 | some l =>{rw[ho]at hv;obtain⟨k1,g',cap',k2,k3,k4,k5⟩:=hv;exact⟨k1,g',cap',k2,k3,ae,k5⟩}};have QA:=ag (fun W=>amK x2 W);obtain⟨N,hN⟩:=bF ((x0 :: x1 :: x2 :: T).length);rw[<- hN]at dt O6 ⊢;have aeS:4<=N/\N=T.length+3:=by rw[hN];simp;have:T.length≠0:=fun h=>hT (fp h);omega
 have hc3:¬cap=3:=ae;have ad2:(3:Int)<=(N:Int):=ae;have zA:=ag aeS;have aAg:0<N:=ae;have aet:2<N:=ae;have aAh:(0:Int)<(N:Int):=ae;have aAi:(2:Int)<(N:Int):=ae;clear hN aeS;clear h4;have aAj:¬g=w1.heap.size:=ae;have aAk:w1.drew.heap.size=w1.heap.size:=rfl;have a0':∀o,(w1.alloc o).drew.cell? ⟨g,0,none⟩=some (.string (aq x0)):=fun o=>(aeL jq o).trans c0;have a2':∀o,(w1.alloc o).drew.cell? ⟨g,2,none⟩=some (.string (aq x2)):=fun o=>(aeL jq o).trans c2;have ug:w1.cell? ⟨g,0,none⟩=some (.string (aq x0))/\w1.cell? ⟨g,2,none⟩=some (.string (aq x2))/\au w1 w1:=⟨c0,c2,bR _ _⟩;have hS:w1.drew.cell? ⟨g,0,none⟩=some (.string (aq x0))/\w1.drew.cell? ⟨g,2,none⟩=some (.string (aq x2))/\au w1 w1.drew:=⟨c0,c2,aO.drew⟩;have c0':w1.drew.cell? ⟨g,0,none⟩=some (.string (aq x0)):=c0;have c2':w1.drew.cell? ⟨g,2,none⟩=some (.string (aq x2)):=c2;go_upto_region 4 with fail;go_cut [5]from 16 (fun v5 wc=>∃b5 va vn vc,v5=.pointer (some ⟨b5,0,none⟩)/\jg wc b5 (.slice va vn vc) 0 (gL x2) [] (.slice (some ⟨g,3,none⟩) (N - 3) (cap - 3))/\tN wc w1.heap.size (.slice va vn vc) (gT true x0)/\au w1 wc/\w1.heap.size<=b5);case first =>(
 refine Tc (S:=(fun w':World=>w'.cell? ⟨g,0,none⟩=some (.string (aq x0))/\w'.cell? ⟨g,2,none⟩=some (.string (aq x2))/\au w1 w')) aI hS (fun hS=>?_);refine iX 0 hS ?_;refine iX 1 hS ?_;refine iX 2 hS ?_;refine iX 4 hS ?_;refine iX 5 hS ?_;refine iX 6 hS ?_;refine iX 8 hS ?_;refine iX 9 hS ?_;refine fH (rs:=[3,11]) aI ar (eT rfl (fun K hK=>?_) (eT rfl (fun K hK=>?_) fG));{
 go_simp;go_wp2_with (go_at_call 63;go_loud (refine(ot _ hS).mono ?_;rintro e W' ⟨va,vn,vc,rfl,dZ,LY,jA⟩;have lA:=ag LY;have DR:=ag jA;clear LY jA));refine hK.out _ _ dZ (fun hS=>?_);clear hK K dZ DR;try simp only[Act.put,fV,eC,eX]
 refine fH (rs:=[7,11]) aI ar (eT rfl (fun K hK=>?_) (eT rfl (fun K hK=>?_) fG));{
 go_simp;go_wp2_with (go_at_call 114;go_loud (refine(QA _).mono ?_;rintro e W' ⟨rfl,rfl⟩));refine hK.out _ _ hS (fun hS=>?_);clear hK K;try simp only[Act.put,fV,eC,eX]
 refine iX 10 hS ?_;refine fH (rs:=[11]) aI ar (eT rfl (fun K hK=>?_) fG);go_simp;obtain⟨dZ,hR,ky⟩:=aeM jq hS;have lA:=ag (aeN (.cells #[.slice none 0 0,.int .i64 0,.int .i64 0,.string ⟨#[]⟩,.slice none 0 0] 119) (af lA));refine hK.out _ _ dZ (fun hS=>?_);clear hK K dZ;revert hR lA hS;generalize World.alloc _ _=W';intro hR lA hS;try simp only[Act.put,fV,eC,eX]
 obtain⟨z0,z1,z2,z3,z4⟩:=hR.cells;have Lu:=hR.frozen;refine fH (rs:=[12]) aI ar (eT rfl (fun K hK=>?_) fG);go_simp;refine hK.out _ _ (sN jq ky (sN jq ky (sN jq ky (sN jq ky (sN jq ky hS))))) (fun hS=>?_);clear hK K;refine rL aI ?_ _;go_wp2_with fail;go_meet;case rel=>exact⟨_,_,_,_,rfl,hR.set (.slice va vn vc) (.slice (some ⟨g,3,none⟩) (N - 3) (cap - 3)) 0 (gL x2) [],Ws hR (af lA),hS.2.2,ky⟩};{
 go_simp;obtain⟨dZ,hR,ky⟩:=aeM jq hS;have lA:=ag (aeN (.cells #[.slice none 0 0,.int .i64 0,.int .i64 0,.string ⟨#[]⟩,.slice none 0 0] 119) (af lA));refine hK.out _ _ dZ (fun hS=>?_);clear hK K dZ;revert hR lA hS;generalize World.alloc _ _=W';intro hR lA hS;try simp only[Act.put,fV,eC,eX]
 refine fH (rs:=[7]) aI ar (eT rfl (fun K hK=>?_) fG);go_simp;go_wp2_with (go_at_call 114;go_loud (refine(QA _).mono ?_;rintro e W' ⟨rfl,rfl⟩));refine hK.out _ _ hS (fun hS=>?_);clear hK K;try simp only[Act.put,fV,eC,eX]
 refine iX 10 hS ?_;obtain⟨z0,z1,z2,z3,z4⟩:=hR.cells;have Lu:=hR.frozen;refine fH (rs:=[12]) aI ar (eT rfl (fun K hK=>?_) fG);go_simp;refine hK.out _ _ (sN jq ky (sN jq ky (sN jq ky (sN jq ky (sN jq ky hS))))) (fun hS=>?_);clear hK K;refine rL aI ?_ _;go_wp2_with fail;go_meet;case rel=>exact⟨_,_,_,_,rfl,hR.set (.slice va vn vc) (.slice (some ⟨g,3,none⟩) (N - 3) (cap - 3)) 0 (gL x2) [],Ws hR (af lA),hS.2.2,ky⟩}};{
 go_simp;obtain⟨dZ,hR,ky⟩:=arf jq ug;refine hK.out _ _ dZ (fun hS=>?_);clear hK K dZ;revert hR hS;generalize World.drew _=W';intro hR hS;try simp only[Act.put,fV,eC,eX]
 refine fH (rs:=[3]) aI ar (eT rfl (fun K hK=>?_) fG);go_simp;go_wp2_with (go_at_call 63;go_loud (refine(ot _ hS).mono ?_;rintro e W' ⟨va,vn,vc,rfl,dZ,LY,jA⟩;have lA:=ag LY;have DR:=ag jA;clear LY jA));have hR:=hR.kept (DR.block _ hR.lt);refine hK.out _ _ dZ (fun hS=>?_);clear hK K dZ DR;try simp only[Act.put,fV,eC,eX]
 refine fH (rs:=[7]) aI ar (eT rfl (fun K hK=>?_) fG);go_simp;go_wp2_with (go_at_call 114;go_loud (refine(QA _).mono ?_;rintro e W' ⟨rfl,rfl⟩));refine hK.out _ _ hS (fun hS=>?_);clear hK K;try simp only[Act.put,fV,eC,eX]
 refine iX 10 hS ?_;obtain⟨z0,z1,z2,z3,z4⟩:=hR.cells;have Lu:=hR.frozen;refine fH (rs:=[12]) aI ar (eT rfl (fun K hK=>?_) fG);go_simp;refine hK.out _ _ (sN jq ky (sN jq ky (sN jq ky (sN jq ky (sN jq ky hS))))) (fun hS=>?_);clear hK K;refine rL aI ?_ _;go_wp2_with fail;go_meet;case rel=>exact⟨_,_,_,_,rfl,hR.set (.slice va vn vc) (.slice (some ⟨g,3,none⟩) (N - 3) (cap - 3)) 0 (gL x2) [],Ws hR (af lA),hS.2.2,ky⟩})
 case rest =>(
 obtain⟨b5,va,vn,vc,rfl,BA,aeT,hb5,QB⟩:=hcut;have hs5:=hb5.size;have d1:wc.cell? ⟨g,1,none⟩=some (.string (aq x1)):=(hb5.cell (p:=⟨g,1,none⟩) jq).trans aC;obtain⟨r0,r1,r2,r3,r4⟩:=BA.cells;have lg:=BA.frozen;have n9:=ag BA;have jG:=ag aeT;have fR:=ag hb5;have Vs:=ag (fun W=>Fq x1 86400 W ae bD);have AX:T.length=N - 3:=by have:=af zA;omega
 have aeU:Hid (fS wc g 3 T):=by{have h:=HO.2.1.below hb5;refine⟨h.1,fun j hj=>?_⟩;have:=h.2 (3+j) aP;rw[eY]at this;rw[this];have:(x0 :: x1 :: x2 :: T)[3+j]' aP=T[j]:=by{simp only[show 3+j=j+1+1+1 by omega,mV]};rw[this]};clear BA aeT hb5 c0 aC c2 a0' a2' ug hS c0' c2' ot QA;go_wp2_with fail;refine(Vs _).mono ?_;rintro e w6 ⟨⟨aG,rfl,pR⟩,rfl⟩;have H4:=ag pR;clear pR;have hgb:g≠b5:=ae;have hwl:w.heap.size<w1.heap.size:=mf.lt;have iO:=n9.set1 aG;have z8:=ag iO;obtain⟨s0,s1,s2,s3,s4⟩:=iO.cells;have yH:=ag (Qy (i:=1) (u:=.int .i64 aG) (af n9) (af jG));have IY:=ag (Qz (b:=b5) (i:=1) (u:=.int .i64 aG) hgb (af aeU));have ri:=ag (fR.setCell (p:=⟨b5,1,none⟩) QB (.int .i64 aG));have Ww:Hid (∀x∈T,x.length<=3000):=fun x hx=>af r9 x (jY _ (jY _ (jY _ hx)));have qZ:Hid (∀x∈T,(32:UInt8) ∉ x):=fun x hx=>af ark x (jY _ (jY _ (jY _ hx)));have arl:T.length<=3001:=by simp at hlen;omega
 obtain⟨ok,bq⟩:∃ok,dz 86400 x1=ok:=⟨_,rfl⟩;obtain⟨dd,hdd⟩:∃dd,cE (gL x2) T=dd:=⟨_,rfl⟩;rw[bq];have arn:Hid (ok=true->aG=iY 86400 x1):=fun h=>af H4 (by rw[bq];exact h);have aro:=ag (bg bq hdd);have HD:Hid (0<gL x2->aB 116 #[.int .i64 (gL x2),.slice (some ⟨g,3,none⟩) (N - 3) (cap - 3)] (w6.setCell ⟨b5,1,none⟩ (.int .i64 aG)) fun e w'=>e=.returned (.bool dd)/\Below (w6.setCell ⟨b5,1,none⟩ (.int .i64 aG)).heap.size (w6.setCell ⟨b5,1,none⟩ (.int .i64 aG)) w'):=fun hk=>by{have:=am1 x2 hk g 3 (cap - 3) T _ (af IY) arl ae (af Ww);rw[AX,hdd]at this;exact this};have hk0:Hid (gL x2=0->dd=false):=fun h=>by rw[<- hdd,h];exact am2 T
 obtain⟨kd,QC⟩:∃kd,gL x2=kd:=⟨_,rfl⟩;have tK:0<=kd:=by rw[<- QC];rcases abO x2 with e|e|e|e|e|e|e <;> omega
 have arp:=ag QC;rw[QC]at n9 z8 HD hk0 r2 s2;clear QC bq hdd H4 iO;go_upto_region 7 with fail;go_cut [8]from 36 (fun v8 wx=>v8=.bool dd/\jg wx b5 (.slice va vn vc) aG kd [] (.slice (some ⟨g,3,none⟩) (N - 3) (cap - 3))/\tN wx w1.heap.size (.slice va vn vc) (gT true x0)/\fS wx g 3 T/\au w1 wx);case first =>(
 by_cases hk:0<kd;{
 go_wp2_with fail;refine(HD hk).mono ?_;rintro e w8 ⟨rfl,ve⟩;have IZ:=ag (z8.kept (ve.block b5 (by have:=z8.lt;exact this)));have arq:=ag (IY.below ve);have QD:Hid (tN w8 w1.heap.size (.slice va vn vc) (gT true x0)):=by{
 have:=af yH;cases ho:gT true x0 with
 | none=>rw[ho]at this;exact this
 | some l =>{rw[ho]at this;obtain⟨h1,g',cap',h2,h3,h4,h5⟩:=this;exact⟨h1,g',cap',h2,h3,h4,h5.below ve⟩}};have Bz:=ag (ri.trans (ve.mono ri.size));clear HD ve r0 r1 r2 r3 r4 lg s0 s1 s2 s3 s4 d1;go_wp2_with fail;go_meet;case rel=>exact⟨rfl,IZ,QD,arq,Bz⟩};{have ars:kd=0:=ae;have aeV:=af hk0 ars;have yf:=ag aeV;clear HD aeV;go_wp2_with fail;go_meet;case rel=>exact⟨by rw[af yf],z8,yH,IY,ri⟩})
 case rest =>(
 obtain⟨rfl,iO,aeW,aeX,pB⟩:=hcut;clear HD z8 yH IY ri r0 r1 r2 r3 r4 lg s0 s1 s2 s3 s4 d1 n9 jG fR aeU;have z8:=ag iO;have yH:=ag aeW;have IY:=ag aeX;have ri:=ag pB;obtain⟨s0,s1,s2,s3,s4⟩:=iO.cells;clear iO aeW aeX pB;go_wp2_with fail;go_loopw [9] (fun i wr=>∃k:Nat,k<=T.length/\i=.int .i64 k/\jg wr b5 (.slice va vn vc) aG kd (fT 32 (T.take k)) (.slice (some ⟨g,3,none⟩) (N - 3) (cap - 3))/\tN wr w1.heap.size (.slice va vn vc) (gT true x0)/\fS wr g 3 T/\au w1 wr) (fun i _=>T.length - (intOf i).toNat);case atStart=>exact⟨0,cV _,rfl,z8,yH,IY,ri⟩
 case round =>(
 obtain⟨k,hk,rfl,hr,f_,fZ,hb⟩:=hrel;have kM:=aeK 32 (T.take k) 3000 (fun x hx=>af Ww x (Az hx));have ado:(aq (fT 32 (T.take k))).size<=9006001:=by{
 rw[bJ];have:(T.take k).length<=3001:=by rw[gD];omega
 have:=ES (3000+1) this;omega};obtain⟨c0,aC,c2,c3,aV⟩:=hr.cells;have cf:=hr.frozen;have bC:=ag hr;have aeY:=ag f_;have aeZ:=ag fZ;have DR:=ag hb;have hsz:=hb.size;by_cases hlt:k<T.length;{
 have gy:(k:Int)<((N - 3:Nat):Int):=ae;have cw:=fZ.2 k hlt;have g_:=af Ww T[k] (cM hlt);have ht:=gp hlt;obtain⟨x,hx⟩:=bF (T[k]);rw[<- hx]at cw g_ ht;have uB:(aq x).size<=3000:=by rw[bJ];exact g_
 clear hr f_ fZ hb hx;by_cases hk0:k=0;{subst hk0;have fX:Hid (aq (fT 32 ([]:List ah))++aq x=aq (fT 32 (T.take (0+1)))):=by{rw[Hid,ht];exact rfl};rw[gK]at cw;have hj0:(aq (fT 32 ([]:List ah))).size<=5:=bD;clear ht kM;go_upto_region 13 with fail;go_region;all_goals(go_wp2_with fail;refine⟨⟨0+1,ae,by first|rfl|go_num,?_,?_,?_,?_⟩,c5⟩;{rw[af fX];exact bC.iM _};{exact Qy (af bC) (af aeY)};{exact Qz ae (af aeZ)};{exact(DR.setCell (p:=⟨b5,3,none⟩) QB _).drew})};{
 have rR:(0:Int)<(k:Int):=ae;have fX:Hid (aq (fT 32 (T.take k)++[32])++aq x=aq (fT 32 (T.take (k+1)))):=by{rw[Hid,ht,Uw 32 x _ (by intro h;have:=dE List.length h;rw[gD,fy]at this;omega),aeQ];simp};have QE:=bC.iM (fT 32 (T.take k)++[32]);have ae0:=ag QE;obtain⟨e0,e1,e2,e3,e4⟩:=QE.cells;have ef:=QE.frozen;have ae1:=Qz (b:=b5) (i:=3) (u:=.string (aq (fT 32 (T.take k)++[32]))) ae (af aeZ);have aAl:(wr.setCell ⟨b5,3,none⟩ (.string (aq (fT 32 (T.take k)++[32])))).cell? ⟨g,3+k,none⟩=some (.string (aq x)):=(dh (a:=⟨g,3+k,none⟩) (cZ _ _ _ _ ae)).trans cw;have art:=ari (fT 32 (T.take k));have aAm:(aq (fT 32 (T.take k)++[32])).size<=9006002:=by rw[<- art,ByteArray.size_append];show _+1<=_;omega
 have aru:=ag (Qy (i:=3) (u:=.string (aq (fT 32 (T.take k)++[32]))) (af bC) (af aeY));have arv:=ag ae1;clear ht kM hk0 QE ae1;go_upto_region 13 with fail;go_region;all_goals(go_wp2_with fail;refine⟨⟨k+1,ae,by first|rfl|go_num,?_,?_,?_,?_⟩,c5⟩;{rw[af fX];exact ae0.iM _};{exact Qy (af ae0) (af aru)};{exact Qz ae (af arv)};{exact((DR.setCell (p:=⟨b5,3,none⟩) QB _).setCell (p:=⟨b5,3,none⟩) QB _).drew})}};{
 have gy:¬(k:Int)<((N - 3:Nat):Int):=ae;have hk2:k=T.length:=ae;have fX:Hid (fT 32 (T.take k)=fT 32 T):=by rw[Hid,hk2,gV]
 have xk:jg wr w.heap.size (.slice none 0 0) 0 0 [] (.slice none 0 0):=mf.kept (hb.block w.heap.size hwl);obtain⟨p0,p1,fh,eK,p4⟩:=xk.cells;have pf:=xk.frozen;have hres:Wq s w.heap.size (.returned (.tuple #[.agg #[.slice va vn vc,.int .i64 aG,.int .i64 kd,.string (aq (fT 32 (T.take k))),.slice (some ⟨g,3,none⟩) (N - 3) (cap - 3)],.bool (ok && dd && !va.isNone)])) ((((((wr.setCell ⟨w.heap.size,0,none⟩ (.slice va vn vc)).setCell ⟨w.heap.size,1,none⟩ (.int .i64 aG)).setCell ⟨w.heap.size,2,none⟩ (.int .i64 kd)).setCell ⟨w.heap.size,3,none⟩ (.string (aq (fT 32 (T.take k))))).setCell ⟨w.heap.size,4,none⟩ (.slice (some ⟨g,3,none⟩) (N - 3) (cap - 3))).drew):=by{rw[af fX];refine arh hT (af qZ) (af ui) (af arp) (af aro) (af arn) f_ fZ AX ae (b:=w.heap.size) (fun k hk=>?_) (by simp[World.setCell]) hwl (by have:=HO.1;omega);show(((((wr.setCell ⟨w.heap.size,0,none⟩ _).setCell ⟨w.heap.size,1,none⟩ _).setCell ⟨w.heap.size,2,none⟩ _).setCell ⟨w.heap.size,3,none⟩ _).setCell ⟨w.heap.size,4,none⟩ _).heap[k]? = _;rw[cZ _ _ _ _ (by exact hk),cZ _ _ _ _ (by exact hk),cZ _ _ _ _ (by exact hk),cZ _ _ _ _ (by exact hk),cZ _ _ _ _ (by exact hk)]};have DT:=ag hres;have Gj:=ag xk;clear hr f_ fZ hb kM xk hres;generalize fT 32 (T.take k)=D at *;have hcs:ok=false\/(ok=true/\dd=false)\/(ok=true/\dd=true):=by cases ok <;> cases dd <;> simp
 rcases hcs with rfl|⟨rfl,rfl⟩|⟨rfl,rfl⟩;all_goals go_upto_region 14 with fail
 all_goals go_region
 all_goals(go_wp2_with fail;have A9:=Gj.set (.slice va vn vc) (.slice (some ⟨g,3,none⟩) (N - 3) (cap - 3)) aG kd D;obtain⟨n0,n1,n2,n3,n4⟩:=A9.cells;have ae2:=af DT;simp only[Sx,Ho,NF,JQ]at ae2;refine fB ?_ rfl ⟨ae2,?_⟩;{simp[results,results64,go_sem,n0,n1,n2,n3,n4]};{have BL:=HO.2.2.trans (DR.mono ae);exact(((((BL.setCell (p:=⟨w.heap.size,0,none⟩) aA _).setCell (p:=⟨w.heap.size,1,none⟩) aA _).setCell (p:=⟨w.heap.size,2,none⟩) aA _).setCell (p:=⟨w.heap.size,3,none⟩) aA _).setCell (p:=⟨w.heap.size,4,none⟩) aA _).drew})})))}
end Go.Proofs.YtkkpahmoljiepaaGreatDoor
