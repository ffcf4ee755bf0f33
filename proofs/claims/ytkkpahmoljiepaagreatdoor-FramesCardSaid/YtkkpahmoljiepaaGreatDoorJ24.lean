import Derived.Test.YtkkpahmoljiepaaGreatDoorJ23
import Derived.StillTail
set_option maxRecDepth 1000000
set_option maxHeartbeats 12800000
set_option linter.unusedSimpArgs false
set_option linter.unusedVariables false
namespace Go.Proofs.YtkkpahmoljiepaaGreatDoor
open Go.RowKit Go.Proofs.Tryz
theorem Wi(a:World)(b:TypeId)(c:Nat):((a.alloc (.cells #[] b)).drew).ownsRow a.heap.size b c (aF a.heap.size 0 0 0) 0 [] :=
 ⟨am,.inr ⟨a.heap.size,0,#[],rfl,bb _,World.alloc_heap_new a _,bb _,by simp[maxLen],am,am⟩⟩
theorem Wj:∀(b:List (Value×List ah×Nat)),(∀c∈b,c.1.oneCell'=true)->∀d∈b.flatMap ja,d.oneCell'=true:=by intro b e d a;obtain⟨c,g,a⟩:=nu.1 a;simp only[ja,co,List.not_mem_nil,kd]at a;rcases a with rfl|rfl;{exact e c g};{rfl}
theorem Wk(l T:Nat)(S:ah)(v:Value)(c:ey)(b:World)(A:eI b l S v)(ak:fJ b T l v c)(al:c≠[])(aS:c.length<=1000000):az 146 #[aO l] b fun e C=>∃t M,e=.returned (aO t)/\b.heap.size<=t/\eI C t S M/\fJ C b.heap.size t M c/\ax b C:=by
 obtain⟨Q,R,aP,aB,aC⟩:=fO Kt;obtain⟨h,u,K,w⟩:=ak;have p:h.length=c.length:=by rw[<- u,bD]
 have aK:0<c.length:=by cases c with
  | nil=>exact absurd rfl al
  | cons a aW=>simp
 obtain⟨y,W,X,ar,aU,x,aj,_,an,L⟩:=K.2.resolve_left (fun ab=>by have:=ab.2;omega);subst ar;obtain⟨V,ap⟩:=A.cells;have aw:=A.lt;have aJ:=(bn.1 x).1;have P:Hid (∀r o,(h.flatMap ja)[r]? = some o->((b.alloc (.cells #[] 301)).drew).cell? (((aq y 0):Addr).add r)=some o):=by
  intro r o z;rw[sX,cT];have aG:r<h.length*2:=by
   have:=(fy.1 z).1;rw[CS]at this;exact this
  rw[<- L,kS aG]at z;have ac:((b.alloc (.cells #[] 301)).drew).heap[y]? = some (.cells X 301):=(bx b _ y aJ).trans x;unfold World.cell?;rw[ac];simpa using z
 have N:Hid (∀o∈h.flatMap ja,o.oneCell'=true):=Wj h (fun aN aD=>by obtain⟨_,_,_,e,_⟩:=w aN aD;rw[e];rfl);have E:=af (aQ u w);rw[p]at aj ap;have aH:(h.flatMap ja).length=c.length*2:=by rw[CS,p]
 have O:=af p;clear A u w K x L an p;go_enter func146,ntmps146;go_upto_region 1 with fail
 go_region_law (first|(refine step_append_lies _ rfl (.tmp 7) (.tmp 11) 227 rfl b.heap.size 301 Q _ 2 32 Ks R aP aB aC rfl ba _ 0 [] rfl (Wi b _ 2) _ c.length W (h.flatMap ja) rfl aH (ag P) (ag N) aK gW ae am (b.heap.size+1) am ?_;intro d j g I k H aV;have aL:g.cell? (aq l 0)=some (au S):=(b7 (a:=⟨l,0,none⟩) ((k.block l aA (fun e=>by have:=cZ (show some l=some b.heap.size from e);omega)).trans (bx _ _ _ aw))).trans V))
 all_goals
  have n:ax b g:=⟨k.os,k.tape,k.output,aZ am k.size,fun i ao=>(k.block i aA (fun e=>by have:=cZ (show some i=some b.heap.size from e);omega)).trans (bx _ _ _ ao)⟩
  have aT:b.heap.size<=d:=H.elim (fun e=>by have:=cZ (show some b.heap.size=some d from e);omega) (fun e=>ae);have D:=World.alloc_heap_new g (.cells #[.string (ai S),.slice (some ⟨d,0,none⟩) c.length j] 229);have q:ax g (g.alloc (.cells #[.string (ai S),.slice (some ⟨d,0,none⟩) c.length j] 229)):=aE.alloc av _;have J:g.ownsRow b.heap.size 301 2 (aF d 0 c.length j) h.length (h.flatMap ja):=by
   rw[ag O];simpa using I
  have aa:Hid (eI (g.alloc (.cells #[.string (ai S),.slice (some ⟨d,0,none⟩) c.length j] 229)) g.heap.size S (aF d 0 c.length j)/\fJ (g.alloc (.cells #[.string (ai S),.slice (some ⟨d,0,none⟩) c.length j] 229)) b.heap.size g.heap.size (aF d 0 c.length j) c/\ax b (g.alloc (.cells #[.string (ai S),.slice (some ⟨d,0,none⟩) c.length j] 229))):=by
   have B:=n.size;refine⟨D,⟨h,E.1,eg J q,fun aM ay=>?_⟩,n.trans (q.mono B)⟩;obtain⟨G,aI,U,Y,Z,F,aR⟩:=E.2 aM ay;have:=F.1;exact⟨G,aI,U,Y,Z,(F.below n).below q,fun ad=>ad.elim (fun e=>ae) (fun e=>by have:=cZ (show some G=some d from e);omega)⟩
  have B:=n.size;clear I k H n D q J aL;go_wp2;go_ret;exact⟨_,_,rfl,B,aa⟩
section
open Go
section
variable {P:Program} {Q:Exit->Act->World->Prop} {S:World->Prop}
def ku(P:Program)(c:Array Oper)(Q:Exit->Act->World->Prop)(n:Nat)(e:Exit)(a:Act)(b:World):Prop:=(e=.normal/\wpOp P c Q n (Q .normal) a b)\/(e≠.normal/\Q e a b)
def Kv(l:List Oper)(n:Nat):Bool:=decide (l.length=n+1)&&Region.sinkB .any l.toArray n&&(List.range (n+1)).all fun i=>match l[i]? with
 | some o=>o.guard.isNone&&o.after.all fun e=>decide (e.on<i)
 | none=>false
theorem t6{g:Array Oper}{n:Nat}{e:Exit}{b:Act}{c:World}(a:ku P g Q n e b c)(d:e≠.normal):Q e b c:=a.elim (fun a=>absurd a.1 d) (fun a=>a.2)
theorem Wl{l:List Oper}{n i:Nat}{o:Oper}(ao:i<n)(t:l[i]? = some o)(hg:o.guard=none){p q:Act->World->Prop}(j:∀c d,p c d->q c d){c:Act}{d:World}(a:wpOp P (l.take n).toArray (ku P l.toArray Q n) i p c d):wpOp P l.toArray Q i q c d:=by
 have y:(l.take n).toArray[i]? = some o:=by simp[lU,ao,t]
 have z:l.toArray[i]? = some o:=by simpa using t
 have u:∀g,Region.wanted o g=true:=fun g=>Cj
 unfold wpOp at a ⊢;simp only[y,u,gC]at a;simp only[z,u,gC];rcases a with a|⟨A,b,g,B⟩
 ·refine .inl ?_;unfold Oper.wp at a ⊢;generalize (execOp c.eval o).run P d=k at *;cases k with
  | ok b C =>
   cases b<;>simp only[Oper.upon]at a ⊢
   all_goals first
    | exact j _ _ a
    | exact a.elim
    | (refine a.mono fun e w h=>?_
       cases e with
       | returned v=>exact j _ _ h
       | panicked r=>exact t6 h am
       | outgrown=>obtain⟨b,g,h⟩:=h;exact⟨b,g,t6 h am⟩)
    | exact fun r x=>let ⟨v,w,k,s⟩:=a r x;⟨v,w,j _ _ k,s⟩
  | halt b C =>
   cases b<;>simp only[Oper.upon]at a ⊢
   all_goals first
    | exact t6 a am
    | exact a.elim
 ·exact .inr ⟨A,b,g,t6 B am⟩
section
variable {l:List Oper} {n:Nat} (hlen:l.length=n+1) (hgd : ∀ (i:Nat) (o:Oper),l[i]? = some o->o.guard=none/\∀ e∈o.after,e.on<i) (hsk:Region.sinkB .any l.toArray n=true)
theorem CV(a:Array Bool)(i:Nat):(a.push false).getD i false=a.getD i false:=by by_cases b:i<a.size;{simp[yU,b,Nat.ne_of_lt b]};{by_cases c:i=a.size;{subst c;simp};{have:a.size+1<=i:=ae;simp[GE,b,this]}}
theorem Wm(a:Array Bool):(a.push false).getD a.size true=false:=am
theorem xi(a:Array Bool){i:Nat}(b:i<a.size):(a.push false).getD i true=a.getD i true:=by simp[yU,b,Nat.ne_of_lt b]
theorem CW{a:Array Bool}(c:a.size=n){i:Nat}(ao:i<n):i∈Region.ready .any l.toArray (a.push false) ↔ i∈Region.ready .any (l.take n).toArray a:=by
 rw[mW,mW,xi a ae];have b:(l.take n).toArray[i]? = l.toArray[i]?:=by simp[lU,ao]
 simp only[b,CV]
include hlen hgd in
theorem Wn{a:Array Bool}(q:a.size=n)(k:Region.ready .any (l.take n).toArray a=[]):∀i,i<n->a.getD i true=true:=by
 intro i;induction i using Nat.strongRecOn with
 | _ i p =>{
 intro ao;cases h:a.getD i true with
 | true=>rfl
 | false =>{obtain⟨o,c⟩:∃o,l[i]? = some o:=⟨l[i],dV ae⟩;have:i∈Region.ready .any (l.take n).toArray a:=mW.2 ⟨h,o,by simp[lU,ao,c],fun e j _=>by{have d:=(hgd i o c).2 e j;have b:=p e.on d ae;have g:e.on<a.size:=ae;simp[g]at b ⊢; exact b}⟩;rw[k]at this;cases this}}
include hlen hgd hsk in
theorem Wo:∀(f:Nat) (a:Array Bool) (c:Act) (d:World),a.size=n->HeadInv .any l.toArray n (a.push false)->wpAny P .any (l.take n).toArray (ku P l.toArray Q n) f a c d->wpAny P .any l.toArray Q (f+1) (a.push false) c d:=by
 have E:Region.chainB .any l.toArray n=true:=by{unfold Region.chainB;rw[kM];intro O L;have:=vG.1 L;simp at this;simp;left;omega};have F:∀(a:Array Bool),a.size=n->(∀i,i<n->a.getD i true=true)->n∈Region.ready .any l.toArray (a.push false):=fun a g p=>by{obtain⟨o,j⟩:∃o,l[n]? = some o:=⟨l[n],dV ae⟩;refine mW.2 ⟨by subst g;simp,o,by simpa using j,fun e J _=>?_⟩;have h:=(hgd n o j).2 e J;have h2:=p e.on h;have H:e.on<a.size:=ae;rw[CV];simp[H]at h2 ⊢; exact h2};have G:∀(f:Nat) (a:Array Bool) (c:Act) (d:World),a.size=n->(∀i,i<n->a.getD i true=true)->wpOp P l.toArray Q n (Q .normal) c d->wpOp P l.toArray Q n (wpAny P .any l.toArray Q f ((a.push false).setIfInBounds n true)) c d:=fun f a c d g p b=>by{
 refine wpOp_mono (fun y C w=>wpAny_done ?_ w f) b;refine GP.2 fun i ao=>?_;obtain⟨h,o,h2,_⟩:=mW.1 ao;have r:i<n+1:=by have:=(bn.1 h2).1;simpa [hlen]using this
 by_cases k:i=n;{subst k;have:i<((a.push false).setIfInBounds i true).size:=aA;simp[g]at h};{rw[getD_set_ne true ae,xi a ae,p i ae]at h;cases h}};have B:∀(f:Nat) (a:Array Bool) (c:Act) (d:World),a.size=n->HeadInv .any l.toArray n (a.push false)->(Region.ready .any (l.take n).toArray a=[]->wpOp P l.toArray Q n (Q .normal) c d)->(Region.ready .any l.toArray (a.push false)=[]->Q .normal c d)/\(n∈Region.ready .any l.toArray (a.push false)->wpOp P l.toArray Q n (wpAny P .any l.toArray Q f ((a.push false).setIfInBounds n true)) c d):=fun f a c d g q K=>by{
 have D:(∀i,i<n->i ∉ Region.ready .any l.toArray (a.push false))->Region.ready .any (l.take n).toArray a=[]:=fun b=>by{
 refine GP.2 fun i ao=>?_;obtain⟨_,o,h2,_⟩:=mW.1 ao;have r:i<n:=by have:=(bn.1 h2).1;exact nh
 exact b i r ((CW g r).2 ao)};refine⟨fun t=>?_,fun k=>?_⟩;{have h:=D (fun i _ ao=>by rw[t]at ao;cases ao);have:=F a g (Wn hlen hgd g h);rw[t]at this;cases this};{
 have p:∀i,i<n->a.getD i true=true:=fun i ao=>by{
 cases I:a.getD i true with
 | true=>rfl
 | false=>exact absurd k (tail_waits hsk E (by simp[hlen]) q (n-i) i rfl ao (by rw[xi a ae];exact I) n av)};have h:=D (fun i ao x=>by{have:=(mW.1 x).1;rw[xi a ae,p i ao]at this;cases this});exact G f a c d g p (K h)}};intro f;induction f with
 | zero =>{intro a c d g q b;have j:=B 0 a c d g q (fun _=>(b.2).elim (fun b=>b.2) (fun b=>absurd rfl b.1));refine⟨j.1,fun i ao=>?_⟩;have r:i<n+1:=by{obtain⟨_,o,h2,_⟩:=mW.1 ao;have:=(bn.1 h2).1;simpa [hlen]using this};by_cases k:i=n;{subst k;exact j.2 ao};{have:=(CW g (show i<n by omega)).1 ao;rw[b.1]at this;cases this}}
 | succ f M =>{
 intro a c d g q b;have j:=B (f+1) a c d g q (fun t=>(b.1 t).elim (fun b=>b.2) (fun b=>absurd rfl b.1));refine⟨j.1,fun i ao=>?_⟩;obtain⟨_,o,h2,_⟩:=mW.1 ao;have r:i<n+1:=by{have:=(bn.1 h2).1;simpa [hlen]using this};by_cases k:i=n;{subst k;exact j.2 ao};{
 have u:i<n:=ae;have A:l[i]? = some o:=sA
 have x:=(CW g u).1 ao;have e:(a.push false).setIfInBounds i true=(a.setIfInBounds i true).push false:=by{apply Array.ext_getElem?;intro N;by_cases z:i=N;{subst z;rw[GG aA,Array.getElem?_push_lt aA];simp};{simp[yU,yV,z]}};refine Wl u A (hgd i o A).1 (fun y C w=>?_) (b.2 i x);rw[e];refine M (a.setIfInBounds i true) y C (by simp[g]) ?_ w;rw[<- e];exact q.set ao u}}
end
theorem Pf{e:Array Oper}{n:Nat}{d:Option Nat}{v:Value}(g:∀b a c,Q (.panic b) (a.put d v) c->Q (.panic b) a c):∀b a c,ku P e Q n (.panic b) (a.put d v) c->ku P e Q n (.panic b) a c:=fun b a c h=>.inr ⟨am,g b a c (t6 h am)⟩
theorem tS{b:Array Oper}{n:Nat}{o:Oper}{a:Act}{c:World}(e:b[n]? = some o)(hg:o.guard=none)(h:o.wp P a c (Q .normal) Q):ku P b Q n .normal a c:=by
 refine .inl ⟨rfl,?_⟩;have g:∀d,Region.wanted o d=true:=fun d=>Cj
 unfold wpOp;simp only[e,g,gC];exact iG
theorem BP{P:Prop}(h:P:=by subst eL eA;exact MB ao hs hf hr (Pf hQ) hy hS h):P:=h
theorem c6{e:Region.Mode}{a:Array Oper}{l:List Oper}{n:Nat}(i:Nat){g:Oper}{v:Value}{p:Nat}{d:Array Bool}{c:Act}{b:World}{k:Array Bool}{j:Act}(hS:S b)(h:wpAnyH P e a (ku P l.toArray Q n) S p k j b)(ao:a[i]? = some g:=by rfl) (hs:Region.noSelect a=true:=by kernel_rfl) (hf:Region.free e a d i=true:=by kernel_rfl) (hr:(Region.ready e a d).contains i=true:=by kernel_rfl)(hQ:∀o c b,Q (.panic o) (c.put g.dst v) b->Q (.panic o) c b:=by exact fun _ _ _ h=>h) (hy:YieldsIf P a S g v c:=by exact Or.inl ⟨dO,by intro b q;obtain⟨r,t,u,w,x⟩:=q;go_simp;first|done|with_reducible rfl⟩) (eL:d.setIfInBounds i true=k:=by first|(simp only[List.setIfInBounds_toArray,List.set_cons_zero,List.set_cons_succ];rfl)|simp only[List.setIfInBounds_toArray,List.set_cons_zero,List.set_cons_succ]|rfl) (eA:c.put g.dst v=j:=by first|(simp only[Act.put,List.setIfInBounds_toArray,List.set_cons_zero,List.set_cons_succ];rfl)|simp only[Act.put,List.setIfInBounds_toArray,List.set_cons_zero,List.set_cons_succ]|rfl):wpAnyH P e a (ku P l.toArray Q n) S (p+1) d c b:=by exact BP
theorem kv{e:Region.Mode}{a:Array Oper}{l:List Oper}{n:Nat}(i:Nat){g:Oper}{v:Value}{p:Nat}{d:Array Bool}{c:Act}{b:World}{k:Array Bool}{j:Act}(hS:S b)(h:wpAnyH P e a (ku P l.toArray Q n) S p k j b)(ao:a[i]? = some g:=by rfl) (hs:Region.noSelect a=true:=by kernel_rfl) (hf:Region.free e a d i=true:=by kernel_rfl) (hr:(Region.ready e a d).contains i=true:=by kernel_rfl)(hQ:∀o c b,Q (.panic o) (c.put g.dst v) b->Q (.panic o) c b:=by exact fun _ _ _ h=>h) (hy:YieldsIf P a S g v c:=by exact Or.inl ⟨dO,by intro b q;obtain⟨r,t,u⟩:=q;go_simp;first|done|with_reducible rfl⟩) (eL:d.setIfInBounds i true=k:=by first|(simp only[List.setIfInBounds_toArray,List.set_cons_zero,List.set_cons_succ];rfl)|simp only[List.setIfInBounds_toArray,List.set_cons_zero,List.set_cons_succ]|rfl) (eA:c.put g.dst v=j:=by first|(simp only[Act.put,List.setIfInBounds_toArray,List.set_cons_zero,List.set_cons_succ];rfl)|simp only[Act.put,List.setIfInBounds_toArray,List.set_cons_zero,List.set_cons_succ]|rfl):wpAnyH P e a (ku P l.toArray Q n) S (p+1) d c b:=by exact BP
theorem fW{e:Region.Mode}{a:Array Oper}{l:List Oper}{n:Nat}(i:Nat){g:Oper}{v:Value}{p:Nat}{d:Array Bool}{c:Act}{b:World}{k:Array Bool}{j:Act}(hS:S b)(h:wpAnyH P e a (ku P l.toArray Q n) S p k j b)(ao:a[i]? = some g:=by rfl) (hs:Region.noSelect a=true:=by kernel_rfl) (hf:Region.free e a d i=true:=by kernel_rfl) (hr:(Region.ready e a d).contains i=true:=by kernel_rfl)(hQ:∀o c b,Q (.panic o) (c.put g.dst v) b->Q (.panic o) c b:=by exact fun _ _ _ h=>h) (hy:YieldsIf P a S g v c:=by exact Or.inl ⟨dO,by intro b q;obtain⟨r,t⟩:=q;go_simp;first|done|with_reducible rfl⟩) (eL:d.setIfInBounds i true=k:=by first|(simp only[List.setIfInBounds_toArray,List.set_cons_zero,List.set_cons_succ];rfl)|simp only[List.setIfInBounds_toArray,List.set_cons_zero,List.set_cons_succ]|rfl) (eA:c.put g.dst v=j:=by first|(simp only[Act.put,List.setIfInBounds_toArray,List.set_cons_zero,List.set_cons_succ];rfl)|simp only[Act.put,List.setIfInBounds_toArray,List.set_cons_zero,List.set_cons_succ]|rfl):wpAnyH P e a (ku P l.toArray Q n) S (p+1) d c b:=by exact BP
theorem tT{u:Nat}{l:List Oper}{b:Act}{a:World}(n:Nat)(t:P.follows .mixedOrders=true)(c:Kv l n=true)(q:S a.drew)(k:S a.drew->wpAnyH P .any (l.take n).toArray (ku P l.toArray Q n) S n (Array.replicate n false) b a.drew):(Code.region u l.toArray true).wp P Q b a:=by
 unfold Kv at c;simp only[bW,jy]at c;obtain⟨⟨hlen,hsk⟩,r⟩:=c;have hgd:∀(i:Nat) (o:Oper),l[i]? = some o->o.guard=none/\∀e∈o.after,e.on<i:=fun i o h=>by{have ao:=(fy.1 h).1;have:=kM.1 r i (vG.2 ae);rw[h]at this;simp only[bW,Option.isNone_iff_eq_none,Array.all_eq_true',jy]at this;exact this};refine wp_region_any t ?_;have j:l.toArray.size=n+1:=by simp[hlen]
 rw[j,h_];refine Wo hlen hgd hsk n (Array.replicate n false) b _ am ⟨by simp[hlen],fun y z _ g=>?_,fun w x p=>?_⟩ (wpAny_of_held _ _ _ _ (k q));{rw[CV,getD_replicate_false]at g;cases g};{
 have:w=n:=by simp[hlen]at p;omega
 rw[this];have d:=Wm (Array.replicate n false);rw[Array.size_replicate]at d;exact d}
end
end
theorem Wp{d:World}{a:Nat}{v:Value}{b:List kR}(c:kq d a v b):CE d a v (b.map fa):=by unfold kq at c;unfold CE;rw[bD,fT];exact c
theorem Wq(a:aj)(b:List Nat)(r:a.owner.length<=300)(c:a.type=1)(p:a.aI<4294967296)(g:a.data.length<=3000)(t:tP a.data b)(q:gM b≠[])(h:(gM b).length<=1000)(i:∀f∈gM b,f.ry):qD a ((gM b).map fa) where
 own:=r
 typ:=by rw[c];exact⟨rfl,ba⟩
 aI:=p
 data:=fun d k=>by
  refine(Sv a b d k c g t).mono ?_;rintro e z ⟨⟨v,rfl,u⟩,l⟩;exact⟨⟨v,rfl,Wp u⟩,l⟩
 ok:=fun y x w _ _ _ f n=>by
  obtain⟨j,o,rfl⟩:=fz.1 n;exact iR (i j o) _ _ _
 ne:=by simpa using q
 few:=by simpa using h
theorem Wr(a:aj)(z:a.owner.length<=300)(n:a.type=6)(u:a.aI<4294967296)(q:a.data.length<=3000)(b c d e:ah)(g h:Nat)(A:Cy 32 (ai a.data)=[ai b,ai c,ai d,ai e])(o:Lib.parseUintB 64 d=.ok g)(B:Lib.parseUintB 64 e=.ok h)(w:b.length<=300)(r:c.length<=300)(x:d.length<=3000)(y:e.length<=3000):qD a (mQ b c g h) where
 own:=z
 typ:=by rw[n];exact⟨rfl,ba⟩
 aI:=u
 data:=fun p t=>Sy a p t n q b c d e g h A o B x y
 ok:=fun E D C i j l f k=>by
  simp only[mQ,co,lE,kd]at k;rcases k with rfl|rfl|rfl|rfl|rfl|rfl|rfl
  ·exact rM _ w _ _ _ i j l
  ·exact rM _ r _ _ _ i j l
  ·exact iR (q9 _ (Nat.mod_lt _ ae)) _ _ _
  ·exact iR (q9 _ ae) _ _ _
  ·exact iR (q9 _ ae) _ _ _
  ·exact iR (q9 _ ae) _ _ _
  ·exact iR (q9 _ (Nat.mod_lt _ ae)) _ _ _
 ne:=by simp[mQ]
 few:=by simp[mQ]
theorem Ws(a:aj)(i:a.owner.length<=300)(c:a.type=16)(h:a.aI<4294967296)(e:a.data.length<=3000):qD a (n6 a.data) where
 own:=i
 typ:=by rw[c];exact⟨rfl,ba⟩
 aI:=h
 data:=fun d g=>Sw a d g c e
 ok:=fun p k j l n o f b=>by
  simp only[n6,co,lE,kd]at b;rcases b with rfl|rfl
  ·exact iR (mj _) _ _ _
  ·exact iR (fu _) _ _ _
 ne:=by simp[n6]
 few:=by simp[n6]
theorem Wt(a:aj)(r:a.owner.length<=300)(g:a.type=15)(o:a.aI<4294967296)(i:a.data.length<=3000)(b c:ah)(d:Nat)(t:Cy 32 (ai a.data)=[ai b,ai c])(u:Lib.parseUintB 64 b=.ok d)(p:b.length<=3000)(j:c.length<=300):qD a (mR d c) where
 own:=r
 typ:=by rw[g];exact⟨rfl,ba⟩
 aI:=o
 data:=fun h k=>Sx a h k g i b c d t u p
 ok:=fun y x w l n q f e=>by
  simp only[mR,co,lE,kd]at e;rcases e with rfl|rfl
  ·exact iR (gG _ (Nat.mod_lt _ ae)) _ _ _
  ·exact rM _ j _ _ _ l n q
 ne:=by simp[mR]
 few:=by simp[mR]
theorem Kw(b:aj)(l:b.owner.length<=300)(a:b.type=2\/b.type=5)(j:b.aI<4294967296)(g:b.data.length<=300):qD b [lp b.data] where
 own:=l
 typ:=by rcases a with a|a<;>rw[a]<;>exact⟨rfl,ba⟩
 aI:=j
 data:=fun c d=>by
  rcases a with a|a
  ·exact If b c d 2 a ba ba ba ba ae
  ·exact If b c d 5 a ba ba ba ba ae
 ok:=fun p o n h i k f e=>by
  simp only[co,lE,kd]at e;subst e;exact rM _ g _ _ _ h i k
 ne:=am
 few:=am
end Go.Proofs.YtkkpahmoljiepaaGreatDoor
