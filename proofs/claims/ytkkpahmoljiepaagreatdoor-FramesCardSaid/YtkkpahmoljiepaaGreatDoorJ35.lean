import Derived.Test.YtkkpahmoljiepaaGreatDoorJ33
import Derived.HandedShaped
import Derived.Lay
import Derived.Stop.Joined
import Derived.MakeChecks
import Derived.Test.YtkkpahmoljiepaaGreatDoorJ34
set_option maxRecDepth 1000000
set_option maxHeartbeats 12800000
set_option linter.unusedSimpArgs false
set_option linter.unusedVariables false
namespace Go.Proofs.YtkkpahmoljiepaaGreatDoor
open Go.RowKit Go.Proofs.Tryz
def hW(b a:bL):Bool:=decide (b.2.2.2=a.2.2.2/\b.2.2.1.type=a.2.2.1.type)
def m7:Nat->List bL->List (List bL)
 | 0,_=>[]
 | _+1,[]=>[]
 | f+1,a::b=>(a::b.takeWhile (hW a))::m7 f (b.dropWhile (hW a))
theorem NP(f:Nat):m7 f []=[]:=by cases f<;>rfl
theorem Dj:∀(f:Nat) (c:List bL) (d:List (List bL)) (a:bL) (b:List bL),c.length<=f->c.foldl hD (d++[a::b])=d++[a::(b++c.takeWhile (hW a))]++m7 f (c.dropWhile (hW a))
 | f,[],d,a,b,_=>by simp[NP]
 | f+1,e::c,d,a,b,i=>by
  have j:c.length<=f:=by simpa using i
  rw[sT];by_cases h:a.2.2.2=e.2.2.2/\a.2.2.1.type=e.2.2.1.type;{have g:hW a e=true:=eC h;rw[K5 d a b e h,dF,Dj (f+1) c d a (b++[e]) ae,tk g,List.dropWhile_cons_of_pos g,c_ b [e]];rfl};{
  have g:¬hW a e=true:=by unfold hW;rw[eD h];simp
  rw[K6 d a b e h,Dj f c (d++[a::b]) e [] j,vK g,List.dropWhile_cons_of_neg g,eu,dJ];rw[m7,c_ (d++[a::b])];rfl}
 termination_by f c=>(f,c.length)
theorem LQ(a:List bL):dN a=m7 a.length a:=by
 cases a with
 | nil=>rfl
 | cons b a =>{unfold dN;rw[sT,V4];have:=Dj a.length a [] b [] av;rw[dJ]at this;rw[this];rfl}
theorem LR{α:Type}{p q:α->Bool}: ∀ {l:List α},(∀a∈l,p a=q a)->l.takeWhile p=l.takeWhile q/\l.dropWhile p=l.dropWhile q
 | [],_=>⟨rfl,rfl⟩
 | d::l,b=>by have c:=LR (p:=p) (q:=q) (l:=l) (fun a g=>b a (by simp[g]));have e:=b d am;simp only[List.takeWhile_cons,List.dropWhile_cons,e,c.1,c.2,and_self]
theorem LS:∀(f e:Nat) (c:List bL),(∀a∈c,∀b∈c,hW a b=bH a.2.2.1 b.2.2.1)->(fd bH f e (c.map (·.2.2.1))).map (·.2)=(m7 f c).map (List.map (·.2.2.1))
 | 0,_,_,_=>rfl
 | _+1,_,[],_=>rfl
 | f+1,e,a::g,d=>by have o:∀b∈g,hW a b=(bH a.2.2.1 ∘ fun q:bL=>q.2.2.1) b:=fun b p=>d a am b (by simp[p]);obtain⟨j,k⟩:=LR o;rw[fl,fd,m7,fl,fl,List.takeWhile_map,List.dropWhile_map,<- j,<- k];rw[LS f _ (g.dropWhile (hW a)) (fun h l i n=>d h (by simp[(GO _).subset l]) i (by simp[(GO _).subset n]))];rfl
theorem Dm(a:List bL)(d:∀b∈a,∀c∈a,hW b c=bH b.2.2.1 c.2.2.1):(be bH (a.map (·.2.2.1))).map (·.2)=(dN a).map (List.map (·.2.2.1)):=by unfold be;rw[LS _ 0 a d,LQ,bD]
theorem NQ{d:List ah}{l:Bool}{b c:ah}{j k:List ah}(h:j=if l=false/\aY b=cO d then d else aY b)(i:k=if l=false/\aY c=cO d then d else aY c)(n:cO (aY b)=aY b)(o:cO (aY c)=aY c):j=k ↔ b=c:=by constructor;{intro a;subst h i;refine rD ?_;split at a;{rename_i g;split at a;{rename_i e;rw[g.2,e.2]};{rw[g.2,a,o]}};{split at a;{rename_i e;rw[e.2,<- a,n]};{exact a}}};{intro a;subst a;rw[h,i]}
theorem LT{a b:ah}{c d:List ah}(e:c=aY a)(g:d=aY b):c=d ↔ a=b:=by rw[e,g];exact JS
theorem Dn{a b:bL}(c:a.2.2.2=b.2.2.2 ↔ a.2.2.1.owner=b.2.2.1.owner):hW a b=bH a.2.2.1 b.2.2.1:=by unfold hW bH;rw[i0,qL,bW,dE,dE,c]
theorem LU{g:List ah}{e:Nat}: ∀ {b:ey} (d:ey),e7 g b=some e->e7 g (b++d)=some e
 | [],_,a=>by cases a
 | h::b,d,a=>by rw[dF,e7];rw[e7]at a;split;{rename_i c;rw[ay c]at a;exact a};{rename_i c;rw[ar c]at a;exact LU d a}
theorem Do:∀(i:List ah) (b:ah) (a:ey),∃g,(bd i b a).2=a++g
 | [],_,a=>⟨[],by simp[bd]⟩
 | c::d,b,a=>by
  cases e:e7 (cO (c::d)) a with
  | some j=>rw[oD e];exact⟨[],am⟩
  | none =>{rw[lx e];obtain⟨g,h⟩:=Do d (b++(UInt8.ofNat c.length::c)) (a++[(cO (c::d),b.length)]);exact⟨_,by rw[h,c_]⟩}
theorem Dp:∀(j:mc) (b:ah) (a:ey),∃d,(b5 j b a).2=a++d
 | [],_,a=>⟨[],by simp[b5]⟩
 | .inl g::c,b,a=>Dp c (b++g) a
 | .inr e::c,b,a=>by obtain⟨d,h⟩:=Do (aC 46 e) b a;obtain⟨v,i⟩:=Dp c (bd (aC 46 e) b a).1 (bd (aC 46 e) b a).2;exact⟨d++v,by rw[b5,i,h,c_]⟩
theorem Np(d:aj)(c:List ah)(b:ah)(a:ey):∃e,(gI d c b a).2=a++e:=by obtain⟨e,g⟩:=Do c b a;obtain⟨v,h⟩:=Dp (ck d) (fk d (bd c b a).1) (bd c b a).2;exact⟨e++v,by show(b5 (ck d) (fk d (bd c b a).1) (bd c b a).2).2=_;rw[h,g,c_]⟩
structure Ge(T:ah)(x:bL):Prop where
 wr:Lp x.2.2.1
 lab:(x.2.2.1.owner=T/\cO x.2.2.2=aY T)\/(xE x.2.2.1.owner/\x.2.2.2=aC 46 x.2.2.1.owner)
theorem LV{j k T:ah}{n:Nat}(q:j.length=k.length)(o:T≠[]):∀(a:List bL) (e:ah) (es:ey) (d:ah) (c:cY),(∀b∈a,Ge T b)->lY j k e es d c->kC c T=some n->lY j k (eV a e es).1 (eV a e es).2 (bB dB (a.map (·.2.2.1)) d c).1 (bB dB (a.map (·.2.2.1)) d c).2/\kC (bB dB (a.map (·.2.2.1)) d c).2 T=some n
 | [],_,_,_,_,_,h,i=>⟨h,i⟩
 | b::a,e,es,d,c,r,h,i=>by have p:=r b am;have l:=Wg q p.wr (ls:=b.2.2.2) (by{rcases p.lab with⟨g,t⟩|g;{exact .inl ⟨n,by rw[g];exact i,by rw[g];exact o,by rw[g];exact t⟩};{exact .inr g}}) h;have x:kC (eN b.2.2.1 (dB b.2.2.1) d c).2 T=some n:=by{rw[<- l.find T];obtain⟨y,u⟩:=Np b.2.2.1 b.2.2.2 e es;rw[u];exact LU y (by rw[h.find T];exact i)};exact LV q o a _ _ _ _ (fun z w=>r z (by simp[w])) l x
theorem Nq{b c:ah}(g:b.length=c.length)(a:ah)(es:ey)(d:ah)(h:cY)(e:lY b c a es d h):a.length=d.length:=by obtain⟨i,rfl,rfl⟩:=e.same;rw[a6,a6,g]
structure U1(h1 h2 T:ah)(n o1:Nat)(st:r9)(sf:my):Prop where
 eq:lY h1 h2 st.S st.es sf.S.1 sf.S.2
 ab0:T≠[]->kC sf.S.2 T=some n
 cs:∃a b c,sf.cs=[a,b,c]/\st.cs=[1,a,b,c+o1]
 full:st.full=sf.full
theorem xK{l o T:ah}{n o1 most ol i:Nat}(w:l.length=o.length)(ao:i<3):∀(e:List (List bL)) (a:r9) (c:my),(∀b∈e,∀g∈b,Ge T g/\T≠[])->U1 l o T n o1 a c ->
  U1 l o T n o1 (hH most ol i e a) (ex ((most:Int)-(ol:Int)) dB i (e.map (List.map (·.2.2.1))) c)/\(hH most ol i e a).tc=(if a.full=false/\(hH most ol i e a).full=true then decide (i<2)else a.tc)
 | [],a,c,_,d=>⟨d,by
  rw[show hH most ol i [] a=a from rfl];split
  ·rename_i t;rw[t.1]at t;exact absurd t.2 am
  ·rfl⟩
 | b::e,a,c,x,d=>by
  by_cases p:a.full=true;{rw[CL p,wi (d.full ▸ p)];exact⟨d,by rw[ar (by rw[p];simp)]⟩};{
  have q:a.full=false:=by simpa using p
  have y:=d.full ▸ q;have u:lY l o (eV b a.S a.es).1 (eV b a.S a.es).2 (bB dB (b.map (·.2.2.1)) c.S.1 c.S.2).1 (bB dB (b.map (·.2.2.1)) c.S.1 c.S.2).2/\(T≠[]->kC (bB dB (b.map (·.2.2.1)) c.S.1 c.S.2).2 T=some n):=by{
  by_cases r:T=[];{
  cases b with
  | nil=>exact⟨d.eq,d.ab0⟩
  | cons g b=>exact absurd r (x (g::b) am g am).2};{have:=LV w r b a.S a.es c.S.1 c.S.2 (fun g E=>(x b am g E).1) d.eq (d.ab0 r);exact⟨this.1,fun _=>this.2⟩}};have G:=Nq w _ _ _ _ u.1;rw[fl];by_cases z:most<(eV b a.S a.es).1.length+ol;{rw[KO q z,A6 y ae];exact⟨⟨d.eq,d.ab0,d.cs,rfl⟩,by rw[ay ⟨q,rfl⟩]⟩};{
  rw[KP q z,A7 y ae];obtain⟨h,j,k,B,C⟩:=d.cs;have A:=xK (T:=T) (n:=n) (o1:=o1) (most:=most) (ol:=ol) (i:=i) w ao e { a with S:=(eV b a.S a.es).1,es:=(eV b a.S a.es).2,cs:=a.cs.set (i+1) (a.cs.getD (i+1) 0+b.length) } { c with S:=bB dB (b.map (·.2.2.1)) c.S.1 c.S.2,cs:=c.cs.set i (c.cs.getD i 0+(b.map (·.2.2.1)).length) } (fun D F=>x D (by simp[F])) ⟨u.1,u.2,by{
  rw[B,C,bD];match i,ao with
  | 0,_=>exact⟨h+b.length,j,k,rfl,rfl⟩
  | 1,_=>exact⟨h,j+b.length,k,rfl,rfl⟩
  | 2,_=>exact⟨h,j,k+b.length,rfl,by show [1,h,j,k+o1+b.length]=_;rw[Nat.add_right_comm]⟩},d.full⟩
  exact⟨A.1,A.2⟩}}
theorem xL{size:Int}{aM:aj->List eF}{i:Nat}: ∀(c:List (List aj)) (a:my),a.full=false->i<a.cs.length->(∀b∈c,b≠[])->(∀d,d≠i->(ex size aM i c a).cs.getD d 0=a.cs.getD d 0)/\(if(ex size aM i c a).full=true then(ex size aM i c a).cs.getD i 0<a.cs.getD i 0+(c.map (·.length)).sum else(ex size aM i c a).cs.getD i 0=a.cs.getD i 0+(c.map (·.length)).sum)
 | [],a,e,_,_=>⟨fun _ _=>rfl,by
  rw[show ex size aM i [] a=a from rfl,ar (by rw[e];simp)];rfl⟩
 | b::c,a,e,ao,l=>by have t:=nT.2 (l b am);by_cases k:size<((bB aM b a.S.1 a.S.2).1.length:Int);{rw[A6 e k];exact⟨fun _ _=>rfl,by rw[ay rfl];simp only[fl,tj];omega⟩};{rw[A7 e k];obtain⟨q,h⟩:=xL c { a with S:=bB aM b a.S.1 a.S.2,cs:=a.cs.set i (a.cs.getD i 0+b.length) } e (by simpa using ao) (fun r p=>l r (by simp[p]));have o:(a.cs.set i (a.cs.getD i 0+b.length)).getD i 0=a.cs.getD i 0+b.length:=by{rw[fh,zE ao];rfl};refine⟨fun d j=>(q d j).trans ?_,?_⟩;{show(a.cs.set i (a.cs.getD i 0+b.length)).getD d 0=_;rw[fh,List.getElem?_set_ne (fun n=>j n.symm),<- fh]};{simp only[o]at h;simp only[fl,tj];split;{rename_i g;rw[ay g]at h;omega};{rename_i g;rw[ar g]at h;omega}}}
theorem LW:∀(f:Nat) (c:List bL),∀b∈m7 f c,b≠[]
 | 0,_,_,a=>by cases a
 | _+1,[],_,a=>by cases a
 | f+1,e::d,b,a=>by rw[m7]at a;rcases co.1 a with a|a;{rw[a];simp};{exact LW f _ b a}
theorem Nr{c:List bL}{a:List bL}(b:a∈dN c):a≠[]:=by rw[LQ]at b;exact LW _ _ a b
theorem LX(a:List bL):(((dN a).map (List.map (·.2.2.1))).map (·.length)).sum=a.length:=by have b:=bP List.length (DC a);rw[List.length_flatten]at b;rw[<- b,fT];congr 1;exact hN fun c _=>by simp
abbrev kz(a:List bL):List aj:=a.map (·.2.2.1)
theorem Ns{h1 h2 T:ah}{n o1 most ol:Nat}(A:h1.length=h2.length)(c b d:List bL)(aj:∀a∈c,∀o∈c,hW a o=bH a.2.2.1 o.2.2.1)(V:∀a∈b,∀o∈b,hW a o=bH a.2.2.1 o.2.2.1)(ak:∀a∈d,∀o∈d,hW a o=bH a.2.2.1 o.2.2.1)(C:∀a∈c++(b++d),Ge T a/\T≠[]) (q:r9) (k:my) (N:U1 h1 h2 T n o1 q k) (G:q.full=false) (am:q.tc=false) (u:k.cs=[0,0,0]):U1 h1 h2 T n o1 (lj most ol 0 [c,b,d] q) (gy ((most:Int)-(ol:Int)) dB 0 [kz c,kz b,kz d] k)/\(lj most ol 0 [c,b,d] q).tc=sa (gy ((most:Int)-(ol:Int)) dB 0 [kz c,kz b,kz d] k) (kz c) (kz b):=by
 simp only[lj,gy,cT,Nat.reduceAdd];rw[Dm c aj,Dm b V,Dm d ak];have W:∀g∈dN c,∀a∈g,Ge T a/\T≠[]:=fun g p a t=>C a (by simp[ul c g p a t]);have Z:∀g∈dN b,∀a∈g,Ge T a/\T≠[]:=fun g p a t=>C a (by simp[ul b g p a t]);have U:∀g∈dN d,∀a∈g,Ge T a/\T≠[]:=fun g p a t=>C a (by simp[ul d g p a t]);obtain⟨P,R⟩:=xK (T:=T) (n:=n) (o1:=o1) (most:=most) (ol:=ol) (i:=0) A ae (dN c) q k W N;have X:=N.full ▸ G;have B:∀(S:List bL),∀g∈(dN S).map (List.map (·.2.2.1)),g≠[]:=fun S g p=>by{obtain⟨aq,h1,rfl⟩:=fz.1 p;intro ab;exact Nr h1 (List.map_eq_nil_iff.1 ab)};have ap:=xL (size:=(most:Int)-(ol:Int)) (aM:=dB) (i:=0) _ k X (by rw[u];simp) (B c);have O:(ex ((most:Int)-(ol:Int)) dB 0 ((dN c).map (List.map (·.2.2.1))) k).cs.length=3:=by rw[xU,u];rfl
 rw[LX]at ap;generalize av:hH most ol 0 (dN c) q=F at *;generalize ao:ex ((most:Int)-(ol:Int)) dB 0 ((dN c).map (List.map (·.2.2.1))) k=j at *;obtain⟨Q,D⟩:=xK (T:=T) (n:=n) (o1:=o1) (most:=most) (ol:=ol) (i:=1) A ae (dN b) F j Z P;have I:=fun h=>xL (size:=(most:Int)-(ol:Int)) (aM:=dB) (i:=1) _ j h (by rw[O];omega) (B b);have ag:(ex ((most:Int)-(ol:Int)) dB 1 ((dN b).map (List.map (·.2.2.1))) j).cs.length=3:=by rw[xU,O]
 have ad:j.full=true->ex ((most:Int)-(ol:Int)) dB 1 ((dN b).map (List.map (·.2.2.1))) j=j:=fun h=>wi h;rw[LX]at I;generalize aw:hH most ol 1 (dN b) F=z at *;generalize au:ex ((most:Int)-(ol:Int)) dB 1 ((dN b).map (List.map (·.2.2.1))) j=e at *;obtain⟨ai,E⟩:=xK (T:=T) (n:=n) (o1:=o1) (most:=most) (ol:=ol) (i:=2) A ae (dN d) z e U Q;have J:=fun h=>(xL (size:=(most:Int)-(ol:Int)) (aM:=dB) (i:=2) _ e h (by rw[ag];omega) (B d)).1;have af:e.full=true->ex ((most:Int)-(ol:Int)) dB 2 ((dN d).map (List.map (·.2.2.1))) e=e:=fun h=>wi h;generalize ax:hH most ol 2 (dN d) z=an at *;generalize az:ex ((most:Int)-(ol:Int)) dB 2 ((dN d).map (List.map (·.2.2.1))) e=y at *;refine⟨ai,?_⟩;have L:k.cs.getD 0 0=0:=by rw[u];rfl
 have ac:k.cs.getD 1 0=0:=by rw[u];rfl
 have M:y.cs.getD 0 0=e.cs.getD 0 0/\y.cs.getD 1 0=e.cs.getD 1 0:=by{
 cases h:e.full with
 | true=>rw[af h];exact dX
 | false=>exact⟨J h 0 ae,J h 1 ae⟩};have hcut:sa y (kz c) (kz b)=(decide (e.cs.getD 0 0<c.length)||decide (e.cs.getD 1 0<b.length)):=by{unfold sa;rw[M.1,M.2,bD,bD];simp only[Int.ofNat_lt]};rw[hcut];have w:=P.full;have x:=Q.full;cases l:j.full with
 | true =>{have:=ap.2;rw[ay l,L]at this;rw[ad l]at *;rw[eC (show j.cs.getD 0 0<c.length by omega),uU];rw[E,ar (by rw[x,l];simp),D,ar (by rw[w,l];simp),R,ay ⟨G,by rw[w,l]⟩];rfl}
 | false =>{
 obtain⟨aa,K⟩:=I l;have Y:=ap.2;rw[ar (by rw[l];simp),L]at Y;have H:=(ap.1 1 ae).trans ac;rw[aa 0 ae,eD (show ¬j.cs.getD 0 0<c.length by omega),mF];cases r:e.full with
 | true =>{rw[ay r,H]at K;rw[eC (show e.cs.getD 1 0<b.length by omega)];rw[E,ar (by rw[x,r];simp),D,ay ⟨by rw[w,l],by rw[x,r]⟩];rfl}
 | false =>{
 rw[ar (by rw[r];simp),H]at K;rw[eD (show ¬e.cs.getD 1 0<b.length by omega),E];have al:z.tc=false:=by rw[D,ar (by rw[x,r];simp),R,ar (by rw[w,l];simp),am]
 split;{rfl};{exact al}}}
def oZ:List ah->Nat->ey
 | [],_=>[]
 | c::b,a=>(cO (c::b),a)::oZ b (a+1+c.length)
theorem LY{d:List ah}: ∀ {b:ey},(∀a∈b,a.1≠d)->e7 d b=none
 | [],_=>rfl
 | a::b,c=>by rw[e7,ar (fun e=>c a am e.1)];exact LY fun h g=>c h (by simp[g])
theorem LZ:∀(e:List ah) (c:ah) (b:ey),(∀d∈b,e.length<d.1.length)->(bd e c b).2=b++oZ e c.length
 | [],_,b,_=>by simp[bd,oZ]
 | g::i,c,b,h=>by have k:e7 (cO (g::i)) b=none:=LY fun d a j=>by{have:=h d a;rw[j]at this;simp[cO]at this};rw[lx k,LZ i _ _ (fun d a=>by{rcases dv.1 a with a|a;{have:=h d a;simp only[bi]at this;omega};{rw[kU]at a;rw[a];simp[cO]}}),oZ,c_];simp only[a6,bi,dF,dJ];rw[show c.length+(g.length+1)=c.length+1+g.length by omega]
theorem L0(a:ah):(46:UInt8) ∉ fN a:=by exact Ed
theorem CZ(a:ah)(b:List ah)(g:a≠[]):bo (aU (a::b))=aU (a::b)::bo (aU b):=by
 have e:fN a≠[]:=fun c=>g (df (by rw[<- s7,c];rfl));cases b with
 | nil =>{have c:aU [a]=fN a:=Lib.join_one _ _;rw[c,iO _ e,pn _ (L0 a)];rfl}
 | cons d b =>{have c:aU (a::d::b)=fN a++46::aU (d::b):=xR _ _ _;rw[c,iO _ am,ot _ _ (L0 a)]}
theorem L1:∀(i:List ah) (b:Nat),(∀a∈i,a≠[])->(et b (aU i)).map (fun g=>(aY g.1,g.2))=oZ i b
 | [],_,_=>rfl
 | [a],b,h=>by have g:aU [a]=fN a:=Lib.join_one _ _;unfold et;rw[CZ a [] (h a am)];simp only[fl,rX (show [a]≠[] by simp)];rw[show b+(aU [a]).length-(aU [a]).length=b by omega];rfl
 | a::d::c,b,h=>by
  have j:=L1 (d::c) (b+1+a.length) (fun e l=>h e (by simp[l]));have g:aU (a::d::c)=fN a++46::aU (d::c):=xR _ _ _;have k:(aU (a::d::c)).length=a.length+1+(aU (d::c)).length:=by rw[g,a6,bi,s7];omega
  unfold et at j ⊢;rw[CZ a (d::c) (h a am),oZ,<- j];simp only[fl,fT,rX (show a::d::c≠[] by simp)];rw[show b+(aU (a::d::c)).length-(aU (a::d::c)).length=b by omega];congr 1;refine hN fun e _=>?_;show(aY e,b+(aU (a::d::c)).length-e.length)=(aY e,b+1+a.length+(aU (d::c)).length-e.length);rw[k,show b+(a.length+1+(aU (d::c)).length)=b+1+a.length+(aU (d::c)).length by omega]
theorem L2:∀(d:List ah) (c:Nat),∀b∈oZ d c,b.2<=c+kV d
 | [],_,_,a=>by cases a
 | g::e,c,b,a=>by rw[oZ]at a;rcases co.1 a with a|a;{rw[a];exact nF _ _};{have:=L2 e _ b a;rw[oF];omega}
theorem Nu(a:List ah)(c:ah)(e:∀g∈a,g≠[])(h:kV a<=1000):lY cD (List.replicate 12 0) (cD++c) (bd a cD []).2 (List.replicate 12 0++c) (et 12 (aU a)):=by refine⟨⟨c,rfl,rfl⟩,?_⟩;rw[LZ a cD [] (fun d b=>by cases b),dJ,L1 a 12 e,show cD.length=12 from rfl];rw[nP];intro d b;have:=L2 a 12 d b;exact eC ae
theorem OP(a:UInt8):fM (fM a)=fM a:=by
 have g:=dt a;by_cases d:65<=a.toNat/\a.toNat<=90;{
 have c:fM a=UInt8.ofNat (a.toNat+32):=by unfold fM;rw[ay d]
 have e:(fM a).toNat=a.toNat+32:=by rw[c,iZ];omega
 generalize fM a=b at *;show(if 65<=b.toNat/\b.toNat<=90 then UInt8.ofNat (b.toNat+32)else b)=b;rw[ar (by rw[e];omega)]};{
 have c:fM a=a:=by unfold fM;rw[ar d]
 rw[c,c]}
theorem L5(a:List ah):cO (cO a)=cO a:=by unfold cO;rw[fT];refine hN fun b _=>?_;show(b.map fM).map fM=b.map fM;rw[fT];exact hN fun c _=>OP c
theorem OQ{T b:ah}{c:List ah}(d:aY T=cO c)(a:b=T\/xE b):cO (aY b)=aY b:=by rcases a with rfl|a;{rw[d];exact L5 c};{rw[lv a.p];exact KW a.low}
theorem OR{a:List ah}(j:a≠[]){b:bL}(g:mX (aU a) b.2.2.1)(i:b.2.2.2=a/\aY b.2.2.1.owner=cO a\/b.2.2.2=aY b.2.2.1.owner):Ge (aU a) b:=by have e:=rX j;refine⟨g.wr,?_⟩;rcases i with⟨d,h⟩|d;{exact .inl ⟨rD (by rw[h,e]),by rw[d,e]⟩};{rcases g.own with c|c;{exact .inl ⟨c,by rw[d,c,e];exact L5 a⟩};{exact .inr ⟨c,by rw[d,lv c.p]⟩}}
theorem OS(a:Bool)(b:Nat):jS a (b:Int)=iV a b:=by cases a<;>rfl
theorem OT(a:Bool)(b:Nat):jb a (b:Int)=(oJ a b:Int):=by unfold jb oJ;cases a;{rfl};{simp only[gC];omega}
theorem OU(a:Bool)(b:Nat):(iV a b).length/11=cond a 1 0:=by cases a<;>simp[iV,CM]
theorem OV(a:List ah)(c:a≠[])(d:∀b∈a,b≠[]):aU a≠[]->∃n,kC (et 12 (aU a)) (aU a)=some n:=by
 intro _;match a,c with
 | b::e,_ =>{unfold et;rw[CZ b e (d b am),fl,kC,ay am];exact⟨_,rfl⟩}
theorem OW{u m F G:ah}{w:List aj}(ad:kG u w)(h1:h9 u w m F)(h2:lz u w m G):F=G:=by
 unfold h9 at h1;unfold lz at h2;by_cases p:m.length<12\/128<=(m.getD 2 0).toNat;{rw[ay p]at h2;rw[ay (p.imp_right (LN m).2)]at h1;rw[h1,h2]};rw[ar p]at h2;rw[ar (fun c=>p (c.imp_right (LN m).1))]at h1;have C:12<=m.length:=ae;by_cases t:(m.getD 2 0).toNat/8%16≠0;{rw[ay t]at h2;rw[ay ((LO m).2 t)]at h1;rw[h1,h2,Mm C 4 0 0 0 0 ae]};rw[ar t]at h2;rw[ar (fun c=>t ((LO m).1 c))]at h1;cases A:cR m with
 | none =>{rw[A]at h1 h2;rw[h1,h2,Mm C 1 0 0 0 0 ae]}
 | some S =>{
 obtain⟨r,b,P,M,e,D,L⟩:=S;rw[A]at h1 h2;simp only at h1 h2;obtain⟨au,k,j,l,g,h2⟩:=h2;obtain⟨o1,ak,aD,_⟩:=rT A;have q:=fun a g=>(ak a g).1;obtain⟨⟨h,aC,al⟩,I,_⟩:=rY ad o1 q P M e L;rw[al]at h1 h2;have af:=g.ma;have ai:=g.mu;have ag:=g.md;rw[<- af,<- ai,<- ag]at h1 I;generalize (ce u w (aU b) P M e L).1.2.1=K at *;rw[h1,h2,pt];have B:∀a∈k++(j++l),mX (aU b) a.2.2.1/\b≠[]:=fun a i=>I _ (by{rw[<- d0,<- d0];exact nz i});have R:∀a∈k++(j++l),a.2.2.2=b/\aY a.2.2.1.owner=cO b\/a.2.2.2=aY a.2.2.1.owner:=fun a i=>by{rcases dv.1 i with c|c;{have:=g.la a c;split at this;{rename_i p;exact .inl ⟨this,p.2⟩};{exact .inr this}};{exact .inr (g.Aw a c)}};have U:∀a∈k++(j++l),Ge (aU b) a/\aU b≠[]:=fun a i=>by{
 obtain⟨aa,z⟩:=B a i;refine⟨OR z aa (R a i),fun X=>?_⟩;have:=qc b z;rw[X]at this;match b,z,q with
 | d::au,_,q =>{have:=q d am;have aB:=nT.2 this;rw[oF]at *;simp only[cW]at *;omega}};have E:=fun a i=>OQ (rX (B a i).2) (B a i).1.own;have ap:∀a∈k,∀d∈k,hW a d=bH a.2.2.1 d.2.2.1:=fun a c d o=>Dn (NQ (g.la a c) (g.la d o) (E a (by simp[c])) (E d (by simp[o])));have Q:∀a∈j,∀d∈j,hW a d=bH a.2.2.1 d.2.2.1:=fun a c d o=>Dn (LT (g.Aw a (by simp[c])) (g.Aw d (by simp[o])));have aq:∀a∈l,∀d∈l,hW a d=bH a.2.2.1 d.2.2.1:=fun a c d o=>Dn (LT (g.Aw a (by simp[c])) (g.Aw d (by simp[o])));have y:∃n,aU b≠[]->kC (et 12 (aU b)) (aU b)=some n:=by{by_cases O:b=[];{exact⟨0,fun c=>absurd (by rw[O];rfl) c⟩};{by_cases N:aU b=[];{exact⟨0,fun c=>absurd N c⟩};{obtain⟨n,ac⟩:=OV b O q N;exact⟨n,fun _=>ac⟩}}};obtain⟨n,y⟩:=y;have ab:=Ns (h1:=cD) (h2:=List.replicate 12 0) (T:=aU b) (n:=n) (o1:=(iV e h).length/11) (most:=oJ e D) (ol:=(iV e h).length) (by simp[cD]) k j l ap Q aq U ⟨cD++r,(bd b cD []).2,[1,0,0,(iV e h).length/11],false,false⟩ ⟨(List.replicate 12 0++r,et 12 (aU b)),[0,0,0],false⟩ ⟨Nu b r q ae,y,⟨0,0,0,rfl,am⟩,rfl⟩ rfl rfl rfl;unfold qg m6 p0 sk;rw[OS,OT];obtain⟨J,av⟩:=ab;generalize lj (oJ e D) (iV e h).length 0 [k,j,l] ⟨cD++r,(bd b cD []).2,[1,0,0,(iV e h).length/11],false,false⟩=H at *;generalize gy ((oJ e D:Int)-((iV e h).length:Int)) dB 0 [kz k,kz j,kz l] ⟨(List.replicate 12 0++r,et 12 (aU b)),[0,0,0],false⟩=aw at *;obtain⟨ax,az,aA,Y,Z⟩:=J.cs;obtain⟨x,an,ao⟩:=J.eq.same;rw[<- av,Y,Z,an,ao,OU];unfold Da;rw[xV _ h (De m 2) ae,show((1024:Int))=((1024:Nat):Int)from rfl,xW _ 1024 K (sc _ _) ae,show((512:Int))=((512:Nat):Int)from rfl,xW _ 512 H.tc (Dd (sc _ _) ae) ae,pt];rw[Ml C K H.tc h 1 _ _ _ ae];have V:(cD++x).drop 12=x:=by rw[List.drop_left' dO]
 have W:(List.replicate 12 (0:UInt8)++x++iV e h).drop 12=x++iV e h:=by rw[c_,List.drop_left' am]
 rw[V,W,c_];cases e<;>rfl}
theorem LD:∀(d:List ah) (b:ah) (a:cY),(dM d b a).2.length<=a.length+d.length/\(dM d b a).2.length+b.length<=a.length+(dM d b a).1.length
 | [],b,a=>⟨by simp[dM],by simp[dM]⟩
 | c::d,b,a=>by
  cases e:kC a c with
  | some k=>rw[s4 e];exact⟨am,am⟩
  | none =>{rw[s5 e];obtain⟨h,g⟩:=LD d (b++iw c) (iQ a c b.length);have i:=H6 a c b.length;have j:(iw c).length=(mn c).length+1:=rfl;simp only[a6]at g;exact⟨by simp only[bi];omega,ae⟩}
def lM:mc->Nat
 | []=>0
 | .inl _::t=>lM t
 | .inr a::t=>(aC 46 a).length+lM t
theorem LE:∀(c:List ah) (b:ah) (a:ey),(bd c b a).2.length<=a.length+c.length/\(bd c b a).2.length+b.length<=a.length+(bd c b a).1.length
 | [],b,a=>⟨by simp[bd],by simp[bd]⟩
 | d::e,b,a=>by
  cases g:e7 (cO (d::e)) a with
  | some j=>rw[oD g];exact⟨am,am⟩
  | none =>{rw[lx g];obtain⟨h,i⟩:=LE e (b++(UInt8.ofNat d.length::d)) (a++[(cO (d::e),b.length)]);simp only[a6,bi,cW]at h i ⊢;exact⟨ae,ae⟩}
theorem Dq:∀(c:mc) (b:ah) (a:ey),(b5 c b a).2.length<=a.length+lM c/\(b5 c b a).2.length+b.length<=a.length+(b5 c b a).1.length
 | [],b,a=>⟨bb _,bb _⟩
 | .inl i::d,b,a=>by obtain⟨g,h⟩:=Dq d (b++i) a;rw[a6]at h;rw[b5,lM];exact⟨g,ae⟩
 | .inr e::d,b,a=>by obtain⟨g,h⟩:=Dq d (bd (aC 46 e) b a).1 (bd (aC 46 e) b a).2;obtain⟨j,k⟩:=LE (aC 46 e) b a;rw[b5,lM];exact⟨ae,ae⟩
theorem FI{P:Prop}(h:P:=by have:=(ed hp).2;have:=sp a;rw[ar ae,ar ae,ar ae,ar ae];simp[lM,dj,cg];omega):P:=h
theorem OX{g:aj}(c:cQ g.type (aC 32 g.data)=true):lM (ck g)<=122:=by
 have b:=oW c;have sp:=fun i=>iq 46 i;rcases b with b|b|b|b|b|b;all_goals rw[b]at c
 all_goals unfold ck
 {rw[ay b];simp[lM]};{obtain⟨a,cg,hp⟩:=nf (t:=2) (.inl rfl) c;exact FI};{obtain⟨a,cg,hp⟩:=nf (t:=5) (.inr rfl) c;exact FI};{obtain⟨a,d,j,k,cg,h,e,_,_⟩:=tU c;have:=(ed h).2;have:=(ed e).2;have:=sp a;have:=sp d;rw[ar ae,ar ae,ar ae,ay b];simp[lM,dj,cg];omega};{obtain⟨a,d,cg,_,e⟩:=tV c;have:=(ed e).2;have:=sp d;rw[ar ae,ar ae,ay b];simp[lM,dj,cg];omega};{rw[ar ae,ay b];simp[lM]}
theorem LF:∀(f:Nat) (c:ah),c.length<=f->∀(b:ah) (h:cY),(dM (bo c) b h).1.length<=b.length+c.length+2
 | f,[],_,b,h=>by rw[i7,dM];simp
 | 0,c::p,i,_,_=>by simp at i
 | f+1,c::p,i,b,h=>by
  generalize t:c::p=a at *;have r:a≠[]:=by rw[<- t];simp
  rw[iO a r];cases o:kC h a with
  | some u=>rw[s4 o];have:(ws u).length=2:=rfl;simp only[a6];omega
  | none =>{
  rw[s5 o];by_cases l:(46:UInt8)∈a;{
  obtain⟨d,e,g,k⟩:=sS l;have q:=LF f (eh a) (by rw[g,ot d e k];rw[g]at i;simp at i;omega) (b++iw a) (iQ h a b.length);have j:(iw a).length=d.length+1:=by rw[g];unfold iw;rw[zV d e k];rfl
  have n:eh a=e:=by rw[g];exact ot d e k
  have w:a.length=d.length+1+e.length:=by rw[g];simp;omega
  rw[a6,j,n]at q;rw[n];omega};{
  rw[pn a l,i7,dM];have j:(iw a).length=a.length+1:=by unfold iw;rw[zW a l];rfl
  simp only[a6,j,bi,cW];omega}}
theorem LG:∀(f:Nat) (b:ah),b.length<=f->gp b->2*(bo b).length<=b.length+1
 | f,[],_,_=>by rw[i7];simp
 | 0,b::k,h,_=>by simp at h
 | f+1,b::k,h,i=>by
  generalize o:b::k=a at *;have j:a≠[]:=by rw[<- o];simp
  rw[iO a j,bi];rcases hP 46 a with⟨l,x⟩|⟨d,c,g,n,e⟩;{have q:(46:UInt8) ∉ a:=l;rw[pn a q,i7];have:0<a.length:=nT.2 j;simp;omega};{
  have r:gp c:=fun t p=>i t (by rw[e];exact fs _ p);have u:0<d.length:=nT.2 (i d (by rw[e];simp));have w:a.length=d.length+1+c.length:=by rw[g];simp;omega
  have y:=LG f c ae r;rw[show eh a=c by rw[g];exact ot d c n];omega}
theorem OY(b:ah)(c:cY)(d:jk c):lY [] [] b (c.map fun a=>(aY a.1,a.2)) b c:=by refine⟨⟨b,rfl,rfl⟩,?_⟩;rw[nP];intro h e;obtain⟨a,g,rfl⟩:=fz.1 e;exact eC (d a g)
theorem OZ{d:aj}(g:Lp d)(a:ah)(b:cY)(k:jk b):a.length<=(cL (dB d) a b).1.length/\(cL (dB d) a b).1.length<=a.length+300/\(cL (dB d) a b).2.length<=b.length+122/\(cL (dB d) a b).2.length+a.length<=b.length+(cL (dB d) a b).1.length:=by
 have e:=K3 (h1:=[]) (h2:=[]) rfl g (OY a b k);obtain⟨q,h,i⟩:=e.same;have l:(b5 (ck d) a (b.map fun c=>(aY c.1,c.2))).1.length=(cL (dB d) a b).1.length:=by rw[h,i]
 have j:=bP List.length e.pl;rw[bD]at j;have p:=nS (fun e:List ah×Nat=>decide (e.2<16384)) (b5 (ck d) a (b.map fun c=>(aY c.1,c.2))).2;have h1:=x8 (ck d) a (b.map fun c=>(aY c.1,c.2));have h2:=Dq (ck d) a (b.map fun c=>(aY c.1,c.2));have n:=KJ g.dat;have o:=OX g.dat;rw[bD]at h2;rw[l]at h1 h2;exact⟨ae,ae,ae,ae⟩
theorem O0{g:ah}{a:aj}(d:mX g a)(j:gp a.owner)(c:ah)(b:cY)(e:jk b):(eN a (dB a) c b).1.length<=c.length+567/\(eN a (dB a) c b).2.length<=b.length+250/\(eN a (dB a) c b).2.length+c.length<=b.length+(eN a (dB a) c b).1.length/\jk (eN a (dB a) c b).2:=by have k:=(HY (uk d.wr) c b).2.2 e;refine⟨?_,?_,?_,k⟩;all_goals(show _;have ap:=LD (bo a.owner) c b;have p:=LF _ a.owner av c b;have q:=LG _ a.owner av j;have aK:=d.UM;have b9:=(wu (bo a.owner) c b).2.2 e;have h:=OZ d.wr (((((dM (bo a.owner) c b).1++(cq a.type.toNat).out)++(cq 1).out)++(lI a.aI).out)++[0,0]) (dM (bo a.owner) c b).2 b9;have i:eN a (dB a) c b=mP (dB a) ((((dM (bo a.owner) c b).1++(cq a.type.toNat).out)++(cq 1).out)++(lI a.aI).out) (dM (bo a.owner) c b).2:=rfl;rw[i];unfold mP;simp only[AI];have l:(cq a.type.toNat).out.length=2:=rfl;have n:(cq 1).out.length=2:=rfl;have o:(lI a.aI).out.length=4:=rfl;simp only[a6,l,n,o,bi,cW]at h;omega)
theorem LH{g:ah}: ∀(d:List aj),(∀a∈d,mX g a/\gp a.owner)->∀(c:ah) (b:cY),jk b->(bB dB d c b).1.length<=c.length+567*d.length/\(bB dB d c b).2.length<=b.length+250*d.length/\(bB dB d c b).2.length+c.length<=b.length+(bB dB d c b).1.length
 | [],_,c,b,_=>⟨bb _,bb _,bb _⟩
 | a::d,e,c,b,i=>by obtain⟨l,n,o,h⟩:=O0 (e a am).1 (e a am).2 c b i;obtain⟨p,q,r⟩:=LH d (fun k j=>e k (by simp[j])) (eN a (dB a) c b).1 (eN a (dB a) c b).2 h;show(bB dB d (eN a (dB a) c b).1 (eN a (dB a) c b).2).1.length<=_/\(bB dB d (eN a (dB a) c b).1 (eN a (dB a) c b).2).2.length<=_/\(bB dB d (eN a (dB a) c b).1 (eN a (dB a) c b).2).2.length+c.length<=b.length+(bB dB d (eN a (dB a) c b).1 (eN a (dB a) c b).2).1.length;rw[bi];exact⟨ae,ae,ae⟩
theorem Dy{d:ah}{b:List aj}(e:∀a∈b,mX d a/\gp a.owner)(o:b.length<=68):PU b:=by intro j c s i g p r;have q:=oo c;obtain⟨k,l,n⟩:=LH j.2 (fun a h=>e a (AL c h)) s i g;exact⟨ae,ae,ae⟩
theorem O1{b:ah}{rs:List aj}(j:kG b rs){a:List ah}(x:kV a<=254)(q:∀t∈a,t≠[])(c e:Int)(h:Bool)(d:Int):(ce b rs (aU a) c e h d).1.2.2.1.length<=68/\(ce b rs (aU a) c e h d).1.2.2.2.length<=68/\(ce b rs (aU a) c e h d).2.length<=68:=by
 unfold ce;split;{exact⟨am,am,am⟩};{
 split;{exact⟨am,am,am⟩};{
 rename_i o;have p:aU a≠[]:=fun g=>o (.inr (.inr g));have k:a≠[]:=fun g=>by subst g;exact p rfl
 have l:=uf k q;have u:=qc a k;have i:=pT j c 9 true false [] (aU a) l ae (fun y r=>by cases r) (b6 _);have n:=Dv (rs:=rs) (fj b rs c (aU a)).2.2.1 ((fj b rs c (aU a)).2.2.1++(fj b rs c (aU a)).2.2.2) ([],[]) am;have w:=p9 j;exact⟨aZ i.2.2.1 ae,aZ i.2.2.2 ae,aZ n ae⟩}}
theorem O2{g:ah}{i:List aj}(q:kG g i)(m:ah):Mi g i m:=by intro E c j e h F d w;obtain⟨r,B,_⟩:=rT w;have n:=fun C x=>(B C x).1;obtain⟨_,t,_⟩:=rY q r n j e h d;obtain⟨y,z,A⟩:=O1 q r n j e h d;have l:∀a∈(ce g i (aU c) j e h d).1.2.2.1++((ce g i (aU c) j e h d).1.2.2.2++(ce g i (aU c) j e h d).2),mX (aU c) a/\gp a.owner:=fun a b=>by{obtain⟨o,u⟩:=t a b;refine⟨o,?_⟩;rcases o.own with k|k;{rw[k];exact uf u n};{exact k.ne}};refine⟨Dy (fun a b=>l a (by simp[b])) y,Dy (fun a b=>l a (by simp[b])) z,Dy (fun a b=>l a (by simp[b])) A,?_⟩;unfold et;rw[bD];have D:=Aq _ (aU c) av;by_cases p:c=[];{subst p;have:(aU []).length=0:=rfl;omega};{have:=qc c p;omega}
theorem LI(e:ah)(g:List aj)(m:ah):∃d,h9 e g m d:=by
 unfold h9;by_cases a:m.length<12\/aG m 2 &&& 32768≠0;{exact⟨_,by rw[ay a]⟩};{
 by_cases b:aG m 2 &&& 30720≠0;{exact⟨_,by rw[ar a,ay b]⟩};{
 cases j:cR m with
 | none=>exact⟨_,by rw[ar a,ar b]⟩
 | some c =>{obtain⟨n,k,p,i,l,o,h⟩:=c;exact⟨_,by rw[ar a,ar b]⟩}}}
theorem Og{i:ah}{j:List aj}{m c d:ah}(a:h9 i j m c)(b:h9 i j m d):c=d:=by
 unfold h9 at a b;by_cases e:m.length<12\/aG m 2 &&& 32768≠0;{rw[ay e]at a b;exact a.trans b.symm};{
 rw[ar e]at a b;by_cases g:aG m 2 &&& 30720≠0;{rw[ay g]at a b;exact a.trans b.symm};{
 rw[ar g]at a b;cases h:cR m with
 | none=>rw[h]at a b;exact a.trans b.symm
 | some k =>{obtain⟨q,o,t,n,p,r,l⟩:=k;rw[h]at a b;exact a.trans b.symm}}}
theorem LJ{h:ah}{j:List aj}{m k:ah}(x:kG h j)(a:h9 h j m k):k.length<=1232:=by
 unfold h9 at a;by_cases o:m.length<12\/aG m 2 &&& 32768≠0;{rw[ay o]at a;rw[a];simp};{
 rw[ar o]at a;by_cases p:aG m 2 &&& 30720≠0;{rw[ay p]at a;rw[a,rP];omega};{
 rw[ar p]at a;cases g:cR m with
 | none=>rw[g]at a;rw[a,rP];omega
 | some t =>{
 obtain⟨D,q,r,n,b,c,l⟩:=t;rw[g]at a;simp only at a;obtain⟨B,C,L,_⟩:=rT g;obtain⟨_,d,_⟩:=rY x B (fun F z=>(C F z).1) r n b l;generalize ce h j (aU q) r n b l=G at a d;obtain⟨⟨i,I,w,A⟩,u⟩:=G;simp only at a d;have e:(jS b i).length<=11:=by unfold jS;split<;>simp[k9]
 have H:512<=jb b c/\jb b c<=1232:=by unfold jb;split<;>omega
 have J:=(C_ (size:=jb b c-((jS b i).length:Int)) (aM:=dB) 0 [w,A,u] ⟨(List.replicate 12 0++D,et 12 (aU q)),[0,0,0],false⟩ (jb b c-((jS b i).length:Int)).toNat (fun K e E y=>by{simp at e;rcases e with rfl|rfl|rfl<;>exact uk (d E (by simp[y])).1.wr}) ae aA).2;rw[a];unfold qg m6;rw[a6,rP,c8,a6];omega}}}
def kB(s:ah):Option (ah×List aj):=if s.length<=3000/\(er s).isSome=true then eX s else none
def ui(s:ah)(c:Nat)(d:Ending)(h:World):Prop :=
 match kB s with
 | none=>d=.returned (.tuple #[.pointer none,ak 1])
 | some a=>kG a.1 a.2/\∃b e g,d=.returned (.tuple #[aO b,ak 0])/\c<=b/\c<=e/\e6 h b a.1 e 0 g (aS a.2)
def uj(s:ah)(d:Nat)(b:Ending)(e:World):Prop :=
 match kB s with
 | none=>b=.returned (.pointer none)
 | some c=>∃a,b=.returned (aO a)/\d<=a/\nC e a c.1 c.2
theorem Oh{a:List ah}{e:ah}{b:List aj}(j:l4 a=some (e,b))(o:∀g∈a,g.length<=3000):dQ e=true/\(∀q∈b,K0 q)/\b.length<=a.length:=by
 cases a with
 | nil=>cases j
 | cons f a =>{
 have c:(if Lib.hasPrefix f fV&&dQ (Lib.trimPrefix f fV)then(jI a).map (fun b=>(Lib.trimPrefix f fV,b))else none)=some (e,b):=j;split at c;{
 rename_i k;cases d:jI a with
 | none=>rw[d]at c;cases c
 | some h =>{rw[d]at c;have i:=cZ c;have l:Lib.trimPrefix f fV=e:=bP Prod.fst i;have n:h=b:=bP Prod.snd i;subst n;rw[bW,l]at k;refine⟨k.2,Dx a h (fun g p=>o g (fs _ p)) d,?_⟩;rw[xT a h d];simp}};{cases c}}
theorem LK{s:ah}(c:s.length<=3000){i:ah}{d:List aj}(h:eX s=some (i,d)):dQ i=true/\(∀o∈d,K0 o)/\d.length<=3001:=by
 rcases js s with rfl|⟨a,j,b⟩;{rw[xS (fun a h=>o5)]at h;cases h};{
 rw[jq]at b;by_cases g:j=10;{
 rw[b,g,Lg]at h;have r:a.length<=3000:=by rw[b]at c;simp at c;omega
 obtain⟨k,l,q⟩:=Oh h (fun p n=>by have:=jo 10 a.length a av p n;omega);refine⟨k,l,?_⟩;have:=iq 10 a;have:a.length+1<=3000:=by rw[b]at c;simpa using c
 omega};{rw[xS (fun t e=>by{rw[b]at e;have:=bP List.getLast? e;simp at this;exact g this})]at h;cases h}}
theorem Oi{s:ah}(j:s.length<=3000):∀a b,eX s=some (a,b)->Cq a b:=fun a b g=>by
 obtain⟨h,c,i⟩:=LK j g;refine⟨i,by have:=(ed h).2;omega,fun e d=>⟨by have:=(oX (c e d).vL).2;omega,(c e d).len⟩⟩
theorem LL{s:ah}(i:s.length<=3000){h:ah×List aj}(c:er s=some h):∃a b,eX s=some (a,b)/\h=(a,aS b)/\kG a b/\kB s=some (a,b):=by
 have j:=c;unfold er at c;cases d:eX s with
 | none=>rw[d]at c;cases c
 | some n =>{obtain⟨a,b⟩:=n;rw[d]at c;have e:(if mI a b&&mO a (aS b)then some (a,aS b)else none)=some h:=c;split at e;{rename_i g;rw[bW]at g;obtain⟨k,l,_⟩:=LK i d;refine⟨a,b,rfl,(cZ e).symm,⟨k,l,g.1,g.2⟩,?_⟩;unfold kB;rw[ay ⟨i,by rw[j];rfl⟩,d]};{cases e}}
theorem L6{s:ah}(h:er s=none):kB s=none:=by unfold kB;rw[ar qj]
theorem Oj(s:ah)(a:World)(e:3000<s.length):az 16 #[au s] a fun b c=>b=.returned (.tuple #[.pointer none,ak 1])/\c=a:=by have g:=a7 s;have d:(3000:Int)<(s.length:Int):=ae;go_enter func16,ntmps16;go_wp2;go_ret2;exact⟨rfl,o7⟩
theorem Ok(s:ah)(a:World)(e:3000<s.length):az 17 #[au s] a fun b c=>b=.returned (.pointer none)/\c=a:=by have g:=a7 s;have d:(3000:Int)<(s.length:Int):=ae;have h:¬(s.length:Int)<1:=ae;go_enter func17,ntmps17;go_wp2;go_ret;exact⟨rfl,o7⟩
theorem Mn(s:ah)(b:World)(k:bT b):az 16 #[au s] b fun g e=>ui s b.heap.size g e/\ax b e:=by
 by_cases c:s.length<=3000;{
 refine(UK (ai s) b k (by rw[a7];exact c) (by rw[jC];exact Oi c)).mono ?_;rintro g e ⟨a,j⟩;rw[jC]at a;refine⟨?_,j⟩;unfold ui;cases d:er s with
 | none=>rw[d]at a;rw[L6 d];exact a
 | some o =>{rw[d]at a;obtain⟨n,p,l,rfl,h,i⟩:=LL c d;rw[i];exact⟨h,a⟩}};{
 refine(Oj s b ae).mono ?_;rintro g e ⟨rfl,rfl⟩;have:kB s=none:=by unfold kB;rw[ar (fun a=>c a.1)]
 refine⟨?_,bk _ _⟩;unfold ui;rw[this]}
theorem Om(s:ah)(b:World):az 17 #[au s] b fun e d=>uj s b.heap.size e d/\ax b d:=by
 by_cases g:s.length<=3000;{
 refine(OM s b g).mono ?_;rintro e d ⟨a,o⟩;refine⟨?_,o⟩;unfold sd at a;unfold uj;cases c:er s with
 | none=>rw[c]at a;rw[L6 c];exact a
 | some A =>{rw[c]at a;obtain⟨t,w,l,rfl,z,n⟩:=LL g c;obtain⟨y,u,x,p,q,r,_,i,_⟩:=a;rw[l]at i;have h:=cZ i;have j:t=u:=bP Prod.fst h;have k:w=x:=bP Prod.snd h;subst j k;rw[n];exact⟨y,p,q,r⟩}};{
 refine(Ok s b ae).mono ?_;rintro e d ⟨rfl,rfl⟩;have:kB s=none:=by unfold kB;rw[ar (fun a=>g a.1)]
 refine⟨?_,bk _ _⟩;unfold uj;rw[this]}
section
open Go.Sort
def m9:ah:=[101,120,97,109,112,108,101,46,111,114,103]
def xM:ah:=[111,114,105,103,105,110,32,101,120,97,109,112,108,101,46,111,114,103,10,101,120,97,109,112,108,101,46,111,114,103,32,51,48,48,32,83,79,65,32,110,115,46,101,120,97,109,112,108,101,46,111,114,103,32,97,100,109,105,110,46,101,120,97,109,112,108,101,46,111,114,103,32,55,32,54,48,10,101,120,97,109,112,108,101,46,111,114,103,32,51,48,48,32,78,83,32,110,115,46,101,120,97,109,112,108,101,46,111,114,103,10,110,115,46,101,120,97,109,112,108,101,46,111,114,103,32,51,48,48,32,65,32,49,57,50,46,48,46,50,46,49,10,119,119,119,46,101,120,97,109,112,108,101,46,111,114,103,32,54,48,32,67,78,65,77,69,32,119,101,98,46,101,120,97,109,112,108,101,46,111,114,103,10,119,101,98,46,101,120,97,109,112,108,101,46,111,114,103,32,54,48,32,65,32,49,57,50,46,48,46,50,46,56,48,10,42,46,119,105,108,100,46,101,120,97,109,112,108,101,46,111,114,103,32,54,48,32,84,88,84,32,104,105,10,115,117,98,46,101,120,97,109,112,108,101,46,111,114,103,32,51,48,48,32,78,83,32,110,115,46,115,117,98,46,101,120,97,109,112,108,101,46,111,114,103,10,110,115,46,115,117,98,46,101,120,97,109,112,108,101,46,111,114,103,32,51,48,48,32,65,32,49,57,50,46,48,46,50,46,57,10]
def m_:List aj:=[([101,120,97,109,112,108,101,46,111,114,103],300,6,[110,115,46,101,120,97,109,112,108,101,46,111,114,103,32,97,100,109,105,110,46,101,120,97,109,112,108,101,46,111,114,103,32,55,32,54,48]),([101,120,97,109,112,108,101,46,111,114,103],300,2,[110,115,46,101,120,97,109,112,108,101,46,111,114,103]),([110,115,46,101,120,97,109,112,108,101,46,111,114,103],300,1,[49,57,50,46,48,46,50,46,49]),([119,119,119,46,101,120,97,109,112,108,101,46,111,114,103],60,5,[119,101,98,46,101,120,97,109,112,108,101,46,111,114,103]),([119,101,98,46,101,120,97,109,112,108,101,46,111,114,103],60,1,[49,57,50,46,48,46,50,46,56,48]),([42,46,119,105,108,100,46,101,120,97,109,112,108,101,46,111,114,103],60,16,[104,105]),([115,117,98,46,101,120,97,109,112,108,101,46,111,114,103],300,2,[110,115,46,115,117,98,46,101,120,97,109,112,108,101,46,111,114,103]),([110,115,46,115,117,98,46,101,120,97,109,112,108,101,46,111,114,103],300,1,[49,57,50,46,48,46,50,46,57])]
def Dz:List aj:=[([42,46,119,105,108,100,46,101,120,97,109,112,108,101,46,111,114,103],60,16,[104,105]),([101,120,97,109,112,108,101,46,111,114,103],300,2,[110,115,46,101,120,97,109,112,108,101,46,111,114,103]),([101,120,97,109,112,108,101,46,111,114,103],300,6,[110,115,46,101,120,97,109,112,108,101,46,111,114,103,32,97,100,109,105,110,46,101,120,97,109,112,108,101,46,111,114,103,32,55,32,54,48]),([110,115,46,101,120,97,109,112,108,101,46,111,114,103],300,1,[49,57,50,46,48,46,50,46,49]),([110,115,46,115,117,98,46,101,120,97,109,112,108,101,46,111,114,103],300,1,[49,57,50,46,48,46,50,46,57]),([115,117,98,46,101,120,97,109,112,108,101,46,111,114,103],300,2,[110,115,46,115,117,98,46,101,120,97,109,112,108,101,46,111,114,103]),([119,101,98,46,101,120,97,109,112,108,101,46,111,114,103],60,1,[49,57,50,46,48,46,50,46,56,48]),([119,119,119,46,101,120,97,109,112,108,101,46,111,114,103],60,5,[119,101,98,46,101,120,97,109,112,108,101,46,111,114,103])]
theorem Mo:eX xM=some (m9,m_):=aB
theorem On:aS m_=Dz:=by unfold aS Sort.insertionSort;simp only[show m_.length=8 from rfl];rw[insOuter_go _ _ _ _ _ ba,insOuter_go _ _ _ _ _ ba,insOuter_go _ _ _ _ _ ba,insOuter_go _ _ _ _ _ ba,insOuter_go _ _ _ _ _ ba,insOuter_go _ _ _ _ _ ba,insOuter_go _ _ _ _ _ ba,insOuter_stop _ _ _ _ _ ba];kernel_rfl
theorem Oo:mI m9 m_=true:=aB
theorem Oq:mO m9 Dz=true:=aB
theorem Ot:er xM=some (m9,Dz):=by unfold er;rw[Mo];show(if mI m9 m_&&mO m9 (aS m_)then some (m9,aS m_)else none)=_;rw[On,Oo,Oq];rfl
theorem Ou:kB xM=some (m9,m_):=by unfold kB;rw[ay ⟨Nat.le_of_ble_eq_true aB,by rw[Ot];rfl⟩,Mo]
end
def Mp(g:World)(v:Value)(a:List ah):Prop :=
 ((∃h i,v=.slice h 0 i)/\a=[])\/∃b e d,v=aF b e a.length d/\a.length<=d/\b<g.heap.size/\∀c (j:c<a.length),g.cell? (aq b (e+c))=some (.string (ai a[c]))
def se(m:ah):ah:=([2]++m++[102,105,118,101,53]).take 6
def sg(a:ah):ah:=(a++[10,0,0,1]).take 4
theorem Ov(m:ah):(se m).length=6:=by simp[se]
theorem Ow(a:ah):(sg a).length=4:=by simp[sg]
theorem Mq(m a:ah)(b:World)(D:m.length<=140737488355328)(ao:a.length<=140737488355328):az 36 #[au m,au a] b (aP (fv (se m) (sg a)) b):=by
 obtain⟨e,i,l,t⟩:=ej a [10,0,0,1];obtain⟨g,j,n,u⟩:=ej [2] m;obtain⟨h,k,o,w⟩:=ej g [102,105,118,101,53];have E:ai a++⟨#[10,0,0,1]⟩=ai e:=l;have F:(⟨#[2]⟩:ByteArray)++ai m=ai g:=n;have G:ai g++⟨#[102,105,118,101,53]⟩=ai h:=o;have x:=a7 a;have C:=a7 m;have z:(ai e).size=a.length+4:=by rw[t,x];rfl
 have A:(ai g).size=1+m.length:=by rw[u,C];rfl
 have B:(ai h).size=1+m.length+5:=by rw[w,A];rfl
 have H:(ai e).extract 0 4=ai (sg a):=by rw[pG e 4 (by rw[<- a7,z];omega),i];rfl
 have I:(ai h).extract 0 6=ai (se m):=by rw[pG h 6 (by rw[<- a7,B];omega),k,j];rfl
 generalize se m=d at *;generalize sg a=c at *;clear i j k l n o t u w;go_enter func36,ntmps36;have y:=((bk b.heap.size b).alloc av (.cells #[.string (ai d),.string (ai c)] 62)).alloc am (.cells #[.string (ai d),.string (ai c)] 62);have p:cH ((b.alloc (.cells #[.string (ai d),.string (ai c)] 62)).alloc (.cells #[.string (ai d),.string (ai c)] 62)) b.heap.size [au d,au c] 62:=(cH.jM b _ _).alloc _;have q:=p.cell 0 am;have r:=p.cell 1 am;simp only[cw,cF]at q r;go_wp2;refine cc (v:=.agg #[.string (ai d),.string (ai c)]) (by simp[results,results36,go_sem,q,r]) rfl ⟨rfl,y⟩
theorem Mr(a:ah)(b:List aj):∃ρ:ah->ah,∀m,h9 a b m (ρ m):=⟨fun m=>(LI a b m).choose,fun m=>(LI a b m).choose_spec⟩
theorem Ms{ρ:ah->ah}{a:ah}{b:List aj}(i:∀m,h9 a b m (ρ m))(e h g:Nat)(d:World)(c:kG a b)(o:e6 d e a h 0 g (aS b))(n:bT d):mM ρ 27 (aO e) d:=fun m u=>⟨LJ c (i m),fun k j=>(NJ e h 0 g a m b k c (o.below j) (n.below j) ae (O2 c m)).mono fun t w ⟨⟨r,p,q⟩,l⟩=>⟨by rw[p,Og q (i m)],l⟩⟩
theorem Ox{ρ:ah->ah}{b:ah}{c:List aj}(h:∀m,h9 b c m (ρ m))(g:Nat)(e i:World)(d:kG b c)(l:nC e g b c)(a:ax e i):mM ρ 28 (aO g) i:=fun m r=>⟨LJ d (h m),fun j k=>(Nh g b m c e j l (a.trans (k.mono a.size)) d ae).mono fun q t ⟨⟨p,n,o⟩,a⟩=>⟨by rw[n,OW d (h m) o],a⟩⟩
def ud:ah:=[255,255,255,255,255,255]++rq++[8,6]++([0,1,8,0,6,4,0,1]++rq++[10,0,0,2]++[110,111,98,111,100,121]++ix)
def sh:ah:=rq++g6++[8,6,0,1,8,0,6,4,0,2]++g6++ix++rq++[10,0,0,2]
def ue:ah:=g6++rq++[8,7]
theorem Oy(ρ:ah->ah):lq ρ g6 ix ud=sh:=by unfold lq;rw[ar ba,ay ba];decide
theorem OA(ρ:ah->ah):lq ρ g6 ix ue=[]:=by unfold lq;rw[ar ba,ar ba,ay ba]
theorem B4{P:Prop}(h:P:=by go_wp2;go_ret;exact⟨rfl,fG⟩):P:=h
theorem OB(k:World)(y:bT k):az 35 #[] k (aP (.bool true) k):=by
 have G:=af (Mn xM k y);have X:=af y;clear y;go_enter func35,ntmps35;go_wp2_with fail;refine G.mono ?_;rintro o g ⟨p,q⟩;unfold ui at p;rw[Ou]at p;obtain⟨F,l,ac,Z,rfl,ak,ae,P⟩:=p;obtain⟨ρ,Q⟩:=Mr m9 m_;have E:=af (Ms Q l ac Z g F P (X.below q));have A:Hid (∀a,az 36 #[.string ⟨#[]⟩,.string ⟨#[]⟩] a (aP (fv g6 ix) a)):=fun a=>Mq [] [] a ba ba;have D:=af q;clear F P q G Q ak ae;go_wp2_with fail;refine(A _).mono ?_;rintro o h ⟨rfl,r⟩;have aj:=D.size;have e:cH (h.alloc (.cells #[.string (ai g6),.string (ai ix)] 62)) h.heap.size [au g6,au ix] 62:=cH.jM h _ _;have t:=r.alloc r.size (.cells #[.string (ai g6),.string (ai ix)] 62);have n:=af (fun(f:ah) (ad:f.length<=140737488351232) a (b:ax g a)=>Jt ρ f g6 ix (aO l) a rfl rfl ad (E.next b));obtain⟨a,b⟩:=a2 (h.alloc (.cells #[.string (ai g6),.string (ai ix)] 62));rw[<- b]at e t;have Y:=af b;have c:Hid (cH a h.heap.size [au g6,au ix] 62/\ax g a):=⟨e,t⟩;have H:=e.cell 0 am;have ap:=e.cell 1 am;simp only[cw,cF]at H ap;have aB:(ai ix).size=4:=rfl;have aC:(ai g6).size=6:=rfl;have al:(⟨#[255,255,255,255,255,255,2,111,116,104,101,114,8,6,0,1,8,0,6,4,0,1,2,111,116,104,101,114,10,0,0,2,110,111,98,111,100,121]⟩:ByteArray)++ai ix=ai ud:=rfl;have an:ai g6++⟨#[2,111,116,104,101,114,8,7]⟩=ai ue:=rfl;obtain⟨j,J,N,T⟩:=ej rq g6;obtain⟨z,K,O,U⟩:=ej j [8,6,0,1,8,0,6,4,0,2];obtain⟨R,L,aF,V⟩:=ej z g6;obtain⟨S,M,aG,W⟩:=ej R ix;have ao:(ai j).size=12:=by rw[T];rfl
 have aq:(ai z).size=22:=by rw[U,ao];rfl
 have ar:(ai R).size=28:=by rw[V,aq];rfl
 have aM:(ai S).size=32:=by rw[W,ar];rfl
 have aH:(⟨#[2,111,116,104,101,114]⟩:ByteArray)++ai g6=ai j:=N;have aI:ai j++⟨#[8,6,0,1,8,0,6,4,0,2]⟩=ai z:=O;have aJ:ai S++⟨#[2,111,116,104,101,114,10,0,0,2]⟩=ai sh:=by rw[M,L,K,J];rfl
 have aE:=wg (rfl:sh=sh);have B:Hid (∀a,ax g a->az 37 #[aO l,fv g6 ix,au ud] a (aP (au sh) a)):=fun a b=>by have:=ag n ud ba a b;rwa [Oy]at this
 have C:Hid (∀a,ax g a->az 37 #[aO l,fv g6 ix,au ue] a (aP (.string ⟨#[]⟩) a)):=fun a b=>by have:=ag n ue ba a b;rwa [OA]at this
 generalize ud=aw at *;generalize ue=aD at *;generalize sh=av at *;generalize g6=aA at *;generalize ix=ay at *;clear A r t e b E n J K L M N O T U V W;go_wp2_with fail;rw[<- ag Y];refine(B a c.2).mono ?_;rintro o aK ⟨rfl,u⟩;have i:=c.1.below u c.1.lt;have d:=af (aQ i (c.2.trans (u.mono c.2.size)));have cU:=i.cell 0 am;have I:=i.cell 1 am;simp only[cw,cF]at cU I;clear B u i c H ap al;go_wp2_with fail;refine(C _ d.2).mono ?_;rintro o aL ⟨rfl,w⟩;have x:=d.1.below w d.1.lt;have fG:=af (D.trans ((d.2.trans (w.mono d.2.size)).mono aj));have aa:=x.cell 0 am;have ab:=x.cell 1 am;simp only[cw,cF]at aa ab;clear C w x d cU I an;exact B4
abbrev qi(h:World)(b e g:Nat)(d c f:ah)(a:World):Prop:=a.cell? (aq b 0)=some (au d)/\a.cell? (aq b 1)=some (au c)/\a.cell? (aq e g)=some (au f)/\e<a.heap.size/\cH a b [au d,au c] 62/\ax h a
theorem qi.of{t a:World}{j e d:Nat}{h g f:ah}(u:qi t j e d h g f a){l:Nat}{i:Array Value}{v:Value}(x:az l i a (aP v a)):az l i a fun k r=>k=.returned v/\qi t j e d h g f r:=x.mono fun k r ⟨y,b⟩=>by
 obtain⟨_,_,w,n,o,q⟩:=u;have c:=o.below b o.lt;exact⟨y,c.cell 0 am,c.cell 1 am,(b.cell (p:=⟨e,d,none⟩) n).trans w,cp n b.size,c,q.trans (b.mono q.size)⟩
theorem OC(s A D:ah)(d:List ah)(aa:Value)(F:World)(W:bT F)(aX:A.length<=140737488351232)(aY:D.length<=140737488351232)(U:Mp F aa d)(br:d.length<=140737488351232)(aJ:∀I∈d,I.length<=140737488351232):az 9 #[au s,au A,au D,aa] F (aP (.bool true) F):=by
 obtain⟨bn,bo,ba⟩:∃I aD,aa=.slice I d.length aD:=by
  rcases U with⟨⟨I,aD,rfl⟩,rfl⟩|⟨aH,bm,aF,rfl,_⟩
  ·exact qr
  ·exact qr
 subst ba;have an:=af (OB F W);have ac:=af W;have a3:=af U;have aV:=af aJ;have H:=af (fun e=>Mq A D e ae ae);obtain⟨b,S⟩:=a2 (se A);obtain⟨a,R⟩:=a2 (sg D);have ar:b.length=6:=by rw[S];exact Ov A
 have av:a.length=4:=by rw[R];exact Ow D
 rw[<- S,<- R]at H;clear W U aJ S R aX aY;go_enter func9,ntmps9;go_wp2_with fail;refine an.mono ?_;rintro n bb ⟨rfl,L⟩;have a6:=L.size;have aC:=af (Mn s bb (ac.below L));have aZ:=af L;clear an L;go_wp2_with fail;refine aC.mono ?_;rintro n bc ⟨x,V⟩;have bj:=V.size;have aw:=aZ.trans (V.mono a6);have P:=af (Om s bc);have N:=af aw;clear aC V aw;unfold ui at x;cases z:kB s with
 | none =>
  rw[z]at x;have a5:n=.returned (.tuple #[.pointer none,ak 1]):=x;subst a5;have K:=af z;clear x z;go_wp2_with fail;refine P.mono ?_;rintro n j ⟨q,u⟩;unfold uj at q;rw[ag K]at q;have aW:n=.returned (.pointer none):=q;subst aW;have w:=af (N.trans (u.mono ae));clear q u;go_wp2_with fail;refine(H _).mono ?_;rintro n G ⟨rfl,t⟩;have y:=(t.alloc t.size (.cells #[.string (ai b),.string (ai a)] 62)).mono w.size;have fG:=af (w.trans y);clear t y w;go_wp2_with fail;generalize G.alloc (.cells #[.string (ai b),.string (ai a)] 62)=aS at *
  go_loopw [14] (fun E wr=>E=ak 0/\wr=aS) (fun _ _=>0)
  case atStart=>exact dX
  case round =>
   obtain⟨rfl,rfl⟩:=hrel;by_cases C:0<d.length
   ·have Q:(0:Int)<(d.length:Int):=ae;exact B4
   ·have Q:¬(0:Int)<(d.length:Int):=ae;exact B4
 | some p =>
  rw[z]at x;obtain⟨aB,zP,aH,aF,rfl,bf,bh,aK⟩:=x;have K:=af z;have O:=af aB;have aG:=af aK;clear z aB aK;go_wp2_with fail;refine P.mono ?_;rintro n j ⟨q,u⟩;unfold uj at q;rw[ag K]at q;obtain⟨aT,rfl,bl,al⟩:=q;have bk:=u.size;have Z:=N.trans (u.mono ae);obtain⟨ρ,X⟩:=Mr p.1 p.2;have a0:=af (Ms X zP aH aF j (ag O) (aG.below u) (ac.below Z));have a9:=af (Ox X aT j j (ag O) al aE);have w:=af Z;clear u al P N aG Z X O K;go_wp2_with fail;refine(H _).mono ?_;rintro n G ⟨rfl,t⟩;have g:=cH.jM G [au b,au a] 62;have y:=t.alloc t.size (.cells #[.string (ai b),.string (ai a)] 62);have bi:=t.size;clear t H;go_wp2_with fail;obtain⟨aS,ay⟩:=a2 (G.alloc (.cells #[.string (ai b),.string (ai a)] 62));rw[<- ay]at g y ⊢;obtain⟨k,aI⟩:=a2 G.heap.size;rw[<- aI]at g ⊢;have aR:=af (aQ g y);clear ay aI g y
  go_loopw [14] (fun E wr=>∃c:Nat,c<=d.length/\E=ak c/\cH wr k [au b,au a] 62/\ax j wr) (fun E _=>d.length-(intOf E).toNat)
  case atStart=>exact⟨0,b6 _,rfl,aR.1,aR.2⟩
  case round =>
   obtain⟨c,ao,rfl,g,r⟩:=hrel;by_cases C:c<d.length
   ·have Q:(c:Int)<(d.length:Int):=ae;rcases ag a3 with⟨_,a4⟩|⟨l,o,bg,aL,bs,aA,aN⟩
    ·rw[a4]at C;simp at C
    obtain⟨a_,-,a7⟩:=gL aL;subst a_ a7;have Y:=w.trans (r.mono ae);have cU:wr.cell? (aq l (o+c))=some (.string (ai d[c])):=(Y.cell (p:=⟨l,o+c,none⟩) aA).trans (aN c C);have M:=cp aA Y.size;have a8:=ag aV _ (bM C);generalize d[c]=f at *;have J:=g.cell 0 am;have ap:=g.cell 1 am;simp only[cw,cF]at J ap;have ad:Hid (∀e,ax j e->az 37 #[aO zP,.agg #[au b,au a],au f] e (aP (au (lq ρ b a f)) e)):=fun e T=>Jt ρ f b a _ e ar av ae (a0.next T);have ab:Hid (∀e,ax j e->az 38 #[aO aT,.agg #[au b,au a],au f] e (aP (au (lq ρ b a f)) e)):=fun e T=>SK ρ _ b a f e ae ar av (a9.next T);generalize lq ρ b a f=be at *;have B:qi j k l (o+c) b a f wr.drew:=⟨J,ap,cU,M,g,r.drew⟩
    have aj:=af B;clear aN aL r Y a8 g B;go_wp2_with fail
    go_region_held (fun i=>i.cell? (aq k 0)=some (au b)/\i.cell? (aq k 1)=some (au a)/\i.cell? (aq l (o+c))=some (au f)/\l<i.heap.size/\cH i k [au b,au a] 62/\ax j i) (first|assumption|exact aj)
     (first|(go_at_call 37;go_loud (have h:=(by assumption:qi j k l (o+c) b a f _);refine(h.of (ad _ h.2.2.2.2.2)).mono ?_;clear h;rintro n bd ⟨rfl,h⟩)))
    obtain⟨J,ap,cU,M,g,r⟩:=h;have B:qi j k l (o+c) b a f bd.drew:=⟨J,ap,cU,M,g,r.drew⟩
    have aM:=af B;clear g r B aj ad;go_wp2_with fail
    go_region_held (fun i=>i.cell? (aq k 0)=some (au b)/\i.cell? (aq k 1)=some (au a)/\i.cell? (aq l (o+c))=some (au f)/\l<i.heap.size/\cH i k [au b,au a] 62/\ax j i) (first|assumption|exact aM)
     (first|(go_at_call 38;go_loud (have h:=(by assumption:qi j k l (o+c) b a f _);refine(h.of (ab _ h.2.2.2.2.2)).mono ?_;clear h;rintro n bp ⟨rfl,h⟩)))
    have a1:=af (aQ h.2.2.2.2.1 h.2.2.2.2.2);clear h aM ab;go_wp2;exact⟨⟨c+1,ae,bq,a1⟩,ci⟩
   ·have Q:¬(c:Int)<(d.length:Int):=ae;have aU:=af (w.trans (r.mono ae));clear r g;go_wp2;go_ret;exact⟨rfl,aU⟩
section
open Go.ChangeShapes Go.WideShapes Go.ChangeAt Go.RowKit
section
variable {H:Type} {enc:TypeId×Value->H}
theorem OD:ownKnob prog.godebug=none:=aB
theorem OE{a:World}(d:a.ShapedOpen prog):bT a:=by have c:∃m,a.cell? (aq 0 0)=some (ak m) := cell_of_shapedOpen_int (zero:=#[ak 0]) (t:=3) d (qN aB) aB rfl aB aB underlying3;refine⟨?_,c⟩;obtain⟨m,e⟩:=c;rcases Nat.eq_zero_or_pos a.heap.size with b|b;{simp[World.cell?,GE (show a.heap.size<=0 by omega)]at e};{exact b}
end
end
theorem ap:Rows.framesRow.wf (OpenSpec.ofChange (OpenSpec.ofChange Rows.framesSpec).bare)=true:=aB
theorem aK:f9.params.all (prog.readableRec ·)=true:=aB
theorem b9:namedTie prog Rows.framesRow.named (OpenSpec.ofChange Rows.framesSpec).bare.vars=true:=aB
theorem cm:(Rows.framesRow.stops==[])=true:=aB
theorem hZ:(Rows.framesRow.knobs==[])=true:=aB
theorem me:(Rows.framesRow.inPlace==prog.inPlace 9)=true:=aB
theorem ox:(Rows.framesRow.unfollowed==prog.unfollowed 9)=true:=aB
theorem oz:(Rows.framesRow.recurses==prog.recurses 9)=true:=aB
theorem OF:(Rows.framesRow.named==prog.varsNamed 9)=true:=aB
theorem OG:(Rows.framesRow.maps==(f9.params.toList++(OpenSpec.ofChange Rows.framesSpec).bare.plain.varTypes prog).any (prog.mapsRec ·))=true:=aB
theorem OH:(Rows.framesRow.ifaces==(f9.params.toList++(OpenSpec.ofChange Rows.framesSpec).bare.plain.varTypes prog).any (prog.ifacesRec ·))=true:=aB
theorem OI:(Rows.framesRow.mapsOut==prog.mapsAmong f9.resultTypes.toList)=true:=aB
theorem OJ:(Rows.framesRow.loops==(f9.params.toList++(OpenSpec.ofChange Rows.framesSpec).bare.plain.varTypes prog).any (prog.loopsFrom ·))=true:=aB
theorem N6:(Rows.framesRow.wideKeys==(f9.params.toList++(OpenSpec.ofChange Rows.framesSpec).bare.plain.varTypes prog++f9.resultTypes.toList).any (prog.wideKeysFrom ·))=true:=aB
theorem N7:(OpenSpec.ofChange Rows.framesSpec).bare.vars.all (prog.varReadable ·)=true:=aB
theorem N8:f9.resultTypes.all (fun a=>prog.readableRec a&&decide (a<prog.types.size))=true:=aB
theorem JG:(Rows.framesRow.ifacesOut==f9.resultTypes.toList.any (prog.ifacesRec ·))=true:=aB
theorem wJ:(Rows.framesRow.loopsOut==f9.resultTypes.toList.any (prog.loopsFrom ·))=true:=aB
theorem N9:(Rows.framesRow.plainKeys==prog.plainKeys)=true:=aB
theorem N_:Rows.framesRow.shortTexts.isNone=true:=aB
theorem Oa:(Rows.framesRow.lifted==prog.liftsFinal)=true:=aB
theorem Ob:(prog.make==some Rows.framesRow.make)=true:=aB
theorem CF:(Rows.framesRow.pinned==Rows.framesRow.pinnedBy)=true:=aB
theorem up:(Rows.framesRow.veiled==(f9.params.toList++(OpenSpec.ofChange Rows.framesSpec).bare.plain.varTypes prog++f9.resultTypes.toList).any (prog.veiledRec ·))=true:=aB
theorem Oc:Rows.framesRow.veiledFits prog f9.params.toList (f9.params.toList++(OpenSpec.ofChange Rows.framesSpec).bare.plain.varTypes prog++f9.resultTypes.toList)=true:=aB
theorem Od:joinedFacts prog 9 f9 (OpenSpec.ofChange Rows.framesSpec).bare Rows.framesRow=true:=by simp only[joinedFacts,bW];exact⟨⟨⟨⟨⟨⟨⟨⟨⟨⟨⟨⟨⟨⟨⟨⟨⟨⟨⟨⟨⟨⟨⟨⟨⟨⟨⟨⟨⟨⟨⟨ap,cK⟩,cx⟩,aK⟩,b9⟩,cm⟩,J9⟩,hZ⟩,ON⟩,me⟩,ox⟩,oz⟩,OF⟩,OG⟩,OH⟩,OI⟩,OJ⟩,N6⟩,N7⟩,N8⟩,JG⟩,wJ⟩,N9⟩,N_⟩,OO⟩,KV⟩,Oa⟩,Ob⟩,aB⟩,CF⟩,up⟩,Oc⟩
theorem Mt:prog.funcNamed Rows.framesRow.func=some 9:=aB
end Go.Proofs.YtkkpahmoljiepaaGreatDoor
