import Derived.Test.YtkkpahmoljiepaaGreatDoorJ06
set_option maxRecDepth 1000000
set_option maxHeartbeats 12800000
set_option linter.unusedSimpArgs false
set_option linter.unusedVariables false
namespace Go.Proofs.YtkkpahmoljiepaaGreatDoor
open Go.RowKit Go.Proofs.Tryz
theorem oJ(c:UInt8):∀(l:ah),(c ∉ l/\az c l = [l])\/∃a b,l=a++c :: b/\c ∉ a/\az c l=a :: az c b
 | []=>.inl ⟨ar,rfl⟩
 | x :: r=>by
  by_cases hx:x=c;{subst hx;exact .inr ⟨[],r,rfl,ar,AL x [] r ar⟩};{
  rcases oJ c r with⟨h1,_⟩|⟨a,b,h1,h2,_⟩;{
  have hn:c ∉ x :: r:=by simp only[ei,EU];exact⟨fun e=>hx e.symm,h1⟩
  exact .inl ⟨hn,AK c _ hn⟩};{
  have hn:c ∉ x :: a:=by simp only[ei,EU];exact⟨fun e=>hx e.symm,h2⟩
  refine .inr ⟨x :: a,b,by rw[h1];rfl,hn,?_⟩;rw[h1];exact AL c (x :: a) b hn}}
def fT(c:UInt8):List ah->ah
 | []=>[]
 | [x]=>x
 | x :: y :: t=>x++c :: fT c (y :: t)
theorem C8(c:UInt8)(s:ah):fT c (az c s)=s:=by
 have key:∀(n:Nat) (s:ah),s.length<=n->fT c (az c s)=s:=by{
 intro n;induction n with
 | zero=>intro s h;obtain rfl:s = []:=fp ae;rfl
 | succ n ih =>{
 intro s h;rcases oJ c s with⟨_,e⟩|⟨a,b,e1,_,e⟩;{rw[e];rfl};{
 have hb:=ih b (by rw[e1]at h;simp at h;omega);rw[e];cases hs:az c b with
 | nil=>exact absurd hs (pP c b)
 | cons y t =>{rw[hs]at hb;rw[fT,hb,e1]}}}};exact key s.length s aA
theorem Uw(c:UInt8)(x:ah):∀(l:List ah),l≠[]->fT c (l++[x])=fT c l++c :: x
 | [],h=>absurd rfl h
 | [y],_=>rfl
 | y :: z :: t,_=>by rw[fU,fU,fT,<- fU,Uw c x (z :: t) ar,fT];simp
def KT:List ah->Option ai
 | x0 :: x1 :: x2 :: y :: t=>if iC x0 && dz 86400 x1 && cE (gL x2) (y :: t)then some (x0,iY 86400 x1,gL x2,fT 32 (y :: t))else none
 | _=>none
theorem am3(s:ah):gQ s=KT (az 32 s):=by
 unfold gQ Lib.splitN;rcases oJ 32 s with⟨h0,e0⟩|⟨a,b,r0,h0,e0⟩;{rw[N9 32 _ s h0,e0];rfl};have l0:s.length=a.length+1+b.length:=by rw[r0];simp;omega
 obtain⟨k0,hk0⟩:∃k,min 4 (s.length+1) - 1=k+1:=⟨min 4 (s.length+1) - 2,ae⟩;rw[hk0,e0];conv=>lhs;rw[r0]
 rw[N_ 32 k0 a b h0];rcases oJ 32 b with⟨h1,e1⟩|⟨a1,b1,r1,h1,e1⟩;{rw[N9 32 _ b h1,e1];rfl};have l1:b.length=a1.length+1+b1.length:=by rw[r1];simp;omega
 obtain⟨k1,kO⟩:∃k,k0=k+1:=⟨k0 - 1,ae⟩;rw[kO,e1];conv=>lhs;rw[r1]
 rw[N_ 32 k1 a1 b1 h1];rcases oJ 32 b1 with⟨h2,e2⟩|⟨a2,b2,r2,h2,e2⟩;{rw[N9 32 _ b1 h2,e2];rfl};have l2:b1.length=a2.length+1+b2.length:=by rw[r2];simp;omega
 obtain rfl:k1=1:=ae;rw[e2];conv=>lhs;rw[r2]
 rw[N_ 32 0 a2 b2 h2];have hj:=C8 32 b2;cases hs:az 32 b2 with
 | nil=>exact absurd hs (pP 32 b2)
 | cons y t =>{rw[hs]at hj;show(if iC a && dz 86400 a1 && cE (gL a2) (az 32 b2)then some (a,iY 86400 a1,gL a2,b2)else none)=KT (a :: a1 :: a2 :: y :: t);rw[hs,KT,hj]}
theorem Ux(c:UInt8)(b:ah):∀(a:ah),az c (a++c :: b)=az c a++az c b:=by
 intro a;have key:∀(n:Nat) (a:ah),a.length<=n->az c (a++c :: b)=az c a++az c b:=by{
 intro n;induction n with
 | zero=>intro a h;obtain rfl:a = []:=fp ae;exact AL c [] b ar
 | succ n ih =>{intro a h;rcases oJ c a with⟨h1,e⟩|⟨x,y,e1,h1,e⟩;{rw[e,AL c a b h1];rfl};{rw[e,e1,fP,fU,AL c x _ h1,ih y (by rw[e1]at h;simp at h;omega)];rfl}}};exact key a.length a aA
theorem H9{c:UInt8}{a b:ah}(h:az c a=az c b):a=b:=by rw[<- C8 c a,h,C8]
theorem abP(c:UInt8):∀(a b:List ah),a≠[]->b≠[]->fT c (a++b)=fT c a++c :: fT c b
 | [],_,h,_=>absurd rfl h
 | [x],b,_,hb=>by
  cases b with
  | nil=>exact absurd rfl hb
  | cons y t=>rfl
 | x :: y :: t,b,_,hb=>by rw[fU,fU,fT,<- fU,abP c (y :: t) b ar hb,fT];simp
theorem KU(l o:ah):lR (az 46 l) (az 46 o)=dy l o:=by
 have hne:=pP 46 o;unfold lR dy Lib.hasSuffix;rw[rE];simp only[cY,tj,xK,fe,ZU];constructor;{
 rintro⟨h1,h2⟩;have hd:=j9 ((az 46 l).length - (az 46 o).length) (az 46 l);rw[h2]at hd;cases hp:(az 46 l).take ((az 46 l).length - (az 46 o).length)with
 | nil =>{rw[hp,gb]at hd;exact .inl (H9 hd.symm)}
 | cons a t =>{rw[hp]at hd;refine .inr ⟨fT 46 (a :: t),?_⟩;have:=abP 46 (a :: t) (az 46 o) ar hne;rw[hd,C8,C8]at this;exact this.symm}};{rintro(rfl|⟨a,ha⟩);{exact⟨bH _,ar⟩};{rw[<- ha,Ux];exact⟨ar,ar⟩}}
section
variable {κ:Type}
def wP(k:ai->κ):List ai->Prop
 | []=>True
 | r :: t=>(∀a b,t=a++b->(∃x∈a,k x≠k r)->∀y∈b,k y≠k r)/\wP k t
theorem wP.drop{k:ai->κ} : ∀(l:List ai) (n:Nat),wP k l->wP k (l.drop n)
 | [],n,h=>by simp;trivial
 | r :: t,0,h=>h
 | r :: t,n+1,h=>by rw[List.drop_succ_cons];exact wP.drop t n h.2
theorem am4{a b t:List ai}(h:a++b=t):b=t.drop a.length:=by subst h;simp
theorem abQ{a b t:List ai}(h:a++b=t)(p:ai->Bool):t.filter p=a.filter p++b.filter p:=by subst h;simp
theorem am5{k:ai->κ}{r:ai}{t:List ai}(h:wP k (r :: t))(bN:ai->ai->Bool)(hs:∀a b,bN a b=true ↔ k a=k b):∀y∈t.dropWhile (bN r),k y≠k r:=by
 intro y hy;cases hd:t.dropWhile (bN r)with
 | nil=>rw[hd]at hy;cases hy
 | cons z u =>{have hz:bN r z=false:=by{have:=List.head?_dropWhile_not (bN r) t;rw[hd]at this;simpa using this};have abR:k z≠k r:=fun e=>by{have:=(hs r z).2 e.symm;rw[hz]at this;cases this};rw[hd]at hy;rcases ei.1 hy with rfl|hy;{exact abR};{have e:t=(t.takeWhile (bN r)++[z])++u:=by{have:=(xM (p:=bN r) (l:=t)).symm;rw[hd]at this;simpa using this};exact h.1 _ _ e ⟨z,ar,abR⟩ y hy}}
theorem Uy{k:ai->κ}(bN:ai->ai->Bool)(hs:∀a b,bN a b=true ↔ k a=k b):∀(f n:Nat) (l:List ai),l.length<=f->wP k l ->
  (∀x∈jy bN f n l,∃r∈l,x.2.head? = some r/\x.2=l.filter (bN r))/\(∀r∈l,∃x∈jy bN f n l,x.2=l.filter (bN r))
 | 0,n,l,hl,_=>by obtain rfl:l = []:=fp ae;exact⟨fun x hx=>(by cases hx),fun r hr=>(by cases hr)⟩
 | f+1,n,[],_,_=>⟨fun x hx=>(by cases hx),fun r hr=>(by cases hr)⟩
 | f+1,n,r :: t,hl,hg=>by
  have om:bN r r=true:=(hs r r).2 rfl;have r_:=am5 hg bN hs;have Fv:=xM (p:=bN r) (l:=t);have am6:wP k (t.dropWhile (bN r)):=by{have e:t.dropWhile (bN r)=t.drop (t.takeWhile (bN r)).length:=am4 Fv;rw[e];exact wP.drop t _ hg.2};have hlen:(t.dropWhile (bN r)).length<=f:=by{have:=dE List.length Fv;rw[bj]at this;simp at hl;omega};obtain⟨i1,i2⟩:=Uy bN hs f (n+1+(t.takeWhile (bN r)).length) (t.dropWhile (bN r)) hlen am6;have Uz:∀y∈t.takeWhile (bN r),bN r y=true:=fun y hy=>by{have:=List.all_takeWhile (p:=bN r) (l:=t);exact vT.1 this y hy};have hrun:(r :: t).filter (bN r)=r :: t.takeWhile (bN r):=by{rw[rG om];congr 1;rw[abQ Fv,Cu.2 Uz,rH.2 (fun y hy hc=>r_ y hy ((hs r y).1 hc).symm),h_]};have abS:∀s∈t.dropWhile (bN r),(r :: t).filter (bN s)=(t.dropWhile (bN r)).filter (bN s):=fun s hsm=>by{have fk:=r_ s hsm;have hn:bN s r=false:=by{rw[<- qI,hs];exact fk};rw[uw (by rw[hn];simp)];rw[abQ Fv,rH.2 (fun y hy hc=>?_),gb];have e1:=(hs r y).1 (Uz y hy);have e2:=(hs s y).1 hc;exact fk (e2.trans e1.symm)};have hmem:∀s∈t.dropWhile (bN r),s∈t:=fun s hsm=>by rw[<- Fv];exact SN _ hsm
  refine⟨fun x hx=>?_,fun s hsm=>?_⟩;{rw[jy]at hx;rcases ei.1 hx with rfl|hx;{exact⟨r,ar,rfl,hrun.symm⟩};{obtain⟨s,h1,h2,h3⟩:=i1 x hx;exact⟨s,by simp[hmem s h1],h2,by rw[h3,abS s h1]⟩}};{rw[jy];rcases ei.1 hsm with rfl|hsm;{exact⟨_,List.mem_cons_self,hrun.symm⟩};{rw[<- Fv]at hsm;rcases gm.1 hsm with h|h;{refine⟨_,List.mem_cons_self,?_⟩;have e:bN s=bN r:=by{funext y;have hk:=(hs r s).1 (Uz s h);rw[rE,hs,hs,hk]};rw[e];exact hrun.symm};{obtain⟨x,hx,e⟩:=i2 s h;exact⟨x,jY _ hx,by rw[e,abS s h]⟩}}}
end
section
open Go.RowKit Go.Sort
section
variable {α:Type} (lt:α->α->Bool)
def cG:List α->List α->List α
 | [],ys=>ys
 | a :: xs,[]=>a :: xs
 | a :: xs,b :: ys=>if lt b a then b :: cG (a :: xs) ys else a :: cG xs (b :: ys)
termination_by xs ys=>xs.length+ys.length
structure ny:Prop where
 tr:∀x y z,lt x y=true->lt y z=true->lt x z=true
 nt:∀x y z,lt x y=false->lt y z=false->lt x z=false
def fN(l:List α):Prop:=l.Pairwise fun x y=>lt y x=false
@[simp] theorem UA (l:List α):cG lt [] l=l:=by unfold cG;rfl
@[simp] theorem O7 (l:List α):cG lt l []=l:=by cases l <;> simp[cG]
theorem O8(a b:α)(xs ys:List α):cG lt (a :: xs) (b :: ys)=if lt b a then b :: cG lt (a :: xs) ys else a :: cG lt xs (b :: ys):=by conv=>lhs;unfold cG
theorem p3{a b:α}(xs ys:List α)(h:lt b a=true):cG lt (a :: xs) (b :: ys)=b :: cG lt (a :: xs) ys:=by rw[O8,aJ h]
theorem sg{a b:α}(xs ys:List α)(h:lt b a=false):cG lt (a :: xs) (b :: ys)=a :: cG lt xs (b :: ys):=by rw[O8,aF (by simp[h])]
theorem Bf(A2 B2:List α):∀(A1 B1:List α),(∀b∈B1,∀a∈A2,lt b a=true)->(∀a∈A1,∀b∈B2,lt b a=false)->cG lt (A1++A2) (B1++B2)=cG lt A1 B1++cG lt A2 B2
 | [],[],_,_=>by simp
 | [],b :: B1,h,k=>by
  have ih:=Bf A2 B2 [] B1 (fun b hb=>h b (by simp[hb])) k;cases A2 with
  | nil=>simp
  | cons a A2 =>{simp only[gb,UA,fU]at ih ⊢;rw[p3 lt _ _ (h b ar a ar),ih]}
 | a :: A1,[],h,k=>by
  have ih:=Bf A2 B2 A1 [] h (fun a ha=>k a (by simp[ha]));cases B2 with
  | nil=>simp
  | cons b B2 =>{simp only[gb,O7,fU]at ih ⊢;rw[sg lt _ _ (k a ar b ar),ih]}
 | a :: A1,b :: B1,h,k=>by cases e:lt b a;{have ih:=Bf A2 B2 A1 (b :: B1) h (fun a ha=>k a (by simp[ha]));simp only[fU]at ih ⊢;rw[sg lt _ _ e,sg lt _ _ e,ih,fU]};{have ih:=Bf A2 B2 (a :: A1) B1 (fun b hb=>h b (by simp[hb])) k;simp only[fU]at ih ⊢;rw[p3 lt _ _ e,p3 lt _ _ e,ih,fU]}
termination_by A1 B1=>A1.length+B1.length
theorem KV(hw:ny lt):∀(A B C:List α),cG lt (cG lt A B) C=cG lt A (cG lt B C)
 | [],B,C=>by simp
 | a :: A,[],C=>by simp
 | a :: A,b :: B,[]=>by simp
 | a :: A,b :: B,c :: C=>by cases dw:lt b a;{cases Fw:lt c a;{have ih:=KV hw A (b :: B) (c :: C);rw[sg lt _ _ dw,sg lt _ _ Fw,ih];cases hcb:lt c b;{rw[sg lt _ _ hcb,sg lt _ _ dw]};{rw[p3 lt _ _ hcb,sg lt _ _ Fw]}};{have hcb:lt c b=true:=by{cases e:lt c b;{have:=hw.nt _ _ _ e dw;rw[Fw]at this;cases this};{rfl}};have ih:=KV hw (a :: A) (b :: B) C;rw[p3 lt _ _ hcb,p3 lt _ _ Fw,<- ih,sg lt _ _ dw,p3 lt _ _ Fw]}};{cases hcb:lt c b;{have ih:=KV hw (a :: A) B (c :: C);rw[p3 lt _ _ dw,sg lt _ _ hcb,sg lt _ _ hcb,p3 lt _ _ dw,ih]};{have Fw:=hw.tr _ _ _ hcb dw;have ih:=KV hw (a :: A) (b :: B) C;rw[p3 lt _ _ hcb,p3 lt _ _ Fw,<- ih,p3 lt _ _ dw,p3 lt _ _ hcb]}}
termination_by A B C=>A.length+B.length+C.length
def iN(l:List α):List α:=l.foldl (fun s x=>cG lt s [x]) []
theorem Fx(l:List α)(x:α):iN lt (l++[x])=cG lt (iN lt l) [x]:=by simp[iN]
theorem am7(hw:ny lt)(A B:List α):iN lt (A++B)=cG lt (iN lt A) (iN lt B):=by
 obtain⟨n,hn⟩:=bF B.length;induction n generalizing B with
 | zero=>have:B = []:=td.1 hn.symm;subst this;simp[iN]
 | succ n ih =>{rcases sY B with rfl|⟨B',x,rfl⟩;{simp at hn};{rw[sW]at hn ⊢;rw[<- fP,Fx,Fx,ih B' (by simp at hn;omega),KV lt hw]}}
theorem KW:∀(A B:List α),(cG lt A B).length=A.length+B.length
 | [],B=>by simp
 | a :: A,[]=>by simp
 | a :: A,b :: B=>by cases e:lt b a;{rw[sg lt _ _ e,bP,KW A (b :: B)];simp;omega};{rw[p3 lt _ _ e,bP,KW (a :: A) B];simp;omega}
termination_by A B=>A.length+B.length
theorem KX(l:List α):(iN lt l).length=l.length:=by
 obtain⟨n,hn⟩:=bF l.length;induction n generalizing l with
 | zero=>have:l = []:=td.1 hn.symm;subst this;simp[iN]
 | succ n ih =>{rcases sY l with rfl|⟨l',x,rfl⟩;{simp at hn};{rw[sW]at hn ⊢;rw[Fx,KW,ih l' (by simp at hn;omega)];simp}}
theorem O9(z:α):∀(A B:List α),z∈cG lt A B->z∈A\/z∈B
 | [],B,h=>by simpa using h
 | a :: A,[],h=>by simpa using h
 | a :: A,b :: B,h=>by cases e:lt b a;{rw[sg lt _ _ e]at h;rcases ei.1 h with h|h;{exact .inl (by simp[h])};{exact(O9 z A (b :: B) h).imp (fun h=>jY _ h) id}};{rw[p3 lt _ _ e]at h;rcases ei.1 h with h|h;{exact .inr (by simp[h])};{exact(O9 z (a :: A) B h).imp id (fun h=>jY _ h)}}
termination_by A B=>A.length+B.length
theorem am8(hw:ny lt){x y:α}(h:lt x y=true)(am9:lt x x=false):lt y x=false:=by cases e:lt y x;{rfl};{have:=hw.tr _ _ _ h e;rw[am9]at this;cases this}
theorem UB(hw:ny lt)(ir:∀x,lt x x=false):∀(A B:List α),fN lt A->fN lt B->fN lt (cG lt A B)
 | [],B,_,h=>by simpa using h
 | a :: A,[],h,_=>by simpa using h
 | a :: A,b :: B,hA,hB=>by have hA':=xL.1 hA;have jA:=xL.1 hB;cases e:lt b a;{rw[sg lt _ _ e];refine xL.2 ⟨fun z hz=>?_,UB hw ir A (b :: B) hA'.2 hB⟩;rcases O9 lt z _ _ hz with h|h;{exact hA'.1 z h};{rcases ei.1 h with rfl|h;{exact e};{exact hw.nt _ _ _ (jA.1 z h) e}}};{rw[p3 lt _ _ e];refine xL.2 ⟨fun z hz=>?_,UB hw ir (a :: A) B hA jA.2⟩;have hab:=am8 lt hw e (ir b);rcases O9 lt z _ _ hz with h|h;{rcases ei.1 h with rfl|h;{exact hab};{exact hw.nt _ _ _ (hA'.1 z h) hab}};{exact jA.1 z h}}
termination_by A B=>A.length+B.length
theorem KY(hw:ny lt)(ir:∀x,lt x x=false)(l:List α):fN lt (iN lt l):=by
 obtain⟨n,hn⟩:=bF l.length;induction n generalizing l with
 | zero=>have:l = []:=td.1 hn.symm;subst this;simp[iN,fN]
 | succ n ih =>{rcases sY l with rfl|⟨l',x,rfl⟩;{simp at hn};{rw[sW]at hn ⊢;rw[Fx];exact UB lt hw ir _ _ (ih l' (by simp at hn;omega)) (by simp[fN])}}
theorem am_(hw:ny lt){S:List α}{x y:α}(hs:fN lt (S++[y]))(h:lt x y=false):cG lt (S++[y]) [x]=S++[y]++[x]:=by
 have:=Bf lt [] [x] (S++[y]) [] ar (fun a ha b hb=>by{
 obtain rfl:b=x:=by simpa using hb
 rcases gm.1 ha with ha|ha;{exact hw.nt _ _ _ h ((oC.1 hs).2.2 a ha y ar)};{
 obtain rfl:a=y:=by simpa using ha
 exact h}})
 simpa using this
theorem ana{S:List α}{x y:α}(h:lt x y=true):cG lt (S++[y]) [x]=cG lt S [x]++[y]:=by
 have:=Bf lt [y] [] S [x] (fun b hb a ha=>by{
 obtain rfl:b=x:=by simpa using hb
 obtain rfl:a=y:=by simpa using ha
 exact h}) ar
 simpa using this
end
section
variable {α:Type} [Inhabited α] (lt:α->α->Bool)
theorem H_{d:Array α}{X Z:List α}{u:α}(h:d.toList=X++u :: Z):d[X.length]! = u:=by
 obtain rfl:d=(X++u :: Z).toArray:=by rw[<- h]
 simp
theorem O_{d:Array α}{X Y Z:List α}{u v:α}(h:d.toList=X++u :: (Y++v :: Z)):(swp d X.length (X.length+1+Y.length)).toList=X++v :: (Y++u :: Z):=by have hu:d[X.length]! = u:=H_ h;have hv:d[X.length+1+Y.length]! = v:=by{have:=H_ (d:=d) (X:=X++u :: Y) (u:=v) (Z:=Z) (by rw[h];simp);rw[<- this];congr 1;simp;omega};unfold swp;rw[hu,hv,Sw,Sw,h];rw[AA _ _ ae,rJ,eC];rw[AA _ _ ae,show X.length+1+Y.length - X.length=Y.length+1 from ae,eX,AA _ _ ae,rJ,eC]
theorem abT(d:Array α)(i j:Nat)(h:i≠j):swp d i j=swp d j i:=by unfold swp;rw[Array.setIfInBounds_comm _ _ h]
def qX:Nat->Nat->Nat->Array α->Array α
 | _,_,0,d=>d
 | a,b,n+1,d=>qX (a+1) (b+1) n (swp d a b)
theorem Pa:∀(A B:List α) (d:Array α) (X Y Z:List α),A.length=B.length->d.toList=X++(A++(Y++(B++Z)))->(qX X.length (X.length+A.length+Y.length) A.length d).toList=X++(B++(Y++(A++Z)))
 | [],[],d,X,Y,Z,_,h=>by simpa [qX]using h
 | [],b :: B,_,_,_,_,h,_=>by simp at h
 | a :: A,[],_,_,_,_,h,_=>by simp at h
 | a :: A,b :: B,d,X,Y,Z,hl,h=>by
  have h1:d.toList=X++a :: ((A++Y)++b :: (B++Z)):=by rw[h];simp
  have h2:=O_ h1;have ih:=Pa A B (swp d X.length (X.length+1+(A++Y).length)) (X++[b]) (Y++[a]) Z (by simpa using hl) (by rw[h2];simp);rw[bP,qX];rw[show X.length+(A.length+1)+Y.length=X.length+1+(A++Y).length from aP];have e1:(X++[b]).length=X.length+1:=ar;have e2:(X++[b]).length+A.length+(Y++[a]).length=X.length+1+(A++Y).length+1:=aP;rw[e1]at ih e2;rw[e2]at ih;rw[ih];simp
theorem abU(hw:ny lt):∀(n:Nat) (S:List α) (d:Array α) (P Q:List α) (x:α),S.length=n->fN lt S->d.toList=P++(S++x :: Q)->(insInner lt P.length (P.length+n) d).toList=P++(cG lt S [x]++Q)
 | 0,S,d,P,Q,x,hn,_,h=>by
  obtain rfl:S = []:=td.1 hn;have:insInner lt P.length (P.length+0) d=d:=by{
  cases e:P.length with
  | zero=>rfl
  | succ k=>rw[gK,insInner,aF ar]};rw[this,h];simp
 | n+1,S,d,P,Q,x,hn,hs,h=>by
  rcases sY S with rfl|⟨S',y,rfl⟩;{simp at hn};{
  rw[sW]at *;have hn':S'.length=n:=by simpa using hn
  have hy:d[P.length+n]! = y:=by{have:=H_ (d:=d) (X:=P++S') (u:=y) (Z:=x :: Q) (by rw[h];simp);rw[<- this];congr 1;simp;omega};have hx:d[P.length+n+1]! = x:=by{have:=H_ (d:=d) (X:=P++S'++[y]) (u:=x) (Z:=Q) (by rw[h];simp);rw[<- this];congr 1;simp;omega};rw[<- CB,insInner,hx,hy];cases e:lt x y;{rw[aF ar,am_ lt hw hs e,h];simp};{rw[aJ aP,ana lt e,abT _ _ _ ae];have h2:=O_ (d:=d) (X:=P++S') (Y:=[]) (Z:=Q) (u:=y) (v:=x) (by rw[h];simp);rw[show(P++S').length=P.length+n from aP,show P.length+n+1+([]:List α).length=P.length+n+1 from rfl]at h2;have:=abU hw n S' _ P (y :: Q) x hn' (oC.1 hs).1 (by rw[h2];simp);rw[this];simp}}
theorem abV(hw:ny lt)(ir:∀x,lt x x=false)(P Q:List α):∀(f:Nat) (S1 S2:List α) (d:Array α),S2.length=f->d.toList=P++(iN lt S1++(S2++Q))->(insOuter lt P.length (P.length+S1.length+S2.length) (P.length+S1.length) d).toList=P++(iN lt (S1++S2)++Q)
 | 0,S1,S2,d,hf,h=>by obtain rfl:S2 = []:=td.1 hf;rw[insOuter,aF ar,h];simp
 | f+1,S1,[],d,hf,h=>by simp at hf
 | f+1,S1,x :: S2,d,hf,h=>by rw[insOuter,aJ ar];have h2:=abU lt hw S1.length (iN lt S1) d P (S2++Q) x (KX lt _) (KY lt hw ir _) (by rw[h];simp);rw[<- Fx]at h2;have ih:=abV hw ir P Q f (S1++[x]) S2 _ (by simpa using hf) h2;rw[show P.length+(S1++[x]).length=P.length+S1.length+1 from aP]at ih;rw[show P.length+S1.length+(x :: S2).length=P.length+S1.length+1+S2.length from aP,ih];simp
theorem abW(hw:ny lt)(ir:∀x,lt x x=false)(P S Q:List α)(d:Array α)(h:d.toList=P++(S++Q)):(insertionSort lt d P.length (P.length+S.length)).toList=P++(iN lt S++Q):=by
 unfold insertionSort;cases S with
 | nil=>rw[insOuter,aF ar,h];simp[iN]
 | cons x S =>{have:=abV lt hw ir P Q S.length [x] S d rfl (by rw[h];simp[iN]);rw[show P.length + [x].length=P.length+1 from rfl,show P.length+1+S.length=P.length+(x :: S).length from aP]at this;rw[this];simp}
end
end
section
open Go.RowKit Go.Sort Go.Shelf
theorem Pb:∀(n a b:Nat) (d:Array ai),(qX a b n d).size=d.size
 | 0,_,_,_=>rfl
 | n+1,a,b,d=>by rw[qX,Pb n,size_swp]
theorem KZ(x:ai):∀v∈ai.aS x,v.oneCell'=true:=fun v hv=>by simp[ai.aS]at hv;rcases hv with rfl|rfl|rfl|rfl <;> rfl
theorem anb(off k g cap a b n:Nat)(hk:∀x,(ai.aS x).length=k)(zE:∀w,Sem.run prog (Go.sizeOf 47) w=.ok k w)(d:Array ai)(w:World)(hH:HoldsK ai.aS k w g off d)(hg:g<w.heap.size)(ha:a+n<=b)(hb:b+n<=d.size)(hd:d.size<=3001) :
  aB 288 #[aD g off d.size cap,aj a,aj b,aj n,.func (.func 103) #[] #[]] w fun e w' =>
   e=.returned (.tuple #[])/\∃q,w'=sortWorldK ai.aS k w g off q (qX a b n d) #[]:=by
 have mixed:prog.follows Departure.mixedOrders=true:=aI;have C9:=Tryz.isAgg47;have HK:Hid (∀x,(ai.aS x).length=k):=hk;clear hk;have HST:Hid (w=sortWorldK ai.aS k w g off 0 d #[]):=by show w=_;unfold sortWorldK;rw[grow_empty];exact(putRowK_self ai.aS k w g off d hH).symm
 have HH:=ag hH;have HG:=ag hg;clear hH;go_enter func288,ntmps288;go_wp2;go_loopg [10] n (fun g1 vi wr=>∃(i q:Nat) (dk:Array ai),vi=aj i/\i+g1=n/\dk.size=d.size/\wr=sortWorldK ai.aS k w g off q dk #[]/\Hid (qX (a+i) (b+i) g1 dk=qX a b n d));case atStart=>exact⟨0,0,d,rfl,ae,rfl,HST,rfl⟩
 case round =>(
 obtain⟨i,q,dk,rfl,ax,hsk,rfl,HO⟩:=hrel;by_cases hlt:i<n;{
 have C_:(i:Int)<(n:Int):=ae;obtain⟨Pc,rfl⟩:∃Pc,gk=Pc+1:=⟨gk - 1,ae⟩;obtain⟨p,hp⟩:=bF (a+i);obtain⟨r,hr⟩:=bF (b+i);have ep:(a:Int)+i=p:=ae;have er:(b:Int)+i=r:=ae;have K0:(p:Int)<(d.size:Int):=ae;have Pg:(r:Int)<(d.size:Int):=ae;obtain⟨xp,tP⟩:∃x,dk[p]! = x:=⟨_,rfl⟩;obtain⟨xr,tQ⟩:∃x,dk[r]! = x:=⟨_,rfl⟩;have qY:HoldsK ai.aS k (sortWorldK ai.aS k w g off q dk #[]).drew g off dk:=holdsK_sortWorldK_c ai.aS k w g off d dk _ _ (af HH) hg hsk;obtain⟨wq,UC⟩:=bF (sortWorldK ai.aS k w g off q dk #[]);rw[<- UC]at qY ⊢;have lp:Sem.run prog (loadCellsFrom (ak g (off+p*k)) 0 k #[]) wq.drew=.ok (ai.aS xp).toArray wq.drew:=by rw[<- tP];exact run_loadCellsFrom_list _ _ _ _ k (HK.out _) (HoldsK.cells qY HK.out ae)
 have lr:Sem.run prog (loadCellsFrom (ak g (off+r*k)) 0 k #[]) wq.drew=.ok (ai.aS xr).toArray wq.drew:=by rw[<- tQ];exact run_loadCellsFrom_list _ _ _ _ k (HK.out _) (HoldsK.cells qY HK.out ae)
 have bnd:∀x,x<dk.size->x*k+k<=dk.size*k:=fun x hx=>by{have:=ES k (show x+1<=dk.size from hx);rwa [Hs,NY]at this};have s1:Sem.run prog (storeCells (ak g (off+p*k)) (ai.aS xr) 0) wq.drew=.ok () (wq.drew.setCells g (off+p*k) (ai.aS xr)):=stores_of_holds _ qY (p*k) _ (by rw[HK.out,size_flatK];exact bnd p ae) (KZ _);have s2:Sem.run prog (storeCells (ak g (off+r*k)) (ai.aS xp) 0) (wq.drew.setCells g (off+p*k) (ai.aS xr))=.ok () ((wq.drew.setCells g (off+p*k) (ai.aS xr)).setCells g (off+r*k) (ai.aS xp)) := stores_of_holds _ (holds_setCells_c qY (p*k) _ (by rw[HK.out,size_flatK];exact bnd p ae)) (r*k) _ (by rw[HK.out,size_setMany,size_flatK];exact bnd r ae) (KZ _);have anc:=ag UC;clear qY UC bnd;obtain⟨cP,si⟩:∃c,c=ai.aS xp:=⟨_,rfl⟩;obtain⟨cR,sj⟩:∃c,c=ai.aS xr:=⟨_,rfl⟩;have abX:cP.length=k:=by rw[si];exact HK.out _
 have abY:cR.length=k:=by rw[sj];exact HK.out _
 rw[<- sj]at s1 lr;rw[<- si]at lp;rw[<- si,<- sj]at s2;have CC:Hid (cP=ai.aS xp/\cR=ai.aS xr):=⟨si,sj⟩;clear si sj;have K4:IntKind.i64.wrap (p:Int)=(p:Int):=by rw[fF];omega
 have K5:IntKind.i64.wrap (r:Int)=(r:Int):=by rw[fF];omega
 have p0:(0:Int)<=(p:Int):=ae;have r0:(0:Int)<=(r:Int):=ae;have bf:Hid (i+(Pc+1)=n/\p=a+i/\r=b+i/\dk[p]! = xp/\dk[r]! = xr/\dk.size=d.size/\i<n/\a+n<=b/\b+n<=d.size/\d.size<=3001):=⟨ax,hp,hr,tP,tQ,hsk,hlt,ha,hb,hd⟩;go_wp2_with fail;clear ax hp hr tP tQ hsk hlt ha hb hd C_ hg;go_big_region_o;all_goals(
 clear lp lr s1 s2 C9 zE mixed K4 K5 p0 r0 ep er K0 Pg;have hib:i<=3001:=by obtain⟨ax,hp,hr,tP,tQ,hsk,hlt,ha,hb,hd⟩:=af bf;omega
 go_wp2;go_roundg Pc;case measure=>omega
 case rel =>(obtain⟨ax,hp,hr,tP,tQ,hsk,hlt,ha,hb,hd⟩:=af bf;refine⟨i+1,q+1,swp dk p r,bW,ae,by rw[size_swp];exact hsk,?_,(show Hid _ from ?_)⟩;{rw[CC.out.1,CC.out.2,af anc,<- tP,<- tQ];exact sortWorldK_swp_c ai.aS k w g off HK.out q dk #[] (af HG) p r ae ae};{show _=_;rw[<- af HO,hp,hr,qX];rfl}))};{have C_:¬(i:Int)<(n:Int):=ae;obtain rfl:gk=0:=ae;go_wp2;go_end0;exact⟨rfl,q,by rw[<- af HO];rfl⟩})
theorem ane(g cap a b n:Nat)(d:Array ai)(w:World)(hH:HoldsK ai.aS 4 w g 0 d)(hg:g<w.heap.size)(ha:a+n<=b)(hb:b+n<=d.size)(hd:d.size<=3001) :
  aB 288 #[aD g 0 d.size cap,aj a,aj b,aj n,.func (.func 103) #[] #[]] w fun e w' =>
   e=.returned (.tuple #[])/\∃q,w'=sortWorldK ai.aS 4 w g 0 q (qX a b n d) #[] :=
 anb 0 4 g cap a b n (fun _=>rfl) Tryz.sizeOf47 d w hH hg ha hb hd
end
section
open Go.RowKit Go.Sort Go.Shelf
theorem anf{w:World}{g:Nat}{d:Array ai}(hH:HoldsK ai.aS 4 w g 0 d):w=sortWorldK ai.aS 4 w g 0 0 d #[]:=by unfold sortWorldK;rw[grow_empty];exact(putRowK_self ai.aS 4 w g 0 d hH).symm
theorem abZ(w:World)(g n m:Nat)(dk dk':Array ai)(os os':Array Obj)(hg:g<w.heap.size)(h:dk'.size=dk.size) :
  sortWorldK ai.aS 4 (sortWorldK ai.aS 4 w g 0 n dk os) g 0 m dk' os'=sortWorldK ai.aS 4 w g 0 (n+m) dk' (os++os'):=grow_step_growK ai.aS 4 w os os' n m g 0 dk dk' hg h
theorem ang(g cap a b n q:Nat)(d dk:Array ai)(os:Array Obj)(w:World)(hH:HoldsK ai.aS 4 w g 0 d)(hg:g<w.heap.size)(hs:dk.size=d.size)(ha:a+n<=b)(hb:b+n<=d.size)(hd:d.size<=3001) :
  aB 288 #[aD g 0 d.size cap,aj a,aj b,aj n,.func (.func 103) #[] #[]] (sortWorldK ai.aS 4 w g 0 q dk os) fun e w' =>
   e=.returned (.tuple #[])/\∃q',w'=sortWorldK ai.aS 4 w g 0 q' (qX a b n dk) os:=by have UD:=holdsK_sortWorldK_c ai.aS 4 w g 0 d dk q os hH hg hs;have h:=ane g cap a b n dk _ UD (dP hg (size_sortWorldK_c ai.aS 4 w g 0 q dk os)) ha ae ae;rw[hs]at h;refine h.mono ?_;rintro e w' ⟨rfl,q',rfl⟩;refine⟨rfl,q+q',?_⟩;rw[abZ w g q q' dk (qX a b n dk) os #[] hg (Pb _ _ _ _)];simp
theorem anh(g cap a m b q:Nat)(d dk:Array ai)(os:Array Obj)(X A' B' Z:List ai)(w:World)(hH:HoldsK ai.aS 4 w g 0 d)(hg:g<w.heap.size)(hs:dk.size=d.size)(hd:d.size<=3001)
  (hl:dk.toList=X++(A'++(B'++Z))) (ea:X.length=a) (em:a+A'.length=m) (eb:m+B'.length=b) (hA:0<A'.length) (hB:0<B'.length) :
  aB 267 #[aD g 0 d.size cap,aj a,aj m,aj b,.func (.func 103) #[] #[]] (sortWorldK ai.aS 4 w g 0 q dk os) fun e w' =>
   e=.returned (.tuple #[])/\∃q' d',w'=sortWorldK ai.aS 4 w g 0 q' d' os/\d'.toList=X++(B'++(A'++Z)):=by
 have hsz:d.size=X.length+(A'.length+(B'.length+Z.length)):=by rw[<- hs,<- uv,hl];simp
 have pX:=ag (fun q dk hs a b n (h1:a+n<=b) (h2:b+n<=d.size)=>ang g cap a b n q d dk os w hH hg hs h1 h2 hd);have ie:b<=3001:=ae;have K6:(m:Int) - a=(A'.length:Int):=ae;have Bg:(b:Int) - m=(B'.length:Int):=ae;obtain⟨i0,lQ⟩:∃i,i=A'.length:=⟨_,rfl⟩;obtain⟨j0,hj0⟩:∃i,i=B'.length:=⟨_,rfl⟩;rw[<- lQ]at K6;rw[<- hj0]at Bg;have HS:=ag (bg hsz (bg hs (bg hl (bg ea (bg em (bg eb (bg hA (bg hB (bg lQ hj0)))))))));have yh:m<=3001:=ae;have UE:a<=m:=ae;have Bh:i0<=3001:=ae;have alv:j0<=3001:=ae;clear hH hsz hs hl ea em eb hA hB hd lQ hj0;obtain⟨w0,hw0⟩:=bF (sortWorldK ai.aS 4 w g 0 q dk os);rw[<- hw0];have wQ:=ag hw0;clear hw0;go_enter func267,ntmps267;go_wp2_with fail;go_loopg [10,11] (i0+j0) (fun g1 vi vj wr=>∃(i j:Nat),vi=aj i/\vj=aj j/\0<i/\0<j/\i+j<=g1/\i<=m/\i<=3001/\j<=3001/\Hid (∃(q:Nat) (dk:Array ai) (X1 A1 B1 Z1:List ai),X1.length+i=m/\A1.length=i/\B1.length=j/\dk.size=d.size/\dk.toList=X1++(A1++(B1++Z1))/\X1++(B1++(A1++Z1))=X++(B'++(A'++Z))/\wr=sortWorldK ai.aS 4 w g 0 q dk os));case atStart =>(obtain⟨hsz,hs,hl,ea,em,eb,hA,hB,lQ,hj0⟩:=af HS;exact⟨i0,j0,by first|rfl|go_num,by first|rfl|go_num,ae,ae,bH _,ae,ae,ae,q,dk,X,A',B',Z,ae,ae,ae,hs,hl,rfl,wQ⟩)
 case round =>(
 obtain⟨i,j,rfl,rfl,ax,hj,Bi,azl,Fy,ani,cu⟩:=hrel;obtain⟨q1,dk1,X1,A1,B1,Z1,e1,e2,e3,e4,e5,e6,hwr⟩:=af cu;have Km:d.size=X1.length+(A1.length+(B1.length+Z1.length)):=by rw[<- e4,<- uv,e5];simp
 obtain⟨p,hp⟩:∃p:Nat,p+i=m:=⟨X1.length,e1⟩;have anj:(m:Int) - i=(p:Int):=ae;by_cases hne:i=j;{subst hne;have H7:((i:Int) != (i:Int))=false:=ar;have HC:=ag (pX q1 dk1 e4 p m i ae ae);have bC:Hid (∀q',∃q'' d',sortWorldK ai.aS 4 w g 0 q' (qX p m i dk1) os=sortWorldK ai.aS 4 w g 0 q'' d' os/\d'.toList=X++(B'++(A'++Z))):=fun q'=>by{refine⟨q',_,rfl,?_⟩;have:=Pa A1 B1 dk1 X1 [] Z1 ae (by simpa using e5);rw[e2,show X1.length=p from ae,show p+i+([]:List ai).length=m from aP]at this;rw[this,<- e6];rfl};rw[<- hwr]at HC;clear cu e1 e2 e3 e4 e5 e6 hwr Km pX wQ;go_wp2_with fail;refine HC.mono ?_;rintro e w2 ⟨rfl,q2,hw2⟩;have fO:=ag hw2;clear hw2;go_wp2_with fail;go_end0;refine⟨rfl,?_⟩;rw[af fO];exact bC q2};{
 have H7:((i:Int) != (j:Int))=true:=by rw[qJ];omega
 by_cases Ff:j<i;{
 have ank:(j:Int)<(i:Int):=ae;obtain⟨t,ht⟩:∃t:Nat,t+j=i:=⟨i - j,ae⟩;have Ph:(i:Int) - j=(t:Int):=ae;have HC:=ag (pX q1 dk1 e4 p m j ae ae);have bC:Hid (∀q',∃(q:Nat) (dk:Array ai) (X1 A1 B1 Z1:List ai),X1.length+t=m/\A1.length=t/\B1.length=j/\dk.size=d.size/\dk.toList=X1++(A1++(B1++Z1))/\X1++(B1++(A1++Z1))=X++(B'++(A'++Z))/\sortWorldK ai.aS 4 w g 0 q' (qX p m j dk1) os=sortWorldK ai.aS 4 w g 0 q dk os):=fun q'=>by{have tR:A1=A1.take j++A1.drop j:=(j9 _ _).symm;have l1:(A1.take j).length=j:=aP;have l2:(A1.drop j).length=t:=aP;generalize A1.take j=A2 at tR l1;generalize A1.drop j=A3 at tR l2;subst tR;have:=Pa A2 B1 dk1 X1 A3 Z1 ae (by rw[e5];simp);rw[l1,show X1.length=p from ae,show p+j+A3.length=m from ae]at this;refine⟨q',_,X1++B1,A3,A2,Z1,aP,l2,l1,by rw[Pb];exact e4,by rw[this];simp,?_,rfl⟩;rw[<- e6];simp};rw[<- hwr]at HC;clear cu e1 e2 e3 e4 e5 e6 hwr Km pX wQ;go_wp2_with fail;refine HC.mono ?_;rintro e w2 ⟨rfl,q2,hw2⟩;have fO:=ag hw2;clear hw2;go_wp2_with fail;go_roundg (t+j);case measure=>omega
 case rel =>(refine⟨t,j,by first|rfl|go_num,by first|rfl|go_num,ae,hj,bH _,ae,ae,ani,?_⟩;rw[af fO];exact bC q2)};{
 have ank:¬(j:Int)<(i:Int):=ae;obtain⟨t,ht⟩:∃t:Nat,t+i=j:=⟨j - i,ae⟩;have Ph:(j:Int) - i=(t:Int):=ae;obtain⟨r,hr⟩:∃r:Nat,r+i=m+j:=⟨m+j - i,ae⟩;have azm:(m:Int)+j - i=(r:Int):=ae;have HC:=ag (pX q1 dk1 e4 p r i ae ae);have bC:Hid (∀q',∃(q:Nat) (dk:Array ai) (X1 A1 B1 Z1:List ai),X1.length+i=m/\A1.length=i/\B1.length=t/\dk.size=d.size/\dk.toList=X1++(A1++(B1++Z1))/\X1++(B1++(A1++Z1))=X++(B'++(A'++Z))/\sortWorldK ai.aS 4 w g 0 q' (qX p r i dk1) os=sortWorldK ai.aS 4 w g 0 q dk os):=fun q'=>by{have hB1:B1=B1.take t++B1.drop t:=(j9 _ _).symm;have l1:(B1.take t).length=t:=aP;have l2:(B1.drop t).length=i:=aP;generalize B1.take t=B2 at hB1 l1;generalize B1.drop t=B3 at hB1 l2;subst hB1;have:=Pa A1 B3 dk1 X1 B2 Z1 ae (by rw[e5];simp);rw[e2,show X1.length=p from ae,show p+i+B2.length=r from ae]at this;refine⟨q',_,X1,B3,B2,A1++Z1,ae,l2,l1,by rw[Pb];exact e4,by rw[this],?_,rfl⟩;rw[<- e6];simp};rw[<- hwr]at HC;clear cu e1 e2 e3 e4 e5 e6 hwr Km pX wQ;go_wp2_with fail;refine HC.mono ?_;rintro e w2 ⟨rfl,q2,hw2⟩;have fO:=ag hw2;clear hw2;go_wp2_with fail;go_roundg (i+t);case measure=>omega
 case rel =>(refine⟨i,t,by first|rfl|go_num,by first|rfl|go_num,ax,ae,bH _,ae,Fy,ae,?_⟩;rw[af fO];exact bC q2)}})
end
section
open Go.RowKit Go.Sort
section
variable {α:Type} (lt:α->α->Bool)
theorem ab0(hw:ny lt){B1:List α}{x z:α}(hs:fN lt (B1++[z]))(h:lt z x=true):∀y∈B1++[z],lt y x=true:=fun y hy=>by
 rcases gm.1 hy with hy|hy
 ·cases e:lt y x
  ·have:=hw.nt _ _ _ ((oC.1 hs).2.2 y hy z ar) e;rw[h]at this;cases this
  ·rfl
 ·obtain rfl:y=z:=by simpa using hy
  exact h
theorem anl(hw:ny lt){B1 B2:List α}{x:α}(hs:fN lt (B1++B2))(h1:∀y,B1.getLast? = some y->lt y x=true)(h2:∀y,B2.head? = some y->lt y x=false):cG lt [x] (B1++B2)=B1++x :: B2:=by
 have hall:∀y∈B1,lt y x=true:=by{rcases sY B1 with rfl|⟨B',z,rfl⟩;{simp};{rw[sW]at *;exact ab0 lt hw (oC.1 hs).1 (h1 z ar)}};have:=Bf lt [x] B2 [] B1 (fun b hb a ha=>by obtain rfl:a=x:=(by simpa using ha);exact hall b hb) ar;rw[gb,UA]at this;rw[this];congr 1;cases B2 with
 | nil=>simp
 | cons y B2=>rw[sg lt _ _ (h2 y rfl),UA]
theorem anm(hw:ny lt){A1 A2:List α}{y:α}(hs:fN lt (A1++A2))(h1:∀x,A1.getLast? = some x->lt y x=false)(h2:∀x,A2.head? = some x->lt y x=true):cG lt (A1++A2) [y]=A1++y :: A2:=by
 have hall:∀x∈A1,lt y x=false:=by{
 rcases sY A1 with rfl|⟨B',z,rfl⟩;{simp};{
 rw[sW]at *;intro x hx;have hz:=h1 z ar;rcases gm.1 hx with hx|hx;{exact hw.nt _ _ _ hz ((oC.1 (oC.1 hs).1).2.2 x hx z ar)};{
 obtain rfl:x=z:=by simpa using hx
 exact hz}}};have:=Bf lt A2 [y] A1 [] ar (fun a ha b hb=>by obtain rfl:b=y:=(by simpa using hb);exact hall a ha);rw[gb,O7]at this;rw[this];congr 1;cases A2 with
 | nil=>simp
 | cons x A2=>rw[p3 lt _ _ (h2 x rfl),O7]
theorem ann(hw:ny lt){A1 A2 B1 B2:List α}(hA:fN lt (A1++A2))(hB:fN lt (B1++B2))(h1:∀x y,A1.getLast? = some x->B2.head? = some y->lt y x=false)(h2:∀x y,A2.head? = some x->B1.getLast? = some y->lt y x=true) :
  cG lt (A1++A2) (B1++B2)=cG lt A1 B1++cG lt A2 B2:=by
 refine Bf lt A2 B2 A1 B1 (fun b hb a ha=>?_) (fun a ha b hb=>?_);{
 rcases sY B1 with rfl|⟨B',z,rfl⟩;{simp at hb};rw[sW]at *;cases A2 with
 | nil=>simp at ha
 | cons x A2 =>{have ano:=h2 x z rfl ar;have dX:=ab0 lt hw (oC.1 hB).1 ano b hb;rcases ei.1 ha with rfl|ha;{exact dX};{have anp:=(xL.1 (oC.1 hA).2.1).1 a ha;cases e:lt b a;{have:=hw.nt _ _ _ e anp;rw[dX]at this;cases this};{rfl}}}};{
 rcases sY A1 with rfl|⟨A',z,rfl⟩;{simp at ha};rw[sW]at *;cases B2 with
 | nil=>simp at hb
 | cons y B2 =>{
 have ab1:=h1 z y ar rfl;have ab2:lt y a=false:=by{
 rcases gm.1 ha with ha|ha;{exact hw.nt _ _ _ ab1 ((oC.1 (oC.1 hA).1).2.2 a ha z ar)};{
 obtain rfl:a=z:=by simpa using ha
 exact ab1}};rcases ei.1 hb with rfl|hb;{exact ab2};{exact hw.nt _ _ _ ((xL.1 (oC.1 hB).2.1).1 b hb) ab2}}}
end
section
variable {α:Type} [Inhabited α]
theorem Pj{d:Array α}{X B Z:List α}(h:d.toList=X++(B++Z)){t:Nat}(ht:t<B.length):d[X.length+t]! = B[t]:=by
 obtain rfl:d=(X++(B++Z)).toArray:=by rw[<- h]
 simp[y_,EO,ht]
omit [Inhabited α]in
theorem Pk{B:List α}{t:Nat}{y:α}(ht:t<=B.length)(h:(B.take t).getLast? = some y):∃(h0:t - 1<B.length),0<t/\B[t - 1]=y:=by
 cases t with
 | zero=>simp at h
 | succ n =>{refine⟨ae,ae,?_⟩;rw[List.getLast?_eq_getElem?]at h;simp only[gD,v_ ht]at h;rw[ze ae]at h;obtain⟨_,h⟩:=jX.1 h;exact h}
omit [Inhabited α]in
theorem Pl{B:List α}{t:Nat}{y:α}(h:(B.drop t).head? = some y):∃(h0:t<B.length),B[t]=y:=by rw[List.head?_drop]at h;exact jX.1 h
end
end
section
open Go.RowKit Go.Sort Go.Shelf
abbrev bm:ai->ai->Bool:=ltOf mJ
section
variable {off k g:Nat} {dk:Array ai} {W:World}
theorem Da(hk:∀x,(ai.aS x).length=k)(h:HoldsK ai.aS k W g off dk)(p:Nat)(hp:p<dk.size):Sem.run prog (loadCellsFrom (ak g (off+p*k)) 0 k #[]) W=.ok (ai.aS dk[p]!).toArray W :=
 run_loadCellsFrom_list _ _ _ _ k (hk _) (HoldsK.cells h hk hp)
theorem UF(p:Nat)(hp:p<dk.size):p*k+k<=dk.size*k:=by have:=ES k (show p+1<=dk.size from hp);rwa [Hs,NY]at this
theorem ab3(hk:∀x,(ai.aS x).length=k)(h:HoldsK ai.aS k W g off dk)(p r:Nat)(hp:p<dk.size)(hr:r<dk.size) :
  Sem.run prog (storeCells (ak g (off+p*k)) (ai.aS dk[r]!) 0) W=.ok () (W.setCells g (off+p*k) (ai.aS dk[r]!)) /\
  Sem.run prog (storeCells (ak g (off+r*k)) (ai.aS dk[p]!) 0) (W.setCells g (off+p*k) (ai.aS dk[r]!))=.ok () ((W.setCells g (off+p*k) (ai.aS dk[r]!)).setCells g (off+r*k) (ai.aS dk[p]!)) :=
 ⟨stores_of_holds _ h (p*k) _ (by rw[hk,size_flatK];exact UF p hp) (KZ _),
  stores_of_holds _ (holds_setCells_c h (p*k) _ (by rw[hk,size_flatK];exact UF p hp)) (r*k) _ (by rw[hk,size_setMany,size_flatK];exact UF r hr) (KZ _)⟩
end
theorem anq(off k g cap a m b q:Nat)(hk:∀x,(ai.aS x).length=k)(zE:∀w,Sem.run prog (Go.sizeOf 47) w=.ok k w)(d dk:Array ai)(os:Array Obj)(X:List ai)(x:ai)(B' Z:List ai)(w:World)(hH:HoldsK ai.aS k w g off d)(hg:g<w.heap.size)(hs:dk.size=d.size)(hd:d.size<=3001)
  (hl:dk.toList=X++x :: (B'++Z)) (ea:X.length=a) (em:a+1=m) (eb:m+B'.length=b) (hB:0<B'.length) (hw:ny bm) (fk:fN bm B') :
  aB 232 #[aD g off d.size cap,aj a,aj m,aj b,.func (.func 103) #[] #[]] (sortWorldK ai.aS k w g off q dk os) fun e w' =>
   e=.returned (.tuple #[])/\∃q' os' d',w'=sortWorldK ai.aS k w g off q' d' os'/\d'.toList=X++(cG bm [x] B'++Z):=by
 have mixed:prog.follows Departure.mixedOrders=true:=aI;have C9:=Tryz.isAgg47;have hsz:d.size=X.length+(1+(B'.length+Z.length)):=by rw[<- hs,<- uv,hl];simp;omega
 have hx:dk[a]! = x:=by rw[<- ea];exact H_ hl
 have HK:=ag hk;have HH:=ag hH;have HG:=ag hg;have HS:=ag (bg hsz (bg hs (bg hl (bg ea (bg hw fk)))));have ie:b<=3001:=ae;have bX:b<=d.size:=ae;have yh:m<=b:=ae;have K6:((m:Int) - a == 1)=true:=by rw[fe];omega
 clear hk hH hg hsz hl ea hw fk;obtain⟨w0,hw0⟩:=bF (sortWorldK ai.aS k w g off q dk os);rw[<- hw0];have wQ:=ag hw0;clear hw0;go_enter func232,ntmps232;go_wp2_with fail;go_loopg [10,11] (b - m) (fun g1 vi vj wr=>∃(i j:Nat),vi=aj i/\vj=aj j/\m<=i/\i<=j/\j<=b/\j - i<=g1/\Hid (∃q os,wr=sortWorldK ai.aS k w g off q dk os)/\Hid ((i=m\/bm dk[i - 1]! x=true)/\(j=b\/bm dk[j]! x=false)));case atStart=>exact⟨m,b,rfl,rfl,bH _,yh,bH _,bH _,⟨q,os,wQ⟩,.inl rfl,.inl rfl⟩
 case round =>(
 obtain⟨i,j,rfl,rfl,yi,Bi,hjb,K7,yj,cu⟩:=hrel;by_cases hlt:i<j;{
 have C_:(i:Int)<(j:Int):=ae;obtain⟨h,hh⟩:∃h,(i+j)/2=h:=⟨_,rfl⟩;have ab4:((i:Int)+j)/2=(h:Int):=ae;have ab5:i<=h:=ae;have ab6:h<j:=ae;obtain⟨q1,os1,hwr⟩:=af yj;have yl:∀n' os',grow (wr.drewN n') os'=sortWorldK ai.aS k w g off (q1+n') dk (os1++os'):=fun n' os'=>by rw[hwr];exact sortWorldK_grown_c ai.aS k w g off q1 n' dk os1 os'
 have ym:∀n' os',HoldsK ai.aS k (grow (wr.drewN n') os') g off dk:=fun n' os'=>by rw[yl];exact holdsK_sortWorldK_c ai.aS k w g off d dk _ _ (af HH) (af HG) hs
 obtain⟨y,hy⟩:∃y,dk[h]! = y:=⟨_,rfl⟩;have anr:∀n' os',Sem.run prog (loadCellsFrom (ak g (off+h*k)) 0 k #[]) (grow (wr.drewN n') os')=.ok (ai.aS y).toArray (grow (wr.drewN n') os'):=fun n' os'=>by rw[<- hy];exact Da (af HK) (ym n' os') h ae
 have la:∀n' os',Sem.run prog (loadCellsFrom (ak g (off+a*k)) 0 k #[]) (grow (wr.drewN n') os')=.ok (ai.aS x).toArray (grow (wr.drewN n') os'):=fun n' os'=>by rw[<- hx];exact Da (af HK) (ym n' os') a ae
 have Db:∀W,aB 103 #[.agg (ai.aS y).toArray,.agg (ai.aS x).toArray] W fun e w'=>e=.returned (aj (mJ y x))/\∃q os',w'=grow (W.drewN q) os':=fun W=>OG y x W;have yq:=ag Db;have CLS:=ag yl;have ab7:(h:Int)<(d.size:Int):=ae;have ant:(a:Int)<(d.size:Int):=ae;have ke:=ag hy;have anu:=ag hh;have zG:=ag hx;clear yl ym hwr hh hy Db hx;generalize hcv:mJ y x=cv at yq;have Dc:=ag hcv;clear hcv;by_cases hlv:cv<0;{
 go_wp2_with fail;go_quiet_grown (first|(go_at_call 103;refine Calls.grown_of (yq _)));go_wp2_with fail;go_roundg (j - (h+1));case measure=>omega
 case rel =>(refine⟨h+1,j,by first|rfl|go_num,rfl,ae,ae,hjb,bH _,⟨_,_,af CLS _ _⟩,.inr ?_,cu.2⟩;show ltOf mJ dk[h]! x=true;rw[af ke];unfold ltOf;rw[af Dc];exact iy hlv)};{
 go_wp2_with fail;go_quiet_grown (first|(go_at_call 103;refine Calls.grown_of (yq _)));go_wp2_with fail;go_roundg (h - i);case measure=>omega
 case rel =>(refine⟨i,h,rfl,by first|rfl|go_num,yi,ae,ae,bH _,⟨_,_,af CLS _ _⟩,cu.1,.inr ?_⟩;show ltOf mJ dk[h]! x=false;rw[af ke];unfold ltOf;rw[af Dc];exact iB ae)}};{
 have C_:¬(i:Int)<(j:Int):=ae;obtain rfl:i=j:=ae;obtain⟨T,hT⟩:∃T,i=m+T:=⟨i - m,ae⟩;have fX:Hid (cG bm [x] B'=B'.take T++x :: B'.drop T):=by{
 obtain⟨hsz,hs',hl,ea,hw,fk⟩:=af HS;obtain⟨h1,h2⟩:=af cu;have hl':dk.toList=(X++[x])++(B'++Z):=by rw[hl];simp
 have Ia:(X++[x]).length=m:=aP;have hat:∀t (h:t<B'.length),dk[m+t]! = B'[t]:=fun t h=>by rw[<- Ia];exact Pj hl' h
 rw[Hid];conv=>lhs;rw[<- j9 T B']
 refine anl bm hw (by rw[j9];exact fk) (fun y hy=>?_) (fun y hy=>?_);{obtain⟨h0,h3,h4⟩:=Pk ae hy;rcases h1 with h1|h1;{omega};{rw[show i - 1=m+(T - 1)from ae,hat _ h0,h4]at h1;exact h1}};{obtain⟨h0,h4⟩:=Pl hy;rcases h2 with h2|h2;{omega};{rw[hT,hat _ h0,h4]at h2;exact h2}}};have K8:T<=B'.length:=ae;have Ib:(i:Int) - 1=(a:Int)+T:=ae;have cS:=ag hT;have anv:=ag (bg em eb);have hab:a+T+1<=b:=ae;have Bh:(i:Int)<=3001:=ae;have Ic:(1:Int)<=(i:Int):=ae;clear hT em eb cu;go_wp2_with fail;go_loopg [13] T (fun g1 oK wr=>∃(t:Nat),oK=aj (a+t:Nat)/\t+g1=T/\Hid (∃q os dk1,wr=sortWorldK ai.aS k w g off q dk1 os/\dk1.size=d.size/\dk1.toList=X++(B'.take t++x :: (B'.drop t++Z))));case atStart =>(obtain⟨q1,os1,hwr⟩:=af yj;obtain⟨hsz,hs',hl,ea,hw,fk⟩:=af HS;exact⟨0,rfl,ae,q1,os1,dk,hwr,hs,by simpa using hl⟩)
 case round =>(
 obtain⟨t,rfl,Fz,HW⟩:=hrel;by_cases FA:t<T;{
 obtain⟨p,hp⟩:∃p,a+t=p:=⟨_,rfl⟩;rw[hp];have K0:(p:Int)<(a:Int)+T:=ae;have p7:p<=3001:=ae;obtain⟨q1,os1,dk1,hwr,hs1,dH⟩:=af HW;have qY:HoldsK ai.aS k wr.drew g off dk1:=by rw[hwr];exact holdsK_sortWorldK_c ai.aS k w g off d dk1 _ _ (af HH) (af HG) hs1
 have lp:=Da (af HK) qY p ae;obtain⟨r,hr⟩:∃r,p+1=r:=⟨_,rfl⟩;have lr:=Da (af HK) qY r ae;obtain⟨s1,s2⟩:=ab3 (af HK) qY p r ae ae;have bC:Hid (∃q os dk2,((wr.drew.setCells g (off+p*k) (ai.aS dk1[r]!)).setCells g (off+r*k) (ai.aS dk1[p]!))=sortWorldK ai.aS k w g off q dk2 os/\dk2.size=d.size/\dk2.toList=X++(B'.take (t+1)++x :: (B'.drop (t+1)++Z))):=by{refine⟨q1+1,os1,swp dk1 p r,?_,by rw[size_swp];exact hs1,?_⟩;{rw[hwr];exact sortWorldK_swp_c ai.aS k w g off (af HK) q1 dk1 os1 (af HG) p r ae ae};{obtain⟨hsz,hs',hl,ea,hw,fk⟩:=af HS;have K9:t<B'.length:=ae;have hsw:=O_ (d:=dk1) (X:=X++B'.take t) (Y:=[]) (Z:=B'.drop (t+1)++Z) (u:=x) (v:=B'[t]) (by rw[dH,ko K9];simp only[fP,fU,gb]);rw[show(X++B'.take t).length=p from aP,show p+1+([]:List ai).length=r from hr]at hsw;rw[hsw,gp K9];simp only[fP,fU,gb]}};obtain⟨xr,tQ⟩:∃y,dk1[r]! = y:=⟨_,rfl⟩;obtain⟨xp,tP⟩:∃y,dk1[p]! = y:=⟨_,rfl⟩;rw[tQ]at lr s1;rw[tP]at lp;rw[tP,tQ]at s2 bC;obtain⟨cP,si⟩:∃c,ai.aS xp=c:=⟨_,rfl⟩;obtain⟨cR,sj⟩:∃c,ai.aS xr=c:=⟨_,rfl⟩;have abX:cP.length=k:=by rw[<- si];exact HK _
 have abY:cR.length=k:=by rw[<- sj];exact HK _
 rw[si,sj]at bC s2;rw[sj]at lr s1;rw[si]at lp;have UG:(p:Int)<(d.size:Int):=ae;have UH:(r:Int)<(d.size:Int):=ae;have er:(p:Int)+1=(r:Int):=ae;have K4:IntKind.i64.wrap (p:Int)=(p:Int):=by rw[fF];omega
 have K5:IntKind.i64.wrap (r:Int)=(r:Int):=by rw[fF];omega
 have p0:(0:Int)<=(p:Int):=ae;have r0:(0:Int)<=(r:Int):=ae;have bf:Hid (t+gk=T/\t<T/\a+t=p/\T<=B'.length/\a+T+1<=b/\b<=d.size):=⟨Fz,FA,hp,K8,hab,bX⟩;clear qY hwr hs1 dH HW si sj tQ tP hr Fz FA hp K8 hab hs Bi yi K7 hjb hlt hB yh bX;go_wp2_with fail;clear p7 K0;go_big_region_o;all_goals(
 clear lp lr s1 s2 C9 zE mixed K4 K5 p0 r0 er UG UH;have p7:p<=3001:=by have:=af bf;omega
 go_wp2;go_roundg (T - (t+1));case measure=>have:=af bf;omega
 case rel =>(obtain⟨Fz,FA,hp,K8,hab,bX⟩:=af bf;exact⟨t+1,by rw[<- hp];first|rfl|go_num,ae,bC⟩))};{have anw:¬((a+t:Nat):Int)<(a:Int)+T:=ae;obtain rfl:t=T:=ae;obtain⟨p,hp⟩:∃p,a+t=p:=⟨_,rfl⟩;have anx:¬(p:Int)<(a:Int)+t:=ae;rw[hp];clear hp anw;go_wp2_with fail;refine fB (v:=.tuple #[]) (by simp[results,results232]) rfl ?_;obtain⟨q1,os1,dk1,hwr,hs1,dH⟩:=af HW;exact⟨rfl,q1,os1,dk1,hwr,by rw[dH,af fX];simp⟩})})
end
section
open Go.RowKit Go.Sort Go.Shelf
theorem anz(off k g cap a m b q:Nat)(hk:∀x,(ai.aS x).length=k)(zE:∀w,Sem.run prog (Go.sizeOf 47) w=.ok k w)(d dk:Array ai)(os:Array Obj)(X A':List ai)(y:ai)(Z:List ai)(w:World)(hH:HoldsK ai.aS k w g off d)(hg:g<w.heap.size)(hs:dk.size=d.size)(hd:d.size<=3001)
  (hl:dk.toList=X++(A'++y :: Z)) (ea:X.length=a) (em:a+A'.length=m) (eb:m+1=b) (hA:2<=A'.length) (hw:ny bm) (fk:fN bm A') :
  aB 232 #[aD g off d.size cap,aj a,aj m,aj b,.func (.func 103) #[] #[]] (sortWorldK ai.aS k w g off q dk os) fun e w' =>
   e=.returned (.tuple #[])/\∃q' os' d',w'=sortWorldK ai.aS k w g off q' d' os'/\d'.toList=X++(cG bm A' [y]++Z):=by
 have mixed:prog.follows Departure.mixedOrders=true:=aI;have C9:=Tryz.isAgg47;have hsz:d.size=X.length+(A'.length+(1+Z.length)):=by rw[<- hs,<- uv,hl];simp;omega
 have hx:dk[m]! = y:=by{have:=H_ (d:=dk) (X:=X++A') (u:=y) (Z:=Z) (by rw[hl];simp);rw[show(X++A').length=m from aP]at this;exact this};have HK:=ag hk;have HH:=ag hH;have HG:=ag hg;have HS:=ag (bg hsz (bg hs (bg hl (bg ea (bg hw fk)))));have ie:b<=3001:=ae;have bX:b<=d.size:=ae;have UE:a<=m:=ae;have yh:m<b:=ae;have K6:((m:Int) - a == 1)=false:=by rw[d_];omega
 have Bg:((b:Int) - m == 1)=true:=by rw[fe];omega
 clear hk hH hg hsz hl ea hw fk;obtain⟨w0,hw0⟩:=bF (sortWorldK ai.aS k w g off q dk os);rw[<- hw0];have wQ:=ag hw0;clear hw0;go_enter func232,ntmps232;go_wp2_with fail;go_loopg [14,15] (m - a) (fun g1 vi vj wr=>∃(i j:Nat),vi=aj i/\vj=aj j/\a<=i/\i<=j/\j<=m/\j - i<=g1/\Hid (∃q os,wr=sortWorldK ai.aS k w g off q dk os)/\Hid ((i=a\/bm y dk[i - 1]! = false)/\(j=m\/bm y dk[j]! = true)));case atStart=>exact⟨a,m,rfl,rfl,bH _,UE,bH _,bH _,⟨q,os,wQ⟩,.inl rfl,.inl rfl⟩
 case round =>(
 obtain⟨i,j,rfl,rfl,yi,Bi,hjb,K7,yj,cu⟩:=hrel;by_cases hlt:i<j;{
 have C_:(i:Int)<(j:Int):=ae;obtain⟨h,hh⟩:∃h,(i+j)/2=h:=⟨_,rfl⟩;have ab4:((i:Int)+j)/2=(h:Int):=ae;have ab5:i<=h:=ae;have ab6:h<j:=ae;obtain⟨q1,os1,hwr⟩:=af yj;have yl:∀n' os',grow (wr.drewN n') os'=sortWorldK ai.aS k w g off (q1+n') dk (os1++os'):=fun n' os'=>by rw[hwr];exact sortWorldK_grown_c ai.aS k w g off q1 n' dk os1 os'
 have ym:∀n' os',HoldsK ai.aS k (grow (wr.drewN n') os') g off dk:=fun n' os'=>by rw[yl];exact holdsK_sortWorldK_c ai.aS k w g off d dk _ _ (af HH) (af HG) hs
 obtain⟨x,hy⟩:∃x,dk[h]! = x:=⟨_,rfl⟩;have anr:∀n' os',Sem.run prog (loadCellsFrom (ak g (off+h*k)) 0 k #[]) (grow (wr.drewN n') os')=.ok (ai.aS x).toArray (grow (wr.drewN n') os'):=fun n' os'=>by rw[<- hy];exact Da (af HK) (ym n' os') h ae
 have la:∀n' os',Sem.run prog (loadCellsFrom (ak g (off+m*k)) 0 k #[]) (grow (wr.drewN n') os')=.ok (ai.aS y).toArray (grow (wr.drewN n') os'):=fun n' os'=>by rw[<- hx];exact Da (af HK) (ym n' os') m ae
 have Db:∀W,aB 103 #[.agg (ai.aS y).toArray,.agg (ai.aS x).toArray] W fun e w'=>e=.returned (aj (mJ y x))/\∃q os',w'=grow (W.drewN q) os':=fun W=>OG y x W;have yq:=ag Db;have CLS:=ag yl;have ab7:(h:Int)<(d.size:Int):=ae;have ant:(m:Int)<(d.size:Int):=ae;have ke:=ag hy;have anu:=ag hh;have zG:=ag hx;clear yl ym hwr hh hy Db hx;generalize hcv:mJ y x=cv at yq;have Dc:=ag hcv;clear hcv;by_cases hlv:cv<0;{
 go_wp2_with fail;go_quiet_grown (first|(go_at_call 103;refine Calls.grown_of (yq _)));go_wp2_with fail;go_roundg (h - i);case measure=>omega
 case rel =>(refine⟨i,h,rfl,by first|rfl|go_num,yi,ae,ae,bH _,⟨_,_,af CLS _ _⟩,cu.1,.inr ?_⟩;show ltOf mJ y dk[h]! = true;rw[af ke];unfold ltOf;rw[af Dc];exact iy hlv)};{
 have anA:decide (cv<0)=false:=iB hlv;have OW:=ag hlv;clear hlv;go_wp2_with fail;go_quiet_grown (first|(go_at_call 103;refine Calls.grown_of (yq _)));go_wp2_with fail;go_roundg (j - (h+1));case measure=>omega
 case rel =>(refine⟨h+1,j,by first|rfl|go_num,rfl,ae,ae,hjb,bH _,⟨_,_,af CLS _ _⟩,.inr ?_,cu.2⟩;show ltOf mJ y dk[h]! = false;rw[af ke];unfold ltOf;rw[af Dc];exact iB (by have:=af OW;omega))}};{
 have C_:¬(i:Int)<(j:Int):=ae;obtain rfl:i=j:=ae;obtain⟨T,hT⟩:∃T,i=a+T:=⟨i - a,ae⟩;have fX:Hid (cG bm A' [y]=A'.take T++y :: A'.drop T):=by{
 obtain⟨hsz,hs',hl,ea,hw,fk⟩:=af HS;obtain⟨h1,h2⟩:=af cu;have hat:∀t (h:t<A'.length),dk[a+t]! = A'[t]:=fun t h=>by rw[<- ea];exact Pj hl h
 rw[Hid];conv=>lhs;rw[<- j9 T A']
 refine anm bm hw (by rw[j9];exact fk) (fun x hx=>?_) (fun x hx=>?_);{obtain⟨h0,h3,h4⟩:=Pk ae hx;rcases h1 with h1|h1;{omega};{rw[show i - 1=a+(T - 1)from ae,hat _ h0,h4]at h1;exact h1}};{obtain⟨h0,h4⟩:=Pl hx;rcases h2 with h2|h2;{omega};{rw[hT,hat _ h0,h4]at h2;exact h2}}};have K8:T<=A'.length:=ae;have Ib:(i:Int)=(a:Int)+T:=ae;have cS:=ag (bg hT Ib);have anv:=ag (bg em eb);have Bh:(i:Int)<=3001:=ae;obtain⟨L,hL⟩:∃L,A'.length=L:=⟨_,rfl⟩;have Pm:a+L=m:=ae;clear hT Ib eb cu em;go_wp2_with fail;go_loopg [17] (L - T) (fun g1 oK wr=>∃(t:Nat),oK=aj (a+t:Nat)/\T+g1=t/\t<=L/\Hid (∃q os dk1,wr=sortWorldK ai.aS k w g off q dk1 os/\dk1.size=d.size/\dk1.toList=X++(A'.take t++y :: (A'.drop t++Z))));case atStart =>(obtain⟨q1,os1,hwr⟩:=af yj;obtain⟨hsz,hs',hl,ea,hw,fk⟩:=af HS;refine⟨L,by first|(rw[Pm])|go_num,ae,bH _,q1,os1,dk,hwr,hs,?_⟩;rw[<- hL,gV,vU,gb];exact hl)
 case round =>(
 obtain⟨t,rfl,Fz,UI,HW⟩:=hrel;by_cases FA:T<t;{
 obtain⟨p,hp⟩:∃p,a+t=p:=⟨_,rfl⟩;rw[hp];have K0:(i:Int)<(p:Int):=by have:=cS.2;omega
 have p7:p<=3001:=ae;obtain⟨q1,os1,dk1,hwr,hs1,dH⟩:=af HW;have qY:HoldsK ai.aS k wr.drew g off dk1:=by rw[hwr];exact holdsK_sortWorldK_c ai.aS k w g off d dk1 _ _ (af HH) (af HG) hs1
 obtain⟨r,hr⟩:∃r,r+1=p:=⟨p - 1,ae⟩;have lp:=Da (af HK) qY p ae;have lr:=Da (af HK) qY r ae;obtain⟨s1,s2⟩:=ab3 (af HK) qY p r ae ae;have bC:Hid (∃q os dk2,((wr.drew.setCells g (off+p*k) (ai.aS dk1[r]!)).setCells g (off+r*k) (ai.aS dk1[p]!))=sortWorldK ai.aS k w g off q dk2 os/\dk2.size=d.size/\dk2.toList=X++(A'.take (t - 1)++y :: (A'.drop (t - 1)++Z))):=by{refine⟨q1+1,os1,swp dk1 p r,?_,by rw[size_swp];exact hs1,?_⟩;{rw[hwr];exact sortWorldK_swp_c ai.aS k w g off (af HK) q1 dk1 os1 (af HG) p r ae ae};{obtain⟨hsz,hs',hl,ea,hw,fk⟩:=af HS;obtain⟨t',rfl⟩:∃t',t=t'+1:=⟨t - 1,ae⟩;have K9:t'<A'.length:=ae;rw[gp K9]at dH;have hsw:=O_ (d:=dk1) (X:=X++A'.take t') (Y:=[]) (Z:=A'.drop (t'+1)++Z) (u:=A'[t']) (v:=y) (by rw[dH];simp only[fP,fU,gb]);rw[show(X++A'.take t').length=r from aP,show r+1+([]:List ai).length=p from hr]at hsw;rw[abT _ _ _ ae,hsw,SV,ko K9];simp only[fP,fU,gb]}};obtain⟨xr,tQ⟩:∃y,dk1[r]! = y:=⟨_,rfl⟩;obtain⟨xp,tP⟩:∃y,dk1[p]! = y:=⟨_,rfl⟩;rw[tQ]at lr s1;rw[tP]at lp;rw[tP,tQ]at s2 bC;obtain⟨cP,si⟩:∃c,ai.aS xp=c:=⟨_,rfl⟩;obtain⟨cR,sj⟩:∃c,ai.aS xr=c:=⟨_,rfl⟩;have abX:cP.length=k:=by rw[<- si];exact HK _
 have abY:cR.length=k:=by rw[<- sj];exact HK _
 rw[si,sj]at bC s2;rw[sj]at lr s1;rw[si]at lp;have UG:(p:Int)<(d.size:Int):=ae;have UH:(r:Int)<(d.size:Int):=ae;have er:(p:Int) - 1=(r:Int):=ae;have K4:IntKind.i64.wrap (p:Int)=(p:Int):=by rw[fF];omega
 have K5:IntKind.i64.wrap (r:Int)=(r:Int):=by rw[fF];omega
 have p0:(0:Int)<=(p:Int):=ae;have r0:(0:Int)<=(r:Int):=ae;have bf:Hid (T+gk=t/\T<t/\a+t=p/\r+1=p/\t<=L/\a+L=m/\m<b/\b<=3001):=⟨Fz,FA,hp,hr,UI,Pm,yh,ie⟩;clear qY hwr hs1 dH HW si sj tQ tP hr Fz FA hp K8 hs Bi yi K7 hjb hlt hA yh bX hL Pm UI;go_wp2_with fail;clear p7 K0;go_big_region_o;all_goals(
 clear lp lr s1 s2 C9 zE mixed K4 K5 p0 r0 er UG UH;have p7:p<=3001:=by have:=af bf;omega
 have Bj:1<=p:=by have:=af bf;omega
 go_wp2;go_roundg (t - 1 - T);case measure=>have:=af bf;omega
 case rel =>(obtain⟨Fz,FA,hp,hr,UI,Pm,yh,ie⟩:=af bf;exact⟨t - 1,by rw[show a+(t - 1)=p - 1 from ae];first|rfl|go_num,ae,ae,bC⟩))};{
 obtain rfl:t=T:=ae;obtain⟨p,hp⟩:∃p,a+t=p:=⟨_,rfl⟩;have anx:¬(i:Int)<(p:Int):=by have:=cS.2;omega
 rw[hp];clear hp;go_wp2_with fail;refine fB (v:=.tuple #[]) (by simp[results,results232]) rfl ?_;obtain⟨q1,os1,dk1,hwr,hs1,dH⟩:=af HW;exact⟨rfl,q1,os1,dk1,hwr,by rw[dH,af fX];simp⟩})})
end
section
open Go.RowKit Go.Sort Go.Shelf
theorem ab8{W:World}{g:Nat}{dk:Array ai}(h:HoldsK ai.aS 4 W g 0 dk){j:Nat}(hj:j<dk.size) :
  W.cell? (ak g (j*4))=some (.string (aq dk[j]!.owner))/\W.cell? (ak g (j*4+1))=some (aj dk[j]!.aG)/\W.cell? (ak g (j*4+2))=some (aj dk[j]!.type)/\W.cell? (ak g (j*4+3))=some (.string (aq dk[j]!.data)):=by have e:∀c (hc:c<4),W.cell? (ak g (j*4+c))=some (ai.aS dk[j]!)[c]!:=fun c hc=>by{have:=(h.cell (i:=j) (c:=c) hj hc).1;rwa [eY]at this};exact⟨e 0 ae,e 1 ae,e 2 ae,e 3 ae⟩
def UJ(g cap:Nat)(d:Array ai)(w:World)(f:Nat):Prop :=
 ∀(a m b q:Nat) (dk:Array ai) (os:Array Obj) (X A' B' Z:List ai),dk.size=d.size->dk.toList=X++(A'++(B'++Z))->X.length=a->a+A'.length=m->m+B'.length=b->0<A'.length->0<B'.length->fN bm A'->fN bm B'->b - a<=f ->
  aB 232 #[aD g 0 d.size cap,aj a,aj m,aj b,.func (.func 103) #[] #[]] (sortWorldK ai.aS 4 w g 0 q dk os) fun e w' =>
   e=.returned (.tuple #[])/\∃q' os' d',w'=sortWorldK ai.aS 4 w g 0 q' d' os'/\d'.toList=X++(cG bm A' B'++Z)
theorem anB(hw:ny bm){dk:Array ai}{X A' B' Z:List ai}{a m b mid s s0 r0 e2:Nat}(hl:dk.toList=X++(A'++(B'++Z)))(ea:X.length=a)(em:a+A'.length=m)(eb:m+B'.length=b)(hA:fN bm A')(hB:fN bm B')
  (Ie:(a+b)/2=mid) (hs0:s0<=s) (tS:s<=r0) (he:e2+s=mid+m) (hbr:(mid<m/\s0+b=mid+m/\r0=mid)\/(m<=mid/\s0=a/\r0=m))
  (h1:s=s0\/bm dk[e2]! dk[s - 1]! = false) (h2:s=r0\/bm dk[e2 - 1]! dk[s]! = true) :
  ∃A1 A2 B1 B2,A'=A1++A2/\B'=B1++B2/\a+A1.length=s/\m+B1.length=e2/\cG bm A' B'=cG bm A1 B1++cG bm A2 B2/\a<=s/\s<=m/\m<=e2/\e2<=b:=by
 have q1:a<=s:=ae;have q2:s<=m:=ae;have q3:m<=e2:=ae;have q4:e2<=b:=ae;have ab9:∀t (h:t<A'.length),dk[a+t]! = A'[t]:=fun t h=>by rw[<- ea];exact Pj hl h
 have ab_:∀t (h:t<B'.length),dk[m+t]! = B'[t]:=fun t h=>by{have:=Pj (d:=dk) (X:=X++A') (B:=B') (Z:=Z) (by rw[hl];simp) h;rw[show(X++A').length=m from aP]at this;exact this};refine⟨A'.take (s - a),A'.drop (s - a),B'.take (e2 - m),B'.drop (e2 - m),(j9 _ _).symm,(j9 _ _).symm,aP,aP,?_,q1,q2,q3,q4⟩;conv=>lhs;rw[<- j9 (s - a) A',<- j9 (e2 - m) B']
 refine ann bm hw (by rw[j9];exact hA) (by rw[j9];exact hB) (fun x y hx hy=>?_) (fun x y hx hy=>?_);{obtain⟨x1,x2,x3⟩:=Pk ae hx;obtain⟨y1,y2⟩:=Pl hy;rcases h1 with h1|h1;{omega};{rw[show s - 1=a+(s - a - 1)from ae,ab9 _ x1,x3,show e2=m+(e2 - m)from ae,ab_ _ y1,y2]at h1;exact h1}};{obtain⟨x1,x2⟩:=Pl hx;obtain⟨y1,y2,y3⟩:=Pk ae hy;rcases h2 with h2|h2;{omega};{rw[show e2 - 1=m+(e2 - m - 1)from ae,ab_ _ y1,y3,show s=a+(s - a)from ae,ab9 _ x1,x2]at h2;exact h2}}
theorem anC(g cap a m b q f:Nat)(d dk:Array ai)(os:Array Obj)(X A' B' Z:List ai)(w:World)(hH:HoldsK ai.aS 4 w g 0 d)(hg:g<w.heap.size)(hs:dk.size=d.size)(hd:d.size<=3001)
  (hl:dk.toList=X++(A'++(B'++Z))) (ea:X.length=a) (em:a+A'.length=m) (eb:m+B'.length=b) (wR:2<=A'.length) (hB2:2<=B'.length) (hw:ny bm) (hA:fN bm A') (hB:fN bm B') (hf:b - a<=f+1) (IH:UJ g cap d w f) :
  aB 232 #[aD g 0 d.size cap,aj a,aj m,aj b,.func (.func 103) #[] #[]] (sortWorldK ai.aS 4 w g 0 q dk os) fun e w' =>
   e=.returned (.tuple #[])/\∃q' os' d',w'=sortWorldK ai.aS 4 w g 0 q' d' os'/\d'.toList=X++(cG bm A' B'++Z):=by
 have mixed:prog.follows Departure.mixedOrders=true:=aI;have hsz:d.size=X.length+(A'.length+(B'.length+Z.length)):=by rw[<- hs,<- uv,hl];simp
 obtain⟨mid,Ie⟩:∃mid,(a+b)/2=mid:=⟨_,rfl⟩;obtain⟨nn,jE⟩:∃nn,mid+m=nn:=⟨_,rfl⟩;obtain⟨p,hp⟩:∃p,p+1=nn:=⟨nn - 1,ae⟩;obtain⟨s0,r0,hbr⟩:∃s0 r0,(mid<m/\s0+b=mid+m/\r0=mid)\/(m<=mid/\s0=a/\r0=m):=by{by_cases h:mid<m;{exact⟨mid+m - b,mid,.inl ⟨h,ae,rfl⟩⟩};{exact⟨a,m,.inr ⟨ae,rfl,rfl⟩⟩}};have aca:s0<=r0:=ae;have anD:r0<=m:=ae;have anE:a<=s0:=ae;have jM:p<s0+b:=ae;have anF:m+r0<=p+1:=ae;have azn:((a:Int)+b)/2=(mid:Int):=ae;have azo:(mid:Int)+m=(nn:Int):=ae;have anj:(nn:Int) - 1=(p:Int):=ae;have ie:b<=3001:=ae;have bX:b<=d.size:=ae;have UE:a<m:=ae;have yh:m<b:=ae;have azp:a<mid:=ae;have azq:mid<b:=ae;have K6:((m:Int) - a == 1)=false:=by rw[d_];omega
 have Bg:((b:Int) - m == 1)=false:=by rw[d_];omega
 have azr:nn<=6002:=ae;have azs:p<=6002:=ae;have HH:=ag hH;have HG:=ag hg;have acb:=ag IH;have HS:Hid (d.size=X.length+(A'.length+(B'.length+Z.length))/\dk.size=d.size/\dk.toList=X++(A'++(B'++Z))/\X.length=a/\a+A'.length=m/\m+B'.length=b/\ny bm/\fN bm A'/\fN bm B'/\(a+b)/2=mid/\mid+m=nn/\p+1=nn/\b - a<=f+1):=⟨hsz,hs,hl,ea,em,eb,hw,hA,hB,Ie,jE,hp,hf⟩;have ly:=ag hbr;clear hH hg hsz hl ea em eb hA hB hw Ie jE hp wR hB2 IH hf hbr;obtain⟨w0,hw0⟩:=bF (sortWorldK ai.aS 4 w g 0 q dk os);rw[<- hw0];have wQ:=ag hw0;clear hw0;go_enter func232,ntmps232;go_upto_if 140 with fail;go_cut [20,21]from 138 (fun v20 v21 wx=>v20=aj s0/\v21=aj r0/\wx=w0);case first =>(rcases af ly with⟨h1,h2,h3⟩|⟨h1,h2,h3⟩;{have Fg:(mid:Int)<(m:Int):=ae;have Pn:(nn:Int) - b=(s0:Int):=ae;clear h1 h2;go_wp2_with fail;go_meet;case rel=>exact⟨by first|rfl|go_num,by rw[h3],rfl⟩};{have Fg:¬(mid:Int)<(m:Int):=ae;clear h1;go_wp2_with fail;go_meet;case rel=>exact⟨by rw[h2],by rw[h3],rfl⟩})
 case rest =>(
 obtain⟨rfl,rfl,rfl⟩:=hcut;go_wp2_with fail;go_loopg [20,21] (r0 - s0) (fun g1 vi vj wr=>∃(i j:Nat),vi=aj i/\vj=aj j/\s0<=i/\i<=j/\j<=r0/\j - i<=g1/\Hid (∃q os,wr=sortWorldK ai.aS 4 w g 0 q dk os)/\Hid ((i=s0\/bm dk[p - (i - 1)]! dk[i - 1]! = false)/\(j=r0\/bm dk[p - j]! dk[j]! = true)));case atStart=>exact⟨s0,r0,rfl,rfl,bH _,aca,bH _,bH _,⟨q,os,wQ⟩,.inl rfl,.inl rfl⟩
 case round =>(
 obtain⟨i,j,rfl,rfl,yi,Bi,hjb,K7,yj,cu⟩:=hrel;by_cases hlt:i<j;{
 have C_:(i:Int)<(j:Int):=ae;obtain⟨h,hh⟩:∃h,(i+j)/2=h:=⟨_,rfl⟩;have ab4:((i:Int)+j)/2=(h:Int):=ae;have ab5:i<=h:=ae;have ab6:h<j:=ae;obtain⟨t,ht⟩:∃t,t+h=p:=⟨p - h,ae⟩;have Ph:(p:Int) - h=(t:Int):=ae;have Fv:t<d.size:=ae;have wT:IntKind.i64.wrap (t:Int)=(t:Int):=by rw[fF];omega
 have azt:IntKind.i64.wrap ((p:Int) - (h:Int))=(t:Int):=by rw[fF];omega
 have Og:h<=p:=ae;have azu:(t:Int)<(d.size:Int):=ae;obtain⟨q1,os1,hwr⟩:=af yj;have yl:∀n' os',grow (wr.drewN n') os'=sortWorldK ai.aS 4 w g 0 (q1+n') dk (os1++os'):=fun n' os'=>by rw[hwr];exact sortWorldK_grown_c ai.aS 4 w g 0 q1 n' dk os1 os'
 have ym:∀n' os',HoldsK ai.aS 4 (grow (wr.drewN n') os') g 0 dk:=fun n' os'=>by rw[yl];exact holdsK_sortWorldK_c ai.aS 4 w g 0 d dk _ _ (af HH) (af HG) hs
 obtain⟨x,hx⟩:∃x,dk[h]! = x:=⟨_,rfl⟩;obtain⟨y,hy⟩:∃y,dk[t]! = y:=⟨_,rfl⟩;have zK:∀n' os',_:=fun n' os'=>ab8 (ym n' os') (j:=h) ae;have Ig:∀n' os',_:=fun n' os'=>ab8 (ym n' os') (j:=t) ae;rw[hx]at zK;rw[hy]at Ig;have x0:=fun n' os'=>(zK n' os').1;have x1:=fun n' os'=>(zK n' os').2.1;have x2:=fun n' os'=>(zK n' os').2.2.1;have x3:=fun n' os'=>(zK n' os').2.2.2;have y0:=fun n' os'=>(Ig n' os').1;have y1:=fun n' os'=>(Ig n' os').2.1;have y2:=fun n' os'=>(Ig n' os').2.2.1;have y3:=fun n' os'=>(Ig n' os').2.2.2;have Db:∀W,aB 103 #[.agg #[ay y.owner,aj y.aG,aj y.type,ay y.data],.agg #[ay x.owner,aj x.aG,aj x.type,ay x.data]] W fun e w'=>e=.returned (aj (mJ y x))/\∃q os',w'=grow (W.drewN q) os':=fun W=>OG y x W;have yq:=ag Db;have CLS:=ag yl;have ab7:(h:Int)<(d.size:Int):=ae;have ke:Hid (dk[h]! = x/\dk[t]! = y/\(i+j)/2=h/\t+h=p):=⟨hx,hy,hh,ht⟩;clear yl ym hwr hh hy Db hx zK Ig ht;generalize hcv:mJ y x=cv at yq;have Dc:=ag hcv;clear hcv;by_cases hlv:cv<0;{
 go_wp2_with fail;go_quiet_grown (first|(go_at_call 103;refine Calls.grown_of (yq _)));go_wp2_with fail;go_roundg (h - i);case measure=>omega
 case rel =>(refine⟨i,h,rfl,by first|rfl|go_num,yi,ae,ae,bH _,⟨_,_,af CLS _ _⟩,cu.1,.inr ?_⟩;show ltOf mJ dk[p - h]! dk[h]! = true;obtain⟨e1,e2,e3,e4⟩:=af ke;rw[show p - h=t from ae,e1,e2];unfold ltOf;rw[af Dc];exact iy hlv)};{
 have anA:decide (cv<0)=false:=iB hlv;have OW:Hid (¬cv<0):=hlv;clear hlv;go_wp2_with fail;go_quiet_grown (first|(go_at_call 103;refine Calls.grown_of (yq _)));go_wp2_with fail;go_roundg (j - (h+1));case measure=>omega
 case rel =>(refine⟨h+1,j,by first|rfl|go_num,rfl,ae,ae,hjb,bH _,⟨_,_,af CLS _ _⟩,.inr ?_,cu.2⟩;show ltOf mJ dk[p - h]! dk[h]! = false;obtain⟨e1,e2,e3,e4⟩:=af ke;rw[show p - h=t from ae,e1,e2];unfold ltOf;rw[af Dc];exact iB (by have:=af OW;omega))}};{
 have C_:¬(i:Int)<(j:Int):=ae;obtain rfl:i=j:=ae;obtain⟨e2,acd⟩:∃e2,e2+i=nn:=⟨nn - i,ae⟩;have abx:(nn:Int) - i=(e2:Int):=ae;have gR:=by{obtain⟨hsz,hs',hl,ea,em,eb,hw,hA,hB,Ie,jE,hp,hf⟩:=af HS;obtain⟨h1,h2⟩:=af cu;have h1':i=s0\/bm dk[e2]! dk[i - 1]! = false:=by{rcases h1 with h|h;{exact .inl h};{by_cases lQ:i=0;{exact .inl ae};{right;rw[show e2=p - (i - 1)from ae];exact h}}};exact ag (anB hw (s:=i) (s0:=s0) (r0:=r0) (e2:=e2) hl ea em eb hA hB Ie yi hjb ae (af ly) h1' (h2.imp id fun h=>by rw[show e2 - 1=p - i from ae];exact h))};obtain⟨A1,A2,B1,B2,v1,v2,v3,v4,v5,v6,v7,v8,v9⟩:=af gR;have eP:Hid (∃q os d1,wr=sortWorldK ai.aS 4 w g 0 q d1 os/\d1.size=d.size/\d1.toList=X++(A1++(A2++(B1++(B2++Z))))):=by{obtain⟨hsz,hs',hl,_⟩:=af HS;obtain⟨q1,os1,hwr⟩:=af yj;exact⟨q1,os1,dk,hwr,hs,by rw[hl,v1,v2];simp⟩};have yr:Hid (fN bm A1/\fN bm A2/\fN bm B1/\fN bm B2/\X.length=a/\a+A1.length=i/\i+A2.length=m/\m+B1.length=e2/\e2+B2.length=b/\a+A1.length+B1.length=mid/\b - a<=f+1/\cG bm A' B'=cG bm A1 B1++cG bm A2 B2):=by{obtain⟨hsz,hs',hl,ea,em,eb,hw,hA,hB,Ie,jE,hp,hf⟩:=af HS;rw[v1]at hA em;rw[v2]at hB eb;rw[bj]at em eb;exact⟨(oC.1 hA).1,(oC.1 hA).2.1,(oC.1 hB).1,(oC.1 hB).2.1,ea,v3,ae,v4,ae,ae,hf,v5⟩};have oq:Hid (e2+i=nn):=acd;clear v1 v2 v3 v4 v5 gR cu yi Bi hjb K7 acd yj hs jM anF anE aca anD;obtain⟨UK,ace⟩:∃c:Bool,c=decide (i<m/\m<e2):=⟨_,rfl⟩;have K_:=ag ace;clear ace;go_upto_region 39 with fail;go_cut [185]from 178 (fun v wx=>v=.bool UK/\wx=wr);case first =>(by_cases aC:i<m;{have La:(i:Int)<(m:Int):=ae;by_cases c2:m<e2;{have Lb:(m:Int)<(e2:Int):=ae;go_wp2_with fail;go_meet;case rel=>exact⟨dE Value.bool (K_.trans (iy (bg aC c2))).symm,rfl⟩};{have Lb:¬(m:Int)<(e2:Int):=ae;go_wp2_with fail;go_meet;case rel=>exact⟨dE Value.bool (K_.trans (iB (fun h=>c2 h.2))).symm,rfl⟩}};{have La:¬(i:Int)<(m:Int):=ae;go_wp2_with fail;go_meet;case rel=>exact⟨dE Value.bool (K_.trans (iB (fun h=>aC h.1))).symm,rfl⟩})
 case rest =>(
 obtain⟨rfl,rfl⟩:=hcut;go_upto_if 185 with fail;go_cut [24]from 178 (fun v24 wx=>v24=aj e2/\Hid (∃q os d1,wx=sortWorldK ai.aS 4 w g 0 q d1 os/\d1.size=d.size/\d1.toList=X++(A1++(B1++(A2++(B2++Z))))));case first =>(obtain⟨q1,os1,d1,hwr,hs1,dH⟩:=af eP;by_cases hc:i<m/\m<e2;{obtain rfl:UK=true:=K_.trans (iy hc);have acf:=by{obtain⟨_,_,_,_,ea,h1,h2,h3,h4,h5,hf,_⟩:=af yr;exact ag (anh g cap i m e2 q1 d d1 os1 (X++A1) A2 B1 (B2++Z) w (af HH) (af HG) hs1 hd (by rw[dH];simp) aP h2 h3 ae ae)};rw[<- hwr]at acf;clear hwr hs1 dH hc;go_wp2_with fail;refine acf.mono ?_;rintro e wn ⟨rfl,q2,d2,hw2,hl2⟩;have dm:Hid (∃q os d1,wn=sortWorldK ai.aS 4 w g 0 q d1 os/\d1.size=d.size/\d1.toList=X++(A1++(B1++(A2++(B2++Z))))):=by{refine⟨q2,os1,d2,hw2,?_,by rw[hl2];simp⟩;obtain⟨q1,os1,d1,hwr,hs1,dH⟩:=af eP;rw[<- hs1,<- uv,<- uv,dH,hl2];simp;omega};clear hw2 hl2;go_wp2_with fail;go_meet;case rel=>exact⟨rfl,dm⟩};{obtain rfl:UK=false:=K_.trans (iB hc);have dm:Hid (∃q os d1,wc=sortWorldK ai.aS 4 w g 0 q d1 os/\d1.size=d.size/\d1.toList=X++(A1++(B1++(A2++(B2++Z))))):=by{refine⟨q1,os1,d1,hwr,hs1,?_⟩;obtain⟨_,_,_,_,ea,h1,h2,h3,h4,h5,hf,_⟩:=af yr;rw[dH];by_cases ax:i<m;{have:B1 = []:=td.1 ae;rw[this];simp};{have:A2 = []:=td.1 ae;rw[this];simp}};clear hwr hs1 dH hc;go_wp2_with fail;go_meet;case rel=>exact⟨rfl,dm⟩})
 case rest =>(
 obtain⟨rfl,oI⟩:=hcut;obtain⟨wa,acg⟩:∃wa,wc=wa:=⟨_,rfl⟩;rw[acg]at oI ⊢;clear acg eP;obtain⟨UL,ach⟩:∃c:Bool,c=decide (a<i/\i<mid):=⟨_,rfl⟩;have Lc:=ag ach;clear ach;go_upto_region 41 with fail;go_cut [199]from 192 (fun v wx=>v=.bool UL/\wx=wa);case first =>(by_cases aC:a<i;{have La:(a:Int)<(i:Int):=ae;by_cases c2:i<mid;{have Lb:(i:Int)<(mid:Int):=ae;go_wp2_with fail;go_meet;case rel=>exact⟨dE Value.bool (Lc.trans (iy (bg aC c2))).symm,rfl⟩};{have Lb:¬(i:Int)<(mid:Int):=ae;go_wp2_with fail;go_meet;case rel=>exact⟨dE Value.bool (Lc.trans (iB (fun h=>c2 h.2))).symm,rfl⟩}};{have La:¬(a:Int)<(i:Int):=ae;go_wp2_with fail;go_meet;case rel=>exact⟨dE Value.bool (Lc.trans (iB (fun h=>aC h.1))).symm,rfl⟩})
 case rest =>(
 obtain⟨rfl,rfl⟩:=hcut;go_upto_if 199 with fail;go_cut [24]from 192 (fun v24 wx=>v24=aj e2/\Hid (∃q os d1,wx=sortWorldK ai.aS 4 w g 0 q d1 os/\d1.size=d.size/\d1.toList=X++(cG bm A1 B1++(A2++(B2++Z)))));case first =>(obtain⟨q1,os1,d1,hwr,hs1,dH⟩:=af oI;by_cases hc:a<i/\i<mid;{obtain rfl:UL=true:=Lc.trans (iy hc);have uV:=by{obtain⟨anG,_,anH,_,ea,h1,h2,h3,h4,h5,hf,_⟩:=af yr;exact ag (acb a i mid q1 d1 os1 X A1 B1 (A2++(B2++Z)) hs1 dH ea h1 ae ae ae anG anH ae)};rw[<- hwr]at uV;clear hwr hs1 dH hc;go_wp2_with fail;refine uV.mono ?_;rintro e wn ⟨rfl,q2,os2,d2,hw2,hl2⟩;have dm:Hid (∃q os d1,wn=sortWorldK ai.aS 4 w g 0 q d1 os/\d1.size=d.size/\d1.toList=X++(cG bm A1 B1++(A2++(B2++Z)))):=by{refine⟨q2,os2,d2,hw2,?_,hl2⟩;obtain⟨q1,os1,d1,hwr,hs1,dH⟩:=af oI;rw[<- hs1,<- uv,<- uv,dH,hl2];simp[KW];omega};clear hw2 hl2;go_wp2_with fail;go_meet;case rel=>exact⟨rfl,dm⟩};{obtain rfl:UL=false:=Lc.trans (iB hc);have dm:Hid (∃q os d1,wc=sortWorldK ai.aS 4 w g 0 q d1 os/\d1.size=d.size/\d1.toList=X++(cG bm A1 B1++(A2++(B2++Z)))):=by{refine⟨q1,os1,d1,hwr,hs1,?_⟩;obtain⟨_,_,_,_,ea,h1,h2,h3,h4,h5,hf,_⟩:=af yr;rw[dH];by_cases ax:a<i;{have:B1 = []:=td.1 ae;rw[this];simp};{have:A1 = []:=td.1 ae;rw[this];simp}};clear hwr hs1 dH hc;go_wp2_with fail;go_meet;case rel=>exact⟨rfl,dm⟩})
 case rest =>(
 obtain⟨rfl,FB⟩:=hcut;obtain⟨wb,FC⟩:∃wb,wc=wb:=⟨_,rfl⟩;rw[FC]at FB ⊢;clear FC oI;obtain⟨UM,aci⟩:∃c:Bool,c=decide (mid<e2/\e2<b):=⟨_,rfl⟩;have Ld:=ag aci;clear aci;go_upto_region 43 with fail;go_cut [213]from 206 (fun v wx=>v=.bool UM/\wx=wb);case first =>(by_cases aC:mid<e2;{have La:(mid:Int)<(e2:Int):=ae;by_cases c2:e2<b;{have Lb:(e2:Int)<(b:Int):=ae;go_wp2_with fail;go_meet;case rel=>exact⟨dE Value.bool (Ld.trans (iy (bg aC c2))).symm,rfl⟩};{have Lb:¬(e2:Int)<(b:Int):=ae;go_wp2_with fail;go_meet;case rel=>exact⟨dE Value.bool (Ld.trans (iB (fun h=>c2 h.2))).symm,rfl⟩}};{have La:¬(mid:Int)<(e2:Int):=ae;go_wp2_with fail;go_meet;case rel=>exact⟨dE Value.bool (Ld.trans (iB (fun h=>aC h.1))).symm,rfl⟩})
 case rest =>(obtain⟨rfl,rfl⟩:=hcut;obtain⟨q1,os1,d1,hwr,hs1,dH⟩:=af FB;by_cases hc:mid<e2/\e2<b;{obtain rfl:UM=true:=Ld.trans (iy hc);have uV:=by{obtain⟨_,anI,_,sB2,ea,h1,h2,h3,h4,h5,hf,_⟩:=af yr;exact ag (acb mid e2 b q1 d1 os1 (X++cG bm A1 B1) A2 B2 Z hs1 (by rw[dH];simp) (by simp[KW];omega) ae h4 ae ae anI sB2 ae)};rw[<- hwr]at uV;clear hwr hs1 dH hc;go_wp2_with fail;refine uV.mono ?_;rintro e wn ⟨rfl,q2,os2,d2,hw2,hl2⟩;have dm:Hid (∃q' os' d',wn=sortWorldK ai.aS 4 w g 0 q' d' os'/\d'.toList=X++(cG bm A' B'++Z)):=by{obtain⟨_,_,_,_,_,_,_,_,_,_,_,aY⟩:=af yr;exact⟨q2,os2,d2,hw2,by rw[hl2,aY];simp⟩};clear hw2 hl2;go_wp2_with fail;go_end0;exact⟨rfl,dm⟩};{obtain rfl:UM=false:=Ld.trans (iB hc);have dm:Hid (∃q' os' d',wc=sortWorldK ai.aS 4 w g 0 q' d' os'/\d'.toList=X++(cG bm A' B'++Z)):=by{obtain⟨_,_,_,_,ea,h1,h2,h3,h4,h5,hf,aY⟩:=af yr;refine⟨q1,os1,d1,hwr,?_⟩;rw[dH,aY];by_cases ax:mid<e2;{have:B2 = []:=td.1 ae;rw[this];simp};{have:A2 = []:=td.1 ae;rw[this];simp}};clear hwr hs1 dH hc;go_wp2_with fail;go_end0;exact⟨rfl,dm⟩})))))}))
end
section
open Go.RowKit Go.Sort Go.Shelf
section
variable {α:Type} (lt:α->α->Bool)
def gI(s:Nat)(l:List α):List α:=if l.length<=s\/s=0 then iN lt l else iN lt (l.take s)++gI s (l.drop s)
termination_by l.length
decreasing_by simp;omega
theorem zL{s:Nat}{l:List α}(h:l.length<=s):gI lt s l=iN lt l:=by rw[gI,aJ (.inl h)]
theorem Dd(s:Nat):gI lt s ([]:List α) = []:=by rw[zL lt ar];rfl
theorem acj(s:Nat):∀(f:Nat) (l:List α),l.length<=f->(gI lt s l).length=l.length
 | 0,l,h=>by obtain rfl:l = []:=td.1 ae;rw[Dd]
 | f+1,l,h=>by rw[gI];split;{exact KX lt l};{rw[bj,KX,acj s f _ aP];simp;omega}
theorem Ih{s:Nat}(hs:0<s)(c:List α):∀(t:Nat) (l:List α),l.length=s*t->gI lt s (l++c)=gI lt s l++gI lt s c
 | 0,l,h=>by obtain rfl:l = []:=td.1 ae;rw[Dd];rfl
 | t+1,l,h=>by
  have hl:s<=l.length:=by rw[h,SZ];omega
  have ih:=Ih hs c t (l.drop s) (by rw[fM,h,SZ];omega);have e1:gI lt s l=iN lt (l.take s)++gI lt s (l.drop s):=by{by_cases iF:l.length<=s;{rw[zL lt iF,pd iF,sX iF,Dd,h_]};{conv=>lhs;rw[gI,aF ae]}};by_cases hlc:(l++c).length<=s;{have hc:c = []:=td.1 (by rw[bj]at hlc;omega);subst hc;rw[Dd,h_,h_]};{
  conv=>lhs;rw[gI,aF ae]
  rw[List.take_append_of_le_length hl,SD hl,ih,e1,fP]}
theorem anJ{s:Nat}(hs:0<s){C1 C2 R:List α}(h1:C1.length=s):gI lt s (C1++(C2++R))=iN lt C1++gI lt s (C2++R):=by rw[Ih lt hs _ 1 C1 ae,zL lt ae]
end
theorem Po:∀x,Op.bytesLess x x=false
 | []=>rfl
 | a :: x=>by rw[Op.bytesLess,Po x];simp[UInt8.lt_irrefl]
theorem UN:∀x y z,Op.bytesLess x y=true->Op.bytesLess y z=true->Op.bytesLess x z=true
 | _,_,[],_,h=>by cases ‹List UInt8› <;> simp[Op.bytesLess]at h
 | _,[],_ :: _,h,_=>by cases ‹List UInt8› <;> simp[Op.bytesLess]at h
 | [],_ :: _,_ :: _,_,_=>rfl
 | a :: x,b :: y,c :: z,h,k=>by simp only[Op.bytesLess,xK,cY,tj,fe]at h k ⊢;rcases h with h|⟨rfl,h⟩;{rcases k with k|⟨rfl,k⟩;{exact .inl (UInt8.lt_trans h k)};{exact .inl h}};{rcases k with k|⟨rfl,k⟩;{exact .inl k};{exact .inr ⟨rfl,UN _ _ _ h k⟩}}
theorem UO:∀x y,Op.bytesLess x y=false->Op.bytesLess y x=false->x=y
 | [],[],_,_=>rfl
 | [],_ :: _,h,_=>by simp[Op.bytesLess]at h
 | _ :: _,[],_,h=>by simp[Op.bytesLess]at h
 | a :: x,b :: y,h,k=>by simp only[Op.bytesLess,JR,EJ,Hx,d_]at h k;have hab:a=b:=by{have h1:=h.1;have h2:=k.1;rw[UInt8.not_lt]at h1 h2;exact UInt8.le_antisymm h2 h1};subst hab;have h1:Op.bytesLess x y=false:=h.2.elim (fun e=>absurd rfl e) id;have h2:Op.bytesLess y x=false:=k.2.elim (fun e=>absurd rfl e) id;rw[UO x y h1 h2]
theorem FD(r s:ai):bm r s=true ↔ (Op.bytesLess r.owner s.owner=true\/(r.owner=s.owner/\r.type<s.type)):=by
 unfold bm ltOf mJ HV Fi Lib.compareInt;rw[Hy];cases hb:Op.bytesLess r.owner s.owner;{
 by_cases he:r.owner=s.owner;{
 have he':(r.owner == s.owner)=true:=by simpa using he
 simp only[he',EK,ET,gZ];by_cases h1:r.type<s.type;{simp[h1,he]};{by_cases h2:r.type > s.type;{simp[h1,h2]};{simp[h1,h2]}}};{
 have he':(r.owner == s.owner)=false:=by simpa using he
 simp[he',he]}};{simp}
theorem zM:ny bm:=by
 refine⟨fun x y z h k=>?_,fun x y z h k=>?_⟩;{rw[FD]at *;rcases h with h|⟨h1,h2⟩;{rcases k with k|⟨k1,k2⟩;{exact .inl (UN _ _ _ h k)};{exact .inl (k1 ▸ h)}};{rcases k with k|⟨k1,k2⟩;{exact .inl (h1 ▸ k)};{exact .inr ⟨h1.trans k1,Int.lt_trans h2 k2⟩}}};{
 have nf:∀a b:ai,bm a b=false->Op.bytesLess a.owner b.owner=false/\(a.owner=b.owner->¬a.type<b.type):=fun a b e=>by{
 have hn:¬bm a b=true:=by rw[e];decide
 rw[FD]at hn;refine⟨?_,fun e1 e2=>hn (.inr ⟨e1,e2⟩)⟩;cases e':Op.bytesLess a.owner b.owner;{rfl};{exact absurd (.inl e') hn}};obtain⟨h1,h2⟩:=nf _ _ h;obtain⟨k1,k2⟩:=nf _ _ k;cases e:bm x z;{rfl};{exfalso;rw[FD]at e;cases zN:Op.bytesLess y.owner x.owner;{have exy:=UO _ _ h1 zN;rcases e with e|⟨e1,e2⟩;{rw[exy,k1]at e;cases e};{have:=h2 exy;have:=k2 (exy ▸ e1);omega}};{rcases e with e|⟨e1,e2⟩;{have:=UN _ _ _ zN e;rw[k1]at this;cases this};{rw[e1]at zN;rw[k1]at zN;cases zN}}}}
theorem Ii(x:ai):bm x x=false:=by cases e:bm x x;{rfl};{rw[FD]at e;rcases e with e|⟨_,e⟩;{rw[Po]at e;cases e};{omega}}
theorem ack(g cap:Nat)(d:Array ai)(w:World)(hH:HoldsK ai.aS 4 w g 0 d)(hg:g<w.heap.size)(hd:d.size<=3001):∀f,UJ g cap d w f
 | 0=>fun a m b q dk os X A' B' Z hs hl ea em eb hA hB sA sB hf=>by omega
 | f+1=>fun a m b q dk os X A' B' Z hs hl ea em eb hA hB sA sB hf=>by have IH:=ack g cap d w hH hg hd f;by_cases h1:A'.length=1;{obtain⟨x,rfl⟩:=NN.1 h1;exact anq 0 4 g cap a m b q (fun _=>rfl) Tryz.sizeOf47 d dk os X x B' Z w hH hg hs hd (by rw[hl];simp) ea em eb hB zM sB};{by_cases h2:B'.length=1;{obtain⟨y,rfl⟩:=NN.1 h2;exact anz 0 4 g cap a m b q (fun _=>rfl) Tryz.sizeOf47 d dk os X A' y Z w hH hg hs hd (by rw[hl];simp) ea em eb ae zM sA};{exact anC g cap a m b q f d dk os X A' B' Z w hH hg hs hd hl ea em eb ae ae zM sA sB hf IH}}
theorem anK(g cap a b q:Nat)(d dk:Array ai)(os:Array Obj)(w:World)(hH:HoldsK ai.aS 4 w g 0 d)(hg:g<w.heap.size)(hs:dk.size=d.size)(hd:d.size<=3001)(hab:a<=b)(hb:b<=d.size) :
  aB 231 #[aD g 0 d.size cap,aj a,aj b,.func (.func 103) #[] #[]] (sortWorldK ai.aS 4 w g 0 q dk os) fun e w' =>
   e=.returned (.tuple #[])/\∃q' os',w'=sortWorldK ai.aS 4 w g 0 q' (Sort.insertionSort bm dk a b) os':=by have UD:=holdsK_sortWorldK_c ai.aS 4 w g 0 d dk q os hH hg hs;have h:=AnyQ.insertionSortCmpFunc Tryz.akn 4 Tryz.isAgg47 Tryz.sizeOf47 ai.aS (fun _=>rfl) KZ mJ 103 #[] g 0 cap a b dk (sortWorldK ai.aS 4 w g 0 q dk os) (enters_of func103 aI rfl) (al5 _ _ _ _) UD (dP hg (size_sortWorldK_c ai.aS 4 w g 0 q dk os)) hab ae ae;rw[hs]at h;refine Calls.mono h ?_;rintro e w' ⟨rfl,q',os',rfl⟩;exact⟨rfl,_,_,abZ w g q q' dk (Sort.insertionSort bm dk a b) os os' hg (OH _ _ _ _)⟩
end
section
open Go.RowKit Go.Sort Go.Shelf
theorem Le(s:Nat)(l:List ai):(gI bm s l).length=l.length:=acj bm s _ l aA
theorem acm{rs:List ai}{dk:Array ai}{t c:Nat}(hl:dk.toList=gI bm 20 (rs.take (20*t))++rs.drop (20*t))(h:20*t<=rs.length)(hc:c<=20)(hc2:20*t+c<=rs.length)(hc3:c=20\/20*t+c=rs.length) :
  (Sort.insertionSort bm dk (20*t) (20*t+c)).toList=gI bm 20 (rs.take (20*t+c))++rs.drop (20*t+c):=by
 have gM:(gI bm 20 (rs.take (20*t))).length=20*t:=by rw[Le,gD];omega
 have hC:((rs.drop (20*t)).take c).length=c:=by rw[gD,fM];omega
 have:=abW bm zM Ii (gI bm 20 (rs.take (20*t))) ((rs.drop (20*t)).take c) ((rs.drop (20*t)).drop c) dk (by rw[hl,j9]);rw[gM,hC]at this;rw[this,rF,<- fP];congr 1;rw[SU,Ih bm ae _ t _ (by rw[gD];omega),zL bm (l:=(rs.drop (20*t)).take c) (by rw[hC];exact hc)]
theorem acn{rs:List ai}{dk:Array ai}{s t a c:Nat}(hs:0<s)(ha:a=2*s*t)(hl:dk.toList=gI bm (2*s) (rs.take a)++gI bm s (rs.drop a))(hc:c<=s)(h0:0<c)(hn:a+s+c<=rs.length)(hc3:c=s\/a+s+c=rs.length) :
  ∃X A' B' Z,dk.toList=X++(A'++(B'++Z))/\X.length=a/\A'.length=s/\B'.length=c/\fN bm A'/\fN bm B'/\X++(cG bm A' B'++Z)=gI bm (2*s) (rs.take (a+s+c))++gI bm s (rs.drop (a+s+c)):=by
 have e1:rs.drop a=(rs.drop a).take s++((rs.drop (a+s)).take c++rs.drop (a+s+c)):=by{rw[<- rF (i:=c),j9,<- rF (i:=s),j9]};have l1:((rs.drop a).take s).length=s:=by rw[gD,fM];omega
 have l2:((rs.drop (a+s)).take c).length=c:=by rw[gD,fM];omega
 have e3:rs.take (a+s+c)=rs.take a++((rs.drop a).take s++(rs.drop (a+s)).take c):=by{rw[SU,SU,fP]};generalize (rs.drop a).take s=C1 at *;generalize (rs.drop (a+s)).take c=C2 at *;have lx:(gI bm (2*s) (rs.take a)).length=a:=by rw[Le,gD];omega
 refine⟨gI bm (2*s) (rs.take a),iN bm C1,iN bm C2,gI bm s (rs.drop (a+s+c)),?_,lx,by rw[KX,l1],by rw[KX,l2],KY bm zM Ii _,KY bm zM Ii _,?_⟩;{rw[hl,e1,anJ bm hs l1];congr 2;rcases hc3 with hc3|hc3;{rw[Ih bm hs _ 1 C2 ae,zL bm (l:=C2) ae]};{rw[show rs.drop (a+s+c) = []from sX ae,Dd,h_,h_,zL bm ae]}};{rw[e3,Ih bm ae _ t (rs.take a) (by rw[gD];omega),zL bm (l:=C1++C2) (by rw[bj];omega),am7 bm zM,fP]}
theorem anL(g cap:Nat)(rs:List ai)(w:World)(hH:HoldsK ai.aS 4 w g 0 rs.toArray)(hg:g<w.heap.size)(hl:rs.length<=3001) :
  aB 173 #[aD g 0 rs.length cap,aj rs.length,.func (.func 103) #[] #[]] w fun e w' =>
   e=.returned (.tuple #[])/\∃q os d',w'=sortWorldK ai.aS 4 w g 0 q d' os/\d'.toList=iN bm rs:=by
 obtain⟨n,hn⟩:=bF rs.length;have hsz:rs.toArray.size=n:=by rw[hn];simp
 have Pq:=ag (fun q dk os a b (hs:dk.size=rs.toArray.size) (hab:a<=b) (hb:b<=rs.toArray.size)=>anK g cap a b q rs.toArray dk os w hH hg hs ae hab hb);have Pr:=ag (fun f=>ack g cap rs.toArray w hH hg ae f);have wQ:=ag (anf hH);rw[hsz]at Pq;unfold UJ at Pr;rw[hsz]at Pr;rw[<- hn];have yg:n<=3001:=ae;have dm:=ag (bg hn (bg hsz hl));clear hH hg hl hn hsz;go_enter func173,ntmps173;go_wp2_with fail;go_loopg [7,8] (n+20) (fun g1 va vb wr=>∃(a t:Nat),va=aj a/\vb=aj (a+20:Nat)/\Hid (a=20*t)/\a<=n/\n+20<=g1+a/\Hid (∃q os dk,wr=sortWorldK ai.aS 4 w g 0 q dk os/\dk.size=n/\dk.toList=gI bm 20 (rs.take a)++rs.drop a));case atStart =>(refine⟨0,0,rfl,rfl,rfl,ae,ae,0,#[],rs.toArray,wQ,dm.2.1,?_⟩;rw[vZ,Dd];simp)
 case round =>(
 obtain⟨a,t,rfl,rfl,hat,aco,azv,HW⟩:=hrel;obtain⟨b,hb⟩:∃b,a+20=b:=⟨_,rfl⟩;rw[hb];by_cases ky:b<=n;{
 have Bg:(b:Int)<=(n:Int):=ae;obtain⟨q1,os1,d1,hwr,hs1,dH⟩:=af HW;have HC:=ag (Pq q1 d1 os1 a b hs1 ae ae);rw[<- hwr]at HC;have kN:Hid ((Sort.insertionSort bm d1 a b).toList=gI bm 20 (rs.take b)++rs.drop b):=by{have e:=af hat;have jE:=dm.1;have:=acm (rs:=rs) (dk:=d1) (t:=t) (c:=20) (by rw[<- e];exact dH) ae ae ae (.inl rfl);rw[<- e,hb]at this;exact this};have Ps:Hid ((Sort.insertionSort bm d1 a b).size=n):=by rw[Hid,OH];exact hs1
 have aX:=ag hb;have hb3:b<=3001:=ae;clear hwr hs1 dH hb;go_wp2_with fail;refine HC.mono ?_;rintro e w2 ⟨rfl,q2,os2,hw2⟩;have fO:=ag hw2;clear hw2;go_wp2_with fail;go_roundg (gk - 20);case measure=>have:=af aX;omega
 case rel =>(have hb:=af aX;have e:=af hat;refine⟨b,t+1,by first|rfl|go_num,by first|rfl|go_num,by rw[Hid];omega,ky,ae,q2,os2,_,fO,Ps,kN⟩)};{
 have Bg:¬(b:Int)<=(n:Int):=ae;obtain⟨q1,os1,d1,hwr,hs1,dH⟩:=af HW;have HC:=ag (Pq q1 d1 os1 a n hs1 aco aA);rw[<- hwr]at HC;have kN:Hid ((Sort.insertionSort bm d1 a n).toList=gI bm 20 rs):=by{have e:=af hat;have jE:=dm.1;have:=acm (rs:=rs) (dk:=d1) (t:=t) (c:=n - a) (by rw[<- e];exact dH) ae ae ae (.inr ae);rw[<- e,show a+(n - a)=n from ae]at this;rw[Hid,this,jE,gV,vU,h_]};have Ps:Hid ((Sort.insertionSort bm d1 a n).size=n):=by rw[Hid,OH];exact hs1
 clear hwr hs1 dH hb;go_wp2_with fail;refine HC.mono ?_;rintro e w2 ⟨rfl,q2,os2,hw2⟩;have fO:Hid (∃q os dk,w2=sortWorldK ai.aS 4 w g 0 q dk os/\dk.size=n/\dk.toList=gI bm 20 rs):=⟨q2,os2,_,hw2,Ps,kN⟩;clear hw2 HC kN Ps Pq;go_wp2_with fail;go_loopg [6] n (fun g1 vs wr=>∃(s:Nat),vs=aj s/\20<=s/\s<=6002/\n<=s+g1/\Hid (∃q os dk,wr=sortWorldK ai.aS 4 w g 0 q dk os/\dk.size=n/\dk.toList=gI bm s rs));case atStart=>exact⟨20,rfl,ae,ae,ae,fO⟩
 case round =>(
 obtain⟨s,rfl,azw,sk,azx,uW⟩:=hrel;by_cases De:s<n;{
 have Pt:(s:Int)<(n:Int):=ae;obtain⟨s2,hs2⟩:=bF (2*s);have azy:(2:Int)*s=(s2:Int):=ae;have azz:(s:Int)*2=(s2:Int):=ae;have acp:s2<=6002:=ae;have jQ:=ag hs2;have azA:s<s2:=ae;clear hs2;go_wp2_with fail;go_loopg [7,8] n (fun g2 va vb wr=>∃(a t:Nat),va=aj a/\vb=aj (a+s2:Nat)/\Hid (a=2*s*t)/\a<=n/\n<=g2+a/\Hid (∃q os dk,wr=sortWorldK ai.aS 4 w g 0 q dk os/\dk.size=n/\dk.toList=gI bm (2*s) (rs.take a)++gI bm s (rs.drop a)));case atStart =>(obtain⟨q1,os1,d1,hwr,hs1,dH⟩:=af uW;refine⟨0,0,rfl,by first|rfl|(rw[eY])|go_num,rfl,ae,ae,q1,os1,d1,hwr,hs1,?_⟩;rw[vZ,Dd,Aw];exact dH)
 case round =>(
 obtain⟨a,t,rfl,rfl,hat,aco,azB,HW⟩:=hrel;obtain⟨b,hb⟩:∃b,a+s2=b:=⟨_,rfl⟩;rw[hb];obtain⟨m,hm⟩:∃m,a+s=m:=⟨_,rfl⟩;have xS:(a:Int)+s=(m:Int):=ae;have sq:m<=6002:=ae;by_cases ky:b<=n;{
 have Bg:(b:Int)<=(n:Int):=ae;obtain⟨q1,os1,d1,hwr,hs1,dH⟩:=af HW;have jE:=dm.1;have e2:=af jQ;obtain⟨X,A',B',Z,k1,k2,k3,k4,k5,k6,k7⟩:=acn (rs:=rs) (dk:=d1) (s:=s) (t:=t) (a:=a) (c:=s) ae (af hat) dH aA ae ae (.inl rfl);have HC:=ag (Pr (b - a) a m b q1 d1 os1 X A' B' Z hs1 k1 k2 ae ae ae ae k5 k6 aA);rw[<- hwr]at HC;have kN:Hid (∀d':Array ai,d'.toList=X++(cG bm A' B'++Z)->d'.size=n/\d'.toList=gI bm (2*s) (rs.take b)++gI bm s (rs.drop b)):=fun d' h'=>by{rw[k7,show a+s+s=b from ae]at h';refine⟨?_,h'⟩;rw[<- uv,h',bj,Le,Le,gD,fM];omega};have aX:Hid (a+s2=b/\a+s=m):=⟨hb,hm⟩;have hb3:b<=3001:=ae;clear hwr hs1 dH hb hm k1 k2 k3 k4 k5 k6 k7 jE e2;go_wp2_with fail;refine HC.mono ?_;rintro e w3 ⟨rfl,q2,os2,d2,hw3,hl3⟩;have oL:Hid (∃q os dk,w3=sortWorldK ai.aS 4 w g 0 q dk os/\dk.size=n/\dk.toList=gI bm (2*s) (rs.take b)++gI bm s (rs.drop b)):=⟨q2,os2,d2,hw3,(kN d2 hl3).1,(kN d2 hl3).2⟩;clear hw3 hl3;go_wp2_with fail;go_roundg (gk - s2);case measure=>have:=af aX;have:=af jQ;omega
 case rel =>(obtain⟨hb,hm⟩:=af aX;have e2:=af jQ;have e:=af hat;refine⟨b,t+1,by first|rfl|go_num,by first|rfl|go_num,by rw[Hid,<- hb,e,e2,SZ],ky,ae,oL⟩)};{
 have Bg:¬(b:Int)<=(n:Int):=ae;by_cases hmn:m<n;{
 have anM:(m:Int)<(n:Int):=ae;obtain⟨q1,os1,d1,hwr,hs1,dH⟩:=af HW;have jE:=dm.1;have e2:=af jQ;obtain⟨X,A',B',Z,k1,k2,k3,k4,k5,k6,k7⟩:=acn (rs:=rs) (dk:=d1) (s:=s) (t:=t) (a:=a) (c:=n - m) ae (af hat) dH ae ae ae (.inr ae);have HC:=ag (Pr (n - a) a m n q1 d1 os1 X A' B' Z hs1 k1 k2 ae ae ae ae k5 k6 aA);rw[<- hwr]at HC;have kN:Hid (∀d':Array ai,d'.toList=X++(cG bm A' B'++Z)->d'.size=n/\d'.toList=gI bm s2 rs):=fun d' h'=>by{rw[k7,show a+s+(n - m)=n from ae,jE,gV,vU,Dd,h_,<- e2]at h';refine⟨?_,h'⟩;rw[<- uv,h',Le];omega};clear hwr hs1 dH hb hm k1 k2 k3 k4 k5 k6 k7 jE e2;go_wp2_with fail;refine HC.mono ?_;rintro e w3 ⟨rfl,q2,os2,d2,hw3,hl3⟩;have oL:Hid (∃q os dk,w3=sortWorldK ai.aS 4 w g 0 q dk os/\dk.size=n/\dk.toList=gI bm s2 rs):=⟨q2,os2,d2,hw3,(kN d2 hl3).1,(kN d2 hl3).2⟩;clear hw3 hl3;go_wp2_with fail;go_roundg (n - s2);case measure=>omega
 case rel=>exact⟨s2,by first|rfl|go_num,ae,acp,ae,oL⟩};{
 have anM:¬(m:Int)<(n:Int):=ae;have oL:Hid (∃q os dk,wr=sortWorldK ai.aS 4 w g 0 q dk os/\dk.size=n/\dk.toList=gI bm s2 rs):=by{
 obtain⟨q1,os1,d1,hwr,hs1,dH⟩:=af HW;have jE:=dm.1;have e2:=af jQ;refine⟨q1,os1,d1,hwr,hs1,?_⟩;have UQ:(rs.drop a).length<=s:=by rw[fM];omega
 rw[dH,zL bm UQ,<- zL bm (s:=2*s) (l:=rs.drop a) ae,<- Ih bm ae _ t (rs.take a) (by rw[gD];have:=af hat;omega),j9,<- e2]};clear hb hm HW;go_wp2_with fail;go_roundg (n - s2);case measure=>omega
 case rel=>exact⟨s2,by first|rfl|go_num,ae,acp,ae,oL⟩}})};{have Pt:¬(s:Int)<(n:Int):=ae;go_wp2_with fail;go_end0;obtain⟨q1,os1,d1,hwr,hs1,dH⟩:=af uW;have jE:=dm.1;exact⟨rfl,q1,os1,d1,hwr,by rw[dH,zL bm ae]⟩})})
end
section
open Go.RowKit Go.Sort Go.Shelf
theorem Pu(rs:List ai):aN rs=iN bm rs:=by have:=abW bm zM Ii [] rs [] rs.toArray ar;simp only[fy,eY,gb,h_]at this;exact this
theorem anN(g cap:Nat)(rs:List ai)(w:World)(hH:HoldsK ai.aS 4 w g 0 rs.toArray)(hg:g<w.heap.size)(hl:rs.length<=3001) :
  aB 102 #[aD g 0 rs.length cap,.func (.func 103) #[] #[]] w fun e w' =>
   e=.returned (.tuple #[])/\∃q os d',w'=sortWorldK ai.aS 4 w g 0 q d' os/\d'.toList=iN bm rs:=by have eG:=ag (anL g cap rs w hH hg hl);clear hH;go_enter func102,ntmps102;go_wp2_with fail;refine eG.mono ?_;rintro e w1 ⟨rfl,hw⟩;have HW:=ag hw;clear hw;go_wp2_with fail;go_end0;exact⟨rfl,HW⟩
theorem anO(g cap:Nat)(rs:List ai)(w:World)(hH:HoldsK ai.aS 4 w g 0 rs.toArray)(hg:g<w.heap.size)(hl:rs.length<=3001) :
  aB 59 #[aD g 0 rs.length cap] w fun e w' =>
   e=.returned (.tuple #[])/\∃q os d',w'=sortWorldK ai.aS 4 w g 0 q d' os/\d'.toList=iN bm rs:=by have eG:=ag (anN g cap rs w hH hg hl);clear hH;go_enter func59,ntmps59;go_wp2_with fail;refine eG.mono ?_;rintro e w1 ⟨rfl,hw⟩;have HW:=ag hw;clear hw;go_wp2_with fail;go_end0;exact⟨rfl,HW⟩
theorem acq(g cap:Nat)(rs:List ai)(w:World)(cur:Array Value)(e:TypeId)(hc:w.heap[g]? = some (.cells cur e))(hr:dG w g 0 rs)(hl:rs.length<=3001) :
  aB 59 #[aD g 0 rs.length cap] w fun e w' =>
   e=.returned (.tuple #[])/\dG w' g 0 (aN rs)/\∀B a,B<=g->B<=w.heap.size->Below B a w->Below B a w':=by
 refine(anO g cap rs w (abk hc hr) hr.1 hl).mono ?_;rintro e w' ⟨rfl,n,os,d',rfl,hd⟩;obtain rfl:d'=(aN rs).toArray:=by rw[Pu,<- hd]
 have hs:(aN rs).toArray.size=rs.toArray.size:=by simp[abm]
 refine⟨rfl,al4 (dP hr.1 (size_sortWorldK_c ai.aS 4 w g 0 n _ os)) ?_,fun B a h1 h2 h3=>al8 h3 h1 h2⟩;exact holdsK_sortWorldK_c ai.aS 4 w g 0 rs.toArray _ n os (abk hc hr) hr.1 hs
end
theorem UR{α:Type}(lt:α->α->Bool):∀(A B:List α),(cG lt A B).Perm (A++B)
 | [],B=>by cases B <;> simp[cG]
 | a :: A,[]=>by simp[cG]
 | a :: A,b :: B=>by rw[O8];split;{exact((UR lt (a :: A) B).cons b).trans (List.perm_middle.symm)};{exact(UR lt A (b :: B)).cons a}
termination_by A B=>A.length+B.length
theorem anP{α:Type}(lt:α->α->Bool)(l:List α):(iN lt l).Perm l:=by
 have key:∀(n:Nat) (l:List α),l.length=n->(iN lt l).Perm l:=by{
 intro n;induction n with
 | zero=>intro l h;obtain rfl:l = []:=fp h;exact List.Perm.refl _
 | succ n ih =>{
 intro l h;have hne:l≠[]:=by rintro rfl;simp at h
 have e:=SC hne;have hl:l.dropLast.length=n:=aP;conv=>lhs;rw[<- e]
 rw[Fx];have:=(UR lt (iN lt l.dropLast) [l.getLast hne]).trans ((ih _ hl).append_right _);rwa [e]at this}};exact key l.length l rfl
theorem zO(rs:List ai):(aN rs).Perm rs:=by rw[Pu];exact anP _ rs
theorem FE(rs:List ai):fN bm (aN rs):=by rw[Pu];exact KY bm zM Ii rs
theorem Pv{r s:ai}(h:bm r s=false):Op.bytesLess r.owner s.owner=false/\(r.owner=s.owner->¬r.type<s.type):=by
 have hn:¬(Op.bytesLess r.owner s.owner=true\/(r.owner=s.owner/\r.type<s.type)):=fun hc=>by rw[(FD r s).2 hc]at h;cases h
 refine⟨?_,fun e hl=>hn (.inr ⟨e,hl⟩)⟩;rw[<- qI];exact fun hc=>hn (.inl hc)
theorem acr{r x y:ai}(h1:bm x r=false)(h2:bm y x=false)(he:y.owner=r.owner):x.owner=r.owner/\(y.type=r.type->x.type=r.type):=by obtain⟨a1,a2⟩:=Pv h1;obtain⟨b1,b2⟩:=Pv h2;have ho:x.owner=r.owner:=by{rw[he]at b1;exact UO _ _ a1 b1};refine⟨ho,fun ht=>?_⟩;have aC:=a2 ho;have c2:=b2 (he.trans ho.symm);omega
theorem UT{κ:Type}(k:ai->κ)(hk:∀r x y:ai,bm x r=false->bm y x=false->k y=k r->k x=k r):∀(l:List ai),fN bm l->wP k l
 | [],_=>aQ
 | r :: t,h=>by have hp:=xL.1 h;refine⟨fun a b e hx y hy=>?_,UT k hk t hp.2⟩;obtain⟨x,Px,anQ⟩:=hx;subst e;intro anR;have uT:=(oC.1 hp.2).2.2 x Px y hy;exact anQ (hk r x y (hp.1 x (NP _ Px)) uT anR)
theorem anS{l:List ai}(h:fN bm l):wP (fun r:ai=>r.owner) l:=UT _ (fun r x y h1 h2 he=>(acr h1 h2 he).1) l h
theorem anT{l:List ai}(h:fN bm l):wP (fun r:ai=>(r.owner,r.type)) l:=UT _ (fun r x y h1 h2 he=>by
 obtain⟨e1,e2⟩:=iA he;obtain⟨a,b⟩:=acr h1 h2 e1;exact Hu a (b e2)) l h
theorem wS(a b:ai):cN a b=true ↔ a.owner=b.owner:=by unfold cN;simp
theorem wU(a b:ai):bu a b=true ↔ (a.owner,a.type)=(b.owner,b.type):=by unfold bu;simp
theorem Df{L:List ai}{r:ai}(hr:r∈L){x:Nat×List ai}(hx:x.2=L.filter (cN r)):cQ x=r.owner:=by
 unfold cQ;rw[hx];have hm:r∈L.filter (cN r):=fA.2 ⟨hr,(wS r r).2 rfl⟩;cases hf:L.filter (cN r)with
 | nil=>rw[hf]at hm;cases hm
 | cons y t =>{
 have:y∈L.filter (cN r):=by rw[hf];simp
 exact((wS r y).1 (fA.1 this).2).symm}
section
variable {L:List ai} (hL:fN bm L)
include hL
theorem Dg:(∀x∈bz cN L,∃r∈L,x.2.head? = some r/\x.2=L.filter (cN r))/\(∀r∈L,∃x∈bz cN L,x.2=L.filter (cN r)) :=
 Uy cN wS L.length 0 L aA (anS hL)
theorem FH:(∀x∈bz bu L,∃r∈L,x.2.head? = some r/\x.2=L.filter (bu r))/\(∀r∈L,∃x∈bz bu L,x.2=L.filter (bu r)) :=
 Uy bu wU L.length 0 L aA (anT hL)
theorem anU(p:List ai->Bool):(bz bu L).all (fun x=>p x.2)=true ↔ ∀r∈L,p (L.filter (bu r))=true:=by rw[vT];constructor;{intro h r hr;obtain⟨x,hx,e⟩:=(FH hL).2 r hr;rw[<- e];exact h x hx};{intro h x hx;obtain⟨r,hr,_,e⟩:=(FH hL).1 x hx;rw[e];exact h r hr}
theorem anV(p:ah->List ai->Bool):(bz cN L).all (fun x=>p (cQ x) x.2)=true ↔ ∀r∈L,p r.owner (L.filter (cN r))=true:=by rw[vT];constructor;{intro h r hr;obtain⟨x,hx,e⟩:=(Dg hL).2 r hr;rw[<- e,<- Df hr e];exact h x hx};{intro h x hx;obtain⟨r,hr,_,e⟩:=(Dg hL).1 x hx;rw[Df hr e,e];exact h r hr}
theorem acs(n:ah):cB L n=L.filter (fun r=>r.owner == n):=by
 unfold cB;cases hf:(bz cN L).find? (fun x=>cQ x == n)with
 | some x =>{
 have hp:=SI hf;obtain⟨r,hr,_,e⟩:=(Dg hL).1 x (J6 hf);have ho:r.owner=n:=by rw[<- Df hr e];simpa using hp
 show x.2=_;rw[e];congr 1;funext y;rw[rE,wS,ho,fe];exact eq_comm}
 | none =>{show []=_;symm;rw[rH];intro r hr hc;obtain⟨x,hx,e⟩:=(Dg hL).2 r hr;have:=SH.1 hf x hx;rw[Df hr e]at this;exact this hc}
theorem Py(n:ah):pY L n=true ↔ ∀r∈L,dy r.owner n=true->rO r.owner=false/\∀s∈L,s.owner=r.owner->s.type=(if r.owner=n then 2 else 1):=by
 unfold pY uH;rw[vT];constructor;{
 intro h r hr hu;obtain⟨x,hx,e⟩:=(Dg hL).2 r hr;have ho:=Df hr e;have:=h x (fA.2 ⟨hx,by rw[ho];exact hu⟩);unfold wH at this;rw[cY,ho]at this;refine⟨by simpa using this.1,fun s hs nz=>?_⟩;have h2:=this.2;rw[y9,<- qI,oA]at h2;have hm:s∈x.2:=by rw[e];exact fA.2 ⟨hs,(wS r s).2 nz.symm⟩
 have h3:rW (if r.owner == n then 2 else 1) s=false:=by{rw[<- qI];exact fun hc=>h2 ⟨s,hm,hc⟩};unfold rW at h3;have h4:s.type=(if r.owner == n then 2 else 1):=by simpa using h3
 rw[h4];by_cases hn:r.owner=n <;> simp[hn]};{intro h x hx;obtain⟨hx1,hx2⟩:=fA.1 hx;obtain⟨r,hr,_,e⟩:=(Dg hL).1 x hx1;have ho:=Df hr e;rw[ho]at hx2;obtain⟨h1,h2⟩:=h r hr hx2;unfold wH;rw[cY,ho];refine⟨by rw[h1];rfl,?_⟩;rw[y9,<- qI,oA];rintro⟨s,hs,hc⟩;rw[e]at hs;obtain⟨hs1,hs2⟩:=fA.1 hs;have h3:=h2 s hs1 ((wS r s).1 hs2).symm;unfold rW at hc;rw[h3]at hc;by_cases hn:r.owner=n <;> simp[hn]at hc}
end
end Go.Proofs.YtkkpahmoljiepaaGreatDoor
