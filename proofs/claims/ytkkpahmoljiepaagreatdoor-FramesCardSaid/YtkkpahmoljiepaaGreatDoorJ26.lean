import Derived.Test.YtkkpahmoljiepaaGreatDoorJ25
set_option maxRecDepth 1000000
set_option maxHeartbeats 12800000
set_option linter.unusedSimpArgs false
set_option linter.unusedVariables false
namespace Go.Proofs.YtkkpahmoljiepaaGreatDoor
open Go.RowKit Go.Proofs.Tryz
structure lY(h1 h2:ah)(S:ah)(es:ey)(l:ah)(ps:cY):Prop where
 same:∃t,S=h1++t/\l=h2++t
 pl:es.filter (fun e=>decide (e.2<16384))=ps.map (fun p=>(aY p.1,p.2))
theorem CG{x:ah}: ∀ {es:ey} {ps:cY},es.filter (fun c=>decide (c.2<16384))=ps.map (fun b=>(aY b.1,b.2))->e7 (aY x) es=kC ps x
 | [],ps,h=>by
  have:ps=[]:=by simpa using h.symm
  rw[this];rfl
 | c::es,ps,h=>by
  by_cases he:c.2<16384;{
  rw[i1 sJ]at h;cases ps with
  | nil=>simp at h
  | cons b ps =>{rw[fl]at h;obtain⟨h1,h2⟩:=rh h;have e:=CG (x:=x) h2;unfold e7 kC;rw[h1,e];by_cases a:b.1=x;{rw[ay ⟨by rw[a],by have:=bP Prod.snd h1;simp only at this;omega⟩,ay (by simpa using a)]};{rw[ar (fun d=>a (rD d.1)),ar (by simpa using a)]}}};{rw[kh sJ]at h;unfold e7;rw[ar (fun d=>he d.2)];exact CG h}
section
variable {h1 h2 S:ah} {es:ey} {l:ah} {ps:cY} (h:lY h1 h2 S es l ps)
include h
theorem lY.app(x:ah):lY h1 h2 (S++x) es (l++x) ps:=by obtain⟨a,rfl,rfl⟩:=h.same;exact⟨⟨a++x,by rw[c_],by rw[c_]⟩,h.pl⟩
theorem lY.len(a:h1.length=h2.length):S.length=l.length:=by obtain⟨b,rfl,rfl⟩:=h.same;rw[a6,a6,a]
theorem lY.find(x:ah):e7 (aY x) es=kC ps x:=CG h.pl
theorem lY.akj(b:h1.length=h2.length)(x:ah):lY h1 h2 S (es++[(aY x,S.length)]) l (iQ ps x l.length):=by refine⟨h.same,?_⟩;unfold iQ;rw[kP,h.pl,h.len b];by_cases a:l.length<16384;{rw[ay a,d0];simp[a]};{rw[ar a];simp[a]}
theorem lY.hit{x:ah}{a:List ah}{g:Nat}(e:x≠[])(d:cO a=aY x)(c:kC ps x=some g):lY h1 h2 (bd a S es).1 (bd a S es).2 (dM (bo x) l ps).1 (dM (bo x) l ps).2:=by
 cases a with
 | nil=>exact absurd d.symm (xu x)
 | cons j i =>{have b:=h.find x;rw[c,<- d]at b;rw[oD b,iO x e,s4 c];exact h.app _}
end
structure xE(x:ah):Prop where
 ne:gp x
 p:(80:UInt8) ∉ x
 low:∀c∈x,fM c=c
theorem Wb{x:ah}(h:∀a∈x,fM a=a):x.map fM=x:=by have:x.map fM=x.map id:=hN h;exact kJ
theorem KW{x:ah}(h:∀a∈x,fM a=a):cO (aC 46 x)=aC 46 x:=by unfold cO;have:(aC 46 x).map (List.map fM)=(aC 46 x).map id:=hN fun d c=>Wb fun a b=>h a ((xr _ x av d c).2 a b);exact kJ
theorem xE.aaE{x:ah}(h:xE x):cO (aC 46 x)=aY x:=by rw[KW h.low,lv h.p]
theorem qE{h1 h2:ah}(o:h1.length=h2.length):∀(f:Nat) (x:ah) (S:ah) (es:ey) (l:ah) (ps:cY),x.length<=f->xE x->lY h1 h2 S es l ps->lY h1 h2 (bd (aC 46 x) S es).1 (bd (aC 46 x) S es).2 (dM (bo x) l ps).1 (dM (bo x) l ps).2
 | 0,x,S,es,l,ps,n,a,h=>by have:x=[]:=df ae;subst this;exact absurd rfl (a.ne [] (by simp[m0]))
 | f+1,x,S,es,l,ps,n,a,h=>by
  have r:x≠[]:=fun e=>by{subst e;exact absurd rfl (a.ne [] (by simp[m0]))};have i:=h.find x;cases p:kC ps x with
  | some D=>exact h.hit r a.aaE p
  | none =>{
  rw[p]at i;rw[iO x r,s5 p];rcases hP 46 x with⟨q,z⟩|⟨j,d,g,t,e⟩;case inr =>(
  have B:xE d:=⟨fun C A=>a.ne C (by rw[e];exact fs _ A),fun k=>a.p (by rw[g];simp[k]),fun u k=>a.low u (by rw[g];simp[k])⟩;have b:=a.aaE;rw[e]at b;rw[e,lx (by rw[b];exact i),b];have c:=(h.akj o x).app (iw x);have w:iw x=UInt8.ofNat j.length::j:=by unfold iw;rw[g,zV j d t]
  have y:eh x=d:=by rw[g];exact ot j d t
  rw[y];rw[w]at c ⊢;exact qE o f d _ _ _ _ (by rw[g]at n;simp at n;omega) B c)
  case inl =>(have b:=a.aaE;rw[z]at b ⊢;rw[<- b]at i;rw[lx i,pn x q,i7,b];have c:=((h.akj o x).app (iw x)).app [0];unfold iw at c ⊢;rw[zW x q]at c ⊢;exact c)}
theorem Wd{a:UInt8}(h:ka a=true):fM a=a:=by unfold ka vY at h;unfold fM;simp only[lN,bW,jy,dE]at h;rw[ar ae]
theorem KX{star:Bool}{c:ah}(h:(dS star c).isSome=true):∀a∈c,fM a=a:=by
 intro d e;unfold dS at h;split at h;{
 rename_i g;have j:∀(l:List ah) (i:Nat),fZ star i l=true->∀x∈l,∀a∈x,fM a=a:=by{
 intro l;induction l with
 | nil=>exact yj
 | cons k l ih =>{
 intro i h x hx;rw[fZ,bW]at h;rcases co.1 hx with rfl|hx;{
 intro a b;have:=h.1;unfold k_ at this;rw[lN]at this;rcases this with this|this;{unfold fA at this;rw[bW,kM]at this;exact Wd (this.2 a b)};{
 simp only[bW,dE]at this;rw[this.1.2]at b;obtain rfl:a=42:=by simpa using b
 rfl}};exact yN}};rcases AM _ c d av e with h|⟨l,h1,h2⟩;{rw[h];rfl};{exact j _ 0 g.2 l h1 d h2}};{cases h}
theorem s2{x:ah}(h:dQ x=true):xE x where
 ne:=(ed h).1
 p:=xB h
 low:=KX (star:=false) (by rw[l7];exact h)
theorem We{x:ah}(h:jh x=true):xE x where
 ne:=(oX h).1
 p:=xC h
 low:=KX (star:=true) (by rw[tG];exact h)
def dB(a:aj):List eF :=
 if a.type=1 then(gM ((aC 46 a.data).map eB)).map fa
 else if a.type=16 then n6 a.data
 else if a.type=15 then mR (eB (dj a 0)) (dj a 1)
 else if a.type=6 then mQ (dj a 0) (dj a 1) (eB (dj a 2)) (eB (dj a 3))
 else [lp a.data]
theorem KY{m:Nat}(d:m<=4294967295):∀(l:ah) (a v:Nat),a<=m->g1 m a l=some v->Lib.parseUintM (2 ^ 64-1) a l=.ok v
 | [],a,v,_,h=>by simp[g1]at h;rw[h];rfl
 | g::e,a,v,i,h=>by unfold g1 at h;split at h;{rename_i b;split at h;{rename_i c;simp only[jp,bW,jy]at b;unfold Lib.parseUintM;rw[ay ae,ar ae,ar ae,mV a 10];exact KY d e _ v c h};{cases h}};{cases h}
theorem xX{m:Nat}(b:m<=4294967295){x:ah}(h:cf m x=true):Lib.parseUintB 64 x=.ok (eB x):=by
 have h2:=(oE b h).1;unfold cf at h2;obtain⟨v,a⟩:=Option.isSome_iff_exists.1 h2;have c:eB x=v:=by unfold eB e_;rw[a];rfl
 rw[c];unfold jz at a;cases x with
 | nil=>cases a
 | cons d e =>{simp only at a;split at a;{cases a};{unfold Lib.parseUintB;rw[ar am];exact KY ae _ 0 v ae a}}
structure Lp(r:aj):Prop where
 own:r.owner.length<=300
 aI:r.aI<4294967296
 dat:cQ r.type (aC 32 r.data)=true
 len:r.data.length<=3000
theorem KZ(a:aj):Cy 32 (ai a.data)=(aC 32 a.data).map ai:=by
 have h:=kY 32 (ai a.data);have b:(ai a.data).data.toList=a.data:=by simp[ai]
 rw[b]at h;rw[<- h,fT];have:∀x∈Cy 32 (ai a.data),(ai ∘ fun x=>x.data.toList) x=id x:=fun x _=>by simp[ai]
 rw[hN this,pw]
theorem kH{P:Prop}(h:P:=by unfold dj;rw[cg];rfl):P:=h
theorem uk{b:aj}(h:Lp b):qD b (dB b):=by
 have a:=oW h.dat;have d:=h.dat;rcases a with a|a|a|a|a|a;all_goals rw[a]at d
 all_goals unfold dB
 {rw[ay a];obtain⟨c,cg,B,x⟩:=CY d;have k:=mC cg;refine Wq b _ h.own a h.aI h.len ?_ ?_ ?_ ?_;{unfold tP;rw[k,fT];exact hN fun i g=>xX (m:=255) ae (kM.1 B i g)};{unfold gM;rw[k];intro p;have:=bP List.length p;simp[x]at this};{unfold gM;rw[k];simp[x]};{intro f w;unfold gM at w;obtain⟨u,_,rfl⟩:=fz.1 w;exact mj _}};{rw[ar ae,ar ae,ar ae,ar ae];obtain⟨c,cg,q⟩:=nf (t:=2) (.inl rfl) d;have:=(ed q).2;exact Kw b h.own (.inl a) h.aI (by rw[mC cg];omega)};{rw[ar ae,ar ae,ar ae,ar ae];obtain⟨c,cg,q⟩:=nf (t:=5) (.inr rfl) d;have:=(ed q).2;exact Kw b h.own (.inr a) h.aI (by rw[mC cg];omega)};{
 rw[ar ae,ar ae,ar ae,ay a];obtain⟨c,e,l,n,cg,y,r,p,C⟩:=tU d;have o:dj b 0=c:=kH
 have h1:dj b 1=e:=kH
 have h2:dj b 2=l:=kH
 have z:dj b 3=n:=kH
 have j:=fun i g=>aZ (jo 32 _ b.data av i g) h.len;have E:=(ed y).2;have D:=(ed r).2;rw[o,h1,h2,z];exact Wr b h.own a h.aI h.len c e l n _ _ (by rw[KZ,cg];rfl) (xX (m:=4294967295) ae p) (xX (m:=86400) ae C) ae ae (j l sm) (j n sm)};{
 rw[ar ae,ar ae,ay a];obtain⟨c,e,cg,A,r⟩:=tV d;have o:dj b 0=c:=kH
 have h1:dj b 1=e:=kH
 have j:=fun i g=>aZ (jo 32 _ b.data av i g) h.len;have D:=(ed r).2;rw[o,h1];exact Wt b h.own a h.aI h.len c e _ (by rw[KZ,cg];rfl) (xX (m:=65535) ae A) (j c sm) ae};{rw[ar ae,ay a];exact Ws b h.own a h.aI h.len}
theorem K1:∀(a:List kR) (l:ah) (ps:cY),cL (a.map fa) l ps=(l++a.flatMap (·.out),ps)
 | [],l,ps=>by simp[cL]
 | f::a,l,ps=>by rw[fl,wt];show cL (a.map fa) (l++f.out) ps=_;rw[K1 a,eT,c_]
theorem K2:∀(a:List Nat),(gM a).flatMap (·.out)=a.map UInt8.ofNat
 | []=>rfl
 | u::a=>by show _::(gM a).flatMap (·.out)=_;rw[K2 a];rfl
theorem Fq{P:Prop}(h:P:=by
 have h0:dj r 0=r.data:=by unfold dj;rw[cg,mC cg];rfl
 rw[h0];exact qE hl _ r.data S es l ps av (s2 (by rw[mC cg];exact hp)) e):P:=h
theorem K3{h1 h2 S:ah}{es:ey}{l:ah}{ps:cY}(hl:h1.length=h2.length){r:aj}(h:Lp r)(e:lY h1 h2 S es l ps):lY h1 h2 (b5 (ck r) S es).1 (b5 (ck r) S es).2 (cL (dB r) l ps).1 (cL (dB r) l ps).2:=by
 have a:=oW h.dat;have c:=h.dat;rcases a with a|a|a|a|a|a;all_goals rw[a]at c
 all_goals unfold dB ck
 {rw[ay a,ay a,K1,K2,fT];exact e.app _};{
 rw[ar ae,ar ae,ar ae,ar ae,ar ae,ar ae,ar ae,ar ae];obtain⟨b,cg,hp⟩:=nf (t:=2) (.inl rfl) c;exact Fq};{
 rw[ar ae,ar ae,ar ae,ar ae,ar ae,ar ae,ar ae,ar ae];obtain⟨b,cg,hp⟩:=nf (t:=5) (.inr rfl) c;exact Fq};{
 rw[ar ae,ar ae,ar ae,ay a,ar ae,ar ae,ar ae,ay a];obtain⟨b,d,o,p,cg,u,n,z,A⟩:=tU c;have j:dj r 0=b:=kH
 have k:dj r 1=d:=kH
 have w:dj r 2=o:=kH
 have x:dj r 3=p:=kH
 rw[j,k,w,x];have C:=(oE (m:=4294967295) ae z).2;have D:=(oE (m:=86400) ae A).2;have g:=qE hl _ b S es l ps av (s2 u) e;have i:=qE hl _ d _ _ _ _ av (s2 n) g;have q:=i.app (cN (eB o)++cN 3600++cN 600++cN 86400++cN (eB p));unfold mQ;rw[zQ ae,zQ ae];simp only[wt,Ia,fa,lp,lI];simp only[c_]at q ⊢;exact q};{
 rw[ar ae,ar ae,ay a,ar ae,ar ae,ay a];obtain⟨b,d,cg,y,n⟩:=tV c;have j:dj r 0=b:=kH
 have k:dj r 1=d:=kH
 rw[j,k];have B:=(oE (m:=65535) ae y).2;have g:=e.app [ao (eB b),aV (eB b)];have i:=qE hl _ d _ _ _ _ av (s2 n) g;unfold mR;rw[zQ ae];exact i};{rw[ar ae,ay a,ar ae,ay a];have g:=e.app (UInt8.ofNat r.data.length::r.data);unfold n6;simp only[wt,Ia,fa,gc,bE,c_];exact g}
theorem Wf(a:ah)(b c:Nat)(h:b+2<=a.length):mN a b c=a.take b++[ao c,aV c]++a.drop (b+2):=by
 have i:a=a.take b++(a.drop b):=(ft b a).symm;have g:(a.take b).length=b:=jX
 obtain⟨d,j⟩:∃d,a.drop b=d::a.drop (b+1):=⟨a[b],fQ ae⟩;obtain⟨e,k⟩:∃e,a.drop (b+1)=e::a.drop (b+2):=⟨a[b+1],fQ ae⟩;rw[j,k]at i;unfold mN;conv=>lhs;rw[i]
 rw[mU _ _ ae,g,i3,c5,mU _ _ ae,g,zN,dl,c5,c_];rfl
theorem lY.put{h1 h2 S:ah}{es:ey}{l:ah}{ps:cY}(h:lY h1 h2 S es l ps)(c:h1.length=h2.length)(a:Nat)(d:h1.length<=a)(x:ah):lY h1 h2 (S.take a++x++S.drop (a+2)) es (l.take a++x++l.drop (a+2)) ps:=by obtain⟨b,rfl,rfl⟩:=h.same;refine⟨⟨b.take (a-h1.length)++x++b.drop (a+2-h1.length),?_,?_⟩,h.pl⟩;{rw[List.take_append,ie d,List.drop_append,uY ae];simp only[c_,dJ]};{rw[List.take_append,ie ae,List.drop_append,uY ae,c];simp only[c_,dJ]}
theorem K4:∀(c:List ah) (S:ah) (es:ey),S.length<=(bd c S es).1.length
 | [],S,es=>by simp[bd]
 | x::a,S,es=>by
  cases b:e7 (cO (x::a)) es with
  | some d=>rw[oD b];simp
  | none =>{rw[lx b];have:=K4 a (S++(UInt8.ofNat x.length::x)) (es++[(cO (x::a),S.length)]);rw[a6]at this;omega}
theorem CH:∀(c:mc) (S:ah) (es:ey),S.length<=(b5 c S es).1.length
 | [],S,es=>bb _
 | .inl b::a,S,es=>by have:=CH a (S++b) es;rw[a6]at this;show S.length<=(b5 a (S++b) es).1.length;omega
 | .inr x::a,S,es=>aZ (K4 _ S es) (CH a _ _)
theorem Wg{h1 h2 S:ah}{es:ey}{l:ah}{ps:cY}(e:h1.length=h2.length){a:aj}(h:Lp a){ls:List ah}(w:(∃q,kC ps a.owner=some q/\a.owner≠[]/\cO ls=aY a.owner)\/(xE a.owner/\ls=aC 46 a.owner))(o:lY h1 h2 S es l ps):lY h1 h2 (gI a ls S es).1 (gI a ls S es).2 (eN a (dB a) l ps).1 (eN a (dB a) l ps).2:=by have i:lY h1 h2 (bd ls S es).1 (bd ls S es).2 (dM (bo a.owner) l ps).1 (dM (bo a.owner) l ps).2:=by{rcases w with⟨q,y,B,j⟩|⟨j,rfl⟩;{exact o.hit B j y};{exact qE e _ a.owner S es l ps av j o}};have D:(gI a ls S es).1=(b5 (ck a) (fk a (bd ls S es).1) (bd ls S es).2).1.take ((fk a (bd ls S es).1).length-2)++[ao ((b5 (ck a) (fk a (bd ls S es).1) (bd ls S es).2).1.length-(fk a (bd ls S es).1).length),aV ((b5 (ck a) (fk a (bd ls S es).1) (bd ls S es).2).1.length-(fk a (bd ls S es).1).length)]++(b5 (ck a) (fk a (bd ls S es).1) (bd ls S es).2).1.drop (fk a (bd ls S es).1).length:=rfl;have E:(gI a ls S es).2=(b5 (ck a) (fk a (bd ls S es).1) (bd ls S es).2).2:=rfl;rw[D,E];generalize bd ls S es=c at i ⊢;have C:eN a (dB a) l ps=mP (dB a) ((dM (bo a.owner) l ps).1++[ao a.type.toNat,aV a.type.toNat]++[ao 1,aV 1]++cN a.aI) (dM (bo a.owner) l ps).2:=rfl;rw[C];generalize dM (bo a.owner) l ps=k at i ⊢;have d:=((i.app [ao a.type.toNat,aV a.type.toNat]).app [ao 1,aV 1]).app (cN a.aI);have A:fk a c.1=(c.1++[ao a.type.toNat,aV a.type.toNat]++[ao 1,aV 1]++cN a.aI)++[0,0]:=rfl;rw[A];unfold mP;generalize c.1++[ao a.type.toNat,aV a.type.toNat]++[ao 1,aV 1]++cN a.aI=b at d ⊢;generalize k.1++[ao a.type.toNat,aV a.type.toNat]++[ao 1,aV 1]++cN a.aI=n at d ⊢;have g:=K3 e h (d.app [0,0]);have p:=CH (ck a) (b++[0,0]) c.2;generalize b5 (ck a) (b++[0,0]) c.2=F at g p ⊢;generalize cL (dB a) (n++[0,0]) k.2=r at g ⊢;have x:(b++[0,0]).length=b.length+2:=am;have t:=d.len e;have u:=g.len e;have z:h1.length<=b.length:=by{obtain⟨G,rfl,_⟩:=d.same;simp};rw[x]at p ⊢;rw[Wf r.1 n.length _ ae,vN,u,<- t];exact g.put e b.length z _
abbrev bL:=Value×Value×aj×List ah
def jQ(x:bL):List Value:=[x.1,ak x.2.2.1.aI,ak x.2.2.1.type,au x.2.2.1.data,x.2.1]
def hD(a:List (List bL))(x:bL):List (List bL):=match a.getLast? with
 | some (b::c)=>if b.2.2.2=x.2.2.2/\b.2.2.1.type=x.2.2.1.type then a.dropLast++[(b::c)++[x]]else a++[[x]]
 | _=>a++[[x]]
def dN(a:List bL):List (List bL):=a.foldl hD []
theorem V3(b:List bL)(a:Nat)(h:a<b.length):dN (b.take (a+1))=hD (dN (b.take a)) b[a]:=by unfold dN;rw[du h,mG];rfl
theorem V4(x:bL):hD [] x=[[x]]:=rfl
theorem K5(b:List (List bL))(a:bL)(c:List bL)(x:bL)(h:a.2.2.2=x.2.2.2/\a.2.2.1.type=x.2.2.1.type):hD (b++[a::c]) x=b++[(a::c)++[x]]:=by unfold hD;rw[List.getLast?_concat];simp only[ay h,List.dropLast_concat]
theorem K6(b:List (List bL))(a:bL)(c:List bL)(x:bL)(h:¬(a.2.2.2=x.2.2.2/\a.2.2.1.type=x.2.2.1.type)):hD (b++[a::c]) x=(b++[a::c])++[[x]]:=by unfold hD;rw[List.getLast?_concat];simp only[ar h]
theorem V5{b:List (List bL)}{x:bL}{a:List bL}(h:a∈hD b x):a∈b\/a=[x]\/∃c∈b,a=c++[x]:=by unfold hD at h;split at h;{rename_i g e d;split at h;{rcases dv.1 h with h|h;{exact .inl ((List.dropLast_sublist b).subset h)};{exact .inr (.inr ⟨g::e,List.mem_of_getLast? d,kI⟩)}};{rcases dv.1 h with h|h;{exact iG};{exact .inr (.inl kI)}}};{rcases dv.1 h with h|h;{exact iG};{exact .inr (.inl kI)}}
theorem CI:∀(g:List bL) (e:List (List bL)) (c:bL->Prop) (d:Nat),(∀b∈e,(∀x∈b,c x)/\b.length<=d)->(∀x∈g,c x)->∀b∈g.foldl hD e,(∀x∈b,c x)/\b.length<=d+g.length
 | [],e,c,d,h,_=>h
 | x::g,e,c,d,h,k=>by have n:=CI g (hD e x) c (d+1) (fun b j=>by{rcases V5 j with h1|h1|⟨l,h1,h2⟩;{exact⟨(h b h1).1,aZ (h b h1).2 ae⟩};{rw[h1];exact⟨fun i a=>by rw[kU]at a;rw[a];exact k x am,am⟩};{rw[h2];refine⟨fun i a=>?_,by rw[a6];have:=(h l h1).2;simp;omega⟩;rcases dv.1 a with a|a;{exact(h l h1).1 i a};{rw[kU]at a;rw[a];exact k x am}}}) (fun i a=>k i (by simp[a]));intro b j;have:=n b j;rw[bi];exact⟨this.1,ae⟩
theorem ul(b:List bL)(a:List bL)(h:a∈dN b):∀x∈a,x∈b:=(CI b [] (·∈b) 0 (fun a c=>by cases c) (fun x d=>d) a h).1
theorem V6(b:List bL)(a:List bL)(h:a∈dN b):a.length<=b.length:=by have:=(CI b [] (·∈b) 0 (fun a c=>by cases c) (fun x d=>d) a h).2;omega
def iE(w:World)(v:Value)(xs:List bL):Prop:=(v=aJ/\xs=[])\/∃b c d,v=aF b c xs.length d/\xs.length<=d/\b<w.heap.size /\
 ∀a (h:a<xs.length),w.cell? (aq b (c+a*5))=some xs[a].1/\w.cell? (aq b (c+a*5+1))=some (ak xs[a].2.2.1.aI)/\w.cell? (aq b (c+a*5+2))=some (ak xs[a].2.2.1.type)/\w.cell? (aq b (c+a*5+3))=some (.string (ai xs[a].2.2.1.data))/\w.cell? (aq b (c+a*5+4))=some xs[a].2.1
theorem iE.below{w g:World}{v:Value}{xs:List bL}(h:iE w v xs)(i:ax w g):iE g v xs:=by rcases h with h|⟨k,n,j,h1,h2,l,a⟩;{exact iG};{have d:∀(e:Addr) (u:Value),w.cell? e=some u->g.cell? e=some u:=fun e u h=>(i.cell (ef w e h)).trans h;exact .inr ⟨k,n,j,h1,h2,cp l i.size,fun c b=>⟨d _ _ (a c b).1,d _ _ (a c b).2.1,d _ _ (a c b).2.2.1,d _ _ (a c b).2.2.2.1,d _ _ (a c b).2.2.2.2⟩⟩}
theorem um:∀(c:List bL) (a:Nat) (h:a<c.length) (b:Nat),b<5->(c.flatMap jQ)[a*5+b]? = (jQ c[a])[b]?
 | [],a,h,_,_=>by simp at h
 | x::c,0,_,b,d=>by rw[eT,i4,cT,pv (by show b<5;exact d)];rfl
 | x::c,a+1,h,b,d=>by
  have e:a<c.length:=by simp at h;omega
  rw[eT,lT (by show 5<=_;omega)];have:(a+1)*5+b-(jQ x).length=a*5+b:=by show(a+1)*5+b-5=_;omega
  rw[this,um c a e b d];rfl
theorem xY{w:World}{base:Nat}{v:Value}{xs:List bL}(h:w.ownsRow base 119 5 v xs.length (xs.flatMap jQ)):iE w v xs:=by rcases h.2 with⟨rfl,i⟩|⟨d,e,n,rfl,o,bu,g,p,q,l⟩;{exact .inl ⟨rfl,df i⟩};{refine .inr ⟨d,0,e,rfl,g,(bn.1 bu).1,fun c j=>?_⟩;have a:∀b,b<5->w.cell? (aq d (0+c*5+b))=(jQ xs[c])[b]?:=by{intro b k;have h1:=um xs c j b k;rw[<- l,kS ae]at h1;rw[cT,<- h1];exact ym};exact⟨a 0 ae,a 1 ae,a 2 ae,a 3 ae,a 4 ae⟩}
structure r8(w:World)(base:Nat)(v:Value)(ps:List (Value×List bL)):Prop where
 own:w.ownsRow base 115 1 v ps.length (ps.map (·.1))
 tz:∀p∈ps,w.ownsRow base 119 5 p.1 p.2.length (p.2.flatMap jQ)/\p.2≠[]
 aaI:ps.Pairwise fun p q=>p.1.ownBlock≠q.1.ownBlock
 aw:∀p∈ps,p.1.ownBlock≠v.ownBlock
theorem r8.nil(w:World)(base:Nat):r8 w base (aJ) []:=⟨e8 w base _ 1,fun b a=>(by cases a),.nil,fun b a=>(by cases a)⟩
theorem r8.below{w d:World}{base:Nat}{v:Value}{ps:List (Value×List bL)}(h:r8 w base v ps)(a:ax w d):r8 d base v ps:=⟨eg h.own a,fun c b=>⟨eg (h.tz c b).1 a,(h.tz c b).2⟩,h.aaI,h.aw⟩
def sj(w:World)(base:Nat)(v:Value)(a:List (List bL)):Prop:=(v=aJ/\a=[])\/∃b d,v=aF b 0 a.length d/\a.length<=d/\b<w.heap.size/\base<=b/\∀c (h:c<a.length),a[c]≠[]/\∃u,w.cell? (aq b c)=some u/\iE w u a[c]/\∀e,u.ownBlock=some e->base<=e
theorem iE.fr{p:Nat->Prop}{w w':World}{v:Value}{b:List bL}(h:iE w v b)(hf:bG p w w')(hp:∀g,v.ownBlock=some g->p g):iE w' v b:=by exact Ec
theorem sj.fr{p:Nat->Prop}{w w':World}{base:Nat}{v:Value}{e:List (List bL)}(h:sj w base v e)(d:bG p w w')(k:∀b,base<=b->p b):sj w' base v e:=by rcases h with h|⟨c,n,h1,h2,g,i,o⟩;{exact iG};{refine .inr ⟨c,n,h1,h2,cp g d.size,i,fun l q=>?_⟩;obtain⟨r,u,x,t,j⟩:=o l q;exact⟨r,u,(b7 (a:=⟨c,l,none⟩) (d.block c g (k c i))).trans x,t.fr d (fun b y=>k b (j b y)),j⟩}
theorem r8.at{w:World}{base:Nat}{v:Value}{ps:List (Value×List bL)}(h:r8 w base v ps):sj w base v (ps.map (·.2)):=by
 rcases h.own.2 with⟨rfl,j⟩|⟨i,e,p,rfl,k,d,g,q,r,n⟩;{exact .inl ⟨rfl,by rw[df j];rfl⟩};{
 refine .inr ⟨i,e,by rw[bD],by rw[bD];exact g,(bn.1 d).1,k,fun a b=>?_⟩;rw[bD]at b;have c:=h.tz ps[a] (bM b);rw[kT];refine⟨c.2,ps[a].1,?_,xY c.1,fun o l=>(c.1.lt o l).1⟩;have h1:(ps.map (·.1))[a]? = some ps[a].1:=by simp[b]
 rw[<- n,kS ae]at h1;unfold World.cell?;rw[d];simpa using h1}
section
variable {w w2 w3:World} {base:Nat} {v vl u v':Value} {ps:List (Value×List bL)} {gl:List bL} {x:bL}
theorem r8.ay4{go cap:Nat}(h:r8 w base v (ps++[(vl,gl)]))(i:v=aF go 0 (ps.length+1) cap)(r:w.grownBy w2 vl.ownBlock)(E:w2.ownsRow base 119 5 v' (gl.length+1) (gl.flatMap jQ++jQ x))(q:v'.ownBlock=vl.ownBlock\/v'.ownBlock=some w.heap.size):r8 (w2.setCell ⟨go,ps.length,none⟩ v') base v (ps++[(v',gl++[x])])/\∀n,n<=base->Below n w w2->Below n w (w2.setCell ⟨go,ps.length,none⟩ v'):=by
 have G:(vl,gl)∈ps++[(vl,gl)]:=am;have l:=h.aw _ G;have h1:=h.own.kept r (.inr (rl l));have t:=h.own.lt;rw[a6,d0]at h1;have j:v.ownBlock=some go:=by rw[i];rfl
 have H:=t go j;have h2:=World.ownsRow.stored (g:=go) (n:=ps.length+1) (cap:=cap) (by rw[i]at h1;exact h1) ps.length v';have A:(ps.map (·.1)++[(vl,gl)].map (·.1)).set ps.length v'=(ps++[(v',gl++[x])]).map (·.1):=by{rw[mU _ _ am];simp};rw[A]at h2;have k:=hO.1 h.aaI;have u:∀p∈ps,p.1.ownBlock≠vl.ownBlock:=fun p a=>k.2.2 p a (vl,gl) am;have D:∀(d:Value×List bL),d∈ps++[(vl,gl)]->d.1.ownBlock≠some w.heap.size:=fun d e b=>by{have:=((h.tz d e).1.lt _ b).2;omega};have z:v.ownBlock≠some w.heap.size:=fun b=>by have:=(t _ b).2;omega
 have y:v'.ownBlock≠v.ownBlock:=fun b=>by{rcases q with c|c;{exact l (c.symm.trans b)};{exact z (b.symm.trans c)}};have F:∀p∈ps,p.1.ownBlock≠v'.ownBlock:=fun p a b=>by{rcases q with c|c;{exact u p a (b.trans c)};{exact D p (by simp[a]) (b.trans c)}};refine⟨⟨?_,?_,?_,?_⟩,?_⟩;{rw[i,a6];exact h2.1};{intro p a;rcases dv.1 a with a|a;{have o:=h.tz p (by simp[a]);exact⟨(o.1.kept r (.inr (u p a))).kept h2.2 (.inr (by rw[<- j];exact h.aw p (by simp[a]))),o.2⟩};{simp only[kU]at a;subst a;refine⟨?_,am⟩;have B:=E.kept h2.2 (.inr (by rw[<- j];exact y));rw[a6,jt];simpa using B}};{refine hO.2 ⟨k.1,.cons (fun _ h=>by cases h) .nil,fun p a d e=>?_⟩;simp only[kU]at e;subst e;exact F p a};{intro p a;rcases dv.1 a with a|a;{exact h.aw p (by simp[a])};{simp only[kU]at a;subst a;exact y}};{intro n I C;exact C.setCell (p:=⟨go,ps.length,none⟩) (by show n<=go;omega) _}
theorem r8.akw(h:r8 w base v ps)(k:ax w w2)(o:w2.ownsRow base 119 5 u 1 (jQ x))(e:u.ownBlock=some w.heap.size)(l:w2.grownBy w3 v.ownBlock)(y:w3.ownsRow base 115 1 v' (ps.length+1) (ps.map (·.1)++[u]))(j:v'.ownBlock=v.ownBlock\/v'.ownBlock=some w2.heap.size):r8 w3 base v' (ps++[(u,[x])]):=by
 have t:=h.own.lt;have A:=(o.lt _ e).2;have p:=fun b a z c=>((h.tz b a).1.lt z c).2;have g:u.ownBlock≠v.ownBlock:=fun c=>by have:=(t _ (c.symm.trans e)).2;omega
 have q:∀b∈ps,b.1.ownBlock≠v'.ownBlock:=fun b a c=>by{rcases j with d|d;{exact h.aw b a (c.trans d)};{have:=p b a _ (c.trans d);have:=k.size;omega}};refine⟨?_,?_,?_,?_⟩;{rw[a6,d0];exact y};{intro b a;rcases dv.1 a with a|a;{have i:=h.tz b a;exact⟨(eg i.1 k).kept l (.inr (h.aw b a)),i.2⟩};{simp only[kU]at a;subst a;refine⟨?_,am⟩;have r:=o.kept l (.inr g);simpa using r}};{refine hO.2 ⟨h.aaI,.cons (fun _ h=>by cases h) .nil,fun b a C n=>?_⟩;simp only[kU]at n;subst n;intro c;have:=p b a _ (c.trans e);omega};{
 intro b a;rcases dv.1 a with a|a;{exact q b a};{
 simp only[kU]at a;subst a;intro c;rcases j with d|d;{exact g (c.trans d)};{
 have:=e.symm.trans (c.trans d);have B:w.heap.size=w2.heap.size:=by simpa using this
 omega}}}
end
theorem K9:prog.underlying 231=some (.slice 115):=aB
theorem V8:(prog.info? 115).map (fun a=>(a.zero,a.size,a.bytes))=some (some (aJ),1,24):=aB
theorem K_(c:World)(d:Nat)(h:d=c.heap.size)(x:Value)(g:TypeId):∀(b:Nat) (u:Value),[x][b]? = some u->(c.alloc (.cells #[x] g)).cell? (((aq d 0):Addr).add b)=some u:=fun b u a=>by
 have e:=World.alloc_heap_new c (.cells #[x] g);rw[<- h]at e
 match b,a with
 | 0,a=>simp at a;subst a;simp[Addr.add,World.cell?,e]
 | i+1,a=>simp at a
theorem V9(d:World)(j:Nat)(l:j=d.heap.size)(x h i e g:Value)(k:TypeId):∀(c:Nat) (u:Value),[x,h,i,e,g][c]? = some u->(d.alloc (.cells #[x,h,i,e,g] k)).cell? (((aq j 0):Addr).add c)=some u:=fun c u a=>by
 have b:=World.alloc_heap_new d (.cells #[x,h,i,e,g] k);rw[<- l]at b
 match c,a with
 | 0,a=>simp at a;subst a;simp[Addr.add,World.cell?,b]
 | 1,a=>simp at a;subst a;simp[Addr.add,World.cell?,b]
 | 2,a=>simp at a;subst a;simp[Addr.add,World.cell?,b]
 | 3,a=>simp at a;subst a;simp[Addr.add,World.cell?,b]
 | 4,a=>simp at a;subst a;simp[Addr.add,World.cell?,b]
 | n+5,a=>simp at a
def kV(a:List ah):Nat:=(a.map fun x=>x.length+1).sum
theorem oF(x:ah)(a:List ah):kV (x::a)=x.length+1+kV a:=by simp[kV]
theorem oG:∀a:List ah,a.length<=kV a
 | []=>bb _
 | x::b=>by have:=oG b;rw[oF,bi];omega
theorem xZ:∀(f:Nat) (x:ah),x.length<=f->kV (aC 46 x)=x.length+1
 | f,x,h=>by
  rcases hP 46 x with⟨h1,a⟩|⟨d,c,b,h1,a⟩;{rw[a];simp[kV]};{
  match f,h with
  | 0,h=>rw[b]at h;simp at h
  | f+1,h =>{rw[a,oF,xZ f c (by rw[b]at h;simp at h;omega),b];simp;omega}}
theorem oH:∀(a:List ah) (S:ah) (es:ey),S.length<=(bd a S es).1.length/\(bd a S es).1.length<=S.length+kV a+2/\es.length<=(bd a S es).2.length/\(bd a S es).2.length<=es.length+a.length
 | [],S,es=>by simp[bd];omega
 | x::b,S,es=>by
  cases c:e7 (cO (x::b)) es with
  | some d=>rw[oD c];simp
  | none =>{rw[lx c,oF];have:=oH b (S++(UInt8.ofNat x.length::x)) (es++[(cO (x::b),S.length)]);simp only[a6,bi,cW]at this ⊢;omega}
theorem x7:∀(c:List ah) (S:ah) (es:ey),S.length+kV c<=1000000->c.length<=1000->(∀a∈es,a.1.length<=1000/\a.2<=1000000)->∀a∈(bd c S es).2,a.1.length<=1000/\a.2<=1000000
 | [],S,es,_,_,h=>h
 | x::e,S,es,h1,h2,h=>by
  cases d:e7 (cO (x::e)) es with
  | some g=>rw[oD d];exact h
  | none =>{rw[lx d];rw[oF]at h1;rw[bi]at h2;refine x7 e _ _ (by simp only[a6,bi];omega) ae fun a b=>?_;rcases dv.1 b with b|b;{exact h a b};{simp only[kU]at b;subst b;exact⟨by rw[ke,bi];exact h2,by show S.length<=_;omega⟩}}
def hJ:mc->Nat
 | []=>0
 | .inl a::t=>a.length+hJ t
 | .inr x::t=>x.length+3+hJ t
theorem x8:∀(c:mc) (S:ah) (es:ey),S.length<=(b5 c S es).1.length/\(b5 c S es).1.length<=S.length+hJ c/\(b5 c S es).2.length<=es.length+hJ c
 | [],S,es=>by simp[b5,hJ]
 | .inl b::a,S,es=>by have:=x8 a (S++b) es;rw[a6]at this;show _<=(b5 a (S++b) es).1.length/\(b5 a (S++b) es).1.length<=S.length+(b.length+hJ a)/\(b5 a (S++b) es).2.length<=es.length+(b.length+hJ a);omega
 | .inr x::a,S,es=>by have h1:=oH (aC 46 x) S es;have h2:=x8 a (bd (aC 46 x) S es).1 (bd (aC 46 x) S es).2;have d:=xZ _ x av;have e:=oG (aC 46 x);show _<=(b5 a (bd (aC 46 x) S es).1 (bd (aC 46 x) S es).2).1.length/\(b5 a (bd (aC 46 x) S es).1 (bd (aC 46 x) S es).2).1.length<=S.length+(x.length+3+hJ a)/\(b5 a (bd (aC 46 x) S es).1 (bd (aC 46 x) S es).2).2.length<=es.length+(x.length+3+hJ a);omega
theorem CJ:∀(b:mc) (S:ah) (es:ey),S.length+hJ b<=900000->hJ b<=900->(∀a∈es,a.1.length<=1000/\a.2<=1000000)->∀a∈(b5 b S es).2,a.1.length<=1000/\a.2<=1000000
 | [],S,es,_,_,h=>h
 | .inl d::c,S,es,h1,h2,h=>by simp only[hJ]at h1 h2;exact CJ c (S++d) es (by rw[a6];omega) ae h
 | .inr x::c,S,es,h1,h2,h=>by simp only[hJ]at h1 h2;have e:=xZ _ x av;have g:=oG (aC 46 x);have i:=oH (aC 46 x) S es;exact CJ c _ _ ae ae (x7 _ S es ae ae h)
structure Lr(x:bL):Prop where
 dat:cQ x.2.2.1.type (aC 32 x.2.2.1.data)=true
 aI:x.2.2.1.aI<4294967296
 len:x.2.2.1.data.length<=3000
 ne:x.2.2.2≠[]
 lab:∀y∈x.2.2.2,y.length<=255
 sum:kV x.2.2.2<=300
theorem Ez{P:Prop}(h:P:=by have:=(ed hp).2;rw[ar ae,ar ae,ar ae,ar ae];simp[hJ,dj,cg];omega):P:=h
theorem KJ{e:aj}(b:cQ e.type (aC 32 e.data)=true):hJ (ck e)<=300:=by
 have a:=oW b;rcases a with a|a|a|a|a|a;all_goals rw[a]at b
 all_goals unfold ck
 {obtain⟨c,cg,l,i⟩:=CY b;rw[ay a,mC cg];simp[hJ,i]};{obtain⟨c,cg,hp⟩:=nf (t:=2) (.inl rfl) b;exact Ez};{obtain⟨c,cg,hp⟩:=nf (t:=5) (.inr rfl) b;exact Ez};{obtain⟨c,h,j,k,cg,g,d,_,_⟩:=tU b;have:=(ed g).2;have:=(ed d).2;rw[ar ae,ar ae,ar ae,ay a];simp[hJ,dj,cg,cN];omega};{obtain⟨c,h,cg,_,d⟩:=tV b;have:=(ed d).2;rw[ar ae,ar ae,ay a];simp[hJ,dj,cg];omega};{obtain⟨c,cg,n⟩:=Ky b;rw[ar ae,ay a,mC cg];simp[hJ];omega}
theorem V_{x:bL}(h:Lr x)(S:ah)(es:ey):S.length<=(gI x.2.2.1 x.2.2.2 S es).1.length/\(gI x.2.2.1 x.2.2.2 S es).1.length<=S.length+700/\(gI x.2.2.1 x.2.2.2 S es).2.length<=es.length+700/\(S.length<=500000->(∀a∈es,a.1.length<=1000/\a.2<=1000000)->∀a∈(gI x.2.2.1 x.2.2.2 S es).2,a.1.length<=1000/\a.2<=1000000):=by
 have h1:=oH x.2.2.2 S es;have h2:=h.sum;have e:=oG x.2.2.2;have g:=KJ h.dat;have i:=x8 (ck x.2.2.1) (fk x.2.2.1 (bd x.2.2.2 S es).1) (bd x.2.2.2 S es).2;have j:(fk x.2.2.1 (bd x.2.2.2 S es).1).length=(bd x.2.2.2 S es).1.length+10:=by simp[fk,cN]
 have b:(gI x.2.2.1 x.2.2.2 S es).1.length=(b5 (ck x.2.2.1) (fk x.2.2.1 (bd x.2.2.2 S es).1) (bd x.2.2.2 S es).2).1.length:=by{show(_++_++_:ah).length=_;simp only[a6,de,c8,bi,cW];omega};have c:(gI x.2.2.1 x.2.2.2 S es).2=(b5 (ck x.2.2.1) (fk x.2.2.1 (bd x.2.2.2 S es).1) (bd x.2.2.2 S es).2).2:=rfl;rw[b,c];refine⟨ae,ae,ae,fun k d=>?_⟩;exact CJ _ _ _ ae ae (x7 _ S es ae ae d)
def eV(b:List bL)(S:ah)(es:ey):ah×ey:=b.foldl (fun a x=>gI x.2.2.1 x.2.2.2 a.1 a.2) (S,es)
theorem Wh(a:List bL)(b:Nat)(h:b<a.length)(S:ah)(es:ey):eV (a.take (b+1)) S es=gI a[b].2.2.1 a[b].2.2.2 (eV (a.take b) S es).1 (eV (a.take b) S es).2:=by unfold eV;rw[du h,mG];rfl
theorem KK:∀(a:List bL),(∀x∈a,Lr x)->∀(S:ah) (es:ey),S.length<=(eV a S es).1.length/\(eV a S es).1.length<=S.length+700*a.length/\(eV a S es).2.length<=es.length+700*a.length/\(S.length+700*a.length<=500000->(∀b∈es,b.1.length<=1000/\b.2<=1000000)->∀b∈(eV a S es).2,b.1.length<=1000/\b.2<=1000000)
 | [],_,S,es=>⟨bb _,bb _,bb _,fun _ h=>h⟩
 | x::a,h,S,es=>by have h1:=V_ (h x am) S es;have h2:=KK a (fun g e=>h g (by simp[e])) (gI x.2.2.1 x.2.2.2 S es).1 (gI x.2.2.1 x.2.2.2 S es).2;have c:eV (x::a) S es=eV a (gI x.2.2.1 x.2.2.2 S es).1 (gI x.2.2.1 x.2.2.2 S es).2:=rfl;rw[c,bi];refine⟨ae,ae,ae,fun i d=>h2.2.2.2 ae (h1.2.2.2 ae d)⟩
theorem WB(a:List (List bL))(x:bL):(hD a x).flatten=a.flatten++[x]:=by
 unfold hD;split;{
 rename_i g e b;split;{
 have d:a=a.dropLast++[g::e]:=by{
 have h1:a≠[]:=fun c=>by rw[c]at b;cases b
 have h2:=zx h1;rw[List.getLast?_eq_some_getLast h1]at b;rw[cZ b]at h2;exact h2.symm};conv=>rhs;rw[d]
 simp};{simp}};{simp}
theorem KL:∀(b:List bL) (a:List (List bL)),(b.foldl hD a).flatten=a.flatten++b
 | [],a=>by simp
 | x::b,a=>by rw[sT,KL b,WB,c_];rfl
theorem DC(a:List bL):(dN a).flatten=a:=by unfold dN;rw[KL];rfl
theorem WC(a:List (List bL))(x:bL):(hD a x).length<=a.length+1:=by unfold hD;split;{split;{rw[a6,List.length_dropLast,te];omega};{simp}};{simp}
theorem KM:∀(b:List bL) (a:List (List bL)),(b.foldl hD a).length<=a.length+b.length
 | [],a=>bb _
 | x::b,a=>by have h1:=KM b (hD a x);have h2:=WC a x;rw[sT,bi];omega
theorem WF(a:List bL):(dN a).length<=a.length:=by have:=KM a [];simpa [dN]using this
theorem CK:∀(c:mc) (S:ah) (es:ey),es.length<=(b5 c S es).2.length
 | [],S,es=>bb _
 | .inl b::a,S,es=>CK a (S++b) es
 | .inr x::a,S,es=>aZ (oH (aC 46 x) S es).2.2.1 (CK a _ _)
theorem KN:∀(a:List bL) (S:ah) (es:ey),es.length<=(eV a S es).2.length
 | [],S,es=>bb _
 | x::a,S,es=>aZ (aZ (oH x.2.2.2 S es).2.2.1 (CK (ck x.2.2.1) _ _)) (KN a (gI x.2.2.1 x.2.2.2 S es).1 (gI x.2.2.1 x.2.2.2 S es).2)
structure r9 where
 S:ah
 es:ey
 cs:List Nat
 tc:Bool
 full:Bool
def hH(most ol i:Nat):List (List bL)->r9->r9
 | [],a=>a
 | b::c,a=>if a.full=true then a else if most<(eV b a.S a.es).1.length+ol then { a with tc:=decide (i<2),full:=true }
  else hH most ol i c { a with S:=(eV b a.S a.es).1,es:=(eV b a.S a.es).2,cs:=a.cs.set (i+1) (a.cs.getD (i+1) 0+b.length) }
theorem CL{most ol i:Nat}{a:List (List bL)}{b:r9}(h:b.full=true):hH most ol i a b=b:=by
 cases a with
 | nil=>rfl
 | cons c a=>unfold hH;rw[ay h]
theorem KO{most ol i:Nat}{b:List bL}{c:List (List bL)}{a:r9}(h:a.full=false)(d:most<(eV b a.S a.es).1.length+ol):hH most ol i (b::c) a = { a with tc:=decide (i<2),full:=true }:=by unfold hH;rw[ar qj,ay d]
theorem KP{most ol i:Nat}{b:List bL}{c:List (List bL)}{a:r9}(h:a.full=false)(d:¬most<(eV b a.S a.es).1.length+ol):hH most ol i (b::c) a=hH most ol i c { a with S:=(eV b a.S a.es).1,es:=(eV b a.S a.es).2,cs:=a.cs.set (i+1) (a.cs.getD (i+1) 0+b.length) }:=by
 conv=>lhs;unfold hH
 rw[ar qj,ar d]
def lj(most ol:Nat):Nat->List (List bL)->r9->r9
 | _,[],a=>a
 | i,l::b,a=>lj most ol (i+1) b (hH most ol i (dN l) a)
def cD:ah:=[116,119,101,108,118,101,32,98,121,116,101,115]
def CM(a:Nat):ah:=[0,0,41]++[ao 1232,aV 1232]++[UInt8.ofNat (a/16),0,0,0,0,0]
def oJ(a:Bool)(b:Nat):Nat:=if a=true then max 512 (min b 1232)else 512
def iV(a:Bool)(b:Nat):ah:=if a=true then CM b else []
def sk(e:ah)(d:List ah)(a:Bool)(g b:Nat)(c:List (List bL)):r9 :=
 lj (oJ a g) (iV a b).length 0 c ⟨cD++e,(bd d cD []).2,[1,0,0,(iV a b).length/11],false,false⟩
def p0(s e:ah)(d:List ah)(b:Bool)(g a:Nat)(h:Bool)(c:List (List bL)):ah :=
 iu s h (sk e d b g a c).tc a (sk e d b g a c).cs++(sk e d b g a c).S.drop 12++iV b a
theorem WG(a base:Nat)(S:ah)(v:Value)(es:ey)(w:World)(b:eI w a S v)(h:fJ w base a v es)(r:S.length<=900000):az 144 #[aO a,aJ] w fun i g=>i=.returned (.tuple #[])/\∃v',eI g a (bd [] S es).1 v'/\fJ g base a v' (bd [] S es).2/\eQ a w v g v':=by
 have j:=af (ly b h (eQ.refl _ _ _) aE (S++[0]));obtain⟨p,ap⟩:=b.cells;have q:=b.frozen;have o:ai S++⟨#[0]⟩=ai (S++[0]):=j9 S [0];have l:(ai S).size<=1000000:=gB
 have n:ByteArray.size ⟨#[0]⟩=1:=rfl;clear b h;go_enter func144,ntmps144;go_wp2_with fail;go_loopw [4,5] (fun k e wr=>k=aJ/\e=ak 0/\wr=w) (fun _ _ _=>0);case atStart=>exact⟨rfl,rfl,rfl⟩
 case round =>(
 obtain⟨rfl,rfl,d⟩:=hrel;have c:=d.symm;subst c;go_wp2_with fail;go_loopw [6] (fun e wr=>e=ak 0/\wr=w) (fun _ _=>0);case atStart=>exact dX
 case round =>(obtain⟨rfl,d⟩:=hrel;have c:=d.symm;subst c;go_wp2_with fail;refine iI (v:=.tuple #[]) (by simp[results,results144]) rfl ?_;exact⟨rfl,_,j⟩))
def un(w:World)(d:Value)(a:List ah):Prop:=(a=[]/\d=aJ)\/(a≠[]/\∃c b,d=aF c 0 a.length b/\a.length<=b/\gJ w c 0 a)
theorem WH(a base:Nat)(S:ah)(v:Value)(es:ey)(l:Value)(c:List ah)(d w:World)(A:un d l c)(p:ax d w)(C:d.heap.size<=a)(B:∀k,v.ownBlock=some k->d.heap.size<=k)(j:eI w a S v)(i:fJ w base a v es)(o:base<=w.heap.size)(u:c.length<=300)(z:∀x∈c,x.length<=255)(h:S.length<=900000) (t:∀b∈es,b.1.length<=1000/\b.2<=1000000) (r:es.length<=900000):az 144 #[aO a,l] w fun b w'=>b=.returned (.tuple #[])/\∃v',eI w' a (bd c S es).1 v'/\fJ w' base a v' (bd c S es).2/\eQ a w v w' v':=by rcases A with⟨rfl,rfl⟩|⟨y,e,n,rfl,q,g⟩;{exact WG a base S v es w j i h};{have D:=g.1;exact CU a base S v es e 0 n c w j i (g.below p) q ae (fun b=>by have:=B e b.symm;omega) o y u z h t r}
theorem WI{g:World}{base t b:Nat}{v:Value}{es:ey}{cs:List Int}(h:fJ g base t v es)(j:f_ g b cs 3)(e:Nat)(ao:e<cs.length)(x:Int):fJ (g.setCell ⟨b,e,none⟩ (.int .i64 x)) base t v es:=by
 obtain⟨G,z,h1,h2⟩:=h;have C:v.ownBlock≠some b:=fun c=>by{
 rcases h1.2 with⟨rfl,_⟩|⟨d,p,I,rfl,_,o,_⟩;{cases c};{
 have:d=b:=by simpa [Value.ownBlock]using c
 rw[this,j]at o;simp at o}};refine⟨G,z,tm h1 (row:=some b) ⟨rfl,rfl,rfl,am,fun F _ B=>kX g (aq b e) F _ (fun c=>B (by rw[c]))⟩ (.inr C),fun H E=>?_⟩;obtain⟨d,l,p,u,w,q,y⟩:=h2 H E;refine⟨d,l,p,u,w,⟨cp q.1 am,fun k A=>?_⟩,y⟩;have i:=q.2 k A;have n:=j.cell e ao;by_cases r:d=b;{
 subst r;have D:l+k≠e:=fun c=>by rw[c]at i;rw[i]at n;cases n
 refine Eq.trans ?_ i;unfold World.cell? World.setCell;simp only[j0,gC];rw[j];simp[yV,rl D]};{exact(b7 (a:=⟨d,l+k,none⟩) (kX g (aq b e) d _ r)).trans i}
theorem KR{w:World}{b:Nat}(l:ah)(c:Nat)(e:c=l.length)(d:l.length<=maxLen)(h:w.heap[b]? = some (.cells ((l.map fun a=>Value.int .u8 a.toNat).toArray) 5)):(convert 58 9 (aF b 0 c c)).run prog w=.ok (au l) w:=by subst e;exact tb (base:=0) ⟨am,.inr ⟨b,l.length,(l.map fun a=>Value.int .u8 a.toNat).toArray,rfl,b6 _,h,bb _,d,am,by rw[lV];exact ie am⟩⟩
theorem WJ(v:Value)(i:List bL)(w:World)(ar:iE w v i)(br:∀x∈i,eY w x.1 x.2.2.2/\eY w x.2.1 (aC 32 x.2.2.1.data)/\x.2.2.2.length<=1000)(cC:i.length<=1000):az 145 #[v] w fun H bN=>∃v',H=.returned v'/\sj bN w.heap.size v' (dN i)/\ax w bN:=by
 obtain⟨cd,cg,ca,cb,cc⟩:=fO A3;obtain⟨bz,bo,bP,bu,bv⟩:=fO V8;obtain⟨cH,cI,B⟩:∃a X,v=.slice a i.length X:=by
  rcases ar with⟨h,h0⟩|⟨e,z,cap,h,_⟩
  ·exact B1
  ·exact⟨_,_,h⟩
 have a4:=af ar;have a5:=af br;clear ar br;subst B;go_enter func145,ntmps145;go_wp2_with fail
 go_loopw [3,4] (fun bJ a9 wr=>∃(c:Nat) (ps:List (Value×List bL)),a9=.int .i64 c/\c<=i.length/\ps.length<=c/\(∃a X,bJ=.slice a ps.length X)/\Hid (r8 wr w.heap.size bJ ps)/\Hid (ps.map (·.2)=dN (i.take c))/\Hid (ax w wr)) (fun _ a9 _=>i.length-(intOf a9).toNat)
 case atStart=>exact⟨0,[],rfl,ae,am,⟨none,0,rfl⟩,r8.nil _ _,rfl,bk _ _⟩
 case round =>
  obtain⟨c,ps,rfl,ao,b8,⟨bI,aJ,rfl⟩,C,R,J⟩:=hrel;by_cases aq:c<i.length
  ·have b3:(c:Int)<(i.length:Int):=ae;rcases ag a4 with⟨_,h0⟩|⟨e,z,cap,B,cy,cE,bG⟩
   ·rw[h0]at aq;simp at aq
   obtain⟨rfl,-,rfl⟩:=gL B;obtain⟨D,ap,E,F,aK⟩:=bG c aq;obtain⟨aS,bd,be⟩:=ag a5 i[c] (bM aq);have ah:=af (V3 i c aq);obtain⟨x,ar⟩:∃x,i[c]=x:=⟨_,rfl⟩
   rw[ar]at D ap E F aK aS bd be ah;obtain⟨cJ,cz,b,d⟩:=x;simp only at D ap E F aK aS bd be;have ch:=af aS;obtain⟨r,q,p,rfl,_,_⟩:=aS;obtain⟨bA,o,n,rfl,_,_⟩:=bd;generalize bE:(aC 32 b.data).length=l at *;have aM:Hid (∀t,ax w t->t.cell? ⟨e,z+c*5,none⟩=some (.slice (some ⟨r,q,none⟩) d.length p)/\t.cell? ⟨e,z+c*5+1,none⟩=some (.int .i64 b.aI)/\t.cell? ⟨e,z+c*5+2,none⟩=some (.int .i64 b.type)/\t.cell? ⟨e,z+c*5+3,none⟩=some (.string (ai b.data))/\t.cell? ⟨e,z+c*5+4,none⟩=some (.slice (some ⟨bA,o,none⟩) l n)):=fun t al =>
    have y:∀(a:Addr) (v:Value),w.cell? a=some v->t.cell? a=some v:=fun a v h=>(al.cell (ef w a h)).trans h
    ⟨y _ _ D,y _ _ ap,y _ _ E,y _ _ F,y _ _ aK⟩
   clear D ap E F aK ar bG B a4;have bZ:=J.size;rcases js ps with rfl|⟨ab,⟨vl,gl⟩,bB⟩
   ·obtain⟨D,ap,E,F,aK⟩:=ag aM wr (ag J);have V:Hid (dN (i.take (c+1))=[[(.slice (some ⟨r,q,none⟩) d.length p,.slice (some ⟨bA,o,none⟩) l n,b,d)]]):=by
     rw[Hid,ag ah,<- ag R];rfl
    clear aM ah bE;have Q:=C.own;have cN:([]:List (Value×List bL)).length<=1000:=by first|omega|simp
    go_wp2_with (at_builtin;go_loud (refine oe _ rfl (.tmp 60) (.tmp 66) 231 rfl w.heap.size 115 bz (.slice none 0 0) 1 24 K9 bo bP bu bv rfl ba _ ([]:List (Value×List bL)).length _ rfl (eg Q ((aE.alloc av _).alloc am _)) ⟨wr.heap.size+1,0,none⟩ 1 1 [.slice (some ⟨wr.heap.size,0,none⟩) 1 1] rfl rfl (K_ _ _ am _ _) (fun u hu=>qw) gW ae aA ?_));intro v' w3 ad j a8 O;have aH:((wr.alloc (.cells #[.slice (some ⟨r,q,none⟩) d.length p,.int .i64 b.aI,.int .i64 b.type,.string (ai b.data),.slice (some ⟨bA,o,none⟩) l n] 119)).alloc (.cells #[.slice (some ⟨wr.heap.size,0,none⟩) 1 1] 115)).ownsRow w.heap.size 119 5 (.slice (some ⟨wr.heap.size,0,none⟩) 1 1) 1 (jQ (.slice (some ⟨r,q,none⟩) d.length p,.slice (some ⟨bA,o,none⟩) l n,b,d)) :=
     (World.ownsRow_lit wr #[.slice (some ⟨r,q,none⟩) d.length p,.int .i64 b.aI,.int .i64 b.type,.string (ai b.data),.slice (some ⟨bA,o,none⟩) l n] 1 ae gW rfl).alloc _
    have K:=(((bk wr.heap.size wr).alloc av (.cells #[.slice (some ⟨r,q,none⟩) d.length p,.int .i64 b.aI,.int .i64 b.type,.string (ai b.data),.slice (some ⟨bA,o,none⟩) l n] 119)).alloc am (.cells #[.slice (some ⟨wr.heap.size,0,none⟩) 1 1] 115))
    have aw:=e9 Q;have aG:=af (C.akw K aH rfl j ad (by simpa using O));have aB:Hid (ax w w3):=J.trans ((K.mono bZ).trans ⟨j.os,j.tape,j.output,j.size,fun y bp=>j.block y (by have:=K.size;omega) (fun H=>by have:=(aw y H.symm).1;omega)⟩);obtain⟨bh,aL,rfl⟩:∃a X,v'=.slice a (([]:List (Value×List bL)).length+1) X:=by
     rcases ad.2 with⟨_,h0⟩|⟨e,Y,aD,B,_⟩
     ·omega
     ·exact⟨_,_,B⟩
    clear ad j a8 O aH K aw Q;go_wp2;exact⟨⟨c+1,_,bq,ae,am,⟨bh,aL,am⟩,aG,by rw[ag V];rfl,aB⟩,ci⟩
   ·rw[jq]at bB;subst bB;have I:(vl,gl)∈ab++[(vl,gl)]:=am;obtain⟨go,bQ⟩:∃go,bI=some ⟨go,0,none⟩:=by
     rcases C.own.2 with⟨_,h0⟩|⟨e,Y,aD,B,_⟩
     ·simp at h0
     ·exact⟨e,(gL B).1⟩
    subst bQ;obtain⟨A,G,cl⟩:∃A G,vl=.slice (some ⟨A,0,none⟩) gl.length G:=by
     rcases(C.tz _ I).1.2 with⟨_,h0⟩|⟨e,Y,aD,B,_⟩
     ·exact absurd (df h0) (C.tz _ I).2
     ·exact⟨e,Y,B⟩
    subst cl;obtain⟨g,aF⟩:=a2 ab.length;have Z:(ab++[(Value.slice (some ⟨A,0,none⟩) gl.length G,gl)]).length=g+1:=by rw[a6,aF];rfl
    have cG:g+1<=aJ:=by
     rcases C.own.2 with⟨_,h0⟩|⟨e,Y,aD,B,_,_,bf,_⟩
     ·simp at h0
     ·have:=(gL B).2.2;rw[Z]at bf;omega
    rw[Z]at b8;have co:gl.length<=G:=by
     rcases(C.tz _ I).1.2 with⟨_,h0⟩|⟨e,Y,aD,B,_,_,bf,_⟩
     ·exact absurd (df h0) (C.tz _ I).2
     ·have:=(gL B).2.2;have cp:gl.length<=Y:=bf;omega
    have S:Hid (r8 wr w.heap.size (.slice (some ⟨go,0,none⟩) (g+1) aJ) (ab++[(.slice (some ⟨A,0,none⟩) gl.length G,gl)])):=by rw[Hid,<- Z];exact C
    rw[Z];obtain⟨P,aU,T⟩:∃P aU,gl=P::aU:=by
     cases gl with
     | nil=>exact absurd rfl (C.tz _ I).2
     | cons P aU=>exact⟨P,aU,rfl⟩
    have cq:0<gl.length:=by rw[T];simp
    have aN:gl∈dN (i.take c):=by rw[<- ag R];simp
    have aW:P∈i:=mJ (ul _ gl aN P (by rw[T];simp));have cu:gl.length<=c:=aZ (V6 _ gl aN) jX;obtain⟨bc,-,bF⟩:=ag a5 P aW;have bK:=af bc;obtain⟨cK,cr,aj,M⟩:=P;simp only at bc bF bK;obtain⟨bR,cm,aL,rfl,-,-⟩:=bc;have a0:Hid (∀t,ax wr t->t.cell? ⟨go,g,none⟩=some (.slice (some ⟨A,0,none⟩) gl.length G)/\t.cell? ⟨A,0,none⟩=some (.slice (some ⟨bR,cm,none⟩) M.length aL)/\t.cell? ⟨A,2,none⟩=some (.int .i64 aj.type)):=fun t al=>by
     have y:∀(a:Addr) (v:Value),wr.cell? a=some v->t.cell? a=some v:=fun a v h=>(al.cell (ef wr a h)).trans h;have bs:=S.own;rw[Z]at bs;have h1:=kj bs g ae;have h2:=kj (S.tz _ I).1 0 (by show 0<gl.length*5;omega);have bm:=kj (S.tz _ I).1 2 (by show 2<gl.length*5;omega);rw[d0,lT (by rw[bD,aF];exact bb _),bD,<- aF,i3]at h1;simp only[T,eT]at h2 bm;exact⟨y _ _ h1,y _ _ h2,y _ _ bm⟩
    have bH:=af (fun t (al:ax w t)=>lJ _ _ M d t (bK.below al) (ch.below al) bF be);have aV:Hid (M=d/\aj.type=b.type->dN (i.take (c+1))=ab.map (·.2)++[gl++[(.slice (some ⟨r,q,none⟩) d.length p,.slice (some ⟨bA,o,none⟩) l n,b,d)]]):=fun h=>by
     rw[ag ah,<- ag R,d0,T];exact K5 _ _ _ _ h
    have a1:Hid (¬(M=d/\aj.type=b.type)->dN (i.take (c+1))=(ab++[(Value.slice (some ⟨A,0,none⟩) gl.length G,gl)]).map (·.2)++[[(.slice (some ⟨r,q,none⟩) d.length p,.slice (some ⟨bA,o,none⟩) l n,b,d)]]):=fun h=>by
     rw[ag ah,<- ag R,T,d0];exact K6 _ _ _ _ h
    have cv:=(S.own.lt go rfl).2;have cx:=((S.tz _ I).1.lt A rfl).2;obtain⟨aa,aI,aR⟩:=ag a0 wr aE;obtain⟨D,ap,E,F,aK⟩:=ag aM wr (ag J);have cU:wr.drew.cell? ⟨go,g,none⟩=_:=aa;have b0:wr.drew.cell? ⟨A,0,none⟩=_:=aI;have b1:wr.drew.cell? ⟨e,z+c*5,none⟩=_:=D;have cM:IntKind.i64.wrap (((g+1:Nat):Int)-1)=(g:Int):=cX
    have cn:IntKind.i64.wrap ((g:Int)+1-1)=(g:Int):=cX
    have cB:(0:Int)<=(g:Int):=ae;have cA:(g:Int)<((g+1:Nat):Int):=ae;have cs:(0:Int)<(gl.length:Int):=ae;have ct:=af (aQ T (aQ aN aW));have au:=af (aQ aF Z);clear T aN aW aF Z C ah R aa aI aR D ap E F aK bE;go_wp2_with fail;go_region_with (go_at_call 117;refine(bH _ J.drew).mono ?_;rintro H k ⟨rfl,bn⟩)
    all_goals
     have ay:ax wr k:=(aE.drew).trans bn;have W:=af (J.trans (ay.mono J.size));have cD:=ay.size;have aT:=af (S.below ay);obtain⟨aa,aI,aR⟩:=ag a0 k ay;obtain⟨D,ap,E,F,aK⟩:=ag aM k (ag W);clear bn ay S bH cU b0 b1 a0 aM J;simp only[List.getElem_toArray,cF,cw,Act.put,ep,c5,dl];by_cases ac:M=d/\aj.type=b.type
     ·have V:=af (aV ac);have b_:(aj.type==b.type)=true:=by simp[ac.2]
      rw[eC ac.1];clear aV a1 ac;go_wp2_with fail;go_quiet (fail);have L:=fm (bk k.heap.size k) nq;have N:=af (aT.below L);have aO:=af (W.trans (L.mono W.size));have a_:(k.drewN nq).cell? ⟨go,g,none⟩=some (.slice (some ⟨A,0,none⟩) gl.length G):=aa;have bV:(k.drewN nq).cell? ⟨e,z+c*5,none⟩=some (.slice (some ⟨r,q,none⟩) d.length p):=D;have bW:(k.drewN nq).cell? ⟨e,z+c*5+1,none⟩=some (.int .i64 b.aI):=ap;have bX:(k.drewN nq).cell? ⟨e,z+c*5+2,none⟩=some (.int .i64 b.type):=E;have bY:(k.drewN nq).cell? ⟨e,z+c*5+3,none⟩=some (.string (ai b.data)):=F;have bS:(k.drewN nq).cell? ⟨e,z+c*5+4,none⟩=some (.slice (some ⟨bA,o,none⟩) l n):=aK;have b9:=L.size;clear L D ap E F aK aa aI aR aT W;generalize k.drewN nq=w2 at *;go_wp2_with fail;have bO:=N.aw _ I;have bi:=(N.tz _ I).1;have ak:=au.2;have U:=N.own;rw[ak]at U;have bC:=zU U g;have a7:some go≠(Value.slice (some ⟨A,0,none⟩) gl.length G).ownBlock:=fun H=>bO H.symm;have bT:(w2.alloc (.cells #[.slice (some ⟨r,q,none⟩) d.length p,.int .i64 b.aI,.int .i64 b.type,.string (ai b.data),.slice (some ⟨bA,o,none⟩) l n] 119)).drew.cell? ⟨go,g,none⟩=some (.slice (some ⟨A,0,none⟩) gl.length G):=(b7 (a:=⟨go,g,none⟩) (bx w2 _ go ae)).trans a_;have a3:=af bi;have bg:=af (fun cj=>bx w2 cj go ae);clear U bi bO
      go_region_law (first|(refine step_append_lies _ rfl (.tmp 52) (.tmp 57) 115 rfl w.heap.size 119 cd _ 5 80 xn cg ca cb cc rfl ba _ gl.length (gl.flatMap jQ) rfl (eg (ag a3) (aE.alloc av _).drew) _ 1 1 (jQ (.slice (some ⟨r,q,none⟩) d.length p,.slice (some ⟨bA,o,none⟩) l n,b,d)) rfl rfl (fun ce u b5=>V9 w2 _ rfl _ _ _ _ _ _ ce u b5) (fun u hu=>by simp[jQ]at hu;rcases hu with rfl|rfl|rfl|rfl|rfl<;>rfl) ba gW ae aA (w2.heap.size+1) am ?_;intro bl bj w3 bt j O b6;have b2:=(lZ (a:=⟨go,g,none⟩) ((j.block go aA a7).trans (bg _))).trans bC;have cf:=(b7 (a:=⟨go,g,none⟩) ((j.block go aA a7).trans (bg _))).trans a_))
      all_goals
       have aP:=(N.below ((bk w2.heap.size w2).alloc av _).drew).ay4 (go:=go) (cap:=aJ) (by rw[<- au.1]) j bt (O.imp (fun h=>h.symm) (fun h=>by rw[h];simp;rfl));rw[<- au.1]at aP;have aX:=(aO.alloc ae (.cells #[.slice (some ⟨r,q,none⟩) d.length p,.int .i64 b.aI,.int .i64 b.type,.string (ai b.data),.slice (some ⟨bA,o,none⟩) l n] 119)).drew;have b4:=(a3.lt A rfl).1;have an:World.grownBy _ w3 (some A):=j;have bw:Below w.heap.size (w2.alloc (.cells #[.slice (some ⟨r,q,none⟩) d.length p,.int .i64 b.aI,.int .i64 b.type,.string (ai b.data),.slice (some ⟨bA,o,none⟩) l n] 119)).drew w3:=⟨an.os,an.tape,an.output,an.size,fun y bp=>an.block y (by have:=aX.size;omega) (fun H=>absurd (cZ H) ae)⟩
       have aG:=af aP.1;have aB:=af (aX.trans (aP.2 _ av bw));clear aP aX bw b4 bt an j O b6 b2 cf N aO a3 bg bT bC a7;generalize w3.setCell ⟨go,g,none⟩ (.slice (some ⟨bl,0,none⟩) (gl.length+1) bj)=cL at *;go_wp2;exact⟨⟨c+1,ab++[(Value.slice (some ⟨bl,0,none⟩) (gl.length+1) bj,gl++[(Value.slice (some ⟨r,q,none⟩) d.length p,Value.slice (some ⟨bA,o,none⟩) l n,b,d)])],bq,ae,by rw[a6,<- au.1];simp;omega,⟨some ⟨go,0,none⟩,aJ,by rw[a6,<- au.1];rfl⟩,aG,by rw[ag V,d0];rfl,aB⟩,ci⟩
     ·have V:=af (a1 ac);have ck:decide (M=d)=false\/(decide (M=d)=true/\(aj.type==b.type)=false):=by
       by_cases h1:M=d
       ·right;exact⟨eC h1,by simpa using fun h=>ac ⟨h1,h⟩⟩
       ·exact .inl (eD h1)
      clear aV a1 ac;have ak:=au.2;rcases ck with aY|⟨aY,b_⟩
      all_goals
       rw[aY];clear aY;go_wp2_with fail;go_quiet (fail);have L:=fm (bk k.heap.size k) nq;have N:=af (aT.below L);have aO:=af (W.trans (L.mono W.size));have a_:(k.drewN nq).cell? ⟨go,g,none⟩=some (.slice (some ⟨A,0,none⟩) gl.length G):=aa;have bV:(k.drewN nq).cell? ⟨e,z+c*5,none⟩=some (.slice (some ⟨r,q,none⟩) d.length p):=D;have bW:(k.drewN nq).cell? ⟨e,z+c*5+1,none⟩=some (.int .i64 b.aI):=ap;have bX:(k.drewN nq).cell? ⟨e,z+c*5+2,none⟩=some (.int .i64 b.type):=E;have bY:(k.drewN nq).cell? ⟨e,z+c*5+3,none⟩=some (.string (ai b.data)):=F;have bS:(k.drewN nq).cell? ⟨e,z+c*5+4,none⟩=some (.slice (some ⟨bA,o,none⟩) l n):=aK;have b9:=L.size;clear L D ap E F aK aa aI aR aT W;generalize k.drewN nq=w2 at *;have U:=N.own;rw[ak]at U;have bU:=af U;clear U;have Q:=ag bU;go_wp2_with (at_builtin;go_loud (refine oe _ rfl (.tmp 60) (.tmp 66) 231 rfl w.heap.size 115 bz (.slice none 0 0) 1 24 K9 bo bP bu bv rfl ba _ (g+1) _ rfl (eg Q ((aE.alloc av _).alloc am _)) ⟨w2.heap.size+1,0,none⟩ 1 1 [.slice (some ⟨w2.heap.size,0,none⟩) 1 1] rfl rfl (K_ _ _ am _ _) (fun u hu=>qw) gW ae aA ?_));intro v' w3 ad j a8 O;have aH:((w2.alloc (.cells #[.slice (some ⟨r,q,none⟩) d.length p,.int .i64 b.aI,.int .i64 b.type,.string (ai b.data),.slice (some ⟨bA,o,none⟩) l n] 119)).alloc (.cells #[.slice (some ⟨w2.heap.size,0,none⟩) 1 1] 115)).ownsRow w.heap.size 119 5 (.slice (some ⟨w2.heap.size,0,none⟩) 1 1) 1 (jQ (.slice (some ⟨r,q,none⟩) d.length p,.slice (some ⟨bA,o,none⟩) l n,b,d)) :=
        (World.ownsRow_lit w2 #[.slice (some ⟨r,q,none⟩) d.length p,.int .i64 b.aI,.int .i64 b.type,.string (ai b.data),.slice (some ⟨bA,o,none⟩) l n] 1 ae gW rfl).alloc _
       have K:=(((bk w2.heap.size w2).alloc av (.cells #[.slice (some ⟨r,q,none⟩) d.length p,.int .i64 b.aI,.int .i64 b.type,.string (ai b.data),.slice (some ⟨bA,o,none⟩) l n] 119)).alloc am (.cells #[.slice (some ⟨w2.heap.size,0,none⟩) 1 1] 115))
       have aw:=e9 Q;have aG:=af (N.akw K aH rfl j (by rw[ak];simpa using ad) (by simpa using O));have aB:Hid (ax w w3):=aO.trans ((K.mono ae).trans ⟨j.os,j.tape,j.output,j.size,fun y bp=>j.block y (by have:=K.size;omega) (fun H=>by have:=(aw y H.symm).1;omega)⟩);obtain⟨bh,aL,rfl⟩:∃a X,v'=.slice a (g+1+1) X:=by
        rcases ad.2 with⟨_,h0⟩|⟨e,Y,aD,B,_⟩
        ·omega
        ·exact⟨_,_,B⟩
       clear ad j a8 O aH K aw Q;go_wp2;exact⟨⟨c+1,_,bq,ae,by rw[a6,ak];simp;omega,⟨bh,aL,by rw[a6,ak];rfl⟩,aG,by rw[ag V,d0];rfl,aB⟩,ci⟩
  ·obtain rfl:c=i.length:=ae;have b3:¬(i.length:Int)<(i.length:Int):=ae;have V:Hid (sj wr w.heap.size (.slice bI ps.length aJ) (dN i)):=by
    have:=C.at
    rw[ag R,dK]at this;exact this
   clear aq C R a5 a4;go_wp2;go_ret;exact⟨_,rfl,V,J⟩
end Go.Proofs.YtkkpahmoljiepaaGreatDoor
