import Derived.Test.YtkkpahmoljiepaaGreatDoorJ28
set_option maxRecDepth 1000000
set_option maxHeartbeats 12800000
set_option linter.unusedSimpArgs false
set_option linter.unusedVariables false
namespace Go.Proofs.YtkkpahmoljiepaaGreatDoor
open Go.RowKit
structure qB(h1 h2:ai)(S:ai)(es:oM)(l:ai)(ps:cH):Prop where
 same:∃t,S=h1++t/\l=h2++t
 pl:es.filter (fun e=>decide (e.2<16384))=ps.map (fun p=>(dL p.1,p.2))
theorem Ri{x:ai} : ∀ {es:oM} {ps:cH},es.filter (fun e=>decide (e.2<16384))=ps.map (fun p=>(dL p.1,p.2))->wI (dL x) es=lq ps x
 | [],ps,h=>by
  have:ps = []:=by simpa using h.symm
  rw[this];rfl
 | e :: es,ps,h=>by
  by_cases he:e.2<16384;{
  rw[qF (by simpa using he)]at h;cases ps with
  | nil=>simp at h
  | cons p ps =>{rw[og]at h;obtain⟨h1,h2⟩:=Sk h;have ih:=Ri (x:=x) h2;unfold wI lq;rw[h1,ih];by_cases hx:p.1=x;{rw[aP ⟨by rw[hx],by have:=ek Prod.snd h1;simp only at this;omega⟩,aP (by simpa using hx)]};{rw[aG (fun hc=>hx (Zn hc.1)),aG (by simpa using hx)]}}};{rw[tF (by simpa using he)]at h;unfold wI;rw[aG (fun hc=>he hc.2)];exact Ri h}
section
variable {h1 h2 S:ai} {es:oM} {l:ai} {ps:cH} (h:qB h1 h2 S es l ps)
include h
theorem qB.app(x:ai):qB h1 h2 (S++x) es (l++x) ps:=by obtain⟨t,rfl,rfl⟩:=h.same;exact⟨⟨t++x,by rw[g_],by rw[g_]⟩,h.pl⟩
theorem qB.len(hl:h1.length=h2.length):S.length=l.length:=by obtain⟨t,rfl,rfl⟩:=h.same;rw[bU,bU,hl]
theorem qB.find(x:ai):wI (dL x) es=lq ps x:=Ri h.pl
theorem qB.aax(hl:h1.length=h2.length)(x:ai):qB h1 h2 S (es++[(dL x,S.length)]) l (oC ps x l.length):=by refine⟨h.same,?_⟩;unfold oC;rw[tE,h.pl,h.len hl];by_cases hc:l.length<16384;{rw[aP hc,n_];simp[hc]};{rw[aG hc];simp[hc]}
theorem qB.hit{x:ai}{ls:List ai}{n:Nat}(hx:x≠[])(jR:pG ls=dL x)(hf:lq ps x=some n):qB h1 h2 (gR ls S es).1 (gR ls S es).2 (gh (cu x) l ps).1 (gh (cu x) l ps).2:=by
 cases ls with
 | nil=>exact absurd jR.symm (ala x)
 | cons y t =>{have he:=h.find x;rw[hf,<- jR]at he;rw[Rh he,pW x hx,Gd hf];exact h.app _}
end
structure wJ(x:ai):Prop where
 ne:fk x
 p:(80:UInt8) ∉ x
 low:∀c∈x,qA c=c
theorem amR{x:ai}(h:∀c∈x,qA c=c):x.map qA=x:=by have:x.map qA=x.map id:=rP h;simpa using this
theorem amS{x:ai}(h:∀c∈x,qA c=c):pG (aS 46 x)=aS 46 x:=by unfold pG;have:(aS 46 x).map (List.map qA)=(aS 46 x).map id:=rP fun y hy=>amR fun c hc=>h c ((Lt _ x aB y hy).2 c hc);simpa using this
theorem wJ.Rj{x:ai}(h:wJ x):pG (aS 46 x)=dL x:=by rw[amS h.low,QJ h.p]
theorem ES{h1 h2:ai}(hl:h1.length=h2.length):∀(f:Nat) (x:ai) (S:ai) (es:oM) (l:ai) (ps:cH),x.length<=f->wJ x->qB h1 h2 S es l ps ->
  qB h1 h2 (gR (aS 46 x) S es).1 (gR (aS 46 x) S es).2 (gh (cu x) l ps).1 (gh (cu x) l ps).2
 | 0,x,S,es,l,ps,hf,hx,h=>by have:x = []:=gS ae;subst this;exact absurd rfl (hx.ne [] (by simp[yi]))
 | f+1,x,S,es,l,ps,hf,hx,h=>by
  have PG:x≠[]:=fun e=>by{subst e;exact absurd rfl (hx.ne [] (by simp[yi]))};have LV:=h.find x;cases hp:lq ps x with
  | some n=>exact h.hit PG hx.Rj hp
  | none =>{
  rw[hp]at LV;rw[pW x PG,Ge hp];rcases rK 46 x with⟨aD,hs⟩|⟨a,b,e0,ha,e⟩;case inr =>(
  have xm:wJ b:=⟨fun y hy=>hx.ne y (by rw[e];exact nB _ hy),fun hc=>hx.p (by rw[e0];simp[hc]),fun c hc=>hx.low c (by rw[e0];simp[hc])⟩;have uC:=hx.Rj;rw[e]at uC;rw[e,LQ (by rw[uC];exact LV),uC];have h3:=(h.aax hl x).app (nP x);have h4:nP x=UInt8.ofNat a.length :: a:=by unfold nP;rw[e0,N5 a b ha]
  have h5:fW x=b:=by rw[e0];exact AE a b ha
  rw[h5];rw[h4]at h3 ⊢;exact ES hl f b _ _ _ _ (by rw[e0]at hf;simp at hf;omega) xm h3)
  case inl =>(have uC:=hx.Rj;rw[hs]at uC ⊢;rw[<- uC]at LV;rw[LQ LV,Da x aD,oW,uC];have h3:=((h.aax hl x).app (nP x)).app [0];unfold nP at h3 ⊢;rw[N6 x aD]at h3 ⊢;exact h3)}
theorem amT{c:UInt8}(h:wQ c=true):qA c=c:=by unfold wQ MR at h;unfold qA;simp only[CE,fo,Af,iv]at h;rw[aG ae]
theorem aay{star:Bool}{n:ai}(h:(wz star n).isSome=true):∀c∈n,qA c=c:=by
 intro c0 hc;unfold wz at h;split at h;{
 rename_i hh;have key:∀(l:List ai) (i:Nat),td star i l=true->∀x∈l,∀c∈x,qA c=c:=by{
 intro l;induction l with
 | nil=>intro i _ x hx;cases hx
 | cons a l ih =>{
 intro i h x hx;rw[td,fo]at h;rcases eK.1 hx with rfl|hx;{
 intro c wB;have:=h.1;unfold Ex at this;rw[CE]at this;rcases this with this|this;{unfold mi at this;rw[fo,E9]at this;exact amT (this.2 c wB)};{
 simp only[fo,iv]at this;rw[this.1.2]at wB;obtain rfl:c=42:=by simpa using wB
 rfl}};{exact ih (i+1) h.2 x hx}}};rcases QI _ n c0 aB hc with h|⟨l,h1,h2⟩;{rw[h];rfl};{exact key _ 0 hh.2 l h1 c0 h2}};{cases h}
theorem ET{x:ai}(h:fG x=true):wJ x where
 ne:=(jd h).1
 p:=alE h
 low:=aay (star:=false) (by rw[Qj];exact h)
theorem amU{x:ai}(h:kU x=true):wJ x where
 ne:=(EJ h).1
 p:=ZL h
 low:=aay (star:=true) (by rw[Qi];exact h)
def eX(r:aj):List dH :=
 if r.type=1 then(ly ((aS 46 r.data).map nu)).map ik
 else if r.type=16 then yT r.data
 else if r.type=15 then xu (nu (eD r 0)) (eD r 1)
 else if r.type=6 then xt (eD r 0) (eD r 1) (nu (eD r 2)) (nu (eD r 3))
 else [sI r.data]
theorem aaz{m:Nat}(hm:m<=4294967295):∀(l:ai) (n v:Nat),n<=m->lM m n l=some v->Lib.parseUintM (2 ^ 64 - 1) n l=.ok v
 | [],n,v,_,h=>by simp[lM]at h;rw[h];rfl
 | c :: r,n,v,hn,h=>by unfold lM at h;split at h;{rename_i aD;split at h;{rename_i hle;simp only[rT,fo,Af]at aD;unfold Lib.parseUintM;rw[aP ae,aG ae,aG ae,jW n 10];exact aaz hm r _ v hle h};{cases h}};{cases h}
theorem LW{m:Nat}(hm:m<=4294967295){x:ai}(h:fL m x=true):Lib.parseUintB 64 x=.ok (nu x):=by
 have h2:=(LU hm h).1;unfold fL at h2;obtain⟨v,hv⟩:=Option.isSome_iff_exists.1 h2;have hn:nu x=v:=by unfold nu kV;rw[hv];rfl
 rw[hn];unfold pN at hv;cases x with
 | nil=>cases hv
 | cons c r =>{simp only at hv;split at hv;{cases hv};{unfold Lib.parseUintB;rw[aG ak];exact aaz ae _ 0 v ae hv}}
structure LX(r:aj):Prop where
 own:r.owner.length<=300
 aV:r.aV<4294967296
 dat:eF r.type (aS 32 r.data)=true
 len:r.data.length<=3000
theorem aaA(r:aj):ft 32 (ah r.data)=(aS 32 r.data).map ah:=by
 have h:=rU 32 (ah r.data);have hb:(ah r.data).data.toList=r.data:=by simp[ah]
 rw[hb]at h;rw[<- h,pK];have:∀x∈ft 32 (ah r.data),(ah ∘ fun x=>x.data.toList) x=id x:=fun x _=>by simp[ah]
 rw[rP this,CO]
theorem Ia{r:aj}(h:LX r):na r (eX r):=by
 have ht:=H3 h.dat;have aD:=h.dat;rcases ht with ht|ht|ht|ht|ht|ht;all_goals rw[ht]at aD
 all_goals unfold eX
 {rw[aP ht];obtain⟨a,dP,hall,hl4⟩:=aaw aD;have Rk:=wF dP;refine amL r _ h.own ht h.aV h.len ?_ ?_ ?_ ?_;{unfold Gl;rw[Rk,pK];exact rP fun y hy=>LW (m:=255) ae (E9.1 hall y hy)};{unfold ly;rw[Rk];intro hc;have:=ek List.length hc;simp[hl4]at this};{unfold ly;rw[Rk];simp[hl4]};{intro f hf;unfold ly at hf;obtain⟨u,_,rfl⟩:=oh.1 hf;exact vG _}};{rw[aG ae,aG ae,aG ae,aG ae];obtain⟨a,dP,hp⟩:=zN (t:=2) (.inl rfl) aD;have:=(jd hp).2;exact aav r h.own (.inl ht) h.aV (by rw[wF dP];omega)};{rw[aG ae,aG ae,aG ae,aG ae];obtain⟨a,dP,hp⟩:=zN (t:=5) (.inr rfl) aD;have:=(jd hp).2;exact aav r h.own (.inr ht) h.aV (by rw[wF dP];omega)};{
 rw[aG ae,aG ae,aG ae,aP ht];obtain⟨a,b,c,d,dP,Cr,pH,hc,hdd⟩:=LR aD;have h0:eD r 0=a:=by unfold eD;rw[dP];rfl
 have h1:eD r 1=b:=by unfold eD;rw[dP];rfl
 have h2:eD r 2=c:=by unfold eD;rw[dP];rfl
 have h3:eD r 3=d:=by unfold eD;rw[dP];rfl
 have hlen:∀y∈aS 32 r.data,y.length<=3000:=fun y hy=>a_ (Fh 32 _ r.data aB y hy) h.len;have l0:=(jd Cr).2;have l1:=(jd pH).2;rw[h0,h1,h2,h3];exact amN r h.own ht h.aV h.len a b c d _ _ (by rw[aaA,dP];rfl) (LW (m:=4294967295) ae hc) (LW (m:=86400) ae hdd) ae ae (hlen c (by rw[dP];simp)) (hlen d (by rw[dP];simp))};{
 rw[aG ae,aG ae,aP ht];obtain⟨a,b,dP,ha,pH⟩:=LS aD;have h0:eD r 0=a:=by unfold eD;rw[dP];rfl
 have h1:eD r 1=b:=by unfold eD;rw[dP];rfl
 have hlen:∀y∈aS 32 r.data,y.length<=3000:=fun y hy=>a_ (Fh 32 _ r.data aB y hy) h.len;have l1:=(jd pH).2;rw[h0,h1];exact amP r h.own ht h.aV h.len a b _ (by rw[aaA,dP];rfl) (LW (m:=65535) ae ha) (hlen a (by rw[dP];simp)) ae};{rw[aG ae,aP ht];exact amO r h.own ht h.aV h.len}
theorem aaB:∀(fs:List iD) (l:ai) (ps:cH),en (fs.map ik) l ps=(l++fs.flatMap (·.out),ps)
 | [],l,ps=>by simp[en]
 | f :: fs,l,ps=>by rw[og,JR];show en (fs.map ik) (l++f.out) ps=_;rw[aaB fs,tG,g_]
theorem aaC:∀(us:List Nat),(ly us).flatMap (·.out)=us.map UInt8.ofNat
 | []=>rfl
 | u :: us=>by show _ :: (ly us).flatMap (·.out)=_;rw[aaC us];rfl
theorem amV{h1 h2 S:ai}{es:oM}{l:ai}{ps:cH}(hl:h1.length=h2.length){r:aj}(h:LX r)(e:qB h1 h2 S es l ps):qB h1 h2 (lI (uP r) S es).1 (lI (uP r) S es).2 (en (eX r) l ps).1 (en (eX r) l ps).2:=by
 have ht:=H3 h.dat;have aD:=h.dat;rcases ht with ht|ht|ht|ht|ht|ht;all_goals rw[ht]at aD
 all_goals unfold eX uP
 {rw[aP ht,aP ht,aaB,aaC,pK];exact e.app _};{
 rw[aG ae,aG ae,aG ae,aG ae,aG ae,aG ae,aG ae,aG ae];obtain⟨a,dP,hp⟩:=zN (t:=2) (.inl rfl) aD;have h0:eD r 0=r.data:=by unfold eD;rw[dP,wF dP];rfl
 rw[h0];exact ES hl _ r.data S es l ps aB (ET (by rw[wF dP];exact hp)) e};{
 rw[aG ae,aG ae,aG ae,aG ae,aG ae,aG ae,aG ae,aG ae];obtain⟨a,dP,hp⟩:=zN (t:=5) (.inr rfl) aD;have h0:eD r 0=r.data:=by unfold eD;rw[dP,wF dP];rfl
 rw[h0];exact ES hl _ r.data S es l ps aB (ET (by rw[wF dP];exact hp)) e};{
 rw[aG ae,aG ae,aG ae,aP ht,aG ae,aG ae,aG ae,aP ht];obtain⟨a,b,c,d,dP,Cr,pH,hc,hdd⟩:=LR aD;have g0:eD r 0=a:=by unfold eD;rw[dP];rfl
 have g1:eD r 1=b:=by unfold eD;rw[dP];rfl
 have g2:eD r 2=c:=by unfold eD;rw[dP];rfl
 have g3:eD r 3=d:=by unfold eD;rw[dP];rfl
 rw[g0,g1,g2,g3];have n2:=(LU (m:=4294967295) ae hc).2;have n3:=(LU (m:=86400) ae hdd).2;have e1:=ES hl _ a S es l ps aB (ET Cr) e;have e2:=ES hl _ b _ _ _ _ aB (ET pH) e1;have e3:=e2.app (uO (nu c)++uO 3600++uO 600++uO 86400++uO (nu d));unfold xt;rw[Fc ae,Fc ae];simp only[JR,Vq,ik,sI,ue];simp only[g_]at e3 ⊢;exact e3};{
 rw[aG ae,aG ae,aP ht,aG ae,aG ae,aP ht];obtain⟨a,b,dP,ha,pH⟩:=LS aD;have g0:eD r 0=a:=by unfold eD;rw[dP];rfl
 have g1:eD r 1=b:=by unfold eD;rw[dP];rfl
 rw[g0,g1];have n0:=(LU (m:=65535) ae ha).2;have e1:=e.app [au (nu a),eO (nu a)];have e2:=ES hl _ b _ _ _ _ aB (ET pH) e1;unfold xu;rw[Fc ae];exact e2};{rw[aG ae,aP ht,aG ae,aP ht];have e1:=e.app (UInt8.ofNat r.data.length :: r.data);unfold yT;simp only[JR,Vq,ik,jN,ct,g_];exact e1}
def nv(ns:List ai):Nat:=(ns.map fun x=>x.length+1).sum
theorem LY(x:ai)(t:List ai):nv (x :: t)=x.length+1+nv t:=by simp[nv]
theorem aaD:∀ns:List ai,ns.length<=nv ns
 | []=>aL _
 | x :: t=>by have:=aaD t;rw[LY,cU];omega
theorem aaE:∀(f:Nat) (x:ai),x.length<=f->nv (aS 46 x)=x.length+1
 | f,x,h=>by
  rcases rK 46 x with⟨h1,e⟩|⟨a,b,e0,h1,e⟩;{rw[e];simp[nv]};{
  match f,h with
  | 0,h=>rw[e0]at h;simp at h
  | f+1,h =>{rw[e,LY,aaE f b (by rw[e0]at h;simp at h;omega),e0];simp;omega}}
theorem aaF:∀(ns:List ai) (S:ai) (es:oM),S.length<=(gR ns S es).1.length/\(gR ns S es).1.length<=S.length+nv ns+2/\es.length<=(gR ns S es).2.length/\(gR ns S es).2.length<=es.length+ns.length
 | [],S,es=>by simp[gR];omega
 | x :: t,S,es=>by
  cases hf:wI (pG (x :: t)) es with
  | some n=>rw[Rh hf];simp
  | none =>{rw[LQ hf,LY];have:=aaF t (S++(UInt8.ofNat x.length :: x)) (es++[(pG (x :: t),S.length)]);simp only[bU,cU,fV]at this ⊢;omega}
def oN:ER->Nat
 | []=>0
 | .inl b :: t=>b.length+oN t
 | .inr x :: t=>x.length+3+oN t
theorem Rl:∀(p:ER) (S:ai) (es:oM),S.length<=(lI p S es).1.length/\(lI p S es).1.length<=S.length+oN p/\(lI p S es).2.length<=es.length+oN p
 | [],S,es=>by simp[lI,oN]
 | .inl b :: t,S,es=>by have:=Rl t (S++b) es;rw[bU]at this;show _<=(lI t (S++b) es).1.length/\(lI t (S++b) es).1.length<=S.length+(b.length+oN t)/\(lI t (S++b) es).2.length<=es.length+(b.length+oN t);omega
 | .inr x :: t,S,es=>by have h1:=aaF (aS 46 x) S es;have h2:=Rl t (gR (aS 46 x) S es).1 (gR (aS 46 x) S es).2;have h3:=aaE _ x aB;have h4:=aaD (aS 46 x);show _<=(lI t (gR (aS 46 x) S es).1 (gR (aS 46 x) S es).2).1.length/\(lI t (gR (aS 46 x) S es).1 (gR (aS 46 x) S es).2).1.length<=S.length+(x.length+3+oN t)/\(lI t (gR (aS 46 x) S es).1 (gR (aS 46 x) S es).2).2.length<=es.length+(x.length+3+oN t);omega
theorem amW{r:aj}(aD:eF r.type (aS 32 r.data)=true):oN (uP r)<=300:=by
 have ht:=H3 aD;rcases ht with ht|ht|ht|ht|ht|ht;all_goals rw[ht]at aD
 all_goals unfold uP
 {obtain⟨a,dP,hall,hl4⟩:=aaw aD;rw[aP ht,wF dP];simp[oN,hl4]};{obtain⟨a,dP,hp⟩:=zN (t:=2) (.inl rfl) aD;have:=(jd hp).2;rw[aG ae,aG ae,aG ae,aG ae];simp[oN,eD,dP];omega};{obtain⟨a,dP,hp⟩:=zN (t:=5) (.inr rfl) aD;have:=(jd hp).2;rw[aG ae,aG ae,aG ae,aG ae];simp[oN,eD,dP];omega};{obtain⟨a,b,c,d,dP,Cr,pH,_,_⟩:=LR aD;have:=(jd Cr).2;have:=(jd pH).2;rw[aG ae,aG ae,aG ae,aP ht];simp[oN,eD,dP,uO];omega};{obtain⟨a,b,dP,_,pH⟩:=LS aD;have:=(jd pH).2;rw[aG ae,aG ae,aP ht];simp[oN,eD,dP];omega};{obtain⟨a,dP,hl⟩:=amQ aD;rw[aG ae,aP ht,wF dP];simp[oN];omega}
structure lJ(T:ai)(r:aj):Prop where
 own:r.owner=T\/wJ r.owner
 Rm:r.owner.length<=255
 amX:r.owner≠[]
 aV:r.aV<=86400
 dat:eF r.type (aS 32 r.data)=true
 len:r.data.length<=3000
theorem lJ.wr{T:ai}{r:aj}(h:lJ T r):LX r:=⟨a_ h.Rm ae,CQ h.aV ae,h.dat,h.len⟩
theorem aaG{n:ai}(h:fk n):n≠[]:=fun e=>by
 subst e;exact absurd rfl (h [] (by simp[yi]))
section
variable {o:ai} {rs:List aj} (hz:l7 o rs) {T:ai}
include hz
theorem Rn{r:aj}(h:r∈rs):lJ T r:=by have h1:=hz.recs r h;have h2:=EJ h1.Cm;exact⟨.inr (amU h1.Cm),ae,aaG h2.1,h1.aV,h1.dat,h1.len⟩
theorem aaH{n:ai}(hn:fk n)(hl:n.length<=255)(hT:n=T\/wJ n){r:aj}(h:r∈rs):lJ T (ig n r):=by have h1:=hz.recs r h;exact⟨hT,hl,aaG hn,h1.aV,h1.dat,h1.len⟩
theorem LZ:∀r∈fB o (aQ rs),lJ T r/\r.type=6:=by intro r hr;unfold fB at hr;obtain⟨r0,h0,rfl⟩:=oh.1 hr;rw[HV]at h0;obtain⟨hm,hp⟩:=je.1 h0;have h1:=Rn hz (T:=T) hm;have h6:r0.type=6:=by{rw[fo]at hp;simpa using hp.2};exact⟨⟨h1.own,h1.Rm,h1.amX,a_ (Nat.min_le_left _ _) h1.aV,h1.dat,h1.len⟩,h6⟩
omit hz in
theorem amY{n:ai}{t:Int}{r:aj}(h0:r∈kO rs n t):r∈rs:=by unfold kO at h0;split at h0;{obtain⟨k,_,hk⟩:=zZ.1 h0;exact(je.1 hk).1};{exact(je.1 h0).1}
theorem aaI{n:ai}(hn:fk n)(hl:n.length<=255)(hT:n=T\/wJ n)(t:Int)(first aa:Bool)(ans:List aj)(ha:∀r∈ans,lJ T r/\r.type=5) :
  (∀r∈(fK o (aQ rs) t first aa ans n).2.2.1,lJ T r)/\(∀r∈(fK o (aQ rs) t first aa ans n).2.2.2.1,lJ T r/\(r.type=2\/r.type=6)) /\
  ((fK o (aQ rs) t first aa ans n).2.2.2.1≠[]->∀r∈(fK o (aQ rs) t first aa ans n).2.2.1,r.type=5)/\∀d,(fK o (aQ rs) t first aa ans n).2.2.2.2=some d->fG d=true/\∀r∈(fK o (aQ rs) t first aa ans n).2.2.1,r.type=5:=by
 cases hu:dU n o with
 | false =>{unfold fK;rw[aP hu];exact⟨fun r hr=>(ha r hr).1,(by intro r hr;cases hr),fun h=>absurd rfl h,(by intro d aD;cases aD)⟩}
 | true =>{
 by_cases hc:(dn o (aQ rs) n).length=0;{
 have hc':=gS hc;cases hm:(cg (aQ rs) n).2 with
 | false =>{rw[aad hu hc' hm];exact⟨fun r hr=>(ha r hr).1,fun r hr=>⟨(LZ hz r hr).1,.inr (LZ hz (T:=T) r hr).2⟩,fun _ r hr=>(ha r hr).2,(by intro d aD;cases aD)⟩}
 | true =>{
 by_cases uN:(t=5\/t=255)\/iQ o (aQ rs) n=none;{rw[aae hu hc' hm uN];have xd:∀r∈jz t (cg (aQ rs) n).1,lJ T r:=by{rcases H6 hz hn t with h|⟨s,h⟩;{rw[h];intro r hr;cases hr};{rw[h];intro r hr;obtain⟨r0,h0,rfl⟩:=oh.1 hr;exact aaH hz hn hl hT (amY h0)}};refine⟨fun r hr=>?_,fun r hr=>?_,fun h r hr=>?_,(by intro d aD;cases aD)⟩;{rcases kP.1 hr with h|h;{exact(ha r h).1};{exact xd r h}};{have hr':r∈(if sj t (cg (aQ rs) n).1 then []else fB o (aQ rs)):=hr;split at hr';{cases hr'};{exact⟨(LZ hz r hr').1,.inr (LZ hz (T:=T) r hr').2⟩}};{have h':(if sj t (cg (aQ rs) n).1 then []else fB o (aQ rs))≠[]:=h;split at h';{exact absurd rfl h'};{rename_i pV;have he:jz t (cg (aQ rs) n).1 = []:=by{have hf:(bC bJ (cg (aQ rs) n).1).filter (kh t) = []:=by{rw[qG];intro x hx hc;exact pV (uU.2 ⟨x,hx,hc⟩)};unfold jz mv;rw[hf];rfl};have hr':r∈ans++jz t (cg (aQ rs) n).1:=hr;rw[he,jt]at hr';exact(ha r hr').2}}};{
 have h5:t≠5:=fun h=>uN (.inl (.inl h));have iw:t≠255:=fun h=>uN (.inl (.inr h));cases hlk:iQ o (aQ rs) n with
 | none=>exact absurd (.inr hlk) uN
 | some r =>{
 obtain⟨r0,hm0,e,h50,hp⟩:=LK hz hn hlk;by_cases h8:ans.length=8;{rw[Q_ hu hc' hlk h5 iw h8];exact⟨(by intro r hr;cases hr),(by intro r hr;cases hr),fun h=>absurd rfl h,(by intro d aD;cases aD)⟩};{
 rw[LJ hu hc' hlk h5 iw h8];have hall:∀x∈ans++[r],lJ T x/\x.type=5:=by{
 intro x hx;rcases kP.1 hx with h|h;{exact ha x h};{
 obtain rfl:x=r:=by simpa using h
 rw[e];exact⟨aaH hz hn hl hT hm0,h50⟩}};exact⟨fun x hx=>(hall x hx).1,(by intro r hr;cases hr),fun h=>absurd rfl h,fun d aD=>⟨by obtain rfl:r.data=d:=gT aD;exact hp,fun x hx=>(hall x hx).2⟩⟩}}}}};{rw[Q9 hu hc];refine⟨fun r hr=>(ha r hr).1,fun r hr=>?_,fun _ r hr=>(ha r hr).2,(by intro d aD;cases aD)⟩;have hr':r∈dn o (aQ rs) n:=hr;refine⟨Rn hz (aag hz hn hu r hr'),.inl ?_⟩;rcases QS (wG hz) hn hu with⟨_,h⟩|⟨i,_,_,h,_⟩;{rw[h]at hr';cases hr'};{rw[h]at hr';have:=(je.1 hr').2;rw[fo]at this;simpa using this.2}}}
theorem aaJ(t:Int):∀(f:Nat) (first aa:Bool) (ans:List aj) (n:ai),fk n->n.length<=255->(n=T\/wJ n)->(∀r∈ans,lJ T r/\r.type=5) ->
  (∀r∈(jT o (aQ rs) t f first aa ans n).2.2.1,lJ T r)/\(∀r∈(jT o (aQ rs) t f first aa ans n).2.2.2,lJ T r/\(r.type=2\/r.type=6))/\((jT o (aQ rs) t f first aa ans n).2.2.2≠[]->∀r∈(jT o (aQ rs) t f first aa ans n).2.2.1,r.type=5)
 | 0,first,aa,ans,n,hn,hl,hT,ha=>by
  have h:=aaI hz hn hl hT t first aa ans ha
  exact⟨h.1,h.2.1,h.2.2.1⟩
 | f+1,first,aa,ans,n,hn,hl,hT,ha=>by
  have h:=aaI hz hn hl hT t first aa ans ha
  unfold jT;generalize fK o (aQ rs) t first aa ans n=q at h
  obtain⟨rc,nZ,nr,eB,nx⟩:=q;cases nx with
  | none=>exact⟨h.1,h.2.1,h.2.2.1⟩
  | some d =>{obtain⟨hp,h5⟩:=h.2.2.2 d rfl;exact aaJ t f false nZ nr d (jd hp).1 (a_ (jd hp).2 ae) (.inr (ET hp)) fun r hr=>⟨h.1 r hr,h5 r hr⟩}
omit hz in
theorem aaK(n:ai):∀(l:List aj) (s:List ai),s.contains n=false->(gm l n 1).length+(l.filter (fun r=>s.contains r.owner)).length<=(l.filter (fun r=>(s++[n]).contains r.owner)).length
 | [],s,_=>by simp[gm]
 | r :: l,s,hn=>by
  have ih:=aaK n l s hn;unfold gm at ih ⊢;have hc:(s++[n]).contains r.owner=(s.contains r.owner || r.owner == n):=by{rw[List.contains_eq_mem,List.contains_eq_mem];by_cases h1:r.owner∈s <;> by_cases h2:r.owner=n <;> simp[h1,h2]};rw[IC,IC,IC];simp only[hc];by_cases h1:r.owner=n;{
  have h2:s.contains r.owner=false:=by rw[h1];exact hn
  rw[h2];have h3:(r.owner == n)=true:=by simpa using h1
  rw[h3];simp only[Ml,E7,pM,zT,Ag,cU];split;{rw[cU];omega};{omega}};{
  have h3:(r.owner == n)=false:=by simpa using h1
  rw[h3];simp only[Sg,CD,zT,Ag];split;{rw[cU,cU];omega};{omega}}
omit hz in
theorem Ro(ans:List aj):∀(l:List aj) (s:List ai×List aj),s.2.length<=(rs.filter (fun r=>s.1.contains r.owner)).length->(l.foldl (Cn rs ans) s).2.length<=rs.length
 | [],s,h=>a_ h (yc _ _)
 | x :: l,s,h=>by
  refine Ro ans l _ ?_;unfold Cn;split;{
  split;{exact h};{
  rename_i hc;have hn:s.1.contains (fX x.data)=false:=by simpa using hc
  have h1:=aaK (fX x.data) rs s.1 hn;show(if ans.any (fun a=>a.owner == fX x.data && a.type == 1)then s.2 else s.2++gm rs (fX x.data) 1).length<=(rs.filter (fun r=>(s.1++[fX x.data]).contains r.owner)).length;split;{omega};{rw[bU];omega}}};{exact h}
omit hz in
theorem aaL(t:Int)(first aa:Bool)(ans:List aj)(n:ai):∃k:Nat,k<=16/\(fK o (aQ rs) t first aa ans n).1=(k:Int):=by
 unfold fK;split;{
 cases first
 {exact⟨0,ae,rfl⟩};{exact⟨5,ae,rfl⟩}};{
 split;{exact⟨0,ae,rfl⟩};{
 split;{split;{exact⟨2,ae,rfl⟩};{exact⟨0,ae,rfl⟩}};{
 show ∃k:Nat,k<=16/\jO o (aQ rs) n=(k:Int);unfold jO;repeat' split
 all_goals first|exact⟨0,ae,rfl⟩|exact⟨3,ae,rfl⟩}}}
omit hz in
theorem aaM(t:Int):∀(f:Nat) (first aa:Bool) (ans:List aj) (n:ai),∃k:Nat,k<=16/\(jT o (aQ rs) t f first aa ans n).1=(k:Int)
 | 0,first,aa,ans,n=>aaL t first aa ans n
 | f+1,first,aa,ans,n=>by
  have h:=aaL (o:=o) (rs:=rs) t first aa ans n
  unfold jT;generalize fK o (aQ rs) t first aa ans n=q at h
  obtain⟨rc,nZ,nr,eB,nx⟩:=q;cases nx with
  | none=>exact h
  | some d=>exact aaM t f false nZ nr d
theorem aaN(ans:List aj):∀(l:List aj) (s:List ai×List aj),(∀r∈s.2,lJ T r)->∀r∈(l.foldl (Cn rs ans) s).2,lJ T r
 | [],s,h=>h
 | x :: l,s,h=>by refine aaN ans l _ ?_;unfold Cn;split;{split;{exact h};{show ∀r∈(if ans.any (fun a=>a.owner == fX x.data && a.type == 1)then s.2 else s.2++gm rs (fX x.data) 1),lJ T r;split;{exact h};{intro r hr;rcases kP.1 hr with hr|hr;{exact h r hr};{exact Rn hz (je.1 hr).1}}}};{exact h}
end
end Go.Proofs.YtkkpahmoljiepaaGreatDoor
