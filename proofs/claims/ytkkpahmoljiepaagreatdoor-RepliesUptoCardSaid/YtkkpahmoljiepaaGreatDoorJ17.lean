import Derived.Test.YtkkpahmoljiepaaGreatDoorJ16
set_option maxRecDepth 1000000
set_option maxHeartbeats 12800000
set_option linter.unusedSimpArgs false
set_option linter.unusedVariables false
namespace Go.Proofs.YtkkpahmoljiepaaGreatDoor
open Go.RowKit Go.Proofs.Tryz
structure kW(h1 h2:ah)(S:ah)(es:dN)(l:ah)(ps:cI):Prop where
 same:∃t,S=h1++t/\l=h2++t
 pl:es.filter (fun e=>decide (e.2<16384))=ps.map (fun p=>(aT p.1,p.2))
theorem Yb{x:ah} : ∀ {es:dN} {ps:cI},es.filter (fun e=>decide (e.2<16384))=ps.map (fun p=>(aT p.1,p.2))->jv (aT x) es=jI ps x
 | [],ps,h=>by
  have:ps = []:=by simpa using h.symm
  rw[this];rfl
 | e :: es,ps,h=>by
  by_cases he:e.2<16384;{
  rw[rG (by simpa using he)]at h;cases ps with
  | nil=>simp at h
  | cons p ps =>{rw[jL]at h;obtain⟨h1,h2⟩:=Hq h;have ih:=Yb (x:=x) h2;unfold jv jI;rw[h1,ih];by_cases hx:p.1=x;{rw[aJ ⟨by rw[hx],by have:=dE Prod.snd h1;simp only at this;omega⟩,aJ (by simpa using hx)]};{rw[aF (fun hc=>hx (Iq hc.1)),aF (by simpa using hx)]}}};{rw[uw (by simpa using he)]at h;unfold jv;rw[aF (fun hc=>he hc.2)];exact Yb h}
section
variable {h1 h2 S:ah} {es:dN} {l:ah} {ps:cI} (h:kW h1 h2 S es l ps)
include h
theorem kW.app(x:ah):kW h1 h2 (S++x) es (l++x) ps:=by obtain⟨t,rfl,rfl⟩:=h.same;exact⟨⟨t++x,by rw[fP],by rw[fP]⟩,h.pl⟩
theorem kW.len(hl:h1.length=h2.length):S.length=l.length:=by obtain⟨t,rfl,rfl⟩:=h.same;rw[bj,bj,hl]
theorem kW.find(x:ah):jv (aT x) es=jI ps x:=Yb h.pl
theorem kW.ahy(hl:h1.length=h2.length)(x:ah):kW h1 h2 S (es++[(aT x,S.length)]) l (rq ps x l.length):=by refine⟨h.same,?_⟩;unfold rq;rw[vV,h.pl,h.len hl];by_cases hc:l.length<16384;{rw[aJ hc,gJ];simp[hc]};{rw[aF hc];simp[hc]}
theorem kW.hit{x:ah}{ls:List ah}{n:Nat}(hx:x≠[])(iF:cC ls=aT x)(hf:jI ps x=some n):kW h1 h2 (bB ls S es).1 (bB ls S es).2 (gO (cg x) l ps).1 (gO (cg x) l ps).2:=by
 cases ls with
 | nil=>exact absurd iF.symm (PV x)
 | cons y t =>{have he:=h.find x;rw[hf,<- iF]at he;rw[Ea he,qP x hx,Mb hf];exact h.app _}
end
structure vN(x:ah):Prop where
 ne:fC x
 p:(80:UInt8) ∉ x
 low:∀c∈x,eV c=c
theorem au8{x:ah}(h:∀c∈x,eV c=c):x.map eV=x:=by have:x.map eV=x.map id:=oB h;simpa using this
theorem ahz{x:ah}(h:∀c∈x,eV c=c):cC (az 46 x)=az 46 x:=by unfold cC;have:(az 46 x).map (List.map eV)=(az 46 x).map id:=oB fun y hy=>au8 fun c hc=>h c ((PU _ x aA y hy).2 c hc);simpa using this
theorem vN.Yc{x:ah}(h:vN x):cC (az 46 x)=aT x:=by rw[ahz h.low,yx h.p]
theorem G0{h1 h2:ah}(hl:h1.length=h2.length):∀(f:Nat) (x:ah) (S:ah) (es:dN) (l:ah) (ps:cI),x.length<=f->vN x->kW h1 h2 S es l ps ->
  kW h1 h2 (bB (az 46 x) S es).1 (bB (az 46 x) S es).2 (gO (cg x) l ps).1 (gO (cg x) l ps).2
 | 0,x,S,es,l,ps,hf,hx,h=>by have:x = []:=fp ae;subst this;exact absurd rfl (hx.ne [] (by simp[AK]))
 | f+1,x,S,es,l,ps,hf,hx,h=>by
  have ahA:x≠[]:=fun e=>by{subst e;exact absurd rfl (hx.ne [] (by simp[AK]))};have Rx:=h.find x;cases hp:jI ps x with
  | some n=>exact h.hit ahA hx.Yc hp
  | none =>{
  rw[hp]at Rx;rw[qP x ahA,Mc hp];rcases oJ 46 x with⟨hd,hs⟩|⟨a,b,e0,ha,e⟩;case inr =>(
  have rV:vN b:=⟨fun y hy=>hx.ne y (by rw[e];exact jY _ hy),fun hc=>hx.p (by rw[e0];simp[hc]),fun c hc=>hx.low c (by rw[e0];simp[hc])⟩;have zW:=hx.Yc;rw[e]at zW;rw[e,yM (by rw[zW];exact Rx),zW];have h3:=(h.ahy hl x).app (qo x);have h4:qo x=UInt8.ofNat a.length :: a:=by unfold qo;rw[e0,WI a b ha]
  have h5:ik x=b:=by rw[e0];exact CR a b ha
  rw[h5];rw[h4]at h3 ⊢;exact G0 hl f b _ _ _ _ (by rw[e0]at hf;simp at hf;omega) rV h3)
  case inl =>(have zW:=hx.Yc;rw[hs]at zW ⊢;rw[<- zW]at Rx;rw[yM Rx,Fc x hd,rS,zW];have h3:=((h.ahy hl x).app (qo x)).app [0];unfold qo at h3 ⊢;rw[WJ x hd]at h3 ⊢;exact h3)}
theorem au9{c:UInt8}(h:rM c=true):eV c=c:=by unfold rM N6 at h;unfold eV;simp only[xK,cY,tj,fe]at h;rw[aF ae]
theorem ahB{star:Bool}{n:ah}(h:(gT star n).isSome=true):∀c∈n,eV c=c:=by
 intro c0 hc;unfold gT at h;split at h;{
 rename_i hh;have key:∀(l:List ah) (i:Nat),lu star i l=true->∀x∈l,∀c∈x,eV c=c:=by{
 intro l;induction l with
 | nil=>intro i _ x hx;cases hx
 | cons a l ih =>{
 intro i h x hx;rw[lu,cY]at h;rcases ei.1 hx with rfl|hx;{
 intro c zK;have:=h.1;unfold wM at this;rw[xK]at this;rcases this with this|this;{unfold jx at this;rw[cY,vT]at this;exact au9 (this.2 c zK)};{
 simp only[cY,fe]at this;rw[this.1.2]at zK;obtain rfl:c=42:=by simpa using zK
 rfl}};{exact ih (i+1) h.2 x hx}}};rcases Ve _ n c0 aA hc with h|⟨l,h1,h2⟩;{rw[h];rfl};{exact key _ 0 hh.2 l h1 c0 h2}};{cases h}
theorem Js{x:ah}(h:dr x=true):vN x where
 ne:=(gU h).1
 p:=P5 h
 low:=ahB (star:=false) (by rw[zJ];exact h)
theorem au_{x:ah}(h:iC x=true):vN x where
 ne:=(Dq h).1
 p:=P6 h
 low:=ahB (star:=true) (by rw[KS];exact h)
def cX(r:ai):List dU :=
 if r.type=1 then(nK ((az 46 r.data).map iT)).map jJ
 else if r.type=16 then D8 r.data
 else if r.type=15 then BV (iT (ey r 0)) (ey r 1)
 else if r.type=6 then BU (ey r 0) (ey r 1) (iT (ey r 2)) (iT (ey r 3))
 else [xn r.data]
theorem ahC{m:Nat}(hm:m<=4294967295):∀(l:ah) (n v:Nat),n<=m->nS m n l=some v->Lib.parseUintM (2 ^ 64 - 1) n l=.ok v
 | [],n,v,_,h=>by simp[nS]at h;rw[h];rfl
 | c :: r,n,v,hn,h=>by unfold nS at h;split at h;{rename_i hd;split at h;{rename_i hle;simp only[rN,cY,tj]at hd;unfold Lib.parseUintM;rw[aJ ae,aF ae,aF ae,CE n 10];exact ahC hm r _ v hle h};{cases h}};{cases h}
theorem Ry{m:Nat}(hm:m<=4294967295){x:ah}(h:dz m x=true):Lib.parseUintB 64 x=.ok (iT x):=by
 have h2:=(En hm h).1;unfold dz at h2;obtain⟨v,hv⟩:=Option.isSome_iff_exists.1 h2;have hn:iT x=v:=by unfold iT iY;rw[hv];rfl
 rw[hn];unfold tq at hv;cases x with
 | nil=>cases hv
 | cons c r =>{simp only at hv;split at hv;{cases hv};{unfold Lib.parseUintB;rw[aF ar];exact ahC ae _ 0 v ae hv}}
structure Jt(r:ai):Prop where
 own:r.owner.length<=300
 aG:r.aG<4294967296
 dat:cE r.type (az 32 r.data)=true
 len:r.data.length<=3000
theorem ahD(r:ai):gq 32 (aq r.data)=(az 32 r.data).map aq:=by
 have h:=wo 32 (aq r.data);have hb:(aq r.data).data.toList=r.data:=by simp[aq]
 rw[hb]at h;rw[<- h,kY];have:∀x∈gq 32 (aq r.data),(aq ∘ fun x=>x.data.toList) x=id x:=fun x _=>by simp[aq]
 rw[oB this,EP]
theorem Rz{r:ai}(h:Jt r):pH r (cX r):=by
 have ht:=Dp h.dat;have hd:=h.dat;rcases ht with ht|ht|ht|ht|ht|ht;all_goals rw[ht]at hd
 all_goals unfold cX
 {rw[aJ ht];obtain⟨a,bT,hall,hl4⟩:=X5 hd;have Yd:=wY bT;refine atN r _ h.own ht h.aG h.len ?_ ?_ ?_ ?_;{unfold Mk;rw[Yd,kY];exact oB fun y hy=>Ry (m:=255) ae (vT.1 hall y hy)};{unfold nK;rw[Yd];intro hc;have:=dE List.length hc;simp[hl4]at this};{unfold nK;rw[Yd];simp[hl4]};{intro f hf;unfold nK at hf;obtain⟨u,_,rfl⟩:=jZ.1 hf;exact I4 _}};{rw[aF ae,aF ae,aF ae,aF ae];obtain⟨a,bT,hp⟩:=Ch (t:=2) (.inl rfl) hd;have:=(gU hp).2;exact ags r h.own (.inl ht) h.aG (by rw[wY bT];omega)};{rw[aF ae,aF ae,aF ae,aF ae];obtain⟨a,bT,hp⟩:=Ch (t:=5) (.inr rfl) hd;have:=(gU hp).2;exact ags r h.own (.inr ht) h.aG (by rw[wY bT];omega)};{
 rw[aF ae,aF ae,aF ae,aJ ht];obtain⟨a,b,c,d,bT,G1,lU,hc,hdd⟩:=MK hd;have h0:ey r 0=a:=by unfold ey;rw[bT];rfl
 have h1:ey r 1=b:=by unfold ey;rw[bT];rfl
 have h2:ey r 2=c:=by unfold ey;rw[bT];rfl
 have h3:ey r 3=d:=by unfold ey;rw[bT];rfl
 have hlen:∀y∈az 32 r.data,y.length<=3000:=fun y hy=>a_ (qK 32 _ r.data aA y hy) h.len;have l0:=(gU G1).2;have l1:=(gU lU).2;rw[h0,h1,h2,h3];exact atP r h.own ht h.aG h.len a b c d _ _ (by rw[ahD,bT];rfl) (Ry (m:=4294967295) ae hc) (Ry (m:=86400) ae hdd) ae ae (hlen c (by rw[bT];simp)) (hlen d (by rw[bT];simp))};{
 rw[aF ae,aF ae,aJ ht];obtain⟨a,b,bT,ha,lU⟩:=ML hd;have h0:ey r 0=a:=by unfold ey;rw[bT];rfl
 have h1:ey r 1=b:=by unfold ey;rw[bT];rfl
 have hlen:∀y∈az 32 r.data,y.length<=3000:=fun y hy=>a_ (qK 32 _ r.data aA y hy) h.len;have l1:=(gU lU).2;rw[h0,h1];exact atS r h.own ht h.aG h.len a b _ (by rw[ahD,bT];rfl) (Ry (m:=65535) ae ha) (hlen a (by rw[bT];simp)) ae};{rw[aF ae,aJ ht];exact atQ r h.own ht h.aG h.len}
theorem ahE:∀(fs:List nG) (l:ah) (ps:cI),eU (fs.map jJ) l ps=(l++fs.flatMap (·.out),ps)
 | [],l,ps=>by simp[eU]
 | f :: fs,l,ps=>by rw[jL,QP];show eU (fs.map jJ) (l++f.out) ps=_;rw[ahE fs,iV,fP]
theorem ahF:∀(us:List Nat),(nK us).flatMap (·.out)=us.map UInt8.ofNat
 | []=>rfl
 | u :: us=>by show _ :: (nK us).flatMap (·.out)=_;rw[ahF us];rfl
theorem ahG{h1 h2 S:ah}{es:dN}{l:ah}{ps:cI}(hl:h1.length=h2.length){r:ai}(h:Jt r)(e:kW h1 h2 S es l ps):kW h1 h2 (dg (dO r) S es).1 (dg (dO r) S es).2 (eU (cX r) l ps).1 (eU (cX r) l ps).2:=by
 have ht:=Dp h.dat;have hd:=h.dat;rcases ht with ht|ht|ht|ht|ht|ht;all_goals rw[ht]at hd
 all_goals unfold cX dO
 {rw[aJ ht,aJ ht,ahE,ahF,kY];exact e.app _};{
 rw[aF ae,aF ae,aF ae,aF ae,aF ae,aF ae,aF ae,aF ae];obtain⟨a,bT,hp⟩:=Ch (t:=2) (.inl rfl) hd;have h0:ey r 0=r.data:=by unfold ey;rw[bT,wY bT];rfl
 rw[h0];exact G0 hl _ r.data S es l ps aA (Js (by rw[wY bT];exact hp)) e};{
 rw[aF ae,aF ae,aF ae,aF ae,aF ae,aF ae,aF ae,aF ae];obtain⟨a,bT,hp⟩:=Ch (t:=5) (.inr rfl) hd;have h0:ey r 0=r.data:=by unfold ey;rw[bT,wY bT];rfl
 rw[h0];exact G0 hl _ r.data S es l ps aA (Js (by rw[wY bT];exact hp)) e};{
 rw[aF ae,aF ae,aF ae,aJ ht,aF ae,aF ae,aF ae,aJ ht];obtain⟨a,b,c,d,bT,G1,lU,hc,hdd⟩:=MK hd;have g0:ey r 0=a:=by unfold ey;rw[bT];rfl
 have g1:ey r 1=b:=by unfold ey;rw[bT];rfl
 have g2:ey r 2=c:=by unfold ey;rw[bT];rfl
 have g3:ey r 3=d:=by unfold ey;rw[bT];rfl
 rw[g0,g1,g2,g3];have n2:=(En (m:=4294967295) ae hc).2;have n3:=(En (m:=86400) ae hdd).2;have e1:=G0 hl _ a S es l ps aA (Js G1) e;have e2:=G0 hl _ b _ _ _ _ aA (Js lU) e1;have e3:=e2.app (fc (iT c)++fc 3600++fc 600++fc 86400++fc (iT d));unfold BU;rw[SY ae,SY ae];simp only[QP,afs,jJ,xn,yI];simp only[fP]at e3 ⊢;exact e3};{
 rw[aF ae,aF ae,aJ ht,aF ae,aF ae,aJ ht];obtain⟨a,b,bT,ha,lU⟩:=ML hd;have g0:ey r 0=a:=by unfold ey;rw[bT];rfl
 have g1:ey r 1=b:=by unfold ey;rw[bT];rfl
 rw[g0,g1];have n0:=(En (m:=65535) ae ha).2;have e1:=e.app [ax (iT a),bO (iT a)];have e2:=G0 hl _ b _ _ _ _ aA (Js lU) e1;unfold BV;rw[SY ae];exact e2};{rw[aF ae,aJ ht,aF ae,aJ ht];have e1:=e.app (UInt8.ofNat r.data.length :: r.data);unfold D8;simp only[QP,afs,jJ,oW,nH,fP];exact e1}
theorem ava(L:ah)(n k:Nat)(h:n+2<=L.length):BQ L n k=L.take n++[ax k,bO k]++L.drop (n+2):=by
 have hs:L=L.take n++(L.drop n):=(j9 n L).symm;have hlen:(L.take n).length=n:=by rw[gD];omega
 obtain⟨a,eP⟩:∃a,L.drop n=a :: L.drop (n+1):=⟨L[n],ko ae⟩;obtain⟨b,oI⟩:∃b,L.drop (n+1)=b :: L.drop (n+2):=⟨L[n+1],ko ae⟩;rw[eP,oI]at hs;unfold BQ;conv=>lhs;rw[hs]
 rw[AA _ _ ae,hlen,rJ,eC,AA _ _ ae,hlen,ZX,eX,eC,fP];rfl
theorem kW.put{h1 h2 S:ah}{es:dN}{l:ah}{ps:cI}(h:kW h1 h2 S es l ps)(hl:h1.length=h2.length)(n:Nat)(hn:h1.length<=n)(x:ah):kW h1 h2 (S.take n++x++S.drop (n+2)) es (l.take n++x++l.drop (n+2)) ps:=by obtain⟨t,rfl,rfl⟩:=h.same;refine⟨⟨t.take (n - h1.length)++x++t.drop (n+2 - h1.length),?_,?_⟩,h.pl⟩;{rw[List.take_append,pd hn,List.drop_append,NJ ae];simp only[fP,gb]};{rw[List.take_append,pd ae,List.drop_append,NJ ae,hl];simp only[fP,gb]}
theorem ahH:∀(ls:List ah) (S:ah) (es:dN),S.length<=(bB ls S es).1.length
 | [],S,es=>by simp[bB]
 | x :: t,S,es=>by
  cases hf:jv (cC (x :: t)) es with
  | some n=>rw[Ea hf];simp
  | none =>{rw[yM hf];have:=ahH t (S++(UInt8.ofNat x.length :: x)) (es++[(cC (x :: t),S.length)]);rw[bj]at this;omega}
theorem Ye:∀(p:Ak) (S:ah) (es:dN),S.length<=(dg p S es).1.length
 | [],S,es=>bH _
 | .inl b :: t,S,es=>by have:=Ye t (S++b) es;rw[bj]at this;show S.length<=(dg t (S++b) es).1.length;omega
 | .inr x :: t,S,es=>a_ (ahH _ S es) (Ye t _ _)
theorem avb{h1 h2 S:ah}{es:dN}{l:ah}{ps:cI}(hl:h1.length=h2.length){r:ai}(h:Jt r){ls:List ah}(f_:(∃n,jI ps r.owner=some n/\r.owner≠[]/\cC ls=aT r.owner)\/(vN r.owner/\ls=az 46 r.owner))(e:kW h1 h2 S es l ps) :
  kW h1 h2 (mQ r ls S es).1 (mQ r ls S es).2 (iP r (cX r) l ps).1 (iP r (cX r) l ps).2:=by have e1:kW h1 h2 (bB ls S es).1 (bB ls S es).2 (gO (cg r.owner) l ps).1 (gO (cg r.owner) l ps).2:=by{rcases f_ with⟨n,hf,hne,hlo⟩|⟨hlo,rfl⟩;{exact e.hit hne hlo hf};{exact G0 hl _ r.owner S es l ps aA hlo e}};have r1:(mQ r ls S es).1=(dg (dO r) (jV r (bB ls S es).1) (bB ls S es).2).1.take ((jV r (bB ls S es).1).length - 2)++[ax ((dg (dO r) (jV r (bB ls S es).1) (bB ls S es).2).1.length - (jV r (bB ls S es).1).length),bO ((dg (dO r) (jV r (bB ls S es).1) (bB ls S es).2).1.length - (jV r (bB ls S es).1).length)]++(dg (dO r) (jV r (bB ls S es).1) (bB ls S es).2).1.drop (jV r (bB ls S es).1).length:=rfl;have r2:(mQ r ls S es).2=(dg (dO r) (jV r (bB ls S es).1) (bB ls S es).2).2:=rfl;rw[r1,r2];generalize bB ls S es=N at e1 ⊢;have hst:iP r (cX r) l ps=BR (cX r) ((gO (cg r.owner) l ps).1++[ax r.type.toNat,bO r.type.toNat]++[ax 1,bO 1]++fc r.aG) (gO (cg r.owner) l ps).2:=rfl;rw[hst];generalize gO (cg r.owner) l ps=C at e1 ⊢;have e2:=((e1.app [ax r.type.toNat,bO r.type.toNat]).app [ax 1,bO 1]).app (fc r.aG);have hh:jV r N.1=(N.1++[ax r.type.toNat,bO r.type.toNat]++[ax 1,bO 1]++fc r.aG)++[0,0]:=rfl;rw[hh];unfold BR;generalize N.1++[ax r.type.toNat,bO r.type.toNat]++[ax 1,bO 1]++fc r.aG=A at e2 ⊢;generalize C.1++[ax r.type.toNat,bO r.type.toNat]++[ax 1,bO 1]++fc r.aG=L at e2 ⊢;have e3:=ahG hl h (e2.app [0,0]);have hm:=Ye (dO r) (A++[0,0]) N.2;generalize dg (dO r) (A++[0,0]) N.2=D at e3 hm ⊢;generalize eU (cX r) (L++[0,0]) C.2=M at e3 ⊢;have hA:(A++[0,0]).length=A.length+2:=ar;have avc:=e2.len hl;have avd:=e3.len hl;have hge:h1.length<=A.length:=by{obtain⟨t,rfl,_⟩:=e2.same;simp};rw[hA]at hm ⊢;rw[ava M.1 L.length _ ae,SV,avd,<- avc];exact e3.put hl A.length hge _
abbrev bA:=Value×Value×ai×List ah
def ji(x:bA):List Value:=[x.1,aj x.2.2.1.aG,aj x.2.2.1.type,ay x.2.2.1.data,x.2.1]
def oZ(gs:List (List bA))(x:bA):List (List bA):=match gs.getLast? with
 | some (y :: t)=>if y.2.2.2=x.2.2.2/\y.2.2.1.type=x.2.2.1.type then gs.dropLast++[(y :: t)++[x]]else gs++[[x]]
 | _=>gs++[[x]]
def gP(xs:List bA):List (List bA):=xs.foldl oZ []
theorem ave(xs:List bA)(i:Nat)(h:i<xs.length):gP (xs.take (i+1))=oZ (gP (xs.take i)) xs[i]:=by unfold gP;rw[gp h,Ax];rfl
theorem avf(x:bA):oZ [] x = [[x]]:=rfl
theorem ahI(gs:List (List bA))(y:bA)(t:List bA)(x:bA)(h:y.2.2.2=x.2.2.2/\y.2.2.1.type=x.2.2.1.type):oZ (gs++[y :: t]) x=gs++[(y :: t)++[x]]:=by unfold oZ;rw[List.getLast?_concat];simp only[aJ h,List.dropLast_concat]
theorem ahJ(gs:List (List bA))(y:bA)(t:List bA)(x:bA)(h:¬(y.2.2.2=x.2.2.2/\y.2.2.1.type=x.2.2.1.type)):oZ (gs++[y :: t]) x=(gs++[y :: t])++[[x]]:=by unfold oZ;rw[List.getLast?_concat];simp only[aF h]
theorem avg{gs:List (List bA)}{x:bA}{g:List bA}(h:g∈oZ gs x):g∈gs\/g = [x]\/∃g0∈gs,g=g0++[x]:=by unfold oZ at h;split at h;{rename_i y t hl;split at h;{rcases gm.1 h with h|h;{exact .inl ((List.dropLast_sublist gs).subset h)};{exact .inr (.inr ⟨y :: t,List.mem_of_getLast? hl,by simpa using h⟩)}};{rcases gm.1 h with h|h;{exact .inl h};{exact .inr (.inl (by simpa using h))}}};{rcases gm.1 h with h|h;{exact .inl h};{exact .inr (.inl (by simpa using h))}}
theorem Yf:∀(xs:List bA) (gs:List (List bA)) (p:bA->Prop) (N:Nat),(∀g∈gs,(∀x∈g,p x)/\g.length<=N)->(∀x∈xs,p x)->∀g∈xs.foldl oZ gs,(∀x∈g,p x)/\g.length<=N+xs.length
 | [],gs,p,N,h,_=>h
 | x :: xs,gs,p,N,h,hx=>by have hs:=Yf xs (oZ gs x) p (N+1) (fun g hg=>by{rcases avg hg with h1|h1|⟨g0,h1,h2⟩;{exact⟨(h g h1).1,a_ (h g h1).2 ae⟩};{rw[h1];exact⟨fun y hy=>by rw[vY]at hy;rw[hy];exact hx x ar,ar⟩};{rw[h2];refine⟨fun y hy=>?_,by rw[bj];have:=(h g0 h1).2;simp;omega⟩;rcases gm.1 hy with hy|hy;{exact(h g0 h1).1 y hy};{rw[vY]at hy;rw[hy];exact hx x ar}}}) (fun y hy=>hx y (by simp[hy]));intro g hg;have:=hs g hg;rw[bP];exact⟨this.1,ae⟩
theorem MT(xs:List bA)(g:List bA)(h:g∈gP xs):∀x∈g,x∈xs:=(Yf xs [] (·∈xs) 0 (fun g hg=>by cases hg) (fun x hx=>hx) g h).1
theorem avh(xs:List bA)(g:List bA)(h:g∈gP xs):g.length<=xs.length:=by have:=(Yf xs [] (·∈xs) 0 (fun g hg=>by cases hg) (fun x hx=>hx) g h).2;omega
def gY(w:World)(v:Value)(xs:List bA):Prop:=(v=aH/\xs = [])\/∃g off cap,v=aD g off xs.length cap/\xs.length<=cap/\g<w.heap.size /\
 ∀j (h:j<xs.length),w.cell? (ak g (off+j*5))=some xs[j].1/\w.cell? (ak g (off+j*5+1))=some (aj xs[j].2.2.1.aG)/\w.cell? (ak g (off+j*5+2))=some (aj xs[j].2.2.1.type)/\w.cell? (ak g (off+j*5+3))=some (.string (aq xs[j].2.2.1.data))/\w.cell? (ak g (off+j*5+4))=some xs[j].2.1
theorem gY.below{w w':World}{v:Value}{xs:List bA}(h:gY w v xs)(hb:au w w'):gY w' v xs:=by rcases h with h|⟨g,off,cap,h1,h2,h3,h4⟩;{exact .inl h};{have k:∀(a:Addr) (u:Value),w.cell? a=some u->w'.cell? a=some u:=fun a u h=>(hb.cell (iz w a h)).trans h;exact .inr ⟨g,off,cap,h1,h2,dP h3 hb.size,fun j hj=>⟨k _ _ (h4 j hj).1,k _ _ (h4 j hj).2.1,k _ _ (h4 j hj).2.2.1,k _ _ (h4 j hj).2.2.2.1,k _ _ (h4 j hj).2.2.2.2⟩⟩}
theorem MU:∀(xs:List bA) (j:Nat) (h:j<xs.length) (k:Nat),k<5->(xs.flatMap ji)[j*5+k]? = (ji xs[j])[k]?
 | [],j,h,_,_=>by simp at h
 | x :: xs,0,_,k,hk=>by rw[iV,rK,eY,EO (by show k<5;exact hk)];rfl
 | x :: xs,j+1,h,k,hk=>by
  have h':j<xs.length:=by simp at h;omega
  rw[iV,y_ (by show 5<=_;omega)];have:(j+1)*5+k - (ji x).length=j*5+k:=by show(j+1)*5+k - 5=_;omega
  rw[this,MU xs j h' k hk];rfl
theorem RA{w:World}{base:Nat}{v:Value}{xs:List bA}(h:w.ownsRow base 119 5 v xs.length (xs.flatMap ji)):gY w v xs:=by rcases h.2 with⟨rfl,h0⟩|⟨g,cap,cur,rfl,hg,aZ,dt,hmx,hsz,ja⟩;{exact .inl ⟨rfl,fp h0⟩};{refine .inr ⟨g,0,cap,rfl,dt,(bV.1 aZ).1,fun j hj=>?_⟩;have hc:∀k,k<5->w.cell? (ak g (0+j*5+k))=(ji xs[j])[k]?:=by{intro k hk;have h1:=MU xs j hj k hk;rw[<- ja,ze ae]at h1;rw[eY,<- h1];unfold World.cell?;rw[aZ];simp};exact⟨hc 0 ae,hc 1 ae,hc 2 ae,hc 3 ae,hc 4 ae⟩}
structure qD(w:World)(base:Nat)(v:Value)(ps:List (Value×List bA)):Prop where
 own:w.ownsRow base 115 1 v ps.length (ps.map (·.1))
 rA:∀p∈ps,w.ownsRow base 119 5 p.1 p.2.length (p.2.flatMap ji)/\p.2≠[]
 Yg:ps.Pairwise fun p q=>p.1.ownBlock≠q.1.ownBlock
 aw:∀p∈ps,p.1.ownBlock≠v.ownBlock
theorem qD.nil(w:World)(base:Nat):qD w base (aH) []:=⟨ia w base _ 1,fun p hp=>(by cases hp),.nil,fun p hp=>(by cases hp)⟩
theorem qD.below{w w':World}{base:Nat}{v:Value}{ps:List (Value×List bA)}(h:qD w base v ps)(hb:au w w'):qD w' base v ps:=⟨ic h.own hb,fun p hp=>⟨ic (h.rA p hp).1 hb,(h.rA p hp).2⟩,h.Yg,h.aw⟩
def Ju(w:World)(base:Nat)(v:Value)(gs:List (List bA)):Prop:=(v=aH/\gs = [])\/∃g cap,v=aD g 0 gs.length cap/\gs.length<=cap/\g<w.heap.size/\base<=g/\∀j (h:j<gs.length),gs[j]≠[]/\∃u,w.cell? (ak g j)=some u/\gY w u gs[j]/\∀k,u.ownBlock=some k->base<=k
theorem gY.fr{p:Nat->Prop}{w w':World}{v:Value}{xs:List bA}(h:gY w v xs)(hf:bn p w w')(hp:∀g,v.ownBlock=some g->p g):gY w' v xs:=by rcases h with h|⟨g,off,cap,h1,h2,h3,h4⟩;{exact .inl h};{have hb:w'.heap[g]? = w.heap[g]?:=hf.block g h3 (hp g (by rw[h1];rfl));have k:∀(o:Nat) (u:Value),w.cell? (ak g o)=some u->w'.cell? (ak g o)=some u:=fun o u hu=>(dh (a:=⟨g,o,none⟩) hb).trans hu;refine .inr ⟨g,off,cap,h1,h2,dP h3 hf.size,fun j hj=>?_⟩;obtain⟨k0,k1,k2,k3,k4⟩:=h4 j hj;exact⟨k _ _ k0,k _ _ k1,k _ _ k2,k _ _ k3,k _ _ k4⟩}
theorem Ju.fr{p:Nat->Prop}{w w':World}{base:Nat}{v:Value}{gs:List (List bA)}(h:Ju w base v gs)(hf:bn p w w')(hp:∀k,base<=k->p k):Ju w' base v gs:=by rcases h with h|⟨g,cap,h1,h2,h3,h5,h4⟩;{exact .inl h};{refine .inr ⟨g,cap,h1,h2,dP h3 hf.size,h5,fun j hj=>?_⟩;obtain⟨hn,u,hu,hr,hk⟩:=h4 j hj;exact⟨hn,u,(dh (a:=⟨g,j,none⟩) (hf.block g h3 (hp g h5))).trans hu,hr.fr hf (fun k gF=>hp k (hk k gF)),hk⟩}
theorem qD.at{w:World}{base:Nat}{v:Value}{ps:List (Value×List bA)}(h:qD w base v ps):Ju w base v (ps.map (·.2)):=by
 rcases h.own.2 with⟨rfl,h0⟩|⟨g,cap,cur,rfl,hg,aZ,dt,hmx,hsz,ja⟩;{exact .inl ⟨rfl,by rw[fp h0];rfl⟩};{
 refine .inr ⟨g,cap,by rw[bY],by rw[bY];exact dt,(bV.1 aZ).1,hg,fun j hj=>?_⟩;rw[bY]at hj;have hm:=h.rA ps[j] (cM hj);rw[vW];refine⟨hm.2,ps[j].1,?_,RA hm.1,fun k hk=>(hm.1.lt k hk).1⟩;have h1:(ps.map (·.1))[j]? = some ps[j].1:=by simp[hj]
 rw[<- ja,ze ae]at h1;unfold World.cell?;rw[aZ];simpa using h1}
section
variable {w w2 w3:World} {base:Nat} {v vl u v':Value} {ps:List (Value×List bA)} {gl:List bA} {x:bA}
theorem qD.avi{go cap:Nat}(h:qD w base v (ps++[(vl,gl)]))(hv:v=aD go 0 (ps.length+1) cap)(hg:w.grownBy w2 vl.ownBlock)(ho:w2.ownsRow base 119 5 v' (gl.length+1) (gl.flatMap ji++ji x))(hat:v'.ownBlock=vl.ownBlock\/v'.ownBlock=some w.heap.size) :
  qD (w2.setCell ⟨go,ps.length,none⟩ v') base v (ps++[(v',gl++[x])])/\∀n,n<=base->Below n w w2->Below n w (w2.setCell ⟨go,ps.length,none⟩ v'):=by
 have jc:(vl,gl)∈ps++[(vl,gl)]:=ar;have ahK:=h.aw _ jc;have h1:=h.own.kept hg (.inr (Ht ahK));have hlt:=h.own.lt;rw[bj,gJ]at h1;have uO:v.ownBlock=some go:=by rw[hv];rfl
 have hgo:=hlt go uO;have h2:=World.ownsRow.stored (g:=go) (n:=ps.length+1) (cap:=cap) (by rw[hv]at h1;exact h1) ps.length v';have eN:(ps.map (·.1)++[(vl,gl)].map (·.1)).set ps.length v'=(ps++[(v',gl++[x])]).map (·.1):=by{rw[AA _ _ ar];simp};rw[eN]at h2;have Im:=oC.1 h.Yg;have hpl:∀p∈ps,p.1.ownBlock≠vl.ownBlock:=fun p hp=>Im.2.2 p hp (vl,gl) ar;have hnew:∀(q:Value×List bA),q∈ps++[(vl,gl)]->q.1.ownBlock≠some w.heap.size:=fun q hq e=>by{have:=((h.rA q hq).1.lt _ e).2;omega};have avj:v.ownBlock≠some w.heap.size:=fun e=>by have:=(hlt _ e).2;omega
 have hv':v'.ownBlock≠v.ownBlock:=fun e=>by{rcases hat with h3|h3;{exact ahK (h3.symm.trans e)};{exact avj (e.symm.trans h3)}};have hp':∀p∈ps,p.1.ownBlock≠v'.ownBlock:=fun p hp e=>by{rcases hat with h3|h3;{exact hpl p hp (e.trans h3)};{exact hnew p (by simp[hp]) (e.trans h3)}};refine⟨⟨?_,?_,?_,?_⟩,?_⟩;{rw[hv,bj];exact h2.1};{intro p hp;rcases gm.1 hp with hp|hp;{have h4:=h.rA p (by simp[hp]);exact⟨(h4.1.kept hg (.inr (hpl p hp))).kept h2.2 (.inr (by rw[<- uO];exact h.aw p (by simp[hp]))),h4.2⟩};{simp only[vY]at hp;subst hp;refine⟨?_,ar⟩;have h5:=ho.kept h2.2 (.inr (by rw[<- uO];exact hv'));rw[bj,sZ];simpa using h5}};{refine oC.2 ⟨Im.1,.cons (fun _ h=>by cases h) .nil,fun p hp q hq=>?_⟩;simp only[vY]at hq;subst hq;exact hp' p hp};{intro p hp;rcases gm.1 hp with hp|hp;{exact h.aw p (by simp[hp])};{simp only[vY]at hp;subst hp;exact hv'}};{intro n hn hb;exact hb.setCell (p:=⟨go,ps.length,none⟩) (by show n<=go;omega) _}
theorem qD.ahL(h:qD w base v ps)(hb:au w w2)(hu:w2.ownsRow base 119 5 u 1 (ji x))(G2:u.ownBlock=some w.heap.size)(hg:w2.grownBy w3 v.ownBlock)(ho:w3.ownsRow base 115 1 v' (ps.length+1) (ps.map (·.1)++[u]))(hat:v'.ownBlock=v.ownBlock\/v'.ownBlock=some w2.heap.size) :
  qD w3 base v' (ps++[(u,[x])]):=by
 have hlt:=h.own.lt;have aBa:=(hu.lt _ G2).2;have lU:∀p∈ps,∀k,p.1.ownBlock=some k->k<w.heap.size:=fun p hp k e=>((h.rA p hp).1.lt k e).2;have ahM:u.ownBlock≠v.ownBlock:=fun e=>by have:=(hlt _ (e.symm.trans G2)).2;omega
 have avk:∀p∈ps,p.1.ownBlock≠v'.ownBlock:=fun p hp e=>by{rcases hat with h3|h3;{exact h.aw p hp (e.trans h3)};{have:=lU p hp _ (e.trans h3);have:=hb.size;omega}};refine⟨?_,?_,?_,?_⟩;{rw[bj,gJ];exact ho};{intro p hp;rcases gm.1 hp with hp|hp;{have h4:=h.rA p hp;exact⟨(ic h4.1 hb).kept hg (.inr (h.aw p hp)),h4.2⟩};{simp only[vY]at hp;subst hp;refine⟨?_,ar⟩;have h5:=hu.kept hg (.inr ahM);simpa using h5}};{refine oC.2 ⟨h.Yg,.cons (fun _ h=>by cases h) .nil,fun p hp q hq=>?_⟩;simp only[vY]at hq;subst hq;intro e;have:=lU p hp _ (e.trans G2);omega};{
 intro p hp;rcases gm.1 hp with hp|hp;{exact avk p hp};{
 simp only[vY]at hp;subst hp;intro e;rcases hat with h3|h3;{exact ahM (e.trans h3)};{
 have:=G2.symm.trans (e.trans h3);have h6:w.heap.size=w2.heap.size:=by simpa using this
 omega}}}
end
theorem ahN:prog.underlying 231=some (.slice 115):=aI
theorem avl:(prog.info? 115).map (fun i=>(i.zero,i.size,i.bytes))=some (some (aH),1,24):=aI
theorem ahO(W:World)(b:Nat)(hb:b=W.heap.size)(x:Value)(t:TypeId):∀(j:Nat) (u:Value),[x][j]? = some u->(W.alloc (.cells #[x] t)).cell? (((ak b 0):Addr).add j)=some u:=fun j u hj=>by
 have hn:=World.alloc_heap_new W (.cells #[x] t);rw[<- hb]at hn
 match j,hj with
 | 0,hj=>simp at hj;subst hj;simp[Addr.add,World.cell?,hn]
 | n+1,hj=>simp at hj
theorem avm(W:World)(b:Nat)(hb:b=W.heap.size)(x y z p q:Value)(t:TypeId):∀(j:Nat) (u:Value),[x,y,z,p,q][j]? = some u->(W.alloc (.cells #[x,y,z,p,q] t)).cell? (((ak b 0):Addr).add j)=some u:=fun j u hj=>by
 have hn:=World.alloc_heap_new W (.cells #[x,y,z,p,q] t);rw[<- hb]at hn
 match j,hj with
 | 0,hj=>simp at hj;subst hj;simp[Addr.add,World.cell?,hn]
 | 1,hj=>simp at hj;subst hj;simp[Addr.add,World.cell?,hn]
 | 2,hj=>simp at hj;subst hj;simp[Addr.add,World.cell?,hn]
 | 3,hj=>simp at hj;subst hj;simp[Addr.add,World.cell?,hn]
 | 4,hj=>simp at hj;subst hj;simp[Addr.add,World.cell?,hn]
 | n+5,hj=>simp at hj
def jW(ns:List ah):Nat:=(ns.map fun x=>x.length+1).sum
theorem Et(x:ah)(t:List ah):jW (x :: t)=x.length+1+jW t:=by simp[jW]
theorem Eu:∀ns:List ah,ns.length<=jW ns
 | []=>bH _
 | x :: t=>by have:=Eu t;rw[Et,bP];omega
theorem RB:∀(f:Nat) (x:ah),x.length<=f->jW (az 46 x)=x.length+1
 | f,x,h=>by
  rcases oJ 46 x with⟨h1,e⟩|⟨a,b,e0,h1,e⟩;{rw[e];simp[jW]};{
  match f,h with
  | 0,h=>rw[e0]at h;simp at h
  | f+1,h =>{rw[e,Et,RB f b (by rw[e0]at h;simp at h;omega),e0];simp;omega}}
theorem Ev:∀(ns:List ah) (S:ah) (es:dN),S.length<=(bB ns S es).1.length/\(bB ns S es).1.length<=S.length+jW ns+2/\es.length<=(bB ns S es).2.length/\(bB ns S es).2.length<=es.length+ns.length
 | [],S,es=>by simp[bB];omega
 | x :: t,S,es=>by
  cases hf:jv (cC (x :: t)) es with
  | some n=>rw[Ea hf];simp
  | none =>{rw[yM hf,Et];have:=Ev t (S++(UInt8.ofNat x.length :: x)) (es++[(cC (x :: t),S.length)]);simp only[bj,bP,fy]at this ⊢;omega}
theorem RD:∀(ns:List ah) (S:ah) (es:dN),S.length+jW ns<=1000000->ns.length<=1000->(∀e∈es,e.1.length<=1000/\e.2<=1000000)->∀e∈(bB ns S es).2,e.1.length<=1000/\e.2<=1000000
 | [],S,es,_,_,h=>h
 | x :: t,S,es,h1,h2,h=>by
  cases hf:jv (cC (x :: t)) es with
  | some n=>rw[Ea hf];exact h
  | none =>{rw[yM hf];rw[Et]at h1;rw[bP]at h2;refine RD t _ _ (by simp only[bj,bP];omega) ae fun e he=>?_;rcases gm.1 he with he|he;{exact h e he};{simp only[vY]at he;subst he;exact⟨by rw[uk,bP];exact h2,by show S.length<=_;omega⟩}}
def oz:Ak->Nat
 | []=>0
 | .inl b :: t=>b.length+oz t
 | .inr x :: t=>x.length+3+oz t
theorem RF:∀(p:Ak) (S:ah) (es:dN),S.length<=(dg p S es).1.length/\(dg p S es).1.length<=S.length+oz p/\(dg p S es).2.length<=es.length+oz p
 | [],S,es=>by simp[dg,oz]
 | .inl b :: t,S,es=>by have:=RF t (S++b) es;rw[bj]at this;show _<=(dg t (S++b) es).1.length/\(dg t (S++b) es).1.length<=S.length+(b.length+oz t)/\(dg t (S++b) es).2.length<=es.length+(b.length+oz t);omega
 | .inr x :: t,S,es=>by have h1:=Ev (az 46 x) S es;have h2:=RF t (bB (az 46 x) S es).1 (bB (az 46 x) S es).2;have h3:=RB _ x aA;have h4:=Eu (az 46 x);show _<=(dg t (bB (az 46 x) S es).1 (bB (az 46 x) S es).2).1.length/\(dg t (bB (az 46 x) S es).1 (bB (az 46 x) S es).2).1.length<=S.length+(x.length+3+oz t)/\(dg t (bB (az 46 x) S es).1 (bB (az 46 x) S es).2).2.length<=es.length+(x.length+3+oz t);omega
theorem Yh:∀(p:Ak) (S:ah) (es:dN),S.length+oz p<=900000->oz p<=900->(∀e∈es,e.1.length<=1000/\e.2<=1000000)->∀e∈(dg p S es).2,e.1.length<=1000/\e.2<=1000000
 | [],S,es,_,_,h=>h
 | .inl b :: t,S,es,h1,h2,h=>by simp only[oz]at h1 h2;exact Yh t (S++b) es (by rw[bj];omega) ae h
 | .inr x :: t,S,es,h1,h2,h=>by simp only[oz]at h1 h2;have h3:=RB _ x aA;have h4:=Eu (az 46 x);have h5:=Ev (az 46 x) S es;exact Yh t _ _ ae ae (RD _ S es ae ae h)
structure Jv(x:bA):Prop where
 dat:cE x.2.2.1.type (az 32 x.2.2.1.data)=true
 aG:x.2.2.1.aG<4294967296
 len:x.2.2.1.data.length<=3000
 ne:x.2.2.2≠[]
 lab:∀y∈x.2.2.2,y.length<=255
 sum:jW x.2.2.2<=300
theorem ahP{r:ai}(hd:cE r.type (az 32 r.data)=true):oz (dO r)<=300:=by
 have ht:=Dp hd;rcases ht with ht|ht|ht|ht|ht|ht;all_goals rw[ht]at hd
 all_goals unfold dO
 {obtain⟨a,bT,hall,hl4⟩:=X5 hd;rw[aJ ht,wY bT];simp[oz,hl4]};{obtain⟨a,bT,hp⟩:=Ch (t:=2) (.inl rfl) hd;have:=(gU hp).2;rw[aF ae,aF ae,aF ae,aF ae];simp[oz,ey,bT];omega};{obtain⟨a,bT,hp⟩:=Ch (t:=5) (.inr rfl) hd;have:=(gU hp).2;rw[aF ae,aF ae,aF ae,aF ae];simp[oz,ey,bT];omega};{obtain⟨a,b,c,d,bT,G1,lU,_,_⟩:=MK hd;have:=(gU G1).2;have:=(gU lU).2;rw[aF ae,aF ae,aF ae,aJ ht];simp[oz,ey,bT,fc];omega};{obtain⟨a,b,bT,_,lU⟩:=ML hd;have:=(gU lU).2;rw[aF ae,aF ae,aJ ht];simp[oz,ey,bT];omega};{obtain⟨a,bT,hl⟩:=ag0 hd;rw[aF ae,aJ ht,wY bT];simp[oz];omega}
theorem avn{x:bA}(h:Jv x)(S:ah)(es:dN):S.length<=(mQ x.2.2.1 x.2.2.2 S es).1.length/\(mQ x.2.2.1 x.2.2.2 S es).1.length<=S.length+700/\(mQ x.2.2.1 x.2.2.2 S es).2.length<=es.length+700 /\
  (S.length<=500000->(∀e∈es,e.1.length<=1000/\e.2<=1000000)->∀e∈(mQ x.2.2.1 x.2.2.2 S es).2,e.1.length<=1000/\e.2<=1000000):=by
 have h1:=Ev x.2.2.2 S es;have h2:=h.sum;have h3:=Eu x.2.2.2;have h4:=ahP h.dat;have h5:=RF (dO x.2.2.1) (jV x.2.2.1 (bB x.2.2.2 S es).1) (bB x.2.2.2 S es).2;have h6:(jV x.2.2.1 (bB x.2.2.2 S es).1).length=(bB x.2.2.2 S es).1.length+10:=by simp[jV,fc]
 have h7:(mQ x.2.2.1 x.2.2.2 S es).1.length=(dg (dO x.2.2.1) (jV x.2.2.1 (bB x.2.2.2 S es).1) (bB x.2.2.2 S es).2).1.length:=by{show(_++_++_:ah).length=_;simp only[bj,gD,fM,bP,fy];omega};have h8:(mQ x.2.2.1 x.2.2.2 S es).2=(dg (dO x.2.2.1) (jV x.2.2.1 (bB x.2.2.2 S es).1) (bB x.2.2.2 S es).2).2:=rfl;rw[h7,h8];refine⟨ae,ae,ae,fun hs he=>?_⟩;exact Yh _ _ _ ae ae (RD _ S es ae ae he)
def jk(g:List bA)(S:ah)(es:dN):ah×dN:=g.foldl (fun a x=>mQ x.2.2.1 x.2.2.2 a.1 a.2) (S,es)
theorem avo(g:List bA)(k:Nat)(h:k<g.length)(S:ah)(es:dN):jk (g.take (k+1)) S es=mQ g[k].2.2.1 g[k].2.2.2 (jk (g.take k) S es).1 (jk (g.take k) S es).2:=by unfold jk;rw[gp h,Ax];rfl
theorem ahQ:∀(g:List bA),(∀x∈g,Jv x)->∀(S:ah) (es:dN),S.length<=(jk g S es).1.length/\(jk g S es).1.length<=S.length+700*g.length/\(jk g S es).2.length<=es.length+700*g.length /\
  (S.length+700*g.length<=500000->(∀e∈es,e.1.length<=1000/\e.2<=1000000)->∀e∈(jk g S es).2,e.1.length<=1000/\e.2<=1000000)
 | [],_,S,es=>⟨bH _,bH _,bH _,fun _ h=>h⟩
 | x :: g,h,S,es=>by have h1:=avn (h x ar) S es;have h2:=ahQ g (fun y hy=>h y (by simp[hy])) (mQ x.2.2.1 x.2.2.2 S es).1 (mQ x.2.2.1 x.2.2.2 S es).2;have h3:jk (x :: g) S es=jk g (mQ x.2.2.1 x.2.2.2 S es).1 (mQ x.2.2.1 x.2.2.2 S es).2:=rfl;rw[h3,bP];refine⟨ae,ae,ae,fun hs he=>h2.2.2.2 ae (h1.2.2.2 ae he)⟩
theorem avp(gs:List (List bA))(x:bA):(oZ gs x).flatten=gs.flatten++[x]:=by
 unfold oZ;split;{
 rename_i y t hl;split;{
 have hg:gs=gs.dropLast++[y :: t]:=by{
 have h1:gs≠[]:=fun e=>by rw[e]at hl;cases hl
 have h2:=SC h1;rw[List.getLast?_eq_some_getLast h1]at hl;rw[fq hl]at h2;exact h2.symm};conv=>rhs;rw[hg]
 simp};{simp}};{simp}
theorem ahR:∀(xs:List bA) (gs:List (List bA)),(xs.foldl oZ gs).flatten=gs.flatten++xs
 | [],gs=>by simp
 | x :: xs,gs=>by rw[JX,ahR xs,avp,fP];rfl
theorem MV(xs:List bA):(gP xs).flatten=xs:=by unfold gP;rw[ahR];rfl
theorem avq(gs:List (List bA))(x:bA):(oZ gs x).length<=gs.length+1:=by unfold oZ;split;{split;{rw[bj,List.length_dropLast,J3];omega};{simp}};{simp}
theorem ahS:∀(xs:List bA) (gs:List (List bA)),(xs.foldl oZ gs).length<=gs.length+xs.length
 | [],gs=>bH _
 | x :: xs,gs=>by have h1:=ahS xs (oZ gs x);have h2:=avq gs x;rw[JX,bP];omega
theorem avr(xs:List bA):(gP xs).length<=xs.length:=by have:=ahS xs [];simpa [gP]using this
theorem Yi:∀(p:Ak) (S:ah) (es:dN),es.length<=(dg p S es).2.length
 | [],S,es=>bH _
 | .inl b :: t,S,es=>Yi t (S++b) es
 | .inr x :: t,S,es=>a_ (Ev (az 46 x) S es).2.2.1 (Yi t _ _)
theorem ahT:∀(g:List bA) (S:ah) (es:dN),es.length<=(jk g S es).2.length
 | [],S,es=>bH _
 | x :: g,S,es=>a_ (a_ (Ev x.2.2.2 S es).2.2.1 (Yi (dO x.2.2.1) _ _)) (ahT g (mQ x.2.2.1 x.2.2.2 S es).1 (mQ x.2.2.1 x.2.2.2 S es).2)
structure qE where
 S:ah
 es:dN
 cs:List Nat
 tc:Bool
 full:Bool
def o5(most ol i:Nat):List (List bA)->qE->qE
 | [],st=>st
 | g :: gs,st=>if st.full=true then st else if most<(jk g st.S st.es).1.length+ol then { st with tc:=decide (i<2),full:=true }
  else o5 most ol i gs { st with S:=(jk g st.S st.es).1,es:=(jk g st.S st.es).2,cs:=st.cs.set (i+1) (st.cs.getD (i+1) 0+g.length) }
theorem Yj{most ol i:Nat}{gs:List (List bA)}{st:qE}(h:st.full=true):o5 most ol i gs st=st:=by
 cases gs with
 | nil=>rfl
 | cons g gs=>unfold o5;rw[aJ h]
theorem ahU{most ol i:Nat}{g:List bA}{gs:List (List bA)}{st:qE}(h:st.full=false)(hl:most<(jk g st.S st.es).1.length+ol):o5 most ol i (g :: gs) st = { st with tc:=decide (i<2),full:=true }:=by unfold o5;rw[aF (by rw[h];simp),aJ hl]
theorem ahV{most ol i:Nat}{g:List bA}{gs:List (List bA)}{st:qE}(h:st.full=false)(hl:¬most<(jk g st.S st.es).1.length+ol):o5 most ol i (g :: gs) st=o5 most ol i gs { st with S:=(jk g st.S st.es).1,es:=(jk g st.S st.es).2,cs:=st.cs.set (i+1) (st.cs.getD (i+1) 0+g.length) }:=by
 conv=>lhs;unfold o5
 rw[aF (by rw[h];simp),aF hl]
def xC(most ol:Nat):Nat->List (List bA)->qE->qE
 | _,[],st=>st
 | i,l :: ls,st=>xC most ol (i+1) ls (o5 most ol i (gP l) st)
def eB:ah:=[116,119,101,108,118,101,32,98,121,116,101,115]
def Yk(rc:Nat):ah:=[0,0,41]++[ax 1232,bO 1232]++[UInt8.ofNat (rc/16),0,0,0,0,0]
def Ew(op:Bool)(sz:Nat):Nat:=if op=true then max 512 (min sz 1232)else 512
def rB(op:Bool)(rc:Nat):ah:=if op=true then Yk rc else []
def Jw(qs:ah)(qn:List ah)(op:Bool)(sz rc:Nat)(ls:List (List bA)):qE :=
 xC (Ew op sz) (rB op rc).length 0 ls ⟨eB++qs,(bB qn eB []).2,[1,0,0,(rB op rc).length/11],false,false⟩
def G3(s qs:ah)(qn:List ah)(op:Bool)(sz rc:Nat)(aa:Bool)(ls:List (List bA)):ah :=
 qx s aa (Jw qs qn op sz rc ls).tc rc (Jw qs qn op sz rc ls).cs++(Jw qs qn op sz rc ls).S.drop 12++rB op rc
theorem avs(wb base:Nat)(S:ah)(v:Value)(es:dN)(w:World)(hw:dW w wb S v)(he:eR w base wb v es)(hS:S.length<=900000) :
  aB 144 #[aM wb,aH] w fun e w'=>e=.returned (.tuple #[])/\∃v',dW w' wb (bB [] S es).1 v'/\eR w' base wb v' (bB [] S es).2/\ed wb w v w' v':=by
 have fX:=ag (yN hw he (ed.refl _ _ _) aO (S++[0]));obtain⟨c0,aC⟩:=hw.cells;have fz:=hw.frozen;have atg:aq S++⟨#[0]⟩=aq (S++[0]):=kU S [0];have Jj:(aq S).size<=1000000:=by rw[bJ];omega
 have zz:ByteArray.size ⟨#[0]⟩=1:=rfl;clear hw he;go_enter func144,ntmps144;go_wp2_with fail;go_loopw [4,5] (fun lv iv wr=>lv=aH/\iv=aj 0/\wr=w) (fun _ _ _=>0);case atStart=>exact⟨rfl,rfl,rfl⟩
 case round =>(
 obtain⟨rfl,rfl,hwr⟩:=hrel;have G4:=hwr.symm;subst G4;go_wp2_with fail;go_loopw [6] (fun iv wr=>iv=aj 0/\wr=w) (fun _ _=>0);case atStart=>exact⟨rfl,rfl⟩
 case round =>(obtain⟨rfl,hwr⟩:=hrel;have G4:=hwr.symm;subst G4;go_wp2_with fail;refine pO (v:=.tuple #[]) (by simp[results,results144]) rfl ?_;exact⟨rfl,_,fX⟩))
def MW(w:World)(nv:Value)(qn:List ah):Prop:=(qn = []/\nv=aH)\/(qn≠[]/\∃g c,nv=aD g 0 qn.length c/\qn.length<=c/\fS w g 0 qn)
theorem avt(wb base:Nat)(S:ah)(v:Value)(es:dN)(nv:Value)(qn:List ah)(w0 w:World)(hq:MW w0 nv qn)(hb:au w0 w)(FC:w0.heap.size<=wb)(hv:∀k,v.ownBlock=some k->w0.heap.size<=k)(hw:dW w wb S v)(he:eR w base wb v es)(bX:base<=w.heap.size)(hn:qn.length<=300)(hnl:∀x∈qn,x.length<=255)
  (hS:S.length<=900000) (hes:∀e∈es,e.1.length<=1000/\e.2<=1000000) (hel:es.length<=900000) :
  aB 144 #[aM wb,nv] w fun e w'=>e=.returned (.tuple #[])/\∃v',dW w' wb (bB qn S es).1 v'/\eR w' base wb v' (bB qn S es).2/\ed wb w v w' v':=by rcases hq with⟨rfl,rfl⟩|⟨hne,g,c,rfl,hc,fZ⟩;{exact avs wb base S v es w hw he hS};{have hg:=fZ.1;exact Xf wb base S v es g 0 c qn w hw he (fZ.below hb) hc ae (fun e=>by have:=hv g e.symm;omega) bX hne hn hnl hS hes hel}
theorem avu{W:World}{base wb cb:Nat}{v:Value}{es:dN}{cs:List Int}(h:eR W base wb v es)(hn:ft W cb cs 3)(i:Nat)(ax:i<cs.length)(x:Int):eR (W.setCell ⟨cb,i,none⟩ (.int .i64 x)) base wb v es:=by
 obtain⟨xs,h0,h1,h2⟩:=h;have hne:v.ownBlock≠some cb:=fun e=>by{
 rcases h1.2 with⟨rfl,_⟩|⟨g,cap,cur,rfl,_,aZ,_⟩;{cases e};{
 have:g=cb:=by simpa [Value.ownBlock]using e
 rw[this,hn]at aZ;simp at aZ}};refine⟨xs,h0,Kc h1 (row:=some cb) ⟨rfl,rfl,rfl,ar,fun k _ hk=>wh W (ak cb i) k _ (fun e=>hk (by rw[e]))⟩ (.inr hne),fun y hy=>?_⟩;obtain⟨g,off,cap,e1,e2,e3,e4⟩:=h2 y hy;refine⟨g,off,cap,e1,e2,⟨dP e3.1 ar,fun j hj=>?_⟩,e4⟩;have hc:=e3.2 j hj;have Cl:=hn.cell i ax;by_cases hg:g=cb;{
 subst hg;have hoi:off+j≠i:=fun e=>by rw[e]at hc;rw[hc]at Cl;cases Cl
 refine Eq.trans ?_ hc;unfold World.cell? World.setCell;simp only[fw,gZ];rw[hn];simp[Sv,Ht hoi]};{exact(dh (a:=⟨g,off+j,none⟩) (wh W (ak cb i) g _ hg)).trans hc}
theorem ahW{w:World}{g:Nat}(l:ah)(n:Nat)(hn:n=l.length)(hl:l.length<=maxLen)(h:w.heap[g]? = some (.cells ((l.map fun c=>Value.int .u8 c.toNat).toArray) 5)):(convert 58 9 (aD g 0 n n)).run prog w=.ok (ay l) w:=by subst hn;exact L8 (base:=0) ⟨ar,.inr ⟨g,l.length,(l.map fun c=>Value.int .u8 c.toNat).toArray,rfl,cV _,h,bH _,hl,ar,by rw[zf];exact pd ar⟩⟩
theorem avv(v:Value)(xs:List bA)(w:World)(hx:gY w v xs)(hn:∀x∈xs,en w x.1 x.2.2.2/\en w x.2.1 (az 32 x.2.2.1.data)/\x.2.2.2.length<=1000)(hl:xs.length<=1000) :
  aB 145 #[v] w fun e w'=>∃v',e=.returned v'/\Ju w' w.heap.size v' (gP xs)/\au w w':=by
 obtain⟨i0,lQ,hz0,hz1,hz2⟩:=kJ U_;obtain⟨j0,hj0,yJ,hy1,hy2⟩:=kJ avl;obtain⟨va,vc,hv⟩:∃a c,v=.slice a xs.length c:=by
  rcases hx with⟨h,h0⟩|⟨g,off,cap,h,_⟩
  ·exact⟨none,0,by rw[h,h0];rfl⟩
  ·exact⟨_,_,h⟩
 have cu:=ag hx;have dm:=ag hn;clear hx hn;subst hv;go_enter func145,ntmps145;go_wp2_with fail
 go_loopw [3,4] (fun out iv wr=>∃(i:Nat) (ps:List (Value×List bA)),iv=.int .i64 i/\i<=xs.length/\ps.length<=i/\(∃a c,out=.slice a ps.length c)/\Hid (qD wr w.heap.size out ps)/\Hid (ps.map (·.2)=gP (xs.take i))/\Hid (au w wr)) (fun _ iv _=>xs.length - (intOf iv).toNat)
 case atStart=>exact⟨0,[],rfl,ae,ar,⟨none,0,rfl⟩,qD.nil _ _,rfl,bR _ _⟩
 case round =>
  obtain⟨i,ps,rfl,ax,hpl,⟨oa,oc,rfl⟩,HO,HG,aX⟩:=hrel;by_cases hlt:i<xs.length
  ·have gy:(i:Int)<(xs.length:Int):=ae;rcases af cu with⟨_,h0⟩|⟨g,off,cap,hv,dt,np,nB⟩
   ·rw[h0]at hlt;simp at hlt
   obtain⟨rfl,-,rfl⟩:=mS hv;obtain⟨c0,aC,c2,c3,aV⟩:=nB i hlt;obtain⟨n1,n2,n3⟩:=af dm xs[i] (cM hlt);have HST:=ag (ave xs i hlt);obtain⟨x,hx⟩:∃x,xs[i]=x:=⟨_,rfl⟩
   rw[hx]at c0 aC c2 c3 aV n1 n2 n3 HST;obtain⟨vo,dS,r,ls⟩:=x;simp only at c0 aC c2 c3 aV n1 n2 n3;have ll:=ag n1;obtain⟨o6,no,nc,rfl,_,_⟩:=n1;obtain⟨cG,mo,mc,rfl,_,_⟩:=n2;generalize kQ:(az 32 r.data).length=dl at *;have tL:Hid (∀W,au w W->W.cell? ⟨g,off+i*5,none⟩=some (.slice (some ⟨o6,no,none⟩) ls.length nc)/\W.cell? ⟨g,off+i*5+1,none⟩=some (.int .i64 r.aG)/\W.cell? ⟨g,off+i*5+2,none⟩=some (.int .i64 r.type)/\W.cell? ⟨g,off+i*5+3,none⟩=some (.string (aq r.data))/\W.cell? ⟨g,off+i*5+4,none⟩=some (.slice (some ⟨cG,mo,none⟩) dl mc)):=fun W hW =>
    have k:∀(a:Addr) (v:Value),w.cell? a=some v->W.cell? a=some v:=fun a v h=>(hW.cell (iz w a h)).trans h
    ⟨k _ _ c0,k _ _ aC,k _ _ c2,k _ _ c3,k _ _ aV⟩
   clear c0 aC c2 c3 aV hx nB hv cu;have bX:=aX.size;rcases sY ps with rfl|⟨ps0,⟨vl,gl⟩,jM⟩
   ·obtain⟨c0,aC,c2,c3,aV⟩:=af tL wr (af aX);have aW:Hid (gP (xs.take (i+1)) = [[(.slice (some ⟨o6,no,none⟩) ls.length nc,.slice (some ⟨cG,mo,none⟩) dl mc,r,ls)]]):=by
     rw[Hid,af HST,<- af HG];rfl
    clear tL HST kQ;have yT:=HO.own;have xm:([]:List (Value×List bA)).length<=1000:=by first|omega|simp
    go_wp2_with (at_builtin;go_loud (refine CH _ rfl (.tmp 60) (.tmp 66) 231 rfl w.heap.size 115 j0 (.slice none 0 0) 1 24 ahN hj0 yJ hy1 hy2 rfl bD _ ([]:List (Value×List bA)).length _ rfl (ic yT ((aO.alloc aA _).alloc ar _)) ⟨wr.heap.size+1,0,none⟩ 1 1 [.slice (some ⟨wr.heap.size,0,none⟩) 1 1] rfl rfl (ahO _ _ ar _ _) (fun u hu=>by simp at hu;subst hu;rfl) (by unfold maxLen;omega) ae aP ?_));intro v' w3 uY hgrow hnil hat;have hu2:((wr.alloc (.cells #[.slice (some ⟨o6,no,none⟩) ls.length nc,.int .i64 r.aG,.int .i64 r.type,.string (aq r.data),.slice (some ⟨cG,mo,none⟩) dl mc] 119)).alloc (.cells #[.slice (some ⟨wr.heap.size,0,none⟩) 1 1] 115)).ownsRow w.heap.size 119 5 (.slice (some ⟨wr.heap.size,0,none⟩) 1 1) 1 (ji (.slice (some ⟨o6,no,none⟩) ls.length nc,.slice (some ⟨cG,mo,none⟩) dl mc,r,ls)) :=
     (World.ownsRow_lit wr #[.slice (some ⟨o6,no,none⟩) ls.length nc,.int .i64 r.aG,.int .i64 r.type,.string (aq r.data),.slice (some ⟨cG,mo,none⟩) dl mc] 1 ae (by unfold maxLen;omega) rfl).alloc _
    have hb2:=(((bR wr.heap.size wr).alloc aA (.cells #[.slice (some ⟨o6,no,none⟩) ls.length nc,.int .i64 r.aG,.int .i64 r.type,.string (aq r.data),.slice (some ⟨cG,mo,none⟩) dl mc] 119)).alloc ar (.cells #[.slice (some ⟨wr.heap.size,0,none⟩) 1 1] 115))
    have G5:=iW yT;have eE:=ag (HO.ahL hb2 hu2 rfl hgrow uY (by simpa using hat));have cK:Hid (au w w3):=aX.trans ((hb2.mono bX).trans ⟨hgrow.os,hgrow.tape,hgrow.output,hgrow.size,fun k hk=>hgrow.block k (by have:=hb2.size;omega) (fun e=>by have:=(G5 k e.symm).1;omega)⟩);obtain⟨ya,p9,rfl⟩:∃a c,v'=.slice a (([]:List (Value×List bA)).length+1) c:=by
     rcases uY.2 with⟨_,h0⟩|⟨g,cp,cur,hv,_⟩
     ·omega
     ·exact⟨_,_,hv⟩
    clear uY hgrow hnil hat hu2 hb2 G5 yT;go_wp2;exact⟨⟨i+1,_,bW,ae,ar,⟨ya,p9,ar⟩,eE,by rw[af aW];rfl,cK⟩,c5⟩
   ·rw[sW]at jM;subst jM;have jc:(vl,gl)∈ps0++[(vl,gl)]:=ar;obtain⟨go,avw⟩:∃go,oa=some ⟨go,0,none⟩:=by
     rcases HO.own.2 with⟨_,h0⟩|⟨g,cp,cur,hv,_⟩
     ·simp at h0
     ·exact⟨g,(mS hv).1⟩
    subst avw;obtain⟨gg,gc,sG⟩:∃gg gc,vl=.slice (some ⟨gg,0,none⟩) gl.length gc:=by
     rcases(HO.rA _ jc).1.2 with⟨_,h0⟩|⟨g,cp,cur,hv,_⟩
     ·exact absurd (fp h0) (HO.rA _ jc).2
     ·exact⟨g,cp,hv⟩
    subst sG;obtain⟨n0,eQ⟩:=bF ps0.length;have hnl:(ps0++[(Value.slice (some ⟨gg,0,none⟩) gl.length gc,gl)]).length=n0+1:=by rw[bj,eQ];rfl
    have oO:n0+1<=oc:=by
     rcases HO.own.2 with⟨_,h0⟩|⟨g,cp,cur,hv,_,_,qM,_⟩
     ·simp at h0
     ·have:=(mS hv).2.2;rw[hnl]at qM;omega
    rw[hnl]at hpl;have P1:gl.length<=gc:=by
     rcases(HO.rA _ jc).1.2 with⟨_,h0⟩|⟨g,cp,cur,hv,_,_,qM,_⟩
     ·exact absurd (fp h0) (HO.rA _ jc).2
     ·have:=(mS hv).2.2;have Tp:gl.length<=cp:=qM;omega
    have G6:Hid (qD wr w.heap.size (.slice (some ⟨go,0,none⟩) (n0+1) oc) (ps0++[(.slice (some ⟨gg,0,none⟩) gl.length gc,gl)])):=by rw[Hid,<- hnl];exact HO
    rw[hnl];obtain⟨y,t,G7⟩:∃y t,gl=y :: t:=by
     cases gl with
     | nil=>exact absurd rfl (HO.rA _ jc).2
     | cons y t=>exact⟨y,t,rfl⟩
    have aBb:0<gl.length:=by rw[G7];simp
    have RG:gl∈gP (xs.take i):=by rw[<- af HG];simp
    have zN:y∈xs:=Az (MT _ gl RG y (by rw[G7];simp));have as8:gl.length<=i:=a_ (avh _ gl RG) (by rw[gD];omega);obtain⟨m1,-,m3⟩:=af dm y zN;have ov:=ag m1;obtain⟨vy,aBc,Jy,Ex⟩:=y;simp only at m1 m3 ov;obtain⟨avx,yo,p9,rfl,-,-⟩:=m1;have Yl:Hid (∀W,au wr W->W.cell? ⟨go,n0,none⟩=some (.slice (some ⟨gg,0,none⟩) gl.length gc)/\W.cell? ⟨gg,0,none⟩=some (.slice (some ⟨avx,yo,none⟩) Ex.length p9)/\W.cell? ⟨gg,2,none⟩=some (.int .i64 Jy.type)):=fun W hW=>by
     have k:∀(a:Addr) (v:Value),wr.cell? a=some v->W.cell? a=some v:=fun a v h=>(hW.cell (iz wr a h)).trans h;have how:=G6.own;rw[hnl]at how;have h1:=uy how n0 ae;have h2:=uy (G6.rA _ jc).1 0 (by show 0<gl.length*5;omega);have h3:=uy (G6.rA _ jc).1 2 (by show 2<gl.length*5;omega);rw[gJ,y_ (by rw[bY,eQ];exact bH _),bY,<- eQ,rJ]at h1;simp only[G7,iV]at h2 h3;exact⟨k _ _ h1,k _ _ h2,k _ _ h3⟩
    have qh:=ag (fun W (hW:au w W)=>yc _ _ Ex ls W (ov.below hW) (ll.below hW) m3 n3);have yr:Hid (Ex=ls/\Jy.type=r.type->gP (xs.take (i+1))=ps0.map (·.2)++[gl++[(.slice (some ⟨o6,no,none⟩) ls.length nc,.slice (some ⟨cG,mo,none⟩) dl mc,r,ls)]]):=fun h=>by
     rw[af HST,<- af HG,gJ,G7];exact ahI _ _ _ _ h
    have Ym:Hid (¬(Ex=ls/\Jy.type=r.type)->gP (xs.take (i+1))=(ps0++[(Value.slice (some ⟨gg,0,none⟩) gl.length gc,gl)]).map (·.2)++[[(.slice (some ⟨o6,no,none⟩) ls.length nc,.slice (some ⟨cG,mo,none⟩) dl mc,r,ls)]]):=fun h=>by
     rw[af HST,<- af HG,G7,gJ];exact ahJ _ _ _ _ h
    have aty:go<wr.heap.size:=(G6.own.lt go rfl).2;have avy:gg<wr.heap.size:=((G6.rA _ jc).1.lt gg rfl).2;obtain⟨k0,k1,k2⟩:=af Yl wr aO;obtain⟨c0,aC,c2,c3,aV⟩:=af tL wr (af aX);have gu:wr.drew.cell? ⟨go,n0,none⟩=_:=k0;have d1:wr.drew.cell? ⟨gg,0,none⟩=_:=k1;have d2:wr.drew.cell? ⟨g,off+i*5,none⟩=_:=c0;have vE:IntKind.i64.wrap (((n0+1:Nat):Int) - 1)=(n0:Int):=by rw[fF];omega
    have Ji:IntKind.i64.wrap ((n0:Int)+1 - 1)=(n0:Int):=by rw[fF];omega
    have hk0:(0:Int)<=(n0:Int):=ae;have kO:(n0:Int)<((n0+1:Nat):Int):=ae;have aBd:(0:Int)<(gl.length:Int):=ae;have Yn:=ag (bg G7 (bg RG zN));have hE:=ag (bg eQ hnl);clear G7 RG zN eQ hnl HO HST HG k0 k1 k2 c0 aC c2 c3 aV kQ;go_wp2_with fail;go_region_with (go_at_call 117;refine(qh _ aX.drew).mono ?_;rintro e w1 ⟨rfl,hb1⟩)
    all_goals
     have MX:au wr w1:=(aO.drew).trans hb1;have bZ:=ag (aX.trans (MX.mono aX.size));have hs1:=MX.size;have pz:Hid (qD w1 w.heap.size (.slice (some ⟨go,0,none⟩) (n0+1) oc) (ps0++[(.slice (some ⟨gg,0,none⟩) gl.length gc,gl)])):=G6.below MX;obtain⟨k0,k1,k2⟩:=af Yl w1 MX;obtain⟨c0,aC,c2,c3,aV⟩:=af tL w1 (af bZ);clear hb1 MX G6 qh gu d1 d2 Yl tL aX;simp only[List.getElem_toArray,mV,lI,Act.put,fV,eC,eX];by_cases p_:Ex=ls/\Jy.type=r.type
     ·have aW:=ag (yr p_);have ht:(Jy.type == r.type)=true:=by simp[p_.2]
      rw[iy p_.1];clear yr Ym p_;go_wp2_with fail;go_quiet (fail);have pG:=pj (bR w1.heap.size w1) nq;have gv:=ag (pz.below pG);have bU:=ag (bZ.trans (pG.mono bZ.size));have k0':(w1.drewN nq).cell? ⟨go,n0,none⟩=some (.slice (some ⟨gg,0,none⟩) gl.length gc):=k0;have c0':(w1.drewN nq).cell? ⟨g,off+i*5,none⟩=some (.slice (some ⟨o6,no,none⟩) ls.length nc):=c0;have c1':(w1.drewN nq).cell? ⟨g,off+i*5+1,none⟩=some (.int .i64 r.aG):=aC;have c2':(w1.drewN nq).cell? ⟨g,off+i*5+2,none⟩=some (.int .i64 r.type):=c2;have c3':(w1.drewN nq).cell? ⟨g,off+i*5+3,none⟩=some (.string (aq r.data)):=c3;have avz:(w1.drewN nq).cell? ⟨g,off+i*5+4,none⟩=some (.slice (some ⟨cG,mo,none⟩) dl mc):=aV;have hs2:w1.heap.size<=(w1.drewN nq).heap.size:=pG.size;clear pG c0 aC c2 c3 aV k0 k1 k2 pz bZ;generalize w1.drewN nq=w2 at *;go_wp2_with fail;have vk:=gv.aw _ jc;have ahX:=(gv.rA _ jc).1;have Jz:(ps0++[(Value.slice (some ⟨gg,0,none⟩) gl.length gc,gl)]).length=n0+1:=hE.2;have G8:=gv.own;rw[Jz]at G8;have jH:=S_ G8 n0;have hne:some go≠(Value.slice (some ⟨gg,0,none⟩) gl.length gc).ownBlock:=fun e=>vk e.symm;have avA:(w2.alloc (.cells #[.slice (some ⟨o6,no,none⟩) ls.length nc,.int .i64 r.aG,.int .i64 r.type,.string (aq r.data),.slice (some ⟨cG,mo,none⟩) dl mc] 119)).drew.cell? ⟨go,n0,none⟩=some (.slice (some ⟨gg,0,none⟩) gl.length gc):=(dh (a:=⟨go,n0,none⟩) (cD w2 _ go ae)).trans k0';have Yo:=ag ahX;have uQ:=ag (fun o=>cD w2 o go ae);clear G8 ahX vk
      go_region_law (first|(refine step_append_lies _ rfl (.tmp 52) (.tmp 57) 115 rfl w.heap.size 119 i0 _ 5 80 PR lQ hz0 hz1 hz2 rfl bD _ gl.length (gl.flatMap ji) rfl (ic (af Yo) (aO.alloc aA _).drew) _ 1 1 (ji (.slice (some ⟨o6,no,none⟩) ls.length nc,.slice (some ⟨cG,mo,none⟩) dl mc,r,ls)) rfl rfl (fun j u hj=>avm w2 _ rfl _ _ _ _ _ _ j u hj) (fun u hu=>by simp[ji]at hu;rcases hu with rfl|rfl|rfl|rfl|rfl <;> rfl) bD (by unfold maxLen;omega) ae aP (w2.heap.size+1) ar ?_;intro g' cap' w3 hown hgrow hat hlt3;have f3:w3.frozen? ⟨go,n0,none⟩=false:=(AE (a:=⟨go,n0,none⟩) ((hgrow.block go aP hne).trans (uQ _))).trans jH;have k3:w3.cell? ⟨go,n0,none⟩=some (.slice (some ⟨gg,0,none⟩) gl.length gc):=(dh (a:=⟨go,n0,none⟩) ((hgrow.block go aP hne).trans (uQ _))).trans k0'))
      all_goals
       have hL:=(gv.below ((bR w2.heap.size w2).alloc aA _).drew).avi (go:=go) (cap:=oc) (by rw[<- hE.1]) hgrow hown (hat.imp (fun h=>h.symm) (fun h=>by rw[h];simp;rfl));rw[<- hE.1]at hL;have E0:=(bU.alloc ae (.cells #[.slice (some ⟨o6,no,none⟩) ls.length nc,.int .i64 r.aG,.int .i64 r.type,.string (aq r.data),.slice (some ⟨cG,mo,none⟩) dl mc] 119)).drew;have hgb:=(Yo.lt gg rfl).1;have hgrow':World.grownBy _ w3 (some gg):=hgrow;have ij:Below w.heap.size (w2.alloc (.cells #[.slice (some ⟨o6,no,none⟩) ls.length nc,.int .i64 r.aG,.int .i64 r.type,.string (aq r.data),.slice (some ⟨cG,mo,none⟩) dl mc] 119)).drew w3:=⟨hgrow'.os,hgrow'.tape,hgrow'.output,hgrow'.size,fun k hk=>hgrow'.block k (by have:=E0.size;omega) (fun e=>absurd (fq e) ae)⟩
       have eE:=ag hL.1;have cK:=ag (E0.trans (hL.2 _ aA ij));clear hL E0 ij hgb hown hgrow' hgrow hat hlt3 f3 k3 gv bU Yo uQ avA jH hne;generalize w3.setCell ⟨go,n0,none⟩ (.slice (some ⟨g',0,none⟩) (gl.length+1) cap')=w4 at *;go_wp2;exact⟨⟨i+1,ps0++[(Value.slice (some ⟨g',0,none⟩) (gl.length+1) cap',gl++[(Value.slice (some ⟨o6,no,none⟩) ls.length nc,Value.slice (some ⟨cG,mo,none⟩) dl mc,r,ls)])],bW,ae,by rw[bj,<- hE.1];simp;omega,⟨some ⟨go,0,none⟩,oc,by rw[bj,<- hE.1];rfl⟩,eE,by rw[af aW,gJ];rfl,cK⟩,c5⟩
     ·have aW:=ag (Ym p_);have sD:decide (Ex=ls)=false\/(decide (Ex=ls)=true/\(Jy.type == r.type)=false):=by
       by_cases h1:Ex=ls
       ·right;exact⟨iy h1,by simpa using fun h=>p_ ⟨h1,h⟩⟩
       ·exact .inl (iB h1)
      clear yr Ym p_;have Jz:(ps0++[(Value.slice (some ⟨gg,0,none⟩) gl.length gc,gl)]).length=n0+1:=hE.2;rcases sD with hd|⟨hd,ht⟩
      all_goals
       rw[hd];clear hd;go_wp2_with fail;go_quiet (fail);have pG:=pj (bR w1.heap.size w1) nq;have gv:=ag (pz.below pG);have bU:=ag (bZ.trans (pG.mono bZ.size));have k0':(w1.drewN nq).cell? ⟨go,n0,none⟩=some (.slice (some ⟨gg,0,none⟩) gl.length gc):=k0;have c0':(w1.drewN nq).cell? ⟨g,off+i*5,none⟩=some (.slice (some ⟨o6,no,none⟩) ls.length nc):=c0;have c1':(w1.drewN nq).cell? ⟨g,off+i*5+1,none⟩=some (.int .i64 r.aG):=aC;have c2':(w1.drewN nq).cell? ⟨g,off+i*5+2,none⟩=some (.int .i64 r.type):=c2;have c3':(w1.drewN nq).cell? ⟨g,off+i*5+3,none⟩=some (.string (aq r.data)):=c3;have avz:(w1.drewN nq).cell? ⟨g,off+i*5+4,none⟩=some (.slice (some ⟨cG,mo,none⟩) dl mc):=aV;have hs2:w1.heap.size<=(w1.drewN nq).heap.size:=pG.size;clear pG c0 aC c2 c3 aV k0 k1 k2 pz bZ;generalize w1.drewN nq=w2 at *;have G8:=gv.own;rw[Jz]at G8;have avB:=ag G8;clear G8;have yT:=af avB;go_wp2_with (at_builtin;go_loud (refine CH _ rfl (.tmp 60) (.tmp 66) 231 rfl w.heap.size 115 j0 (.slice none 0 0) 1 24 ahN hj0 yJ hy1 hy2 rfl bD _ (n0+1) _ rfl (ic yT ((aO.alloc aA _).alloc ar _)) ⟨w2.heap.size+1,0,none⟩ 1 1 [.slice (some ⟨w2.heap.size,0,none⟩) 1 1] rfl rfl (ahO _ _ ar _ _) (fun u hu=>by simp at hu;subst hu;rfl) (by unfold maxLen;omega) ae aP ?_));intro v' w3 uY hgrow hnil hat;have hu2:((w2.alloc (.cells #[.slice (some ⟨o6,no,none⟩) ls.length nc,.int .i64 r.aG,.int .i64 r.type,.string (aq r.data),.slice (some ⟨cG,mo,none⟩) dl mc] 119)).alloc (.cells #[.slice (some ⟨w2.heap.size,0,none⟩) 1 1] 115)).ownsRow w.heap.size 119 5 (.slice (some ⟨w2.heap.size,0,none⟩) 1 1) 1 (ji (.slice (some ⟨o6,no,none⟩) ls.length nc,.slice (some ⟨cG,mo,none⟩) dl mc,r,ls)) :=
        (World.ownsRow_lit w2 #[.slice (some ⟨o6,no,none⟩) ls.length nc,.int .i64 r.aG,.int .i64 r.type,.string (aq r.data),.slice (some ⟨cG,mo,none⟩) dl mc] 1 ae (by unfold maxLen;omega) rfl).alloc _
       have hb2:=(((bR w2.heap.size w2).alloc aA (.cells #[.slice (some ⟨o6,no,none⟩) ls.length nc,.int .i64 r.aG,.int .i64 r.type,.string (aq r.data),.slice (some ⟨cG,mo,none⟩) dl mc] 119)).alloc ar (.cells #[.slice (some ⟨w2.heap.size,0,none⟩) 1 1] 115))
       have G5:=iW yT;have eE:=ag (gv.ahL hb2 hu2 rfl hgrow (by rw[Jz];simpa using uY) (by simpa using hat));have cK:Hid (au w w3):=bU.trans ((hb2.mono ae).trans ⟨hgrow.os,hgrow.tape,hgrow.output,hgrow.size,fun k hk=>hgrow.block k (by have:=hb2.size;omega) (fun e=>by have:=(G5 k e.symm).1;omega)⟩);obtain⟨ya,p9,rfl⟩:∃a c,v'=.slice a (n0+1+1) c:=by
        rcases uY.2 with⟨_,h0⟩|⟨g,cp,cur,hv,_⟩
        ·omega
        ·exact⟨_,_,hv⟩
       clear uY hgrow hnil hat hu2 hb2 G5 yT;go_wp2;exact⟨⟨i+1,_,bW,ae,by rw[bj,Jz];simp;omega,⟨ya,p9,by rw[bj,Jz];rfl⟩,eE,by rw[af aW,gJ];rfl,cK⟩,c5⟩
  ·obtain rfl:i=xs.length:=ae;have gy:¬(xs.length:Int)<(xs.length:Int):=ae;have aW:Hid (Ju wr w.heap.size (.slice oa ps.length oc) (gP xs)):=by
    have:=HO.at
    rw[af HG,gV]at this;exact this
   clear hlt HO HG dm cu;go_wp2;go_ret;exact⟨_,rfl,aW,aX⟩
theorem avC(a:Option Addr)(c:Nat)(w:World) :
  aB 117 #[.slice a 0 c,aH] w fun e w'=>e=.returned (.bool true)/\w'=w:=by
 go_enter func117,ntmps117;go_wp2_with fail;go_loopw [5] (fun i wr=>i=aj 0/\wr=w) (fun _ _=>0);case atStart=>exact⟨rfl,rfl⟩
 case round =>(obtain⟨rfl,rfl⟩:=hrel;go_wp2;go_ret;exact⟨rfl,rfl⟩)
theorem avD(v:Value)(ls:List ah)(w:World)(h1:en w v ls)(hl:ls.length<=1000) :
  aB 119 #[v,aH] w fun e w'=>e=.returned (.bool true)/\w'=w:=by obtain⟨g,off,cap,rfl,hc1,ye⟩:=h1;have hg1:=ye.1;clear ye;have H7:¬(ls.length:Int)<0:=ae;have HS:Hid (∀a c,aB 117 #[.slice a 0 c,aH] w fun e w'=>e=.returned (.bool true)/\w'=w):=fun a c=>avC a c w;generalize ls.length=d at *;by_cases KR:cap=d;all_goals(go_enter func119,ntmps119;go_wp2_with fail;refine(HS _ _).mono ?_;rintro e w1 ⟨rfl,rfl⟩;go_wp2;go_ret;exact⟨rfl,rfl⟩)
theorem avE(zb:Nat)(o:ah)(rs:List ai)(w:World)(hz:mM w zb o rs)(hf:Bk o rs) :
  aB 143 #[aM zb,aH] w fun e w'=>(∃t:Bool,e=.returned (.bool t))/\au w w':=by
 obtain⟨vo,b,off,cap,z0,z1,z2,z3⟩:=hz;have hzl:zb<w.heap.size:=(bV.1 z0).1;have zc:w.cell? (ak zb 1)=some (aD b off rs.length cap):=by unfold World.cell?; rw[z0];rfl
 have bC:=ag z3;have oM:=hf.2.1;have aW:=ag hf;clear z0 z1 z3 hf;go_enter func143,ntmps143;go_wp2_with fail;go_loopw [5] (fun i wr=>i=aj 0/\wr=w) (fun _ _=>0);case atStart=>exact⟨rfl,rfl⟩
 case round =>(obtain⟨rfl,rfl⟩:=hrel;by_cases hlt:0<rs.length;{have gy:(0:Int)<(rs.length:Int):=ae;obtain⟨ro,rw',c0,aC,c2,c3,aV,gh,jF⟩:=(af bC) 0 hlt;have hrl:=aW.2.2 rs[0] (cM hlt);have HS:=ag (avD ro (az 46 rs[0].owner) _ gh (p8 hrl));rw[rK,gK]at c0;clear aC c2 c3 aV gh jF hrl;go_wp2_with fail;refine HS.mono ?_;rintro e w1 ⟨rfl,rfl⟩;go_wp2;go_ret;exact⟨⟨true,rfl⟩,bR _ _⟩};{have gy:¬(0:Int)<(rs.length:Int):=ae;go_wp2;go_ret;exact⟨.inl rfl,bR _ _⟩})
structure rC(vb:Option Nat)(n:Nat)(w w':World):Prop where
 os:w'.os=w.os
 tape:w'.tape=w.tape
 output:w'.output=w.output
 size:w.heap.size<=w'.heap.size
 block:∀k,k<w.heap.size->some k≠vb->w'.heap[k]? = w.heap[k]?
 cell:∀g,vb=some g->∀off,(∀j,j<n->off≠j*5)->w'.cell? (ak g off)=w.cell? (ak g off)
theorem rC.refl(vb:Option Nat)(n:Nat)(w:World):rC vb n w w:=⟨rfl,rfl,rfl,bH _,fun _ _ _=>rfl,fun _ _ _ _=>rfl⟩
section
variable {vb:Option Nat} {n:Nat} {w A C:World}
theorem rC.below(h:rC vb n w A)(hb:au A C)(hv:∀g,vb=some g->g<w.heap.size):rC vb n w C :=
 ⟨hb.os.trans h.os,hb.tape.trans h.tape,hb.output.trans h.output,a_ h.size hb.size,fun k hk hn=>(hb.block k (dP hk h.size)).trans (h.block k hk hn),
  fun g hg off ho=>(dh (a:=⟨g,off,none⟩) (hb.block g (dP (hv g hg) h.size))).trans (h.cell g hg off ho)⟩
theorem rC.set(h:rC vb n w A){g:Nat}(hg:vb=some g){j:Nat}(hj:j<n)(u:Value):rC vb n w (A.setCell ⟨g,j*5,none⟩ u) :=
 ⟨h.os,h.tape,h.output,a_ h.size ar,fun k hk hn=>(wh A (ak g (j*5)) k u (fun e=>hn (by rw[hg,e]))).trans (h.block k hk hn),
  fun g' pq off ho=>by
   obtain rfl:g=g':=fq (hg.symm.trans pq);refine Eq.trans ?_ (h.cell g hg off ho);have hne:off≠j*5:=ho j hj;unfold World.cell? World.setCell;simp only[fw,gZ];cases hh:A.heap[g]? with
   | none=>rfl
   | some o =>
    cases o with
    | cells cs t f=>simp[Sv,Ht hne]
    | _=>rfl⟩
theorem rC.avF(h:rC vb n w A)(hs:∀g,vb=some g->∀j,j<n->∃a m c,w.cell? (ak g (j*5))=some (.slice a m c)){b off:Nat}{x:ByteArray}(hc:w.cell? (ak b off)=some (.string x)):A.cell? (ak b off)=some (.string x):=by by_cases hv:some b=vb;{refine(h.cell b hv.symm off fun j hj e=>?_).trans hc;obtain⟨a,m,c,h1⟩:=hs b hv.symm j hj;rw[e]at hc;rw[hc]at h1;cases h1};{exact(dh (a:=⟨b,off,none⟩) (h.block b (iz w (ak b off) hc) hv)).trans hc}
theorem rC.nm(h:rC vb n w A)(hs:∀g,vb=some g->∀j,j<n->∃a m c,w.cell? (ak g (j*5))=some (.slice a m c)){v:Value}{ls:List ah}(hv:en w v ls):en A v ls:=by obtain⟨g,off,cap,h1,h2,h3⟩:=hv;exact⟨g,off,cap,h1,h2,dP h3.1 h.size,fun j hj=>h.avF hs (h3.2 j hj)⟩
theorem rC.row(h:rC vb n w A){v:Value}{xs:List bA}(hr:gY w v xs)(hv:(∀g,v.ownBlock=some g->vb≠some g)\/xs = []\/n=0):gY A v xs:=by rcases hr with hr|⟨g,off,cap,h1,h2,h3,h4⟩;{exact .inl hr};{refine .inr ⟨g,off,cap,h1,h2,dP h3 h.size,fun j hj=>?_⟩;have k:(some g≠vb\/n=0)->∀(o:Nat) (u:Value),w.cell? (ak g o)=some u->A.cell? (ak g o)=some u:=fun hk o u hu=>by{by_cases hgb:some g=vb;{rcases hk with hk|hk;{exact absurd hgb hk};{exact(h.cell g hgb.symm o (fun j hj=>ae)).trans hu}};{exact(dh (a:=⟨g,o,none⟩) (h.block g h3 hgb)).trans hu}};obtain⟨k0,k1,k2,k3,k4⟩:=h4 j hj;have hk:some g≠vb\/n=0:=by{rcases hv with hv|hv|hv;{exact .inl fun e=>hv g (by rw[h1];rfl) e.symm};{rw[hv]at hj;simp at hj};{exact .inr hv}};exact⟨k hk _ _ k0,k hk _ _ k1,k hk _ _ k2,k hk _ _ k3,k hk _ _ k4⟩}
end
def my(y:Value×Value×ai):bA:=(y.1,y.2.1,y.2.2,aT y.2.2.owner)
theorem MZ(l:List (Value×Value×ai)):(l.map my).flatMap ji=l.flatMap wZ:=by rw[List.flatMap_map];rfl
def vO(qv:Value)(qn:List ah)(x:bA):bA:=if aT x.2.2.1.owner=cC qn then(qv,x.2.1,x.2.2.1,qn)else x
def kI(qv:Value)(qn:List ah)(xs:List bA)(i:Nat):List bA:=(xs.take i).map (vO qv qn)++xs.drop i
theorem RH(qv:Value)(qn:List ah)(xs:List bA)(i:Nat):(kI qv qn xs i).length=xs.length:=by unfold kI;rw[bj,bY,gD,fM];omega
theorem Yp(qv:Value)(qn:List ah)(xs:List bA)(i:Nat)(h:i<xs.length):(kI qv qn xs i)[i]? = some xs[i]:=by unfold kI;rw[y_ (by rw[bY,gD];omega),bY,gD,v_ ae,rJ,NM,gK,iw h]
theorem ahY(qv:Value)(qn:List ah)(xs:List bA)(i:Nat)(h:i<xs.length):kI qv qn xs (i+1)=(kI qv qn xs i).set i (vO qv qn xs[i]):=by
 unfold kI;have hl:((xs.take i).map (vO qv qn)).length=i:=by rw[bY,gD];omega
 rw[gp h,gJ,ko h,AA _ _ ae,hl,rJ,eC,fP];rfl
theorem avG(qv:Value)(qn:List ah)(xs:List bA)(i:Nat)(h:i<xs.length)(hn:aT xs[i].2.2.1.owner≠cC qn):kI qv qn xs (i+1)=kI qv qn xs i:=by
 have hu:vO qv qn xs[i]=xs[i]:=by unfold vO;rw[aF hn]
 rw[ahY qv qn xs i h,hu];have h1:=Yp qv qn xs i h;have h2:i<(kI qv qn xs i).length:=by rw[RH];exact h
 rw[iw h2]at h1;rw[<- fq h1,List.set_getElem_self]
theorem avH(qv:Value)(qn:List ah)(xs:List bA)(i:Nat):(kI qv qn xs i).map (·.2.2.1)=xs.map (·.2.2.1):=by unfold kI;rw[gJ,kY];have:(xs.take i).map ((·.2.2.1) ∘ vO qv qn)=(xs.take i).map (·.2.2.1):=oB fun x _=>by{show(vO qv qn x).2.2.1=x.2.2.1;unfold vO;split <;> rfl};rw[this,<- gJ,j9]
theorem avI(qv:Value)(qn:List ah)(xs:List bA):kI qv qn xs xs.length=xs.map (vO qv qn):=by unfold kI;rw[gV,vU,h_]
theorem avJ(qv:Value)(qn:List ah)(xs:List bA):kI qv qn xs 0=xs:=rfl
theorem ahZ:∀(xs:List bA) (i:Nat) (h:i<xs.length) (u:Value),(xs.flatMap ji).set (i*5) u=(xs.set i (u,xs[i].2)).flatMap ji
 | x :: xs,0,_,u=>rfl
 | x :: xs,i+1,h,u=>by
  have h':i<xs.length:=by simp at h;omega
  rw[iV,AA _ _ (by show 5<=_;omega),eX,iV];have:(i+1)*5 - (ji x).length=i*5:=by show(i+1)*5 - 5=_;omega
  rw[this,ahZ xs i h' u];rfl
theorem avK(qv:Value)(qn:List ah)(xs:List bA)(i:Nat)(h:i<xs.length)(hn:aT xs[i].2.2.1.owner=cC qn):(((kI qv qn xs i).flatMap ji).set (i*5) qv)=(kI qv qn xs (i+1)).flatMap ji:=by
 have hu:vO qv qn xs[i]=(qv,xs[i].2.1,xs[i].2.2.1,qn):=by unfold vO;rw[aJ hn]
 have h2:i<(kI qv qn xs i).length:=by rw[RH];exact h
 have h1:=Yp qv qn xs i h;rw [iw h2] at h1;have h3:=fq h1;rw [ahY qv qn xs i h,hu];rw [ahZ (kI qv qn xs i) i h2 qv,h3]
 have key:∀(l:List bA) (k:Nat) (a b:bA),ji a=ji b->(l.set k a).flatMap ji=(l.set k b).flatMap ji:=by{
 intro l;induction l with
 | nil=>intro k a b _;rfl
 | cons y l ih =>{
 intro k a b hab;cases k with
 | zero=>rw[eC,eC,iV,iV,hab]
 | succ k=>rw[eX,eX,iV,iV,ih k a b hab]}};exact key _ _ _ _ rfl
theorem avL{p:Nat->Prop}{w w':World}{v:Value}{xs:List bA}(h:gY w v xs)(hf:bn p w w')(hp:∀g,v.ownBlock=some g->p g):gY w' v xs:=by rcases h with h|⟨g,off,cap,h1,h2,h3,h4⟩;{exact .inl h};{have hb:w'.heap[g]? = w.heap[g]?:=hf.block g h3 (hp g (by rw[h1];rfl));have k:∀(o:Nat) (u:Value),w.cell? (ak g o)=some u->w'.cell? (ak g o)=some u:=fun o u hu=>(dh (a:=⟨g,o,none⟩) hb).trans hu;refine .inr ⟨g,off,cap,h1,h2,dP h3 hf.size,fun j hj=>?_⟩;obtain⟨k0,k1,k2,k3,k4⟩:=h4 j hj;exact⟨k _ _ k0,k _ _ k1,k _ _ k2,k _ _ k3,k _ _ k4⟩}
theorem Yq{w w':World}{v:Value}{ls:List ah}{b:Nat}{rc:Int}{aa:Bool}(h:en w v ls)(hl:0<ls.length)(hr:dM w b rc aa (aH) (aH) (aH))(hf:bn (fun k=>k≠b) w w'):en w' v ls:=by obtain⟨g,off,cap,h1,h2,h3⟩:=h;exact⟨g,off,cap,h1,h2,h3.fr hf (Wb h3 hl hr)⟩
theorem ah0{w:World}{base:Nat}{v:Value}{xs:List bA}(h:w.ownsRow base 119 5 v xs.length (xs.flatMap ji))(hl:0<xs.length):∃g,v.ownBlock=some g/\w.cell? (ak g 2)=some (aj xs[0].2.2.1.type):=by rcases h.2 with⟨_,h0⟩|⟨g,cap,cur,rfl,hg,aZ,dt,hmx,hsz,ja⟩;{omega};{refine⟨g,rfl,?_⟩;have h1:=MU xs 0 hl 2 ae;rw[<- ja,ze ae]at h1;unfold World.cell?;rw[aZ];simpa [ji]using h1}
structure avM(w':World)(v:Value)(q:Int×Bool×List ai×List ai)(add:List ai)(qn:List ah)(t:Bool)(va vu vd:Value)(xa bL xd:List bA):Prop where
 v:v=.agg #[aj q.1,.bool q.2.1,va,vu,vd]
 ra:gY w' va xa
 aBe:gY w' vu bL
 aBf:gY w' vd xd
 ma:xa.map (·.2.2.1)=q.2.2.1
 mu:bL.map (·.2.2.1)=q.2.2.2
 md:xd.map (·.2.2.1)=add
 la:∀x∈xa,x.2.2.2=if t=false/\aT x.2.2.1.owner=cC qn then qn else aT x.2.2.1.owner
 yU:∀x∈bL++xd,x.2.2.2=aT x.2.2.1.owner
 nm:∀x∈xa++(bL++xd),en w' x.1 x.2.2.2/\en w' x.2.1 (az 32 x.2.2.1.data)
def Yr(w':World)(e:Ending)(q:Int×Bool×List ai×List ai)(add:List ai)(qn:List ah):Prop:=∃v t va vu vd xa bL xd,e=.returned v/\avM w' v q add qn t va vu vd xa bL xd
theorem avN(zb lV nc:Nat)(o qs T:ah)(rs:List ai)(qn:List ah)(ty cl:Int)(op:Bool)(sz aU:Int)(kS w:World)(hz:mM kS zb o rs)(jO:au kS w)(bq:kE o rs)(hq:fS w lV 0 qn)(qa:qn.length<=nc)(hne:qn≠[])(hT:aT T=cC qn)(G9:fC T)(AX:T.length<=260)(Cm:∀x∈qn,x.length<=255)(RI:qn.length<=300)
  (dJ:(jf o rs ty T).2.2.2≠[]->(∀r∈(jf o rs ty T).2.2.1,r.type=5)/\∀r∈(jf o rs ty T).2.2.2,r.type≠5) :
  aB 77 #[aM zb,.agg #[ay qs,aD lV 0 qn.length nc,aj ty,aj cl,.bool op,aj sz,aj aU]] w fun e w' =>
   Yr w' e (jf o rs ty T) (sJ o rs ty T) qn/\au w w':=by
 obtain⟨i0,lQ,hz0,hz1,hz2⟩:=kJ HZ;obtain⟨dV,nL⟩:∃dV:Obj,dV=.cells #[.string (aq qs),.slice (some ⟨lV,0,none⟩) qn.length nc,.int .i64 ty,.int .i64 cl,.bool op,.int .i64 sz,.int .i64 aU] 144:=⟨_,rfl⟩;obtain⟨dp,lC⟩:∃dp:Obj,dp=.cells #[.int .i64 0,.bool false,.slice none 0 0,.slice none 0 0,.slice none 0 0] 123:=⟨_,rfl⟩;have gN:Hid (au w ((w.alloc dV).alloc dp)):=(aO.alloc aA _).alloc ar _;have hs0:((w.alloc dV).alloc dp).heap.size=w.heap.size+2:=ar;have sU:Hid (((w.alloc dV).alloc dp).heap[w.heap.size]? = some (.cells #[.string (aq qs),.slice (some ⟨lV,0,none⟩) qn.length nc,.int .i64 ty,.int .i64 cl,.bool op,.int .i64 sz,.int .i64 aU] 144)):=by{rw[Hid,<- nL];exact(cD (w.alloc dV) dp w.heap.size ar).trans (World.alloc_heap_new w dV)};have mf:Hid (dM ((w.alloc dV).alloc dp) (w.heap.size+1) 0 false (aH) (aH) (aH)):=by{have:=World.alloc_heap_new (w.alloc dV) dp;rw[dD]at this;unfold dM;rw[Hid,this,lC]};have dv:=ag hz;have cF:=ag bq;have RJ:=ag Cm;have Al:=ag (bg hT (bg G9 AX));have xe:=ag dJ;have pC:=ag (fun W (hb:au w W)=>jO.trans (hb.mono jO.size));have Ys:=ag hq;have np:=hq.1;clear hz bq Cm hT G9 AX dJ jO hq;go_enter func77,ntmps77;go_wp2_with fail;rw[<- nL,<- lC];obtain⟨w1,hw1⟩:∃w1,(w.alloc dV).alloc dp=w1:=⟨_,rfl⟩;rw[hw1]at gN hs0 sU mf ⊢;have hs1:w.heap.size+2<=w1.heap.size:=ae;clear hw1 nL lC hs0;go_loopw [5,6] (fun lv iv wr=>∃k:Nat,iv=aj k/\k<=qn.length/\mK wr w1.heap.size lv ((cC qn).take k)/\au w1 wr) (fun _ iv _=>qn.length - (intOf iv).toNat);case atStart=>exact⟨0,rfl,cV _,⟨ia _ _ _ _,ar⟩,bR _ _⟩
 case round =>(
 obtain⟨k,rfl,hk,nz,hb⟩:=hrel;have aX:=ag hb;have HO:=ag nz;have bX:=hb.size;have hQ:wr.heap[w.heap.size]? = _:=(hb.block w.heap.size ae).trans (af sU);have q1:wr.cell? (ak w.heap.size 1)=some (aD lV 0 qn.length nc):=by simp[World.cell?,hQ]
 have q2:wr.cell? (ak w.heap.size 2)=some (aj ty):=by simp[World.cell?,hQ]
 clear hb nz hQ;by_cases hlk:k<qn.length;{
 have aC:wr.cell? (ak lV k)=some (.string (aq qn[k])):=by{have h0:=Ys.2 k hlk;rw[eY]at h0;exact((gN.trans (aX.mono ae)).cell (p:=⟨lV,k,none⟩) np).trans h0};have g_:=af RJ qn[k] (cM hlk);have avO:Hid ((cC qn).take (k+1)=(cC qn).take k++[qn[k].map eV]):=by{rw[Hid,gp (by rw[uk];exact hlk)];simp[cC]};have ej:Hid (((cC qn).take k).length=k):=by rw[Hid,gD,uk,v_ hk]
 generalize qn[k]=x at *;have qh:=ag (afS x wr ae);have Gt:(k:Int)<(qn.length:Int):=ae;generalize Xi:(cC qn).take k=L at *;clear Xi g_;go_wp2_with fail;refine qh.mono ?_;rintro e w2 ⟨rfl,hb2⟩;have bU:=ag hb2;have hs2:=hb2.size;have gv:=ag (ic HO.1 hb2);have Q0:=af ej;clear hb2 qh aC q1 q2;go_wp2_with (at_builtin;go_loud (refine CH _ rfl (.tmp 18) (.tmp 25) 113 rfl w1.heap.size 9 i0 (.string ⟨#[]⟩) 1 16 Iw lQ hz0 hz1 hz2 rfl bD _ L.length _ rfl (gv.alloc _) (ak w2.heap.size 0) 1 1 [ay (x.map eV)] rfl rfl (N4 _ _ _) (fun u hu=>by simp at hu;subst hu;rfl) (by unfold maxLen;omega) ae aP ?_));intro v' w3 hown' hgrow x9 _;have eE:Hid (mK w3 w1.heap.size v' ((cC qn).take (k+1))/\au w1 w3):=by{rw[Hid,af avO];refine⟨⟨by rw[bj,gJ,af ej];exact hown',⟨fun h=>absurd h (by simpa using x9),fun h=>by simp at h⟩⟩,?_⟩;have hB:=aX.trans (bU.mono aX.size);exact(hB.alloc ae _).trans ⟨hgrow.os,hgrow.tape,hgrow.output,hgrow.size,fun k hk=>hgrow.block k aP (fun e=>by have:=(iW (af gv) k e.symm).1;omega)⟩};clear hown' hgrow x9;go_wp2;exact⟨⟨k+1,bW,ae,eE.1,eE.2⟩,c5⟩};{
 obtain rfl:k=qn.length:=ae;have nz:=af HO;rw[pd (by rw[uk];exact bH _),<- Al.1]at nz;have Gt:¬(qn.length:Int)<(qn.length:Int):=ae;obtain⟨gl,lc,rfl,hlc,hbl,fZ⟩:=zH nz (PV T);have DJ:=ag fZ;have avP:0<(aT T).length:=Qt T;have nA:=gN.trans (aX.mono ae);have qR:=ag nA;have Ey:=ag (aeo zb (aD gl 0 (aT T).length lc) o rs ty (jf o rs ty T) (fun _=>False) kS wr (af dv) (pC wr nA) (fun _ _ h=>h) (fun _ _ h=>h) (af cF) (.inl ⟨gl,0,lc,T,rfl,fun h=>h,fZ,hlc,Al.2.1,Al.2.2,rfl⟩));have aBg:(((aT T).length:Int) == 0)=false:=by simp[PV T]
 clear nz HO hlk hk fZ nA RJ;go_wp2_with fail;refine Ey.mono ?_;rintro e w3 ⟨⟨v,rfl,hv⟩,hb3⟩;obtain⟨RES,RL⟩:=bF (jf o rs ty T);obtain⟨AD,Yt⟩:=bF (sJ o rs ty T);have had:Wa rs (jf o rs ty T)=AD:=by rw[Yt];rfl
 rw [had,<- RL] at hv;rw [<- RL] at xe;have DT:=ag (bg RL Yt);obtain ⟨va,vu,vd,rfl,oa,RM,od,hap⟩:=hv;obtain ⟨ya,rfl',a1,a2⟩:=oa;obtain ⟨kj,ah1,u1,u2⟩:=RM;obtain ⟨yd,rd',d1,d2⟩:=od;have aBh:=hb3.size;have ig:=qR.trans (hb3.mono qR.size);have cK:=ag ig
 have jP:∀ {v:Value} {n:Nat} {xs:List Value},w3.ownsRow wr.heap.size 119 5 v n xs->∃a c,v=.slice a n c:=fun h=>by{rcases h.2 with⟨h,h0⟩|⟨g,cap,cur,h,_⟩;{exact⟨none,0,by rw[h,h0]⟩};{exact⟨_,_,h⟩}};obtain⟨aa,ca,rU⟩:=jP a1;obtain⟨ab,cb,Yu⟩:=jP u1;obtain⟨ac,cc,ue⟩:=jP d1;have kG:Hid (w3.heap[w.heap.size]? = some (.cells #[.string (aq qs),.slice (some ⟨lV,0,none⟩) qn.length nc,.int .i64 ty,.int .i64 cl,.bool op,.int .i64 sz,.int .i64 aU] 144)):=(hb3.block w.heap.size ae).trans ((aX.block w.heap.size ae).trans (af sU));have oV:Hid (dM w3 (w.heap.size+1) 0 false (aH) (aH) (aH)):=(hb3.block (w.heap.size+1) ae).trans ((aX.block (w.heap.size+1) ae).trans (af mf));have H2:=ag (DJ.below hb3);have G_:=ag (bg rfl' (bg a1 a2));have Ez:=ag (bg ah1 (bg u1 u2));have mi:=ag (bg rd' (bg d1 d2));have IK:=ag hap;clear rfl' a1 a2 ah1 u1 u2 rd' d1 d2 hap hb3 ig Ey aX gN qR sU mf DJ RL Yt had jP;subst rU Yu ue;obtain⟨rc,ab',ans,bS⟩:=RES;simp only at *;go_wp2_with fail;obtain⟨OP,Ha⟩:∃OP:Obj,OP=.cells #[.int .i64 rc,.bool ab',.slice aa ya.length ca,.slice ab kj.length cb,.slice ac yd.length cc] 123:=⟨_,rfl⟩;rw[<- Ha];have hb4:au w3 (w3.alloc OP):=aO.alloc aA _;have II:Hid (dM (w3.alloc OP) w3.heap.size rc ab' (.slice aa ya.length ca) (.slice ab kj.length cb) (.slice ac yd.length cc)):=by{unfold dM;rw[Hid,World.alloc_heap_new,Ha]};have gj:(w3.alloc OP).heap.size=w3.heap.size+1:=ar;have jb:=ag hb4;have gH:=cK.trans (hb4.mono cK.size);have ah2:(aT T).length<=1000:=by rw[Al.1,uk];omega
 have xh:=ag (Vl zb o rs (aD gl 0 (aT T).length lc) (aT T) (w3.alloc OP) (dv.below (pC _ gH)) (P7 (af cF)) ⟨gl,0,lc,rfl,hlc,H2.below hb4⟩ ah2 avP);clear hb4 gH;generalize w3.alloc OP=w4 at *;refine xh.mono ?_;rintro e w5 ⟨rfl,hb5⟩;have sV:=jb.trans (hb5.mono jb.size);obtain⟨t,ht⟩:=bF (tU rs (aT T));rw[<- ht];clear ht;have aBi:=sV.size;have aBj:=hb5.size;have ah3:Hid (dM w5 w3.heap.size rc ab' (.slice aa ya.length ca) (.slice ab kj.length cb) (.slice ac yd.length cc)):=(hb5.block w3.heap.size ae).trans (af II);have rp:Hid (w5.heap[w.heap.size]? = some (.cells #[.string (aq qs),.slice (some ⟨lV,0,none⟩) qn.length nc,.int .i64 ty,.int .i64 cl,.bool op,.int .i64 sz,.int .i64 aU] 144)):=(sV.block w.heap.size ae).trans (af kG);have n9:Hid (dM w5 (w.heap.size+1) 0 false (aH) (aH) (aH)):=(sV.block (w.heap.size+1) ae).trans (af oV);have avQ:=ag (H2.below sV);have fR:=ag (cK.trans (sV.mono cK.size));obtain⟨fD,vJ⟩:=bF (ya.map my);have zR:fD.length=ya.length:=by rw[vJ,bY]
 have nW:Hid (w5.ownsRow wr.heap.size 119 5 (.slice aa ya.length ca) ya.length (fD.flatMap ji)):=by rw[Hid,vJ,MZ];exact ic G_.2.1 sV
 have jG:Hid (∀x∈fD,en w5 x.1 (aT x.2.2.1.owner)/\en w5 x.2.1 (az 32 x.2.2.1.data)/\x.2.2.2=aT x.2.2.1.owner):=fun x hx=>by{rw[vJ]at hx;obtain⟨y,hy,rfl⟩:=jZ.1 hx;have:=G_.2.2 y hy;exact⟨this.1.nm.below sV,this.2.nm.below sV,rfl⟩};have Ky:Hid (fD.map (·.2.2.1)=ans):=by rw[Hid,vJ,kY];exact G_.1
 have Yv:Hid (gY w5 (.slice ab kj.length cb) (kj.map my)/\gY w5 (.slice ac yd.length cc) (yd.map my)/\(∀x∈kj.map my++yd.map my,en w5 x.1 (aT x.2.2.1.owner)/\en w5 x.2.1 (az 32 x.2.2.1.data)/\x.2.2.2=aT x.2.2.1.owner)/\(kj.map my).map (·.2.2.1)=bS/\(yd.map my).map (·.2.2.1)=AD):=by{
 have r1:w5.ownsRow wr.heap.size 119 5 (.slice ab kj.length cb) (kj.map my).length ((kj.map my).flatMap ji):=by rw[MZ,bY];exact ic Ez.2.1 sV
 have r2:w5.ownsRow wr.heap.size 119 5 (.slice ac yd.length cc) (yd.map my).length ((yd.map my).flatMap ji):=by rw[MZ,bY];exact ic mi.2.1 sV
 refine ⟨RA r1,RA r2,fun x hx=>?_,by rw [kY]; exact Ez.1,by rw [kY]; exact mi.1⟩;rcases gm.1 hx with hx | hx;{obtain ⟨y,hy,rfl⟩:=jZ.1 hx;have:=Ez.2.2 y hy;exact ⟨this.1.nm.below sV,this.2.nm.below sV,rfl⟩};{obtain ⟨y,hy,rfl⟩:=jZ.1 hx;have:=mi.2.2 y hy;exact ⟨this.1.nm.below sV,this.2.nm.below sV,rfl⟩}};have oY:Hid ((∀ g,(Value.slice aa ya.length ca).ownBlock=some g->wr.heap.size<=g/\g<w3.heap.size)/\(∀ g,(Value.slice ab kj.length cb).ownBlock=some g->wr.heap.size<=g/\g<w3.heap.size)/\(∀ g,(Value.slice ac yd.length cc).ownBlock=some g->wr.heap.size<=g/\g<w3.heap.size)):=⟨iW G_.2.1,iW Ez.2.1,iW mi.2.1⟩
 have Mq:Hid ((Value.slice ab kj.length cb).ownBlock≠(Value.slice aa ya.length ca).ownBlock\/kj.map my = []\/ya = []):=by{by_cases h1:kj = [];{exact .inr (.inl (by rw[h1];rfl))};by_cases h2:ya = [];{exact .inr (.inr h2)};refine .inl fun he=>?_;have avR:bS≠[]:=fun e=>h1 (by have:=Ez.1;rw[e]at this;simpa using this);obtain⟨t1,t2⟩:=af xe avR;have la:0<ya.length:=Cy.2 h2;have yU:0<kj.length:=Cy.2 h1;obtain⟨g,e1,k1⟩:=ah0 (xs:=ya.map my) (by rw[MZ,bY];exact G_.2.1) (by rw[bY];exact la);obtain⟨g',e2,k2⟩:=ah0 (xs:=kj.map my) (by rw[MZ,bY];exact Ez.2.1) (by rw[bY];exact yU);have zQ:g=g':=fq (e1.symm.trans (he.symm.trans e2));rw[zQ]at k1;rw[k1]at k2;have ah4:((ya.map my)[0]'(by rw[bY];exact la)).2.2.1.type=((kj.map my)[0]'(by rw[bY];exact yU)).2.2.1.type:=by{have:=fq k2;simpa using this};rw[vW,vW]at ah4;refine t2 kj[0].2.2 ?_ ?_;{rw[<- Ez.1];exact Cz (cM yU)};{refine(Eq.symm ah4).trans (t1 ya[0].2.2 ?_);rw[<- G_.1];exact Cz (cM la)}};have tX:Hid (∀g,(Value.slice aa ya.length ca).ownBlock=some g->∀j,j<ya.length->∃a m c,w5.cell? (ak g (j*5))=some (.slice a m c)):=fun g hg j hj=>by{have aa6:aa=some (ak g 0):=by{rcases nW.2 with⟨h,_⟩|⟨g',cap',cur,h,_⟩;{rw[h]at hg;cases hg};{have h1:=(mS h).1;rw[h1]at hg ⊢;simp[Value.ownBlock]at hg;rw[hg]}};have ho:=af nW;rw[aa6]at ho;have hc:=uy ho (j*5) ae;have hx:=MU fD j ae 0 ae;rw[gK]at hx;rw[hx]at hc;obtain⟨g2,o2,c2,e2,_,_⟩:=(jG fD[j] (cM _)).1;exact⟨_,_,_,hc.trans (dE some e2)⟩};have RN:=ag (bg rfl rfl:(ans=ans/\bS=bS));obtain⟨n,hn⟩:=bF ya.length;rw[<- hn]at ah3 nW oY Mq tX zR IK ⊢;have avS:Hid (ya = []->n=0):=fun h=>by rw[hn,h];rfl
 clear hn xh G_ Ez mi II jb cK kG oV H2 hb5 sV vJ Ha RN xe;have yy:n<=1000:=by{have h:=(F9 (af cF) ty 9 true false [] T Al.2.1 Al.2.2 (fun r hr=>by cases hr) (cV _)).2.2.1;have e:je o (aN rs) ty 9 true false [] T=(rc,ab',ans,bS):=DT.1.symm;rw[e]at h;have h2:=dE List.length (af Ky);rw[bY,zR]at h2;simp only at h;omega};generalize wr=wA at *;go_wp2_with fail;go_loopw [9] (fun iv wr=>∃i:Nat,iv=aj i/\i<=n/\(t=true->i=0)/\Hid (wr.ownsRow wA.heap.size 119 5 (.slice aa n ca) n ((kI (aD lV 0 qn.length nc) qn fD i).flatMap ji)/\rC (Value.slice aa n ca).ownBlock n w5 wr)) (fun iv _=>n - (intOf iv).toNat);case atStart=>exact⟨0,rfl,cV _,fun _=>rfl,by unfold kI;rw[vZ,Aw];exact nW,rC.refl _ _ _⟩
 case round =>(
 obtain⟨i,rfl,ax,Yw,eG⟩:=hrel;obtain⟨hown,kX⟩:=af eG;have lU:wr.heap[w3.heap.size]? = w5.heap[w3.heap.size]?:=kX.block _ ae (fun e=>by have:=(oY.1 _ e.symm).2;omega);obtain⟨p0,p1,fh,eK,p4⟩:=(ah3.kept lU).cells;have Ro:∀g,(Value.slice aa n ca).ownBlock=some g->g<w5.heap.size:=fun g hg=>by have:=(oY.1 g hg).2;omega
 have yV:wr.heap[w.heap.size]? = w5.heap[w.heap.size]?:=kX.block _ ae (fun e=>by have:=(oY.1 _ e.symm).1;omega);have q1:wr.cell? (ak w.heap.size 1)=some (aD lV 0 qn.length nc):=by simp[World.cell?,yV,af rp]
 have hcs:=kX.size;by_cases hc:i<n/\t=false;{
 obtain⟨hlt,rfl⟩:=hc;clear Yw;have JA:i<fD.length:=ae;obtain⟨g,avT⟩:∃g,aa=some ⟨g,0,none⟩:=by{rcases hown.2 with⟨_,h0⟩|⟨g,cap',cur,h,_⟩;{omega};{exact⟨g,(mS h).1⟩}};subst avT;have hge:=oY.1 g rfl;have dt:n<=ca:=by{rcases hown.2 with⟨_,h0⟩|⟨g',cap',cur,h,_,_,h3,_⟩;{omega};{have:=(mS h).2.2;omega}};have hcell:wr.cell? (ak g (i*5))=some fD[i].1:=by{
 have h1:=uy hown (i*5) ae;have h2:i<(kI (aD lV 0 qn.length nc) qn fD i).length:=by rw[RH];exact JA
 have h3:=MU _ i h2 0 ae;have h4:=Yp (aD lV 0 qn.length nc) qn fD i JA;rw[iw h2]at h4;rw[gK,fq h4]at h3;rw[h1,h3];rfl};have hfz:=S_ hown (i*5);have sK:=af jG fD[i] (cM JA);have mI:=kX.nm (af tX) sK.1;have lq:en wr (aD gl 0 (aT T).length lc) (aT T):=kX.nm (af tX) ⟨gl,0,lc,rfl,hlc,avQ⟩;have gX:(aT fD[i].2.2.1.owner).length<=1000:=by{have h:=(F9 (af cF) ty 9 true false [] T Al.2.1 Al.2.2 (fun r hr=>by cases hr) (cV _)).1;have e:je o (aN rs) ty 9 true false [] T=(rc,ab',ans,bS):=DT.1.symm;rw[e]at h;have h1:=(h fD[i].2.2.1 (by rw[<- af Ky];exact Cz (cM JA))).own;have h2:=pQ 46 fD[i].2.2.1.owner;rw[yw];omega};have HS:=ag (yc _ _ (aT fD[i].2.2.1.owner) (aT T) wr mI lq gX ah2);have qZ:Hid (aT fD[i].2.2.1.owner≠aT T->kI (aD lV 0 qn.length nc) qn fD (i+1)=kI (aD lV 0 qn.length nc) qn fD i):=fun h=>avG _ _ _ _ JA (by rw[<- Al.1];exact h);have wV:Hid (aT fD[i].2.2.1.owner=aT T->(((kI (aD lV 0 qn.length nc) qn fD i).flatMap ji).set (i*5) (aD lV 0 qn.length nc))=(kI (aD lV 0 qn.length nc) qn fD (i+1)).flatMap ji):=fun h=>avK _ _ _ _ JA (by rw[<- Al.1];exact h);obtain⟨Ip,oo,oc,ah5,_,_⟩:=mI;have gy:(i:Int)<(n:Int):=ae;rw[ah5]at HS hcell;generalize (aT fD[i].2.2.1.owner).length=ol at *;generalize aT fD[i].2.2.1.owner=ow at *;clear sK lq gX ah5 hown kX lU yV p0 p1 eK p4;go_wp2_with fail;refine HS.mono ?_;rintro e w6 ⟨rfl,dR⟩;obtain⟨hown,kX⟩:=af eG;have Yx:=ic hown dR;have ah6:=kX.below dR Ro;have sk:=dR.size;have q1':w6.cell? (ak w.heap.size 1)=some (aD lV 0 qn.length nc):=(dR.cell (p:=⟨w.heap.size,1,none⟩) (by show w.heap.size<_;omega)).trans q1;have jF:w6.cell? (ak g (i*5))=_:=(dR.cell (p:=⟨g,i*5,none⟩) (by show g<_;omega)).trans hcell;have f6:w6.frozen? (ak g (i*5))=false:=S_ Yx (i*5);have ah7:w6.cell? (ak w3.heap.size 2)=_:=(dR.cell (p:=⟨w3.heap.size,2,none⟩) (by show w3.heap.size<_;omega)).trans fh;have ah8:=ag Yx;have ah9:=ag ah6;clear hown kX Yx ah6 dR HS eG q1 hcell hfz fh;by_cases p_:ow=aT T;{have HU:=ag (wV p_);rw[iy p_];clear p_ wV qZ;go_wp2_with fail;have hst:=World.ownsRow.stored (af ah8) (i*5) (aD lV 0 qn.length nc);rw[af HU]at hst;exact⟨⟨i+1,bW,ae,(fun h=>by cases h),hst.1,ah9.set rfl hlt _⟩,c5⟩};{have HU:=ag (qZ p_);rw[iB p_];clear p_ wV qZ;go_wp2;exact⟨⟨i+1,bW,ae,(fun h=>by cases h),by rw[af HU];exact ah8,ah9⟩,c5⟩}};{
 have xk:wr.heap[w.heap.size+1]? = w5.heap[w.heap.size+1]?:=kX.block _ ae (fun e=>by have:=(oY.1 _ e.symm).1; omega);have hR:=n9.kept xk;obtain ⟨r0,r1,r2,r3,r4⟩:=hR.cells;have lg:=hR.frozen;have ah_:au w wr:=fR.trans ⟨kX.os,kX.tape,kX.output,kX.size,fun k hk=>kX.block k (by have:=fR.size; omega) (fun e=>by have:=(oY.1 _ e.symm).1; omega)⟩
 have fX:Hid (∃xa,gY wr (.slice aa n ca) xa/\xa.map (·.2.2.1)=ans/\(∀x∈xa,x.2.2.2=if t=false/\aT x.2.2.1.owner=cC qn then qn else aT x.2.2.1.owner)/\∀x∈xa,en wr x.1 x.2.2.2/\en wr x.2.1 (az 32 x.2.2.1.data)):=by{
 refine⟨kI (aD lV 0 qn.length nc) qn fD i,RA (by rw[RH,zR];exact hown),by rw[avH];exact Ky,?_⟩;cases t with
 | true =>{rw[Yw rfl,avJ];refine⟨fun x hx=>?_,fun x hx=>?_⟩;{rw[aF ar];exact(jG x hx).2.2};{have h:=af jG x hx;rw[h.2.2];exact⟨kX.nm (af tX) h.1,kX.nm (af tX) h.2.1⟩}}
 | false =>{have hin:i=fD.length:=by{rw[zR];exact Nat.le_antisymm ax (Nat.le_of_not_lt fun h=>hc ⟨h,rfl⟩)};rw[hin,avI];have RO:en wr (aD lV 0 qn.length nc) qn:=kX.nm (af tX) ⟨lV,0,nc,rfl,qa,dP Ys.1 fR.size,fun j hj=>(fR.cell (p:=⟨lV,0+j,none⟩) np).trans (Ys.2 j hj)⟩;refine⟨fun x hx=>?_,fun x hx=>?_⟩;{obtain⟨y,hy,rfl⟩:=jZ.1 hx;have h:=af jG y hy;unfold vO;by_cases he:aT y.2.2.1.owner=cC qn;{rw[aJ he,aJ ⟨rfl,he⟩]};{rw[aF he,aF (fun h=>he h.2)];exact h.2.2}};{obtain⟨y,hy,rfl⟩:=jZ.1 hx;have h:=af jG y hy;unfold vO;by_cases he:aT y.2.2.1.owner=cC qn;{rw[aJ he];exact⟨RO,kX.nm (af tX) h.2.1⟩};{rw[aF he,h.2.2];exact⟨kX.nm (af tX) h.1,kX.nm (af tX) h.2.1⟩}}}};have Yy:Hid (gY wr (.slice ab kj.length cb) (kj.map my)/\gY wr (.slice ac yd.length cc) (yd.map my)/\∀x∈kj.map my++yd.map my,x.2.2.2=aT x.2.2.1.owner/\en wr x.1 x.2.2.2/\en wr x.2.1 (az 32 x.2.2.1.data)):=by{obtain⟨e1,e2,e3,_,_⟩:=af Yv;refine⟨kX.row e1 ?_,kX.row e2 (.inl fun g hg=>af IK g hg),fun x hx=>?_⟩;{rcases af Mq with h|h|h;{exact .inl fun g hg he=>h (hg.trans he.symm)};{exact .inr (.inl h)};{exact .inr (.inr (avS h))}};{have h:=e3 x hx;rw[h.2.2];exact⟨rfl,kX.nm (af tX) h.1,kX.nm (af tX) h.2.1⟩}};have ly:=ag ah_;have ui:=ag hR;have sD:¬(i:Int)<(n:Int)\/((i:Int)<(n:Int)/\t=true):=by{by_cases h1:i<n;{right;refine⟨ae,?_⟩;cases t;{exact absurd ⟨h1,rfl⟩ hc};{rfl}};{left;omega}};clear hown kX lU yV xk hR ah_ hc eG Yw q1;have h5:Hid (∀(W:World),dM W (w.heap.size+1) rc ab' (.slice aa n ca) (.slice ab kj.length cb) (.slice ac yd.length cc)->True):=fun _ _=>aQ;rcases sD with h1|⟨h1,ye⟩;all_goals(go_wp2_with fail;have A9:=(((((ui.set0 rc).set1 ab').set2 (.slice aa n ca)).iM (.slice ab kj.length cb)).lj (.slice ac yd.length cc));have hfr:bn (fun k=>k≠w.heap.size+1) wr (((((wr.setCell ⟨w.heap.size+1,0,none⟩ (.int .i64 rc)).setCell ⟨w.heap.size+1,1,none⟩ (.bool ab')).setCell ⟨w.heap.size+1,2,none⟩ (.slice aa n ca)).setCell ⟨w.heap.size+1,3,none⟩ (.slice ab kj.length cb)).setCell ⟨w.heap.size+1,4,none⟩ (.slice ac yd.length cc)) := (((((bn.jD (A:=wr) (a:=⟨w.heap.size+1,0,none⟩) _ (fun _ h=>h)).trans (bn.jD (a:=⟨w.heap.size+1,1,none⟩) _ (fun _ h=>h))).trans (bn.jD (a:=⟨w.heap.size+1,2,none⟩) _ (fun _ h=>h))).trans (bn.jD (a:=⟨w.heap.size+1,3,none⟩) _ (fun _ h=>h))).trans (bn.jD (a:=⟨w.heap.size+1,4,none⟩) _ (fun _ h=>h)));have Hb:au w (((((wr.setCell ⟨w.heap.size+1,0,none⟩ (.int .i64 rc)).setCell ⟨w.heap.size+1,1,none⟩ (.bool ab')).setCell ⟨w.heap.size+1,2,none⟩ (.slice aa n ca)).setCell ⟨w.heap.size+1,3,none⟩ (.slice ab kj.length cb)).setCell ⟨w.heap.size+1,4,none⟩ (.slice ac yd.length cc)):=ly.trans ⟨hfr.os,hfr.tape,hfr.output,hfr.size,fun k hk=>hfr.block k (by have:=ly.size;omega) ae⟩;revert A9 hfr Hb;generalize World.setCell _ _ _=qF;intro A9 hfr Hb;obtain⟨n0,n1,n2,n3,n4⟩:=A9.cells;obtain⟨xa,f1,f2,f3,f4⟩:=af fX;obtain⟨g1,g2,g3⟩:=af Yy;refine fB (v:=.agg #[.int .i64 rc,.bool ab',.slice aa n ca,.slice ab kj.length cb,.slice ac yd.length cc]) (by simp[results,results77,go_sem,n0,n1,n2,n3,n4]) rfl ⟨⟨_,t,.slice aa n ca,.slice ab kj.length cb,.slice ac yd.length cc,xa,kj.map my,yd.map my,rfl,?_⟩,Hb⟩;rw[<- DT.1,<- DT.2];have hrow:∀ {v:Value} {xs:List bA},gY wr v xs->(∀g,v.ownBlock=some g->wA.heap.size<=g/\g<w3.heap.size)->gY qF v xs:=fun h hb=>avL h hfr (fun g hg=>by have:=(hb g hg).1;omega);have f_:∀ {v:Value} {ls:List ah},en wr v ls->0<ls.length->en qF v ls:=fun h hl=>Yq h hl (af ui) hfr;have nT:∀x∈xa,0<x.2.2.2.length:=fun x hx=>by{rw[f3 x hx];split;{exact Cy.2 hne};{exact Qt _}};refine⟨rfl,hrow f1 oY.1,hrow g1 oY.2.1,hrow g2 oY.2.2,f2,Yv.2.2.2.1,Yv.2.2.2.2,f3,fun x hx=>(g3 x hx).1,fun x hx=>?_⟩;rcases gm.1 hx with hx|hx;{exact⟨f_ (f4 x hx).1 (nT x hx),f_ (f4 x hx).2 (LQ 32 _)⟩};{have h:=g3 x hx;exact⟨f_ h.2.1 (by rw[h.1];exact Qt _),f_ h.2.2 (LQ 32 _)⟩})})})
theorem avU(zb:Nat)(o qs:ah)(rs:List ai)(ty cl:Int)(op:Bool)(sz aU:Int)(kS w:World)(hz:mM kS zb o rs)(jO:au kS w)(bq:kE o rs) :
  aB 77 #[aM zb,.agg #[ay qs,aH,aj ty,aj cl,.bool op,aj sz,aj aU]] w fun e w' =>
   Yr w' e (5,false,[],[]) [] []/\au w w':=by
 obtain⟨dV,nL⟩:∃dV:Obj,dV=.cells #[.string (aq qs),.slice none 0 0,.int .i64 ty,.int .i64 cl,.bool op,.int .i64 sz,.int .i64 aU] 144:=⟨_,rfl⟩;obtain⟨dp,lC⟩:∃dp:Obj,dp=.cells #[.int .i64 0,.bool false,.slice none 0 0,.slice none 0 0,.slice none 0 0] 123:=⟨_,rfl⟩;have gN:Hid (au w ((w.alloc dV).alloc dp)):=(aO.alloc aA _).alloc ar _;have hs0:((w.alloc dV).alloc dp).heap.size=w.heap.size+2:=ar;have vK:((w.alloc dV).alloc dp).heap[w.heap.size]? = some (.cells #[.string (aq qs),.slice none 0 0,.int .i64 ty,.int .i64 cl,.bool op,.int .i64 sz,.int .i64 aU] 144):=by{rw[<- nL];exact(cD (w.alloc dV) dp w.heap.size ar).trans (World.alloc_heap_new w dV)};have q1:((w.alloc dV).alloc dp).cell? (ak w.heap.size 1)=some (aH):=by simp[World.cell?,vK]
 have q2:((w.alloc dV).alloc dp).cell? (ak w.heap.size 2)=some (aj ty):=by simp[World.cell?,vK]
 have mf:Hid (dM ((w.alloc dV).alloc dp) (w.heap.size+1) 0 false (aH) (aH) (aH)):=by{have:=World.alloc_heap_new (w.alloc dV) dp;rw[dD]at this;unfold dM;rw[Hid,this,lC]};have dv:=ag hz;have cF:=ag bq;have pC:=ag (fun W (hb:au w W)=>jO.trans (hb.mono jO.size));clear hz bq jO vK;go_enter func77,ntmps77;go_wp2_with fail;rw[<- nL,<- lC];obtain⟨w1,hw1⟩:∃w1,(w.alloc dV).alloc dp=w1:=⟨_,rfl⟩;rw[hw1]at gN hs0 q1 q2 mf ⊢;have hs1:w.heap.size+2<=w1.heap.size:=ae;clear hw1 nL lC hs0;go_loopw [5,6] (fun lv iv wr=>lv=aH/\iv=aj 0/\wr=w1) (fun _ _ _=>0);case atStart=>exact⟨rfl,rfl,rfl⟩
 case round =>(
 obtain⟨rfl,rfl,hwr⟩:=hrel;have G4:=hwr.symm;subst G4;have Ey:=ag (aeo zb (aH) o rs ty (0,false,[],[]) (fun _=>False) kS w1 (af dv) (pC w1 gN) (fun _ _ h=>h) (fun _ _ h=>h) (af cF) (.inr ⟨rfl,rfl⟩));go_wp2_with fail;refine Ey.mono ?_;rintro e w3 ⟨⟨v,rfl,va,vu,vd,rfl,oa,RM,od,_⟩,hb3⟩;obtain⟨a1,aC,rfl⟩:=oa.slice;obtain⟨a2,c2,rfl⟩:=RM.slice;obtain⟨a3,c3,rfl⟩:=od.slice;have ig:=gN.trans (hb3.mono ae);have hs3:=hb3.size;have oV:Hid (dM w3 (w.heap.size+1) 0 false (aH) (aH) (aH)):=(hb3.block (w.heap.size+1) ae).trans (af mf);have cK:=ag ig;clear oa RM od hb3 ig Ey q1 q2 mf gN;go_wp2_with fail;obtain⟨OP,Ha⟩:∃OP:Obj,OP=.cells #[.int .i64 5,.bool false,.slice none 0 0,.slice none 0 0,.slice none 0 0] 123:=⟨_,rfl⟩;rw[<- Ha];have hb4:au w3 (w3.alloc OP):=aO.alloc aA _;have Dr:dM (w3.alloc OP) w3.heap.size 5 false (aH) (aH) (aH):=by unfold dM;rw[World.alloc_heap_new,Ha]
 have Ej:dM (w3.alloc OP) (w.heap.size+1) 0 false (aH) (aH) (aH):=(hb4.block (w.heap.size+1) ae).trans (af oV);have gH:=cK.trans (hb4.mono cK.size);have xh:=ag (avE zb o rs (w3.alloc OP) (dv.below (pC _ gH)) (P7 (af cF)));refine xh.mono ?_;rintro e w5 ⟨⟨t,rfl⟩,hb5⟩;have aia:dM w5 w3.heap.size 5 false (aH) (aH) (aH):=(hb5.block w3.heap.size ar).trans Dr;have Ek:dM w5 (w.heap.size+1) 0 false (aH) (aH) (aH):=(hb5.block (w.heap.size+1) aP).trans Ej;have fR:=ag (gH.trans (hb5.mono gH.size));obtain⟨p0,p1,fh,eK,p4⟩:=aia.cells;obtain⟨r0,r1,r2,r3,r4⟩:=Ek.cells;have lg:=Ek.frozen;have ui:=ag Ek;clear hb5 gH Dr Ej aia Ek hb4 xh Ha oV cK;go_wp2_with fail;go_loopw [9] (fun iv wr=>iv=aj 0/\wr=w5) (fun _ _=>0);case atStart=>exact⟨rfl,rfl⟩
 case round =>(obtain⟨rfl,hwr⟩:=hrel;have G4:=hwr.symm;subst G4;go_wp2_with fail;have A9:=(((((ui.set0 5).set1 false).set2 (aH)).iM (aH)).lj (aH));have Hb:=(((((fR.setCell (p:=⟨w.heap.size+1,0,none⟩) (by show w.heap.size<=w.heap.size+1;omega) (aj 5)).setCell (p:=⟨w.heap.size+1,1,none⟩) (by show w.heap.size<=w.heap.size+1;omega) (.bool false)).setCell (p:=⟨w.heap.size+1,2,none⟩) (by show w.heap.size<=w.heap.size+1;omega) (aH)).setCell (p:=⟨w.heap.size+1,3,none⟩) (by show w.heap.size<=w.heap.size+1;omega) (aH)).setCell (p:=⟨w.heap.size+1,4,none⟩) (by show w.heap.size<=w.heap.size+1;omega) (aH));revert A9 Hb;generalize World.setCell _ _ _=qF;intro A9 Hb;obtain⟨n0,n1,n2,n3,n4⟩:=A9.cells;refine fB (v:=.agg #[.int .i64 5,.bool false,.slice none 0 0,.slice none 0 0,.slice none 0 0]) (by simp[results,results77,go_sem,n0,n1,n2,n3,n4]) rfl ⟨⟨_,true,aH,aH,aH,[],[],[],rfl,?_⟩,Hb⟩;exact⟨rfl,.inl ⟨rfl,rfl⟩,.inl ⟨rfl,rfl⟩,.inl ⟨rfl,rfl⟩,rfl,rfl,rfl,fun x hx=>(by cases hx),fun x hx=>(by cases hx),fun x hx=>by cases hx⟩))
end Go.Proofs.YtkkpahmoljiepaaGreatDoor
