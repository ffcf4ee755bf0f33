import Derived.Test.YtkkpahmoljiepaaGreatDoorJ11
import Derived.Test.YtkkpahmoljiepaaGreatDoorJ13
import Derived.StillTail
set_option maxRecDepth 1000000
set_option maxHeartbeats 12800000
set_option linter.unusedSimpArgs false
set_option linter.unusedVariables false
namespace Go.Proofs.YtkkpahmoljiepaaGreatDoor
open Go.RowKit Go.Proofs.Tryz
theorem ath(zb:Nat)(vo:Value)(w:World)(hz:w.heap[zb]? = some (.cells #[vo,.slice none 0 0] 117)) :
  aB 65 #[aM zb] w (bQ (.bool false) w):=by
 have y1:w.cell? (ak zb 1)=some (aH):=by unfold World.cell?; rw[hz];rfl
 clear hz;go_enter func65,ntmps65;go_wp2;go_ret;exact⟨rfl,bR _ _⟩
def Ee:ah:=[111,114,105,103,105,110]
theorem af9(l s:ah):Lib.hasSuffix l s=true ↔ ∃p,l=p++s:=by unfold Lib.hasSuffix;rw[ZU];exact⟨fun⟨p,h⟩=>⟨p,h.symm⟩,fun⟨p,h⟩=>⟨p,h.symm⟩⟩
theorem af_(l s:ah):Lib.hasPrefix l s=true ↔ ∃p,l=s++p:=by unfold Lib.hasPrefix;rw[List.isPrefixOf_iff_prefix];exact⟨fun⟨p,h⟩=>⟨p,h.symm⟩,fun⟨p,h⟩=>⟨p,h.symm⟩⟩
theorem aga(t:ah):jl (t++[10])=zk (az 10 t):=by have h:Lib.hasSuffix (t++[10]) [10]=true:=(af9 _ _).2 ⟨t,rfl⟩;unfold jl Lib.trimSuffix;rw[aJ h,aJ h];congr 2;simp
theorem Q5{s:ah}(h:∀t,s≠t++[10]):jl s=none:=by unfold jl;rw[aF];intro hc;obtain⟨p,hp⟩:=(af9 _ _).1 hc;exact h p hp
theorem agb:∀(f:Nat) (y:ah) (c:UInt8),y.length<=f->c∈y->c=46\/∃l∈az 46 y,c∈l
 | f,y,c,hf,hc=>by
  rcases oJ 46 y with⟨_,e⟩|⟨a,b,e0,_,e⟩;{exact .inr ⟨y,by rw[e];simp,hc⟩};{
  rw[e0]at hc;rcases gm.1 hc with h|h;{exact .inr ⟨a,by rw[e];simp,h⟩};{
  rcases ei.1 h with h|h;{exact .inl h};{
  have hl:b.length<f:=by rw[e0]at hf;simp at hf;omega
  rcases agb (f - 1) b c ae h with h|⟨l,h1,h2⟩;{exact .inl h};{exact .inr ⟨l,by rw[e];exact jY _ h1,h2⟩}}}}
termination_by f=>f
decreasing_by omega
theorem ati{y:ah}(h:dr y=true):(32:UInt8) ∉ y:=by
 intro hc;have hn:(gT false y).isSome=true:=by rw[zJ];exact h
 unfold gT at hn;split at hn;{
 rename_i hh;rcases agb y.length y 32 aA hc with h|⟨l,h1,h2⟩;{exact absurd h bD};{
 have key:∀(ls:List ah) (i:Nat),lu false i ls=true->∀x∈ls,jx x=true:=by{
 intro ls;induction ls with
 | nil=>intro i _ x hx;cases hx
 | cons a ls ih =>{intro i h x hx;rw[lu,cY]at h;rcases ei.1 hx with rfl|hx;{have:=h.1;unfold wM at this;simpa using this};{exact ih (i+1) h.2 x hx}}};have hl:=key _ 0 hh.2 l h1;unfold jx at hl;rw[cY]at hl;have:=vT.1 hl.2 32 h2;exact absurd this bD}};{cases hn}
theorem atj{c:UInt8}{y:ah}(h:c ∉ y):az c y = [y]:=by rcases oJ c y with⟨_,e⟩|⟨a,b,e0,_,_⟩;{exact e};{exact absurd (by rw[e0];simp) h}
theorem atk{f y:ah}(h:az 32 f = [Ee,y]):Lib.hasPrefix f kK=true/\Lib.trimPrefix f kK=y:=by
 have hj:=C8 32 f;rw[h]at hj;have hf:f=kK++y:=by rw[<- hj];rfl
 have hp:Lib.hasPrefix f kK=true:=(af_ _ _).2 ⟨y,hf⟩;refine⟨hp,?_⟩;unfold Lib.trimPrefix;rw[aJ hp,hf];simp
theorem atl{f:ah}(h:(Lib.hasPrefix f kK && dr (Lib.trimPrefix f kK))=true):∃y,az 32 f = [Ee,y]/\dr y=true/\Lib.trimPrefix f kK=y:=by
 rw[cY]at h;obtain⟨p,hp⟩:=(af_ _ _).1 h.1;have ht:Lib.trimPrefix f kK=p:=by{unfold Lib.trimPrefix;rw[aJ h.1,hp];simp};rw[ht]at h;refine⟨p,?_,h.2,ht⟩;have hf:f=Ee++32 :: p:=by rw[hp];rfl
 rw[hf,Ux,atj (ati h.2)];rfl
theorem agc:∀(ls:List ah) (l:ah),iZ (ls++[l])=(iZ ls).bind fun rs=>(gQ l).map fun r=>rs++[r]
 | [],l=>by show(gQ l).bind (fun r=>(iZ []).map (r :: ·))=_;cases gQ l <;> rfl
 | a :: ls,l=>by
  show(gQ a).bind (fun r=>(iZ (ls++[l])).map (r :: ·))=Option.bind ((gQ a).bind fun r=>(iZ ls).map (r :: ·)) _;rw[agc ls l];cases gQ a with
  | none=>rfl
  | some r =>{
  cases iZ ls with
  | none=>rfl
  | some rs =>{
  cases gQ l with
  | none=>rfl
  | some r'=>rfl}}
theorem Q6:∀(ls:List ah) (rs:List ai),iZ ls=some rs->rs.length=ls.length
 | [],rs,h=>by have : []=rs:=fq h;rw[<- this];rfl
 | a :: ls,rs,h=>by
  have h':(gQ a).bind (fun r=>(iZ ls).map (r :: ·))=some rs:=h;cases hr:gQ a with
  | none=>rw[hr]at h';cases h'
  | some r =>{
  cases hl:iZ ls with
  | none=>rw[hr,hl]at h';cases h'
  | some rs' =>{rw[hr,hl]at h';have:r :: rs'=rs:=fq h';rw[<- this,bP,Q6 ls rs' hl];rfl}}
theorem agd:∀(ls:List ah) (k:Nat) (h:k<ls.length),gQ ls[k]=none->iZ ls=none
 | a :: ls,0,_,h=>by show(gQ a).bind _=none;have:gQ a=none:=h;rw[this];rfl
 | a :: ls,k+1,hk,h=>by show(gQ a).bind (fun r=>(iZ ls).map (r :: ·))=none;rw[agd ls k (by simpa using hk) h];cases gQ a <;> rfl
theorem age{l:ah}{r:ai}(hl:l.length<=3000)(h:gQ l=some r):IA r:=by
 unfold gQ at h;split at h;{
 rename_i a b c d hs;split at h;{
 rename_i hc;simp only[cY]at hc;obtain rfl:=(fq h).symm;have hm:d∈Lib.splitN l [32] 4:=by rw[hs];simp
 have hb:=hc.1.2;refine⟨hc.1.1,(adi hb).2.2,hc.2,?_⟩;have:=Tg 32 _ l d hm;exact a_ this hl};{cases h}};{cases h}
theorem Xt:∀(ls:List ah) (rs:List ai),(∀l∈ls,l.length<=3000)->iZ ls=some rs->∀r∈rs,IA r
 | [],rs,_,h=>by have : []=rs:=fq h;rw[<- this];intro r hr;cases hr
 | a :: ls,rs,hl,h=>by
  have h':(gQ a).bind (fun r=>(iZ ls).map (r :: ·))=some rs:=h;cases hr:gQ a with
  | none=>rw[hr]at h';cases h'
  | some r =>{
  cases hx:iZ ls with
  | none=>rw[hr,hx]at h';cases h'
  | some rs' =>{rw[hr,hx]at h';have:r :: rs'=rs:=fq h';rw[<- this];intro y hy;rcases ei.1 hy with rfl|hy;{exact age (hl a ar) hr};{exact Xt ls rs' (fun l hl'=>hl l (jY _ hl')) hx y hy}}}
def Jl(s:ah)(base:Nat)(e:Ending)(w':World):Prop :=
 match il s with
 | none=>e=.returned (.pointer none)
 | some p=>∃zb o rs,e=.returned (aM zb)/\base<=zb/\mM w' zb o rs/\kE o rs/\jl s=some (o,rs)/\p=(o,aN rs)
section
theorem atm(a:Option Addr)(l c:Nat)(w:World):(binOp .eql 113 (.slice a l c) (aH)).run prog w=.ok (.bool a.isNone) w:=ZZ w _ _ a l c 0 0 Iw
attribute [local go_sem] atm
theorem B_{s:ah}{base:Nat}{w':World}(h:il s=none):Jl s base (.returned (.pointer none)) w':=by unfold Jl;rw[h]
theorem Gy{s:ah}(h:jl s=none):il s=none:=by unfold il;rw[h];rfl
theorem atn{s:ah}{o:ah}{rs:List ai}(h:jl s=some (o,rs))(hl:60<rs.length):il s=none:=by
 unfold il;rw[h];show(if lL o rs && lO o (aN rs)then _ else _)=_;rw[aF];intro hc;rw[cY]at hc;have:=hc.1;unfold lL at this;cases rs with
 | nil=>simp at this
 | cons r t=>simp at this hl;omega
theorem agf{s:ah}{o:ah}{rs:List ai}(h:jl s=some (o,rs))(hval:∀r∈rs,iC r.owner=true)(hr:¬(zP o rs/\rs.length<=60)):il s=none:=by unfold il;rw[h];show(if lL o rs && lO o (aN rs)then _ else _)=_;rw[aF];intro hc;exact hr ((acO o rs hval).2 hc)
theorem ato{s:ah}{o:ah}{rs:List ai}(h:jl s=some (o,rs))(hval:∀r∈rs,iC r.owner=true)(hr:zP o rs)(hl:rs.length<=60):il s=some (o,aN rs)/\lL o rs=true/\lO o (aN rs)=true:=by have hc:=(acO o rs hval).1 ⟨hr,hl⟩;unfold il;rw[h];refine⟨?_,by rw[cY]at hc;exact hc.1,by rw[cY]at hc;exact hc.2⟩;show(if lL o rs && lO o (aN rs)then _ else _)=_;rw[aJ hc]
theorem agh{f y:ah}(ls:List ah)(h:az 32 f = [Ee,y])(hp:dr y=true):zk (f :: ls)=(iZ ls).map (fun rs=>(y,rs)):=by obtain⟨h1,h2⟩:=atk h;show(if Lib.hasPrefix f kK && dr (Lib.trimPrefix f kK)then _ else _)=_;rw[h1,h2,hp];rfl
theorem Xu{f:ah}(ls:List ah)(h:∀y,az 32 f = [Ee,y]->dr y=false):zk (f :: ls)=none:=by show(if Lib.hasPrefix f kK && dr (Lib.trimPrefix f kK)then _ else _)=_;rw[aF];intro hc;obtain⟨y,h1,h2,_⟩:=atl hc;rw[h y h1]at h2;cases h2
theorem atp{f:ah}{ls:List ah}{s:ah}(h:jl s=zk (f :: ls))(hl:60<ls.length):il s=none:=by
 cases hr:zk (f :: ls)with
 | none=>exact Gy (by rw[h,hr])
 | some p =>{
 obtain⟨o,rs⟩:=p;refine atn (o:=o) (rs:=rs) (by rw[h,hr]) ?_;have h':(if Lib.hasPrefix f kK && dr (Lib.trimPrefix f kK)then(iZ ls).map (fun rs=>(Lib.trimPrefix f kK,rs))else none)=some (o,rs):=hr;split at h';{
 cases ha:iZ ls with
 | none=>rw[ha]at h';cases h'
 | some rs' =>{rw[ha]at h';have e:rs'=rs:=dE Prod.snd (fq h');rw[<- e,Q6 ls rs' ha];exact hl}};{cases h'}}
theorem atq{W:World}{q:Nat}{vo dS:Value}{r:ai}{x:Nat->Prop}(h:W.heap[q]? = some (.cells #[vo,.int .i64 r.aG,.int .i64 r.type,.string (aq r.data),dS] 119))(h1:iq W (fun k=>x k\/k=q) vo (aT r.owner))(h2:iq W (fun k=>x k\/k=q) dS (az 32 r.data)):dB x W 0 (aD q 0 1 1) [r]:=by
 refine⟨[(vo,dS,r)],rfl,⟨rfl,.inr ⟨q,1,_,rfl,cV _,h,bH _,by unfold maxLen;omega,rfl,rfl⟩⟩,?_⟩;intro y hy;obtain rfl:y=_:=by simpa using hy
 have ax:∀k,k<W.heap.size->¬(x k\/k=q)->¬(x k\/some k=(Value.slice (some (ak q 0)) 1 1).ownBlock):=fun k _ hn hc=>hn (hc.imp id (fun e=>by simpa [Value.ownBlock]using e));exact⟨h1.imp ax,h2.imp ax⟩
structure Ef(w wr:World)(zb g go oc:Nat)(f y:ah)(ls:List ah)(k:Nat)(rs:List ai)(vl:Value):Prop where
 Eg:wr.heap[zb]? = some (.cells #[.slice (some ⟨go,0,none⟩) (az 46 y).length oc,vl] 117)
 al:iZ (ls.take k)=some rs
 DF:dB (· = zb) wr (zb+1) vl rs
 li:fS wr g 0 (f :: ls)
 nm:fS wr go 0 (az 46 y)
 bl:au w wr
 nil:rs = []->vl=aH
theorem Ef.fr{w wr w1:World}{zb g go oc:Nat}{f y:ah}{ls:List ah}{k:Nat}{rs:List ai}{vl:Value}(h:Ef w wr zb g go oc f y ls k rs vl)(hb:au wr w1):Ef w w1 zb g go oc f y ls k rs vl :=
 ⟨(hb.block zb (bV.1 h.Eg).1).trans h.Eg,h.al,h.DF.below hb,h.li.below hb,h.nm.below hb,h.bl.trans (hb.mono h.bl.size),h.nil⟩
theorem Ef.add{w wr:World}{zb g go oc:Nat}{f y:ah}{ls:List ah}{k:Nat}{rs:List ai}{vl:Value}(h:Ef w wr zb g go oc f y ls k rs vl)(hk:k<ls.length){r:ai}(hr:gQ ls[k]=some r){xv:Value}(hx:dB (fun j=>j=zb\/some j=vl.ownBlock) wr 0 xv [r])(hl:rs.length<=90000)(atr:w.heap.size<=zb)(hg:g<zb)(hgo:go<zb) :
  ∃v' w',(Builtin.append_ #[115,115] 115 #[vl,xv]).run prog wr=.ok v' w'/\w'.heap[zb]? = some (.cells #[.slice (some ⟨go,0,none⟩) (az 46 y).length oc,vl] 117)/\Ef w (w'.setCell ⟨zb,1,none⟩ v') zb g go oc f y ls (k+1) (rs++[r]) v'/\(∃a c,v'=.slice a (rs.length+1) c):=by
 have hzl:zb<wr.heap.size:=(bV.1 h.Eg).1;obtain⟨v',w',k1,k2,k3,k5⟩:=ID h.DF hx (fun j _ hc=>hc) ae aP (fun j hj=>by rw[hj];exact hzl);have sG:=h.DF.lt;have hz':some zb≠vl.ownBlock:=fun e=>by have:=(sG zb e.symm).1;omega
 have Ca:=(k3.block zb hzl hz').trans h.Eg;have hfr:bn (fun j=>some j≠vl.ownBlock) wr w':=bn.OA k3 (fun _ h=>h);have eN:bn (fun j=>j≠zb) w' (w'.setCell ⟨zb,1,none⟩ v'):=bn.jD (a:=⟨zb,1,none⟩) v' (fun _ h=>h);have Cb:∀j,j<zb->some j≠vl.ownBlock:=fun j hj e=>by have:=(sG j e.symm).1;omega
 refine⟨v',w',k1,Ca,⟨?_,?_,?_,?_,?_,?_,?_⟩,?_⟩;{simp only[World.setCell,fw,gZ,Ca];rfl};{rw[gp hk,agc,h.al,hr];rfl};{exact k2.set (a:=⟨zb,1,none⟩) v' rfl (by show zb<zb+1;omega)};{exact(h.li.fr hfr (Cb g hg)).fr eN ae};{exact(h.nm.fr hfr (Cb go hgo)).fr eN ae};{refine(h.bl.trans ?_).setCell (p:=⟨zb,1,none⟩) atr _;exact⟨k3.os,k3.tape,k3.output,k3.size,fun j hj=>k3.block j ae (Cb j ae)⟩};{intro e;simp at e};{obtain⟨a,c,e⟩:=k2.slice;rw[bj]at e;exact⟨a,c,e⟩}
theorem att(s:ah)(w:World)(hl:s.length<=3000) :
  aB 17 #[.string (aq s)] w fun e w'=>Jl s w.heap.size e w'/\au w w':=by
 rcases sY s with rfl|⟨t,c,hs⟩;{have bI:Hid (il []=none):=Gy (Q5 (fun t h=>by simp at h));have hz:(aq ([]:ah)).size=0:=rfl;go_enter func17,ntmps17;go_wp2;go_ret;exact⟨B_ (af bI),bR _ _⟩};rw[sW]at hs;have hsz:(aq s).size=t.length+1:=by rw[bJ,hs];simp
 have hlt:t.length+1<=3000:=by rw[hs]at hl;simpa using hl
 have g1:∀h:t.length<(aq s).size,(aq s)[t.length]=c:=fun h=>by{show s.toArray[t.length]'_=c;simp[hs]};have gy:¬(3000:Int)<((t.length+1:Nat):Int):=ae;have agi:¬((t.length+1:Nat):Int)<1:=ae;have hm1:((t.length+1:Nat):Int) - 1=(t.length:Int):=ae;by_cases hc:c=10;{
 have xY:((c.toNat:Int) != 10)=false:=by rw[hc];rfl
 have cu:Hid ((aq s).extract 0 t.length=aq t):=by rw[Hid,KQ,hs];simp
 have tW:Hid (jl s=zk (az 10 t)):=by rw[Hid,hs,hc];exact aga t
 have r8:=ag (fun W=>H3 t 10 W ae);have r9:Hid (∀x∈az 10 t,x.length<=3000):=fun x hx=>by have:=qK 10 t.length t aA x hx;omega
 have Q0:(az 10 t).length<=3001:=by have:=pQ 10 t;omega
 obtain⟨f,ls,oM⟩:∃f ls,az 10 t=f :: ls:=by{
 cases h:az 10 t with
 | nil=>exact absurd h (pP 10 t)
 | cons f ls=>exact⟨f,ls,rfl⟩};rw[oM]at tW r8 r9 Q0;have HS:=ag hs;clear hc hs hl oM;generalize aq s=S at *;go_enter func17,ntmps17;go_wp2_with fail;rw[af cu];refine(r8 _).mono ?_;rintro e w1 ⟨⟨v1,rfl,ho1⟩,hb1⟩;obtain⟨g,cap,rfl,dt,hbg,fZ⟩:=zH ho1 ar;have c0:w1.cell? (ak g 0)=some (.string (aq f)):=fZ.2 0 ar;have C7:=ag fZ;have oM:=af r9 f ar;have jQ:=ag (H3 f 32 w1 ae);have bZ:=ag hb1;have np:=fZ.1;simp only[bP]at Q0 dt ⊢;clear fZ ho1 hb1 r8 cu g1;go_wp2_with fail;refine jQ.mono ?_;rintro e w2 ⟨⟨v2,rfl,ho2⟩,hb2⟩;obtain⟨g2,cap2,rfl,Oh,aAE,agj⟩:=zH ho2 (pP 32 f);have hs1:=bZ.size;have hs2:=hb2.size;have bU:=ag (bZ.trans (hb2.mono hs1));have atu:=ag (C7.below hb2);have HW:=ag agj;clear ho2 hb2 jQ c0 agj;by_cases h2:(az 32 f).length=2;rotate_left
 {
 have Pn:(((az 32 f).length:Int) != 2)=true:=by simp only[qJ,ne_eq];omega
 have bI:Hid (il s=none):=Gy (by rw[af tW];exact Xu ls (fun y h=>absurd (by rw[h];rfl) h2));go_wp2;go_ret;exact⟨B_ (af bI),bU⟩};obtain⟨x,y,uT⟩:∃x y,az 32 f = [x,y]:=by{
 cases h0:az 32 f with
 | nil=>rw[h0]at h2;cases h2
 | cons x l0 =>{
 cases l0 with
 | nil=>rw[h0]at h2;cases h2
 | cons y l1 =>{
 cases l1 with
 | nil=>exact⟨x,y,rfl⟩
 | cons z l2=>rw[h0]at h2;simp at h2}}};rw[uT]at Oh HW ⊢;simp only[bP,fy]at Oh ⊢;have gu:w2.cell? (ak g2 0)=some (.string (aq x)):=HW.2 0 ar;have d1:w2.cell? (ak g2 1)=some (.string (aq y)):=HW.2 1 ar;have O5:y.length<=3000:=by have:=qK 32 f.length f aA y (by rw[uT];simp);omega
 have zI:=ag uT;clear h2 uT;by_cases hx:x=Ee;rotate_left
 {have hxb:((aq x).toList == Ee)=false:=by{rw[nQ];show(x == Ee)=false;simpa using hx};have agk:((aq x).toList == [111,114,105,103,105,110])=false:=hxb;have bI:Hid (il s=none):=Gy (by rw[af tW];exact Xu ls (fun y' h=>absurd (by have:=af zI;rw[h]at this;exact(Hq this).1.symm) hx));clear hx hxb;go_wp2;go_ret;exact⟨B_ (af bI),bU⟩};have agk:((aq x).toList == [111,114,105,103,105,110])=true:=by{rw[nQ,hx];rfl};rw[hx]at zI;clear hx;have hmm:((ls.length+1:Nat):Int) - 1=(ls.length:Int):=ae;by_cases Tu:60<ls.length;{have atv:(60:Int)<(ls.length:Int):=ae;have bI:Hid (il s=none):=atp (af tW) Tu;go_wp2;go_ret;exact⟨B_ (af bI),bU⟩};have atv:¬(60:Int)<(ls.length:Int):=ae;have ot:=ag (H5 y false w2 ae);go_wp2_with fail;refine ot.mono ?_;rintro e w3 ⟨⟨v3,rfl,hv3⟩,hb3⟩;have cK:=ag (bU.trans (hb3.mono bU.size));have hs3:=hb3.size;have atw:=ag (atu.below hb3);clear ot hb3 gu d1 agk;cases ho:gT false y with
 | none =>{rw[ho]at hv3;have atx:v3=aH:=hv3;subst atx;have bI:Hid (il s=none):=Gy (by{rw[af tW];refine Xu ls (fun y' h=>?_);have:=af zI;rw[h]at this;obtain rfl:y'=y:=(Hq (Hq this).2).1;rw[<- zJ,ho];rfl});clear hv3;go_wp2;go_ret;exact⟨B_ (af bI),(cK.alloc ae _)⟩}
 | some l =>{
 rw[ho]at hv3;obtain rfl:=aeP ho;have hpl:dr y=true:=by rw[<- zJ,ho];rfl
 obtain⟨_,go,oc,rfl,oO,hgo,Gz⟩:=hv3;have aty:=Gz.1;obtain⟨kV,Eh⟩:∃kV:Obj,kV=.cells #[.slice (some ⟨go,0,none⟩) (az 46 y).length oc,.slice none 0 0] 117:=⟨_,rfl⟩;have hb4:au w3 (w3.alloc kV):=aO.alloc aA _;have agl:Hid (Ef w (w3.alloc kV) w3.heap.size g go oc f y ls 0 [] (aH)):=⟨by rw[World.alloc_heap_new,Eh],rfl,dB.nil _ _ _,atw.below hb4,Gz.below hb4,cK.trans (hb4.mono cK.size),fun _=>rfl⟩;have aAF:=cK.size;have Mx:=ag (bg ho (bg hpl oO));clear hb4 ho Gz;go_wp2_with fail;rw[<- Eh];obtain⟨zb,hzb⟩:∃zb,w3.heap.size=zb:=⟨_,rfl⟩;rw[hzb]at agl ⊢;clear Eh;go_loopw [6] (fun iv wr=>∃(k:Nat) (rs:List ai) (vl:Value),k<=ls.length/\iv=aj ((k+1:Nat):Int)/\Ef w wr zb g go oc f y ls k rs vl) (fun iv _=>ls.length+1 - (intOf iv).toNat);case atStart=>exact⟨0,[],_,cV _,rfl,agl⟩
 case round =>(
 obtain⟨k,rs,vl,hk,rfl,qA⟩:=hrel;obtain⟨la,lc,rfl⟩:=qA.DF.slice;have dv:=ag qA;have hrl:rs.length=k:=by rw[Q6 _ _ qA.al,gD];omega
 have hzl:zb<wr.heap.size:=(bV.1 qA.Eg).1;have bX:=qA.bl.size;by_cases fJ:k<ls.length;{
 have LL:((k+1:Nat):Int)<((ls.length+1:Nat):Int):=ae;have cl:wr.cell? (ak g (k+1))=some (.string (aq ls[k])):=by{have:=qA.li.2 (k+1) aP;rw[eY]at this;exact this};have hlk:=af r9 ls[k] (jY _ (cM fJ));have ry:=ag (arj ls[k] wr hlk);obtain⟨L,hL⟩:∃L,ls[k]=L:=⟨_,rfl⟩;rw[hL]at cl ry;have ej:=ag hL;clear qA hL;go_wp2_with fail;refine ry.mono ?_;rintro e w4 ⟨⟨va,vn,vc,tt,kd,dd,ua,Xv,uc,rfl,qy⟩,hb4⟩;have gj:=hb4.size;have My:=dv.fr hb4;have atz:=ag My;cases om:gQ L with
 | none =>{have bI:Hid (il s=none):=Gy (by{rw[af tW,agh ls (af zI) Mx.2.1,agd ls k fJ (by rw[af ej];exact om)];rfl});have pC:=ag My.bl;clear qy hb4 My ry;go_wp2;go_ret;exact⟨B_ (af bI),pC.alloc ae _⟩}
 | some r =>{
 obtain⟨rfl,rfl,rfl,n0,n1⟩:=qy r om;obtain⟨jU,uo⟩:∃jU:Obj,jU=.cells #[.slice va vn vc,.int .i64 r.aG,.int .i64 r.type,.string (aq r.data),.slice ua Xv uc] 119:=⟨_,rfl⟩;have dw:au w4 (w4.alloc jU):=aO.alloc aA _;have ie:=dw.drew;have hnew:(w4.alloc jU).drew.heap[w4.heap.size]? = some jU:=World.alloc_heap_new w4 jU;have agm:(w4.alloc jU).drew.heap.size=w4.heap.size+1:=dD w4 jU;have agn:=My.fr ie;have n6:Gi (w4.alloc jU).drew wr.heap.size (.slice va vn vc) (az 46 r.owner):=by{obtain⟨a1,a2,a3,a4,a5,a6,a7⟩:=n0;exact⟨a1,a2,a3,a4,a5,a6.below ie,a7⟩};have m6:Gi (w4.alloc jU).drew wr.heap.size (.slice ua Xv uc) (az 32 r.data):=by{obtain⟨a1,a2,a3,a4,a5,a6,a7⟩:=n1;exact⟨a1,a2,a3,a4,a5,a6.below ie,a7⟩};have Xw:=ag agn;have IU:=ag (bg n6 m6);have Xx:=ag hnew;have ui:=ag om;clear qy hb4 My ry n0 n1 agn n6 m6 hnew dw ie om;go_upto_region 16 with fail;rw[<- uo];refine Tc (S:=fun _=>True) aI aQ (fun hS=>?_);generalize (w4.alloc jU).drew=W6 at *;obtain⟨b5,hb5⟩:∃b5,w4.heap.size=b5:=⟨_,rfl⟩;rw[hb5]at Xx agm ⊢;have hnew:=af Xx;rw[uo]at hnew;have r0:W6.cell? (ak b5 0)=some (.slice va vn vc):=by unfold World.cell?; rw[hnew];rfl
 have r1:W6.cell? (ak b5 1)=some (aj r.aG):=by unfold World.cell?; rw[hnew];rfl
 have r2:W6.cell? (ak b5 2)=some (aj r.type):=by unfold World.cell?; rw[hnew];rfl
 have r3:W6.cell? (ak b5 3)=some (.string (aq r.data)):=by unfold World.cell?; rw[hnew];rfl
 have r4:W6.cell? (ak b5 4)=some (.slice ua Xv uc):=by unfold World.cell?; rw[hnew];rfl
 have ago:=Xw.Eg;have zc:W6.cell? (ak zb 1)=some (.slice la rs.length lc):=by unfold World.cell?; rw[ago];rfl
 have aAG:¬zb=W6.heap.size:=ae;have aAH:∀o,(W6.alloc o).cell? (ak zb 1)=some (.slice la rs.length lc):=fun o=>(dh (cD W6 o zb ae)).trans zc;have di:au W6 (W6.alloc jU):=aO.alloc aA _;have sG:=dv.DF.lt;have sK:∀ {v:Value} {l:List ah},Gi W6 wr.heap.size v l->iq (W6.alloc jU) (fun j=>(j=zb\/some j=(Value.slice la rs.length lc).ownBlock)\/j=W6.heap.size) v l:=fun h=>by{obtain⟨a1,a2,a3,a4,a5,a6,a7⟩:=h;refine⟨a1,a2,a3,a4,a5,a6.below di,fun hc=>?_⟩;have:=a6.1;rcases hc with(hc|hc)|hc;{omega};{have:=(sG a1 hc.symm).2;omega};{omega}};have hx:=atq (W:=W6.alloc jU) (q:=W6.heap.size) (r:=r) (x:=fun j=>j=zb\/some j=(Value.slice la rs.length lc).ownBlock) (by rw[World.alloc_heap_new,uo]) (by rw[yx (P6 (age (by rw[<- af ej];exact hlk) (af ui)).tY)];exact sK IU.1) (sK IU.2);obtain⟨v8,w8,hrun,Xy,agp,a8,oU,qf⟩:=(Xw.fr di).add fJ (by rw[af ej];exact ui) hx ae ae ae ae;subst qf;rw[uo]at hrun;have oQ:=ag hrun;have Xz:=ag agp;have y1:w8.cell? (ak zb 1)=some (.slice la rs.length lc):=by unfold World.cell?; rw[Xy];rfl
 have nC:w8.frozen? (ak zb 1)=false:=by unfold World.frozen?; rw[Xy];rfl
 clear hrun agp Xy hx sK di hnew ago hb5 Xx Xw atz IU uo agm hrl;refine iX 0 aQ ?_;refine iX 1 aQ ?_;refine iX 2 aQ ?_;refine iX 3 aQ ?_;refine fH (rs:=[4,5]) aI ar (eT rfl (fun K hK=>?_) (eT rfl (fun K hK=>?_) fG));{
 go_simp;refine hK.out _ _ aQ (fun hS=>?_);clear hK K;try simp only[Act.put,fV,eC,eX]
 refine fH (rs:=[5]) aI ar (eT rfl (fun K hK=>?_) fG);go_simp;refine hK.out _ _ aQ (fun hS=>?_);clear hK K;try simp only[Act.put,fV,eC,eX]
 refine fH (rs:=[6]) aI ar (eT rfl (fun K hK=>?_) fG);go_simp;refine hK.out _ _ aQ (fun hS=>?_);clear hK K;try simp only[Act.put,fV,eC,eX]
 refine fH (rs:=[7]) aI ar (eT rfl (fun K hK=>?_) fG);rw[aJ ee];refine Lq (.tmp 82) (.tmp 84) 115 ee _ _ _ _ ee ee (af oQ) ?_;refine hK.out _ _ aQ (fun hS=>?_);clear hK K;try simp only[Act.put,fV,eC,eX]
 refine iX 8 aQ ?_;refine iX 9 aQ ?_;refine fH (rs:=[10]) aI ar (eT rfl (fun K hK=>?_) fG);go_simp;refine hK.out _ _ aQ (fun hS=>?_);clear hK K;refine rL aI ?_ _;go_wp2;exact⟨⟨k+1,rs++[r],_,ae,bW,Xz⟩,c5⟩};{
 go_simp;refine hK.out _ _ aQ (fun hS=>?_);clear hK K;try simp only[Act.put,fV,eC,eX]
 refine fH (rs:=[4,6]) aI ar (eT rfl (fun K hK=>?_) (eT rfl (fun K hK=>?_) fG));{
 go_simp;refine hK.out _ _ aQ (fun hS=>?_);clear hK K;try simp only[Act.put,fV,eC,eX]
 refine fH (rs:=[6]) aI ar (eT rfl (fun K hK=>?_) fG);go_simp;refine hK.out _ _ aQ (fun hS=>?_);clear hK K;try simp only[Act.put,fV,eC,eX]
 refine fH (rs:=[7]) aI ar (eT rfl (fun K hK=>?_) fG);rw[aJ ee];refine Lq (.tmp 82) (.tmp 84) 115 ee _ _ _ _ ee ee (af oQ) ?_;refine hK.out _ _ aQ (fun hS=>?_);clear hK K;try simp only[Act.put,fV,eC,eX]
 refine iX 8 aQ ?_;refine iX 9 aQ ?_;refine fH (rs:=[10]) aI ar (eT rfl (fun K hK=>?_) fG);go_simp;refine hK.out _ _ aQ (fun hS=>?_);clear hK K;refine rL aI ?_ _;go_wp2;exact⟨⟨k+1,rs++[r],_,ae,bW,Xz⟩,c5⟩};{
 go_simp;refine hK.out _ _ aQ (fun hS=>?_);clear hK K;try simp only[Act.put,fV,eC,eX]
 refine fH (rs:=[4]) aI ar (eT rfl (fun K hK=>?_) fG);go_simp;refine hK.out _ _ aQ (fun hS=>?_);clear hK K;try simp only[Act.put,fV,eC,eX]
 refine fH (rs:=[7]) aI ar (eT rfl (fun K hK=>?_) fG);rw[aJ ee];refine Lq (.tmp 82) (.tmp 84) 115 ee _ _ _ _ ee ee (af oQ) ?_;refine hK.out _ _ aQ (fun hS=>?_);clear hK K;try simp only[Act.put,fV,eC,eX]
 refine iX 8 aQ ?_;refine iX 9 aQ ?_;refine fH (rs:=[10]) aI ar (eT rfl (fun K hK=>?_) fG);go_simp;refine hK.out _ _ aQ (fun hS=>?_);clear hK K;refine rL aI ?_ _;go_wp2;exact⟨⟨k+1,rs++[r],_,ae,bW,Xz⟩,c5⟩}}}};{
 have LL:¬((k+1:Nat):Int)<((ls.length+1:Nat):Int):=ae;have xi:k=ls.length:=ae;have uQ:Hid (iZ ls=some rs):=by{have:=qA.al;rw[xi,gV]at this;exact this};have Q7:Hid (jl s=some (y,rs)):=by{rw[Hid,af tW,agh ls (af zI) Mx.2.1,af uQ];rfl};have Mz:=ag (Xt ls rs (fun l hl=>af r9 l (jY _ hl)) (af uQ));have atA:rs.length<=60:=ae;cases rs with
 | nil =>{have sG:=qA.nil rfl;have Ca:=qA.Eg;rw[sG]at Ca;have zS:=ag (ath zb _ wr Ca);have bI:Hid (il s=none):=agf (af Q7) (fun r hr=>by cases hr) (fun h=>by obtain⟨h1,_⟩:=h.1.1;simp at h1);have pC:=ag qA.bl;clear qA Ca;go_wp2_with fail;refine zS.mono ?_;rintro e w5 ⟨rfl,hb5⟩;have fR:=ag (pC.trans (hb5.mono bX));clear hb5;go_wp2;go_ret;exact⟨B_ (af bI),fR⟩}
 | cons r0 rt =>{
 have XA:mM wr zb y (r0 :: rt):=by{rcases qA.DF.recs (fun r hr=>P6 (Mz r hr).tY)with⟨_,h⟩|⟨g',cap',h1,_,h3,h4⟩;{cases h};{have Ca:=qA.Eg;rw[h1]at Ca;exact⟨_,g',0,cap',Ca,⟨go,0,oc,rfl,Mx.2.2,qA.nm⟩,h3,h4⟩}};have xm:=(gU Mx.2.1).2;have kC:Bk y (r0 :: rt):=⟨ae,ae,fun r hr=>by have:=(Dq (Mz r hr).tY).2;omega⟩;have zS:=ag (an3 zb y (r0 :: rt) wr XA kC ar);have atB:=ag XA;have pC:=ag qA.bl;clear qA XA kC;go_wp2_with fail;refine zS.mono ?_;rintro e w5 ⟨⟨b,rfl,Q8⟩,hb5⟩;have fR:=ag (pC.trans (hb5.mono bX));have atC:=ag (atB.below hb5);clear hb5;cases b with
 | false =>{have bI:Hid (il s=none):=agf (af Q7) (fun r hr=>(Mz r hr).tY) (fun h=>by have:=Q8.2 h.1;cases this);clear Q8;go_wp2;go_ret;exact⟨B_ (af bI),fR⟩}
 | true =>{obtain⟨p1,fh,eK⟩:=ato (af Q7) (fun r hr=>(Mz r hr).tY) (Q8.1 rfl) atA;have bI:Hid (∀W,mM W zb y (r0 :: rt)->Jl s w.heap.size (.returned (aM zb)) W):=fun W hW=>by{unfold Jl;rw[p1];exact⟨zb,y,r0 :: rt,rfl,ae,hW,⟨Mx.2.1,Mz,fh,eK⟩,Q7,rfl⟩};clear Q8 p1 fh eK;go_wp2;go_ret;exact⟨af bI _ (af atC),fR⟩}}})}};{have xY:((c.toNat:Int) != 10)=true:=by{simp only[qJ,ne_eq];intro h;exact hc (CG.1 (by show _=10;omega))};have bI:Hid (il s=none):=Gy (Q5 (fun t' h=>by{rw[hs]at h;have:=dE List.getLast? h;simp at this;exact hc this}));clear hs hl;generalize aq s=S at *;go_enter func17,ntmps17;go_wp2;go_ret;exact⟨B_ (af bI),bR _ _⟩}
end
theorem atD(w:World)(t:TypeId)(sz:Nat):((w.alloc (.cells #[] t)).drew).ownsRow w.heap.size t sz (aD w.heap.size 0 0 0) 0 [] :=
 ⟨ar,.inr ⟨w.heap.size,0,#[],rfl,bH _,World.alloc_heap_new w _,bH _,by simp[maxLen],ar,ar⟩⟩
theorem atE:∀(ys:List (Value×List ah×Nat)),(∀z∈ys,z.1.oneCell'=true)->∀u∈ys.flatMap sR,u.oneCell'=true:=by intro ys VA u hu;obtain⟨z,hz,hu⟩:=Ay.1 hu;simp only[sR,ei,List.not_mem_nil,tk]at hu;rcases hu with rfl|rfl;{exact VA z hz};{rfl}
theorem atF(wb base:Nat)(S:ah)(v:Value)(es:dN)(w:World)(hw:dW w wb S v)(he:eR w base wb v es)(hne:es≠[])(hel:es.length<=1000000) :
  aB 146 #[aM wb] w fun e w'=>∃q v',e=.returned (aM q)/\w.heap.size<=q/\dW w' q S v'/\eR w' w.heap.size q v' es/\au w w':=by
 obtain⟨Xg,Xh,yJ,hy1,hy2⟩:=kJ af1;obtain⟨xs,Gx,hrow,Jk⟩:=he;have Ag:xs.length=es.length:=by rw[<- Gx,bY]
 have nT:0<es.length:=by cases es with
  | nil=>exact absurd rfl hne
  | cons a t=>simp
 obtain⟨ge,ce,cur,hv,hge,aZ,hce,_,hsz,ja⟩:=hrow.2.resolve_left (fun h=>by have:=h.2;omega);subst hv;obtain⟨c0,aC⟩:=hw.cells;have hwl:=hw.lt;have np:=(bV.1 aZ).1;have Q9:Hid (∀j u,(xs.flatMap sR)[j]? = some u->((w.alloc (.cells #[] 301)).drew).cell? (((ak ge 0):Addr).add j)=some u):=by
  intro j u hj;rw[JS,eY];have kM:j<xs.length*2:=by
   have:=(jX.1 hj).1;rw[Xd]at this;exact this
  rw[<- ja,ze kM]at hj;have hb:((w.alloc (.cells #[] 301)).drew).heap[ge]? = some (.cells cur 301):=(cD w _ ge np).trans aZ;unfold World.cell?;rw[hb];simpa using hj
 have IW:Hid (∀u∈xs.flatMap sR,u.oneCell'=true):=atE xs (fun z hz=>by obtain⟨_,_,_,e,_⟩:=Jk z hz;rw[e];rfl);have agq:=ag (bg Gx Jk);rw[Ag]at hce aC;have oM:(xs.flatMap sR).length=es.length*2:=by rw[Xd,Ag]
 have LB:=ag Ag;clear hw Gx Jk hrow aZ ja hsz Ag;go_enter func146,ntmps146;go_upto_region 1 with fail
 go_region_law (first|(refine step_append_lies _ rfl (.tmp 7) (.tmp 11) 227 rfl w.heap.size 301 Xg _ 2 32 af0 Xh yJ hy1 hy2 rfl bD _ 0 [] rfl (atD w _ 2) _ es.length ce (xs.flatMap sR) rfl oM (af Q9) (af IW) nT (by unfold maxLen;omega) ae ar (w.heap.size+1) ar ?_;intro g cap' w3 hown hgrow hat hlt3;have q0:w3.cell? (ak wb 0)=some (ay S):=(dh (a:=⟨wb,0,none⟩) ((hgrow.block wb aP (fun e=>by have:=fq (show some wb=some w.heap.size from e);omega)).trans (cD _ _ _ hwl))).trans c0))
 all_goals
  have ij:au w w3:=⟨hgrow.os,hgrow.tape,hgrow.output,a_ ar hgrow.size,fun i ax=>(hgrow.block i aP (fun e=>by have:=fq (show some i=some w.heap.size from e);omega)).trans (cD _ _ _ ax)⟩
  have hg0:w.heap.size<=g:=hat.elim (fun e=>by have:=fq (show some w.heap.size=some g from e);omega) (fun e=>ae);have Fj:=World.alloc_heap_new w3 (.cells #[.string (aq S),.slice (some ⟨g,0,none⟩) es.length cap'] 229);have hb4:au w3 (w3.alloc (.cells #[.string (aq S),.slice (some ⟨g,0,none⟩) es.length cap'] 229)):=aO.alloc aA _;have hown':w3.ownsRow w.heap.size 301 2 (aD g 0 es.length cap') xs.length (xs.flatMap sR):=by
   rw[af LB];simpa using hown
  have fX:Hid (dW (w3.alloc (.cells #[.string (aq S),.slice (some ⟨g,0,none⟩) es.length cap'] 229)) w3.heap.size S (aD g 0 es.length cap')/\eR (w3.alloc (.cells #[.string (aq S),.slice (some ⟨g,0,none⟩) es.length cap'] 229)) w.heap.size w3.heap.size (aD g 0 es.length cap') es/\au w (w3.alloc (.cells #[.string (aq S),.slice (some ⟨g,0,none⟩) es.length cap'] 229))):=by
   have rZ:=ij.size;refine⟨Fj,⟨xs,agq.1,ic hown' hb4,fun y hy=>?_⟩,ij.trans (hb4.mono rZ)⟩;obtain⟨g',o',c',e1,e2,e3,e4⟩:=agq.2 y hy;have:=e3.1;exact⟨g',o',c',e1,e2,(e3.below ij).below hb4,fun hc=>hc.elim (fun e=>ae) (fun e=>by have:=fq (show some g'=some g from e);omega)⟩
  have rZ:=ij.size;clear hown hgrow hat ij Fj hb4 hown' q0;go_wp2;go_ret;exact⟨_,_,rfl,rZ,fX⟩
section
open Go
section
variable {P:Program} {Q:Exit->Act->World->Prop} {S:World->Prop}
def vF(P:Program)(ops:Array Oper)(Q:Exit->Act->World->Prop)(n:Nat)(e:Exit)(a:Act)(w:World):Prop:=(e=.normal/\wpOp P ops Q n (Q .normal) a w)\/(e≠.normal/\Q e a w)
def agr(l:List Oper)(n:Nat):Bool:=decide (l.length=n+1) && Region.sinkB .any l.toArray n && (List.range (n+1)).all fun i=>match l[i]? with
 | some o=>o.guard.isNone && o.after.all fun e=>decide (e.on<i)
 | none=>false
theorem MA{ops:Array Oper}{n:Nat}{e:Exit}{a:Act}{w:World}(h:vF P ops Q n e a w)(he:e≠.normal):Q e a w:=h.elim (fun h=>absurd h.1 he) (fun h=>h.2)
theorem atG{l:List Oper}{n i:Nat}{o:Oper}(ax:i<n)(ho:l[i]? = some o)(hg:o.guard=none){K K':Act->World->Prop}(hK:∀a w,K a w->K' a w){a:Act}{w:World}(h:wpOp P (l.take n).toArray (vF P l.toArray Q n) i K a w):wpOp P l.toArray Q i K' a w:=by
 have h1:(l.take n).toArray[i]? = some o:=by simp[za,ax,ho]
 have h2:l.toArray[i]? = some o:=by simpa using ho
 have hw:∀y,Region.wanted o y=true:=fun y=>by simp[Region.wanted,hg]
 unfold wpOp at h ⊢;simp only[h1,hw,gZ]at h;simp only[h2,hw,gZ];rcases h with h|⟨h3,x,y,h4⟩
 ·refine .inl ?_;unfold Oper.wp at h ⊢;generalize (execOp a.eval o).run P w=r at *;cases r with
  | ok x w' =>
   cases x <;> simp only[Oper.upon]at h ⊢
   all_goals first
    | exact hK _ _ h
    | exact h.elim
    | (refine h.mono fun e w'' he=>?_
       cases e with
       | returned v=>exact hK _ _ he
       | panicked c=>exact MA he ar
       | outgrown=>obtain⟨x,y,he⟩:=he;exact⟨x,y,MA he ar⟩)
    | exact fun c cs=>let ⟨v,w'',r,s⟩:=h c cs;⟨v,w'',hK _ _ r,s⟩
  | halt x w' =>
   cases x <;> simp only[Oper.upon]at h ⊢
   all_goals first
    | exact MA h ar
    | exact h.elim
 ·exact .inr ⟨h3,x,y,MA h4 ar⟩
section
variable {l:List Oper} {n:Nat} (hlen:l.length=n+1) (hgd : ∀ (i:Nat) (o:Oper),l[i]? = some o->o.guard=none/\∀ e∈o.after,e.on<i) (hsk:Region.sinkB .any l.toArray n=true)
theorem XB(L:Array Bool)(i:Nat):(L.push false).getD i false=L.getD i false:=by by_cases h:i<L.size;{simp[Su,h,Nat.ne_of_lt h]};{by_cases h2:i=L.size;{subst h2;simp};{have:L.size+1<=i:=ae;simp[ZH,h,this]}}
theorem atH(L:Array Bool):(L.push false).getD L.size true=false:=ar
theorem Q_(L:Array Bool){i:Nat}(h:i<L.size):(L.push false).getD i true=L.getD i true:=by simp[Su,h,Nat.ne_of_lt h]
theorem XC{L:Array Bool}(hL:L.size=n){i:Nat}(ax:i<n):i∈Region.ready .any l.toArray (L.push false) ↔ i∈Region.ready .any (l.take n).toArray L:=by
 rw[AG,AG,Q_ L ae];have h1:(l.take n).toArray[i]? = l.toArray[i]?:=by simp[za,ax]
 simp only[h1,XB]
include hlen hgd in
theorem atI{L:Array Bool}(hL:L.size=n)(hr:Region.ready .any (l.take n).toArray L = []):∀i,i<n->L.getD i true=true:=by
 intro i;induction i using Nat.strongRecOn with
 | _ i ih =>{
 intro ax;cases hc:L.getD i true with
 | true=>rfl
 | false =>{obtain⟨o,ho⟩:∃o,l[i]? = some o:=⟨l[i],iw ae⟩;have:i∈Region.ready .any (l.take n).toArray L:=AG.2 ⟨hc,o,by simp[za,ax,ho],fun e he _=>by{have h1:=(hgd i o ho).2 e he;have h2:=ih e.on h1 ae;have h3:e.on<L.size:=ae;simp[h3]at h2 ⊢; exact h2}⟩;rw[hr]at this;cases this}}
include hlen hgd hsk in
theorem atJ:∀(f:Nat) (L:Array Bool) (a:Act) (w:World),L.size=n->HeadInv .any l.toArray n (L.push false)->wpAny P .any (l.take n).toArray (vF P l.toArray Q n) f L a w->wpAny P .any l.toArray Q (f+1) (L.push false) a w:=by
 have atK:Region.chainB .any l.toArray n=true:=by{unfold Region.chainB;rw[vT];intro t ht;have:=NS.1 ht;simp at this;simp;left;omega};have atL:∀(L:Array Bool),L.size=n->(∀i,i<n->L.getD i true=true)->n∈Region.ready .any l.toArray (L.push false):=fun L hL hall=>by{obtain⟨o,ho⟩:∃o,l[n]? = some o:=⟨l[n],iw ae⟩;refine AG.2 ⟨by subst hL;simp,o,by simpa using ho,fun e he _=>?_⟩;have h1:=(hgd n o ho).2 e he;have h2:=hall e.on h1;have h3:e.on<L.size:=ae;rw[XB];simp[h3]at h2 ⊢; exact h2};have fin:∀(f:Nat) (L:Array Bool) (a:Act) (w:World),L.size=n->(∀i,i<n->L.getD i true=true)->wpOp P l.toArray Q n (Q .normal) a w->wpOp P l.toArray Q n (wpAny P .any l.toArray Q f ((L.push false).setIfInBounds n true)) a w:=fun f L a w hL hall h=>by{
 refine wpOp_mono (fun a' w' h'=>wpAny_done ?_ h' f) h;refine ZP.2 fun i ax=>?_;obtain⟨h1,o,h2,_⟩:=AG.1 ax;have hin:i<n+1:=by have:=(bV.1 h2).1;simpa [hlen]using this
 by_cases hn:i=n;{subst hn;have:i<((L.push false).setIfInBounds i true).size:=aP;simp[hL]at h1};{rw[getD_set_ne true ae,Q_ L ae,hall i ae]at h1;cases h1}};have one:∀(f:Nat) (L:Array Bool) (a:Act) (w:World),L.size=n->HeadInv .any l.toArray n (L.push false)->(Region.ready .any (l.take n).toArray L = []->wpOp P l.toArray Q n (Q .normal) a w) -> (Region.ready .any l.toArray (L.push false) = []->Q .normal a w)/\(n∈Region.ready .any l.toArray (L.push false)->wpOp P l.toArray Q n (wpAny P .any l.toArray Q f ((L.push false).setIfInBounds n true)) a w):=fun f L a w hL inv hq=>by{
 have wK:(∀i,i<n->i ∉ Region.ready .any l.toArray (L.push false))->Region.ready .any (l.take n).toArray L = []:=fun h=>by{
 refine ZP.2 fun i ax=>?_;obtain⟨_,o,h2,_⟩:=AG.1 ax;have hin:i<n:=by have:=(bV.1 h2).1;simp at this;omega
 exact h i hin ((XC hL hin).2 ax)};refine⟨fun h0=>?_,fun hn=>?_⟩;{have h1:=wK (fun i _ ax=>by rw[h0]at ax;cases ax);have:=atL L hL (atI hlen hgd hL h1);rw[h0]at this;cases this};{
 have hall:∀i,i<n->L.getD i true=true:=fun i ax=>by{
 cases hc:L.getD i true with
 | true=>rfl
 | false=>exact absurd hn (tail_waits hsk atK (by simp[hlen]) inv (n - i) i rfl ax (by rw[Q_ L ae];exact hc) n aA)};have h1:=wK (fun i ax hr=>by{have:=(AG.1 hr).1;rw[Q_ L ae,hall i ax]at this;cases this});exact fin f L a w hL hall (hq h1)}};intro f;induction f with
 | zero =>{intro L a w hL inv h;have ho:=one 0 L a w hL inv (fun _=>(h.2).elim (fun h=>h.2) (fun h=>absurd rfl h.1));refine⟨ho.1,fun i ax=>?_⟩;have hin:i<n+1:=by{obtain⟨_,o,h2,_⟩:=AG.1 ax;have:=(bV.1 h2).1;simpa [hlen]using this};by_cases hn:i=n;{subst hn;exact ho.2 ax};{have:=(XC hL (show i<n by omega)).1 ax;rw[h.1]at this;cases this}}
 | succ f ih =>{
 intro L a w hL inv h;have ho:=one (f+1) L a w hL inv (fun h0=>(h.1 h0).elim (fun h=>h.2) (fun h=>absurd rfl h.1));refine⟨ho.1,fun i ax=>?_⟩;obtain⟨_,o,h2,_⟩:=AG.1 ax;have hin:i<n+1:=by{have:=(bV.1 h2).1;simpa [hlen]using this};by_cases hn:i=n;{subst hn;exact ho.2 ax};{
 have XD:i<n:=ae;have iF:l[i]? = some o:=by simpa using h2
 have hr:=(XC hL XD).1 ax;have e:(L.push false).setIfInBounds i true=(L.setIfInBounds i true).push false:=by{apply Array.ext_getElem?;intro j;by_cases hj:i=j;{subst hj;rw[ZJ aP,Array.getElem?_push_lt aP];simp};{simp[Su,Sv,hj]}};refine atG XD iF (hgd i o iF).1 (fun a' w' h'=>?_) (h.2 i hr);rw[e];refine ih (L.setIfInBounds i true) a' w' (by simp[hL]) ?_ h';rw[<- e];exact inv.set ax XD}}
end
theorem XE{ops:Array Oper}{n:Nat}{d:Option Nat}{v:Value}(h:∀c a w,Q (.panic c) (a.put d v) w->Q (.panic c) a w):∀c a w,vF P ops Q n (.panic c) (a.put d v) w->vF P ops Q n (.panic c) a w:=fun c a w k=>.inr ⟨ar,h c a w (MA k ar)⟩
theorem MB{ops:Array Oper}{n:Nat}{o:Oper}{a:Act}{w:World}(ho:ops[n]? = some o)(hg:o.guard=none)(h:o.wp P a w (Q .normal) Q):vF P ops Q n .normal a w:=by
 refine .inl ⟨rfl,?_⟩;have hw:∀y,Region.wanted o y=true:=fun y=>by simp[Region.wanted,hg]
 unfold wpOp;simp only[ho,hw,gZ];exact .inl h
theorem fL{md:Region.Mode}{ops:Array Oper}{l:List Oper}{n:Nat}(i:Nat){oi:Oper}{v:Value}{fuel:Nat}{listed:Array Bool}{a:Act}{w:World}{L:Array Bool}{A:Act}(hS:S w)(h:wpAnyH P md ops (vF P l.toArray Q n) S fuel L A w)
  (ax:ops[i]? = some oi:=by rfl) (hs:Region.noSelect ops=true:=by kernel_rfl) (hf:Region.free md ops listed i=true:=by kernel_rfl) (hr:(Region.ready md ops listed).contains i=true:=by kernel_rfl)
  (hQ:∀c a w,Q (.panic c) (a.put oi.dst v) w->Q (.panic c) a w:=by exact fun _ _ _ h=>h) (hy:YieldsIf P ops S oi v a:=by exact Or.inl ⟨ee,by intro w hw;obtain⟨s0,s1,s2,s3,s4⟩:=hw;go_simp;first|done|with_reducible rfl⟩) (eL:listed.setIfInBounds i true=L:=by first|(simp only[List.setIfInBounds_toArray,List.set_cons_zero,List.set_cons_succ];rfl)|simp only[List.setIfInBounds_toArray,List.set_cons_zero,List.set_cons_succ]|rfl) (eA:a.put oi.dst v=A:=by first|(simp only[Act.put,List.setIfInBounds_toArray,List.set_cons_zero,List.set_cons_succ];rfl)|simp only[Act.put,List.setIfInBounds_toArray,List.set_cons_zero,List.set_cons_succ]|rfl) :
  wpAnyH P md ops (vF P l.toArray Q n) S (fuel+1) listed a w:=by subst eL eA;exact Tb ax hs hf hr (XE hQ) hy hS h
theorem vG{md:Region.Mode}{ops:Array Oper}{l:List Oper}{n:Nat}(i:Nat){oi:Oper}{v:Value}{fuel:Nat}{listed:Array Bool}{a:Act}{w:World}{L:Array Bool}{A:Act}(hS:S w)(h:wpAnyH P md ops (vF P l.toArray Q n) S fuel L A w)
  (ax:ops[i]? = some oi:=by rfl) (hs:Region.noSelect ops=true:=by kernel_rfl) (hf:Region.free md ops listed i=true:=by kernel_rfl) (hr:(Region.ready md ops listed).contains i=true:=by kernel_rfl)
  (hQ:∀c a w,Q (.panic c) (a.put oi.dst v) w->Q (.panic c) a w:=by exact fun _ _ _ h=>h) (hy:YieldsIf P ops S oi v a:=by exact Or.inl ⟨ee,by intro w hw;obtain⟨s0,s1,s2⟩:=hw;go_simp;first|done|with_reducible rfl⟩) (eL:listed.setIfInBounds i true=L:=by first|(simp only[List.setIfInBounds_toArray,List.set_cons_zero,List.set_cons_succ];rfl)|simp only[List.setIfInBounds_toArray,List.set_cons_zero,List.set_cons_succ]|rfl) (eA:a.put oi.dst v=A:=by first|(simp only[Act.put,List.setIfInBounds_toArray,List.set_cons_zero,List.set_cons_succ];rfl)|simp only[Act.put,List.setIfInBounds_toArray,List.set_cons_zero,List.set_cons_succ]|rfl) :
  wpAnyH P md ops (vF P l.toArray Q n) S (fuel+1) listed a w:=by subst eL eA;exact Tb ax hs hf hr (XE hQ) hy hS h
theorem lF{md:Region.Mode}{ops:Array Oper}{l:List Oper}{n:Nat}(i:Nat){oi:Oper}{v:Value}{fuel:Nat}{listed:Array Bool}{a:Act}{w:World}{L:Array Bool}{A:Act}(hS:S w)(h:wpAnyH P md ops (vF P l.toArray Q n) S fuel L A w)
  (ax:ops[i]? = some oi:=by rfl) (hs:Region.noSelect ops=true:=by kernel_rfl) (hf:Region.free md ops listed i=true:=by kernel_rfl) (hr:(Region.ready md ops listed).contains i=true:=by kernel_rfl)
  (hQ:∀c a w,Q (.panic c) (a.put oi.dst v) w->Q (.panic c) a w:=by exact fun _ _ _ h=>h) (hy:YieldsIf P ops S oi v a:=by exact Or.inl ⟨ee,by intro w hw;obtain⟨s0,s1⟩:=hw;go_simp;first|done|with_reducible rfl⟩) (eL:listed.setIfInBounds i true=L:=by first|(simp only[List.setIfInBounds_toArray,List.set_cons_zero,List.set_cons_succ];rfl)|simp only[List.setIfInBounds_toArray,List.set_cons_zero,List.set_cons_succ]|rfl) (eA:a.put oi.dst v=A:=by first|(simp only[Act.put,List.setIfInBounds_toArray,List.set_cons_zero,List.set_cons_succ];rfl)|simp only[Act.put,List.setIfInBounds_toArray,List.set_cons_zero,List.set_cons_succ]|rfl) :
  wpAnyH P md ops (vF P l.toArray Q n) S (fuel+1) listed a w:=by subst eL eA;exact Tb ax hs hf hr (XE hQ) hy hS h
theorem MC{id:Nat}{l:List Oper}{a:Act}{w:World}(n:Nat)(hm:P.follows .mixedOrders=true)(hB:agr l n=true)(hS:S w.drew)
  (h:S w.drew->wpAnyH P .any (l.take n).toArray (vF P l.toArray Q n) S n (Array.replicate n false) a w.drew):(Code.region id l.toArray true).wp P Q a w:=by
 unfold agr at hB;simp only[cY,tj]at hB;obtain⟨⟨hlen,hsk⟩,hg⟩:=hB;have hgd:∀(i:Nat) (o:Oper),l[i]? = some o->o.guard=none/\∀e∈o.after,e.on<i:=fun i o ho=>by{have ax:i<l.length:=(jX.1 ho).1;have:=vT.1 hg i (NS.2 ae);rw[ho]at this;simp only[cY,Option.isNone_iff_eq_none,Array.all_eq_true',tj]at this;exact this};refine wp_region_any hm ?_;have e2:l.toArray.size=n+1:=by simp[hlen]
 rw[e2,o_];refine atJ hlen hgd hsk n (Array.replicate n false) a _ ar ⟨by simp[hlen],fun j oj _ hl=>?_,fun t h1 h2=>?_⟩ (wpAny_of_held _ _ _ _ (h hS));{rw[XB,getD_replicate_false]at hl;cases hl};{
 have:t=n:=by simp[hlen]at h2;omega
 rw[this];have h3:=atH (Array.replicate n false);rw[Array.size_replicate]at h3;exact h3}
end
end
theorem atM{w:World}{base:Nat}{v:Value}{fs:List nG}(h:vB w base v fs):BS w base v (fs.map jJ):=by unfold vB at h;unfold BS;rw[bY,kY];exact h
theorem atN(r:ai)(us:List Nat)(ho:r.owner.length<=300)(ht:r.type=1)(hl:r.aG<4294967296)(hd:r.data.length<=3000)(hu:Mk r.data us)(hne:nK us≠[])(atO:(nK us).length<=1000)(bq:∀f∈nK us,f.BM):pH r ((nK us).map jJ) where
 own:=ho
 typ:=by rw[ht];exact⟨rfl,bD⟩
 aG:=hl
 data:=fun W hG=>by
  refine(asA r us W hG ht hd hu).mono ?_;rintro e w' ⟨⟨v,rfl,hv⟩,hb⟩;exact⟨⟨v,rfl,atM hv⟩,hb⟩
 ok:=fun mb base I _ _ _ f hf=>by
  obtain⟨g,hg,rfl⟩:=jZ.1 hf;exact ru (bq g hg) _ _ _
 ne:=by simpa using hne
 few:=by simpa using atO
theorem atP(r:ai)(ho:r.owner.length<=300)(ht:r.type=6)(hl:r.aG<4294967296)(hd:r.data.length<=3000)(x0 x1 x2 x3:ah)(n2 n3:Nat)(hw:gq 32 (aq r.data) = [aq x0,aq x1,aq x2,aq x3])(D9:Lib.parseUintB 64 x2=.ok n2)(p7:Lib.parseUintB 64 x3=.ok n3)(hl0:x0.length<=300)(dH:x1.length<=300)(hl2:x2.length<=3000)(hl3:x3.length<=3000):pH r (BU x0 x1 n2 n3) where
 own:=ho
 typ:=by rw[ht];exact⟨rfl,bD⟩
 aG:=hl
 data:=fun W hG=>asE r W hG ht hd x0 x1 x2 x3 n2 n3 hw D9 p7 hl2 hl3
 ok:=fun mb base I hI hb hm f hf=>by
  simp only[BU,ei,vX,tk]at hf;rcases hf with rfl|rfl|rfl|rfl|rfl|rfl|rfl
  ·exact I_ _ hl0 _ _ _ hI hb hm
  ·exact I_ _ dH _ _ _ hI hb hm
  ·exact ru (I5 _ (Nat.mod_lt _ ae)) _ _ _
  ·exact ru (I5 _ ae) _ _ _
  ·exact ru (I5 _ ae) _ _ _
  ·exact ru (I5 _ ae) _ _ _
  ·exact ru (I5 _ (Nat.mod_lt _ ae)) _ _ _
 ne:=by simp[BU]
 few:=by simp[BU]
theorem atQ(r:ai)(ho:r.owner.length<=300)(ht:r.type=16)(hl:r.aG<4294967296)(hd:r.data.length<=3000):pH r (D8 r.data) where
 own:=ho
 typ:=by rw[ht];exact⟨rfl,bD⟩
 aG:=hl
 data:=fun W hG=>asB r W hG ht hd
 ok:=fun mb base I hI hb hm f hf=>by
  simp only[D8,ei,vX,tk]at hf;rcases hf with rfl|rfl
  ·exact ru (I4 _) _ _ _
  ·exact ru (L6 _) _ _ _
 ne:=by simp[D8]
 few:=by simp[D8]
theorem atS(r:ai)(ho:r.owner.length<=300)(ht:r.type=15)(hl:r.aG<4294967296)(hd:r.data.length<=3000)(x0 x1:ah)(n0:Nat)(hw:gq 32 (aq r.data) = [aq x0,aq x1])(jo:Lib.parseUintB 64 x0=.ok n0)(hl0:x0.length<=3000)(dH:x1.length<=300):pH r (BV n0 x1) where
 own:=ho
 typ:=by rw[ht];exact⟨rfl,bD⟩
 aG:=hl
 data:=fun W hG=>asD r W hG ht hd x0 x1 n0 hw jo hl0
 ok:=fun mb base I hI hb hm f hf=>by
  simp only[BV,ei,vX,tk]at hf;rcases hf with rfl|rfl
  ·exact ru (BO _ (Nat.mod_lt _ ae)) _ _ _
  ·exact I_ _ dH _ _ _ hI hb hm
 ne:=by simp[BV]
 few:=by simp[BV]
theorem ags(r:ai)(ho:r.owner.length<=300)(ht:r.type=2\/r.type=5)(hl:r.aG<4294967296)(hd:r.data.length<=300):pH r [xn r.data] where
 own:=ho
 typ:=by rcases ht with ht|ht <;> rw[ht] <;> exact⟨rfl,bD⟩
 aG:=hl
 data:=fun W hG=>by
  rcases ht with ht|ht
  ·exact afC r W hG 2 ht bD bD bD bD ae
  ·exact afC r W hG 5 ht bD bD bD bD ae
 ok:=fun mb base I hI hb hm f hf=>by
  simp only[ei,vX,tk]at hf;subst hf;exact I_ _ hd _ _ _ hI hb hm
 ne:=ar
 few:=ar
end Go.Proofs.YtkkpahmoljiepaaGreatDoor
