import Derived.Test.YtkkpahmoljiepaaGreatDoorJ09
import Derived.Test.YtkkpahmoljiepaaGreatDoorJ0h
set_option maxRecDepth 1000000
set_option maxHeartbeats 12800000
set_option linter.unusedSimpArgs false
set_option linter.unusedVariables false
namespace Go.Proofs.YtkkpahmoljiepaaGreatDoor
open Go.RowKit Go.Proofs.Tryz
def je(o:ah)(L:List ai)(t:Int):Nat->Bool->Bool->List ai->ah->Int×Bool×List ai×List ai
 | 0,first,aa,ans,n=>((eo o L t first aa ans n).1,(eo o L t first aa ans n).2.1,(eo o L t first aa ans n).2.2.1,(eo o L t first aa ans n).2.2.2.1)
 | f+1,first,aa,ans,n=>match eo o L t first aa ans n with
  | (rc,jd,ou,bS,none)=>(rc,jd,ou,bS)
  | (_,jd,ou,_,some d)=>je o L t f false jd ou d
structure sI(rs:List ai)(r:ai):Prop where
 dat:∃r0∈rs,r.type=r0.type/\r.data=r0.data
 own:r.owner.length<=260
section
variable {o:ah} {rs:List ai} (hz:kE o rs)
include hz
theorem Ql{n:ah}{r:ai}(hn:fC n)(h:iE o (aN rs) n=some r):∃r0∈rs,r=eM n r0/\r0.type=5/\dr r.data=true:=by
 obtain⟨_,h2,h3,h4⟩:=Ud h;rcases Vr rs (tZ hz) hn with⟨_,c2⟩|⟨s,_,_,c3⟩;{rw[h2]at c2;cases c2};{
 rw[h3]at c3;cases hf:cB (aN rs) s with
 | nil=>rw[hf]at c3;simp at c3
 | cons r0 l =>{
 rw[hf]at c3;have e:r=eM n r0:=by simp at c3;exact c3.1
 have hm:r0∈rs:=(Lm (by rw[hf];simp)).1;have h5:r0.type=5:=by{
 unfold qT at h4;rw[e]at h4;have:((eM n r0).type == 5)=true:=by simpa using h4
 have h':(r0.type == 5)=true:=this;simpa using h'};refine⟨r0,hm,e,h5,?_⟩;rw[e];exact(adq hz hm h5).2}}
omit hz in
theorem ap6{n m:ah}{t:Int}(hm:m.length<=260):∀r∈(dL rs n t).map (eM m),sI rs r:=by intro r hr;obtain⟨r0,h0,rfl⟩:=jZ.1 hr;have hmem:r0∈rs:=by{unfold dL at h0;split at h0;{obtain⟨k,_,hk⟩:=Ay.1 h0;exact(fA.1 hk).1};{exact(fA.1 h0).1}};exact⟨⟨r0,hmem,rfl,rfl⟩,hm⟩
theorem ad3:∀r∈fQ o (aN rs),sI rs r:=by
 intro r hr;obtain⟨a0,a1,a2,a3,_,_,_,h4,_⟩:=P8 hz;rw[h4]at hr;obtain rfl:r=_:=by simpa using hr
 have hm:=cM (u_ hz);exact⟨⟨_,hm,rfl,rfl⟩,a_ (Dq (hz.recs _ hm).tY).2 ae⟩
theorem ap7{r:ai}(h:r∈rs):sI rs r:=⟨⟨r,h,rfl,rfl⟩,a_ (Dq (hz.recs r h).tY).2 ae⟩
theorem LI{n:ah}(hn:fC n)(t:Int):kB t (ct (aN rs) n).1 = []\/∃s,kB t (ct (aN rs) n).1=(dL rs s t).map (eM n):=by rcases Vr rs (tZ hz) hn with⟨_,c2⟩|⟨s,_,_,c3⟩;{left;have:(ct (aN rs) n).1 = []:=by{unfold ct at c2 ⊢;split;{rename_i h;rw[aJ h]at c2;cases c2};{rename_i h;rw[aF h]at c2;split;{rename_i a ha;rw[ha]at c2;simp only[Hx,Nat.not_lt,Nat.le_zero]at c2;show List.map (eM n) (cB (aN rs) (42 :: 46 :: a)) = [];rw[fp c2];rfl};{rfl}}};rw[this];rfl};{right;exact⟨s,by rw[c3,Vj rs s n t (tZ hz)]⟩}
theorem ad4{n:ah}(hn:fC n)(hu:dy n o=true):∀r∈cU o (aN rs) n,r∈rs:=by rcases P0 (tZ hz) hn hu with⟨_,h⟩|⟨i,_,_,h,_⟩;{rw[h];intro r hr;cases hr};{rw[h];intro r hr;exact(fA.1 hr).1}
theorem ap8{n:ah}(hn:fC n)(hu:dy n o=true):(cU o (aN rs) n).length<=60:=by rcases P0 (tZ hz) hn hu with⟨_,h⟩|⟨i,_,_,h,_⟩;{rw[h];simp};{rw[h];exact adn hz _ _}
theorem ad5:(fQ o (aN rs)).length=1:=by obtain⟨a0,a1,a2,a3,_,_,_,h4,_⟩:=P8 hz;rw[h4];rfl
structure ap9(rs ans:List ai)(q:Int×Bool×List ai×List ai×Option ah):Prop where
 Qm:∀r∈q.2.2.1,sI rs r
 ad6:∀r∈q.2.2.2.1,sI rs r
 ad7:q.2.2.1.length<=ans.length+60
 ad8:q.2.2.2.1.length<=60
 ad9:∀d,q.2.2.2.2=some d->dr d=true/\q.1=0/\q.2.2.2.1 = []/\q.2.2.1.length=ans.length+1/\ans.length≠8
theorem VV{n:ah}(hn:fC n)(hl:n.length<=260)(t:Int)(first aa:Bool)(ans:List ai)(ha:∀r∈ans,sI rs r):ap9 rs ans (eo o (aN rs) t first aa ans n):=by
 cases hu:dy n o with
 | false =>{unfold eo;rw[aJ hu];exact⟨ha,(by intro r hr;cases hr),CD _ _,cV _,(by intro d hd;cases hd)⟩}
 | true =>{
 by_cases hc:(cU o (aN rs) n).length=0;{
 have hc':=fp hc;cases hm:(ct (aN rs) n).2 with
 | false =>{rw[VM hu hc' hm];exact⟨ha,ad3 hz,CD _ _,(by show(fQ o (aN rs)).length<=60;rw[ad5 hz];omega),(by intro d hd;cases hd)⟩}
 | true =>{
 by_cases zV:(t=5\/t=255)\/iE o (aN rs) n=none;{rw[VN hu hc' hm zV];have BB:∀r∈kB t (ct (aN rs) n).1,sI rs r:=by{rcases LI hz hn t with h|⟨s,h⟩;{rw[h];intro r hr;cases hr};{rw[h];exact ap6 hl}};have kL:(kB t (ct (aN rs) n).1).length<=60:=by{rcases LI hz hn t with h|⟨s,h⟩;{rw[h];simp};{rw[h,bY];exact IE hz s t}};refine⟨fun r hr=>?_,fun r hr=>?_,?_,?_,(by intro d hd;cases hd)⟩;{rcases gm.1 hr with h|h;{exact ha r h};{exact BB r h}};{have hr':r∈(if tE t (ct (aN rs) n).1 then []else fQ o (aN rs)):=hr;split at hr';{cases hr'};{exact ad3 hz r hr'}};{show(ans++_).length<=_;rw[bj];omega};{show(if tE t (ct (aN rs) n).1 then []else fQ o (aN rs)).length<=60;split;{simp};{rw[ad5 hz];omega}}};{
 have h5:t≠5:=fun h=>zV (.inl (.inl h));have gS:t≠255:=fun h=>zV (.inl (.inr h));cases hlk:iE o (aN rs) n with
 | none=>exact absurd (.inr hlk) zV
 | some r =>{
 obtain⟨r0,hm0,e,_,hp⟩:=Ql hz hn hlk;by_cases h8:ans.length=8;{rw[Qh hu hc' hlk h5 gS h8];exact⟨(by intro r hr;cases hr),(by intro r hr;cases hr),cV _,cV _,(by intro d hd;cases hd)⟩};{
 rw[Lv hu hc' hlk h5 gS h8];refine⟨fun x hx=>?_,(by intro r hr;cases hr),?_,cV _,fun d hd=>?_⟩;{
 rcases gm.1 hx with h|h;{exact ha x h};{
 obtain rfl:x=r:=by simpa using h
 rw[e];exact⟨⟨r0,hm0,rfl,rfl⟩,hl⟩}};{show(ans++[r]).length<=_;rw[bj];simp};{obtain rfl:r.data=d:=fq hd;exact⟨hp,rfl,rfl,ar,h8⟩}}}}}};{rw[Qg hu hc];exact⟨ha,fun r hr=>ap7 hz (ad4 hz hn hu r hr),CD _ _,ap8 hz hn hu,(by intro d hd;cases hd)⟩}}
theorem F9(t:Int):∀(f:Nat) (first aa:Bool) (ans:List ai) (n:ah),fC n->n.length<=260->(∀r∈ans,sI rs r)->ans.length<=8 ->
  (∀r∈(je o (aN rs) t f first aa ans n).2.2.1,sI rs r)/\(∀r∈(je o (aN rs) t f first aa ans n).2.2.2,sI rs r)/\(je o (aN rs) t f first aa ans n).2.2.1.length<=68/\(je o (aN rs) t f first aa ans n).2.2.2.length<=60
 | 0,first,aa,ans,n,hn,hl,ha,h8=>by
  have h:=VV hz hn hl t first aa ans ha
  exact⟨h.Qm,h.ad6,by have:=h.ad7;show(eo o (aN rs) t first aa ans n).2.2.1.length<=68;omega,h.ad8⟩
 | f+1,first,aa,ans,n,hn,hl,ha,h8=>by
  have h:=VV hz hn hl t first aa ans ha
  unfold je;generalize eo o (aN rs) t first aa ans n=q at h
  obtain⟨rc,jd,ou,bS,nx⟩:=q;cases nx with
  | none=>exact⟨h.Qm,h.ad6,by have:=h.ad7;simp only at this;show ou.length<=68;omega,h.ad8⟩
  | some d =>{obtain⟨hp,_,_,hl',yF⟩:=h.ad9 d rfl;simp only at hl';exact F9 t f false jd ou d (gU hp).1 (a_ (gU hp).2 ae) h.Qm ae}
theorem ap_{r:ai}(h:sI rs r)(hn:lT r=true):∃ws x,az 32 r.data=ws++[x]/\fW r.data=x/\dr x=true/\r.data.length<=3000:=by obtain⟨⟨r0,hm,ht,hd⟩,_⟩:=h;have h0:=hz.recs r0 hm;have dJ:r0.type=2\/r0.type=15:=by{unfold lT at hn;rw[ht]at hn;simpa using hn};obtain⟨ws,x,h1,h2,h3⟩:=aoZ h0 dJ;rw[hd];exact⟨ws,x,h1,h2,h3,h0.len⟩
end
def xg(o:ah)(L:List ai)(t:Int)(n:ah):Option (Int×List ai×List ai) :=
 if t=5\/t=255 then some (lN o L n,mH o L t n,nZ o L t n)else(gA o L 8 n).map (fun x=>(A8 o L x.2,x.1++zC o L t x.2,A_ o L t x.2))
section
variable {o:ah} {L:List ai} {t:Int}
theorem VW{first aa:Bool}{ans:List ai}{n:ah}(hu:dy n o=false):eo o L t first aa ans n=((if first then 5 else 0),aa,ans,[],none):=by unfold eo;rw[aJ hu]
theorem Qn{first aa:Bool}{ans:List ai}{n:ah}(hu:dy n o=true)(hl:(t=5\/t=255)\/iE o L n=none):eo o L t first aa ans n=(lN o L n,(if(cU o L n).length=0 then true else aa || !first),ans++mH o L t n,nZ o L t n,none):=by by_cases hc:(cU o L n).length=0;{have hl':(if t=5\/t=255 then none else iE o L n)=none:=by{rcases hl with h|h;{rw[aJ h]};{rw[h,ite_self]}};unfold eo;rw[aF (by simp[hu]),aF (by simp[hc]),hl',aJ hc]};{rw[Qg hu hc,aF hc];unfold lN mH nZ;rw[aF hc,aF hc,aF hc,h_]}
theorem DC{first aa:Bool}{ans:List ai}{n:ah}{rc:Int}{jd:Bool}{ou bS:List ai}(f:Nat)(h:eo o L t first aa ans n=(rc,jd,ou,bS,none)):je o L t f first aa ans n=(rc,jd,ou,bS):=by
 cases f with
 | zero=>unfold je;rw[h]
 | succ f=>unfold je;rw[h]
theorem ad_{first aa:Bool}{ans:List ai}{n d:ah}{rc:Int}{jd:Bool}{ou bS:List ai}(f:Nat)(h:eo o L t first aa ans n=(rc,jd,ou,bS,some d)):je o L t (f+1) first aa ans n=je o L t f false jd ou d:=by
 conv=>lhs;unfold je
 rw[h]
theorem VX{n:ah}{r:ai}(h:iE o L n=some r):cU o L n = []:=fp (Ud h).1
theorem aqa(h5:t≠5)(gS:t≠255):∀(m:Nat) (ans:List ai) (n:ah),ans.length+m=8->dy n o=true ->
  je o L t (m+1) false true ans n=match gA o L m n with
   | none=>(2,true,[],[])
   | some x=>(A8 o L x.2,true,ans++(x.1++zC o L t x.2),A_ o L t x.2):=by
 intro m;induction m with
 | zero =>{
 intro ans n hl hu;cases hk:iE o L n with
 | none =>{rw[DC 1 (Qn hu (.inr hk))];unfold gA;rw[hk];simp[A8,zC,A_]}
 | some r =>{rw[DC 1 (Qh hu (VX hk) hk h5 gS ae)];unfold gA;rw[hk]}}
 | succ m ih =>{
 intro ans n hl hu;cases hk:iE o L n with
 | none =>{rw[DC (m+2) (Qn hu (.inr hk))];unfold gA;rw[hk];simp[A8,zC,A_]}
 | some r =>{
 rw[ad_ (m+1) (Lv hu (VX hk) hk h5 gS ae)];have hch:gA o L (m+1) n=if dy r.data o=true then(gA o L m r.data).map (fun x=>(r :: x.1,x.2))else some ([r],none):=by{
 conv=>lhs;unfold gA
 rw[hk]}
 rw[hch];cases hr:dy r.data o with
 | false =>{rw[DC (m+1) (VW hr)];simp[A8,zC,A_]}
 | true =>{
 rw[ih (ans++[r]) r.data aP hr];simp only[gZ];cases gA o L m r.data with
 | none=>rfl
 | some x=>simp}}}
theorem aea{n:ah}(hu:dy n o=true):je o L t 9 true false [] n=match xg o L t n with
  | none=>(2,true,[],[])
  | some x=>(x.1,decide ((cU o L n).length=0),x.2.1,x.2.2):=by
 have hdec:(if(cU o L n).length=0 then true else(false || !true))=decide ((cU o L n).length=0):=by{by_cases h:(cU o L n).length=0 <;> simp[h]};unfold xg;by_cases ht:t=5\/t=255;{rw[DC 9 (Qn hu (.inl ht)),aJ ht,hdec];rfl};{
 rw[aF ht];have h5:t≠5:=fun h=>ht (.inl h);have gS:t≠255:=fun h=>ht (.inr h);cases hk:iE o L n with
 | none =>{
 rw[DC 9 (Qn hu (.inr hk)),hdec];have:gA o L 8 n=some ([],some n):=by unfold gA;rw[hk]
 rw[this];simp[A8,zC,A_]}
 | some r =>{
 have hc:=VX hk;rw[ad_ 8 (Lv hu hc hk h5 gS ar),hc];have hch:gA o L 8 n=if dy r.data o=true then(gA o L 7 r.data).map (fun x=>(r :: x.1,x.2))else some ([r],none):=by{
 conv=>lhs;unfold gA
 rw[hk]}
 rw[hch];cases hr:dy r.data o with
 | false =>{rw[DC 8 (VW hr)];simp[A8,zC,A_]}
 | true =>{
 rw[aqa h5 gS 7 ([]++[r]) r.data ar hr];simp only[gZ];cases gA o L 7 r.data with
 | none=>rfl
 | some x=>simp}}}
section
variable {rs:List ai} (hz:kE o rs)
include hz
def IP(rs ans:List ai):Prop:=∀x,ans.any (fun a=>a.owner == x && a.type == 1)=true->∀s∈eH rs x 1,s∈ans
theorem aqb{n:ah}(h:jC (aN rs) n=false)(k:Int):eH rs n k = []:=by unfold eH;rw[rH];intro r hr hc;simp only[cY,fe]at hc;rw[Vp rs (tZ hz)]at h;have:tU rs (aT n)=true:=by{unfold tU;refine oA.2 ⟨r,hr,?_⟩;rw[Vf (tZ hz r hr).2.2,hc.1];exact U5 n};rw[h]at this;cases this
theorem aqc{n:ah}(hn:fC n)(t:Int):kB t (ct (aN rs) n).1 = []\/kB t (ct (aN rs) n).1=dL rs n t\/(eH rs n 1 = []/\∀r∈kB t (ct (aN rs) n).1,r.owner=n):=by
 by_cases ht:jC (aN rs) n=true;{
 have:(ct (aN rs) n).1=cB (aN rs) n:=by unfold ct;rw[aJ ht]
 rw[this,Vi rs n t (tZ hz)];exact .inr (.inl rfl)};{
 have Vq:jC (aN rs) n=false:=by simpa using ht
 rcases LI hz hn t with h|⟨s,h⟩;{exact .inl h};{refine .inr (.inr ⟨aqb hz Vq 1,?_⟩);rw[h];intro r hr;obtain⟨r0,_,rfl⟩:=jZ.1 hr;rfl}}
omit hz in
theorem aqd{n:ah}{t:Int}{r:ai}(hr:r∈dL rs n t)(h1:r.type=1):∀s∈eH rs n 1,s∈dL rs n t:=by
 intro s hs;unfold dL at hr ⊢;split at hr;{rename_i h;rw[aJ h];exact Ay.2 ⟨1,ar,hs⟩};{
 rename_i h;rw[aF h];have:=(fA.1 hr).2;simp only[cY,fe]at this;have ht:t=1:=by rw[<- this.2,h1]
 rw[ht];exact hs}
omit hz in
theorem aqe{n:ah}{t:Int}{r:ai}(hr:r∈dL rs n t):r.owner=n:=by unfold dL at hr;split at hr;{obtain⟨k,_,hk⟩:=Ay.1 hr;have:=(fA.1 hk).2;simp only[cY,fe]at this;exact this.1};{have:=(fA.1 hr).2;simp only[cY,fe]at this;exact this.1}
theorem aqf{ls:List ai}{n:ah}(hn:fC n)(t:Int)(iF:∀r∈ls,r.type=5):IP rs (ls++kB t (ct (aN rs) n).1):=by intro x hx s hs;obtain⟨a,ha,hc⟩:=oA.1 hx;simp only[cY,fe]at hc;rcases gm.1 ha with h|h;{have:=iF a h;rw[this]at hc;exact absurd hc.2 bD};{refine SN _ ?_;rcases aqc hz hn t with e|e|⟨e1,e2⟩;{rw[e]at h;cases h};{rw[e]at h ⊢;have:=aqe h;rw[hc.1]at this;subst this;exact aqd h hc.2 s hs};{have:=e2 a h;rw[hc.1]at this;subst this;rw[e1]at hs;cases hs}}
omit hz in
theorem VY{ls:List ai}(iF:∀r∈ls,r.type=5):IP rs ls:=by intro x hx s hs;obtain⟨a,ha,hc⟩:=oA.1 hx;simp only[cY,fe]at hc;have:=iF a ha;rw[this]at hc;exact absurd hc.2 bD
theorem aeb{ls:List ai}{n:ah}(hn:fC n)(t:Int)(iF:∀r∈ls,r.type=5):IP rs (ls++mH o (aN rs) t n):=by unfold mH;split;{split;{exact aqf hz hn t iF};{rw[h_];exact VY iF}};{rw[h_];exact VY iF}
theorem aqg:∀(m:Nat) (n:ah) (x:List ai×Option ah),fC n->gA o (aN rs) m n=some x->(∀r∈x.1,r.type=5)/\∀f,x.2=some f->fC f:=by
 intro m;induction m with
 | zero =>{
 intro n x hn h;unfold gA at h;cases hk:iE o (aN rs) n with
 | none=>rw[hk]at h;obtain rfl:=fq h;exact⟨fun r hr=>(by cases hr),fun f hf=>by obtain rfl:=fq hf;exact hn⟩
 | some r=>rw[hk]at h;cases h}
 | succ m ih =>{
 intro n x hn h;unfold gA at h;cases hk:iE o (aN rs) n with
 | none=>rw[hk]at h;obtain rfl:=fq h;exact⟨fun r hr=>(by cases hr),fun f hf=>by obtain rfl:=fq hf;exact hn⟩
 | some r =>{
 rw[hk]at h;obtain⟨r0,_,e,h5,hp⟩:=Ql hz hn hk;have aec:r.type=5:=by rw[e];exact h5
 simp only at h;split at h;{
 cases hc:gA o (aN rs) m r.data with
 | none=>rw[hc]at h;cases h
 | some y =>{rw[hc]at h;obtain rfl:=fq h;obtain⟨k1,k2⟩:=ih r.data y (gU hp).1 hc;exact⟨fun a ha=>by rcases ei.1 ha with rfl|ha;exact aec;exact k1 a ha,k2⟩}};{obtain rfl:=fq h;exact⟨fun a ha=>by rw[show a=r by simpa using ha];exact aec,fun f hf=>by cases hf⟩}}}
theorem aqh{n:ah}(hn:fC n)(t:Int)(x:Int×List ai×List ai)(h:xg o (aN rs) t n=some x):IP rs x.2.1:=by
 unfold xg at h;split at h;{obtain rfl:=fq h;have:=aeb hz (ls:=[]) hn t (fun r hr=>by cases hr);rw[gb]at this;exact this};{
 cases hc:gA o (aN rs) 8 n with
 | none=>rw[hc]at h;cases h
 | some y =>{
 rw[hc]at h;obtain rfl:=fq h;obtain⟨k1,k2⟩:=aqg hz 8 n y hn hc;obtain⟨ls,fin⟩:=y;cases fin with
 | none =>{show IP rs (ls++[]);rw[h_];exact VY k1}
 | some f=>exact aeb hz (k2 f rfl) t k1}}
omit hz in
theorem aqi{ans:List ai}(ha:IP rs ans)(l:List ai):oP (aN rs) ans l=kh rs ans l:=by
 have hstep:∀s r,yA (aN rs) ans s r=rh rs ans s r:=by{
 intro s r;unfold yA rh;cases hn:lT r with
 | false=>simp
 | true =>{
 cases hc:s.1.contains (fW r.data)with
 | true=>simp
 | false =>{
 simp only[Bool.not_false,Sx,gZ];rw[Ir];congr 1;generalize fW r.data=x;by_cases hx:ans.any (fun a=>a.owner == x && a.type == 1)=true;{rw[aJ hx];have:(eH rs x 1).filter (fun a=>!ans.any (a == ·)) = []:=by{rw[rH];intro s hs hc;have hm:=ha x hx s hs;have:ans.any (s == ·)=true:=oA.2 ⟨s,hm,ar⟩;rw[this]at hc;cases hc};rw[this,h_]};{
 rw[aF hx];have:(eH rs x 1).filter (fun a=>!ans.any (a == ·))=eH rs x 1:=by{
 rw[Cu];intro s hs;rw[y9,<- qI];intro hc;obtain⟨b,hb,e⟩:=oA.1 hc;have e':s=b:=by simpa using e
 have:=(fA.1 hs).2;exact hx (oA.2 ⟨b,hb,by rw[<- e'];exact this⟩)};rw[this]}}}};unfold oP kh;congr 1;funext s r;exact hstep s r
end
end
theorem LJ(rs ans l:List ai)(r:ai):kh rs ans (l++[r])=rh rs ans (kh rs ans l) r:=by unfold kh;rw[Ax];rfl
theorem aqj(rs ans:List ai):∀(l:List ai),(kh rs ans l).1.length<=l.length/\(kh rs ans l).2.length<=l.length*rs.length:=by
 intro l;obtain⟨n,hn⟩:∃n,l.length=n:=⟨_,rfl⟩;induction n generalizing l with
 | zero=>obtain rfl:l = []:=fp hn;exact⟨bH _,cV _⟩
 | succ n ih =>{
 rcases sY l with rfl|⟨l',r,rfl⟩;{simp at hn};{
 rw[sW]at *;have hl:l'.length=n:=by simp at hn;exact hn
 obtain⟨h1,h2⟩:=ih l' hl;rw[LJ];have ho:=Cx (fun r':ai=>r'.owner == fW r.data && r'.type == 1) rs;have hm:(l'++[r]).length*rs.length=l'.length*rs.length+rs.length:=by rw[bj,Hs];simp
 rw[hm];unfold rh eH;split;{split;{exact⟨aP,ae⟩};{refine⟨aP,?_⟩;split;{show(kh rs ans l').2.length<=_;omega};{show((kh rs ans l').2++_).length<=_;rw[bj];omega}}};{exact⟨aP,ae⟩}}}
theorem aqk(rs ans:List ai):∀(l:List ai),∀s∈(kh rs ans l).1,∃r∈l,lT r=true/\s=fW r.data:=by
 intro l;obtain⟨n,hn⟩:∃n,l.length=n:=⟨_,rfl⟩;induction n generalizing l with
 | zero=>obtain rfl:l = []:=fp hn;intro s hs;cases hs
 | succ n ih =>{
 rcases sY l with rfl|⟨l',r,rfl⟩;{simp at hn};{
 rw[sW]at *;have hl:l'.length=n:=by simp at hn;exact hn
 intro s hs;rw[LJ]at hs;have old:s∈(kh rs ans l').1->∃r'∈l'++[r],lT r'=true/\s=fW r'.data:=fun h=>by{obtain⟨r',h1,h2,h3⟩:=ih l' hl s h;exact⟨r',NP _ h1,h2,h3⟩};unfold rh at hs;split at hs;{rename_i f_;split at hs;{exact old hs};{rcases gm.1 hs with hs|hs;{exact old hs};{exact⟨r,ar,f_,by simpa using hs⟩}}};{exact old hs}}}
theorem aql{rs ans:List ai}{s:List ah×List ai}{r:ai}(h:lT r=false):rh rs ans s r=s:=by unfold rh;rw[h];rfl
theorem aqm{rs ans:List ai}{s:List ah×List ai}{r:ai}{x:ah}(hx:fW r.data=x)(h:lT r=true)(hc:s.1.contains x=true):rh rs ans s r=s:=by unfold rh;rw[h,hx,hc];rfl
theorem aqn{rs ans:List ai}{s:List ah×List ai}{r:ai}{x:ah}(hx:fW r.data=x)(h:lT r=true)(hc:s.1.contains x=false):rh rs ans s r=(s.1++[x],if ans.any (fun a=>a.owner == x && a.type == 1)then s.2 else s.2++eH rs x 1):=by unfold rh;rw[h,hx,hc];rfl
theorem VZ{s:ah}(h:s.length<=900):(aT s).length<=1000:=by rw[yw];exact p8 h
theorem aqo{α:Type}(q:α->Bool)(l:List α)(k:Nat)(h:k<l.length):(l.take (k+1)).any q=((l.take k).any q || q l[k]):=by rw[gp h,List.any_append];simp
theorem aqp(l:List ah)(x:ah)(k:Nat)(h:k<l.length):(l.take (k+1)).contains x=((l.take k).contains x || decide (aT l[k]=aT x)):=by rw[gp h,List.contains_append];congr 1;rw[rE,Hy];simp only[List.contains_cons,List.contains_nil,Sy,fe];exact⟨fun e=>by rw[e],fun e=>(Iq e).symm⟩
theorem aqq(a:ai)(x:ah):(a.owner == x && a.type == 1)=(decide (aT a.owner=aT x) && a.type == 1):=by congr 1;rw[rE,Hy,fe];exact⟨fun e=>by rw[e],fun e=>Iq e⟩
def aqr(w1 wx:World)(r:ai):Prop:=∃(vo:Value) (wg BC BD:Nat),wx.heap[w1.heap.size]? = some (.cells #[vo,.int .i64 r.aG,.int .i64 r.type,.string (aq r.data),.slice (some ⟨wg,BC,none⟩) (az 32 r.data).length BD] 119)/\au w1 wx/\en w1 (aD wg BC (az 32 r.data).length BD) (az 32 r.data)
theorem aqs(a b:List ai)(i:Nat)(h:i<(a++b).length):(i<a.length/\∃h':i<a.length,(a++b)[i]=a[i])\/(¬i<a.length/\∃h':i - a.length<b.length,(a++b)[i]=b[i - a.length]):=by by_cases ax:i<a.length;{exact .inl ⟨ax,ax,ZT ax⟩};{rw[bj]at h;exact .inr ⟨ax,ae,JY ae⟩}
theorem aqt(zb ab:Nat)(o:ah)(rs ans bS:List ai)(rc:Int)(aa:Bool)(va vu:Value)(X:Nat->Prop)(w0 w:World)(Lx:X ab)(Lz:∀k,k<w0.heap.size->¬X k)(LA:∀k,w.heap.size<=k->¬X k)(zR:∀k,X k->k<=ab)(hz:mM w0 zb o rs)(bq:kE o rs)(hb0:au w0 w)(hab:w0.heap.size<=ab)
  (hs:dM w ab rc aa va vu (aH)) (ha:dB X w (ab+1) va ans) (hu:dB X w (ab+1) vu bS) (HR:ans.length<=500) (aed:bS.length<=500)
  (f_:∀r∈ans++bS,lT r=true->∃ws x,az 32 r.data=ws++[x]/\fW r.data=x/\dr x=true/\r.data.length<=3000) (gX:∀r∈ans,r.owner.length<=900) :
  aB 187 #[aM zb,aM ab] w fun e w'=>e=.returned (.tuple #[])/\∃vd vs,ub X w w' ab rc aa va vu vd vs (kh rs ans (ans++bS)).1 (kh rs ans (ans++bS)).2:=by
 have dv:=ag hz;have cF:=ag bq;have gN:=ag hb0;have eZ:=ag ha;have HU:=ag hu;have jG:=ag f_;have pW:=ag gX;have VP:=hs.lt;have M0:ub X w w ab rc aa va vu (aH) (aH) [] []:=⟨hs,bn.refl _ _,⟨[],ia w _ _ 1,fun j hj=>by simp at hj⟩,dB.nil _ _ _,(fun k hk=>by cases hk),VP,Lx,zR⟩;have F_:=ag M0;obtain⟨jd,ac,rfl⟩:=ha.slice;obtain⟨ua,uc,rfl⟩:=hu.slice;have Dy:=ag Lz;have LB:=ag LA;clear hz bq hb0 hs ha hu f_ gX M0 Lx Lz LA zR;go_enter func187,ntmps187;go_wp2_with fail;go_loopw [4,5] (fun vs iv wr=>∃i vd,i<=(ans++bS).length/\iv=aj (i:Nat)/\(∃a n c,vs=.slice a n c)/\ub X w wr ab rc aa (.slice jd ans.length ac) (.slice ua bS.length uc) vd vs (kh rs ans ((ans++bS).take i)).1 (kh rs ans ((ans++bS).take i)).2) (fun _ iv _=>(ans++bS).length - (intOf iv).toNat);case atStart=>exact⟨0,aH,cV _,rfl,⟨_,_,_,rfl⟩,F_⟩
 case round =>(
 obtain⟨i,vd,ax,rfl,⟨sa,sn,sc,rfl⟩,hM⟩:=hrel;obtain⟨bK,hG⟩:∃bK,kh rs ans ((ans++bS).take i)=bK:=⟨_,rfl⟩;have jP:=(aqj rs ans ((ans++bS).take i));have V1:Hid (∀s∈(kh rs ans ((ans++bS).take i)).1,s.length<=900):=fun s hs=>by{obtain⟨r,h1,h2,h3⟩:=aqk rs ans _ s hs;obtain⟨_,x,_,h4,h5,_⟩:=af jG r (Az h1) h2;rw[h3,h4];have:=(gU h5).2;omega};have hrl:=FV (af cF);have aqu:((ans++bS).take i).length<=1000:=by rw[gD,bj];omega
 rw[hG]at hM jP V1;obtain⟨lB,AD⟩:=bK;have az3:lB.length<=2000:=by have:=jP.1;simp only at this;omega
 have aqv:AD.length<=60000:=by{have h1:=jP.2;have h2:=Nat.mul_le_mul aqu hrl;simp only at h1;omega};have HG:=ag hG;clear hG jP;simp only at hM V1;have dA:=ag hM;obtain⟨s0,s1,s2,s3,s4⟩:=hM.an.cells;have sf:=hM.an.frozen;obtain⟨da,dc,rfl⟩:=hM.ad.slice;have hsz:=hM.fr.size;have hlen:(ans++bS).length=ans.length+bS.length:=bj;by_cases hlt:i<(ans++bS).length;{
 have gy:(i:Int)<(ans.length:Int)+(bS.length:Int):=ae;have cS:Hid ((ans++bS).take (i+1)=(ans++bS).take i++[(ans++bS)[i]]):=gp hlt;have bC:=ag (jG _ (cM hlt));have uN:=ag (hM.own (af eZ));have LK:=ag (hM.own (af HU));go_upto_region 2 with fail;go_region;have Ga:=hM.below (w1:=wr.drew) (aO.drew);have ov:=ag Ga;have uN:=ag (Ga.own (af eZ));have LK:=ag (Ga.own (af HU));have Km:=Ga.fr.size;obtain⟨t0,t1,t2,t3,t4⟩:=Ga.an.cells;have tf:=Ga.an.frozen;clear s0 s1 s2 s3 s4 sf hM Ga dA hsz;generalize wr.drew=w1 at *;obtain⟨r,yG⟩:=bF ((ans++bS)[i]);have Qo:=ag yG;rw[<- yG]at cS bC;have aee:¬ab=w1.heap.size:=by have:=ov.lt;omega
 have al:∀(o:Obj) (a:Addr) (v:Value),w1.cell? a=some v->(w1.alloc o).cell? a=some v:=fun o a v h=>(dh (cD w1 o a.block (iz _ _ h))).trans h;have ta2:=fun o=>al o _ _ t2;have V3:=fun o=>al o _ _ t3;clear yG gy;go_upto_if 35 with fail;go_cut [6]from 13 to 141 (fun v6 wx=>v6=aM w1.heap.size/\aqr w1 wx r);case first =>(rcases aqs ans bS i hlt with⟨Qp,IQ,mE⟩|⟨Qp,IQ,mE⟩;{have aqw:(i:Int)<(ans.length:Int):=ae;rcases uN.Lp with⟨_,h⟩|⟨g,cap,hv,hg,dt,wW⟩;{rw[h]at Qp;simp at Qp};obtain⟨vo,dS,c0,aC,c2,c3,aV,n0,n1⟩:=wW i IQ;rw[<- mE,<- af Qo]at aC c2 c3 n0 n1;obtain⟨h1,h2,h3⟩:=mS hv;rw[h1,h3]at t2;clear ta2;have ta2:=fun o=>al o _ _ t2;obtain⟨Ip,Vb,Vc,rfl,_,_⟩:=n0;have np:g<w1.heap.size:=iz _ _ c0;have N1:=ag n1.nm;obtain⟨wg,BC,BD,rfl,_,_⟩:=n1;have hg1:¬g=w1.heap.size:=ae;have ca0:=fun o=>al o _ _ c0;have ca1:=fun o=>al o _ _ aC;have ca2:=fun o=>al o _ _ c2;have ca3:=fun o=>al o _ _ c3;have aqx:=fun o=>al o _ _ aV;have dw:∀o,au w1 (w1.alloc o):=fun o=>aO.alloc aA _;clear h1 h2 h3 wW hv mE al Qp IQ uN LK ov;go_wp2_with fail;go_meet;case rel=>exact⟨rfl,_,wg,BC,BD,World.alloc_heap_new w1 _,dw _,N1⟩};{have aqw:¬(i:Int)<(ans.length:Int):=ae;rcases LK.Lp with⟨_,h⟩|⟨g,cap,hv,hg,dt,wW⟩;{rw[h]at IQ;simp at IQ};obtain⟨vo,dS,c0,aC,c2,c3,aV,n0,n1⟩:=wW (i - ans.length) IQ;rw[<- mE,<- af Qo]at aC c2 c3 n0 n1;obtain⟨h1,h2,h3⟩:=mS hv;rw[h1,h3]at t3;clear V3;have V3:=fun o=>al o _ _ t3;obtain⟨Ip,Vb,Vc,rfl,_,_⟩:=n0;have np:g<w1.heap.size:=iz _ _ c0;have N1:=ag n1.nm;obtain⟨wg,BC,BD,rfl,_,_⟩:=n1;have hg1:¬g=w1.heap.size:=ae;have ca0:=fun o=>al o _ _ c0;have ca1:=fun o=>al o _ _ aC;have ca2:=fun o=>al o _ _ c2;have ca3:=fun o=>al o _ _ c3;have aqx:=fun o=>al o _ _ aV;have dw:∀o,au w1 (w1.alloc o):=fun o=>aO.alloc aA _;clear h1 h2 h3 wW hv mE al uN LK ov;go_upto_region 7 with fail;go_region;all_goals(go_wp2_with fail;go_meet;case rel=>exact⟨rfl,_,wg,BC,BD,World.alloc_heap_new w1 _,(dw _).drew,N1⟩)})
 case rest =>(
 obtain⟨rfl,vo,wg,BC,BD,ox,dX,N1⟩:=hcut;have V4:=ov.below dX;have N2:=N1.below dX;have az4:wg<w1.heap.size:=by obtain⟨_,_,_,e,_,h⟩:=N1;cases e;exact h.1
 have tM:=ag V4;have uU:=ag N2;have e2:wc.cell? (ak w1.heap.size 2)=some (aj r.type):=by unfold World.cell?; rw[ox];rfl
 have e4:wc.cell? (ak w1.heap.size 4)=some (aD wg BC (az 32 r.data).length BD):=by unfold World.cell?; rw[ox];rfl
 have CM:=V4.fr.size;clear V4 ox N2 N1 dX ta2 V3 t0 t1 t2 t3 t4 tf ov uN LK al aee;generalize w1.heap.size=q at *;go_upto_region 8 with fail;go_cut [63]from 13 to 141 (fun v wx=>v=.bool (!lT r)/\wx=wc);case first =>(
 by_cases h2:r.type=2;{
 have hy2:(r.type != 2)=false:=by simp[h2]
 have gz:lT r=true:=by unfold lT;simp[h2]
 have dm:=ag gz;clear h2 gz;go_wp2_with fail;go_meet;case rel=>exact⟨by rw[af dm];rfl,rfl⟩};{
 have hy2:(r.type != 2)=true:=by simpa using h2
 have gz:lT r=(r.type == 15):=by unfold lT;rw[d_.2 h2,Av]
 have dm:=ag gz;clear h2 gz;go_wp2_with fail;go_meet;case rel=>exact⟨by rw[af dm];rfl,rfl⟩})
 case rest =>(
 obtain⟨rfl,rfl⟩:=hcut;cases gz:lT r with
 | false =>{have bf:Hid (kh rs ans ((ans++bS).take (i+1))=(lB,AD)):=by{rw[Hid,af cS,LJ,af HG,aql gz]};go_wp2;exact⟨⟨i+1,_,ae,bW,⟨_,_,_,rfl⟩,by rw[af bf];exact tM⟩,c5⟩}
 | true =>{
 obtain⟨ws,x,hsp,zW,hpl,kQ⟩:=af bC gz;have g_:=(gU hpl).2;have aqy:wc.cell? (ak wg (BC+ws.length))=some (ay x):=by{obtain⟨_,_,_,e,_,h⟩:=af uU;cases e;have:=h.2 ws.length (by rw[hsp];simp);rw[this];congr 3;simp[hsp]};have hcc:ws.length+1<=BD:=by{obtain⟨_,_,_,e,hc,_⟩:=af uU;cases e;rw[hsp]at hc;simpa using hc};have aef:(az 32 r.data).length=ws.length+1:=by rw[hsp];simp
 have hwl:ws.length<=3000:=by have:=pQ 32 r.data;omega
 rw[aef]at e4;have hmod:((ws.length+1:Nat):Int) - 1=(ws.length:Int):=ae;have ot:=ag (fun W=>H5 x false W ae);have f_:gT false x=some (az 46 x):=by{have:=zJ x;rw[hpl]at this;unfold gT at this ⊢;split at this;{rename_i h;rw[aJ h]};{cases this}};rw[<- yx (P5 hpl)]at f_;have Ds:=ag (bg gz zW);clear gz zW hsp aef bC;go_wp2_with fail;refine(ot _).mono ?_;rintro e w3 ⟨⟨v3,rfl,hv3⟩,hb3⟩;rw[f_]at hv3;obtain⟨_,g3,c3,rfl,hc3,hg3,nE⟩:=hv3;have V5:=tM.below hb3;have yg:iq w3 (fun k=>X k\/some k=(Value.slice da AD.length dc).ownBlock\/some k=(Value.slice sa sn sc).ownBlock) (aD g3 0 (aT x).length c3) (aT x):=⟨g3,0,c3,rfl,hc3,nE,fun hc=>by{rcases hc with hc|hc|hc;{exact LB g3 ae hc};{have:=(tM.ad.lt g3 hc.symm).2;omega};{have:=(tM.sn.lt g3 hc.symm).2;omega}}⟩;have jR:=ag V5;have wL:=ag yg;obtain⟨_,_,De⟩:=V5.sn.slice;obtain⟨-,aqz,-⟩:=mS De;subst aqz;have Qq:(aT x).length<=1000:=VZ ae;clear V5 yg hb3 De e2 e4 aqy;go_wp2_with fail;go_loopw [8,9] (fun eB kv wr=>∃(k:Nat) (cb:Bool),k<=lB.length/\kv=aj k/\eB=.bool cb/\(lB.take k).contains x=cb/\ub X w wr ab rc aa (.slice jd ans.length ac) (.slice ua bS.length uc) (.slice da AD.length dc) (.slice sa lB.length sc) lB AD/\iq wr (fun k=>X k\/some k=(Value.slice da AD.length dc).ownBlock\/some k=(Value.slice sa lB.length sc).ownBlock) (aD g3 0 (aT x).length c3) (aT x)) (fun _ kv _=>lB.length - (intOf kv).toNat);case atStart=>exact⟨0,false,cV _,rfl,rfl,rfl,jR,wL⟩
 case round =>(
 obtain⟨k,cb,hk,rfl,rfl,hcb,qg,hnl⟩:=hrel;have iK:=ag hcb;clear hcb;by_cases fJ:k<lB.length;{
 have LL:(k:Int)<(lB.length:Int):=ae;obtain⟨gs,cs,us,w_,hcs,hcell,aeg⟩:=qg.sn.at fJ;obtain⟨h1,-,h3⟩:=mS w_;subst h1 h3;have yb:=(af V1) lB[k] (cM fJ);have qh:=ag (yc us _ (aT lB[k]) (aT x) wr aeg.nm hnl.nm (VZ yb) Qq);have BF:=ag qg;have Gb:=ag hnl;have xh:=ag (aqp lB x k fJ);obtain⟨aqA,aqB,aqC,rfl,_,_⟩:=aeg;clear qg hnl w_ yb;go_wp2_with fail;refine qh.mono ?_;rintro e w5 ⟨rfl,hb5⟩;have aeh:=ag (BF.below hb5);have LH:=ag (Gb.fr (p:=fun _=>True) (bn.uM hb5) (fun _ _=>aQ));clear hb5 qh hcell;cases cb with
 | false =>{go_wp2;exact⟨⟨k+1,_,ae,bW,rfl,by rw[af xh,af iK,Av],aeh,LH⟩,c5⟩}
 | true =>{go_wp2;exact⟨⟨k+1,_,ae,bW,rfl,by rw[af xh,af iK,NG],aeh,LH⟩,c5⟩}};{
 have LL:¬(k:Int)<(lB.length:Int):=ae;have xi:k=lB.length:=ae;have aei:Hid (lB.contains x=cb):=by{have:=af iK;rw[xi,gV]at this;exact this};have BF:=ag qg;have Gb:=ag hnl;cases cb with
 | true =>{have bf:Hid (kh rs ans ((ans++bS).take (i+1))=(lB,AD)):=by{rw[Hid,af cS,LJ,af HG,aqm Ds.2 Ds.1 (af aei)]};clear qg hnl;go_wp2;exact⟨⟨i+1,_,ae,bW,⟨_,_,_,rfl⟩,by rw[af bf];exact BF⟩,c5⟩}
 | false =>{
 have bf:Hid (kh rs ans ((ans++bS).take (i+1))=(lB++[x],if ans.any (fun a=>a.owner == x && a.type == 1)then AD else AD++eH rs x 1)):=by{rw[Hid,af cS,LJ,af HG,aqn Ds.2 Ds.1 (af aei)]};obtain⟨v6,w6,hrun,V6,DD,sk⟩:=qg.ao9 hnl ae;have oQ:=ag hrun;have aej:=ag V6;have IU:=ag DD;obtain⟨a6,jF,rfl⟩:=V6.sn.slice;rw[bj,J3]at oQ aej IU;clear qg hnl hrun V6 DD BF Gb;go_wp2_with (at_builtin;go_loud (refine A5 ee (.tmp 90) (.tmp 92) 328 ee _ _ _ _ ee ee (af oQ) ?_));go_loopw [8,11] (fun eB kv wr=>∃(k:Nat) (cb:Bool),k<=ans.length/\kv=aj k/\eB=.bool cb/\(ans.take k).any (fun a=>a.owner == x && a.type == 1)=cb/\ub X w wr ab rc aa (.slice jd ans.length ac) (.slice ua bS.length uc) (.slice da AD.length dc) (.slice a6 (lB.length+1) jF) (lB++[x]) AD/\iq wr (fun k=>X k\/some k=(Value.slice da AD.length dc).ownBlock\/some k=(Value.slice a6 (lB.length+1) jF).ownBlock) (aD g3 0 (aT x).length c3) (aT x)) (fun _ kv _=>ans.length - (intOf kv).toNat);case atStart=>exact⟨0,false,cV _,rfl,rfl,rfl,aej,IU⟩
 case round =>(
 obtain⟨k,cb,hk,rfl,rfl,hcb,qg,hnl⟩:=hrel;have iK:=ag hcb;clear hcb;obtain⟨s0,s1,s2,s3,s4⟩:=qg.an.cells;have sf:=qg.an.frozen;by_cases fJ:k<ans.length;{
 have LL:(k:Int)<(ans.length:Int):=ae;rcases(qg.own (af eZ)).Lp with⟨_,h⟩|⟨g,cap,hv,hg,dt,wW⟩;{rw[h]at fJ;simp at fJ};obtain⟨vo,dS,c0,aC,c2,c3',aV,n0,n1⟩:=wW k fJ;obtain⟨h1,-,h3⟩:=mS hv;have aek:=ag (bg h1 h3);rw[h1,h3]at s2;clear h1 h3 hv;have gX:=af pW ans[k] (cM fJ);have qh:=ag (yc vo _ (aT ans[k].owner) (aT x) wr n0.nm hnl.nm (VZ gX) Qq);have BF:=ag qg;have Gb:=ag hnl;have xh:=ag (aqo (fun a:ai=>a.owner == x && a.type == 1) ans k fJ);have ael:=ag (aqq ans[k] x);have HC:=ag c2;obtain⟨aqA,aqB,aqC,rfl,_,_⟩:=n0;have np:g<wr.heap.size:=iz _ _ c0;generalize ans[k]=a at *;clear qg hnl wW gX aC c2 c3' aV n1 s0 s1 s3 s4;go_wp2_with fail;refine qh.mono ?_;rintro e w7 ⟨rfl,di⟩;have Qr:=ag (BF.below di);have V7:=ag (Gb.fr (p:=fun _=>True) (bn.uM di) (fun _ _=>aQ));have d2:w7.cell? (ak g (k*5+2))=some (aj a.type):=(di.cell (p:=⟨g,k*5+2,none⟩) np).trans (af HC);obtain⟨q0,q1,q2,q3,q4⟩:=Qr.an.cells;rw[aek.1,aek.2]at q2;clear di qh c0 s2 sf q0 q1 q3 q4 HC;obtain⟨sb,IV⟩:∃sb,decide (aT a.owner=aT x)=sb:=⟨_,rfl⟩;rw[IV];have aem:=ag IV;clear IV;cases cb with
 | true =>{go_wp2;exact⟨⟨k+1,_,ae,bW,rfl,by rw[af xh,af iK,NG],Qr,V7⟩,c5⟩}
 | false =>{
 cases sb with
 | false =>{go_wp2;exact⟨⟨k+1,_,ae,bW,rfl,by rw[af xh,af iK,Av,af ael,af aem,NF],Qr,V7⟩,c5⟩}
 | true =>{go_wp2;exact⟨⟨k+1,_,ae,bW,rfl,by rw[af xh,af iK,Av,af ael,af aem,Ho],Qr,V7⟩,c5⟩}}};{
 have LL:¬(k:Int)<(ans.length:Int):=ae;have xi:k=ans.length:=ae;have aen:Hid (ans.any (fun a=>a.owner == x && a.type == 1)=cb):=by{have:=af iK;rw[xi,gV]at this;exact this};have BF:=ag qg;have Gb:=ag hnl;cases cb with
 | true =>{have oq:Hid (kh rs ans ((ans++bS).take (i+1))=(lB++[x],AD)):=by{rw[Hid,af bf,af aen];rfl};clear qg hnl;go_wp2;exact⟨⟨i+1,_,ae,bW,⟨_,_,_,rfl⟩,by rw[af oq];exact BF⟩,c5⟩}
 | false =>{
 have oq:Hid (kh rs ans ((ans++bS).take (i+1))=(lB++[x],AD++eH rs x 1)):=by{rw[Hid,af bf,af aen];rfl};have Gc:=qg.below (w1:=wr.drew) (aO.drew);have t_:=hnl.fr (p:=fun _=>True) (B:=wr.drew) (bn.uM (aO.drew)) (fun _ _=>aQ);clear qg hnl BF Gb;go_upto_region 24 with fail;clear s0 s1 s2 s3 s4 sf;obtain⟨s0,s1,s2,s3,s4⟩:=Gc.an.cells;have sf:=Gc.an.frozen;have Qs:=ag Gc;have hown1:(dL rs x 1).map (eM x)=eH rs x 1:=by rw[acZ];unfold dL;rw[aF bD]
 have az5:=IE (af cF) x 1;have LM:=ag (VB (W:=wr.drew) (x:=fun k=>(X k\/some k=(Value.slice a6 (lB.length+1) jF).ownBlock)\/some k=(Value.slice da AD.length dc).ownBlock) (base:=0) (af dv) (af cF) (Gc.adr (af gN) hab) (fun k hk hc=>by{rcases hc with(hc|hc)|hc;{exact Dy k hk hc};{have:=(Gc.sn.lt k hc.symm).1;have:=gN.size;omega};{have:=(Gc.ad.lt k hc.symm).1;have:=gN.size;omega}}) (cV _) x x _ _ 1 t_.nm Qq (t_.imp (fun k _ hn hc=>hn (by rcases hc with(hc|hc)|hc;exact .inl hc;exact .inr (.inr hc);exact .inr (.inl hc)))));clear Gc t_ ;refine Tc (S:=fun _=>True) aI aQ (fun hS=>?_);refine iX 0 aQ ?_;refine iX 1 aQ ?_;refine iX 2 aQ ?_;refine iX 3 aQ ?_;refine iX 5 aQ ?_;refine iX 6 aQ ?_;refine iX 7 aQ ?_;refine fH (rs:=[4,8]) aI ar (eT rfl (fun K hK=>?_) (eT rfl (fun K hK=>?_) fG));{
 go_simp;refine hK.out _ _ aQ (fun hS=>?_);clear hK K;try simp only[Act.put,fV,eC,eX]
 refine fH (rs:=[8]) aI ar (eT rfl (fun K hK=>?_) fG);go_simp;go_wp2_with (go_at_call 237;go_loud (refine LM.mono ?_;rintro e w7 ⟨⟨vx,rfl,LN⟩,di⟩;have V8:=ag LN;have V9:=ag di;clear LN di));have BG:=Qs.below V9;obtain⟨v8,w8,hrun,S8,LO,a8,oU,qf⟩:=BG.add1 (af V8) (by rw[bY];omega);subst qf;have V_:=ag hrun;have LP:=ag LO;obtain⟨q0,q1,q2,q3,q4⟩:=BG.an.cells;have qc:=BG.an.frozen;obtain⟨y0,y1,y2,y3,y4⟩:=S8.cells;have nC:=S8.frozen;clear BG hrun S8 LO;refine hK.out _ _ aQ (fun hS=>?_);clear hK K;try simp only[Act.put,fV,eC,eX]
 refine fH (rs:=[9]) aI ar (eT rfl (fun K hK=>?_) fG);rw[aJ ee];refine Lq (.tmp 134) (.tmp 138) 115 ee _ _ _ _ ee ee (af V_) ?_;refine hK.out _ _ aQ (fun hS=>?_);clear hK K;try simp only[Act.put,fV,eC,eX]
 refine iX 10 aQ ?_;refine iX 11 aQ ?_;refine fH (rs:=[12]) aI ar (eT rfl (fun K hK=>?_) fG);go_simp;refine hK.out _ _ aQ (fun hS=>?_);clear hK K;refine rL aI ?_ _;go_wp2;exact⟨⟨i+1,_,ae,bW,⟨_,_,_,rfl⟩,by rw[af oq];rw[hown1]at LP;exact LP⟩,c5⟩};{
 go_simp;go_wp2_with (go_at_call 237;go_loud (refine LM.mono ?_;rintro e w7 ⟨⟨vx,rfl,LN⟩,di⟩;have V8:=ag LN;have V9:=ag di;clear LN di));have BG:=Qs.below V9;obtain⟨v8,w8,hrun,S8,LO,a8,oU,qf⟩:=BG.add1 (af V8) (by rw[bY];omega);subst qf;have V_:=ag hrun;have LP:=ag LO;obtain⟨q0,q1,q2,q3,q4⟩:=BG.an.cells;have qc:=BG.an.frozen;obtain⟨y0,y1,y2,y3,y4⟩:=S8.cells;have nC:=S8.frozen;clear BG hrun S8 LO;refine hK.out _ _ aQ (fun hS=>?_);clear hK K;try simp only[Act.put,fV,eC,eX]
 refine fH (rs:=[4]) aI ar (eT rfl (fun K hK=>?_) fG);go_simp;refine hK.out _ _ aQ (fun hS=>?_);clear hK K;try simp only[Act.put,fV,eC,eX]
 refine fH (rs:=[9]) aI ar (eT rfl (fun K hK=>?_) fG);rw[aJ ee];refine Lq (.tmp 134) (.tmp 138) 115 ee _ _ _ _ ee ee (af V_) ?_;refine hK.out _ _ aQ (fun hS=>?_);clear hK K;try simp only[Act.put,fV,eC,eX]
 refine iX 10 aQ ?_;refine iX 11 aQ ?_;refine fH (rs:=[12]) aI ar (eT rfl (fun K hK=>?_) fG);go_simp;refine hK.out _ _ aQ (fun hS=>?_);clear hK K;refine rL aI ?_ _;go_wp2;exact⟨⟨i+1,_,ae,bW,⟨_,_,_,rfl⟩,by rw[af oq];rw[hown1]at LP;exact LP⟩,c5⟩}}})}})}))};{have gy:¬(i:Int)<(ans.length:Int)+(bS.length:Int):=ae;have Lj:i=(ans++bS).length:=ae;have bf:Hid (kh rs ans (ans++bS)=(lB,AD)):=by{have:=af HG;rw[Lj,gV]at this;exact this};go_upto_region 2 with fail;go_region;have Qs:=ag (hM.below (w1:=wr.drew) (aO.drew));clear hM dA;go_wp2_with fail;refine pO (v:=.tuple #[]) (by simp[results,results187]) rfl ?_;exact⟨rfl,_,_,by rw[af bf];exact Qs⟩})
def jf(o:ah)(rs:List ai)(t:Int)(n:ah):Int×Bool×List ai×List ai:=je o (aN rs) t 9 true false [] n
def sJ(o:ah)(rs:List ai)(t:Int)(n:ah):List ai:=(kh rs (jf o rs t n).2.2.1 ((jf o rs t n).2.2.1++(jf o rs t n).2.2.2)).2
def Wa(rs:List ai)(q:Int×Bool×List ai×List ai):List ai:=(kh rs q.2.2.1 (q.2.2.1++q.2.2.2)).2
def aqD(Y:Nat->Prop)(w':World)(base:Nat)(v:Value)(q:Int×Bool×List ai×List ai)(add:List ai):Prop :=
 ∃va vu vd,v=.agg #[aj q.1,.bool q.2.1,va,vu,vd]/\dB Y w' base va q.2.2.1/\dB Y w' base vu q.2.2.2/\dB Y w' base vd add/\∀k,vd.ownBlock=some k->va.ownBlock≠some k
theorem aqE{o:ah}{L:List ai}{t:Int}{first aa:Bool}{ans:List ai}{n:ah}(f:Nat)(h:(eo o L t first aa ans n).2.2.2.2=none):je o L t f first aa ans n=((eo o L t first aa ans n).1,(eo o L t first aa ans n).2.1,(eo o L t first aa ans n).2.2.1,(eo o L t first aa ans n).2.2.2.1):=by
 cases f with
 | zero=>rfl
 | succ f =>{
 unfold je;generalize eo o L t first aa ans n=q at h
 obtain⟨rc,jd,ou,bS,nx⟩:=q;simp only at h;subst h;rfl}
theorem aqF{o:ah}{L:List ai}{t:Int}{first aa:Bool}{ans:List ai}{n d:ah}(f:Nat)(h:(eo o L t first aa ans n).2.2.2.2=some d):je o L t (f+1) first aa ans n=je o L t f false (eo o L t first aa ans n).2.1 (eo o L t first aa ans n).2.2.1 d:=by
 conv=>lhs;unfold je
 generalize eo o L t first aa ans n=q at h
 obtain⟨rc,jd,ou,bS,nx⟩:=q;simp only at h;subst h;rfl
theorem Wb{w:World}{g off rb:Nat}{ls:List ah}{rc:Int}{aa:Bool}(h:fS w g off ls)(hl:0<ls.length)(hr:dM w rb rc aa (aH) (aH) (aH)):g≠rb:=by
 rintro rfl;have h0:=h.2 0 hl;rw[gK]at h0;obtain⟨c0,aC,c2,c3,aV⟩:=hr.cells;match off,h0 with
 | 0,h0=>rw[c0]at h0;cases h0
 | 1,h0=>rw[aC]at h0;cases h0
 | 2,h0=>rw[c2]at h0;cases h0
 | 3,h0=>rw[c3]at h0;cases h0
 | 4,h0=>rw[aV]at h0;cases h0
 | k+5,h0 =>{unfold dM at hr;unfold World.cell? at h0;rw[hr]at h0;simp at h0}
theorem LQ(c:UInt8)(s:ah):0<(az c s).length:=by
 have:=pP c s;cases h:az c s with
 | nil=>exact absurd h this
 | cons a t=>simp
theorem Qt(s:ah):0<(aT s).length:=by rw[yw];exact LQ 46 s
theorem Wd{x Y:Nat->Prop}{w:World}{base base' rb:Nat}{v:Value}{l:List ai}{rc:Int}{aa:Bool}(h:dB x w base v l)(hY:∀k,Y k->x k)(hb:base'<=base)(hr:dM w rb rc aa (aH) (aH) (aH)):dB (fun k=>k=rb\/Y k) w base' v l:=by obtain⟨xs,h0,h1,h2⟩:=h;refine⟨xs,h0,EZ h1 hb,fun y hy=>?_⟩;obtain⟨⟨g1,o1,aC,e1,f1,t1,n1⟩,⟨g2,o2,c2,e2,f2,t2,n2⟩⟩:=h2 y hy;exact⟨⟨g1,o1,aC,e1,f1,t1,fun hc=>hc.elim (fun hc=>hc.elim (Wb t1 (Qt _) hr) (fun hc=>n1 (.inl (hY _ hc)))) (fun hc=>n1 (.inr hc))⟩,⟨g2,o2,c2,e2,f2,t2,fun hc=>hc.elim (fun hc=>hc.elim (Wb t2 (LQ _ _) hr) (fun hc=>n2 (.inl (hY _ hc)))) (fun hc=>n2 (.inr hc))⟩⟩
theorem aqG{x:Nat->Prop}{w:World}{base base':Nat}{v:Value}{l:List ai}(h:dB x w base v l)(hb:base'<=base):dB x w base' v l:=by obtain⟨xs,h0,h1,h2⟩:=h;exact⟨xs,h0,EZ h1 hb,h2⟩
structure We(X:Nat->Prop)(w0 wr:World)(ab:Nat)(o:ah)(rs:List ai)(t:Int)(RES:Int×Bool×List ai×List ai)(first aa:Bool)(ans:List ai)(n:ah)(va:Value)(g no nc:Nat):Prop where
 an:dM wr ab 0 aa va (aH) (aH)
 DF:dB X wr (ab+1) va ans
 tx:fS wr g no (aT n)
 nc:(aT n).length<=nc
 ga:g≠ab
 gx:¬X g
 go:some g≠va.ownBlock
 ne:fC n
 nl:n.length<=260
 ok:∀r∈ans,sI rs r
 eq:je o (aN rs) t (9 - ans.length) first aa ans n=RES
 bl:au w0 wr
def Wh(X:Nat->Prop)(w0 wr:World)(ab:Nat)(RES:Int×Bool×List ai×List ai):Prop:=∃va vu,dM wr ab RES.1 RES.2.1 va vu (aH)/\dB X wr (ab+1) va RES.2.2.1/\dB X wr (ab+1) vu RES.2.2.2/\au w0 wr
theorem aeo(zb:Nat)(nv:Value)(o:ah)(rs:List ai)(t:Int)(RES:Int×Bool×List ai×List ai)(Y:Nat->Prop)(kS w:World)(hz:mM kS zb o rs)(jO:au kS w)(aep:∀k,k<kS.heap.size->¬Y k)(Wi:∀k,w.heap.size<=k->¬Y k)(bq:kE o rs)
  (hst:(∃gn no nc n,nv=aD gn no (aT n).length nc/\¬Y gn/\fS w gn no (aT n)/\(aT n).length<=nc/\fC n/\n.length<=260/\jf o rs t n=RES)\/(nv=aH/\RES=(0,false,[],[]))) :
  aB 121 #[aM zb,nv,aj t] w fun e w'=>(∃v,e=.returned v/\aqD Y w' w.heap.size v RES (Wa rs RES))/\au w w':=by
 obtain⟨dp,lC⟩:∃dp:Obj,dp=.cells #[.int .i64 0,.bool false,.slice none 0 0,.slice none 0 0,.slice none 0 0] 123:=⟨_,rfl⟩
 have hb1:au w (w.alloc dp):=aO.alloc aA _;have hs1:(w.alloc dp).heap.size=w.heap.size+1:=dD w _;have hb2:Below (w.alloc dp).heap.size (w.alloc dp) ((w.alloc dp).alloc dp):=aO.alloc aA _;have ug:dM ((w.alloc dp).alloc dp) (w.heap.size+1) 0 false (aH) (aH) (aH):=by
  have:=World.alloc_heap_new (w.alloc dp) dp;rw[hs1]at this;unfold dM;rw[this,lC]
 have dv:=ag hz;have pC:=ag (jO.trans (hb1.mono jO.size));have az6:=jO.size;have cF:=ag bq;have mf:Hid ((w.alloc dp).heap[w.heap.size]? = some (.cells #[.int .i64 0,.bool false,.slice none 0 0,.slice none 0 0,.slice none 0 0] 123)):=by
  rw[Hid,World.alloc_heap_new,lC]
 have sH:=ag ug;have aeq:=ag hst;have bZ:=ag hb1;have bU:=ag hb2;obtain⟨ab,hab⟩:∃ab,w.heap.size+1=ab:=⟨_,rfl⟩
 rw[hab]at sH hs1;have aqH:Hid ((∀r∈RES.2.2.1,sI rs r)/\(∀r∈RES.2.2.2,sI rs r)/\RES.2.2.1.length<=68/\RES.2.2.2.length<=60):=by
  rcases hst with⟨gn,no,nc,n,_,_,_,_,hne,hnl,rfl⟩|⟨_,rfl⟩
  ·exact F9 bq t 9 true false [] n hne hnl (fun r hr=>by cases hr) (cV _)
  ·exact⟨fun r hr=>(by cases hr),fun r hr=>(by cases hr),ar,ar⟩
 obtain⟨X,hX⟩:∃X:Nat->Prop,X=fun k=>k=ab\/Y k:=⟨_,rfl⟩
 have cu:Hid (X ab/\(∀k,k<kS.heap.size->¬X k)/\(∀k,w.heap.size<=k->k≠ab->¬X k)/\(∀k,X k->k<=ab)/\(∀k,Y k->X k)/\(∀k,k≠ab->¬Y k->¬X k)):=by
  subst hX;refine⟨.inl rfl,fun k hk hc=>?_,fun k hk hn hc=>?_,fun k hc=>?_,fun k hc=>.inr hc,fun k h1 h2 hc=>hc.elim h1 h2⟩
  ·rcases hc with hc|hc
   ·omega
   ·exact aep k hk hc
  ·rcases hc with hc|hc
   ·exact hn hc
   ·exact Wi k hk hc
  ·rcases hc with hc|hc
   ·omega
   ·have:¬w.heap.size<=k:=fun h=>Wi k h hc;omega
 clear hz bq hb1 hb2 ug jO aep Wi hX hst;go_enter func121,ntmps121;go_wp2_with fail;rw[<- lC];obtain⟨w0,hw0⟩:∃w0,w.alloc dp=w0:=⟨_,rfl⟩
 rw[hw0]at pC mf sH bZ bU hs1 ⊢;have az7:=bU.size;have aqI:Hid ((∃(n:ah) (gn no nc:Nat),nv=aD gn no (aT n).length nc/\We X w0 (w0.alloc dp) ab o rs t RES true false [] n (aH) gn no nc)\/(nv=aH/\Wh X w0 (w0.alloc dp) ab RES)):=by
  rcases af aeq with⟨gn,no,nc,n,hv,aqJ,hn,qa,hne,hnl,hr⟩|⟨hv,hr⟩
  ·have hgn:=hn.1;have eQ:=(hn.below bZ).below bU;exact .inl ⟨n,gn,no,nc,hv,sH,dB.nil _ _ _,eQ,qa,ae,cu.2.2.2.2.2 gn ae aqJ,(fun e=>by cases e),hne,hnl,(fun r hr=>by cases hr),hr,bU⟩
  ·rw[hr];exact .inr ⟨hv,aH,aH,sH,dB.nil _ _ _,dB.nil _ _ _,bU⟩
 clear sH lC hw0 aeq
 go_loopg [1,8] 10 (fun g1 nv fv wr =>
  (∃(first aa:Bool) (ans:List ai) (n':ah) (va:Value) (g' no' Qu:Nat),nv=aD g' no' (aT n').length Qu/\fv=.bool first/\g1+ans.length=10/\ans.length<=8/\Hid (We X w0 wr ab o rs t RES first aa ans n' va g' no' Qu)) \/
  (nv=aH/\(∃b:Bool,fv=.bool b)/\Hid (Wh X w0 wr ab RES)))
 case atStart =>
  rcases af aqI with⟨n,gn,no,nc,rfl,h⟩|⟨rfl,h⟩
  ·exact .inl ⟨true,false,[],n,aH,gn,no,nc,rfl,rfl,rfl,ar,h⟩
  ·exact .inr ⟨rfl,⟨true,rfl⟩,h⟩
 case round =>
  rcases hrel with⟨first,aa,ans,n',va,g',no',Qu,rfl,rfl,hg1,Uk,hst⟩|⟨rfl,⟨b,rfl⟩,aY⟩
  ·have hS:=af hst;have IW:=ag (apR zb ab g' no' Qu o n' rs ans t first aa va X kS w0 wr (af dv) (af pC) cu.1 cu.2.1 (fun k hk hn=>cu.2.2.1 k ae hn) cu.2.2.2.1 (af cF) hS.bl ae hS.an hS.DF Uk hS.tx hS.nc hS.ga hS.gx hS.go hS.ne hS.nl);have Wj:=VV (af cF) hS.ne hS.nl t first aa ans hS.ok
   have aer:=ag hS.eq;obtain⟨Q,hQ⟩:∃Q,eo o (aN rs) t first aa ans n'=Q:=⟨_,rfl⟩
   have dn:=ag hQ;rw[hQ]at IW Wj;have aes:=ag Wj;clear hst hS Wj hQ;go_wp2_with fail;refine IW.mono ?_;rintro e w2 ⟨df,aqK,v2,rfl,lz,wR,Wl,sw,hB2⟩;cases sK:Q.2.2.2.2 with
   | none =>
    rw[sK]at sw;have aet:v2=aH:=sw;subst aet;have aW:Hid (Wh X w0 w2 ab RES):=by
     have he:=af aer;rw[aqE _ (by rw[af dn];exact sK),af dn]at he;rw[<- he];exact⟨df,aqK,lz,wR,Wl,hB2⟩
    clear lz wR Wl sw hB2 IW;go_wp2_with fail
    go_roundg 0
    case rel=>exact .inr ⟨rfl,⟨_,rfl⟩,aW⟩
    case measure=>omega
   | some d =>
    obtain⟨hp,h0,az8,az9,yF⟩:=aes.ad9 d sK;rw[sK]at sw;obtain⟨aqL,g3,c3,rfl,hc3,nE,hx3⟩:=sw;subst aqL;rw[h0]at lz;have HST:Hid (We X w0 w2 ab o rs t RES false Q.2.1 Q.2.2.1 d df g3 0 c3):=by
     refine⟨lz,wR,nE,hc3,fun e=>hx3 (.inl (by rw[e];exact cu.1)),fun e=>hx3 (.inl e),fun e=>hx3 (.inr e),(gU hp).1,a_ (gU hp).2 ae,aes.Qm,?_,hB2⟩;have he:=af aer;rw[show 9 - ans.length=(9 - Q.2.2.1.length)+1 by omega,aqF _ (by rw[af dn];exact sK),af dn]at he;exact he
    clear lz wR Wl hB2 IW hp nE;go_wp2_with fail
    go_roundg (10 - (ans.length+1))
    case rel=>exact .inl ⟨_,_,_,_,_,_,_,_,rfl,rfl,ae,ae,HST⟩
    case measure=>omega
  ·obtain⟨va,vu,hS,hA,hU,hB⟩:=af aY;obtain⟨ok1,ok2,az_,aAa⟩:=af aqH;have xj:=ag (aqt zb ab o rs RES.2.2.1 RES.2.2.2 RES.1 RES.2.1 va vu X kS wr cu.1 cu.2.1 (fun k hk=>cu.2.2.1 k (by have:=hB.size;omega) (by have:=hS.lt;omega)) cu.2.2.2.1 (af dv) (af cF) (pC.trans (hB.mono pC.size)) ae hS hA hU ae ae (fun r hr hn=>ap_ (af cF) (by rcases gm.1 hr with h|h;exact ok1 r h;exact ok2 r h) hn) (fun r hr=>by have:=(ok1 r hr).own;omega));have eZ:=ag hA;have HU:=ag hU;have aX:=ag hB;clear aY hS hA hU hB ok1 ok2;go_wp2_with fail;refine xj.mono ?_;rintro e w3 ⟨rfl,vd,vs,hM⟩;have hap:∀k,vd.ownBlock=some k->va.ownBlock≠some k:=fun k h1 h2=>by
    have:=(hM.ad.lt k h1).1;have:=(eZ.lt k h2).2;omega
   have IK:=ag hap;clear hap;have ig:=hM.adr (af aX) ae;have BH:=hM.own (af eZ);have Wm:=hM.own (af HU);have rj:dM w3 w.heap.size 0 false (aH) (aH) (aH):=(ig.block w.heap.size ae).trans (af mf);have LR:=ag (Wd BH cu.2.2.2.2.1 (base':=w.heap.size+1) ae rj);have aqM:=ag (Wd Wm cu.2.2.2.2.1 (base':=w.heap.size+1) ae rj);have aqN:=ag (Wd hM.ad (fun k hk=>.inl (cu.2.2.2.2.1 k hk)) (base':=w.heap.size+1) (by have:=aX.size;omega) rj);have cK:=ag ig;obtain⟨a1,aC,rfl⟩:=BH.slice;obtain⟨a2,c2,rfl⟩:=Wm.slice;obtain⟨a3,c3,rfl⟩:=hM.ad.slice;obtain⟨y0,y1,y2,y3,y4⟩:=hM.an.cells;obtain⟨z0,z1,z2,z3,z4⟩:=rj.cells;have Lu:=rj.frozen;have oV:=ag rj;have aqO:Hid (Wa rs RES=(kh rs RES.2.2.1 (RES.2.2.1++RES.2.2.2)).2):=rfl;generalize (kh rs RES.2.2.1 (RES.2.2.1++RES.2.2.2)).2=AD at *;obtain⟨rc,aa,ans,bS⟩:=RES;simp only at *;clear hM ig BH Wm rj xj;go_wp2_with fail;have A9:=(((((oV.set0 rc).set1 aa).set2 (.slice a1 ans.length aC)).iM (.slice a2 bS.length c2)).lj (.slice a3 AD.length c3))
   obtain⟨n0,n1,n2,n3,n4⟩:=A9.cells;refine fB (v:=.agg #[.int .i64 rc,.bool aa,.slice a1 ans.length aC,.slice a2 bS.length c2,.slice a3 AD.length c3]) ?_ rfl ?_
   ·simp[results,results121,go_sem,n0,n1,n2,n3,n4]
   ·rw[af aqO];have eN:∀ {v:Value} {l:List ai} {W:World} (i:Nat) (u:Value),dB (fun k=>k=w.heap.size\/Y k) W (w.heap.size+1) v l->dB (fun k=>k=w.heap.size\/Y k) (W.setCell ⟨w.heap.size,i,none⟩ u) (w.heap.size+1) v l:=fun i u h=>h.set (a:=⟨w.heap.size,i,none⟩) u (.inl rfl) (by show w.heap.size<_;omega);have aY:∀ {v:Value} {l:List ai} {W:World},dB (fun k=>k=w.heap.size\/Y k) W (w.heap.size+1) v l->dB Y W w.heap.size v l:=fun h=>aqG (h.imp (y:=Y) (fun _ _ hn _ hc=>hn (.inr hc))) ae;refine⟨⟨_,rfl,_,_,_,rfl,aY (eN 4 _ (eN 3 _ (eN 2 _ (eN 1 _ (eN 0 _ (af LR)))))),aY (eN 4 _ (eN 3 _ (eN 2 _ (eN 1 _ (eN 0 _ (af aqM)))))),aY (eN 4 _ (eN 3 _ (eN 2 _ (eN 1 _ (eN 0 _ (af aqN)))))),IK⟩,?_⟩;have hB:=bZ.trans (cK.mono ae);exact((((hB.setCell (p:=⟨w.heap.size,0,none⟩) aA _).setCell (p:=⟨w.heap.size,1,none⟩) aA _).setCell (p:=⟨w.heap.size,2,none⟩) aA _).setCell (p:=⟨w.heap.size,3,none⟩) aA _).setCell (p:=⟨w.heap.size,4,none⟩) aA _
def LS(w':World)(base:Nat)(v:Value)(q:Int×Bool×List ai×List ai)(add:List ai):Prop :=
 ∃va vb vd,v=.agg #[aj q.1,.bool q.2.1,va,vb,vd]/\b_ w' base va q.2.2.1/\b_ w' base vb q.2.2.2/\b_ w' base vd add/\uR va vb/\uR va vd/\uR vb vd
theorem BI(u:Value):uR (aH) u:=fun g hg=>by cases hg
section
variable {o:ah} {rs:List ai} (hz:kE o rs)
include hz
theorem Wn:A0 o (aN rs):=by have hl:=(zO rs).length_eq;refine⟨by rw[hl];have:=FV hz;omega,by have:=(gU hz.org).2;omega,fun r hr=>?_⟩;have hm:=(zO rs).mem_iff.1 hr;exact⟨by have:=(Dq (hz.recs r hm).tY).2;omega,(hz.recs r hm).len⟩
theorem aeu:∀r∈gi (cB (aN rs) o) 6,Fe r/\r.data.length<=3000/\r.aG<=1000000000:=by obtain⟨_,_,_,_,_,_,_,_,h⟩:=P8 hz;exact h
theorem aev{n:ah}(hn:fC n):(ct (aN rs) n).1.length<=3001:=by have h:=LI hz hn 255;have e:kB 255 (ct (aN rs) n).1=(ct (aN rs) n).1:=by{have PY:=KC bu (ct (aN rs) n).1.length 0 (ct (aN rs) n).1 aA;unfold kB nX;rw[Cu.2 (fun x _=>by unfold kA;simp)];exact PY};rw[e]at h;rcases h with h|⟨s,h⟩;{rw[h];simp};{rw[h,bY];have:=IE hz s 255;omega}
theorem aqP(zb b off cap:Nat)(t:Int){n:ah}(hn:fC n)(hl:n.length<=260):adG (xg o (aN rs) t n) zb b off cap t o n (aN rs):=by
 intro sb cb c bw W hs htab hg hzs bX h0 hc hne hcb hcs base dw;by_cases ht:t=5\/t=255;{
 have hr:xg o (aN rs) t n=some (lN o (aN rs) n,mH o (aN rs) t n,nZ o (aN rs) t n):=by unfold xg;rw[aJ ht]
 refine(amo sb zb cb c b off cap t bw _ _ _ o n (aN rs) W hs rfl rfl htab hg hzs bX h0 hc ⟨Wn hz,ae,aeu hz,ht,aev hz hn⟩).mono ?_;rintro e w' ⟨rfl,⟨df,cJ,h1,h2,h3,h4⟩,h5⟩;exact .inr ⟨_,_,_,df,cJ,hr,rfl,h1,h2,h3,h4,h5⟩};{
 have hr:xg o (aN rs) t n=(gA o (aN rs) 8 n).map (fun x=>(A8 o (aN rs) x.2,x.1++zC o (aN rs) t x.2,A_ o (aN rs) t x.2)):=by unfold xg;rw[aF ht]
 refine(amm (fun m=>fC m/\m.length<=260) sb zb cb c b off cap base t bw _ o n (aN rs) W hs htab hg hzs bX h0 hc hne hcb hcs dw ae ⟨hn,hl⟩ ⟨Wn hz,aeu hz,by simpa using fun h=>ht (.inl h),by simpa using fun h=>ht (.inr h),fun m hm=>aev hz hm.1,fun m r hm hlk=>?_⟩).mono ?_;{obtain⟨_,_,_,_,hp⟩:=Ql hz hm.1 hlk;have:=gU hp;exact⟨ae,this.1,ae⟩};{rintro e w' (⟨h1,rfl,h2⟩|⟨ls,fin,h1,_,rfl,⟨df,cJ,k1,k2,k3,k4⟩,h2⟩);{exact .inl ⟨by rw[hr,h1];rfl,rfl,h2⟩};{exact .inr ⟨_,_,_,df,cJ,by rw[hr,h1];rfl,rfl,k1,k2,k3,k4,h2⟩}}}
theorem aqQ(t:Int){n:ah}(hn:fC n)(hl:n.length<=260)(hu:dy n o=true):∀rc ans bS,xg o (aN rs) t n=some (rc,ans,bS)->ans.length<=500/\bS.length<=500/\∀r∈ans++bS,r.data.length<=3000:=by intro rc ans bS h;have hg:=F9 hz t 9 true false [] n hn hl (fun r hr=>by cases hr) (cV _);rw[aea hu,h]at hg;obtain⟨h1,h2,h3,h4⟩:=hg;refine⟨by simp only at h3;omega,by simp only at h4;omega,fun r hr=>?_⟩;have bq:sI rs r:=by{rcases gm.1 hr with h|h;{exact h1 r h};{exact h2 r h}};obtain⟨r0,hm,_,hd⟩:=bq.dat;rw[hd];exact(hz.recs r0 hm).len
theorem aqR{n:ah}(hn:fC n)(t:Int)(hu:dy n o=true){w':World}{base:Nat}{v:Value}(h:adH (xg o (aN rs) t n) o n (aN rs) w' base v):LS w' base v (jf o rs t n) (sJ o rs t n):=by have he:jf o rs t n=_:=aea hu;rcases h with⟨h1,rfl⟩|⟨rc,ans,bS,va,vb,vd,h1,rfl,k1,k2,k3,k4,k5,k6⟩;{rw[h1]at he;unfold sJ;rw[he];exact⟨_,_,_,rfl,ia _ _ _ _,ia _ _ _ _,ia _ _ _ _,BI _,BI _,BI _⟩};{rw[h1]at he;unfold sJ;rw[he];have ha:=aqi (aqh hz hn t _ h1) (ans++bS);refine⟨va,vb,vd,rfl,k1,k2,?_,k4,k5,k6⟩;show b_ w' base vd (kh rs ans (ans++bS)).2;rw[<- ha];exact k3}
end
theorem aew(zb b off cap:Nat)(k:Int)(o n:ah)(rs:List ai)(w:World)(hz:iD w zb o b off cap rs)(hnl:n.length<=2900)(gX:o.length<=2900)(hu:dy n o=false) :
  aB 69 #[aM zb,ay n,aj k] w (bQ (.agg #[aj 5,.bool false,aH,aH,aH]) w):=by
 have hz0:=hz.2.1;have hzb:=hz.1;have dX:au w (w.alloc (.cells #[.int .i64 0,.bool false,.slice none 0 0,.slice none 0 0,.slice none 0 0] 43)):=aO.alloc aA _;have HU:Hid (∀W,aB 110 #[ay n,ay o] W fun e w'=>e=.returned (.bool false)/\w'=W):=fun W=>by{have:=Kh (aq n) (aq o) W (by rw[bJ];omega) (by rw[bJ];omega);rw[tA,tA,hu]at this;exact this};clear hz hu;go_enter func69,ntmps69;go_wp2_with fail;refine(HU _).mono ?_;rintro e w1 ⟨rfl,hw1⟩;have hb1:au w w1:=by rw[hw1];exact dX
 have r1:dY w1 w.heap.size (aj 0) (.bool false) (aH) (aH) (aH):=by rw[hw1];exact N0 w _
 obtain⟨k0,k1,k2,k3,k4⟩:=dY.cells r1;have kf:=dY.frozen r1;have A9:=((((dY.set0 r1 (aj 5)).set1 (.bool false)).set2 (aH)).iM (aH)).lj (aH);obtain⟨n0,n1,n2,n3,n4⟩:=A9.cells;have dm:=ag (bg n0 (bg n1 (bg n2 (bg n3 n4))));clear hw1 dX HU r1 A9 n0 n1 n2 n3 n4;go_wp2_with fail;obtain⟨n0,n1,n2,n3,n4⟩:=af dm;refine fB (v:=.agg #[.int .i64 5,.bool false,.slice none 0 0,.slice none 0 0,.slice none 0 0]) ?_ rfl ⟨rfl,((((hb1.setCell (p:=⟨w.heap.size,0,none⟩) aA _).setCell (p:=⟨w.heap.size,1,none⟩) aA _).setCell (p:=⟨w.heap.size,2,none⟩) aA _).setCell (p:=⟨w.heap.size,3,none⟩) aA _).setCell (p:=⟨w.heap.size,4,none⟩) aA _⟩;simp[results,results69,go_sem,n0,n1,n2,n3,n4]
theorem aqS(zb b off cap:Nat)(t:Int)(o n:ah)(rs:List ai)(w:World)(bq:kE o rs)(hz:iD w zb o b off cap (aN rs))(hg:bK w)(hn:fC n)(hl:n.length<=260) :
  aB 69 #[aM zb,ay n,aj t] w fun e w'=>(∃v,e=.returned v/\LS w' w.heap.size v (jf o rs t n) (sJ o rs t n))/\au w w':=by
 cases hu:dy n o with
 | false =>{have ho:=(gU bq.org).2;refine(aew zb b off cap t o n (aN rs) w hz ae ae hu).mono ?_;rintro e w' ⟨rfl,hb⟩;have he:jf o rs t n=(5,false,[],[]):=DC 9 (VW hu);refine⟨⟨_,rfl,?_⟩,hb⟩;unfold sJ;rw[he];exact⟨_,_,_,rfl,ia _ _ _ _,ia _ _ _ _,ia _ _ _ _,BI _,BI _,BI _⟩}
 | true =>{have hlen:=(zO rs).length_eq;refine(apz (xg o (aN rs) t n) zb b off cap t o n (aN rs) w hz hg ae hu (Wn bq) (by rw[hlen];exact FV bq) (aqP bq zb b off cap t hn hl) (aqQ bq t hn ae hu)).mono ?_;rintro e w' ⟨⟨v,rfl,hv⟩,hb⟩;exact⟨⟨v,rfl,aqR bq hn t hu hv⟩,hb⟩}
def DG(w:World)(b:Nat)(l:ah):Prop:=b<w.heap.size/\(∀j (h:j<l.length),w.cell? (ak b j)=some (.int .u8 l[j].toNat))/\∀j,j<l.length->w.frozen? (ak b j)=false
theorem DG.set{w:World}{b:Nat}{l:ah}(h:DG w b l)(k:Nat)(c:UInt8)(hk:k<l.length):DG (w.setCell ⟨b,k,none⟩ (.int .u8 c.toNat)) b (l.set k c):=by obtain⟨h1,h2,h3⟩:=h;refine⟨by simpa [World.setCell]using h1,fun j hj=>?_,fun j hj=>?_⟩;{rw[JZ]at hj;by_cases e:k=j;{subst e;rw[World.cell?_setCell_same _ _ _ (h2 k hj)];simp};{rw[Sz _ _ _ _ (fun x=>e (dE Addr.off x)),h2 j hj];simp[List.getElem_set,e]}};{rw[JZ]at hj;rw[World.frozen?_setCell];exact h3 j hj}
theorem aex(w:World)(l:ah)(cap:Nat):DG (w.drew.alloc (.cells (bytesRow (aq l) cap) 5 ((bytesRow (aq l) cap).size,(bytesRow (aq l) cap).size+1))) w.heap.size l:=by
 have hn:(w.drew.alloc (.cells (bytesRow (aq l) cap) 5 ((bytesRow (aq l) cap).size,(bytesRow (aq l) cap).size+1))).heap[w.heap.size]? = some (.cells (bytesRow (aq l) cap) 5 ((bytesRow (aq l) cap).size,(bytesRow (aq l) cap).size+1)):=World.alloc_heap_new w.drew _;have hs:l.length<=(bytesRow (aq l) cap).size:=by simp[bytesRow,aq]
 refine⟨ar,fun j hj=>?_,fun j hj=>?_⟩;{have:=bytesRow_at (aq l) cap j (by simpa [aq]using hj);simp only[World.cell?,hn];rw[this];rfl};{simp only[World.frozen?,hn];simp;omega}
def ki(c:UInt8):UInt8:=if 65<=c.toNat/\c.toNat<=90 then UInt8.ofNat (c.toNat+32)else if c.toNat=46 then 80 else c
theorem aqT(l:ah)(k:Nat)(c:UInt8)(h:k<l.length):((l.take k).map ki++l.drop k).set k (ki l[k])=(l.take (k+1)).map ki++l.drop (k+1):=by have e1:((l.take k).map ki).length=k:=aP;rw[ko h,gp h,NU,aF ae,e1,rJ,gJ,fP,eC];rfl
theorem aqU(l:ah)(k:Nat)(h:k<l.length)(hc:ki l[k]=l[k]):(l.take (k+1)).map ki++l.drop (k+1)=(l.take k).map ki++l.drop k:=by rw[ko h,gp h,gJ,fP];simp only[jL,rI,hc,ZV]
theorem aqV(l:ah)(w:World)(hl:l.length<=1000) :
  aB 252 #[ay l] w (bQ (ay (l.map ki)) w):=by
 have kb:=run_bytes_of_string (P:=prog) w 9 58 5 (aq l) underlying9 underlying58 underlying5;have eZ:=ag (aex w l (grownCap w (aq l).size 0 5));have aX:=ag ((bR w.heap.size w).drew.alloc (bH w.heap.size) (.cells (bytesRow (aq l) (grownCap w (aq l).size 0 5)) 5 ((bytesRow (aq l) (grownCap w (aq l).size 0 5)).size,(bytesRow (aq l) (grownCap w (aq l).size 0 5)).size+1)));have dt:l.length<=grownCap w (aq l).size 0 5:=by{have:=grownCap_ge w (aq l).size 0 5;rw[bJ]at this ⊢;exact this};generalize grownCap w (aq l).size 0 5=cap at *;generalize w.drew.alloc (.cells (bytesRow (aq l) cap) 5 ((bytesRow (aq l) cap).size,(bytesRow (aq l) cap).size+1))=W at *;have hs:(aq l).size=l.length:=bJ l;go_enter func252,ntmps252;go_wp2_with fail;go_loopw [10] (fun i wr=>∃k:Nat,i=aj k/\k<=l.length/\DG wr w.heap.size ((l.take k).map ki++l.drop k)/\au w wr) (fun i _=>l.length - (intOf i).toNat);case atStart=>exact⟨0,rfl,cV _,by simpa using af eZ,aX⟩
 case round =>(
 obtain⟨k,rfl,hk,dw,hb⟩:=hrel;have mD:=ag dw;have rk:=ag hb;clear dw hb;by_cases hlk:k<l.length;{
 have hlen:((l.take k).map ki++l.drop k).length=l.length:=aP;have hcell:wr.cell? (ak w.heap.size k)=some (.int .u8 l[k].toNat):=by{rw[mD.2.1 k ae];rw[JY aP,Cw];simp[v_ hk]};have hfz:wr.frozen? (ak w.heap.size k)=false:=mD.2.2 k ae;have dA:=ag (aqT l k 0 hlk);have HS:=ag (mD.set k (ki l[k]) ae);have cu:=ag (aqU l k hlk);generalize l[k]=c at *;have hc:=kZ c;have gR:Hid (((ki c).toNat:Int)=if 65<=c.toNat/\c.toNat<=90 then(c.toNat:Int)+32 else if c.toNat=46 then 80 else c.toNat):=by{unfold Hid ki;split;{simp[lJ];omega};{split <;> rfl}};have HC:Hid (ki c=c->DG wr w.heap.size ((l.take (k+1)).map ki++l.drop (k+1))):=fun h=>by rw[af cu h];exact mD
 rw[af dA]at HS;have eG:Hid (¬(65<=c.toNat/\c.toNat<=90)->¬c.toNat=46->ki c=c):=fun h1 h2=>by unfold ki;rw[aF h1,aF h2]
 generalize hn:c.toNat=n at *;clear hlen;by_cases h1:65<=n/\n<=90;{
 have hv:((ki c).toNat:Int)=(n:Int) - 65+97:=by rw[af gR,aJ h1];omega
 rw[hv]at HS;clear hv;obtain⟨h1,h2⟩:=h1;go_wp2;exact⟨⟨k+1,bW,ae,HS,rk.setCell aA _⟩,c5⟩};{
 by_cases h2:n=46;{
 have hv:((ki c).toNat:Int)=80:=by rw[af gR,aF h1,aJ h2]
 rw[hv]at HS;clear hv;subst h2;go_wp2;exact⟨⟨k+1,bW,ae,HS,rk.setCell aA _⟩,c5⟩};{have aW:=ag (HC (eG h1 h2));have h3:((n:Int) == 46)=false:=aP;by_cases h4:65<=n;{have h5:¬n<=90:=ae;clear h1;go_wp2;exact⟨⟨k+1,bW,ae,aW,rk⟩,c5⟩};{clear h1;go_wp2;exact⟨⟨k+1,bW,ae,aW,rk⟩,c5⟩}}}};{
 have fJ:k=l.length:=ae;have hend:Hid ((l.take k).map ki++l.drop k=l.map ki):=by rw[Hid,fJ];simp
 have dw:=af mD;rw[af hend]at dw;have DI:(l.map ki).length=l.length:=ar;have kc:=Ta (P:=prog) wr 58 9 5 (ak w.heap.size 0) cap (l.map ki) underlying58 underlying5 underlying9 (fun j hj=>by{
 have e:((ak w.heap.size 0):Addr).add j=(ak w.heap.size j):=by unfold Addr.add;by_cases h:j=0 <;> simp[h]
 rw[e];exact dw.2.1 j hj})
 rw[DI]at kc;clear dw DI;subst fJ;go_wp2;go_ret;exact⟨rfl,rk⟩})
theorem aqW(l:ah)(w:World)(hg:bK w)(hl:l.length<=3000) :
  aB 340 #[ay l] w (bQ (ay (Lib.cut l [46]).1) w):=by obtain⟨_,m,hm⟩:=hg;have HC:=ag (Tryz.strings_Cut (aq l) ⟨#[46]⟩ m w (by rw[bJ];omega) hm);clear hm;go_enter func340,ntmps340;go_wp2_with fail;refine HC.mono ?_;rintro e w1 ⟨rfl,n,rfl⟩;go_wp2;go_ret;exact⟨rfl,pj (bR _ w) n⟩
def pD(w:World)(g:Nat)(l:List ah):Prop:=w.heap[g]? = some (.cells ((l.map fun x=>Value.string (aq x)).toArray) 9)
section
variable {w:World} {g:Nat} {l:List ah}
theorem pD.lt(h:pD w g l):g<w.heap.size:=(bV.1 h).1
theorem pD.cell(h:pD w g l)(i:Nat)(ax:i<l.length):w.cell? (ak g i)=some (.string (aq l[i])):=by unfold pD at h;simp[World.cell?,h,ax]
theorem pD.frozen(h:pD w g l)(i:Nat):w.frozen? (ak g i)=false:=by unfold pD at h;simp[World.frozen?,h]
theorem pD.set(h:pD w g l)(i:Nat)(x:ah):pD (w.setCell ⟨g,i,none⟩ (.string (aq x))) g (l.set i x):=by unfold pD at *; simp only[World.setCell];rw[fw,aJ rfl,h];simp
theorem pD.below{w':World}(h:pD w g l)(hb:au w w'):pD w' g l:=(hb.block g h.lt).trans h
end
def aey(w:World)(v:Value)(ls:List ah):Prop:=(v=aH/\ls = [])\/∃g c,v=aD g 0 ls.length c/\ls.length<=c/\g<w.heap.size/\∀j (h:j<ls.length),w.cell? (ak g j)=some (.string (aq ls[j]))
def kF(l:ah):ah:=l.map ki
theorem LU(l:ah):(kF l).length=l.length:=by simp[kF]
def bh(ls:List ah):ah:=Lib.join (ls.map kF) [46]
theorem aqX(w:World)(n:Nat):pD (w.alloc (.cells (madeCells (Value.string ⟨#[]⟩).cells n) 9)) w.heap.size (List.replicate n []):=by have e:madeCells (Value.string ⟨#[]⟩).cells n=((List.replicate n ([]:ah)).map fun x=>Value.string (aq x)).toArray:=by{apply Array.ext';simp only[madeCells,Value.cells,Array.toList_map,Array.toList_range];apply List.ext_getElem;{simp};{intro i h1 h2;simp[aq,Nat.mod_one]}};rw[e];exact World.alloc_heap_new w _
theorem aqY(ls:List ah)(k:Nat)(h:k<ls.length):(((ls.take k).map kF)++List.replicate (ls.length - k) []).set k (kF ls[k])=((ls.take (k+1)).map kF)++List.replicate (ls.length - (k+1)) []:=by have e1:((ls.take k).map kF).length=k:=aP;rw[NU,aF ae,e1,rJ,gp h,show ls.length - k=(ls.length - (k+1))+1 from ae,List.replicate_succ,eC,gJ,fP];rfl
theorem aez(l:List ah):(l.map aq).map (·.data.toList)=l:=by rw[kY];exact List.map_id' l
theorem aeA(M:Nat):∀xs:List ah,(∀x∈xs,x.length<=M)->(Lib.join xs [46]).length<=xs.length*(M+1)
 | [],_=>by simp[Lib.join,List.intercalate]
 | [x],h=>by have:=h x ar;simp[Lib.join,List.intercalate];omega
 | x :: y :: t,h=>by have ih:=aeA M (y :: t) (fun z hz=>h z (jY _ hz));have hx:=h x ar;simp only[Lib.join,List.intercalate]at ih ⊢;rw[List.intersperse];simp only[List.flatten_cons,bj,bP,fy]at ih ⊢;{rw[Nat.succ_mul];omega};{intro e;cases e}
theorem aqZ(v:Value)(ls:List ah)(w:World)(hv:aey w v ls)(hn:ls.length<=1000)(hl:∀l∈ls,l.length<=1000) :
  aB 200 #[v] w (bQ (ay (bh ls)) w):=by
 obtain⟨i0,ax,hz0,hz1,hz2⟩:=kJ HZ;have km:=run_make (P:=prog) w 49 9 i0 (.string ⟨#[]⟩) OQ ax hz0 .i64 .i64 ls.length ls.length ae (Int.le_refl _) (by rw[hz2];omega) ae;rw[hz1]at km;simp only[EM,zf]at km;have cS:=ag (aqX w ls.length);have aX:=ag ((bR w.heap.size w).alloc aA (.cells (madeCells (Value.string ⟨#[]⟩).cells ls.length) 9));have gG:=ag (Any.strings_Join Tryz.lays156 Tryz.Builder_Extra_156);have gR:=ag hv;have ej:=ag hl;generalize w.alloc (.cells (madeCells (Value.string ⟨#[]⟩).cells ls.length) 9)=W at *;clear ax hz0 hz1 hz2 i0 hl;rcases hv with⟨rfl,rfl⟩|⟨g,c,rfl,hc,hg,nB⟩;{
 have dm:=ag (fun W:World=>Any.strings_Join_none Tryz.lays156 Tryz.Builder_Extra_156 (some (ak w.heap.size 0)) 0 ⟨#[46]⟩ W);clear gG;simp only[fy]at km cS aX;have aAb:(Instr.makeSlice 49 (aj 0) (aj 0)).run prog w=.ok (aD w.heap.size 0 0 0) W:=km;clear km;go_enter func200,ntmps200;go_wp2_with fail;go_loopw [11] (fun i wr=>i=aj 0/\wr=W) (fun _ _=>0);case atStart=>exact⟨rfl,rfl⟩
 case round =>(obtain⟨rfl,rfl⟩:=hrel;go_wp2_with fail;refine(dm _).mono ?_;rintro e w2 ⟨rfl,rfl⟩;go_wp2;go_ret;exact⟨rfl,aX⟩)};{
 have HC:=ag nB;clear nB;go_enter func200,ntmps200;go_wp2_with fail;go_loopw [11] (fun i wr=>∃k:Nat,i=aj k/\k<=ls.length/\pD wr w.heap.size (((ls.take k).map kF)++List.replicate (ls.length - k) [])/\au w wr) (fun i _=>ls.length - (intOf i).toNat);case atStart=>exact⟨0,rfl,cV _,by simpa using af cS,aX⟩
 case round =>(
 obtain⟨k,rfl,hk,BB,hb⟩:=hrel;have aeB:=ag BB;have rk:=ag hb;clear BB hb;by_cases hlk:k<ls.length;{have hcell:wr.cell? (ak g k)=some (.string (aq ls[k])):=(rk.cell (p:=⟨g,k,none⟩) hg).trans (HC k hlk);have HS:=ag (aqY ls k hlk);have aq0:=af ej ls[k] (cM hlk);have hlen:(((ls.take k).map kF)++List.replicate (ls.length - k) []).length=ls.length:=aP;generalize ls[k]=x at *;have aW:=ag (show aB 252 #[ay x] wr fun e w'=>e=.returned (ay (kF x))/\au wr w' from aqV x wr aq0);go_wp2_with fail;refine aW.mono ?_;rintro e w2 ⟨rfl,hb2⟩;have uh:=aeB.below hb2;have aAc:=uh.cell k ae;have aAd:=uh.frozen k;have tO:=ag (uh.set k (kF x));have bU:=ag ((rk.trans (hb2.mono rk.size)).setCell (p:=⟨w.heap.size,k,none⟩) aA (ay (kF x)));rw[af HS]at tO;clear hb2 uh;go_wp2;exact⟨⟨k+1,bW,ae,tO,bU⟩,c5⟩};{
 have fJ:k=ls.length:=ae;subst fJ;have aeC:Hid (pD wr w.heap.size (ls.map kF)):=by{have:=af aeB;rw[gV,rJ,List.replicate_zero,h_]at this;exact this};have zq:=ag (gG w.heap.size 0 ls.length ((ls.map kF).map aq) ⟨#[46]⟩ wr ?aC aeC.lt ?c2 ?c3 ?aV);case aC =>(intro j x hx;rw[eY];rw[Cv,ZY]at hx;obtain⟨y,hy,rfl⟩:=hx;obtain⟨hj,rfl⟩:=jX.1 hy;exact aeC.cell j hj)
 case c2=>simp;omega
 case c3=>simp
 case aV =>(rw[aez];refine a_ (aeA 1000 _ ?_) ?_;{intro x hx;obtain⟨y,hy,rfl⟩:=jZ.1 hx;rw[LU];exact ej y hy};{rw[bY];omega})
 rw[aez,bY,bY]at zq;go_wp2_with fail;refine zq.mono ?_;rintro e w2 ⟨rfl,hb2⟩;go_wp2;go_ret;exact⟨rfl,rk.trans (hb2.mono rk.size)⟩})}
def ft(w:World)(b:Nat)(xs:List Int)(t:TypeId):Prop:=w.heap[b]? = some (.cells (xs.map (Value.int .i64)).toArray t)
section
variable {w:World} {b:Nat} {xs:List Int} {t:TypeId}
theorem ft.lt(h:ft w b xs t):b<w.heap.size:=(bV.1 h).1
theorem ft.cell(h:ft w b xs t)(i:Nat)(ax:i<xs.length):w.cell? (ak b i)=some (aj xs[i]):=by unfold ft at h;simp[World.cell?,h,ax]
theorem ft.frozen(h:ft w b xs t)(i:Nat):w.frozen? (ak b i)=false:=by unfold ft at h;simp[World.frozen?,h]
theorem ft.set(h:ft w b xs t)(i:Nat)(x:Int):ft (w.setCell ⟨b,i,none⟩ (.int .i64 x)) b (xs.set i x) t:=by unfold ft at *; simp only[World.setCell];rw[fw,aJ rfl,h];simp
theorem ft.kept{w':World}{d:Nat}(h:ft w b xs t)(hk:dF d w w')(hd:b≠d):ft w' b xs t:=(hk.block b h.lt hd).trans h
end
def oy:Nat->ah->Bool->List Nat×ah×Bool
 | 0,s,br=>([],s,br)
 | k+1,s,br=>((dI s br).1 :: (oy k (dI s br).2.1 (dI s br).2.2).1,(oy k (dI s br).2.1 (dI s br).2.2).2)
theorem zX(s:ah)(br:Bool):(dI s br).2.1.length<=s.length:=a_ (zD _ _) (zD _ _)
theorem aq1(s:ah)(br:Bool):(dI s br).1<65536:=by have h1:=HY s br;have h2:=HY (dx s br).2.1 (dx s br).2.2;simp only[dI];omega
def Gd(s:ah):List Nat×Bool:=((oy 6 s false).1,!(oy 6 s false).2.2)
theorem aq2(s:ah)(w:World)(hl:s.length<=1000000000) :
  aB 70 #[ay s] w fun e w' =>
   e=.returned (.tuple #[.agg ((Gd s).1.map fun n:Nat=>Value.int .i64 n).toArray,.bool (Gd s).2])/\au w w':=by
 have tS:eO ((w.alloc (.cells #[.int .i64 0,.int .i64 0,.int .i64 0,.int .i64 0,.int .i64 0,.int .i64 0] 133)).alloc (.cells #[.string (aq s),.bool false] 215)) (w.heap.size+1) s false:=by{have:=World.alloc_heap_new (w.alloc (.cells #[.int .i64 0,.int .i64 0,.int .i64 0,.int .i64 0,.int .i64 0,.int .i64 0] 133)) (.cells #[.string (aq s),.bool false] 215);simpa [eO]using this};have eQ:ft ((w.alloc (.cells #[.int .i64 0,.int .i64 0,.int .i64 0,.int .i64 0,.int .i64 0,.int .i64 0] 133)).alloc (.cells #[.string (aq s),.bool false] 215)) w.heap.size [0,0,0,0,0,0] 133 := (cD _ _ _ ar).trans (World.alloc_heap_new w _);have gN:=ag (((bR w.heap.size w).alloc aA (.cells #[.int .i64 0,.int .i64 0,.int .i64 0,.int .i64 0,.int .i64 0,.int .i64 0] 133)).alloc ar (.cells #[.string (aq s),.bool false] 215));have hc0:=C3 _ s false _ tS hl;have hE:=ag eQ;have qL:=ag hc0;have bf:Hid (Gd s=((dI s false).1 :: (dI (dI s false).2.1 (dI s false).2.2).1 :: (oy 4 (dI (dI s false).2.1 (dI s false).2.2).2.1 (dI (dI s false).2.1 (dI s false).2.2).2.2).1,!(oy 4 (dI (dI s false).2.1 (dI s false).2.2).2.1 (dI (dI s false).2.1 (dI s false).2.2).2.2).2.2)):=rfl;have DJ:=ag (a_ (zX s false) hl);generalize Gd s=R at *;generalize dI s false=x at *;obtain⟨n1,s1,b1⟩:=x;simp only at qL bf DJ;clear tS eQ hc0;go_enter func70,ntmps70;go_wp2_with fail;refine qL.mono ?_;rintro e w1 ⟨rfl,hr1,kO,hs1⟩;have og:=ag (C3 _ s1 b1 w1 hr1 (af DJ));have aeD:=ag (a_ (zX s1 b1) (af DJ));generalize dI s1 b1=y at *;obtain⟨n2,s2,b2⟩:=y;simp only at og bf aeD;have ll:=ag (hE.kept kO ae);have bZ:=ag (gN.trans (kO.below ae aP));have tH:Hid (w1.heap.size=w.heap.size+2):=by rw[Hid,hs1];simp
 clear hr1 kO hs1 qL hE gN;go_wp2_with fail;refine og.mono ?_;rintro e w2 ⟨rfl,hr2,hk2,hs2⟩;have kP:=ag hr2;have uU:=ag (ll.kept hk2 ae);have bU:=ag (bZ.trans (hk2.below ae (by have:=af tH;omega)));have jQ:Hid (w2.heap.size=w.heap.size+2):=by rw[Hid,hs2];exact tH
 clear hr2 hk2 hs2 og ll bZ tH;go_wp2_with fail;go_loopw [15] (fun i wr=>∃(k m:Nat) (done zs:List Nat) (t:ah) (bt:Bool),i=aj k/\done.length=k/\zs.length=m/\k+m=4/\t.length<=1000000000/\eO wr (w.heap.size+1) t bt/\ft wr w.heap.size [0,0,0,0,0,0] 133/\ft wr w2.heap.size ((n1 :: n2 :: (done++zs)).map Int.ofNat) 133/\au w wr/\R=(n1 :: n2 :: (done++(oy m t bt).1),!(oy m t bt).2.2)) (fun i _=>4 - (intOf i).toNat);case atStart =>(refine⟨0,4,[],[0,0,0,0],s2,b2,rfl,rfl,rfl,rfl,aeD,?_,?_,?_,?_,bf⟩;{exact(cD _ _ _ kP.lt).trans kP};{exact(cD _ _ _ uU.lt).trans uU};{exact World.alloc_heap_new _ _};{exact bU.alloc (by have:=af jQ;omega) _})
 case round =>(
 obtain⟨k,m,done,zs,t,bt,rfl,hdone,hzs,Kr,kL,wK,eQ,aeE,hb,hR⟩:=hrel;have zF:=ag wK;have hE:=ag eQ;have DK:=ag aeE;have aX:=ag hb;have bC:=ag hR;clear wK eQ aeE hb hR;cases m with
 | zero =>{
 obtain rfl:zs = []:=fp hzs;have hk4:k=4:=ae;subst hk4;obtain⟨c0,aC,c2,c3,rfl⟩:∃a b c d,done = [a,b,c,d]:=by{
 match done,hdone with
 | [a,b,c,d],_=>exact⟨a,b,c,d,rfl⟩};have q0:=DK.cell 0 ar;have q1:=DK.cell 1 ar;have q2:=DK.cell 2 ar;have q3:=DK.cell 3 ar;have q4:=DK.cell 4 ar;have q5:=DK.cell 5 ar;simp at q0 q1 q2 q3 q4 q5;have hc1:=zF.cells.2;have z0:=hE.cell 0 ar;have z1:=hE.cell 1 ar;have z2:=hE.cell 2 ar;have z3:=hE.cell 3 ar;have z4:=hE.cell 4 ar;have z5:=hE.cell 5 ar;simp at z0 z1 z2 z3 z4 z5;have hfz:=hE.frozen;have hne:w.heap.size≠w2.heap.size:=by have:=af jQ;omega
 clear Kr hdone hzs;go_wp2_with fail;go_region;all_goals(go_wp2;refine fB (v:=.tuple #[.agg #[.int .i64 n1,.int .i64 n2,.int .i64 c0,.int .i64 aC,.int .i64 c2,.int .i64 c3],.bool (!bt)]) (by simp[results,results70,go_sem,z0,z1,z2,z3,z4,z5]) rfl ⟨?_,?_⟩;{rw[af bC];simp[oy]};{exact((((((aX.setCell aA _).setCell aA _).setCell aA _).setCell aA _).setCell aA _).setCell aA _).drew})}
 | succ m =>{
 obtain⟨z,zs,rfl⟩:∃z zs',zs=z :: zs':=by{
 cases zs with
 | nil=>simp at hzs
 | cons z zs=>exact⟨z,zs,rfl⟩};have hk4:k<4:=ae;have aW:Hid (R=(n1 :: n2 :: ((done++[(dI t bt).1])++(oy m (dI t bt).2.1 (dI t bt).2.2).1),!(oy m (dI t bt).2.1 (dI t bt).2.2).2.2)):=by{rw[Hid,af bC];simp[oy]};have HC:=ag (C3 _ t bt wr (af zF) kL);have H0:=ag (a_ (zX t bt) kL);generalize dI t bt=y at *;obtain⟨n3,t3,b3⟩:=y;simp only at HC H0 aW;clear bC;go_wp2_with fail;refine HC.mono ?_;rintro e w3 ⟨rfl,hr3,hk3,hs3⟩;have OS:=ag hr3;have aq3:=ag (hE.kept hk3 ae);have Wo:=ag (DK.kept hk3 (by have:=af jQ;omega));have cK:=ag (aX.trans (hk3.below ae (by have:=aX.size;omega)));have hcell:=Wo.cell (2+k) aP;have hfz:=Wo.frozen;clear hr3 hk3 hs3 HC zF hE DK aX;go_wp2_with fail;have aaS:w.heap.size<w2.heap.size:=by have:=af jQ;omega
 have aAe:w.heap.size+1<w2.heap.size:=by have:=af jQ;omega
 have eN:=Wo.set (2+k) (n3:Int);refine⟨⟨k+1,m,done++[n3],zs,t3,b3,bW,by simp[hdone],by simpa using hzs,ae,H0,?_,?_,?_,cK.setCell (by show w.heap.size<=w2.heap.size;omega) _,aW⟩,c5⟩;{exact(cZ _ _ _ _ (by show w.heap.size+1≠w2.heap.size;omega)).trans (af OS)};{exact(cZ _ _ _ _ (by show w.heap.size≠w2.heap.size;omega)).trans (af aq3)};{have e:((n1 :: n2 :: (done++z :: zs)).map Int.ofNat).set (2+k) (n3:Int)=(n1 :: n2 :: ((done++[n3])++zs)).map Int.ofNat:=by{subst hdone;rw[show 2+done.length=done.length+1+1 from ae];simp[NU]};rw[<- e];exact eN}})
def fu(w:World)(b:Nat)(h0 h1 h2 h3 h4 h5:Int)(q n:ah)(k c:Int)(opt:Bool)(sz bM:Int):Prop :=
 w.heap[b]? = some (.cells #[.int .i64 h0,.int .i64 h1,.int .i64 h2,.int .i64 h3,.int .i64 h4,.int .i64 h5,.string (aq q),.string (aq n),.int .i64 k,.int .i64 c,.bool opt,.int .i64 sz,.int .i64 bM] 137)
section
variable {w:World} {b:Nat} {h0 h1 h2 h3 h4 h5:Int} {q n:ah} {k c:Int} {opt:Bool} {sz bM:Int}
theorem fu.lt(h:fu w b h0 h1 h2 h3 h4 h5 q n k c opt sz bM):b<w.heap.size:=(bV.1 h).1
theorem fu.frozen(h:fu w b h0 h1 h2 h3 h4 h5 q n k c opt sz bM)(i:Nat):w.frozen? (ak b i)=false:=by unfold fu at h;simp[World.frozen?,h]
theorem fu.cells(h:fu w b h0 h1 h2 h3 h4 h5 q n k c opt sz bM) :
  w.cell? (ak b 0)=some (aj h0)/\w.cell? (ak b 1)=some (aj h1)/\w.cell? (ak b 2)=some (aj h2)/\w.cell? (ak b 3)=some (aj h3)/\w.cell? (ak b 4)=some (aj h4)/\w.cell? (ak b 5)=some (aj h5) /\
  w.cell? (ak b 6)=some (ay q)/\w.cell? (ak b 7)=some (ay n)/\w.cell? (ak b 8)=some (aj k)/\w.cell? (ak b 9)=some (aj c)/\w.cell? (ak b 10)=some (.bool opt)/\w.cell? (ak b 11)=some (aj sz)/\w.cell? (ak b 12)=some (aj bM):=by unfold fu at h;refine⟨?_,?_,?_,?_,?_,?_,?_,?_,?_,?_,?_,?_,?_⟩ <;> simp[World.cell?,h]
theorem fu.rT(h:fu w b h0 h1 h2 h3 h4 h5 q n k c opt sz bM)(x:ah):fu (w.setCell ⟨b,6,none⟩ (.string (aq x))) b h0 h1 h2 h3 h4 h5 x n k c opt sz bM:=by unfold fu at *; simp only[World.setCell];rw[fw,aJ rfl,h];rfl
theorem fu.aq4(h:fu w b h0 h1 h2 h3 h4 h5 q n k c opt sz bM)(x:ah):fu (w.setCell ⟨b,7,none⟩ (.string (aq x))) b h0 h1 h2 h3 h4 h5 q x k c opt sz bM:=by unfold fu at *; simp only[World.setCell];rw[fw,aJ rfl,h];rfl
theorem fu.aq5(h:fu w b h0 h1 h2 h3 h4 h5 q n k c opt sz bM)(x:Int):fu (w.setCell ⟨b,8,none⟩ (.int .i64 x)) b h0 h1 h2 h3 h4 h5 q n x c opt sz bM:=by unfold fu at *; simp only[World.setCell];rw[fw,aJ rfl,h];rfl
theorem fu.aq6(h:fu w b h0 h1 h2 h3 h4 h5 q n k c opt sz bM)(x:Int):fu (w.setCell ⟨b,9,none⟩ (.int .i64 x)) b h0 h1 h2 h3 h4 h5 q n k x opt sz bM:=by unfold fu at *; simp only[World.setCell];rw[fw,aJ rfl,h];rfl
theorem fu.kept{w':World}(h:fu w b h0 h1 h2 h3 h4 h5 q n k c opt sz bM)(hb:w'.heap[b]? = w.heap[b]?):fu w' b h0 h1 h2 h3 h4 h5 q n k c opt sz bM:=hb.trans h
end
theorem aq7{w:World}{base:Nat}{v:Value}{ls:List ah}(h:mK w base v ls):aey w v ls:=by obtain⟨⟨h1,h2⟩,h3⟩:=h;rcases h2 with⟨hv,_⟩|⟨g,cap,cur,hv,hb,aZ,hn,hm,hs,ht⟩;{exact .inl ⟨hv,h3.1 hv⟩};{refine .inr ⟨g,cap,hv,hn,(bV.1 aZ).1,fun j hj=>?_⟩;have e:cur.toList[j]? = (ls.map fun l=>Value.string (aq l))[j]?:=by{rw[<- ht,za];rw[aJ ae]};simp only[World.cell?,aZ];rw[<- ZK,e];simp[hj]}
theorem aq8(s:ah)(br:Bool)(n:Nat):(fY s br n).1.length<=n:=by unfold fY;split <;> simp;omega
theorem aeF:∀(f n:Nat) (s:ah) (br:Bool) (size:Nat) (acc:List ah),(∀l∈acc,l.length<=63)->acc.length<=size->size<=255 ->
  (∀l∈(nu f n s br size acc).1,l.length<=63)/\(nu f n s br size acc).1.length<=255/\(nu f n s br size acc).2.1.length<=s.length
 | 0,n,s,br,size,acc,h1,h2,h3=>⟨h1,by simp only[nu];omega,bH _⟩
 | f+1,n,s,br,size,acc,h1,h2,h3=>by rw[nu];split;{exact⟨h1,by simp only;omega,bH _⟩};{split;{exact⟨ar,ar,bH _⟩};{rename_i hn hb;have:=aeF f (dx (fY s br n).2.1 (fY s br n).2.2).1 (dx (fY s br n).2.1 (fY s br n).2.2).2.1 (dx (fY s br n).2.1 (fY s br n).2.2).2.2 (size+1+n) (acc++[(fY s br n).1]) ?_ aP ae;{exact⟨this.1,this.2.1,a_ this.2.2 (a_ (zD _ _) (abv _ _ _))⟩};{intro l hl;rcases gm.1 hl with hl|hl;{exact h1 l hl};{rw[vY.1 hl];have:=aq8 s br n;omega}}}}
theorem aeG(s:ah)(br:Bool):(∀l∈(tJ s br).1,l.length<=63)/\(tJ s br).1.length<=255/\(tJ s br).2.1.length<=s.length:=by have:=aeF 256 (dx s br).1 (dx s br).2.1 (dx s br).2.2 1 [] ar ar ae;exact⟨this.1,this.2.1,a_ this.2.2 (zD _ _)⟩
theorem aeH(qb rb:Nat)(s:ah)(br:Bool)(w:World){h0 h1 h2 h3 h4 h5:Int}{q n:ah}{k c:Int}{opt:Bool}{sz bM:Int}
  (hq:fu w qb h0 h1 h2 h3 h4 h5 q n k c opt sz bM) (hr:eO w rb s br) (hne:qb≠rb) (hl:s.length<=1000000000)
  {ls:List ah} {k' c':Nat} {s1 s2 s3:ah} {qi sL mO:Bool} (e1:tJ s br=(ls,s1,qi)) (e2:dI s1 qi=(k',s2,sL)) (e3:dI s2 sL=(c',s3,mO)) :
  aB 133 #[aM qb,aM rb] w fun e w' =>
   e=.returned (.tuple #[])/\fu w' qb h0 h1 h2 h3 h4 h5 (s.take (s.length - s3.length)) (bh ls) k' c' opt sz bM/\eO w' rb s3 mO/\bn (fun i=>i≠qb/\i≠rb) w w':=by have og:=ag (amv rb s br w hr hl);have bq:=aeG s br;rw[e1]at bq;rw[Hid,e1]at og;obtain⟨ok1,ok2,aq9⟩:=bq;simp only at og ok1 ok2 aq9;have l2:=zX s1 qi;have l3:=zX s2 sL;rw[e2]at l2;rw[e3]at l3;simp only at l2 l3;have hc0:=hr.cells.1;have dn:=ag hq;have oq:=ag e2;have vq:=ag e3;have cF:=ag ok1;have hlt:=hq.lt;clear hq hr e1 e2 e3 ok1;go_enter func133,ntmps133;go_wp2_with fail;refine og.mono ?_;rintro e w1 ⟨v,rfl,hv,hr1,kO⟩;have n_:=ag (aqZ v ls w1 (aq7 hv) ae (fun l hl=>by have:=af cF l hl;omega));have kT:=ag (dn.kept (kO.block qb hlt hne));have nw:=ag hr1;have zx:Hid (bn (fun i=>i≠qb/\i≠rb) w w1):=(bn.wF kO).mono fun i _ h=>h.2;clear hv hr1 kO og;go_wp2_with fail;refine n_.mono ?_;rintro e w2 ⟨rfl,hb2⟩;have ju:=ag (kT.kept (hb2.block qb kT.lt));have kP:Hid (eO w2 rb s1 qi):=(hb2.block rb nw.lt).trans nw;have Ge:Hid (bn (fun i=>i≠qb/\i≠rb) w w2):=zx.trans (bn.uM hb2);have hfz:=ju.frozen;have Qv:=ju.cells.2.2.2.2.2.2.2.1;clear hb2 n_ kT nw zx;go_wp2_with fail;have kG:=ag (ju.aq4 (bh ls));have oV:Hid (eO (w2.setCell ⟨qb,7,none⟩ (.string (aq (bh ls)))) rb s1 qi):=(cZ _ _ _ _ (by show rb≠qb;omega)).trans (af kP);have qj:Hid (bn (fun i=>i≠qb/\i≠rb) w (w2.setCell ⟨qb,7,none⟩ (.string (aq (bh ls))))):=Ge.trans (bn.jD _ fun i h=>h.1);clear ju kP Ge Qv hfz;generalize w2.setCell ⟨qb,7,none⟩ (.string (aq (bh ls)))=w3 at *;have sM:=C3 rb s1 qi w3 (af oV) ae;rw[af oq]at sM;refine sM.mono ?_;rintro e w4 ⟨rfl,hr4,hk4,gj⟩;have ql:=ag (kG.kept (hk4.block qb kG.lt hne));have x8:=ag hr4;have BJ:Hid (bn (fun i=>i≠qb/\i≠rb) w w4):=qj.trans ((bn.wF hk4).mono fun i _ h=>h.2);clear hr4 hk4 gj sM kG oV qj;go_wp2_with fail;have tG:=C3 rb s2 sL w4 (af x8) ae;rw[af vq]at tG;refine tG.mono ?_;rintro e w5 ⟨rfl,BA,hk5,hs5⟩;have rp:=ag (ql.kept (hk5.block qb ql.lt hne));have n9:Hid (eO w5 rb s3 mO):=BA;have Gf:Hid (bn (fun i=>i≠qb/\i≠rb) w w5):=BJ.trans ((bn.wF hk5).mono fun i _ h=>h.2);clear BA hk5 hs5 tG ql x8 BJ;have hfz:=rp.frozen;obtain⟨-,-,-,-,-,-,Qw,-,aeI,aAf,-,-,-⟩:=rp.cells;have hcr:=n9.cells.1;have hs:(aq s).size=s.length:=bJ s;have hs3:(aq s3).size=s3.length:=bJ s3;have amJ:(s.length:Int) - s3.length=((s.length - s3.length:Nat):Int):=ae;have hle:s.length - s3.length<=s.length:=ae;have cS:=ag (OM s (s.length - s3.length) hle);have Tk:rb≠qb:=fun e=>hne e.symm;generalize hd:s.length - s3.length=d at *;go_wp2_with fail;refine pO (v:=.tuple #[]) (by simp[results,results133]) rfl ?_;rw[af cS,hd];refine⟨rfl,((rp.aq5 _).aq6 _).rT _,?_,((Gf.trans (bn.jD _ fun i h=>h.1)).trans (bn.jD _ fun i h=>h.1)).trans (bn.jD _ fun i h=>h.1)⟩;exact(cZ _ _ _ _ (by show rb≠qb;omega)).trans ((cZ _ _ _ _ (by show rb≠qb;omega)).trans ((cZ _ _ _ _ (by show rb≠qb;omega)).trans (af n9)))
def eu(h0 h1 h2 h3 h4 h5:Int)(q n:ah)(k c:Int)(opt:Bool)(sz bM:Int):Value :=
 .agg #[aj h0,aj h1,aj h2,aj h3,aj h4,aj h5,.string (aq q),.string (aq n),aj k,aj c,.bool opt,aj sz,aj bM]
theorem aq_(W:World):(Op.equalIn 10000 131 (.agg #[aj 1,aj 0,aj 0,aj 0]) (.agg #[aj 1,aj 0,aj 0,aj 0])).run prog W=.ok true W:=aI
def IX(w:World)(id bits:Int)(s:ah):World :=
 (((w.alloc (.cells #[.int .i64 id,.int .i64 bits,.int .i64 1,.int .i64 0,.int .i64 0,.int .i64 0] 133)).alloc
   (.cells #[.int .i64 0,.int .i64 0,.int .i64 0,.int .i64 0,.int .i64 0,.int .i64 0,.string ⟨#[]⟩,.string ⟨#[]⟩,.int .i64 0,.int .i64 0,.bool false,.int .i64 0,.int .i64 0] 137)).alloc
   (.cells #[.int .i64 id,.int .i64 bits,.int .i64 1,.int .i64 0,.int .i64 0,.int .i64 0,.string ⟨#[]⟩,.string ⟨#[]⟩,.int .i64 0,.int .i64 0,.bool false,.int .i64 0,.int .i64 0] 137)).alloc
   (.cells #[.string (aq s),.bool false] 215)
theorem ara(w:World)(id bits:Int)(s:ah):fu (IX w id bits s) (w.heap.size+1+1) id bits 1 0 0 0 [] [] 0 0 false 0 0/\fu (IX w id bits s) (w.heap.size+1) 0 0 0 0 0 0 [] [] 0 0 false 0 0/\eO (IX w id bits s) (w.heap.size+1+1+1) s false/\au w (IX w id bits s):=by refine⟨?_,?_,?_,?_⟩;{refine(cD _ _ _ ar).trans ?_;have:=World.alloc_heap_new ((w.alloc (.cells #[.int .i64 id,.int .i64 bits,.int .i64 1,.int .i64 0,.int .i64 0,.int .i64 0] 133)).alloc (.cells #[.int .i64 0,.int .i64 0,.int .i64 0,.int .i64 0,.int .i64 0,.int .i64 0,.string ⟨#[]⟩,.string ⟨#[]⟩,.int .i64 0,.int .i64 0,.bool false,.int .i64 0,.int .i64 0] 137)) (.cells #[.int .i64 id,.int .i64 bits,.int .i64 1,.int .i64 0,.int .i64 0,.int .i64 0,.string ⟨#[]⟩,.string ⟨#[]⟩,.int .i64 0,.int .i64 0,.bool false,.int .i64 0,.int .i64 0] 137);simpa [aq]using this};{refine(cD _ _ _ ar).trans ((cD _ _ _ ar).trans ?_);have:=World.alloc_heap_new (w.alloc (.cells #[.int .i64 id,.int .i64 bits,.int .i64 1,.int .i64 0,.int .i64 0,.int .i64 0] 133)) (.cells #[.int .i64 0,.int .i64 0,.int .i64 0,.int .i64 0,.int .i64 0,.int .i64 0,.string ⟨#[]⟩,.string ⟨#[]⟩,.int .i64 0,.int .i64 0,.bool false,.int .i64 0,.int .i64 0] 137);simpa [aq]using this};{have:=World.alloc_heap_new (((w.alloc (.cells #[.int .i64 id,.int .i64 bits,.int .i64 1,.int .i64 0,.int .i64 0,.int .i64 0] 133)).alloc (.cells #[.int .i64 0,.int .i64 0,.int .i64 0,.int .i64 0,.int .i64 0,.int .i64 0,.string ⟨#[]⟩,.string ⟨#[]⟩,.int .i64 0,.int .i64 0,.bool false,.int .i64 0,.int .i64 0] 137)).alloc (.cells #[.int .i64 id,.int .i64 bits,.int .i64 1,.int .i64 0,.int .i64 0,.int .i64 0,.string ⟨#[]⟩,.string ⟨#[]⟩,.int .i64 0,.int .i64 0,.bool false,.int .i64 0,.int .i64 0] 137)) (.cells #[.string (aq s),.bool false] 215);simpa [eO,IX]using this};{exact(((aO.alloc aA _).alloc ar _).alloc aP _).alloc aP _}
theorem Wp(id bits:Int)(m:ah)(w:World)(hm:12<=m.length)(hl:m.length<=1000000000)
  {ls:List ah} {k' c':Nat} {s1 s2 s3:ah} {qi sL mO:Bool} (e1:tJ (m.drop 12) false=(ls,s1,qi)) (e2:dI s1 qi=(k',s2,sL)) (e3:dI s2 sL=(c',s3,mO)) :
  aB 72 #[.agg #[aj id,aj bits,aj 1,aj 0,aj 0,aj 0],.string (aq m)] w fun e w' =>
   e=.returned (.tuple #[eu id bits 1 0 0 0 ((m.drop 12).take ((m.drop 12).length - s3.length)) (bh ls) k' c' false 0 0,.bool (!mO && s3.isEmpty)])/\au w w':=by
 have hs:(aq m).size=m.length:=bJ m;have HD:=ag (OO m 12 _ rfl);have kq:∀W:World,(Op.equalIn 10000 131 (.agg #[aj 1,aj 0,aj 0,aj 0]) (.agg #[aj 1,aj 0,aj 0,aj 0])).run prog W=.ok true W:=aq_;have BK:=ag e1;have oq:=ag e2;have vq:=ag e3;clear e1 e2 e3;obtain⟨Gg,DL,tS,hb0⟩:=ara w id bits (m.drop 12);have HC:=ag (aeH (w.heap.size+1+1) (w.heap.size+1+1+1) (m.drop 12) false (IX w id bits (m.drop 12)) Gg tS ae aP (af BK) (af oq) (af vq));have zY:=ag DL;have gN:=ag hb0;clear Gg DL tS hb0;go_enter func72,ntmps72;go_wp2_with fail;rw[af HD];refine HC.mono ?_;rintro e w1 ⟨rfl,vv,hr1,jH⟩;have kg:=ag (zY.kept (jH.block _ zY.lt ⟨ae,ae⟩));have bZ:Hid (au w w1):=gN.trans (jH.below (fun i ax=>⟨ae,ae⟩) gN.size);have kT:=ag vv;have nw:=ag hr1;clear vv hr1 jH HC zY gN kq;generalize LV:(m.drop 12).take ((m.drop 12).length - s3.length)=q at *;generalize f_:bh ls=nm at *;have LW:=ag LV;have jG:=ag f_;clear LV f_;obtain⟨c0,aC,c2,c3,aV,gh,jF,c7,oU,c9,zU,DM,DN⟩:=kT.cells;obtain⟨gu,d1,d2,d3,d4,d5,d6,d7,d8,d9,d10,d11,d12⟩:=kg.cells;have hfz:=kg.frozen;obtain⟨r0,r1⟩:=nw.cells;go_wp2_with fail;clear BK oq vq HD hm hl hs kT nw kg;have ret:∀b:Bool,(!mO && s3.isEmpty)=b->Ending.returned (.tuple #[eu id bits 1 0 0 0 q nm k' c' false 0 0,.bool b])=.returned (.tuple #[eu id bits 1 0 0 0 ((m.drop 12).take ((m.drop 12).length - s3.length)) (bh ls) k' c' false 0 0,.bool (!mO && s3.isEmpty)]):=fun b hb=>by{rw[af LW,af jG,hb]};have Gh:=ag ret;clear ret LW jG;have aL:=ag fun(W:World) (hW:au w W) (o:Nat) (v:Value)=>hW.setCell (p:=⟨w.heap.size+1,o,none⟩) (by show w.heap.size<=w.heap.size+1;omega) v;cases mO;{
 cases s3 with
 | nil =>{have e1:aq []=⟨#[]⟩:=rfl;rw[e1]at r0;go_region;all_goals(go_wp2;refine fB (v:=.tuple #[eu id bits 1 0 0 0 q nm k' c' false 0 0,.bool true]) (by simp[results,results72,go_sem,eu,gu,d1,d2,d3,d4,d5,d6,d7,d8,d9,d10,d11,d12]) rfl ⟨af Gh true rfl,?_⟩;first|exact(aL _ (aL _ (aL _ (aL _ (aL _ (aL _ (aL _ (aL _ (aL _ (aL _ (aL _ (aL _ (aL _ bZ _ _) _ _) _ _) _ _) _ _) _ _) _ _) _ _) _ _) _ _) _ _) _ _) _ _).drew|exact(aL _ (aL _ (aL _ (aL _ (aL _ (aL _ (aL _ (aL _ (aL _ (aL _ (aL _ (aL _ (aL _ bZ.drew _ _) _ _) _ _) _ _) _ _) _ _) _ _) _ _) _ _) _ _) _ _) _ _) _ _))}
 | cons x t =>{
 have e1:((aq (x :: t)).toList == (⟨#[]⟩:ByteArray).toList)=false:=by rw[HA];rfl
 have e2:(aq (x :: t)).toList.isEmpty=false:=by rw[nQ];rfl
 have e3:¬(aq (x :: t)).size=0:=by rw[bJ];simp
 generalize aq (x :: t)=bt at *;go_region;all_goals(go_wp2;refine fB (v:=.tuple #[eu id bits 1 0 0 0 q nm k' c' false 0 0,.bool false]) (by simp[results,results72,go_sem,eu,gu,d1,d2,d3,d4,d5,d6,d7,d8,d9,d10,d11,d12]) rfl ⟨af Gh false rfl,?_⟩;first|exact(aL _ (aL _ (aL _ (aL _ (aL _ (aL _ (aL _ (aL _ (aL _ (aL _ (aL _ (aL _ (aL _ bZ _ _) _ _) _ _) _ _) _ _) _ _) _ _) _ _) _ _) _ _) _ _) _ _) _ _).drew|exact(aL _ (aL _ (aL _ (aL _ (aL _ (aL _ (aL _ (aL _ (aL _ (aL _ (aL _ (aL _ (aL _ bZ.drew _ _) _ _) _ _) _ _) _ _) _ _) _ _) _ _) _ _) _ _) _ _) _ _) _ _))}};{go_region;all_goals(go_wp2;refine fB (v:=.tuple #[eu id bits 1 0 0 0 q nm k' c' false 0 0,.bool false]) (by simp[results,results72,go_sem,eu,gu,d1,d2,d3,d4,d5,d6,d7,d8,d9,d10,d11,d12]) rfl ⟨af Gh false rfl,?_⟩;first|exact(aL _ (aL _ (aL _ (aL _ (aL _ (aL _ (aL _ (aL _ (aL _ (aL _ (aL _ (aL _ (aL _ bZ _ _) _ _) _ _) _ _) _ _) _ _) _ _) _ _) _ _) _ _) _ _) _ _) _ _).drew|exact(aL _ (aL _ (aL _ (aL _ (aL _ (aL _ (aL _ (aL _ (aL _ (aL _ (aL _ (aL _ (aL _ bZ.drew _ _) _ _) _ _) _ _) _ _) _ _) _ _) _ _) _ _) _ _) _ _) _ _) _ _))}
def zZ(k:Int):Bool:=k != 0 && k != 41 && (decide (k<249) || decide (254<k))
def vw(b rc:Int):Int:=bits .or .i64 (bits .or .i64 32768 (bits .and .i64 b 30976)) (bits .and .i64 rc 15)
theorem aeJ(i b c0 aC c2 c3 rc:Int)(w:World) :
  aB 132 #[.agg #[aj i,aj b,aj c0,aj aC,aj c2,aj c3],aj rc] w fun e w' =>
   e=.returned (.agg #[aj i,aj (vw b rc),aj 0,aj 0,aj 0,aj 0])/\au w w':=by go_enter func132,ntmps132;go_wp2;refine fB (v:=.agg #[.int .i64 i,.int .i64 (vw b rc),.int .i64 0,.int .i64 0,.int .i64 0,.int .i64 0]) (by simp[results,results132,go_sem,vw]) rfl ⟨rfl,?_⟩;first|exact(aO.alloc aA _).alloc ar _|exact(((((((((Below.refl _ _).alloc (Nat.le_refl _) _).alloc ar _).setCell (by show w.heap.size<=w.heap.size+1;omega) _).setCell (by show w.heap.size<=w.heap.size+1;omega) _).setCell (by show w.heap.size<=w.heap.size+1;omega) _).setCell (by show w.heap.size<=w.heap.size+1;omega) _).setCell (by show w.heap.size<=w.heap.size+1;omega) _).setCell (by show w.heap.size<=w.heap.size+1;omega) _)
theorem arb(h0 h1 h2 h3 h4 h5:Int)(q n:ah)(k c sz bM:Int)(w:World) :
  aB 138 #[eu h0 h1 h2 h3 h4 h5 q n k c false sz bM] w (bQ (aj 512) w):=by unfold eu;go_enter func138,ntmps138;go_wp2;go_ret;exact⟨rfl,aO.alloc aA _⟩
theorem arc(h0 h1 h2 h3 h4 h5:Int)(q n:ah)(k c sz bM rc:Int)(w:World) :
  aB 136 #[eu h0 h1 h2 h3 h4 h5 q n k c false sz bM,aj rc] w (bQ (.string ⟨#[]⟩) w):=by unfold eu;go_enter func136,ntmps136;go_wp2;go_ret;exact⟨rfl,aO.alloc aA _⟩
end Go.Proofs.YtkkpahmoljiepaaGreatDoor
