import Derived.Test.YtkkpahmoljiepaaGreatDoorJ18
import Derived.Test.YtkkpahmoljiepaaGreatDoorJ19
set_option maxRecDepth 1000000
set_option maxHeartbeats 12800000
set_option linter.unusedSimpArgs false
set_option linter.unusedVariables false
namespace Go.Proofs.YtkkpahmoljiepaaGreatDoor
open Go.RowKit Go.Proofs.Tryz
structure lX(T:ah)(r:ai):Prop where
 own:r.owner=T\/vN r.owner
 R9:r.owner.length<=255
 awQ:r.owner≠[]
 aG:r.aG<=86400
 dat:cE r.type (az 32 r.data)=true
 len:r.data.length<=3000
theorem lX.wr{T:ah}{r:ai}(h:lX T r):Jt r:=⟨a_ h.R9 ae,ER h.aG ae,h.dat,h.len⟩
theorem aiP{n:ah}(h:fC n):n≠[]:=fun e=>by
 subst e;exact absurd rfl (h [] (by simp[AK]))
section
variable {o:ah} {rs:List ai} (hz:kE o rs) {T:ah}
include hz
theorem YV{r:ai}(h:r∈rs):lX T r:=by have h1:=hz.recs r h;have h2:=Dq h1.tY;exact⟨.inr (au_ h1.tY),ae,aiP h2.1,h1.aG,h1.dat,h1.len⟩
theorem aiQ{n:ah}(hn:fC n)(hl:n.length<=255)(hT:n=T\/vN n){r:ai}(h:r∈rs):lX T (eM n r):=by have h1:=hz.recs r h;exact⟨hT,hl,aiP hn,h1.aG,h1.dat,h1.len⟩
theorem R_:∀r∈fQ o (aN rs),lX T r/\r.type=6:=by intro r hr;unfold fQ at hr;obtain⟨r0,h0,rfl⟩:=jZ.1 hr;rw[Ir]at h0;obtain⟨hm,hp⟩:=fA.1 h0;have h1:=YV hz (T:=T) hm;have h6:r0.type=6:=by{rw[cY]at hp;simpa using hp.2};exact⟨⟨h1.own,h1.R9,h1.awQ,a_ (Nat.min_le_left _ _) h1.aG,h1.dat,h1.len⟩,h6⟩
omit hz in
theorem awR{n:ah}{t:Int}{r:ai}(h0:r∈dL rs n t):r∈rs:=by unfold dL at h0;split at h0;{obtain⟨k,_,hk⟩:=Ay.1 h0;exact(fA.1 hk).1};{exact(fA.1 h0).1}
theorem aiR{n:ah}(hn:fC n)(hl:n.length<=255)(hT:n=T\/vN n)(t:Int)(first aa:Bool)(ans:List ai)(ha:∀r∈ans,lX T r/\r.type=5) :
  (∀r∈(eo o (aN rs) t first aa ans n).2.2.1,lX T r)/\(∀r∈(eo o (aN rs) t first aa ans n).2.2.2.1,lX T r/\(r.type=2\/r.type=6)) /\
  ((eo o (aN rs) t first aa ans n).2.2.2.1≠[]->∀r∈(eo o (aN rs) t first aa ans n).2.2.1,r.type=5)/\∀d,(eo o (aN rs) t first aa ans n).2.2.2.2=some d->dr d=true/\∀r∈(eo o (aN rs) t first aa ans n).2.2.1,r.type=5:=by
 cases hu:dy n o with
 | false =>{unfold eo;rw[aJ hu];exact⟨fun r hr=>(ha r hr).1,(by intro r hr;cases hr),fun h=>absurd rfl h,(by intro d hd;cases hd)⟩}
 | true =>{
 by_cases hc:(cU o (aN rs) n).length=0;{
 have hc':=fp hc;cases hm:(ct (aN rs) n).2 with
 | false =>{rw[VM hu hc' hm];exact⟨fun r hr=>(ha r hr).1,fun r hr=>⟨(R_ hz r hr).1,.inr (R_ hz (T:=T) r hr).2⟩,fun _ r hr=>(ha r hr).2,(by intro d hd;cases hd)⟩}
 | true =>{
 by_cases zV:(t=5\/t=255)\/iE o (aN rs) n=none;{rw[VN hu hc' hm zV];have BB:∀r∈kB t (ct (aN rs) n).1,lX T r:=by{rcases LI hz hn t with h|⟨s,h⟩;{rw[h];intro r hr;cases hr};{rw[h];intro r hr;obtain⟨r0,h0,rfl⟩:=jZ.1 hr;exact aiQ hz hn hl hT (awR h0)}};refine⟨fun r hr=>?_,fun r hr=>?_,fun h r hr=>?_,(by intro d hd;cases hd)⟩;{rcases gm.1 hr with h|h;{exact(ha r h).1};{exact BB r h}};{have hr':r∈(if tE t (ct (aN rs) n).1 then []else fQ o (aN rs)):=hr;split at hr';{cases hr'};{exact⟨(R_ hz r hr').1,.inr (R_ hz (T:=T) r hr').2⟩}};{have h':(if tE t (ct (aN rs) n).1 then []else fQ o (aN rs))≠[]:=h;split at h';{exact absurd rfl h'};{rename_i ja;have he:kB t (ct (aN rs) n).1 = []:=by{have hf:(bz bu (ct (aN rs) n).1).filter (kA t) = []:=by{rw[rH];intro x hx hc;exact ja (oA.2 ⟨x,hx,hc⟩)};unfold kB nX;rw[hf];rfl};have hr':r∈ans++kB t (ct (aN rs) n).1:=hr;rw[he,h_]at hr';exact(ha r hr').2}}};{
 have h5:t≠5:=fun h=>zV (.inl (.inl h));have gS:t≠255:=fun h=>zV (.inl (.inr h));cases hlk:iE o (aN rs) n with
 | none=>exact absurd (.inr hlk) zV
 | some r =>{
 obtain⟨r0,hm0,e,h50,hp⟩:=Ql hz hn hlk;by_cases h8:ans.length=8;{rw[Qh hu hc' hlk h5 gS h8];exact⟨(by intro r hr;cases hr),(by intro r hr;cases hr),fun h=>absurd rfl h,(by intro d hd;cases hd)⟩};{
 rw[Lv hu hc' hlk h5 gS h8];have hall:∀x∈ans++[r],lX T x/\x.type=5:=by{
 intro x hx;rcases gm.1 hx with h|h;{exact ha x h};{
 obtain rfl:x=r:=by simpa using h
 rw[e];exact⟨aiQ hz hn hl hT hm0,h50⟩}};exact⟨fun x hx=>(hall x hx).1,(by intro r hr;cases hr),fun h=>absurd rfl h,fun d hd=>⟨by obtain rfl:r.data=d:=fq hd;exact hp,fun x hx=>(hall x hx).2⟩⟩}}}}};{rw[Qg hu hc];refine⟨fun r hr=>(ha r hr).1,fun r hr=>?_,fun _ r hr=>(ha r hr).2,(by intro d hd;cases hd)⟩;have hr':r∈cU o (aN rs) n:=hr;refine⟨YV hz (ad4 hz hn hu r hr'),.inl ?_⟩;rcases P0 (tZ hz) hn hu with⟨_,h⟩|⟨i,_,_,h,_⟩;{rw[h]at hr';cases hr'};{rw[h]at hr';have:=(fA.1 hr').2;rw[cY]at this;simpa using this.2}}}
theorem YW(t:Int):∀(f:Nat) (first aa:Bool) (ans:List ai) (n:ah),fC n->n.length<=255->(n=T\/vN n)->(∀r∈ans,lX T r/\r.type=5) ->
  (∀r∈(je o (aN rs) t f first aa ans n).2.2.1,lX T r)/\(∀r∈(je o (aN rs) t f first aa ans n).2.2.2,lX T r/\(r.type=2\/r.type=6))/\((je o (aN rs) t f first aa ans n).2.2.2≠[]->∀r∈(je o (aN rs) t f first aa ans n).2.2.1,r.type=5)
 | 0,first,aa,ans,n,hn,hl,hT,ha=>by
  have h:=aiR hz hn hl hT t first aa ans ha
  exact⟨h.1,h.2.1,h.2.2.1⟩
 | f+1,first,aa,ans,n,hn,hl,hT,ha=>by
  have h:=aiR hz hn hl hT t first aa ans ha
  unfold je;generalize eo o (aN rs) t first aa ans n=q at h
  obtain⟨rc,jd,ou,bS,nx⟩:=q;cases nx with
  | none=>exact⟨h.1,h.2.1,h.2.2.1⟩
  | some d =>{obtain⟨hp,h5⟩:=h.2.2.2 d rfl;exact YW t f false jd ou d (gU hp).1 (a_ (gU hp).2 ae) (.inr (Js hp)) fun r hr=>⟨h.1 r hr,h5 r hr⟩}
omit hz in
theorem aiS(n:ah):∀(l:List ai) (s:List ah),s.contains n=false->(eH l n 1).length+(l.filter (fun r=>s.contains r.owner)).length<=(l.filter (fun r=>(s++[n]).contains r.owner)).length
 | [],s,_=>by simp[eH]
 | r :: l,s,hn=>by
  have ih:=aiS n l s hn;unfold eH at ih ⊢;have hc:(s++[n]).contains r.owner=(s.contains r.owner || r.owner == n):=by{rw[List.contains_eq_mem,List.contains_eq_mem];by_cases h1:r.owner∈s <;> by_cases h2:r.owner=n <;> simp[h1,h2]};rw[NL,NL,NL];simp only[hc];by_cases h1:r.owner=n;{
  have h2:s.contains r.owner=false:=by rw[h1];exact hn
  rw[h2];have h3:(r.owner == n)=true:=by simpa using h1
  rw[h3];simp only[Av,Ho,gZ,EK,ET,bP];split;{rw[bP];omega};{omega}};{
  have h3:(r.owner == n)=false:=by simpa using h1
  rw[h3];simp only[Sy,NF,EK,ET];split;{rw[bP,bP];omega};{omega}}
omit hz in
theorem YX(ans:List ai):∀(l:List ai) (s:List ah×List ai),s.2.length<=(rs.filter (fun r=>s.1.contains r.owner)).length->(l.foldl (rh rs ans) s).2.length<=rs.length
 | [],s,h=>a_ h (Cx _ _)
 | x :: l,s,h=>by
  refine YX ans l _ ?_;unfold rh;split;{
  split;{exact h};{
  rename_i hc;have hn:s.1.contains (fW x.data)=false:=by simpa using hc
  have h1:=aiS (fW x.data) rs s.1 hn;show(if ans.any (fun a=>a.owner == fW x.data && a.type == 1)then s.2 else s.2++eH rs (fW x.data) 1).length<=(rs.filter (fun r=>(s.1++[fW x.data]).contains r.owner)).length;split;{omega};{rw[bj];omega}}};{exact h}
omit hz in
theorem aiT(t:Int)(first aa:Bool)(ans:List ai)(n:ah):∃k:Nat,k<=16/\(eo o (aN rs) t first aa ans n).1=(k:Int):=by
 unfold eo;split;{
 cases first
 {exact⟨0,ae,rfl⟩};{exact⟨5,ae,rfl⟩}};{
 split;{exact⟨0,ae,rfl⟩};{
 split;{split;{exact⟨2,ae,rfl⟩};{exact⟨0,ae,rfl⟩}};{
 show ∃k:Nat,k<=16/\lN o (aN rs) n=(k:Int);unfold lN;repeat' split
 all_goals first|exact⟨0,ae,rfl⟩|exact⟨3,ae,rfl⟩}}}
omit hz in
theorem aiU(t:Int):∀(f:Nat) (first aa:Bool) (ans:List ai) (n:ah),∃k:Nat,k<=16/\(je o (aN rs) t f first aa ans n).1=(k:Int)
 | 0,first,aa,ans,n=>aiT t first aa ans n
 | f+1,first,aa,ans,n=>by
  have h:=aiT (o:=o) (rs:=rs) t first aa ans n
  unfold je;generalize eo o (aN rs) t first aa ans n=q at h
  obtain⟨rc,jd,ou,bS,nx⟩:=q;cases nx with
  | none=>exact h
  | some d=>exact aiU t f false jd ou d
theorem aiV(ans:List ai):∀(l:List ai) (s:List ah×List ai),(∀r∈s.2,lX T r)->∀r∈(l.foldl (rh rs ans) s).2,lX T r
 | [],s,h=>h
 | x :: l,s,h=>by refine aiV ans l _ ?_;unfold rh;split;{split;{exact h};{show ∀r∈(if ans.any (fun a=>a.owner == fW x.data && a.type == 1)then s.2 else s.2++eH rs (fW x.data) 1),lX T r;split;{exact h};{intro r hr;rcases gm.1 hr with hr|hr;{exact h r hr};{exact YV hz (fA.1 hr).1}}}};{exact h}
end
structure Hg(q:(Int×Bool×List ai×List ai)×List ai)(qn:List ah)(t:Bool)(xa bL xd:List bA):Prop where
 ma:xa.map (·.2.2.1)=q.1.2.2.1
 mu:bL.map (·.2.2.1)=q.1.2.2.2
 md:xd.map (·.2.2.1)=q.2
 la:∀x∈xa,x.2.2.2=if t=false/\aT x.2.2.1.owner=cC qn then qn else aT x.2.2.1.owner
 yU:∀x∈bL++xd,x.2.2.2=aT x.2.2.1.owner
def yX(o:ah)(rs:List ai)(m R:ah):Prop :=
 if m.length<12\/128<=(m.getD 2 0).toNat then R = []
 else if(m.getD 2 0).toNat/8%16≠0 then R=qx m false false 4 [0,0,0,0]
 else match fo m with
  | none=>R=qx m false false 1 [0,0,0,0]
  | some (q,ls,ty,cl,op,sz,aU)=>∃t xa bL xd,Hg (dC o rs (bh ls) ty cl op aU) ls t xa bL xd/\R=G3 m q ls op sz (dC o rs (bh ls) ty cl op aU).1.1.toNat (dC o rs (bh ls) ty cl op aU).1.2.1 [xa,bL,xd]
theorem aiW:∀ {f:Nat} {s:ah} {acc ls:List ah} {t:ah},lW f s acc=some (ls,t)->jW ls+t.length+1=jW acc+s.length/\((∀x∈acc,x≠[]/\x.length<=63)->∀x∈ls,x≠[]/\x.length<=63)
 | 0,_,_,_,_,h=>by cases h
 | f+1,[],_,_,_,h=>by cases h
 | f+1,c :: s,acc,ls,t,h=>by
  unfold lW at h;split at h;{have:=fq h;obtain⟨rfl,rfl⟩:=iA this;exact⟨by rw[bP];omega,fun h=>h⟩};{
  rename_i hc;split at h;{cases h};{
  rename_i hl;have uI:c.toNat≠0:=fun h=>hc (Hw h);obtain⟨h1,h2⟩:=aiW h;have h3:jW (acc++[s.take c.toNat])=jW acc+(c.toNat+1):=by{have hcl:c.toNat<=s.length:=ae;unfold jW;rw[gJ,List.sum_append];show _+((s.take c.toNat).length+1+0)=_;rw[gD,v_ hcl]};rw[h3,fM]at h1;refine⟨by rw[bP];omega,fun ha=>h2 fun x hx=>?_⟩;rcases gm.1 hx with hx|hx;{exact ha x hx};{
  obtain rfl:x=s.take c.toNat:=by simpa using hx
  refine⟨fun e=>?_,by rw[gD];omega⟩;have:=dE List.length e;rw[gD,v_ ae]at this;exact uI this}}}
theorem Nr{m q:ah}{ls:List ah}{ty cl:Nat}{op:Bool}{sz aU:Nat}(h:fo m=some (q,ls,ty,cl,op,sz,aU)):jW ls<=254/\(∀x∈ls,x≠[]/\x.length<=63)/\q.length<=259/\ty<65536/\cl<65536/\sz<65536/\aU<256/\q=q:=by
 have hat:∀(s:ah) (i:Nat),bp s i<65536:=fun s i=>by{have h1:=kZ (s.getD i 0);have h2:=kZ (s.getD (i+1) 0);unfold bp;omega};unfold fo at h;split at h;{cases h};{
 cases hL:lW (m.length+1) (m.drop 12) []with
 | none=>rw[hL]at h;cases h
 | some x =>{obtain⟨ls',t⟩:=x;rw[hL]at h;obtain⟨k1,k2⟩:=aiW hL;have k3:jW ([]:List ah)=0:=rfl;rw[k3,fM]at k1;simp only at h;split at h;{cases h};{rename_i hc;split at h;{split at h;{have:=fq h;simp only[Hv]at this;obtain⟨rfl,rfl,rfl,rfl,rfl,rfl,rfl⟩:=this;exact⟨ae,k2 (fun x hx=>by cases hx),by rw[gD,fM];omega,hat _ _,hat _ _,ae,ae,rfl⟩};{cases h}};{split at h;{cases h};{have:=fq h;simp only[Hv]at this;obtain⟨rfl,rfl,rfl,rfl,rfl,rfl,rfl⟩:=this;exact⟨ae,k2 (fun x hx=>by cases hx),by rw[gD,fM];omega,hat _ _,hat _ _,hat _ _,kZ _,rfl⟩}}}}}
theorem Sa(x y:ah)(t:List ah):Lib.join (x :: y :: t) [46]=x++46 :: Lib.join (y :: t) [46]:=by rw[Lib.join_cons,Lib.join_cons];simp[Lib.joinTail]
theorem aiX:∀(l:List ah),Lib.join l [46]=fT 46 l
 | []=>rfl
 | [x]=>by rw[Lib.join_one];rfl
 | x :: y :: t=>by rw[Sa,aiX (y :: t)];rfl
theorem JH{ls:List ah}(h:ls≠[]):aT (bh ls)=cC ls:=by have hsp:az 46 (bh ls)=ls.map kF:=by{unfold bh;rw[aiX,Wu 46 _ (by simpa using h) (fun x hx=>?_)];obtain⟨y,_,rfl⟩:=jZ.1 hx;unfold kF;intro hc;obtain⟨c,_,hcc⟩:=jZ.1 hc;unfold ki at hcc;split at hcc;{have:=dE UInt8.toNat hcc;rw[lJ]at this;have awS:(46:UInt8).toNat=46:=rfl;omega};{split at hcc;{cases hcc};{rename_i h1 h2;exact h2 (by rw[hcc];rfl)}}};unfold aT;rw[hsp,kY];unfold cC;refine oB fun x _=>?_;show(kF x).map yv=x.map eV;unfold kF;rw[kY];refine oB fun c _=>?_;show yv (ki c)=eV c;unfold ki eV;by_cases h1:65<=c.toNat/\c.toNat<=90;{rw[aJ h1,aJ h1];unfold yv;rw[aF];intro e;have:=dE UInt8.toNat e;rw[lJ]at this;have IC:(80:UInt8).toNat=80:=rfl;omega};{rw[aF h1,aF h1];by_cases h2:c.toNat=46;{rw[aJ h2];exact(Hw (show c.toNat=(46:UInt8).toNat from h2)).symm ▸ rfl};{rw[aF h2];unfold yv;rw[aF];intro e;exact h1 (by rw[e];decide)}}
theorem Hh:∀(ls:List ah),ls≠[]->(bh ls).length+1=jW ls
 | [x],_=>by have:bh [x]=kF x:=Lib.join_one _ _;rw[this,LU];simp[jW]
 | x :: y :: t,_=>by have ih:=Hh (y :: t) ar;have e:bh (x :: y :: t)=kF x++46 :: bh (y :: t):=Sa _ _ _;rw[e,Et,<- ih,bj,bP,LU];omega
theorem Ns{ls:List ah}(h:ls≠[])(hn:∀x∈ls,x≠[]):fC (bh ls):=fun x hx=>by
 have h1:=Lk (bh ls);rw[JH h]at h1;rw[<- h1]at hx;obtain⟨y,hy,rfl⟩:=jZ.1 hx;obtain⟨z,hz,rfl⟩:=jZ.1 hy;intro e;exact hn z hz (by simpa using e)
theorem awT(t:ah):jW (aT t)=t.length+1:=by have h:=RB _ t aA;unfold aT jW;unfold jW at h;rw[kY,<- h];congr 1;refine oB fun x _=>?_;show(x.map yv).length+1=_;rw[bY]
theorem Nt{o:ah}{rs:List ai}(hz:kE o rs){ls:List ah}(hl:jW ls<=254)(hn:∀x∈ls,x≠[])(ty cl:Int)(op:Bool)(aU:Int) :
  (∃k:Nat,k<=16/\(dC o rs (bh ls) ty cl op aU).1.1=(k:Int))/\(∀r∈(dC o rs (bh ls) ty cl op aU).1.2.2.1++((dC o rs (bh ls) ty cl op aU).1.2.2.2++(dC o rs (bh ls) ty cl op aU).2),lX (bh ls) r/\ls≠[]) /\
  (dC o rs (bh ls) ty cl op aU).1.2.2.1.length<=100/\(dC o rs (bh ls) ty cl op aU).1.2.2.2.length<=100/\(dC o rs (bh ls) ty cl op aU).2.length<=100:=by
 unfold dC;split;{exact⟨⟨16,ae,rfl⟩,fun r hr=>(by cases hr),ar,ar,ar⟩};{
 split;{exact⟨⟨5,ae,rfl⟩,fun r hr=>(by cases hr),ar,ar,ar⟩};{
 rename_i h;have hT:bh ls≠[]:=fun e=>h (.inr (.inr e));have iF:ls≠[]:=fun e=>by subst e;exact hT rfl
 have G9:=Ns iF hn;have AX:=Hh ls iF;have g1:=YW hz (T:=bh ls) ty 9 true false [] (bh ls) G9 ae (.inl rfl) (fun r hr=>by cases hr);have g2:=aiU (o:=o) (rs:=rs) ty 9 true false [] (bh ls);have g3:=F9 hz ty 9 true false [] (bh ls) G9 ae (fun r hr=>by cases hr) (cV _);have g4:=aiV hz (T:=bh ls) (jf o rs ty (bh ls)).2.2.1 ((jf o rs ty (bh ls)).2.2.1++(jf o rs ty (bh ls)).2.2.2) ([],[]) (fun r hr=>by cases hr);have g5:=YX (rs:=rs) (jf o rs ty (bh ls)).2.2.1 ((jf o rs ty (bh ls)).2.2.1++(jf o rs ty (bh ls)).2.2.2) ([],[]) ar;have g6:=FV hz;refine⟨g2,fun r hr=>⟨?_,iF⟩,a_ g3.2.2.1 ae,a_ g3.2.2.2 ae,a_ g5 ae⟩;rcases gm.1 hr with hr|hr;{exact g1.1 r hr};{rcases gm.1 hr with hr|hr;{exact(g1.2.1 r hr).1};{exact g4 r hr}}}}
theorem aiY{o:ah}{rs:List ai}(hz:kE o rs){ls:List ah}(hl:jW ls<=254)(hn:∀x∈ls,x≠[]/\x.length<=63){ty cl:Int}{op:Bool}{aU:Int}{t:Bool}{xa bL xd:List bA}(hx:Hg (dC o rs (bh ls) ty cl op aU) ls t xa bL xd):(∀x∈xa++(bL++xd),Jv x)/\(xa++(bL++xd)≠[]->ls≠[])/\xa.length<=100/\bL.length<=100/\xd.length<=100:=by obtain⟨_,q2,q3,q4,q5⟩:=Nt hz hl (fun x hx=>(hn x hx).1) ty cl op aU;have cO:∀x∈xa++(bL++xd),lX (bh ls) x.2.2.1/\ls≠[]:=fun x hx'=>q2 _ (by{rw[<- hx.ma,<- hx.mu,<- hx.md,<- gJ,<- gJ];exact Cz hx'});have Cm:∀x∈xa++(bL++xd),x.2.2.2=ls\/x.2.2.2=aT x.2.2.1.owner:=fun x hx'=>by{rcases gm.1 hx' with h|h;{rw[hx.la x h];split;{exact .inl rfl};{exact .inr rfl}};{exact .inr (hx.yU x h)}};refine⟨fun x hx'=>?_,fun h=>?_,by rw[<- hx.ma,bY]at q3;exact q3,by rw[<- hx.mu,bY]at q4;exact q4,by rw[<- hx.md,bY]at q5;exact q5⟩;{obtain⟨h1,h2⟩:=cO x hx';have h3:=h1.R9;refine⟨h1.dat,ER h1.aG ae,h1.len,?_,?_,?_⟩;{rcases Cm x hx' with h|h;{rw[h];exact h2};{rw[h];exact PV _}};{rcases Cm x hx' with h|h;{rw[h];exact fun y hy=>a_ (hn y hy).2 ae};{rw[h];intro y hy;obtain⟨z,hz',rfl⟩:=jZ.1 hy;rw[bY];exact a_ (qK 46 _ _ aA z hz') h3}};{rcases Cm x hx' with h|h;{rw[h];omega};{rw[h,awT];omega}}};{obtain⟨x,hx'⟩:=List.exists_mem_of_ne_nil _ h;exact(cO x hx').2}
theorem awU{o:ah}{rs:List ai}(hz:kE o rs){m q:ah}{ls:List ah}{ty cl:Nat}{op:Bool}{sz aU:Nat}(hq:fo m=some (q,ls,ty,cl,op,sz,aU))(hm:12<=m.length)(hl:m.length<=2000000)(nv va vu vd:Value)(t:Bool)(xa bL xd:List bA)(W:World)(pR:MW W nv ls)
  (hx:Hg (dC o rs (bh ls) ty cl op aU) ls t xa bL xd) (ra:gY W va xa) (M5:gY W vu bL) (rd:gY W vd xd) (f_:∀x∈xa++(bL++xd),en W x.1 x.2.2.2/\en W x.2.1 (az 32 x.2.2.1.data)) :
  aB 78 #[ay m,.agg #[ay q,nv,aj (ty:Int),aj (cl:Int),.bool op,aj (sz:Int),aj (aU:Int)],.agg #[aj (dC o rs (bh ls) ty cl op aU).1.1,.bool (dC o rs (bh ls) ty cl op aU).1.2.1,va,vu,vd]] W fun e w' =>
   e=.returned (ay (G3 m q ls op sz (dC o rs (bh ls) ty cl op aU).1.1.toNat (dC o rs (bh ls) ty cl op aU).1.2.1 [xa,bL,xd]))/\au W w':=by obtain⟨h1,h2,h3,_,_,h6,_,_⟩:=Nr hq;obtain⟨k1,k2,k3,k4,k5⟩:=aiY hz h1 h2 hx;obtain⟨n,hn,e⟩:=(Nt hz h1 (fun x hx=>(h2 x hx).1) ty cl op aU).1;rw[e,EM];exact avZ m q ls nv ty cl op sz aU n _ va vu vd xa bL xd W hm hl pR ae ae (fun x hx=>a_ (h2 x hx).2 ae) ae h6 ra M5 rd f_ k1 k3 k4 k5 k2
theorem YY{w w':World}{v:Value}{xs:List bA}{b:Nat}{rc:Int}{aa:Bool}(h:gY w v xs)(hr:dM w b rc aa (aH) (aH) (aH))(hf:bn (fun k=>k≠b) w w'):gY w' v xs:=by
 rcases h with h|⟨g,off,cap,h1,h2,h3,h4⟩;{exact .inl h};{
 refine .inr ⟨g,off,cap,h1,h2,dP h3 hf.size,fun j hj=>?_⟩;obtain⟨k0,k1,k2,k3,k4⟩:=h4 j hj;have hg:g≠b:=by{
 rintro rfl;obtain⟨c0,aC,c2,c3,aV⟩:=hr.cells;generalize off+j*5+3=i at k3;match i,k3 with
 | 0,k3=>rw[c0]at k3;cases k3
 | 1,k3=>rw[aC]at k3;cases k3
 | 2,k3=>rw[c2]at k3;cases k3
 | 3,k3=>rw[c3]at k3;cases k3
 | 4,k3=>rw[aV]at k3;cases k3
 | n+5,k3 =>{unfold dM at hr;unfold World.cell? at k3;rw[hr]at k3;simp at k3}};have k:∀(o:Nat) (u:Value),w.cell? (ak g o)=some u->w'.cell? (ak g o)=some u:=fun o u hu=>(dh (a:=⟨g,o,none⟩) (hf.block g h3 hg)).trans hu;exact⟨k _ _ k0,k _ _ k1,k _ _ k2,k _ _ k3,k _ _ k4⟩}
theorem aiZ(m:ah)(rc:Nat)(qy:rc<4096)(g:Nat)(W:World)(hm:12<=m.length)(hl:m.length<=2000000)(hg:W.heap[g]? = some (.cells #[.int .i64 0,.int .i64 0,.int .i64 0,.int .i64 0] 3)) :
  aB 75 #[ay m,.bool false,.bool false,aj rc,aD g 0 4 4] W (bQ (ay (qx m false false rc [0,0,0,0])) W):=by
 have hn:ft W g [0,0,0,0] 3:=hg;refine afT m false false rc g 4 [0,0,0,0] W hm ae qy rfl (fun c hc=>?_) hn.lt (fun j hj=>?_);{simp only[ei,vX,tk]at hc;rcases hc with rfl|rfl|rfl|rfl <;> omega};{
 have h4:j<4:=hj;have:=hn.cell j h4;match j,h4,this with
 | 0,_,this=>exact this
 | 1,_,this=>exact this
 | 2,_,this=>exact this
 | 3,_,this=>exact this}
theorem awV(zb:Nat)(o m:ah)(rs:List ai)(kS w:World)(hz:mM kS zb o rs)(jO:au kS w)(bq:kE o rs)(hl:m.length<=2000000) :
  aB 28 #[aM zb,ay m] w fun e w'=>(∃R,e=.returned (ay R)/\yX o rs m R)/\au w w':=by
 have zm:(aq m).size=m.length:=bJ m;by_cases vI:m.length<12
 ·have hI:(m.length:Int)<12:=ae;go_enter func28,ntmps28;go_wp2;go_ret;exact⟨⟨[],rfl,by unfold yX;rw[aJ (.inl vI)]⟩,bR _ _⟩
 have Sb:12<=m.length:=ae;have hI:¬(m.length:Int)<12:=ae;have X9:2<m.length:=ae;obtain⟨c,hc⟩:∃c:UInt8,c=m[2]:=⟨_,rfl⟩
 have g2:∀h:2<(aq m).size,(aq m)[2]=c:=fun h=>hc.symm;have hg2:m.getD 2 0=c:=by rw[hc,mU,iw X9];rfl
 have Pn:(2:Int)<(m.length:Int):=ae;clear hc;by_cases awW:128<=c.toNat
 ·have xY:(128:Int)<=(c.toNat:Int):=ae;go_enter func28,ntmps28;go_wp2;go_ret;exact⟨⟨[],rfl,by unfold yX;rw[aJ (.inr (by rw[hg2];exact awW))]⟩,bR _ _⟩
 have xY:¬(128:Int)<=(c.toNat:Int):=ae;obtain⟨oc,oO⟩:=bF (c.toNat/8%16);have j1:(c.toNat:Int)/8%16=(oc:Int):=ae;obtain⟨ON,YZ⟩:∃ON:Obj,ON=.cells #[.int .i64 0,.int .i64 0,.int .i64 0,.int .i64 0] 3:=⟨_,rfl⟩
 have Sc:(w.alloc ON).heap[w.heap.size]? = some (.cells #[.int .i64 0,.int .i64 0,.int .i64 0,.int .i64 0] 3):=by rw[World.alloc_heap_new,YZ]
 have hb1:au w (w.alloc ON):=aO.alloc aA _;by_cases ho:oc=0
 case neg =>
  have awX:((oc:Int) != 0)=true:=aP;have HH:=ag (aiZ m 4 ae w.heap.size (w.alloc ON) Sb hl Sc);have JI:Hid (yX o rs m (qx m false false 4 [0,0,0,0])):=by
   unfold yX;rw[Hid,aF (by rw[hg2];omega),aJ (by rw[hg2];omega)]
  have bZ:=ag hb1;clear Sc hb1 oO hg2;go_enter func28,ntmps28;go_wp2_with fail;rw[<- YZ];refine HH.mono ?_;rintro e w2 ⟨rfl,hb2⟩;have bU:=ag (bZ.trans (hb2.mono bZ.size));clear hb2 HH bZ;go_wp2;go_ret;exact⟨⟨_,rfl,JI⟩,bU⟩
 have awX:((oc:Int) != 0)=false:=aP;have Y0:=ag (awA m (w.alloc ON) Sb hl);have JI:Hid (∀R,(match fo m with
   | none=>R=qx m false false 1 [0,0,0,0]
   | some (q,ls,ty,cl,op,sz,aU)=>∃t xa bL xd,Hg (dC o rs (bh ls) ty cl op aU) ls t xa bL xd/\R=G3 m q ls op sz (dC o rs (bh ls) ty cl op aU).1.1.toNat (dC o rs (bh ls) ty cl op aU).1.2.1 [xa,bL,xd])->yX o rs m R):=fun R h=>by
  unfold yX;rw[aF (by rw[hg2];omega),aF (by rw[hg2];omega)];exact h
 have bZ:=ag hb1;have ll:=ag Sc;have dv:=ag hz;have pC:=ag (fun W (hb:au w W)=>jO.trans (hb.mono jO.size));have cF:=ag bq;have hs1:(w.alloc ON).heap.size=w.heap.size+1:=ar;clear Sc hb1 oO hg2 hz jO bq;go_enter func28,ntmps28;go_wp2_with fail;rw[<- YZ];refine Y0.mono ?_;rintro e w2 ⟨⟨qs,nv,ty,cl,op,sz,aU,ok,rfl,⟨na,nn,nc,rfl⟩,Nu⟩,hb2⟩;have hs2:=hb2.size;have hB2:=bZ.trans (hb2.mono ae);cases hq:fo m with
 | none =>
  rw[hq]at Nu;have awY:ok=false:=Nu;subst awY;have kP:=ag (JI (qx m false false 1 [0,0,0,0]) (by rw[hq]));have HH:Hid (∀o7:Obj,aB 75 #[ay m,.bool false,.bool false,aj 1,aD w.heap.size 0 4 4] (w2.alloc o7) fun e w'=>e=.returned (ay (qx m false false 1 [0,0,0,0]))/\Below (w2.alloc o7).heap.size (w2.alloc o7) w'):=fun o7 =>
   aiZ m 1 ae w.heap.size (w2.alloc o7) Sb hl ((cD w2 o7 w.heap.size ae).trans ((hb2.block w.heap.size ae).trans (af ll)))
  have bU:=ag hB2;clear Nu hq JI Y0 hb2 hB2 ll;go_wp2_with fail;refine(HH _).mono ?_;rintro e w3 ⟨rfl,hb3⟩;have cK:=ag ((bU.alloc bU.size _).trans (hb3.mono (by have:=bU.size;simp;omega)));clear hb3 HH bU;go_wp2;go_ret;exact⟨⟨_,rfl,kP⟩,cK⟩
 | some x =>
  obtain⟨q,ls,fE,jK,op',EE,mA⟩:=x;rw[hq]at Nu;obtain⟨rfl,rfl,rfl,rfl,rfl,rfl,rfl,nz⟩:=Nu;obtain⟨k1,k2,k3,k4,k5,k6,k7,_⟩:=Nr hq;have ai0:MW w2 (.slice na nn nc) ls:=by
   by_cases iF:ls = []
   ·exact .inl ⟨iF,nz.2.2 iF⟩
   ·obtain⟨g,c',e1,e2,_,e3⟩:=zH nz iF;exact .inr ⟨iF,g,c',e1,e2,e3⟩
  have M6:=ag ai0;have dn:=ag hq;obtain⟨dV,nL⟩:∃dV:Obj,dV=.cells #[.string (aq qs),.slice na nn nc,.int .i64 fE,.int .i64 jK,.bool op,.int .i64 EE,.int .i64 mA] 144:=⟨_,rfl⟩
  have Nv:Hid (∀(nv va vu vd:Value) (t:Bool) (xa bL xd:List bA) (W:World),MW W nv ls->Hg (dC o rs (bh ls) fE jK op mA) ls t xa bL xd->gY W va xa->gY W vu bL->gY W vd xd->(∀x∈xa++(bL++xd),en W x.1 x.2.2.2/\en W x.2.1 (az 32 x.2.2.1.data))->aB 78 #[ay m,.agg #[ay qs,nv,aj (fE:Int),aj (jK:Int),.bool op,aj (EE:Int),aj (mA:Int)],.agg #[aj (dC o rs (bh ls) fE jK op mA).1.1,.bool (dC o rs (bh ls) fE jK op mA).1.2.1,va,vu,vd]] W fun e w' =>
    (∃R,e=.returned (ay R)/\yX o rs m R)/\au W w'):=fun nv va vu vd t xa bL xd W h1 h2 h3 h4 h5 h6=>by
   refine(awU (af cF) hq Sb hl nv va vu vd t xa bL xd W h1 h2 h3 h4 h5 h6).mono ?_;rintro e w' ⟨rfl,hb⟩;exact⟨⟨_,rfl,af JI _ (by rw[hq];exact⟨t,xa,bL,xd,h2,rfl⟩)⟩,hb⟩
  have hnil:∀W:World,gY W (aH) []:=fun W=>.inl ⟨rfl,rfl⟩;have bU:=ag hB2;have lA:=ag (bg k1 (bg k2 k4));clear hq nz ai0 hb2 hB2 JI Y0 ll k1 k2 k3 k5 k6 k7 k4
  -- an aB2 alone
  have ry:Hid (∀rc:Int,dC o rs (bh ls) fE jK op mA=((rc,false,[],[]),[])->∀o7:Obj,o7=.cells #[.int .i64 rc,.bool false,.slice none 0 0,.slice none 0 0,.slice none 0 0] 123->aB 78 #[ay m,.agg #[ay qs,.slice na nn nc,aj (fE:Int),aj (jK:Int),.bool op,aj (EE:Int),aj (mA:Int)],.agg #[aj rc,.bool false,aH,aH,aH]] ((w2.alloc dV).alloc o7) fun e w' =>
    (∃R,e=.returned (ay R)/\yX o rs m R)/\Below ((w2.alloc dV).alloc o7).heap.size ((w2.alloc dV).alloc o7) w'):=fun rc mq o7 aB3=>by
   have:=af Nv (.slice na nn nc) (aH) (aH) (aH) false [] [] [] ((w2.alloc dV).alloc o7);rw[mq]at this;refine this ?_ ⟨rfl,rfl,rfl,fun x hx=>(by cases hx),fun x hx=>by cases hx⟩ (hnil _) (hnil _) (hnil _) (fun x hx=>by cases hx);have nY:au w2 ((w2.alloc dV).alloc o7):=(aO.alloc aA _).alloc ar _;rcases af M6 with⟨a,b⟩|⟨a,g,c',b,d,e⟩
   ·exact .inl ⟨a,b⟩
   ·exact .inr ⟨a,g,c',b,d,e.below nY⟩
  have nk:Hid (∀(o7:Obj) (W:World),Below ((w2.alloc dV).alloc o7).heap.size ((w2.alloc dV).alloc o7) W->au w W):=fun o7 W hW=>by
   have h1:=(bU.alloc bU.size dV).alloc (by have:=bU.size;simp;omega) o7;exact h1.trans (hW.mono h1.size)
  by_cases hA:op=true/\(mA:Int)≠0
  ·have mq:dC o rs (bh ls) fE jK op mA=((16,false,[],[]),[]):=by unfold dC;rw[aJ hA]
   have HC:=ag (ry 16 mq);have yL:((mA:Int) != 0)=true:=by simpa using hA.2
   have hop:=hA.1;subst hop;clear hA mq ry Nv;go_wp2_with fail;rw[<- nL];refine(HC _ rfl).mono ?_;rintro e w3 ⟨⟨R,rfl,hR⟩,hb3⟩;have cK:=ag (nk _ _ hb3);have bC:=ag hR;clear hb3 hR HC nk;go_wp2;go_ret;exact⟨⟨_,rfl,bC⟩,cK⟩
  have sD:op=false\/(op=true/\((mA:Int) != 0)=false):=by
   cases op
   ·exact .inl rfl
   ·refine .inr ⟨rfl,?_⟩;by_cases hv:(mA:Int)=0
    ·rw[hv];rfl
    ·exact absurd ⟨rfl,hv⟩ hA
  by_cases uS:((jK:Int)≠1\/zZ (fE:Int)=false)
  ·have mq:dC o rs (bh ls) fE jK op mA=((5,false,[],[]),[]):=by
    unfold dC;rw[aF hA,aJ (by rcases uS with h|h;exact .inl h;exact .inr (.inl h))]
   have HC:=ag (ry 5 mq);have awZ:((jK:Int) != 1)=true\/(((jK:Int) != 1)=false/\((fE:Int) == 0)=true)\/(((jK:Int) != 1)=false/\((fE:Int) == 0)=false/\((fE:Int) == 41)=true)\/(((jK:Int) != 1)=false/\((fE:Int) == 0)=false/\((fE:Int) == 41)=false/\(249:Int)<=(fE:Int)/\(fE:Int)<=254):=by
    by_cases h1:(jK:Int)=1
    ·right;have h1':((jK:Int) != 1)=false:=aP;have hk:=uS.resolve_left (fun h=>h h1);unfold zZ at hk;by_cases h2:(fE:Int)=0
     ·exact .inl ⟨h1',aP⟩
     ·right;have h2':((fE:Int) == 0)=false:=aP;by_cases h3:(fE:Int)=41
      ·exact .inl ⟨h1',h2',aP⟩
      ·right;have Y1:((fE:Int) == 41)=false:=aP;have h4:((fE:Int) != 0)=true:=aP;have h5:((fE:Int) != 41)=true:=aP;rw[h4,h5]at hk;simp only[Ho,JR,Hx]at hk;exact⟨h1',h2',Y1,ae,ae⟩
    ·exact .inl aP
   clear hA mq ry Nv uS;rcases sD with rfl|⟨rfl,yL⟩
   all_goals
    rcases awZ with b1|⟨b1,b2⟩|⟨b1,b2,b3⟩|⟨b1,b2,b3,b4,b5⟩
    all_goals
     go_wp2_with fail;rw[<- nL];refine(HC _ rfl).mono ?_;rintro e w3 ⟨⟨R,rfl,hR⟩,hb3⟩;have cK:=ag (nk _ _ hb3);have bC:=ag hR;clear hb3 hR HC nk;go_wp2;go_ret;exact⟨⟨_,rfl,bC⟩,cK⟩
  have hc1:(jK:Int)=1:=Cs fun h=>uS (.inl h);have hk:zZ (fE:Int)=true:=by
   cases h:zZ (fE:Int)
   ·exact absurd (.inr h) uS
   ·rfl
  have mq:dC o rs (bh ls) fE jK op mA=if bh ls = []then((5,false,[],[]),[])else(jf o rs fE (bh ls),sJ o rs fE (bh ls)):=by
   unfold dC;rw[aF hA];by_cases hn:bh ls = []
   ·rw[aJ (.inr (.inr hn)),aJ hn]
   ·rw[aF (by rintro(h|h|h);exact h hc1;rw[hk]at h;cases h;exact hn h),aF hn]
  have Fu:(((jK:Int) != 1)=false/\((fE:Int) == 0)=false/\((fE:Int) == 41)=false/\¬(249:Int)<=(fE:Int))\/(((jK:Int) != 1)=false/\((fE:Int) == 0)=false/\((fE:Int) == 41)=false/\(249:Int)<=(fE:Int)/\¬(fE:Int)<=254):=by
   unfold zZ at hk;simp only[cY,qJ,xK,tj]at hk;have g1:((jK:Int) != 1)=false:=aP;have g2:((fE:Int) == 0)=false:=aP;have g3:((fE:Int) == 41)=false:=aP;by_cases h:(249:Int)<=(fE:Int)
   ·exact .inr ⟨g1,g2,g3,h,ae⟩
   ·exact .inl ⟨g1,g2,g3,h⟩
  have Ey:Hid (∀W,au w2 W->aB 77 #[aM zb,.agg #[ay qs,.slice na nn nc,aj (fE:Int),aj (jK:Int),.bool op,aj (EE:Int),aj (mA:Int)]] W fun e w'=>Yr w' e (dC o rs (bh ls) fE jK op mA).1 (dC o rs (bh ls) fE jK op mA).2 ls/\au W w'):=fun W hW=>by
   have ij:=af pC W (bU.trans (hW.mono bU.size));rcases af M6 with⟨a,b⟩|⟨a,g,c',b,d,e⟩
   ·rw[mq,a,b];exact avU zb o qs rs fE jK op EE mA kS W (af dv) ij (af cF)
   ·have hnl:=Hh ls a;have hlen:=Eu ls;have hT:bh ls≠[]:=fun e=>by
     have h1:=lA.2.1;cases ls with
     | nil=>exact a rfl
     | cons x t =>
      rw[e,Et]at hnl;have:=(h1 x ar).1;have:x.length≠0:=fun h=>this (fp h);simp at hnl;omega
    have hne:=Ns a (fun x hx=>(lA.2.1 x hx).1);have hg:=YW (af cF) (T:=bh ls) fE 9 true false [] (bh ls) hne (by have:=lA.1;omega) (.inl rfl) (fun r hr=>by cases hr);rw[mq,aF hT,b];exact avN zb g c' o qs (bh ls) rs ls fE jK op EE mA kS W (af dv) ij (af cF) (e.below hW) d a (JH a) hne (by have:=lA.1;omega) (fun x hx=>a_ (lA.2.1 x hx).2 ae) (by have:=lA.1;omega) (fun h=>⟨hg.2.2 h,fun r hr=>by have:=(hg.2.1 r hr).2;omega⟩)
  obtain⟨dp,lC⟩:∃dp:Obj,dp=.cells #[.int .i64 0,.bool false,.slice none 0 0,.slice none 0 0,.slice none 0 0] 123:=⟨_,rfl⟩
  have hb4:au w2 ((w2.alloc dV).alloc dp):=(aO.alloc aA _).alloc ar _;have ai1:((w2.alloc dV).alloc dp).heap[w2.heap.size]? = some (.cells #[.string (aq qs),.slice na nn nc,.int .i64 fE,.int .i64 jK,.bool op,.int .i64 EE,.int .i64 mA] 144):=by
   rw[<- nL];exact(cD (w2.alloc dV) dp w2.heap.size ar).trans (World.alloc_heap_new w2 dV)
  have JD:dM ((w2.alloc dV).alloc dp) (w2.heap.size+1) 0 false (aH) (aH) (aH):=by
   have:=World.alloc_heap_new (w2.alloc dV) dp;rw[dD]at this;unfold dM;rw[this,lC]
  have ai2:=ag (Ey _ hb4);have ql:=ag ai1;have Jf:=ag JD;have gj:((w2.alloc dV).alloc dp).heap.size=w2.heap.size+2:=ar;have jb:=ag (nk dp _ aO);have aw0:Hid (∀t xa bL xd,Hg (dC o rs (bh ls) fE jK op mA) ls t xa bL xd->∀x∈xa++(bL++xd),Jv x):=fun t xa bL xd hx=>(aiY (af cF) lA.1 lA.2.1 hx).1;generalize dC o rs (bh ls) fE jK op mA=yY at *;clear hA uS mq Ey ry hb4 ai1 JD nk hc1 hk;rcases sD with rfl|⟨rfl,yL⟩
  all_goals
   rcases Fu with⟨b1,b2,b3,b4⟩|⟨b1,b2,b3,b4,b5⟩
   all_goals
    go_wp2_with fail;rw[<- nL,<- lC];refine ai2.mono ?_;rintro e w5 ⟨⟨v,t,va,vu,vd,xa,bL,xd,rfl,hR⟩,hb5⟩;obtain⟨hv,r1,r2,r3,m1,m2,m3,l1,l2,nm⟩:=hR;have tC:∀ {v:Value} {xs:List bA},gY w5 v xs->∃a n c,v=.slice a n c:=fun h=>by
     rcases h with⟨h,_⟩|⟨_,_,_,h,_⟩ <;> exact⟨_,_,_,h⟩
    obtain⟨a1,n1,aC,rfl⟩:=tC r1;obtain⟨a2,n2,c2,rfl⟩:=tC r2;obtain⟨a3,n3,c3,rfl⟩:=tC r3;have hs5:=hb5.size;have Cp:=Jf.kept (hb5.block (w2.heap.size+1) ae);have Cq:=(hb5.block w2.heap.size ae).trans (af ql);have q0:w5.cell? (ak w2.heap.size 0)=some (ay qs):=by simp[World.cell?,Cq]
    have q1:w5.cell? (ak w2.heap.size 1)=some (.slice na nn nc):=by simp[World.cell?,Cq]
    have q2:w5.cell? (ak w2.heap.size 2)=some (aj fE):=by simp[World.cell?,Cq]
    have q3:w5.cell? (ak w2.heap.size 3)=some (aj jK):=by simp[World.cell?,Cq]
    first
     | have q4:w5.cell? (ak w2.heap.size 4)=some (.bool false):=by simp[World.cell?,Cq]
     | have q4:w5.cell? (ak w2.heap.size 4)=some (.bool true):=by simp[World.cell?,Cq]
    have q5:w5.cell? (ak w2.heap.size 5)=some (aj EE):=by simp[World.cell?,Cq]
    have q6:w5.cell? (ak w2.heap.size 6)=some (aj mA):=by simp[World.cell?,Cq]
    obtain⟨z0,z1,z2,z3,z4⟩:=Cp.cells;have Lu:=Cp.frozen;have hfr:bn (fun k=>k≠w2.heap.size+1) w5 (((((w5.setCell ⟨w2.heap.size+1,0,none⟩ (.int .i64 yY.1.1)).setCell ⟨w2.heap.size+1,1,none⟩ (.bool yY.1.2.1)).setCell ⟨w2.heap.size+1,2,none⟩ (.slice a1 n1 aC)).setCell ⟨w2.heap.size+1,3,none⟩ (.slice a2 n2 c2)).setCell ⟨w2.heap.size+1,4,none⟩ (.slice a3 n3 c3)) :=
     (((((bn.jD (A:=w5) (a:=⟨w2.heap.size+1,0,none⟩) _ (fun _ h=>h)).trans (bn.jD (a:=⟨w2.heap.size+1,1,none⟩) _ (fun _ h=>h))).trans (bn.jD (a:=⟨w2.heap.size+1,2,none⟩) _ (fun _ h=>h))).trans (bn.jD (a:=⟨w2.heap.size+1,3,none⟩) _ (fun _ h=>h))).trans (bn.jD (a:=⟨w2.heap.size+1,4,none⟩) _ (fun _ h=>h)))
    have uB:Hg yY ls t xa bL xd:=⟨m1,m2,m3,l1,l2⟩
    have Y2:au w2 (((((w5.setCell ⟨w2.heap.size+1,0,none⟩ (.int .i64 yY.1.1)).setCell ⟨w2.heap.size+1,1,none⟩ (.bool yY.1.2.1)).setCell ⟨w2.heap.size+1,2,none⟩ (.slice a1 n1 aC)).setCell ⟨w2.heap.size+1,3,none⟩ (.slice a2 n2 c2)).setCell ⟨w2.heap.size+1,4,none⟩ (.slice a3 n3 c3)) :=
     ((((bR w2.heap.size w2).alloc aA dV).alloc ar dp).trans (hb5.mono ae)).trans ⟨hfr.os,hfr.tape,hfr.output,hfr.size,fun k hk=>hfr.block k ae ae⟩
    have RN:=ag (Nv (.slice na nn nc) (.slice a1 n1 aC) (.slice a2 n2 c2) (.slice a3 n3 c3) t xa bL xd _ (by
     rcases af M6 with⟨a,b⟩|⟨a,g,c',b,d,e⟩
     ·exact .inl ⟨a,b⟩
     ·exact .inr ⟨a,g,c',b,d,e.below Y2⟩) uB (YY r1 Cp hfr) (YY r2 Cp hfr) (YY r3 Cp hfr) (fun x hx=>⟨Yq (nm x hx).1 (Cy.2 (aw0 _ _ _ _ uB x hx).ne) Cp hfr,Yq (nm x hx).2 (LQ 32 _) Cp hfr⟩))
    have A9:=((((Cp.set0 yY.1.1).set1 yY.1.2.1).set2 (.slice a1 n1 aC)).iM (.slice a2 n2 c2)).lj (.slice a3 n3 c3);obtain⟨y0,y1,y2,y3,y4⟩:=A9.cells;have FK:=ag (bU.trans (Y2.mono bU.size));have aw1:=ag (bg y0 (bg y1 (bg y2 (bg y3 y4))));clear r1 r2 r3 m1 m2 m3 l1 l2 nm uB hfr Y2 Cp Cq A9 hb5 ai2 Nv tC y0 y1 y2 y3 y4;subst hv;go_wp2_with fail;refine RN.mono ?_;rintro e w6 ⟨⟨R,rfl,hR⟩,dR⟩;have hP:=ag (FK.trans (dR.mono FK.size));have bC:=ag hR;clear dR hR RN FK aw1;go_wp2;go_ret;exact⟨⟨_,rfl,bC⟩,hP⟩
end Go.Proofs.YtkkpahmoljiepaaGreatDoor
