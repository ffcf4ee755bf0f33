import Derived.Test.YtkkpahmoljiepaaGreatDoorJ30
import Derived.Test.YtkkpahmoljiepaaGreatDoorJ31
import Derived.Test.YtkkpahmoljiepaaGreatDoorJ32
set_option maxRecDepth 1000000
set_option maxHeartbeats 12800000
set_option linter.unusedSimpArgs false
set_option linter.unusedVariables false
namespace Go.Proofs.YtkkpahmoljiepaaGreatDoor
open Go.RowKit
theorem aaP:∀ {f:Nat} {s:ai} {acc ls:List ai} {t:ai},nw f s acc=some (ls,t)->nv ls+t.length+1=nv acc+s.length/\((∀x∈acc,x≠[]/\x.length<=63)->∀x∈ls,x≠[]/\x.length<=63)
 | 0,_,_,_,_,h=>by cases h
 | f+1,[],_,_,_,h=>by cases h
 | f+1,c :: s,acc,ls,t,h=>by
  unfold nw at h;split at h;{have:=gT h;obtain⟨rfl,rfl⟩:=gK this;exact⟨by rw[cU];omega,fun h=>h⟩};{
  rename_i hc;split at h;{cases h};{
  rename_i hl;have FI:c.toNat≠0:=fun h=>hc (IZ h);obtain⟨h1,h2⟩:=aaP h;have h3:nv (acc++[s.take c.toNat])=nv acc+(c.toNat+1):=by{have hcl:c.toNat<=s.length:=ae;unfold nv;rw[n_,List.sum_append];show _+((s.take c.toNat).length+1+0)=_;rw[jU,uY hcl]};rw[h3,iW]at h1;refine⟨by rw[cU];omega,fun ha=>h2 fun x hx=>?_⟩;rcases kP.1 hx with hx|hx;{exact ha x hx};{
  obtain rfl:x=s.take c.toNat:=by simpa using hx
  refine⟨fun e=>?_,by rw[jU];omega⟩;have:=ek List.length e;rw[jU,uY ae]at this;exact FI this}}}
theorem Rp{m q:ai}{ls:List ai}{ty cl:Nat}{op:Bool}{sz bN:Nat}(h:ny m=some (q,ls,ty,cl,op,sz,bN)):nv ls<=254/\(∀x∈ls,x≠[]/\x.length<=63)/\q.length<=259/\ty<65536/\cl<65536/\sz<65536/\bN<256/\q=q:=by
 have hat:∀(s:ai) (i:Nat),bO s i<65536:=fun s i=>by{have h1:=jX (s.getD i 0);have h2:=jX (s.getD (i+1) 0);unfold bO;omega};unfold ny at h;split at h;{cases h};{
 cases hL:nw (m.length+1) (m.drop 12) []with
 | none=>rw[hL]at h;cases h
 | some x =>{obtain⟨ls',t⟩:=x;rw[hL]at h;obtain⟨k1,k2⟩:=aaP hL;have k3:nv ([]:List ai)=0:=rfl;rw[k3,iW]at k1;simp only at h;split at h;{cases h};{rename_i hc;split at h;{split at h;{have:=gT h;simp only[Ae]at this;obtain⟨rfl,rfl,rfl,rfl,rfl,rfl,rfl⟩:=this;exact⟨ae,k2 (fun x hx=>by cases hx),by rw[jU,iW];omega,hat _ _,hat _ _,ae,ae,rfl⟩};{cases h}};{split at h;{cases h};{have:=gT h;simp only[Ae]at this;obtain⟨rfl,rfl,rfl,rfl,rfl,rfl,rfl⟩:=this;exact⟨ae,k2 (fun x hx=>by cases hx),by rw[jU,iW];omega,hat _ _,hat _ _,hat _ _,jX _,rfl⟩}}}}}
theorem aaQ(x y:ai)(t:List ai):Lib.join (x :: y :: t) [46]=x++46 :: Lib.join (y :: t) [46]:=by rw[Lib.join_cons,Lib.join_cons];simp[Lib.joinTail]
theorem aaR:∀(l:List ai),Lib.join l [46]=mJ 46 l
 | []=>rfl
 | [x]=>by rw[Lib.join_one];rfl
 | x :: y :: t=>by rw[aaQ,aaR (y :: t)];rfl
theorem amZ{ls:List ai}(h:ls≠[]):dL (cJ ls)=pG ls:=by have hsp:aS 46 (cJ ls)=ls.map lQ:=by{unfold cJ;rw[aaR,aaO 46 _ (by simpa using h) (fun x hx=>?_)];obtain⟨y,_,rfl⟩:=oh.1 hx;unfold lQ;intro hc;obtain⟨c,_,hcc⟩:=oh.1 hc;unfold iY at hcc;split at hcc;{have:=ek UInt8.toNat hcc;rw[rQ]at this;have arY:(46:UInt8).toNat=46:=rfl;omega};{split at hcc;{cases hcc};{rename_i h1 h2;exact h2 (by rw[hcc];rfl)}}};unfold dL;rw[hsp,pK];unfold pG;refine rP fun x _=>?_;show(lQ x).map wE=x.map qA;unfold lQ;rw[pK];refine rP fun c _=>?_;show wE (iY c)=qA c;unfold iY qA;by_cases h1:65<=c.toNat/\c.toNat<=90;{rw[aP h1,aP h1];unfold wE;rw[aG];intro e;have:=ek UInt8.toNat e;rw[rQ]at this;have LB:(80:UInt8).toNat=80:=rfl;omega};{rw[aG h1,aG h1];by_cases h2:c.toNat=46;{rw[aP h2];exact(IZ (show c.toNat=(46:UInt8).toNat from h2)).symm ▸ rfl};{rw[aG h2];unfold wE;rw[aG];intro e;exact h1 (by rw[e];decide)}}
theorem Ib:∀(ls:List ai),ls≠[]->(cJ ls).length+1=nv ls
 | [x],_=>by have:cJ [x]=lQ x:=Lib.join_one _ _;rw[this,Nz];simp[nv]
 | x :: y :: t,_=>by have ih:=Ib (y :: t) ak;have e:cJ (x :: y :: t)=lQ x++46 :: cJ (y :: t):=aaQ _ _ _;rw[e,LY,<- ih,bU,cU,Nz];omega
theorem L0{ls:List ai}(h:ls≠[])(hn:∀x∈ls,x≠[]):fk (cJ ls):=fun x hx=>by
 have h1:=HR (cJ ls);rw[amZ h]at h1;rw[<- h1]at hx;obtain⟨y,hy,rfl⟩:=oh.1 hx;obtain⟨z,hz,rfl⟩:=oh.1 hy;intro e;exact hn z hz (by simpa using e)
theorem Rq{o:ai}{rs:List aj}(hz:l7 o rs){ls:List ai}(hl:nv ls<=254)(hn:∀x∈ls,x≠[])(ty cl:Int)(op:Bool)(bN:Int) :
  (∃k:Nat,k<=16/\(fU o rs (cJ ls) ty cl op bN).1.1=(k:Int))/\(∀r∈(fU o rs (cJ ls) ty cl op bN).1.2.2.1++((fU o rs (cJ ls) ty cl op bN).1.2.2.2++(fU o rs (cJ ls) ty cl op bN).2),lJ (cJ ls) r/\ls≠[]) /\
  (fU o rs (cJ ls) ty cl op bN).1.2.2.1.length<=100/\(fU o rs (cJ ls) ty cl op bN).1.2.2.2.length<=100/\(fU o rs (cJ ls) ty cl op bN).2.length<=100:=by
 unfold fU;split;{exact⟨⟨16,ae,rfl⟩,fun r hr=>(by cases hr),ak,ak,ak⟩};{
 split;{exact⟨⟨5,ae,rfl⟩,fun r hr=>(by cases hr),ak,ak,ak⟩};{
 rename_i h;have hT:cJ ls≠[]:=fun e=>h (.inr (.inr e));have jR:ls≠[]:=fun e=>by subst e;exact hT rfl
 have L6:=L0 jR hn;have Jk:=Ib ls jR;have g1:=aaJ hz (T:=cJ ls) ty 9 true false [] (cJ ls) L6 ae (.inl rfl) (fun r hr=>by cases hr);have g2:=aaM (o:=o) (rs:=rs) ty 9 true false [] (cJ ls);have g3:=LL hz ty 9 true false [] (cJ ls) L6 ae (fun r hr=>by cases hr) (dY _);have g4:=aaN hz (T:=cJ ls) (l9 o rs ty (cJ ls)).2.2.1 ((l9 o rs ty (cJ ls)).2.2.1++(l9 o rs ty (cJ ls)).2.2.2) ([],[]) (fun r hr=>by cases hr);have g5:=Ro (rs:=rs) (l9 o rs ty (cJ ls)).2.2.1 ((l9 o rs ty (cJ ls)).2.2.1++(l9 o rs ty (cJ ls)).2.2.2) ([],[]) ak;have g6:=EK hz;refine⟨g2,fun r hr=>⟨?_,jR⟩,a_ g3.2.2.1 ae,a_ g3.2.2.2 ae,a_ g5 ae⟩;rcases kP.1 hr with hr|hr;{exact g1.1 r hr};{rcases kP.1 hr with hr|hr;{exact(g1.2.1 r hr).1};{exact g4 r hr}}}}
theorem aaS(l s:ai):Lib.hasSuffix l s=true ↔ ∃p,l=p++s:=by unfold Lib.hasSuffix;rw[Sv];exact⟨fun⟨p,h⟩=>⟨p,h.symm⟩,fun⟨p,h⟩=>⟨p,h.symm⟩⟩
theorem am0(t:ai):ku (t++[10])=Fu (aS 10 t):=by have h:Lib.hasSuffix (t++[10]) [10]=true:=(aaS _ _).2 ⟨t,rfl⟩;unfold ku Lib.trimSuffix;rw[aP h,aP h];congr 2;simp
theorem aaT{s:ai}(h:∀t,s≠t++[10]):ku s=none:=by unfold ku;rw[aG];intro hc;obtain⟨p,hp⟩:=(aaS _ _).1 hc;exact h p hp
theorem aaU:∀(ls:List ai) (rs:List aj),mj ls=some rs->rs.length=ls.length
 | [],rs,h=>by have : []=rs:=gT h;rw[<- this];rfl
 | a :: ls,rs,h=>by
  have h':(oP a).bind (fun r=>(mj ls).map (r :: ·))=some rs:=h;cases hr:oP a with
  | none=>rw[hr]at h';cases h'
  | some r =>{
  cases hl:mj ls with
  | none=>rw[hr,hl]at h';cases h'
  | some rs' =>{rw[hr,hl]at h';have:r :: rs'=rs:=gT h';rw[<- this,cU,aaU ls rs' hl];rfl}}
theorem am1{l:ai}{r:aj}(hl:l.length<=3000)(h:oP l=some r):H2 r:=by
 unfold oP at h;split at h;{
 rename_i a b c d hs;split at h;{
 rename_i hc;simp only[fo]at hc;obtain rfl:=(gT h).symm;have hm:d∈Lib.splitN l [32] 4:=by rw[hs];simp
 have hb:=hc.1.2;refine⟨hc.1.1,(ZH hb).2.2,hc.2,?_⟩;have:=MU 32 _ l d hm;exact a_ this hl};{cases h}};{cases h}
theorem aaV:∀(ls:List ai) (rs:List aj),(∀l∈ls,l.length<=3000)->mj ls=some rs->∀r∈rs,H2 r
 | [],rs,_,h=>by have : []=rs:=gT h;rw[<- this];intro r hr;cases hr
 | a :: ls,rs,hl,h=>by
  have h':(oP a).bind (fun r=>(mj ls).map (r :: ·))=some rs:=h;cases hr:oP a with
  | none=>rw[hr]at h';cases h'
  | some r =>{
  cases hx:mj ls with
  | none=>rw[hr,hx]at h';cases h'
  | some rs' =>{rw[hr,hx]at h';have:r :: rs'=rs:=gT h';rw[<- this];intro y hy;rcases eK.1 hy with rfl|hy;{exact am1 (hl a ak) hr};{exact aaV ls rs' (fun l hl'=>hl l (nB _ hl')) hx y hy}}}
end Go.Proofs.YtkkpahmoljiepaaGreatDoor
