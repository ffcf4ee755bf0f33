import Derived.Test.YtkkpahmoljiepaaGreatDoorJ18
set_option maxRecDepth 1000000
set_option maxHeartbeats 12800000
set_option linter.unusedSimpArgs false
set_option linter.unusedVariables false
namespace Go.Proofs.YtkkpahmoljiepaaGreatDoor
open Go.RowKit Go.Proofs.Tryz
def cE(rs:List aj)(c:ah)(b:Int):List aj:=rs.filter fun a=>a.owner==c&&a.type==b
def cz(rs:List aj)(a:ah)(b:Int):List aj:=if b=255 then(List.range 17).flatMap fun c:Nat=>cE rs a (c:Int)else cE rs a b
def jj(rs:List aj):Prop:=∀a∈rs,1<=a.type/\a.type<=16/\(80:UInt8) ∉ a.owner
theorem JT{α:Type}(e:α->α->Bool)(o:oP e)(b:α->Bool)(x:α):∀(c:List α),gD e c->(∀a∈c,b a=true->b x=true->e x a=false)->(bA e c [x]).filter b=c.filter b++[x].filter b
 | [],_,_=>by simp
 | a::c,t,h=>by rw[wT];have n:=lO.1 t;split;{rename_i l;rw[wS];by_cases d:b x=true;{have q:(a::c).filter b=[]:=by{rw[i2];intro j i r;have k:=h j i r d;rcases co.1 i with rfl|u;{rw[l]at k;cases k};{have:=o.nt _ _ _ k (n.1 j u);rw[l]at this;cases this}};rw[i1 d,q];simp[d]};{rw[kh (by simpa using d)];simp[d]}};{have p:=JT e o b x c n.2 (fun j i=>h j (fs _ i));by_cases g:b a=true;{rw[i1 g,p,i1 g];rfl};{rw[kh (a:=a) (by simpa using g),p,kh (a:=a) (by simpa using g)]}}
theorem UY{α:Type}(b:α->α->Bool)(g:oP b)(o:∀x,b x x=false)(c:α->Bool)(h:∀a x,c a=true->c x=true->b x a=false)(l:List α):(ez b l).filter c=l.filter c:=by
 have p:∀(d:Nat) (l:List α),l.length=d->(ez b l).filter c=l.filter c:=by{
 intro d;induction d with
 | zero=>intro l e;obtain rfl:l=[]:=df e;rfl
 | succ d n =>{
 intro l e;have k:l≠[]:=by rintro rfl;simp at e
 have j:=zx k;have i:l.dropLast.length=d:=aA;rw[<- j,pI,JT b g c _ _ (tL b g o _) (fun a _=>h a _),n _ i,kP]}};exact p l.length l rfl
theorem AO(rs:List aj)(e:ah)(d:Int):cE (aS rs) e d=cE rs e d:=by unfold cE;rw[wC];refine UY bF l9 rB _ (fun a x b c=>?_) rs;simp only[bW,dE]at b c;rw[<- iU];intro g;rcases(p1 x a).1 g with h|⟨_,h⟩;{rw[b.1,c.1,wB]at h;cases h};{rw[b.2,c.2]at h;omega}
theorem AP{b:List aj}(d:ah)(c:Int):(b.filter fun a=>a.owner==d).filter (fun a=>a.type==c)=cE b d c:=by unfold cE;rw[List.filter_filter];congr 1;funext a;rw[Bool.and_comm]
theorem UZ{a:List aj}(h:gD bF a)(b:aj->Bool):gD bF (a.filter b):=sR b h
section
variable {F:List aj} (hF:gD bF F) (hn : ∀ a∈F,∀ b∈F,a.owner=b.owner)
include hF
theorem xw{x:Nat×List aj}(d:x∈be bH F):(∀a∈x.2,a.type=gu x)/\x.2≠[]/\(∀a∈x.2,a∈F):=by
 obtain⟨a,j,b,e⟩:=(p5 hF).1 x d;have h:gu x=a.type:=by{
 unfold gu;cases d:x.2 with
 | nil=>rw[d]at b;cases b
 | cons i k =>{
 rw[d]at b;have:i=a:=by simpa using b
 rw[<- this];rfl}};refine⟨fun s c=>?_,?_,fun s c=>?_⟩;{rw[e]at c;have:=(ev ((mB a s).1 (dg.1 c).2)).2;rw[h,this]};{intro g;rw[g]at b;cases b};{rw[e]at c;exact(dg.1 c).1}
theorem xy(b:Int):fC b F=if b=255 then F else F.filter (fun a=>a.type==b):=by
 have e:=s9 bH F.length 0 F av;unfold fC g0;split;{rename_i h;rw[nP.2 (fun x _=>by unfold fB;simp[h])];exact e};{
 rename_i h;have n:∀(l:List (Nat×List aj)),(∀x∈l,∀a∈x.2,a.type=gu x)->(l.filter (fB b)).flatMap (·.2)=(l.flatMap (·.2)).filter (fun a=>a.type==b):=by{
 intro l;induction l with
 | nil=>intro _;rfl
 | cons x l k =>{
 intro g;have j:=k (fun o i=>g o (fs _ i));have c:=g x am;rw[eT,kP,<- j];by_cases ht:fB b x=true;{rw[i1 ht,eT];congr 1;symm;rw[nP];intro a d;unfold fB at ht;rw[c a d];simp[h]at ht;simp[ht]};{
 rw[kh yl];have:x.2.filter (fun a=>a.type==b)=[]:=by{
 rw[i2];intro a d hc;refine ht ?_;unfold fB;rw[c a d]at hc;have:gu x=b:=sy
 simp[this]};rw[this];rfl}}};rw[n _ (fun x c=>(xw hF c).1)];exact bP _ e}
theorem U0(a:Int):jH a F = !(fC a F).isEmpty:=by
 unfold jH fC g0;have h:∀(l:List (Nat×List aj)),(∀x∈l,x.2≠[])->l.any (fB a) = !((l.filter (fB a)).flatMap (·.2)).isEmpty:=by{
 intro l;induction l with
 | nil=>intro _;rfl
 | cons x l g =>{
 intro c;rw[List.any_cons];by_cases ht:fB a x=true;{
 rw[i1 ht,eT,ht];have:=c x am;cases b:x.2 with
 | nil=>exact absurd b this
 | cons d s=>rfl};{
 rw[kh yl,g (fun d e=>c d (fs _ e))];have:fB a x=false:=yl
 rw[this,mF]}}};exact h _ (fun x b=>(xw hF b).2.1)
include hn in
theorem Jw(b:Int):gU F b=F.filter (fun r=>r.type==b):=by
 unfold gU;cases c:(be bH F).find? (fun x=>gu x==b)with
 | some x =>{
 have g:=th c;have i:gu x=b:=by simpa using zB c
 obtain⟨r,hr,o,e⟩:=(p5 hF).1 x g;have d:r∈x.2:=Cg
 have a:=(xw hF g).1 r d;show x.2=_;rw[e];refine List.filter_congr (fun n l=>?_);rw[i0,mB,dE,rn];refine⟨fun h=>by rw[<- h.2,a,i],fun h=>⟨hn r hr n l,by rw[a,i,h]⟩⟩}
 | none =>{
 show []=_;symm;rw[i2];intro r hr k;obtain⟨x,j,e⟩:=(p5 hF).2 r hr;have d:r∈x.2:=Cg
 have a:=(xw hF j).1 r d;have:=zA.1 c x j;rw[<- a]at this;exact this k}
include hn in
theorem U2(m:Nat):F.filter (fun c=>decide (c.type<(m:Int)))++F.filter (fun c=>c.type==(m:Int))=F.filter (fun c=>decide (c.type<((m+1:Nat):Int))):=by
 have l:∀(F:List aj),gD bF F->(∀a∈F,∀b∈F,a.owner=b.owner)->F.filter (fun c=>decide (c.type<(m:Int)))++F.filter (fun c=>c.type==(m:Int))=F.filter (fun c=>decide (c.type<((m+1:Nat):Int))):=by{
 intro F;induction F with
 | nil=>intro _ _;rfl
 | cons a F k =>{
 intro hF hn;have h:=lO.1 hF;have g:=k h.2 (fun x j d e=>hn x (fs _ j) d (fs _ e));by_cases h1:a.type<(m:Int);{rw[i1 qq,kh aA,i1 aA,dF,g]};{
 rw[kh qq];have i:F.filter (fun c=>decide (c.type<(m:Int)))=[]:=by{
 rw[i2];intro d e hc;have n:d.type<(m:Int):=sy
 have:=(wE (h.1 d e)).2 (hn d (fs _ e) a am);omega};rw[i]at g ⊢;by_cases h2:a.type=(m:Int);{rw[i1 sA,i1 aA,dJ,<- g,dJ]};{rw[kh sA,kh aA,g]}}}};exact l F hF hn
include hn in
theorem U3(m:Nat)(b:∀a∈F,0<=a.type):(List.range m).flatMap (fun e:Nat=>F.filter (fun a=>a.type==(e:Int)))=F.filter (fun a=>decide (a.type<(m:Int))):=by
 induction m with
 | zero =>{
 symm;show _=[];rw[i2];intro a c hc;have:=b a c;have:a.type<((0:Nat):Int):=sy
 omega}
 | succ m d =>{rw[ti,jt,d,<- U2 hF hn m];simp}
end
theorem oV(rs:List aj)(a:ah):cM (aS rs) a=(aS rs).filter (fun b=>b.owner==a):=J3 (p4 rs) a
theorem t_(rs:List aj)(h:ah):∀a∈cM (aS rs) h,∀b∈cM (aS rs) h,a.owner=b.owner:=fun a e b g=>by
 rw[oV]at e g;have c:=(dg.1 e).2;have d:=(dg.1 g).2;simp only[dE]at c d;rw[c,d]
theorem p7(rs:List aj)(a:ah):gD bF (cM (aS rs) a):=by rw[oV];exact UZ (p4 rs) _
theorem rF(rs:List aj)(a:ah)(b:Int):gU (cM (aS rs) a) b=cE rs a b:=by rw[Jw (p7 rs a) (t_ rs a),oV,AP,AO]
theorem ua{rs:List aj}{b:ah}{a:aj}(h:a∈cM (aS rs) b):a∈rs/\a.owner=b:=by rw[oV]at h;have:=dg.1 h;exact⟨(l_ rs).mem_iff.1 this.1,by simpa using this.2⟩
theorem AQ(rs:List aj)(a:ah)(e:Int)(d:jj rs):fC e (cM (aS rs) a)=cz rs a e:=by rw[xy (p7 rs a)];unfold cz;split;{have:=U3 (p7 rs a) (t_ rs a) 17 (fun c b=>by have:=(d c (ua b).1).1;omega);rw[nP.2 (fun c b=>by have:=(d c (ua b).1).2;simp;omega)]at this;rw[<- this];congr 1;funext k;rw[oV,AP,AO]};{rw[oV,AP,AO]}
theorem Jx{F:List aj}(h:gD bF F)(hn:∀a∈F,∀b∈F,a.owner=b.owner)(m:ah):gD bF (F.map (cI m)):=by unfold gD;rw[List.pairwise_map];refine List.Pairwise.imp_of_mem (fun {a b} d g e=>?_) h;rw[<- iU];intro i;rcases(p1 _ _).1 i with c|⟨_,c⟩;{rw[show(cI m b).owner=m from rfl,show(cI m a).owner=m from rfl,wB]at c;cases c};{exact(wE e).2 (hn b g a d) c}
theorem Uq{F:List aj}(h:gD bF F)(hn:∀a∈F,∀b∈F,a.owner=b.owner)(m:ah)(c:Int):fC c (F.map (cI m))=(fC c F).map (cI m):=by rw[xy (Jx h hn m),xy h];split;{rfl};{rw[List.filter_map];rfl}
theorem AS(rs:List aj)(a m:ah)(b:Int)(c:jj rs):fC b ((cM (aS rs) a).map (cI m))=(cz rs a b).map (cI m):=by rw[Uq (p7 rs a) (t_ rs a),AQ rs a b c]
theorem Ur(rs:List aj)(b:ah)(c:Int)(g:jj rs):(fU rs (aY b) c rs.length).map (fun e=>rs[e]?.getD aj.zero)=cE rs b c:=by
 have k:∀a,a<=rs.length->(fU rs (aY b) c a).map (fun e=>rs[e]?.getD aj.zero)=cE (rs.take a) b c:=by{
 intro a;induction a with
 | zero=>intro _;rfl
 | succ a j =>{intro ao;rw[JO,d0,j ae,du ae];unfold cE;rw[kP];congr 1;have i:p6 rs (aY b) c a=(rs[a].owner==b&&rs[a].type==c):=by{unfold p6;rw[dV ae];show(decide (aC 46 rs[a].owner=aY b)&&_)=_;congr 1;rw[i0,qL,dE];exact bh (g _ (bM _)).2.2};rw[i];by_cases h:(rs[a].owner==b&&rs[a].type==c)=true;{rw[ay h,i1 (p:=fun d:aj=>d.owner==b&&d.type==c) h];simp[dV (show a<rs.length by omega)]};{rw[ar h,kh (p:=fun d:aj=>d.owner==b&&d.type==c) h];rfl}}};have:=k rs.length av;rw[dK]at this;exact this
theorem Jy{rs:List aj}(d:jj rs)(g:ah){a:Int}(h:a<1\/16<a):cE rs g a=[]:=by
 unfold cE;rw[i2];intro c e b;have:=d c e;have:c.type=a:=by simp at b;exact b.2
 omega
theorem Us(rs:List aj)(b:ah)(a:Int)(d:jj rs):(gd rs (aY b) a 17).map (fun j=>rs[j]?.getD aj.zero)=cz rs b a:=by
 have l:∀m,(gd rs (aY b) a m).map (fun j=>rs[j]?.getD aj.zero)=(List.range m).flatMap fun c:Nat=>if a≠255/\a≠(c:Int)then []else cE rs b (c:Int):=by{
 intro m;induction m with
 | zero=>rfl
 | succ m i =>{rw[gd,d0,i,ti,jt];congr 1;simp only[eT,rj,eu];split;{rfl};{split;{rename_i h;subst h;rw[Jy d b (.inl ae)];rfl};{exact Ur rs b m d}}}}
 rw[l];unfold cz;split;{rename_i h;simp[h]};{
 rename_i h;have k:∀m:Nat,((List.range m).flatMap fun c:Nat=>if a≠255/\a≠(c:Int)then []else cE rs b (c:Int))=if 0<=a/\a<(m:Int)then cE rs b a else []:=by{
 intro m;induction m with
 | zero=>rw[ar ae];rfl
 | succ m i =>{rw[ti,jt,i];simp only[eT,rj,eu];by_cases e:a=(m:Int);{rw[ar ae,ar (by simp[e]),ay ae,<- e];rfl};{rw[ay (show a≠255/\a≠(m:Int)from⟨h,e⟩),eu];by_cases g:0<=a/\a<(m:Int);{rw[ay g,ay ae]};{rw[ar g,ar ae]}}}}
 rw[k];split;{rfl};{rename_i g;exact(Jy d b ae).symm}}
theorem Ut(rs:List aj)(m:ah)(a:List Nat):a.map (xp rs m)=(a.map (fun b=>rs[b]?.getD aj.zero)).map (cI m):=by rw[fT];rfl
theorem Uu(rs:List aj)(a m:ah)(b:Int)(c:jj rs):(gd rs (aY a) b 17).map (xp rs m)=(cz rs a b).map (cI m):=by rw[Ut,Us rs a b c]
theorem Jz(rs:List aj)(a:ah)(c:Int):(cz rs a c).map (cI a)=cz rs a c:=by
 have d:∀b,(cE rs a b).map (cI a)=cE rs a b:=fun b=>by{
 conv=>rhs;rw[<- pw (cE rs a b)]
 refine hN (fun g e=>?_);have:=(dg.1 e).2;simp only[bW,dE]at this;unfold cI;rw[<- this.1];rfl};unfold cz;split;{rw[List.map_flatMap];congr 1;funext b;exact d b};{exact d c}
theorem A4(rs:List aj)(g:ah)(i:Int)(c:jj rs):eE rs (aY g) i = !(cz rs g i).isEmpty:=by
 rw[i0];have k:∀(l:List aj),(!l.isEmpty)=true ↔ ∃a,a∈l:=fun l=>by cases l<;>simp
 rw[k];unfold eE cz cE;rw[hM];constructor;{rintro⟨a,b,h⟩;rw[bW,qL,lN]at h;have e:=(bh (c a b).2.2).1 h.1;refine⟨a,?_⟩;split;{rw[nu];have:=c a b;refine⟨a.type.toNat,aA,dg.2 ⟨b,?_⟩⟩;rw[Int.toNat_of_nonneg ae];simp[e]};{rename_i d;refine dg.2 ⟨b,?_⟩;rcases h.2 with h2|h2;{exact absurd sA d};{simp[e];simpa using h2}}};{rintro⟨a,b⟩;split at b;{rename_i d;obtain⟨n,_,j⟩:=nu.1 b;have:=dg.1 j;simp only[bW,dE]at this;exact⟨a,this.1,by simp[d,(bh (c a this.1).2.2).2 this.2.1]⟩};{have:=dg.1 b;simp only[bW,dE]at this;exact⟨a,this.1,by simp[(bh (c a this.1).2.2).2 this.2.1,this.2.2]⟩}}
def rG(o:ah)(rs:List aj)(a:List ah)(e g d:Nat)(v:Value):Prop :=
 (v=aJ/\∀c,c+(aC 46 o).length<a.length->eE rs (a.drop c) 2=false) \/
 ∃b,b+(aC 46 o).length<a.length/\eE rs (a.drop b) 2=true/\(∀c,b<c->c+(aC 46 o).length<a.length->eE rs (a.drop c) 2=false)/\v=aF e (g+b) (a.length-b) (d-b)
theorem Uv(u:Nat)(o:ah)(rs:List aj)(g j e:Nat)(c:List ah)(w:World)(hz:nC w u o rs)(E:nb o rs)(y:gJ w g j c)(R:c.length<=e)(hn:c.length<=1000)(ad:(aC 46 o).length<=c.length):az 236 #[aO u,aF g j c.length e] w fun C w'=>(∃v,C=.returned v/\rG o rs c g j e v)/\ax w w':=by
 have F:=af y;have K:=af hz;obtain⟨ar,b,an,Z,z0,U,av,V⟩:=hz;have ai:=(bn.1 z0).1;have ap:=af z0;have al:=y.1;have H:=af E;obtain⟨G,Q,P,rfl,ao,I⟩:=U;have am:=oS o;have Y:w.cell? (aq u 0)=some (aF G Q (aC 46 o).length P):=by{exact BD};have J:Hid (∀v,rG o rs c g j e v ↔ rG o rs c g j e v):=fun _=>sY;have S:Hid (∀v,v=Value.slice none 0 0->(∀d,d+(aC 46 o).length<c.length->eE rs (c.drop d) 2=false)->rG o rs c g j e v):=fun v k i=>.inl ⟨k,i⟩;have T:Hid (∀a,a+(aC 46 o).length<c.length->eE rs (c.drop a) 2=true->(∀d,a<d->d+(aC 46 o).length<c.length->eE rs (c.drop d) 2=false)->rG o rs c g j e (aF g (j+a) (c.length-a) (e-a))):=fun a k i M=>.inr ⟨a,k,i,M,rfl⟩;generalize N:(aC 46 o).length=q at *;clear z0 V y E I N J;go_enter func236,ntmps236;go_wp2_with fail;go_loopw [5] (fun a wr=>∃p:Nat,p+q<=c.length/\a=ak ((p:Int)-1)/\(∀d,p<=d->d+q<c.length->eE rs (c.drop d) 2=false)/\ax w wr) (fun a _=>(intOf a+1).toNat);case atStart=>exact⟨c.length-q,ae,by congr 1;omega,fun d k i=>ae,bk _ _⟩
 case round =>(
 obtain⟨p,ac,rfl,r,n⟩:=hrel;have A:=af r;have x:=af n;cases p with
 | zero =>{have aa:¬(0:Int)<=(((0:Nat):Int)-1):=ae;have l:=af (S _ rfl fun d O=>r d (b6 _) O);clear r n;go_wp2;go_ret;exact⟨⟨_,rfl,l⟩,x⟩}
 | succ a =>{have L:(((a+1:Nat):Int)-1)=(a:Int):=ae;rw[L];have ab:(0:Int)<=(a:Int):=ae;have W:a<=c.length:=ae;have X:¬e=a:=ae;have z:=af (wH u o rs _ (c.drop a) 2 wr (K.below n) (ag H) (wM (F.below n) R a W) o2);clear r n;go_wp2_with fail;refine z.mono ?_;rintro C au ⟨rfl,D⟩;have B:=af (x.trans (D.mono x.size));clear D z;cases t:eE rs (c.drop a) 2;{have l:Hid (∀d,a<=d->d+q<c.length->eE rs (c.drop d) 2=false):=fun d k i=>by{rcases zO a d with h|h;{exact A d h i};{have:d=a:=ae;rw[this];exact t}};clear t;go_wp2;exact⟨⟨a,ae,bq,l,B⟩,by simp[intOf]⟩};{have l:=af (T a ae t fun d k i=>ag A d k i);clear t;go_wp2;go_ret;exact⟨⟨_,rfl,l⟩,B⟩}})
def jL(rs:List aj)(a:List ah):Bool:=rs.any fun b=>gq (aC 46 b.owner) a
theorem Bw(j:Nat)(o:ah)(rs:List aj)(q:Value)(a:List ah)(w:World)(hz:nC w j o rs)(n:nb o rs)(y:eY w q a)(hn:a.length<=1000)(G:0<a.length):az 143 #[aO j,q] w (aP (.bool (jL rs a)) w):=by
 have A:=af y;have S:=af hz;obtain⟨W,b,K,F,r,Q,Y,z⟩:=hz;have I:=(bn.1 r).1;have C:=af z;have O:=af r;have V:=n.2.1;have B:=af n;clear r Q z y n;go_enter func143,ntmps143;go_wp2_with fail;go_loopw [5] (fun p wr=>∃k:Nat,k<=rs.length/\p=ak k/\(rs.take k).any (fun d=>gq (aC 46 d.owner) a)=false/\ax w wr) (fun p _=>rs.length-(intOf p).toNat);case atStart=>exact Cu
 case round =>(obtain⟨k,U,rfl,g,c⟩:=hrel;have N:=af g;have l:=af c;have Z:wr.cell? (aq j 1)=some (aF b K rs.length F):=by{have:=(c.block j I).trans O;unfold World.cell?; rw[this];rfl};by_cases e:k<rs.length;{have H:(k:Int)<(rs.length:Int):=ae;obtain⟨M,rw',R,ap,D,E,aK,b9,cm⟩:=((ag C) k e).below c;have x:=B.2.2 rs[k] (bM e);have J:=af (JE (fun d=>gq (aC 46 d.owner) a) rs k e g);have P:Hid (gq (aC 46 rs[k].owner) a=true->jL rs a=true):=fun h=>hM.2 ⟨rs[k],bM e,h⟩;have t:=af (wN M q (aC 46 rs[k].owner) a wr b9 (A.below c) (iz x) hn G);generalize rs[k]=d at *;clear ap D E aK b9 cm g c x;go_wp2_with fail;refine t.mono ?_;rintro T X ⟨rfl,u⟩;have bN:=af (l.trans (u.mono l.size));clear u t;cases i:gq (aC 46 d.owner) a;{have bz:=af (ag J i);clear i;go_wp2;exact BQ};{have bz:=af (P i);clear i;go_wp2;go_ret;exact⟨cd bz.symm,bN⟩}};{have H:¬(k:Int)<(rs.length:Int):=ae;have L:k=rs.length:=ae;have bz:Hid (jL rs a=false):=by{have:=ag N;rw[L,dK]at this;exact this};clear g c;go_wp2;go_ret;exact⟨cd bz.symm,l⟩})
theorem rH:prog.underlying 113=some (.slice 9):=aB
theorem Uw:(prog.info? 9).map (fun a=>(a.zero,a.size,a.bytes))=some (some (.string ⟨#[]⟩),1,16):=aB
def jN(rs:List aj)(a:List ah)(i:Nat):Nat->Option (List ah)
 | 0=>none
 | f+1=>if jL rs (a.drop i)then(if eE rs ([42]::a.drop i) 255 then some ([42]::a.drop i)else none)else jN rs a (i+1) f
def iW(rs:List aj)(a:List ah):Option (List ah):=if jL rs a then some a else jN rs a 1 (a.length-1)
def Ux(w':World)(v:Value):Option (List ah)->Prop
 | none=>v=aJ
 | some l=>eY w' v l
theorem Uy(a:World)(base:Nat)(v:Value)(b:TypeId)(c:base<=a.heap.size):(a.alloc (.cells #[v] b)).ownsRow base b 1 (aF a.heap.size 0 1 1) 1 [v] :=
 ⟨rfl,.inr ⟨a.heap.size,1,#[v],rfl,c,World.alloc_heap_new a _,bb _,by unfold maxLen;omega,rfl,rfl⟩⟩
theorem Uz{i:World}{c e:Nat}{k:List ah}(o:Obj)(h:gJ i c e k)(b:Nat):∀(a:Nat) (g:Value),((k.drop b).map fun l=>Value.string (ai l))[a]? = some g->(i.alloc o).cell? (((aq c (e+b)):Addr).add a)=some g:=fun a g d=>by
 have p:((aq c (e+b)):Addr).add a=(aq c (e+(b+a))):=by unfold Addr.add;simp[nE]
 rw[p];rw[nR,vA]at d;cases j:k[b+a]? with
 | none=>rw[j]at d;cases d
 | some x =>
  rw[j]at d;obtain⟨q,r⟩:=fy.1 j;have:=h.2 (b+a) q;rw[r]at this;have n:Value.string (ai x)=g:=by simpa using d
  rw[<- n];exact(b7 (bx i o c h.1)).trans this
theorem UA(l:List ah):∀a∈l.map (fun l=>Value.string (ai l)),a.oneCell'=true:=by intro a b;obtain⟨x,_,rfl⟩:=fz.1 b;rfl
theorem UB(x:Nat)(o:ah)(rs:List aj)(r u k:Nat)(b:List ah)(w:World)(hz:nC w x o rs)(J:nb o rs)(K:gJ w r u b)(P:b.length<=k)(hn:b.length<=999)(an:0<b.length):az 238 #[aO x,aF r u b.length k] w fun A w'=>(∃v,A=.returned v/\Ux w' v (iW rs b))/\ax w w':=by
 obtain⟨aG,aJ,aC,aD,aE⟩:=fO Uw;have E:=af K;have V:=af hz;have S:=af J;have q:=af (Bw x o rs _ b w hz J ⟨r,u,k,rfl,P,K⟩ ae an);clear hz J K;go_enter func238,ntmps238;go_wp2_with fail;refine q.mono ?_;rintro A aS ⟨rfl,X⟩;have H:=af X;clear X q;have i:Hid (iW rs b=if jL rs b then some b else jN rs b 1 (b.length-1)):=rfl;cases d:jL rs b;{
 have z:Hid (iW rs b=jN rs b 1 (b.length-1)):=by{have:=ag i;rw[d]at this;exact this};clear d i;go_wp2_with fail;go_loopw [6] (fun M wr=>∃c:Nat,1<=c/\c<=b.length/\M=ak c/\iW rs b=jN rs b c (b.length-c)/\ax w wr) (fun M _=>b.length-(intOf M).toNat);case atStart=>exact⟨1,ae,ae,rfl,z,H⟩
 case round =>(clear z;obtain⟨c,aM,aW,rfl,g,t⟩:=hrel;have i:=af g;have G:=af t;by_cases aN:c<b.length;{have ao:(c:Int)<(b.length:Int):=ae;have aL:¬k=c:=ae;have ab:(b.drop c).length=b.length-c:=c8;have q:=af (Bw x o rs _ (b.drop c) wr (V.below t) (ag S) (wM (E.below t) P c ae) ae ae);have F:Hid (iW rs b=if jL rs (b.drop c)then(if eE rs ([42]::b.drop c) 255 then some ([42]::b.drop c)else none)else jN rs b (c+1) (b.length-(c+1))):=by{have:b.length-c=(b.length-(c+1))+1:=ae;rw[this,jN]at g;exact g};clear g t i;go_wp2_with fail;refine q.mono ?_;rintro A ac ⟨rfl,Y⟩;have e:=af (G.trans (Y.mono G.size));clear Y q;cases d:jL rs (b.drop c);{have y:Hid (iW rs b=jN rs b (c+1) (b.length-(c+1))):=by{have:=ag F;rw[d]at this;exact this};clear d;go_wp2;exact⟨⟨c+1,ae,ae,bq,y,e⟩,ci⟩};{have y:Hid (iW rs b=if eE rs ([42]::b.drop c) 255 then some ([42]::b.drop c)else none):=by{have:=ag F;rw[d]at this;exact this};clear d F;have al:=e.size;have Q:=af (E.below e);have aQ:=Q.1;go_wp2_with (at_builtin;go_loud (refine oe _ rfl (.tmp 26) (.tmp 29) 113 rfl w.heap.size 9 aG (.string ⟨#[]⟩) 1 16 rH aJ aC aD aE rfl ba _ 1 [au [42]] rfl (Uy _ _ _ _ al) (aq r (u+c)) (b.length-c) (k-c) ((b.drop c).map fun l=>au l) rfl (by rw[bD,ab,lV]) (Uz _ (ag Q) c) (UA _) gW ae aA ?_));intro C D aa j Z ar;have O:Hid (eY D C ([42]::b.drop c)):=by{have aB:nM D w.heap.size C ([42]::b.drop c):=by{refine⟨?_,⟨fun h=>?_,fun h=>o5⟩⟩;{rw[bi,ab,fl,Nat.add_comm,tf];exact aa};{exact absurd h Z}};obtain⟨n,T,N,aH,aP,aI⟩:=l6 aB am;exact⟨n,0,T,N,aH,aI⟩};have L:ax w D:=⟨j.os.trans e.os,j.tape.trans e.tape,j.output.trans e.output,aZ aA j.size,fun n ay=>(j.block n aA (fun aw=>by simp[Value.ownBlock]at aw;omega)).trans ((((bk ac.heap.size ac).alloc av _).block n ae).trans (e.block n ay))⟩;have U:=af L;have R:=af (wH x o rs C ([42]::b.drop c) 255 D (V.below L) (ag S) (ag O) aA);obtain⟨aU,aV,aR,rfl⟩:∃a aK ai,C=.slice a aK ai:=by{obtain⟨n,aEY,T,N,_⟩:=ag O;exact⟨_,_,_,N⟩};clear aa j Z ar L;go_wp2_with fail;refine R.mono ?_;rintro A aT ⟨rfl,I⟩;have W:=af (U.trans (I.mono U.size));have ad:=af (O.below I);clear I R;cases B:eE rs ([42]::b.drop c) 255;{have p:Hid (iW rs b=none):=by{have:=ag y;rw[B]at this;exact this};clear B;go_wp2;go_ret;exact⟨⟨_,rfl,by rw[ag p];rfl⟩,W⟩};{have p:Hid (iW rs b=some ([42]::b.drop c)):=by{have:=ag y;rw[B]at this;exact this};clear B;go_wp2;go_ret;exact⟨⟨_,rfl,by rw[ag p];exact ad⟩,W⟩}}};{have ao:¬(c:Int)<(b.length:Int):=ae;have p:Hid (iW rs b=none):=by{have ap:b.length-c=0:=ae;rw[ap,jN]at g;exact g};clear g t;go_wp2;go_ret;exact⟨⟨_,rfl,by rw[ag p];rfl⟩,G⟩})};{have z:Hid (iW rs b=some b):=by{have:=ag i;rw[d]at this;exact this};clear d i;go_wp2;go_ret;exact⟨⟨_,rfl,by rw[ag z];exact⟨r,u,k,rfl,P,E.below H⟩⟩,H⟩}
def gp(a:ah):Prop:=∀x∈aC 46 a,x≠[]
def dD(n:ah)(i:Nat):ah:=oK ((aC 46 n).drop i)
def lf(rs:List aj)(b:List ah):Nat->Option Nat
 | 0=>none
 | a+1=>if eE rs (b.drop a) 2 then some a else lf rs b a
theorem JA:∀(d:Nat) (c:ah),d<(aC 46 c).length->∃m,aC 46 m=(aC 46 c).drop d
 | 0,c,_=>⟨c,rfl⟩
 | d+1,c,h=>by rcases hP 46 c with⟨_,e⟩|⟨a,b,_,_,e⟩;{rw[e]at h;simp at h};{rw[e]at h ⊢;obtain⟨m,g⟩:=JA d b (by simpa using h);exact⟨m,by rw[g];rfl⟩}
theorem JB{b:ah}{a:Nat}(h:a<(aC 46 b).length):aC 46 (dD b a)=(aC 46 b).drop a:=by obtain⟨m,c⟩:=JA a b h;unfold dD;rw[<- c,wO]
theorem xz{n:ah}{i:Nat}(h:i<(aC 46 n).length):aY (dD n i)=(aY n).drop i:=by unfold aY;rw[JB h,tf]
theorem JC(a:ah):dD a 0=a:=by unfold dD;rw[kg,wO]
theorem Bx{a:ah}(h:gp a):a≠[]:=by rintro rfl;exact h [] ba rfl
theorem JD:∀(f:Nat) (c:ah),c.length<=f->gp c->bo c=(List.range (aC 46 c).length).map (dD c)
 | 0,c,h,hn=>absurd (df ae) (Bx hn)
 | f+1,c,h,hn=>by
  rw[iO c (Bx hn)];rcases hP 46 c with⟨e,d⟩|⟨a,b,g,e,d⟩;{rw[pn c e,i7,d];show _=[dD c 0];rw[JC]};{
  have k:gp b:=fun x n=>hn x (by rw[d];exact fs _ n);have l:b.length<=f:=by rw[g]at h;simp at h;omega
  have j:eh c=b:=by rw[g];exact ot a b e
  rw[j,JD f b l k,d,bi,zM,fl,fT,JC];congr 1;refine hN (fun i _=>?_);show dD b i=dD c (i+1);unfold dD;rw[d];rfl}
theorem JU{a:ah}(hn:gp a):bo a=(List.range (aC 46 a).length).map (dD a):=JD _ a av hn
theorem UC{a:ah}(hn:gp a):bo (eh a)=(List.range ((aC 46 a).length-1)).map (fun d=>dD a (d+1)):=by have h:=JU hn;rw[iO a (Bx hn)]at h;obtain⟨c,b⟩:∃c,(aC 46 a).length=c+1:=⟨(aC 46 a).length-1,by have:=oS a;omega⟩;rw[b,zM,fl,fT]at h;rw[b];exact(rh h).2
theorem By{a o:ah}(b:dU a o=true):(aC 46 o).length<=(aC 46 a).length/\(aC 46 a).drop ((aC 46 a).length-(aC 46 o).length)=aC 46 o:=by rw[<- tH]at b;unfold gq at b;simpa using b
theorem UD{a o:ah}(b:dU a o=true):dD a ((aC 46 a).length-(aC 46 o).length)=o:=by unfold dD;rw[(By b).2,wO]
def p8(a:List aj)(c:ah):Nat->List aj
 | 0=>[]
 | b+1=>ii a (p8 a c b) (dD c b)
theorem Ka(b:List aj)(c:ah):∀a,((List.range a).map (dD c)).foldl (ii b) []=p8 b c a
 | 0=>rfl
 | a+1=>by rw[ti,d0,mG,Ka b c a];rfl
theorem UE{a o:ah}(b:List aj)(hn:gp a)(c:dU a o=true):ca o b a=p8 b a ((aC 46 a).length-(aC 46 o).length):=by have k:=(By c).1;have n:=oS o;unfold ca;rw[JU hn];have h:(aC 46 a).length-(aC 46 o).length<(aC 46 a).length:=ae;rw[Ax _ _ ((aC 46 a).length-(aC 46 o).length) o (by rw[nR,List.getElem?_range h];exact bP some (UD c)) ?_ am,<- zG,List.take_range,kb ae,Ka];rw[<- zG,List.take_range,kb ae,kM];intro j g;obtain⟨i,ao,rfl⟩:=fz.1 g;have l:=vG.1 ao;have:dD a i≠o:=fun e=>by{have d:=bP (fun x=>(aC 46 x).length) e;rw[JB ae,c8]at d;omega};simpa using this
theorem Kc(rs:List aj)(a:ah):cz rs a 2=cE rs a 2:=by unfold cz;rw[ar ba]
theorem Kd(rs:List aj)(d:jj rs)(b:ah):∀a,a<=(aC 46 b).length->(lf rs (aY b) a=none/\p8 (aS rs) b a=[])\/∃c,c<a/\lf rs (aY b) a=some c/\p8 (aS rs) b a=cE rs (dD b c) 2/\cE rs (dD b c) 2≠[]
 | 0,_=>.inl ⟨rfl,rfl⟩
 | a+1,o=>by
  have n:=Kd rs d b a ae;have l:eE rs ((aY b).drop a) 2 = !(cE rs (dD b a) 2).isEmpty:=by{rw[<- xz ae,A4 rs _ 2 d,Kc]};have k:p8 (aS rs) b (a+1)=if(cE rs (dD b a) 2).length=0 then p8 (aS rs) b a else cE rs (dD b a) 2:=by{show ii _ _ _=_;unfold ii;rw[rF]}
  rw[k];unfold lf;rw[l];cases e:cE rs (dD b a) 2 with
  | nil =>{simp only[List.isEmpty_nil,zs,pr,pA,cW,gC];rcases n with h|⟨c,ao,g,i,j⟩;{exact .inl h};{exact .inr ⟨c,ae,g,i,j⟩}}
  | cons x p =>{refine .inr ⟨a,ae,am,?_,?_⟩;{rw[e];simp};{rw[e];simp}}
theorem xA{rs:List aj}(c:jj rs){a o:ah}(hn:gp a)(d:dU a o=true):(lf rs (aY a) ((aY a).length-(aC 46 o).length)=none/\ca o (aS rs) a=[]) \/
  ∃b,b<(aY a).length-(aC 46 o).length/\lf rs (aY a) ((aY a).length-(aC 46 o).length)=some b/\ca o (aS rs) a=cE rs (dD a b) 2/\cE rs (dD a b) 2≠[]:=by rw[UE _ hn d,lu];exact Kd rs c a _ ae
theorem Ke{rs:List aj}{c:List ah}: ∀a,(∀b,b<a->eE rs (c.drop b) 2=false)->lf rs c a=none
 | 0,_=>rfl
 | a+1,h=>by unfold lf;rw[h a ae,ar am];exact Ke a (fun b d=>h b ae)
theorem Kf{rs:List aj}{d:List ah}{b:Nat}(ao:eE rs (d.drop b) 2=true):∀a,b<a->(∀c,b<c->c<a->eE rs (d.drop c) 2=false)->lf rs d a=some b
 | 0,h,_=>absurd h ae
 | a+1,h,e=>by unfold lf;by_cases g:b=a;{subst g;rw[ao,ay rfl]};{rw[e a ae ae,ar am];exact Kf ao a ae (fun c i j=>e c i ae)}
theorem UF{o:ah}{rs:List aj}{b:List ah}{i j g:Nat}{v:Value}(h:rG o rs b i j g v):(v=aJ/\lf rs b (b.length-(aC 46 o).length)=none) \/
  ∃a,a+(aC 46 o).length<b.length/\lf rs b (b.length-(aC 46 o).length)=some a/\v=aF i (j+a) (b.length-a) (g-a):=by rcases h with⟨c,d⟩|⟨a,c,d,k,l⟩;{exact .inl ⟨c,Ke _ (fun e p=>d e ae)⟩};{exact .inr ⟨a,c,Kf d _ ae (fun e n q=>k e n ae),l⟩}
theorem Bz(rs:List aj)(i:jj rs)(k:ah):ff (aS rs) k=jL rs (aY k):=by rw[i0];unfold ff jL km;rw[lS,<- iU,List.isEmpty_iff,i2,hM];constructor;{intro h;refine nJ fun e=>h fun x g c=>e ?_;obtain⟨b,a,_,d⟩:=(oQ (p4 rs)).1 x g;rw[oO a d]at c;exact⟨b,(l_ rs).mem_iff.1 a,by rw[AN (i b ((l_ rs).mem_iff.1 a)).2.2];exact c⟩};{rintro⟨b,a,c⟩ e;have j:=(l_ rs).mem_iff.2 a;obtain⟨x,g,d⟩:=(oQ (p4 rs)).2 b j;refine e x g ?_;rw[oO j d,<- AN (i b a).2.2];exact c}
theorem Kg(rs:List aj)(b:jj rs)(a:ah):cM (aS rs) a=cz rs a 255:=by rw[<- AQ rs a 255 b,xy (p7 rs a),ay rfl]
theorem UG(rs:List aj)(b:jj rs)(a:ah):eE rs (aY a) 255=decide (0<(cM (aS rs) a).length):=by rw[A4 rs a 255 b,Kg rs b];cases cz rs a 255<;>simp
theorem Kh(rs:List aj)(c:jj rs)(n:ah):∀(f b:Nat),b+f=(aC 46 n).length->(((List.range f).map (fun i=>dD n (b+i))).find? (ff (aS rs))=none/\jN rs (aY n) b f=none) \/
  ∃a,((List.range f).map (fun i=>dD n (b+i))).find? (ff (aS rs))=some a/\jN rs (aY n) b f=if 0<(cM (aS rs) (42::46::a)).length then some (aY (42::46::a))else none
 | 0,b,_=>.inl ⟨rfl,rfl⟩
 | f+1,b,h=>by
  have k:=Kh rs c n f (b+1) ae;have j:=xz (n:=n) (i:=b) ae;rw[zM,fl,fT,DG,dT];unfold jN;rw[<- j,<- Bz rs c];by_cases d:ff (aS rs) (dD n b)=true;{rw[d];refine .inr ⟨dD n b,rfl,?_⟩;rw[ay rfl,<- UX,UG rs c];simp};{
  have e:ff (aS rs) (dD n b)=false:=by simpa using d
  rw[e,ar am];have g:(fun i=>dD n (b+i)) ∘ Nat.succ=fun i=>dD n (b+1+i):=by{funext i;show dD n (b+(i+1))=_;rw[show b+(i+1)=b+1+i by omega]};rw[g];exact k}
theorem UH{l:List aj}{b:ah}(h:∀a∈l,a.owner=b):l.map (cI b)=l:=by
 conv=>rhs;rw[<- pw l]
 refine hN (fun a c=>?_);unfold cI;rw[<- h a c];rfl
theorem Cz(rs:List aj)(h:jj rs){b:ah}(hn:gp b):(iW rs (aY b)=none/\(cG (aS rs) b).2=false) \/
  ∃s,iW rs (aY b)=some (aY s)/\(cG (aS rs) b).2=true/\(cG (aS rs) b).1=(cM (aS rs) s).map (cI b):=by
 unfold iW cG;rw[<- Bz rs h];by_cases d:ff (aS rs) b=true;{rw[ay d,ay d];exact .inr ⟨b,rfl,rfl,(UH (fun k j=>(ua j).2)).symm⟩};{
 rw[ar d,ar d,UC hn,lu];have c:=Kh rs h b ((aC 46 b).length-1) 1 (by have:=oS b;omega);have i:(fun e=>dD b (e+1))=fun e=>dD b (1+e):=by funext e;rw[Nat.add_comm]
 rw[i];rcases c with⟨c,g⟩|⟨a,c,g⟩;{rw[c,g];exact .inl ⟨rfl,rfl⟩};{rw[c,g];by_cases hl:0<(cM (aS rs) (42::46::a)).length;{rw[ay hl];exact .inr ⟨_,rfl,uG,rfl⟩};{rw[ar hl];exact .inl ⟨rfl,uG⟩}}}
def rI(a:aj)(b:ah):aj:=(a.owner,min a.aI (e_ 86400 b),a.type,a.data)
theorem UJ(l:Nat)(o:ah)(rs:List aj)(w:World)(b d e:Nat)(Q:Value)(z0:w.heap[l]? = some (.cells #[Q,.slice (some ⟨b,d,none⟩) rs.length e] 117))(ak:rs.length<=e)(x:oR w b d rs)(I:0<rs.length)(A B C a:ah)(S:a.length<=1000000)(u:cf 86400 a=true)(D:aC 32 rs[0].data=[A,B,C,a]):az 239 #[aO l] w fun p w'=>(∃j k gw,p=.returned (aF j 0 1 1)/\w.heap.size<=j/\w'.heap[j]? = some (.cells #[k,.int .i64 (rI rs[0] a).aI,.int .i64 (rI rs[0] a).type,.string (ai (rI rs[0] a).data),gw] 119)/\w.cell? (aq b d)=some k/\w.cell? (aq b (d+4))=some gw)/\ax w w':=by
 have Z:=(bn.1 z0).1;have al:w.cell? (aq l 1)=some (aF b d rs.length e):=by exact BD
 obtain⟨k,gw,n,ap,F,G,aK,b9,cm⟩:=x 0 I;rw[D]at cm;rw[i4,dT]at n ap F G aK;obtain⟨g,H,X,rfl,T,h⟩:=cm;have R:w.cell? (aq g (H+3))=some (au a):=h.2 3 am;have O:=h.1;have Y:¬g=w.heap.size:=ae;have ad:=fun o=>(b7 (bx w o g O)).trans R;have z:=af (fun c=>ph a 86400 c S ba);have W:(0:Int)<(rs.length:Int):=ae;obtain⟨U,V,ab,rfl,_,_⟩:=b9;have N:=af n;have P:=af aK;clear z0 x h;go_enter func239,ntmps239;go_wp2_with fail;refine(z _).mono ?_;rintro p ac ⟨⟨aa,rfl,t⟩,rfl⟩;have y:=af t;clear t;rw[u];go_wp2;go_ret;have J:∀q r,ax w ((w.alloc q).alloc r):=fun q r=>(aE.alloc av _).alloc am _;have M:=ag y u;subst M;have E:min ((rs[0].aI:Nat):Int) ((e_ 86400 a:Nat):Int)=((min rs[0].aI (e_ 86400 a):Nat):Int):=ae;have L:∀(c:World) (o:Obj) (i:Nat),c.heap.size=i->(c.alloc o).heap[i]? = some o:=fun c o i K=>by subst K;exact World.alloc_heap_new c o
 refine⟨⟨w.heap.size+1,_,_,rfl,ae,?_,N,P⟩,J _ _⟩;rw[E];exact L _ _ _ am
theorem UK(s:ByteArray)(w:World)(n:bT w)(ak:s.size<=3000)(ab:∀o rs,eX s.data.toList=some (o,rs)->Cq o rs):az 16 #[.string s] w fun b w'=>RW (er s.data.toList) w.heap.size b w'/\ax w w':=by
 have F:=af (RX s w ae);have ao:¬(3000:Int)<(s.size:Int):=ae;have I:=af (fun e (h:ax w e)=>Qp s e (n.below h) ak);clear n;cases hz:eX s.data.toList with
 | none =>{
 have k:Hid (er s.data.toList=none):=by unfold er;rw[Hid,hz];rfl
 go_enter func16,ntmps16;go_wp2_with fail;refine F.mono ?_;rintro b e ⟨rfl,a⟩;go_wp2_with fail;refine(I e a).mono ?_;rintro b q ⟨c,j⟩;rw[hz]at c;obtain rfl:b=.returned tA:=c;unfold tA;go_wp2;go_ret2;rw[ag k];exact⟨rfl,a.trans (j.mono a.size)⟩}
 | some x =>{
 obtain⟨o,rs⟩:=x;obtain⟨X,W,Z⟩:=ab o rs hz;have ah:=af Z;clear ab Z;have L:Hid (er s.data.toList=if mI o rs&&mO o (aS rs)then some (o,aS rs)else none):=by unfold er;rw[Hid,hz];rfl
 cases C:mI o rs;{
 have k:Hid (er s.data.toList=none):=by rw[Hid,ag L,C];rfl
 go_enter func16,ntmps16;go_wp2_with fail;refine F.mono ?_;rintro b e ⟨rfl,a⟩;go_wp2_with fail;refine(I e a).mono ?_;rintro b q ⟨c,j⟩;rw[hz]at c;obtain⟨v,rfl,d⟩:=c;have t:=af (zn o v rs q d.rv ae);clear d;go_wp2_with fail;refine t.mono ?_;rintro b H ⟨rfl,i⟩;go_wp2;go_ret2;rw[ag k];exact⟨rfl,(a.trans (j.mono a.size)).trans (i.mono (aZ a.size j.size))⟩};{
 have Y:rs≠[]:=by intro h;rw[h]at C;cases C
 have ac:=af (RU (ag ah));have O:=Ir rs;cases aa:mO o (aS rs);{
 have k:Hid (er s.data.toList=none):=by rw[Hid,ag L,C,aa];rfl
 go_enter func16,ntmps16;go_wp2_with fail;refine F.mono ?_;rintro b e ⟨rfl,a⟩;go_wp2_with fail;refine(I e a).mono ?_;rintro b q ⟨c,j⟩;rw[hz]at c;obtain⟨v,rfl,d⟩:=c;have t:=af (zn o v rs q d.rv ae);obtain⟨g,l,M,rfl,n,y,ai,r⟩:=Iv d Y;have J:=af y;have E:=af r;clear d y r;have A:=a.trans (j.mono a.size);go_wp2_with fail;refine t.mono ?_;rintro b H ⟨rfl,i⟩;have u:=A.trans (i.mono A.size);have P:=E.1;go_wp2_with fail;refine(J1 g l rs H M _ ((i.block g P).trans J) (E.below i) X).mono ?_;rintro b R ⟨rfl,p,B⟩;have D:=B w.heap.size w (aZ a.size n) u.size u;have z:=af (Io g 0 l o (aS rs) R p ae ae W (fun Q N=>(ac Q N).1));rw[O]at z;clear p B;go_wp2_with fail;refine z.mono ?_;rintro b S ⟨rfl,G⟩;go_wp2;go_ret2;rw[ag k];exact⟨rfl,D.trans (G.mono D.size)⟩};{
 have k:Hid (er s.data.toList=some (o,aS rs)):=by rw[Hid,ag L,C,aa];rfl
 go_enter func16,ntmps16;go_wp2_with fail;refine F.mono ?_;rintro b e ⟨rfl,a⟩;go_wp2_with fail;refine(I e a).mono ?_;rintro b q ⟨c,j⟩;rw[hz]at c;obtain⟨v,rfl,d⟩:=c;have t:=af (zn o v rs q d.rv ae);obtain⟨g,l,M,rfl,n,y,ai,r⟩:=Iv d Y;have J:=af y;have E:=af r;clear d y r;have A:=a.trans (j.mono a.size);go_wp2_with fail;refine t.mono ?_;rintro b H ⟨rfl,i⟩;have u:=A.trans (i.mono A.size);have P:=E.1;go_wp2_with fail;refine(J1 g l rs H M _ ((i.block g P).trans J) (E.below i) X).mono ?_;rintro b R ⟨rfl,p,B⟩;have D:=B w.heap.size w (aZ a.size n) u.size u;have z:=af (Io g 0 l o (aS rs) R p ae ae W (fun Q N=>(ac Q N).1));rw[O]at z;have an:=af p;clear p B;go_wp2_with fail;refine z.mono ?_;rintro b S ⟨rfl,G⟩;have K:=D.trans (G.mono D.size);have al:=af (an.below G);go_wp2_with fail;refine(RY o g 0 rs.length l S).mono ?_;rintro b am ⟨rfl,V,ad,T,U⟩;have aj:Hid (e6 am S.heap.size o g 0 l (aS rs)):=⟨ad,T,by rw[O];exact U,ae,al.below V⟩;clear T U;go_wp2;go_ret2;rw[ag k];exact⟨⟨_,_,_,rfl,K.size,aZ a.size n,aj⟩,K.trans (V.mono K.size)⟩}}}
structure K0(r:aj):Prop where
 vL:jh r.owner=true
 aI:r.aI<=86400
 dat:cQ r.type (aC 32 r.data)=true
 len:r.data.length<=3000
structure kG(o:ah)(rs:List aj):Prop where
 org:dQ o=true
 recs:∀r∈rs,K0 r
 Tl:mI o rs=true
 avZ:mO o (aS rs)=true
theorem Ki:∀(l:ah) (b:Nat),gK b l=Lib.decFrom b l
 | [],b=>rfl
 | a::d,b=>by
  unfold gK Lib.decFrom Lib.digitVal;by_cases h:48<=a.toNat/\a.toNat<=57;{
  have c:jp a.toNat=true:=by unfold jp;simp;omega
  rw[ay c,ay h,Ki d,mV]};{
  have c:¬jp a.toNat=true:=by unfold jp;simp;omega
  rw[ar c,ar h]}
theorem Kj{s:ah}(h:cf 86400 s=true):s.length<=10/\Lib.atoi s=some (e_ 86400 s:Int)/\e_ 86400 s<=86400:=by
 have n:=h;rw[uZ 86400 ae]at h;cases a:jn s with
 | none=>rw[a]at h;cases h
 | some v =>{
 rw[a]at h;have g:v<=86400:=kI
 rw[Ad 86400 ae s v a g];unfold jn at a;split at a;{
 rename_i e;refine⟨e.2.1,?_,g⟩;cases s with
 | nil=>simp at e
 | cons b i =>{
 have c:jp b.toNat=true:=by{refine nJ fun c=>?_;unfold gK at a;rw[ar c]at a;cases a};have d:48<=b.toNat/\b.toNat<=57:=by unfold jp at c;simp at c;omega
 have j:(b==45)=false:=by rw[eW];rintro rfl;exact absurd d.1 ba
 have k:(b==43)=false:=by rw[eW];rintro rfl;exact absurd d.1 ba
 have l:Lib.atoi (b::i)=(Lib.decNat (b::i)).map (fun m:Nat=>(m:Int)):=by{unfold Lib.atoi;simp[j,k]};rw[l];unfold Lib.decNat;rw[ar am,<- Ki,a];rfl}};{cases a}}
theorem CA(l:ah)(a:Nat):(ai l).data[a]! = l[a]?.getD default:=by show l.toArray[a]! = _;rw[Array.getElem!_eq_getD,Array.getD_eq_getD_getElem?,GR]
theorem Ui(a b:ah)(h:(32:UInt8) ∉ b):dq (a++32::b)=b:=by
 have j:Lib.lastIndexByte (ai (a++32::b)) 32=(a.length:Int):=by{
 unfold Lib.lastIndexByte;have n:(ai (a++32::b)).size=a.length+1+b.length:=by rw[a7];simp;omega
 have g:(((ai (a++32::b)).data[a.length]!).toNat:Int)=32:=by rw[CA];simp
 rcases Lib.lastIdx_spec (ai (a++32::b)) 32 (ai (a++32::b)).size with⟨_,d⟩|⟨c,l,d,e,k⟩;{exact absurd g (d a.length ae)};{rw[d];rcases Nat.lt_trichotomy c a.length with ao|ao|ao;{exact absurd g (k a.length ao ae)};{rw[ao]};{exfalso;rw[CA,lT ae,show c-a.length=(c-a.length-1)+1 by omega,List.getElem?_cons_succ,dV ae]at e;have i:b[c-a.length-1]' ae∈b:=bM _;have:b[c-a.length-1]' ae=32:=by{apply nG.1;have:((b[c-a.length-1]' ae).toNat:Int)=32:=e;show _=32;omega};rw[this]at i;exact h i}}};unfold dq;rw[j,show((a.length:Int)+1).toNat=a.length+1 by omega,show a++32::b=(a++[32])++b by simp,zy am];simp
theorem Uj(b:ah)(h:(32:UInt8) ∉ b):dq b=b:=by have g:Lib.lastIndexByte (ai b) 32 = -1:=by{unfold Lib.lastIndexByte;rcases Lib.lastIdx_spec (ai b) 32 (ai b).size with⟨a,_⟩|⟨c,a,i,d,j⟩;{exact a};{exfalso;rw[a7]at a;rw[CA,dV a]at d;have e:b[c]∈b:=bM _;have:b[c]=32:=by{apply nG.1;have:((b[c]).toNat:Int)=32:=d;show _=32;omega};rw[this]at e;exact h e}};unfold dq;rw[g];rfl
theorem Kk(d:UInt8):∀(f:Nat) (s:ah),s.length<=f->∀x∈aC d s,d ∉ x
 | f,s,g,x,c=>by
  rcases hP d s with⟨h,e⟩|⟨a,b,i,h,e⟩;{
  rw[e]at c;have:x=s:=by simpa using c
  rw[this];exact h};{
  rw[e]at c;rcases co.1 c with rfl|c;{exact h};{
  have j:b.length<f:=by rw[i]at g;simp at g;omega
  exact Kk d (f-1) b ae x c}}
termination_by f=>f
decreasing_by omega
theorem CB(a:ah)(aD:List ah)(x:ah)(h:aC 32 a=aD++[x]):dq a=x:=by
 have c:=Kk 32 a.length a av x qj;have b:=oM 32 a;rw[h]at b;cases aD with
 | nil=>rw[<- b];exact Uj x c
 | cons e d =>{rw[Be 32 x (e::d) am]at b;rw[<- b];exact Ui _ x c}
theorem oW{a:Int}{aD:List ah}(h:cQ a aD=true):a=1\/a=2\/a=5\/a=6\/a=15\/a=16:=by
 unfold cQ at h
 repeat' (split at h)
 all_goals first
  | (cases h;done)
  | omega
theorem Uk{aD:List ah}(h:cQ 6 aD=true):∃a b d c,aD=[a,b,d,c]/\cf 86400 c=true:=by
 unfold cQ at h;rw[ay rfl]at h;match aD,h with
 | [a,b,d,c],h=>exact⟨a,b,d,c,rfl,by simp at h;exact h.2⟩
theorem Kl{b:Int}{aD:List ah}(c:b=2\/b=5)(h:cQ b aD=true):∃a,aD=[a]/\dQ a=true:=by
 unfold cQ at h;rw[ar ae,ay c]at h;match aD,h with
 | [a],h=>exact⟨a,rfl,h⟩
theorem Ul{aD:List ah}(h:cQ 15 aD=true):∃a b,aD=[a,b]/\dQ b=true:=by
 unfold cQ at h;rw[ar ae,ar ae,ar ae,ar ae,ay rfl]at h;match aD,h with
 | [a,b],h=>exact⟨a,b,rfl,by simp at h;exact h.2⟩
theorem mC{b a:ah}(h:aC 32 b=[a]):b=a:=by have:=oM 32 b;rw[h]at this;exact this.symm
theorem Um{e:aj}(h:K0 e)(d:e.type=2\/e.type=15):∃aD x,aC 32 e.data=aD++[x]/\dq e.data=x/\dQ x=true:=by have g:=h.dat;rcases d with d|d;{rw[d]at g;obtain⟨a,c,i⟩:=Kl (.inl rfl) g;exact⟨[],a,c,CB _ [] a c,i⟩};{rw[d]at g;obtain⟨a,b,c,i⟩:=Ul g;exact⟨[a],b,c,CB _ [a] b c,i⟩}
theorem Km{d:Bool}{b:ah}(h:(dS d b).isSome=true):gp b/\b.length<=60:=by
 unfold dS at h;split at h;{
 rename_i c;refine⟨fun x hx=>?_,c.1⟩;have e:∀(l:List ah) (i:Nat),fZ d i l=true->∀x∈l,x≠[]:=by{
 intro l;induction l with
 | nil=>exact yj
 | cons a l ih =>{intro i h x hx;rw[fZ,bW]at h;rcases co.1 hx with rfl|hx;{rintro rfl;have:=h.1;unfold k_ fA at this;simp at this};exact yN}};exact e _ 0 c.2 x hx};{cases h}
theorem Kn{star:Bool}{c:ah}(h:(dS star c).isSome=true):(80:UInt8) ∉ c:=by
 intro g;unfold dS at h;split at h;{
 rename_i j;have k:∀(l:List ah) (i:Nat),fZ star i l=true->∀x∈l,(80:UInt8) ∉ x:=by{
 intro l;induction l with
 | nil=>exact yj
 | cons a l ih =>{intro i h x hx;rw[fZ,bW]at h;rcases co.1 hx with rfl|hx;{intro b;have:=h.1;unfold k_ at this;rw[lN]at this;rcases this with this|this;{unfold fA at this;rw[bW,kM]at this;exact absurd (this.2 80 b) ba};{simp only[bW,dE]at this;rw[this.1.2]at b;exact absurd b ba}};exact yN}};rcases AM _ c 80 av g with h|⟨l,d,e⟩;{exact absurd h ba};{exact k _ 0 j.2 l d e}};{cases h}
theorem xB{a:ah}(h:dQ a=true):(80:UInt8) ∉ a:=Kn (star:=false) (by rw[l7];exact h)
theorem xC{a:ah}(h:jh a=true):(80:UInt8) ∉ a:=Kn (star:=true) (by rw[tG];exact h)
theorem ed{a:ah}(h:dQ a=true):gp a/\a.length<=60:=Km (by rw[l7];exact h)
theorem oX{a:ah}(h:jh a=true):gp a/\a.length<=60:=Km (by rw[tG];exact h)
section
variable {o:ah} {rs:List aj} (hz:kG o rs)
include hz
theorem jR:jj rs:=fun b a=>by have:=oW (hz.recs b a).dat;exact⟨ae,ae,xC (hz.recs b a).vL⟩
theorem xD:nb o rs:=by
 refine⟨by have:=(ed hz.org).2;omega,?_,fun a b=>by have:=(oX (hz.recs a b).vL).2;omega⟩;have:=hz.Tl;unfold mI at this;cases rs with
 | nil=>simp
 | cons a c=>simp at this ⊢; omega
theorem p9:rs.length<=60:=by
 have:=hz.Tl;unfold mI at this;cases rs with
 | nil=>simp
 | cons a b=>simp at this ⊢; omega
theorem k8:0<rs.length:=by
 have:=hz.Tl;unfold mI at this;cases rs with
 | nil=>simp at this
 | cons a b=>simp
theorem Ko(b:ah)(a:Int):(cE rs b a).length<=60:=aZ (nS _ _) (p9 hz)
theorem Un:cE rs o 6=[rs[0]'(k8 hz)]/\(rs[0]'(k8 hz)).type=6/\(rs[0]'(k8 hz)).owner=o:=by
 have h:=hz.Tl;unfold mI at h;cases rs with
 | nil=>simp at h
 | cons e i =>{simp only[bW,jy,dE,lS]at h;obtain⟨_,⟨a,b⟩,c⟩:=h;refine⟨?_,b,a⟩;unfold cE;rw[i1 (by simp[a,b])];show e::_=[e];congr 1;rw[i2];intro x g d;simp only[bW,dE]at d;rw[<- iU]at c;exact c (hM.2 ⟨x,g,by unfold gt;simpa using d.2⟩)}
theorem xF:∃c d e a,aC 32 (rs[0]'(k8 hz)).data=[c,d,e,a]/\cf 86400 a=true/\a.length<=1000000/\eo o (aS rs)=[rI (rs[0]'(k8 hz)) a]/\(∀b∈gU (cM (aS rs) o) 6,GW b/\b.data.length<=3000/\b.aI<=1000000000):=by
 obtain⟨k,n,q⟩:=Un hz;have h:=hz.recs _ (bM (k8 hz));have i:=h.dat;rw[n]at i;obtain⟨c,d,e,a,j,hn⟩:=Uk i;obtain⟨r,l,t⟩:=Kj hn;have g:=CB _ [c,d,e] a j;refine⟨c,d,e,a,j,hn,ae,?_,?_⟩;{unfold eo;rw[rF,k];show [lR _]=_;unfold lR Ay rI;rw[g,l];rfl};{
 rw[rF,k];intro b p;have:b=rs[0]'(k8 hz):=by simpa using p
 subst this;refine⟨⟨by rw[g];omega,e_ 86400 a,by rw[g];exact l,ae⟩,h.len,by have:=h.aI;omega⟩}
theorem Uo{s:ah}{a:aj}(b:a∈cM (aS rs) s)(n:a.type=5):cM (aS rs) s=[a]:=by
 have t:=fun a b=>(hz.recs a ((l_ rs).mem_iff.1 b)).vL;have r:=(JL (p4 rs) o).1 hz.avZ;obtain⟨l,p⟩:=JM (p4 rs) t o r;rw[oV]at b ⊢;have c:∀x∈(aS rs).filter (fun a=>a.owner==s),x=a:=fun x u=>by{refine nJ fun q=>?_;have i:=dg.1 u;have h:=dg.1 b;have:=(p x i.1 a h.1 q).2.1 (by have e:=i.2;have g:=h.2;simp only[dE]at e g;rw[e,g]);exact this.2.1 n};have d:((aS rs).filter (fun a=>a.owner==s)).Nodup:=sR _ l;generalize (aS rs).filter (fun a=>a.owner==s)=F at *;match F,b,c,d with
 | [],b,_,_=>cases b
 | [x],_,c,_=>rw[c x am]
 | x::w::y,_,c,d =>{have j:=c x am;have k:=c w am;rw[j,k]at d;simp at d}
theorem CC(s c:ah):eE rs (aY s) 5=iP ((cM (aS rs) s).map (cI c))/\(eE rs (aY s) 5=true->∃a,a.type=5/\a∈rs/\cM (aS rs) s=[a]/\cz rs s 5=[a]):=by
 have l:cz rs s 5=cE rs s 5:=by unfold cz;rw[ar ba]
 rw[A4 rs s 5 (jR hz),l];have b:=rF rs s 5;rw[Jw (p7 rs s) (t_ rs s)]at b;cases i:cE rs s 5 with
 | nil =>{
 refine⟨?_,fun h=>o5⟩;rw[i,i2]at b;unfold iP;cases n:cM (aS rs) s with
 | nil=>rfl
 | cons x g =>{have p:=b x (by rw[n];simp);show false=((List.map (cI c) (x::g)).length==1&&(cI c x).type==5);have:((cI c x).type==5)=false:=by{show(x.type==5)=false;simpa using p};rw[this,rd]}}
 | cons a g =>{
 rw[i]at b;have o:a∈(cM (aS rs) s).filter (fun a=>a.type==5):=by rw[b];simp
 obtain⟨j,q⟩:=dg.1 o;have d:a.type=5:=by simpa using q
 have e:=Uo hz j d;have k:a::g=[a]:=by rw[<- b,e];simp[d]
 refine⟨?_,fun _=>⟨a,d,(ua j).1,e,k⟩⟩;rw[e];show true=((1:Nat)==1&&(cI c a).type==5);have:((cI c a).type==5)=true:=by show(a.type==5)=true;rw[d];rfl
 rw[this];rfl}
end
def ek(w:World)(x:Nat->Prop)(v:Value)(b:List ah):Prop:=∃a d c,v=aF a d b.length c/\b.length<=c/\gJ w a d b/\¬x a
def lg(x:Value×Value×aj):List Value:=[x.1,ak x.2.2.aI,ak x.2.2.type,au x.2.2.data,x.2.1]
def dY(x:Nat->Prop)(w:World)(base:Nat)(v:Value)(l:List aj):Prop :=
 ∃b:List (Value×Value×aj),b.map (·.2.2)=l/\w.ownsRow base 119 5 v b.length (b.flatMap lg) /\
  ∀c∈b,ek w (fun a=>x a\/some a=v.ownBlock) c.1 (aY c.2.2.owner)/\ek w (fun a=>x a\/some a=v.ownBlock) c.2.1 (aC 32 c.2.2.data)
def Up(w:World)(x:Nat->Prop)(b o:Nat)(a:aj):Prop:=∃d c,w.cell? (aq b o)=some d/\w.cell? (aq b (o+1))=some (ak a.aI)/\w.cell? (aq b (o+2))=some (ak a.type)/\w.cell? (aq b (o+3))=some (au a.data)/\w.cell? (aq b (o+4))=some c/\ek w x d (aY a.owner)/\ek w x c (aC 32 a.data)
def ew(w:World)(ab:Nat)(rc:Int)(aa:Bool)(va vu vd:Value):Prop:=w.heap[ab]? = some (.cells #[.int .i64 rc,.bool aa,va,vu,vd] 123)
section
theorem ur{P:Prop}(h:P:=by unfold ew at *;exact yC):P:=h
section
variable {w w':World} {ab:Nat} {rc:Int} {aa:Bool} {va vu vd:Value} (h:ew w ab rc aa va vu vd)
include h
theorem ew.lt:ab<w.heap.size:=(bn.1 h).1
theorem ew.cells:w.cell? (aq ab 0)=some (ak rc)/\w.cell? (aq ab 1)=some (.bool aa)/\w.cell? (aq ab 2)=some va/\w.cell? (aq ab 3)=some vu/\w.cell? (aq ab 4)=some vd:=by unfold ew at h;exact BC
theorem ew.frozen(i:Nat):w.frozen? (aq ab i)=false:=by unfold ew at h;exact jW
theorem ew.kept(a:w'.heap[ab]? = w.heap[ab]?):ew w' ab rc aa va vu vd:=a.trans h
theorem ew.set0(a:Int):ew (w.setCell ⟨ab,0,none⟩ (.int .i64 a)) ab a aa va vu vd:=by exact ur
theorem ew.set1(u:Bool):ew (w.setCell ⟨ab,1,none⟩ (.bool u)) ab rc u va vu vd:=by exact ur
theorem ew.set2(a:Value):ew (w.setCell ⟨ab,2,none⟩ a) ab rc aa a vu vd:=by exact ur
theorem ew.jv(u:Value):ew (w.setCell ⟨ab,3,none⟩ u) ab rc aa va u vd:=by exact ur
theorem ew.mh(a:Value):ew (w.setCell ⟨ab,4,none⟩ a) ab rc aa va vu a:=by exact ur
end
theorem gJ.fr{p:Nat->Prop}{d B:World}{b c:Nat}{i:List ah}(h:gJ d b c i)(e:bG p d B)(k:p b):gJ B b c i :=
 ⟨cp h.1 e.size,fun g j=>(b7 (a:=⟨b,c+g,none⟩) (e.block b h.1 k)).trans (h.2 g j)⟩
theorem ek.nm{w:World}{x:Nat->Prop}{v:Value}{a:List ah}(h:ek w x v a):eY w v a:=by obtain⟨c,i,b,d,e,g,_⟩:=h;exact⟨c,i,b,d,e,g⟩
theorem ek.fr{p x:Nat->Prop}{a B:World}{v:Value}{e:List ah}(h:ek a x v e)(l:bG p a B)(n:∀d,¬x d->p d):ek B x v e:=by obtain⟨b,o,g,i,j,k,c⟩:=h;exact⟨b,o,g,i,j,k.fr l (n b c),c⟩
theorem ek.imp{x y:Nat->Prop}{a:World}{v:Value}{e:List ah}(h:ek a x v e)(l:∀b,b<a.heap.size->¬x b->¬y b):ek a y v e:=by obtain⟨c,n,g,i,j,d,k⟩:=h;exact⟨c,n,g,i,j,d,l c d.1 k⟩
theorem dY.nil(x:Nat->Prop)(w:World)(base:Nat):dY x w base (aJ) []:=⟨[],rfl,e8 w base _ 5,fun b a=>by cases a⟩
section
variable {x:Nat->Prop} {w:World} {base:Nat} {v:Value} {l:List aj} (h:dY x w base v l)
include h
theorem dY.slice:∃a b,v=.slice a l.length b:=by obtain⟨c,rfl,h1,_⟩:=h;rw[bD];exact BW
theorem dY.lt:∀k,v.ownBlock=some k->base<=k/\k<w.heap.size:=by obtain⟨b,_,a,_⟩:=h;exact e9 a
theorem dY.fr{p:Nat->Prop}{w':World}(hf:bG p w w')(k:∀a,a<w.heap.size->¬x a->some a≠v.ownBlock->p a)(ho:∀a,v.ownBlock=some a->p a):dY x w' base v l:=by obtain⟨r,q,h1,i⟩:=h;have j:bG (fun a=>a<w.heap.size->p a) w w':=⟨hf.os,hf.tape,hf.output,hf.size,fun a b c=>hf.block a b (c b)⟩;refine⟨r,q,?_,fun o n=>⟨(i o n).1.fr j (fun a b c=>k a c (fun e=>b (.inl e)) (fun d=>b (.inr d))),(i o n).2.fr j (fun a b c=>k a c (fun e=>b (.inl e)) (fun d=>b (.inr d)))⟩⟩;refine⟨h1.1,?_⟩;exact DJ
theorem dY.below{w':World}(a:ax w w'):dY x w' base v l:=h.fr (p:=fun _=>True) (bG.wI a) (fun _ _ _ _=>aL) (fun _ _=>aL)
theorem dY.set{a:Addr}(d:Value)(i:x a.block)(j:a.block<base):dY x (w.setCell a d) base v l :=
 h.fr (p:=fun b=>b≠a.block) (bG.kA d (fun _ h=>h)) (fun b _ e _ c=>e (by rw[c];exact i)) (fun b g c=>by have:=(h.lt b g).1;omega)
theorem dY.imp{y:Nat->Prop}(hy:∀k,k<w.heap.size->¬x k->some k≠v.ownBlock->¬y k):dY y w base v l:=by obtain⟨e,c,d,a⟩:=h;have ao:∀k,k<w.heap.size->¬(x k\/some k=v.ownBlock)->¬(y k\/some k=v.ownBlock):=fun k hk hn hc=>by{exact Ew};exact⟨e,c,d,fun b hz=>⟨(a b hz).1.imp ao,(a b hz).2.imp ao⟩⟩
theorem dY.Ol:(v=aJ/\l=[])\/∃c i,v=aF c 0 l.length i/\base<=c/\l.length<=i/\∀a (hk:a<l.length),Up w (fun a=>x a\/some a=v.ownBlock) c (a*5) l[a]:=by
 obtain⟨g,rfl,o,p⟩:=h;rcases o.2 with⟨j,hn⟩|⟨c,i,z,j,r,bu,k,_,A,u⟩;{refine .inl ⟨j,?_⟩;rw[df hn];rfl};{
 refine .inr ⟨c,i,by rw[bD];exact j,r,by rw[bD];exact k,fun a hk=>?_⟩;rw[bD]at hk;have n:∀(d:List (Value×Value×aj)) (a b:Nat) (hk:a<d.length),b<5->(d.flatMap lg)[a*5+b]? = (lg d[a])[b]?:=by{
 intro d;induction d with
 | nil=>intro a b hk;simp at hk
 | cons y d t =>{
 intro a b hk ao;have q:(lg y).length=5:=rfl;cases a with
 | zero=>rw[eT,i4,cT,pv ae];rfl
 | succ a =>{rw[eT,lT ae,q,show(a+1)*5+b-5=a*5+b by omega];exact t a b qt ao}}};have e:∀b,b<5->w.cell? (aq c (a*5+b))=(lg g[a])[b]?:=by{intro b ao;rw[<- n g a b hk ao,<- u,kS ae];exact ym};have hn:=p g[a] (bM hk);rw[kT];exact⟨g[a].1,g[a].2.1,e 0 ae,e 1 ae,e 2 ae,e 3 ae,e 4 ae,hn.1,hn.2⟩}
theorem dY.recs(d:∀u∈l,(80:UInt8) ∉ u.owner):(v=aJ/\l=[])\/∃a b,v=aF a 0 l.length b/\base<=a/\l.length<=b/\oR w a 0 l:=by rcases h.Ol with h|⟨a,b,k,n,o,p⟩;{exact iG};{refine .inr ⟨a,b,k,n,o,fun q c=>?_⟩;obtain⟨x,j,e,ap,g,i,aK,r,t⟩:=p q c;rw[cT];exact⟨x,j,e,ap,g,i,aK,by rw[<- lv (d _ (bM c))];exact r.nm,t.nm⟩}
end
end
theorem UL{x:Nat->Prop}{r w w':World}{base b h:Nat}{rs:List aj}{o:ah}{q v:Value}{g:List Nat}(hz:oR r b h rs)(l:ax r w)(t:ax w w')(K:∀c,c<r.heap.size->¬x c)(D:base<=w.heap.size)(C:∀a∈g,a<rs.length) (I:ek w x q (aY o)) (y:w'.ownsRow w.heap.size 119 5 v g.length (g.flatMap (oU w b h q rs))):dY x w' base v (g.map (xp rs o)):=by
 refine⟨g.map fun a=>(q,rC w b h a,xp rs o a),by rw[fT];rfl,?_,?_⟩;{rw[bD,List.flatMap_map];exact pH y D};{
 intro V L;obtain⟨a,H,rfl⟩:=fz.1 L;have u:∀c,c<w.heap.size->some c≠v.ownBlock:=fun c N E=>by have:=(e9 y c E.symm).1;omega
 have O:=l.size;refine⟨?_,?_⟩;{obtain⟨d,p,i,j,k,e,G⟩:=I;exact⟨d,p,i,j,k,e.below t,fun n=>n.elim G (u d e.1)⟩};{
 have z:=C a H;obtain⟨U,F,P,Q,R,S,A,T,M⟩:=hz a z;have B:=(l.cell (ef _ _ A)).trans A;have J:rC w b h a=F:=by unfold rC;rw[B];rfl
 show ek w' _ (rC w b h a) (aC 32 (rs[a]?.getD aj.zero).data);rw[J,dV z];obtain⟨d,p,i,j,k,e⟩:=M;exact⟨d,p,i,j,k,(e.below l).below t,fun n=>n.elim (K d e.1) (u d (by have:=e.1;omega))⟩}}
theorem sQ{x y:Nat->Prop}{w:World}{base U:Nat}{va O:Value}{A G:List aj}(ag:dY x w base va A)(ai:dY y w U O G)(L:∀a,a<w.heap.size->(x a\/some a=va.ownBlock)->y a)(ab:base<=w.heap.size)(ad:A.length+G.length<=100000)(aC:∀a,x a->a<w.heap.size):∃g w',(Builtin.append_ #[115,115] 115 #[va,O]).run prog w=.ok g w'/\dY x w' base g (A++G)/\w.grownBy w' va.ownBlock/\(g.ownBlock=va.ownBlock\/g.ownBlock=some w.heap.size):=by
 obtain⟨M,ao,ak,al,am⟩:=fO A3;obtain⟨t,rfl,u,z⟩:=ag;obtain⟨d,rfl,T,B⟩:=ai;have Q:∀(e:List (Value×Value×aj)),(∀b∈e,b.1.oneCell'=true/\b.2.1.oneCell'=true)->∀c∈e.flatMap lg,c.oneCell'=true:=by{intro e R c k;obtain⟨b,hz,k⟩:=nu.1 k;have:=R b hz;simp only[lg,co,List.not_mem_nil,kd]at k;rcases k with rfl|rfl|rfl|rfl|rfl;{exact this.1};{rfl};{rfl};{rfl};{exact this.2}};have H:∀(e:List (Value×Value×aj)),(e.flatMap lg).length=e.length*5:=by{
 intro e;induction e with
 | nil=>rfl
 | cons b e an=>rw[eT,a6,an,bi];show 5+_=_;omega};rw[bD,bD]at ad;rcases T.2 with⟨rfl,Y⟩|⟨J,X,ax,rfl,az,V,ay,aA,aB,ap⟩;{have:d=[]:=df Y;subst this;refine⟨va,w,run_append_owned_none (P:=prog) (w:=w) base 115 115 119 M 5 xn ao va _ _ u,?_,⟨rfl,rfl,rfl,bb _,fun _ _ _=>rfl⟩,.inl rfl⟩;rw[kK,eu];exact⟨t,rfl,u,z⟩};{
 have au:∀r c,(d.flatMap lg)[r]? = some c->w.cell? (((aq J 0):Addr).add r)=some c:=by{intro r c E;rw[sX,cT];have ar:r<d.length*5:=by{have:=(fy.1 E).1;rw[H]at this;exact this};rw[<- ap,kS ar]at E;unfold World.cell?;rw[V];simpa using E};have S:∀b∈d,b.1.oneCell'=true/\b.2.1.oneCell'=true:=by{intro b hz;obtain⟨⟨_,_,_,C,_⟩,⟨_,_,_,D,_⟩⟩:=B b hz;rw[C,D];exact dX};obtain⟨g,w',Z,aa,K,_,j⟩:=run_append_own_at (P:=prog) w base 115 115 119 M _ 5 80 xn ao ak al am rfl ae va t.length (t.flatMap lg) u (aq J 0) d.length X (d.flatMap lg) (H d) au (Q d S) sw ae ab;refine⟨g,w',Z,⟨t++d,by rw[d0],by rw[a6,jt];exact aa,?_⟩,K,j⟩;have ac:=bG.QY K (fun _ h=>h);have af:∀a,a<w.heap.size->some a≠va.ownBlock->some a≠g.ownBlock:=fun a q hn n=>by{
 rcases j with j|j;{rw[j]at n;exact hn n};{
 rw[j]at n;have:a=w.heap.size:=by simpa using n
 omega}};have p:∀(b:Nat->Prop) (c:Value) (F:List ah),(∀a,a<w.heap.size->x a\/some a=va.ownBlock->b a)->ek w b c F->ek w' (fun a=>x a\/some a=g.ownBlock) c F:=by{intro b c F hz k;obtain⟨i,aw,W,C,D,o,I⟩:=k;have av:¬x i:=fun l=>I (hz i o.1 (.inl l));have N:some i≠va.ownBlock:=fun l=>I (hz i o.1 (.inr l));exact⟨i,aw,W,C,D,o.fr ac N,fun l=>l.elim av (af i o.1 N)⟩};intro b hz;rcases dv.1 hz with hz|hz;{exact⟨p _ _ _ (fun _ _ h=>h) (z b hz).1,p _ _ _ (fun _ _ h=>h) (z b hz).2⟩};{exact⟨p _ _ _ (fun a q h=>.inl (L a q h)) (B b hz).1,p _ _ _ (fun a q h=>.inl (L a q h)) (B b hz).2⟩}}
end Go.Proofs.YtkkpahmoljiepaaGreatDoor
