import Derived.Test.YtkkpahmoljiepabGreatDoorJ08
set_option maxRecDepth 1000000
set_option maxHeartbeats 12800000
set_option linter.all false
open Array renaming size->J
open Bool renaming false->ak,true->aD
open ByteArray renaming size->b7
open Decidable renaming decide->dC
open Eq renaming symm->b5,trans->cQ
open Go renaming Calls->a_,Value->bk,World->aQ,results->c_
open Go.Ending renaming returned->bh
open Go.IntKind renaming i64->ai
open Go.Obj renaming cells->aZ
open Go.Proofs.Tryz renaming prog->aL
open Go.RowKit renaming Below->cv,Hid->ao
open Go.RowKit.Below renaming alloc->cf,mono->bN,setCell->fc,trans->bC
open Go.Value renaming agg->ce,bool->aG,iface->cP,int->ag,ownBlock->bA,slice->aE,string->am,tuple->bZ
open Go.World renaming alloc->aN,alloc_heap_new->cW,cell?->aA,drew->bx,drewN->dS,frozen?->gd,setCell->a7
open List renaming drop->bi,length->E,take->be
open Option renaming none->af,some->ae
open Or renaming inl->bJ,inr->bE
open UInt8 renaming toNat->bg
namespace Go.Proofs.YtkkpahmoljiepabGreatDoor
variable{φ:Prop}
open Go.RowKit Go.Proofs.Tryz
variable{a c g n v:Nat}{b f m:World}{d o P:ap}{e k C:Value}{j q y:Int}{l t H:Bool}{s:List ap}{Q:List UInt8}
def s1(c b a:ap):Option (ap×Nat):=
 if cD a 4<8\/E a<cD a 4\/cD a 2≠53 then af
 else if cD a 6≠0/\hJ (ci aD<|c++b++[0,17]++[aO<|cD a 4,cL<|cD a 4]++be (cD a 4) a)≠65535 then af
 else ae (bi 8<|be (cD a 4) a,cD a 0)
def pd(a s:ap):Option (ap×Nat):=
 if E s<28\/bg (s.getD 0 0)≠69\/hJ (ci aD<|be 20 s)≠65535 then af
 else if cD s 2<28\/E s<cD s 2\/cD s 6%16384≠0\/bg (s.getD 9 0)≠17\/be 4 (bi 16 s)≠a then af
 else s1 (be 4<|bi 12 s) (be 4<|bi 16 s) (be (cD s 2-20)<|bi 20 s)
def mN:Option (ap×Nat)->bk
 |none=>bZ #[am ⟨#[]⟩,M 0,aG ak]
 |some (m,a)=>bZ #[aS m,M a,aG aD]
def T8(c:ap)(b a:Nat)(d:a+1<b):cD (be b c) a=cD c a:=by unfold cD;rw[iA,iA,qA G,qA d,iA,iA]
def pz(h:φ:=by simp[c_,results56,mN,go_sem]):φ:=h
def acu(K k s:ap)(g:aQ)(ca:E s<=100000000):a_ aL 56 #[jW K k,aS s] g (cI (mN<|pd k s) g):=by
 have:=cV s;have o:=O<|cj (bq.fF g [aS K,aS k] 47)<|(cU (J g.1) g).alloc bo<|aZ #[am<|D K,am<|D k] 47;have⟨b4,a⟩:=bm<|mN<|pd k s;rw[<-a];unfold pd at a;replace a:=O a;go_in;by_cases bK:E s<28
 ·have bj:(E s:Int)<28:=G;go_wp2;exact dQ (v:=mN af) pz U ⟨by rw[V a,b8<|bJ bK],o.2⟩
 have bj:¬(E s:Int)<28:=G;have bw:dC ((E s:Int)<28)=ak:=by simpa using bj
 have⟨q,ac⟩:=bm<|s[0]
 have bF:∀c:0<b7 (D s),(D s)[0]=q:=λc=>b5 ac;have a5:s.getD 0 0=q:=by rw[ac,iA,fs G];rfl
 rw[a5]at a;have:0<E s:=G;have⟨C,j⟩:=bm<|bg q;have bW:(bg q:Int)=C:=by rw[j]
 rw[<-j]at a;clear a5 ac j;by_cases Z:C=69
 case neg=>
  have aw:((C:Int) != 69)=aD:=ct;go_wp2;exact dQ (v:=mN af) pz U ⟨by rw[V a,b8<|bE<|bJ Z],o.2⟩
 have aw:((C:Int) != 69)=ak:=ct;have⟨a9,u,b3⟩:=pk s 0 20 20 U;rw[pW]at u;rw[<-u]at a;have az:=O λb=>FP a9 b (by rw[u,iv];omega);generalize hJ (ci aD a9)=an at*;have bI:=O Z;clear u Z;go_wp2_with fail;refine(az _).m λbY ad=>?_;have R:=O<|bC o.2<|bN ad ax;have al:=o.1.below ad ax;have:=al.lt;have bG:=al.cell 1 ax;simp only[eB,eG]at bG;clear ad o al;by_cases a1:an=65535
 case neg=>
  have aH:((an:Int) != 65535)=aD:=ct;go_wp2;exact dQ (v:=mN af) pz U ⟨by rw[V a,b8<|bE<|bE a1],R⟩
 have aH:((an:Int) != 65535)=ak:=ct;rw[bV (by have:=V bI;omega)]at a;have aY:=O<|xu s 2 bY G G;have p:=O λb=>xu s 6 b G G;have:=B8 s 2;generalize cD s 2=d,cD s 6=ar at*;clear a1;go_wp2_with fail;refine aY.mono ?_;rintro W b0 ⟨rfl,bT,ah⟩;have h:=λm=>jn (ah▸jn (V R) bT) m;have bv:aA b0 (N (J g.1) 1)=ae (aS k):=ah▸bG
 clear aY ah bG R az;by_cases bM:d<28
 ·have aC:(d:Int)<28:=G;go_wp2;go_quiet (fail);go_wp2;exact dQ (v:=mN af) pz U ⟨by rw[V a,b8<|bJ bM],V h _⟩
 have aC:¬(d:Int)<28:=G;have bz:dC ((d:Int)<28)=ak:=by simpa using aC
 by_cases bO:E s<d
 ·have aJ:(E s:Int)<d:=G
  go_wp2;go_quiet (fail);go_wp2;exact dQ (v:=mN af) pz U ⟨by rw[V a,b8<|bE<|bJ bO],V h _⟩
 have aJ:¬(E s:Int)<d:=G;have bB:dC ((E s:Int)<d)=ak:=by simpa using aJ
 by_cases aa:ar%16384=0
 case neg=>
  have aU:((ar:Int)%16384 != 0)=aD:=ct;go_wp2_with fail;go_quiet ((go_at_call 111;exact Calls.quiet_of<|p _));go_wp2;exact dQ (v:=mN af) pz U ⟨by rw[V a,b8<|bE<|bE<|bJ aa],V h _⟩
 have aU:((ar:Int)%16384 != 0)=ak:=ct;have⟨r,L⟩:=bm<|s[9]
 have bH:∀c:9<b7 (D s),(D s)[9]=r:=λc=>b5 L;have a8:s.getD 9 0=r:=by rw[L,iA,fs G];rfl
 rw[a8]at a;have:9<(E s:Int):=G;have⟨F,j⟩:=bm<|bg r
 have bX:(bg r:Int)=F:=by rw[j]
 rw[<-j]at a;have⟨l,w,cb⟩:=pk s 16 20 4 U;rw[<-w]at a;have:¬(E s:Int)<20:=G;have bn:=O aa;clear a8 L j aa;by_cases ab:F=17
 case neg=>
  have aV:((F:Int) != 17)=aD:=ct;go_wp2_with fail;go_quiet ((go_at_call 111;exact Calls.quiet_of<|p _));go_wp2;exact dQ (v:=mN af) pz U ⟨by rw[V a,b8<|bE<|bE<|bE<|bJ ab],V h _⟩
 have aV:((F:Int) != 17)=ak:=ct;by_cases y:l=k
 case neg=>
  have aF:=K_ y;clear ab w;go_wp2_with fail;go_quiet ((go_at_call 111;exact Calls.quiet_of<|p _));go_wp2;exact dQ (v:=mN af) pz U ⟨by rw[V a,b8<|bE<|bE<|bE<|bE y],V h _⟩
 have aF:=GK y;rw[bV (by have:=V bn;rintro(c|c|c|c|c)<;>first|contradiction|omega)]at a;obtain⟨e,I,b_⟩:=pk s 20 d (d-20) G;have bQ:E e=d-20:=by rw[I,iv,il];omega
 rw[<-I]at a;have:b7 (D e)=d-20:=by rw[cV,bQ]
 have:¬(d:Int)<20:=G;have⟨n,X,cc⟩:=pk s 12 16 4 U;rw[<-X]at a;have aB:=O λb=>xu e 4 b G G;have br:E n<=4:=by rw[X,iv];omega
 have bU:E l<=4:=by rw[w,iv];omega
 clear ab y w I X;go_wp2;go_quiet ((go_at_call 111;exact Calls.quiet_of<|p _));go_wp2_with fail;refine(aB _).m λb1 ⟨bR,a3⟩=>?_;have t:=λm=>a3▸jn (jn (h nq) bR) m
 have bl:=O λb=>xu e 2 b G G;unfold s1 at a;have au:=O λc:8<=cD e 4=>T8 e (cD e 4) 0 G;have av:=O λc:8<=cD e 4=>T8 e (cD e 4) 6 G;have:=B8 e 4;generalize cD e 4=m,cD e 2=T at*;clear aB a3 h bv b3 bF bH bW bX aw aH aU aV aF p bw bz bB;by_cases bp:m<8
 ·have aK:(m:Int)<8:=G;go_wp2;exact dQ (v:=mN af) pz U ⟨by rw[V a,b8<|bJ bp],V t 0⟩
 have aK:¬(m:Int)<8:=G;have bD:dC ((m:Int)<8)=ak:=by simpa using aK
 by_cases bL:E e<m
 ·have bs:(((d-20:Nat):Int))<(m:Int):=G;go_wp2;exact dQ (v:=mN af) pz U ⟨by rw[V a,b8<|bE<|bJ bL],V t 0⟩
 have bs:¬(((d-20:Nat):Int))<(m:Int):=G;have aM:=O<|bl b1;go_wp2_with fail;refine aM.m λb2 ⟨bS,a4⟩=>?_;have A:=λm=>a4▸jn (t bS) m
 clear a4 bl aM t bD;by_cases a0:T=53
 case neg=>
  have bt:((T:Int) != 53)=aD:=ct;go_wp2;exact dQ (v:=mN af) pz U ⟨by rw[V a,b8<|bE<|bE a0],V A 0⟩
 have bt:((T:Int) != 53)=ak:=ct;rw[bV G,<-V au G,<-V av G]at a;obtain⟨v,x,cd⟩:=pk e 0 m m G;rw[pW]at x;rw[<-x]at a;have a2:E v=m:=by rw[x,iv];omega
 have:b7 (D v)=m:=by rw[cV,a2]
 have P:=O λb=>xu v 6 b G G;have ay:=O λb=>xu v 0 b G G;have:(D v).extract 8 m=D (bi 8 v):=a2▸zc v 8 U
 generalize bi 8 v=bf at*;have aW:=O λb=>SP n l m b G G G;have⟨aj,Q,b6,bu⟩:=ix (n++l++[0,17]++[aO m,cL m]) v;rw[<-Q]at a;have ba:=O λb=>FP aj b (by rw[Q];simp;omega);have b9:¬9223372036854775807<b7 (D<|n++l++[0,17]++[aO m,cL m])+m:=by rw[cV];simp;omega
 generalize n++l++[0,17]++[aO m,cL m]=pp,hJ (ci aD aj)=H at*;generalize cD v 6=S,cD v 0=bb at*;clear au av a0 x Q br bU bu;go_wp2;by_cases bc:S=0
 ·go_quiet ((go_at_call 111;exact Calls.quiet_of<|P _));go_wp2;have Y:=O λd=>jn (A nq) d;generalize dS b2 nq=aq at*;go_quiet ((go_at_call 111;exact Calls.quiet_of<|ay _));go_wp2;exact dQ (v:=mN<|ae (bf,bb)) pz U ⟨by rw[V a,bV λc=>c.1 bc],V Y _⟩
 have:((S:Int) != 0)=aD:=ct;have:(16:Int)<=E s:=G;have aP:ao (∀b,a6 g b->a_ aL 111 #[aS v,M 6] b (cI (M S) g)):=λb i=>(P b).mono λW B c=>bd c.1<|c.2.elim λd bP=>bP▸jn i d
 have aR:ao (∀b,a6 g b->a_ aL 59 #[aS n,aS l,M m] b (cI (aS pp) g)):=λb i=>(aW b).mono λW B c=>bd c.1<|bC i (bN c.2 i.4)
 have aT:ao (∀b,a6 g b->a_ aL 58 #[aS aj] b (cI (M H) g)):=λb i=>(ba b).mono λW B c=>bd c.1<|bC i (bN c.2 i.4)
 have aX:=V A 1;clear aW ba A P
 go_region_held (λB=>a6 g B) (first|assumption|exact aX)
  (first
   |(go_at_call 111;go_loud (refine(aP _ fi).m λaq z=>?_))
   |(go_at_call 59;go_loud (refine(aR _ fi).m λaq z=>?_))
   |(go_at_call 58;go_loud (refine(aT _ fi).m λaq z=>?_)))
 clear aP aR aT aX;by_cases aI:H=65535
 ·have Y:=O λd=>jn z d;go_wp2;go_quiet ((go_at_call 111;exact Calls.quiet_of<|ay _));go_wp2;exact dQ (v:=mN<|ae (bf,bb)) pz U ⟨by rw[V a,bV λc=>c.2 aI],V Y _⟩
 ·have:((H:Int) != 65535)=aD:=ct;go_wp2;exact dQ (v:=mN af) pz U ⟨by rw[V a,b8 ⟨bc,aI⟩],z⟩
def nF(ρ:ap->ap)(b a s:ap):ap:=
 if E s<14\/(be 6 s≠b/\be 6 s≠[255,255,255,255,255,255])then []
 else if(bi 12 s).take 2=[8,6]then t7 b a (bi 14 s)
 else if(bi 12 s).take 2≠[8,0]then []
 else match pd a (bi 14 s)with
  |none=>[]
  |some (m,c)=>if ρ m=[]then []else(bi 6 s).take 6++b++[8,0]++oN a (be 4<|bi 26 s) (nJ a (be 4<|bi 26 s) 53 c<|ρ m)
def TL{m:ap}(b:s1 d o P=ae (m,a)):E m<=65535/\a<=65535:=by unfold s1 at b;split at b;{cases b};{split at b;{cases b};{cases b;refine bd ?_<|B8 _ _;rw[il,iv];let:=B8 P 4;omega}}
def acv(b:pd d o=ae (P,a)):28<=E o/\E P<=65535/\a<=65535:=by unfold pd at b;split at b;{cases b};{split at b;{cases b};{exact bd G<|TL b}}
def acw(b:ap)(c:E d%2=0):ci aD (d++[0,0]++b)=ci aD (d++b):=by rw[iz,SA _ _ c,SA _ _ c];simp[ci]
def acx{j i:ap}(h:c=8+E P)(k:g=vr d o c)(l:n=tX d o 53 a P):j++i++[8,0]++(pi c++[aO g,cL g]++(d++o))++oy 53 a P++[aO n,cL n]++P=j++i++[8,0]++oN d o (nJ d o 53 a P):=by
 let e:E (nJ d o 53 a P)=c:=by simp[nJ,oy];omega
 rw[oN,e,<-k];rw[nJ,<-l];simp only[iz]
def acy:ci aD (pi a++[0,0]++(d++o))=ci aD (pi a++d++o):=by rw[acw _<|by simp[pi],iz]
def acz(b e:ap)(c:Nat)(h:a=8+E d):hJ (ci aD<|b++e++[0,17]++[aO a,cL a]++oy 53 c d++[0,0]++d)=o_ b e (oy 53 c d++[0,0]++d):=by
 let g:E (oy 53 c d++[0,0]++d)=a:=by simp[oy];omega
 rw[o_,g];exact CL
abbrev lm(b:aQ)(c d:ap)(a:aQ):Prop:=aA a (N (J b.1) 0)=ae (aS c)/\aA a (N (J b.1) 1)=ae (aS d)/\J b.1<J a.1/\a6 b a
def lm.call(a:lm b d o f)(h:a6 f m):lm b d o m:=
 ⟨(h.cell (p:=⟨J b.1,0,af⟩) a.2.2.1).trans a.1,(h.cell (p:=⟨J b.1,1,af⟩) a.2.2.1).trans a.2.1,eA a.2.2.1 h.4,bC a.2.2.2<|bN h a.2.2.2.4⟩
def lm.drewN(a:lm f o d b)(e:Nat):lm f o d (dS b e):=⟨a.1,a.2.1,a.2.2.1,jn a.2.2.2 e⟩
def lm.of(i:lm b o d f){v:Array bk}(j:a_ aL a v f<|cI e f):a_ aL a v f λh k=>h=bh e/\lm b o d k:=j.mono λ_ _ c=>⟨c.1,i.call c.2⟩
def E9(h:φ:=by go_quiet (fail);go_wp2;go_meet;exact⟨by rw[hb],_,U⟩):φ:=h
def N3{ρ:ap->ap}{s:ap}(dM:E s<=10000000)(dd:E d=6)(de:E o=4)(cq:∀m:ap,E m<=100000->E (ρ m)<=1232/\∀a,a6 b a->a_ aL 15 #[e,aS m] a (cI (aS<|ρ m) a)):a_ aL 19 #[e,jW d o,aS s] b (cI (aS<|nF ρ d o s) b):=by
 have:=cV s;have⟨aK,av⟩:=bm<|aN b<|aZ #[am<|D d,am<|D o] 47;have ar:bq aK (J b.1) [aS d,aS o] 47:=av▸bq.fF b _ _
 have cp:a6 b aK:=av▸(cU (J b.1) b).alloc bo _
 have aJ:=O<|cj ar cp;have⟨c1,aC⟩:=bm<|nF ρ d o s;rw[<-aC];unfold nF at aC;have g:=O aC;have cJ:=O cq;have⟨S,H,dE⟩:=pk s 0 6 6 U;have⟨T,L,dF⟩:=pk s 12 14 2 U;rw[pW]at H;rw[<-H,<-L]at g;obtain⟨w,hb⟩:∃w:Bool,w=dC (E s<14\/(S≠d/\S≠[255,255,255,255,255,255])):=eR _ U
 have R:=O hb;have ca:=ar.cell 0 ax;have bG:=ar.cell 1 ax;simp only[eB,eG]at ca bG;have bn:=O av;clear aC cq hb ar cp H L av;go_in;go_upto_region 1 with fail;rw[<-V bn]
 go_cut [31]from 17 to 31 λv bb=>v=aG w/\ao (∃c,bb=dS aK c)
 ·by_cases h:E s<14
  ·have az:(E s:Int)<14:=G;have hb:w=aD:=by rw[V R];simp[h]
   exact E9
  have az:¬(E s:Int)<14:=G;have al:dC ((E s:Int)<14)=ak:=by simpa using az
  have dx:¬(E s:Int)<6:=G;by_cases i:S=d
  ·have aI:=GK i;have hb:w=ak:=by rw[V R];simp[h,i]
   clear i;exact E9
  have aI:=K_ i;by_cases n:S=[255,255,255,255,255,255]
  ·have dj:((D S).toList==[255,255,255,255,255,255])=aD:=by rw[n,gC];rfl
   have hb:w=ak:=by rw[V R];simp[h,n]
   clear n;exact E9
  have dj:((D S).toList==[255,255,255,255,255,255])=ak:=by rw[gC,ju];exact n
  have hb:w=aD:=by rw[V R];simp[i,n]
  exact E9
 case rest=>
 obtain⟨rfl,dA,cx⟩:=hcut;have r:bq wc (J b.1) [aS d,aS o] 47/\a6 b wc:=cx▸(bd aJ.1<|jn aJ.2 dA)
 have a3:=O r;have cS:=r.1.cell 0 ax;have al:=r.1.cell 1 ax;simp only[eB,eG]at cS al;have aP:=V R;have dv:=r.1.lt;have aW:ao (lm b d o wc):=⟨cS,al,dv,r.2⟩
 clear cx aJ ca bG bn r R;cases w with
 |true=>
  go_wp2;go_ret;exact⟨by rw[V g,b8<|oH<|b5 aP];rfl,a3.2⟩
 |false=>
 have a2:=of_decide_eq_false<|b5 aP;rw[bV a2]at g;have dJ:14<=E s:=by by_cases a0:E s<14;exact absurd (bJ a0) a2;omega
 have dx:¬(E s:Int)<14:=G;have⟨C,X⟩:=bm<|bi 14 s;have dG:(D s).extract 14 (E s)=D C:=X▸zc s 14 U
 have cw:E C+14=E s:=by rw[X,il];omega
 rw[<-X]at g;have aH:=O<|cj X cw;clear a2 aP X cw;by_cases h:T=[8,6]
 ·rw[b8 h]at g;have az:((D T).toList==[8,6])=aD:=by rw[h,gC];rfl
  have cb:=O λa=>act d o C a (cd aH.2) G G;rw[<-V g]at cb;clear h;go_wp2
  go_region_held (λk=>aA k (N (J b.1) 0)=ae (aS d)/\aA k (N (J b.1) 1)=ae (aS o)/\J b.1<J k.1/\a6 b k) (first|assumption|exact lm.drewN (V aW) 1)
   (first|(go_at_call 55;go_loud (refine(lm.of fi<|cb _).m λcK t=>?_)))
  have dl:=O t.2.2.2;clear t;go_wp2;go_ret;exact bd U dl
 rw[bV h]at g;have az:((D T).toList==[8,6])=ak:=by rw[gC,ju];exact h
 by_cases i:T=[8,0]
 case neg=>
  rw[b8 i]at g;have aI:((D T).toList==[8,0])=ak:=by rw[gC,ju];exact i
  go_wp2;go_ret;exact⟨by rw[V g];rfl,a3.2⟩
 have aI:((D T).toList==[8,0])=aD:=by rw[i,gC];rfl
 rw[bV λa0=>a0 i]at g;have bl:=O<|acu d o C wc<|cd aH.2;clear h i;go_wp2_with fail;refine bl.m ?_;intro cK cr;have an:=O<|aW.call cr;clear bl aW a3 cr cS al;cases ad:pd o C with
 |none=>
  rw[ad]at g;simp only[mN];clear ad;go_wp2;go_ret;exact⟨by rw[V g];rfl,an.2.2.2⟩
 |some dz=>
 obtain⟨m,u⟩:=dz;rw[ad]at g;simp only[mN];simp only at g;have:=acv ad;have⟨dL,bO⟩:=V cJ m G;have cz:=O<|bO cK an.2.2.2;generalize ρ m=j at*;clear ad cJ bO;go_wp2_with fail;refine(lm.of (V an)<|V cz).m ?_;intro dN cn;have aY:=O cn;have df:=cV j;clear cz cn an;by_cases P:j=[]
 ·have c3:(D j).toList.isEmpty=aD:=by rw[gC,P];rfl
  rw[b8 P]at g;clear P;go_wp2;go_ret;exact⟨by rw[V g];rfl,aY.2.2.2⟩
 have c3:(D j).toList.isEmpty=ak:=by rw[gC];show j.isEmpty=ak;simpa using P
 rw[bV P]at g;have:=cV C;have⟨l,H,dV⟩:=pk C 12 16 4 U;have⟨aX,L,dW⟩:=pk s 6 12 6 U;have cc:be 4 (bi 26 s)=l:=by rw[H,aH.1,my]
 rw[cc,<-L]at g;have dy:E l=4:=by rw[H,iv,il];omega
 have dw:E aX=6:=by rw[L,iv,il];omega
 clear H L cc P;have⟨c,cu⟩:=bm<|8+E j;have⟨A,cs⟩:=bm<|20+c;have c2:ai.wrap (8+(E j:Int))=(c:Int):=fl
 have a4:ai.wrap (20+(c:Int))=(A:Int):=fl
 have:c<=2000:=G;have bv:=O λa=>nW A a G;have⟨q,p,ab,I⟩:=ix [69,0] [aO A,cL A];have⟨h,x,z,K⟩:=ix q [0,0,64,0,64,17];have dn:(⟨#[69,0]⟩:ByteArray)++D [aO A,cL A]=D q:=ab;have aq:D q++⟨#[0,0,64,0,64,17]⟩=D h:=z;have aV:h=pi c:=by rw[x,p,cs];rfl
 have aR:b7 (D h)=10:=by rw[aV];rfl
 have c4:b7 (D q)=4:=by rw[p];rfl
 have c5:b7 (D [aO A,cL A])=2:=U;have W:=O<|cj cu aV;clear p x ab z I K cu cs aV;go_wp2_with fail;refine(lm.of (V aY)<|bv _).m ?_;intro dD aF;have cy:=O aF;have bG:=aF.2.1;have:¬(E C:Int)<16:=G;have c6:b7 (D o)=4:=by rw[cV,de]
 have c7:b7 (D l)=4:=by rw[cV,dy]
 have⟨aM,ck,dt,cT⟩:=ix o l;have bP:b7 (D aM)=8:=by rw[cT,c6,c7]
 have bj:=O ck;clear aF aY bv cT ck;go_wp2;go_quiet (fail);have⟨i,y,ac,F⟩:=ix h [0,0];have⟨n,Y,cl,ah⟩:=ix i aM;have dp:D h++⟨#[0,0]⟩=D i:=ac;have bQ:b7 (D i)=12:=by rw[F,aR];rfl
 have bR:=O λa=>FP n a (by rw[<-cV,ah,bQ,bP];omega);have:=vf<|ci aD n;have bS:hJ (ci aD n)=hJ (ci aD<|pi c++o++l):=by rw[Y,y,V bj,W.2,acy]
 generalize hJ (ci aD n)=bc at*;have⟨cX,r⟩:=bm<|65535-bc;have cY:ai.wrap (65535-(bc:Int))=(cX:Int):=fl
 have bT:cX=vr o l c:=by rw[r,bS];rfl
 have bw:=O λa=>nW cX a G;have⟨co,Z,cm,aj⟩:=ix h [aO cX,cL cX];have⟨a1,aa,dq,aB⟩:=ix co aM;have dH:b7 (D [aO cX,cL cX])=2:=U;have bU:b7 (D co)=12:=by rw[aj,aR];rfl
 have c8:b7 (D a1)=20:=by rw[aB,bU,bP]
 have bW:a1=pi c++[aO cX,cL cX]++(o++l):=by rw[aa,Z,V bj,W.2]
 have cD:=O<|cj bT bW;have cC:=O<|cy.drewN nq;generalize dS dD nq=dO at*;clear y Y Z aa ac F ah aj aB bS r bT bW cy bG;go_wp2_with fail;refine(lm.of (V cC)<|bR _).m ?_;intro dP br;have cA:=O br;clear br cC bR;go_wp2_with fail;refine(lm.of (V cA)<|bw _).m ?_;intro dQ bt;have cH:=O bt;clear bt cA bw;have bz:ao (∀a,a_ aL 57 #[M 53] a<|cI (aS [aO 53,cL 53]) a):=λa=>nW 53 a G;have bB:=O λa=>nW u a G;have bD:=O λa=>nW c a G;have⟨u0,cg,dr,cO⟩:=ix [aO 53,cL 53] [aO u,cL u];have⟨u1,ch,ds,cR⟩:=ix u0 [aO c,cL c];have bX:b7 (D u0)=4:=by rw[cO];rfl
 have bY:b7 (D u1)=6:=by rw[cR,bX];rfl
 have c0:b7 (D [aO 53,cL 53])=2:=U;have c9:b7 (D [aO u,cL u])=2:=U;have:b7 (D [aO c,cL c])=2:=U;have b0:u1=oy 53 u j:=by rw[ch,cg,W.1];rfl
 have bp:=O b0;clear cg ch cO cR b0;go_wp2_with fail;refine(lm.of (V cH)<|bz _).m ?_;intro dR bI;have cN:=O bI;clear bI cH bz;go_wp2_with fail;refine(lm.of (V cN)<|bB _).m ?_;intro dT bH;have bf:=O bH;clear bH cN bB;go_wp2_with fail;refine(lm.of (V bf)<|bD _).m ?_;intro dU b1;have b2:=O b1;clear b1 bf bD;go_wp2;clear c2 a4 cY dn aq aR c4 c5 dp cl bQ cm bU dH dr ds bX c0 c9 dt dG dE dF;have aT:=O λa=>SP o l c a G G G;have⟨cB,aw⟩:=bm<|o++l++[0,17]++[aO c,cL c];rw[<-aw]at aT;have⟨a5,p,ab,I⟩:=ix cB u1;have⟨a8,x,z,K⟩:=ix a5 [0,0];have⟨ay,y,ac,F⟩:=ix a8 j;have aq:D a5++⟨#[0,0]⟩=D a8:=z;have bM:b7 (D cB)=12:=by rw[cV,aw];simp;omega
 have b3:b7 (D a5)=18:=by rw[I,bM,bY]
 have b4:b7 (D a8)=20:=by rw[K,b3];rfl
 have bL:¬9223372036854775807<20+E j:=G;have b6:=O λa=>FP ay a (by rw[<-cV,F,b4,df];omega);have:=vf<|ci aD ay;have b9:hJ (ci aD ay)=o_ o l (oy 53 u j++[0,0]++j):=by rw[y,x,p,aw,V bp,acz o l u W.1]
 generalize hJ (ci aD ay)=bu at*;have⟨Q,bs⟩:=bm<|65535-bu;have a4:ai.wrap (65535-(bu:Int))=(Q:Int):=fl
 have⟨B,aU⟩:=bm<|tX o l 53 u j;have bK:ao (B=if Q=0 then 65535 else Q):=by rw[ao,aU,tX,<-b9,<-bs]
 have du:B<65536:=by rw[V bK];split<;>omega
 have da:=O aU;clear aw p x y z I K F b9 bs aU
 go_region_held (λk=>aA k (N (J b.1) 0)=ae (aS d)/\aA k (N (J b.1) 1)=ae (aS o)/\J b.1<J k.1/\a6 b k) (first|assumption|exact lm.drewN (V b2) 1)
  (first
   |(go_at_call 59;go_loud (refine(lm.of fi<|aT _).m λcM t=>?_))
   |(go_at_call 58;go_loud (refine(lm.of fi<|b6 _).m λcM t=>?_)))
 have b_:=O t;clear t b2 aT b6 ab ac aq b3 b4 bL bM a4
 go_upto_if 103 with fail
 go_cut [16]from 102 λv bb=>v=M B/\cM=bb
 ·have au:=V bK;by_cases q:Q=0
  ·have dk:((Q:Int)==0)=aD:=ct;rw[b8 q]at au;subst au;clear q;go_wp2;go_meet;exact oa
  ·have dk:((Q:Int)==0)=ak:=ct;rw[bV q]at au;subst au;clear q;go_wp2;go_meet;exact oa
 case rest=>
 obtain⟨rfl,rfl⟩:=hcut;have bF:=O λa=>nW B a du;have⟨a9,p,ab,I⟩:=ix aX d;have⟨ba,x,z,K⟩:=ix a9 [8,0];have⟨cE,y,ac,F⟩:=ix ba a1;have⟨cF,Y,cl,ah⟩:=ix cE u1;have⟨cG,Z,cm,aj⟩:=ix cF [aO B,cL B];have⟨dB,aa,dq,aB⟩:=ix cG j;have aq:D a9++⟨#[8,0]⟩=D ba:=z;have cZ:b7 (D aX)=6:=by rw[cV,dw]
 have dI:b7 (D d)=6:=by rw[cV,dd]
 have db:b7 (D a9)=12:=by rw[I,cZ,dI]
 have dc:b7 (D ba)=14:=by rw[K,db];rfl
 have dg:b7 (D cE)=34:=by rw[F,dc,c8]
 have dh:b7 (D cF)=40:=by rw[ah,dg,bY]
 have dK:b7 (D cG)=42:=by rw[aj,dh];rfl
 have:b7 (D [aO B,cL B])=2:=U;have bL:¬9223372036854775807<42+E j:=G;have:(12:Int)<=E s:=G;have dm:ao (dB=c1):=by rw[ao,aa,Z,Y,y,x,p,V bp,cD.2,V g];exact acx W.1 cD.1<|V da
 clear p x y Y Z aa z I K F ah aj aB;go_wp2
 go_region_held (λk=>aA k (N (J b.1) 0)=ae (aS d)/\aA k (N (J b.1) 1)=ae (aS o)/\J b.1<J k.1/\a6 b k) (first|assumption|exact lm.drewN (V b_) 1)
  (first|(go_at_call 57;go_loud (refine(lm.of fi<|bF _).m λgI t=>?_)))
 have di:=O t.2.2.2;clear t b_ bF;go_wp2;go_ret;exact⟨by rw[<-V dm];rfl,di⟩
def TM(q:ed b a d l)(g:E d<=1000000000){c x}(n:eP d l 6=(o,P,t))(K:eP P t 4=(c,x,H)):a_ aL 215 #[bv a] b λj y=>j=bh (ce #[aS o,aS c])/\ed y a x H/\ey a b y:=by have w:=uU d l 6;rw[n]at w;simp only at w;let L:=q.lt;let h:J b.1≠a:=G;let W:ed (aN b<|aZ #[am ⟨#[]⟩,am ⟨#[]⟩] 47) a d l:=(dv _ _ _ L).trans q;let Y:ao (bq (aN b<|aZ #[am ⟨#[]⟩,am ⟨#[]⟩] 47) (J b.1) [am ⟨#[]⟩,am ⟨#[]⟩] 47):=bq.fF b _ _;have m:=O<|pO 6 W G g;rw[n]at m;let S:=O K;let s:ao (ey a b<|aN b<|aZ #[am ⟨#[]⟩,am ⟨#[]⟩] 47):=⟨U,U,U,ax,λc aO _=>dv _ _ _ aO⟩;go_in;go_wp21;refine m.m λab ⟨Q,p,Z⟩=>?_;have u:=O<|pO 4 Q G G;rw[S]at u;let X:=O<|Y.kept p h;let C:=O<|za s p;go_wp21;refine u.m λz ⟨R,r,aa⟩=>?_;let i:=X.kept r h;let e:=za C r;have k:=(i.set 0<|aS o).set 1<|aS c;simp only[iR,iy]at k;have I:=i.cell 0 ax;have bG:=i.cell 1 ax;let:=i.frozen;have A:=k.cell 0 ax;have B:=k.cell 1 ax;simp only[eB,eG]at I bG A B;let V:ao (ed (a7 (a7 z ⟨J b.1,0,af⟩<|am<|D o) ⟨J b.1,1,af⟩<|am<|D c) a x H):=((dr _ _ _ _ λj=>h<|b5 j).trans<|dr _ _ _ _ λj=>h<|b5 j).trans R;let F:ao (ey a b<|a7 (a7 z ⟨J b.1,0,af⟩<|am<|D o) ⟨J b.1,1,af⟩<|am<|D c):=⟨e.1,e.2,e.3,by simpa [a7]using e.4,λT M N=>((dr _ _ _ _<|by grind).trans<|dr _ _ _ _<|by grind).trans<|e.5 T M N⟩;go_wp2;refine dQ (v:=ce #[am<|D o,am<|D c]) (by simp[c_,results215,go_sem,A,B]) U ⟨U,V,F⟩
def p4(a:Nat)(d b e c:ap):ap:=[0,1,8,0,6,4]++[aO a,cL a]++d++b++e++c
def acV(a:Nat){b e c}(i)(p:a<65536)(r:E Q<=1000)(t:E b<=1000)(u:E e<=1000)(w:E c<=1000):a_ aL 174 #[ce #[M a,aS Q,aS b,aS e,aS c]] i (cI (aS<|p4 a Q b e c) i):=by
 have:=od (a:Int)
 let j:ao (∀(h:Nat) (g:aQ),h=J g.1->a_ aL 164 #[bL h 0 6 6] (aN g<|aZ #[cP 204<|am ⟨#[0,1,8,0,6,4]⟩,cP 259<|ag .u16 a,cP 204<|am<|D Q,cP 204<|am<|D b,cP 204<|am<|D e,cP 204<|am<|D c] 275) λl q=>l=bh (aS<|p4 a Q b e c)/\cv h g q):=λh g o=>by{subst o;have:=xD [ev [0,1,8,0,6,4],fB a,ev Q,ev b,ev e,ev c] g (jL (ka _)<|jL (l3 a p)<|jL (ka Q)<|jL (ka b)<|jL (ka e)<|pC<|ka c) ax AC;rw[show d_ [ev [0,1,8,0,6,4],fB a,ev Q,ev b,ev e,ev c]=p4 a Q b e c by simp[d_,ev,fB,p4]]at this;exact this};go_in;go_wp21;refine(j _ _ ax).m λx n=>?_;let k:=O<|((cU (J i.1) i).alloc bo _).trans<|bN n ax;go_wp2;go_ret;exact bd U k
abbrev B2(e:Nat)(c a d b:ap):bk:=ce #[M e,aS c,aS a,aS d,aS b]
def acW(z A:ap)(e:ap){a g q:ap}(H:Nat)(i:aQ)(I:E a<=1000)(K:E e<=1000)(al:E o<=1000)(an:E g<=1000)(U:∀c,a_ aL 173 #[aS d] c<|cI (bZ #[B2 1 a g q o,aG aD]) c):a_ aL 119 #[mI z A H d,jW e o] i (cI (aS<|a++e++[8,6]++p4 2 e o a g) i):=by
 have R:=O U;have V:=O<|mX.IJ i z A H d e o;have L:E (p4 2 e o a g)<=100000:=by simp[p4];omega
 have P:ao (∀c,a_ aL 174 #[ce #[M 2,aS e,aS o,aS a,aS g]] c<|cI (aS<|p4 2 e o a g) c):=λc=>acV 2 c G K al I an;have Q:ao (∀c,a_ aL 175 #[ce #[aS a,aS e,M 2054,aS<|p4 2 e o a g]] c<|cI (aS<|a++e++[8,6]++p4 2 e o a g) c):=λc=>Sj 2054 c I K L G;generalize p4 2 e o a g=ar at*;go_in;go_wp21;refine(R _).m λb aj=>?_;let ad:=V.next aj;let r:=ad.alloc<|aZ #[ag ai 1,am<|D a,am<|D g,am<|D q,am<|D o] 281;let aq:=bq.fF b [M 1,aS a,aS g,aS q,aS o] 281;have t:=r.alloc<|aZ #[ag ai 2,am<|D e,am<|D o,am<|D a,am<|D g] 281;have l:=bq.fF (aN b<|aZ #[ag ai 1,am<|D a,am<|D g,am<|D q,am<|D o] 281) [M 2,aS e,aS o,aS a,aS g] 281;rw[eE]at l;have x:=aq.alloc<|aZ #[ag ai 2,am<|D e,am<|D o,am<|D a,am<|D g] 281;have T:=r.2.cell 0 ax;have bG:=r.2.cell 1 ax;simp only[eB,eG]at T bG;let⟨k,u⟩:=bm<|aN (aN b<|aZ #[ag ai 1,am<|D a,am<|D g,am<|D q,am<|D o] 281)<|aZ #[ag ai 2,am<|D e,am<|D o,am<|D a,am<|D g] 281;rw[<-u]at t l x;let au:bY (bx k) (J b.1) 1 (aS a)/\bY (bx k) (J i.1+1) 0 (aS e)/\bY (bx k) (J b.1+1) 0 (M 2)/\bY (bx k) (J b.1+1) 1 (aS e)/\bY (bx k) (J b.1+1) 2 (aS o)/\bY (bx k) (J b.1+1) 3 (aS a)/\bY (bx k) (J b.1+1) 4 (aS g)/\a6 i (bx k):=
  ⟨x.cell 1 ax,t.2.cell 0 ax,l.cell 0 ax,l.cell 1 ax,l.cell 2 ax,l.cell 3 ax,l.cell 4 ax,t.3.drew⟩
 let y:ao (∀c h:aQ,(bY c (J b.1) 1 (aS a)/\bY c (J i.1+1) 0 (aS e)/\bY c (J b.1+1) 0 (M 2)/\bY c (J b.1+1) 1 (aS e)/\bY c (J b.1+1) 2 (aS o)/\bY c (J b.1+1) 3 (aS a)/\bY c (J b.1+1) 4 (aS g)/\a6 i c)->a6 c h->(bY h (J b.1) 1 (aS a)/\bY h (J i.1+1) 0 (aS e)/\bY h (J b.1+1) 0 (M 2)/\bY h (J b.1+1) 1 (aS e)/\bY h (J b.1+1) 2 (aS o)/\bY h (J b.1+1) 3 (aS a)/\bY h (J b.1+1) 4 (aS g)/\a6 i h)):=λc h ah F=>by
  let n:∀(p:Addr) (v:bk),aA c p=ae v->aA h p=ae v:=λp v B=>(F.cell<|g_ c p B).trans B;let⟨W,X,Y,Z,aa,ab,ac,C⟩:=ah;exact⟨n _ _ W,n _ _ X,n _ _ Y,n _ _ Z,n _ _ aa,n _ _ ab,n _ _ ac,bC C<|bN F C.4⟩
 go_wp2;rw[<-u];clear u
 go_region_held (λj=>aA j (N (J b.1) 1)=ae (aS a)/\aA j (N (J i.1+1) 0)=ae (aS e)/\aA j (N (J b.1+1) 0)=ae (M 2)/\aA j (N (J b.1+1) 1)=ae (aS e)/\aA j (N (J b.1+1) 2)=ae (aS o)/\aA j (N (J b.1+1) 3)=ae (aS a)/\aA j (N (J b.1+1) 4)=ae (aS g)/\a6 i j) (first|assumption|go_keep)
  (first
   |(go_at_call 174;go_loud (refine(P _).m λj w=>?_;replace w:=y _ _ fi w))
   |(go_at_call 175;go_loud (refine(Q _).m λj w=>?_;replace w:=y _ _ fi w)))
 all_goals
  let S:=O w.2.2.2.2.2.2.2;go_wp2;go_ret;exact⟨eQ (λp=>bh<|aS p) ax,S⟩
def acX{h g k:ap}(a:∀q,a6 b q->a_ aL 119 #[mI o P 2054 h,jW d g] q (cI (aS k) q)):a_ aL 54 #[mI o P 2054 h,e,jW d g] b (cI (aS k) b):=by let j:=mX.IJ b o P 2054 h d g;let i:=O j.3;let n:=O<|a _ j.3;go_in;go_wp21;refine n.m λr p=>?_;let l:=O<|bC i<|bN p i.4;go_wp2;go_ret;exact⟨U,l⟩
def hY:ap:=[2,102,105,118,101,53]
def iO:ap:=[10,0,0,1]
def tu:ap:=[2,111,116,104,101,114]
def oC:ap:=hY++tu++[8,6]++([0,1,8,0,6,4]++[0,1]++tu++[10,0,0,2]++[110,111,98,111,100,121]++iO)
def Ad:ap:=tu++hY++[8,6]++p4 2 hY iO tu [10,0,0,2]
def My(h:φ:=by simp[c_,results173,go_sem,z0,z1,z2,z3,z4]):φ:=h
def TF(a:aQ)(aM:E o<=1000000000){A B C az F aB aC b e c:ap}{M N P:Bool}(W:eP o ak 6=(A,B,l))(X:e4 B l=(g,C,M))(Y:eP C M 6=(d,az,N))(Z:eP az N 4=(b,F,P))(aa:eP F P 6=(e,aB,t))(ab:eP aB t 4=(c,aC,H))(aP:E B<=1000000000)(aR:E C<=1000000000)(aS:E F<=1000000000):a_ aL 173 #[am<|D o] a λaK aT=>aK=bh (bZ #[B2 g d b e c,aG<|(D A).toList==[0,1,8,0,6,4] && !H])/\cv (J a.1) a aT:=by
 have ar:bq (aN (aN a<|aZ #[ag ai 0,am ⟨#[]⟩,am ⟨#[]⟩,am ⟨#[]⟩,am ⟨#[]⟩] 281)<|aZ #[am<|D o,aG ak] 195) (J a.1) [ag ai 0,am ⟨#[]⟩,am ⟨#[]⟩,am ⟨#[]⟩,am ⟨#[]⟩] 281:=(bq.fF a _ _).alloc _;have aw:ed (aN (aN a<|aZ #[ag ai 0,am ⟨#[]⟩,am ⟨#[]⟩,am ⟨#[]⟩,am ⟨#[]⟩] 281)<|aZ #[am<|D o,aG ak] 195) (J a.1+1) o ak:=by{have:=cW (aN a<|aZ #[ag ai 0,am ⟨#[]⟩,am ⟨#[]⟩,am ⟨#[]⟩,am ⟨#[]⟩] 281)<|aZ #[am<|D o,aG ak] 195;simpa [ed]using this};have ac:=O<|((cU (J a.1) a).alloc (cO _)<|aZ #[ag ai 0,am ⟨#[]⟩,am ⟨#[]⟩,am ⟨#[]⟩,am ⟨#[]⟩] 281).alloc ax<|aZ #[am<|D o,aG ak] 195;have y:=O<|pO 6 aw G aM;rw[W]at y;have aJ:=O ar;have au:=O X;have n:=O<|cj Y Z;have i:=O<|cj aa ab;clear ar aw W X Y Z aa ab;go_in;go_wp2_with (fail);refine y.m ?_;rintro aU ⟨ah,r,an⟩;have z:=O<|lW l ah aP;rw[au]at z;have aI:=O<|aJ.kept r G;have R:=O<|bC ac<|r.below G ct;have p:ao (J a.1+2<=J aU.1):=by rw[ao,an];simp
 clear ah r an y aJ ac au;go_wp2_with (fail);refine z.m ?_;rintro aV ⟨aj,w,aq⟩;have ay:=O<|TM aj aR n.1 n.2;have s:=O<|aI.kept w G;have S:=O<|bC R<|w.below G<|cd<|V p;have q:ao (J a.1+2<=J aV.1):=by rw[ao,aq];exact p
 clear aj w aq z aI R p n;go_wp2_with (fail);refine ay.m ?_;rintro aW ⟨al,j⟩;have aF:=O<|TM al aS i.1 i.2;have I:=O<|s.kept j G;have T:=O<|bC S<|j.below G<|cd<|V q;have u:=O<|cJ q j.4;clear al j ay s S q i;go_wp2_with (fail);refine aF.m ?_;rintro Q ⟨x,k⟩;have L:=O<|I.kept k G;have av:=O<|bC T<|k.below G<|cd<|V u;have aO:=cJ u k.4;have aH:ed (aN Q<|aZ #[ag ai g,am<|D d,am<|D b,am<|D e,am<|D c] 281) (J a.1+1) aC H:=(dv _ _ _ x.lt).trans x;have h:=L.alloc<|aZ #[ag ai g,am<|D d,am<|D b,am<|D e,am<|D c] 281;have ad:=O<|cf av G<|aZ #[ag ai g,am<|D d,am<|D b,am<|D e,am<|D c] 281;have:=aH.cells.2;have z0:=h.cell 0 ax;have z1:=h.cell 1 ax;have z2:=h.cell 2 ax;have z3:=h.cell 3 ax;have z4:=h.cell 4 ax;simp only[eB,eG]at z0 z1 z2 z3 z4;have:=h.frozen;have:J a.1≠J Q.1:=G;have:J a.1+1≠J Q.1:=G;have:J a.1<=J Q.1:=G;clear x k aF I T u L aO av aH h;go_wp2;cases K:((D A).toList==[0,1,8,0,6,4])with
 |true=>{go_region;all_goals(go_wp2;exact dQ (v:=bZ #[B2 g d b e c,aG<|!H]) My U ⟨by rw[K,uN],(((((ad.drew).setCell (cO _) _).setCell (cO _) _).setCell (cO _) _).setCell (cO _) _).setCell (cO _) _⟩)}
 |false=>{go_region;all_goals(go_wp2;exact dQ (v:=bZ #[B2 g d b e c,aG ak]) My U ⟨by rw[K,uM],(((((ad.drew).setCell (cO _) _).setCell (cO _) _).setCell (cO _) _).setCell (cO _) _).setCell (cO _) _⟩)}
def Fb(h:φ:=by go_wp2;go_ret;exact bd U aT):φ:=h
def TG{A p q B z C k:ap}(y:l=ak\/c≠1\/k≠q)(u:∀h,a_ aL 173 #[am<|D A] h λj n=>j=bh (bZ #[B2 c B z C k,aG l])/\cv (J h.1) h n):a_ aL 119 #[mI o d a A,jW p q] b λj n=>j=bh (am ⟨#[]⟩)/\cv (J b.1) b n:=by
 have r:=O u;have w:=O<|mX.IJ b o d a A p q;have t:=O y;clear u y;go_in;go_wp2_with (fail);refine(r _).m λL x=>?_;have g:=w.next x;have P:=g.size;have i:=g.alloc<|aZ #[ag ai c,am<|D B,am<|D z,am<|D C,am<|D k] 281;have bG:=i.2.cell 1 ax;simp only[eB,eG]at bG;have F:=g.2.cell 1 ax;simp only[eB,eG]at F;have aT:=O i.3;have N:J b.1+1≠J L.1:=G;clear x w r g i;cases l with
 |false=>{exact Fb}
 |true=>{
 by_cases H:c=1;{
 subst H;have aO:k≠q:=by{rcases t with e|e|e;{cases e};{exact absurd U e};{exact e}};have K:¬(D k).toList=(D q).toList:=by rw[gC,gC];exact aO
 have M:((D k).toList==(D q).toList)=ak:=by simpa using K
 clear aO t;exact Fb};{
 let I:¬(c:Int)=1:=G;let Q:((c:Int) != 1)=aD:=by simpa using I
 exact Fb}}
def ya(s:ap)(c:Bool)(d:Nat):∃a e b,eP s c d=(a,e,b):=⟨_,_,_,U⟩
def TH(s:ap)(b:Bool):∃c d a,e4 s b=(c,d,a):=⟨_,_,_,U⟩
def acZ{h m:ap}{w:aQ}(q:∀e,a_ aL 217 #[mm d o h] e λc k=>c=bh (bZ #[Kt a 53 m,aG aD])/\cv (J e.1) e k)(r:∀e,cv (J w.1) w e->a_ aL 14 #[C,am<|D m] e λc k=>c=bh (am ⟨#[]⟩)/\cv (J e.1) e k):a_ aL 177 #[mm d o h,C] w λc k=>c=bh (bZ #[mm [] [] [],aG ak])/\cv (J w.1) w k:=by have l:=O q;have n:=O r;have p:=O<|oz.ahh w d o h;clear q r;go_in;go_wp2_with (fail);refine(l _).m ?_;intro y t;have j:=p.next t;have G:=j.size;have i:B7 w (aN y<|aZ #[ag ai a,ag ai 53,am<|D m] 322) d o h (J y.1) a m:=⟨j.alloc _,bq.fF _ _ _⟩;have g:=O i;have x:=O<|n _ i.1.3;clear t p l j i n;go_wp2_with (fail);refine x.m ?_;intro H u;have b:=(g.next u).1;clear u g x;have z:=b.2.cell 0 ax;have A:=b.2.cell 1 ax;have B:=b.2.cell 2 ax;have F:=b.2.frozen;simp only[eB,eG]at z A B;have aT:=O b.3;clear b;go_wp2;refine dQ (v:=bZ #[ce #[am ⟨#[]⟩,am ⟨#[]⟩,am ⟨#[]⟩],aG ak]) ?_ U ?_;{simp[c_,results177,go_sem,z,A,B]};{exact Me}
def ac0{i l u w k x:ap}(t:k≠u)(p:∀n,a_ aL 176 #[am<|D i] n λh j=>h=bh (bZ #[mm w k x,aG aD])/\cv (J n.1) n j):a_ aL 120 #[mI d o a i,e,jW l u] b λh j=>h=bh (am ⟨#[]⟩)/\cv (J b.1) b j:=by
 have A:=O p;have q:=O<|mX.IJ b d o a i l u;have z:¬(D k).toList=(D u).toList:=by rw[gC,gC];exact t
 have B:((D k).toList==(D u).toList)=ak:=by simpa using z
 clear p t;go_in;go_wp2_with (fail);refine(A _).m λF r=>?_;have c:=q.next r;have C:=c.size;have g:=c.alloc<|aZ #[am<|D w,am<|D k,am<|D x] 285;have bG:=c.2.cell 1 ax;have y:=g.2.cell 1 ax;simp only[eB,eG]at bG y;have aT:=O g.3;clear r q A c g;exact Fb
def ac1{g s B}(z:g=[255,255,255,255,255,255])(A:g≠s)(y:∀c,a_ aL 53 #[aS Q] c<|cI (bZ #[mI g d a o,aG aD]) c)(w:∀c,a6 b c->a_ aL 54 #[mI g d a o,C,jW s P] c (cI (aS B) c)):a_ aL 18 #[C,jW s P,aS Q] b (cI (aS B) b):=by
 have r:=O y;have x:=(cU (J b.1) b).alloc bo<|aZ #[am<|D s,am<|D P] 47;have u:=O x;have p:=O<|bq.fF b [aS s,aS P] 47;have t:=O w;have M:¬(D g).toList=(D s).toList:=by rw[gC,gC];exact A
 have N:(D g).toList=[255,255,255,255,255,255]:=by rw[gC];exact z
 have:((D g).toList==(D s).toList)=ak:=by grind
 have:((D g).toList==[255,255,255,255,255,255])=aD:=by grind
 clear y x w z A M N;go_in;go_wp2_with fail;refine(r _).m λi h=>?_;have k:=bC u<|bN h ax;have L:=k.4;have l:=cf k L<|aZ #[am<|D g,am<|D d,ag ai a,am<|D o] 128;have j:=O<|t _ l;have q:=O l;have e:=p.below h ax;have n:=e.alloc<|aZ #[am<|D g,am<|D d,ag ai a,am<|D o] 128;have G:=e.cell 0 ax;have bG:=e.cell 1 ax;have H:=n.cell 0 ax;have I:=n.cell 1 ax;simp only[eB,eG]at G H bG I;have:=e.lt;clear h r u k p e n t l;go_wp2_with fail;refine j.m ?_;intro R K;have F:=O<|bC q<|bN K q.4;go_wp2;go_ret;exact bd U F
def kf(e:a+1<=E d):∃c b,d=c::b/\a<=E b:=by
 cases d with
 |nil=>grind
 |cons c b=>grind
def TI(g:8<=E d):∃a bG b c cB fe fJ e p,d=a::bG::b::c::cB::fe::fJ::e::p:=by obtain⟨a,u0,rfl,h⟩:=kf g;obtain⟨bG,u1,rfl,i⟩:=kf h;obtain⟨b,u2,rfl,j⟩:=kf i;obtain⟨c,u3,rfl,k⟩:=kf j;obtain⟨cB,u4,rfl,l⟩:=kf k;obtain⟨fe,u5,rfl,n⟩:=kf l;obtain⟨fJ,u6,rfl,o⟩:=kf n;obtain⟨e,u7,rfl,q⟩:=kf o;simp
def ac2(y:ap)(H:20<=E y):∃a b o p q r t u w x c d e g h i j k l n U,y=a::b::o::p::q::r::t::u::w::x::c::d::e::g::h::i::j::k::l::n::U:=by obtain⟨a,u0,rfl,I⟩:=kf H;obtain⟨b,u1,rfl,K⟩:=kf I;obtain⟨o,u2,rfl,N⟩:=kf K;obtain⟨p,u3,rfl,O⟩:=kf N;obtain⟨q,u4,rfl,P⟩:=kf O;obtain⟨r,u5,rfl,Q⟩:=kf P;obtain⟨t,u6,rfl,R⟩:=kf Q;obtain⟨u,u7,rfl,S⟩:=kf R;obtain⟨w,u8,rfl,T⟩:=kf S;obtain⟨x,u9,rfl,C⟩:=kf T;obtain⟨c,u10,rfl,L⟩:=kf C;obtain⟨d,u11,rfl,M⟩:=kf L;obtain⟨e,u12,rfl,V⟩:=kf M;obtain⟨g,u13,rfl,G⟩:=kf V;obtain⟨h,u14,rfl,B⟩:=kf G;obtain⟨i,u15,rfl,A⟩:=kf B;obtain⟨j,u16,rfl,z⟩:=kf A;obtain⟨k,X,rfl,D⟩:=kf z;obtain⟨l,Y,rfl,F⟩:=kf D;obtain⟨n,Z,rfl,W⟩:=kf F;grind
def ac3(l j i bG d e cB fe fJ h b)(D:c=bg i*256+bg bG)(q:g=bg d*256+bg e)(C:a=bg cB*256+bg fe)(B:n=bg fJ*256+bg h)(F:v=o_ l j (be a (i::bG::d::e::cB::fe::fJ::h::b))):s1 l j (i::bG::d::e::cB::fe::fJ::h::b)=if a<8\/E b<a-8 then af else if(n==0||v==65535)=aD/\g=53 then ae (be (a-8) b,c)else af:=by
 let r:cD (i::bG::d::e::cB::fe::fJ::h::b) 0=c:=by rw[D];show 256*bg i+bg bG=_;omega
 let t:cD (i::bG::d::e::cB::fe::fJ::h::b) 2=g:=by rw[q];show 256*bg d+bg e=_;omega
 let u:cD (i::bG::d::e::cB::fe::fJ::h::b) 4=a:=by rw[C];show 256*bg cB+bg fe=_;omega
 let w:cD (i::bG::d::e::cB::fe::fJ::h::b) 6=n:=by rw[B];show 256*bg fJ+bg h=_;omega
 rw[s1,r,t,u,w];let o:E (i::bG::d::e::cB::fe::fJ::h::b)=E b+8:=U;rw[o];by_cases y:a<8\/E b<a-8;{grind};{
 rw[bV y];let x:hJ (ci aD<|l++j++[0,17]++[aO a,cL a]++be a (i::bG::d::e::cB::fe::fJ::h::b))=v:=by{rw[F,o_,iv,o,ro G];simp};rw[x];by_cases z:g=53;{
 rw[bV G];by_cases A:(n==0||v==65535)=aD;{
 let:n=0\/v=65535:=by grind
 rw[bV<|show ¬(n≠0/\v≠65535) by omega,b8 ⟨A,z⟩];obtain⟨p,rfl⟩:∃p,a=p+8:=⟨a-8,G⟩;rfl};grind};grind}
def ac4(B r t l n x y o p z q u w h i j k C b A d e)(L:a=bg l*256+bg n)(F:c=bg o*256+bg p)(M:g=hJ (ci aD [r,t,l,n,x,y,o,p,z,q,u,w,h,i,j,k,C,b,A,d])){D}(N:D=(bg r==69&&(c%16384==0&&bg q==17))):pd B (r::t::l::n::x::y::o::p::z::q::u::w::h::i::j::k::C::b::A::d::e) =
   if a<28\/g≠65535 then af else if a-20<=E e then if D=aD/\[C,b,A,d]=B then s1 [h,i,j,k] [C,b,A,d] (be (a-20) e)else af else af:=by
 unfold pd;let K:E (r::t::l::n::x::y::o::p::z::q::u::w::h::i::j::k::C::b::A::d::e)=E e+20:=U;rw[K];let I:be 20 (r::t::l::n::x::y::o::p::z::q::u::w::h::i::j::k::C::b::A::d::e)=[r,t,l,n,x,y,o,p,z,q,u,w,h,i,j,k,C,b,A,d]:=U;let G:cD (r::t::l::n::x::y::o::p::z::q::u::w::h::i::j::k::C::b::A::d::e) 2=a:=by rw[L];show 256*bg l+bg n=_;omega
 let H:cD (r::t::l::n::x::y::o::p::z::q::u::w::h::i::j::k::C::b::A::d::e) 6=c:=by rw[F];show 256*bg o+bg p=_;omega
 rw[I,<-M,G,H];show(if E e+20<28\/bg r≠69\/g≠65535 then af else if a<28\/E e+20<a\/c%16384≠0\/bg q≠17\/[C,b,A,d]≠B then af else s1 [h,i,j,k] [C,b,A,d] (be (a-20) e))=_;grind
def BU(f:Nat)(b:Array bk)(c:aQ)(d:ap):Prop:=∀a,a6 c a->a_ aL f b a (cI (aS d) a)
def BU.next{e}(i:BU a e b d)(c:a6 b f):BU a e f d:=λh g=>i h<|bC c<|bN g c.4
def KG(ρ:ap->ap)(a b:ap):Option (ap×Nat)->bk
 |none=>bZ #[mm [] [] [],aG ak]
 |some (m,c)=>if ρ m=[]then bZ #[mm [] [] [],aG ak]else bZ #[mm b a<|nJ b a 53 c<|ρ m,aG aD]
def BV(ρ:ap->ap)(d c a b:ap):Option (ap×Nat)->ap
 |none=>[]
 |some (m,e)=>if ρ m=[]then []else d++c++[8,0]++oN a b (nJ a b 53 e<|ρ m)
def t8(ρ:ap->ap)(f:Nat)(b:bk)(a:aQ):Prop:=∀m:ap,E m<=100000->E (ρ m)<=1232/\BU f #[b,aS m] a (ρ m)
def t8.next{ρ}(d:t8 ρ a e b)(g:a6 b f):t8 ρ a e f:=λm c=>⟨(d m c).1,(d m c).2.next g⟩
def ac5(ρ d e l w p)(t:E d<=1000)(u:E e<=1000)(z:8<=E l)(B:E l<=70000)(A:t8 ρ 14 w p):a_ aL 177 #[mm d e l,w] p (cI (KG ρ d e<|s1 d e l) p):=by
 obtain⟨b,bG,h,i,cB,fe,fJ,j,c,rfl⟩:=TI z;have a:=λx=>aaZ b bG h i cB fe fJ j c x t u (by simp at B;omega) U U U U U;rw[ac3 d e b bG h i cB fe fJ j c U U U U U];have y:bg b*256+bg bG<65536:=by have:=gp b;have:=gp bG;omega
 generalize bg b*256+bg bG=sp,bg h*256+bg i=r at*;generalize bg cB*256+bg fe=n,bg fJ*256+bg j=C at*;generalize o_ d e (be n (b::bG::h::i::cB::fe::fJ::j::c))=F at*;unfold xI at a;by_cases k:n<8\/E c<n-8;{rw[b8 k];simp only[b8 k]at a;exact S9 0 0 (bJ U) a};{rw[bV k];simp only[bV k]at a;by_cases g:(C==0||F==65535)=aD/\r=53;{rw[b8 g];obtain⟨g,rfl⟩:=g;rw[g]at a;let⟨H,q⟩:=A (be (n-8) c) (by grind);unfold KG;simp only;generalize ρ (be (n-8) c)=D at*;by_cases o:D=[];{subst o;rw[b8 U];exact acZ a q};{rw[bV o];exact abp t u y o G a q}};{rw[bV g];refine S9 sp r ?_ a;grind}}
def ac6{ρ}(X){c}(ac)(an:E d<=6)(aq:E P=6)(ap:E c=4)(ab:E o<=10000000)(V:t8 ρ 14 e b):a_ aL 120 #[mI X d ac o,e,jW P c] b (cI (aS<|BV ρ d P c (be 4<|bi 12 o)<|pd c o) b):=by
 by_cases Y:E o<20;{rw[show pd c o=af by unfold pd;grind];exact FN λg=>(acY g Y).mono λp I a=>bd (⟨[],[],[],a.1⟩) a.2};{
 obtain⟨u,L,l,T,O,r,A,B,Q,C,M,N,h,i,j,k,w,x,y,z,q,rfl⟩:=ac2 o G;have t:=λK=>aaY u L l T O r A B Q C M N h i j k w x y z q K (by simp at ab;omega) U U U U;rw[ac4 c u L l T O r A B Q C M N h i j k w x y z q U U U U];have ar:bg l*256+bg T<65536:=by have:=gp l;have:=gp T;omega
 show a_ _ _ _ _ λp I=>p=bh (aS<|BV ρ d P c [h,i,j,k] _)/\_;generalize bg l*256+bg T=n,hJ (ci aD [u,L,l,T,O,r,A,B,Q,C,M,N,h,i,j,k,w,x,y,z])=aj at*;generalize (bg u==69&&((bg A*256+bg B)%16384==0&&bg C==17))=ah at*;unfold vw at t;by_cases D:n<28\/aj≠65535;{rw[b8 D];simp only[b8 D]at t;exact FN λg=>(t g).mono λp I a=>bd (⟨[],[],[],a.1⟩) a.2};{
 rw[bV D];simp only[bV D]at t;by_cases F:n-20<=E q;{
 rw[b8 F];simp only[b8 F]at t;cases ah with
 |false=>{rw[bV λa=>Bool.noConfusion a.1];exact FN λg=>(t g).mono λp I a=>bd (⟨_,_,_,a.1⟩) a.2}
 |true=>{
 by_cases H:[w,x,y,z]=c;{
 rw[b8 ⟨U,H⟩];rw[H]at t⊢;have S:=λK Z=>ac5 ρ [h,i,j,k] c (be (n-20) q) e K ax G (by grind) (by grind)<|V.next Z;cases R:s1 [h,i,j,k] c (be (n-20) q)with
 |none=>{rw[R]at S;exact S_ t S}
 |some ad=>{let⟨m,au⟩:=ad;rw[R]at S;unfold KG at S;unfold BV;simp only at S⊢;by_cases W:ρ m=[];{simp only[b8 W]at S⊢;exact S_ t S};{simp only[bV W]at S⊢;let al:=(V m<|cJ (TL R).1 G).1;exact abq G G G ax (by simp[nJ,oy];omega) t S}}};{rw[bV λa=>H a.2];exact ac0 H t}}};{rw[bV F];simp only[bV F]at t;exact FN λg=>(t g).mono λp I a=>⟨a.1.elim λm aa=>⟨_,_,m,aa⟩,a.2⟩}}}
def yc(s b a)(c:a<=E s):eP s b a=(be a s,bi a s,b):=b8 c
def TJ(a)(s:2<=E d):e4 d a=(cD d 0,bi 2 d,a):=by
 match d,s with
 |b::c::d,_=>rw[s4];show(_,d,a)=(256*bg b+bg c,d,a);grind
def yd(e:eP o l a=(d,P,ak)):l=ak/\E P+a=E o:=by unfold eP at e;grind
def TK(c:e4 o l=(g,d,ak)):l=ak/\E d+2=E o:=by
 have e:=eQ (·.2.1) c;have a:=eQ (·.2.2) c;cases o with
 |nil=>rw[B3]at a;cases a
 |cons h o=>{
 cases o with
 |nil=>simp[e4,eY]at a
 |cons i o=>{rw[s4]at e a;grind}}
def ac7(a:ap)(c:8<=E a):be 8 a=[0,1,8,0,6,4,0,1]↔be 6 a=[0,1,8,0,6,4]/\cD (bi 6 a) 0=1:=by obtain⟨d,bG,e,g,cB,fe,fJ,b,i,rfl⟩:=TI c;show [d,bG,e,g,cB,fe,fJ,b]=_↔[d,bG,e,g,cB,fe]=_/\256*bg fJ+bg b=1;constructor;{simp_all};{rintro⟨c,h⟩;cases c;let:fJ=0:=sM (by grind);let:b=1:=sM (by grind);grind}
def ac8(n c)(x l)(X:E d<=10000000)(aa:E o=6)(ab:E P=4):a_ aL 119 #[mI n c x d,jW o P] l (cI (aS<|t7 o P d) l):=by
 unfold t7;by_cases K:E d<28;{
 let⟨au,F,p,h⟩:=ya d ak 6;let⟨ar,H,q,i⟩:=TH F p;let⟨ac,I,r,j⟩:=ya H q 6;let⟨Y,V,L,k⟩:=ya I r 4;let⟨ad,W,M,u⟩:=ya V L 6;let⟨Z,av,t,w⟩:=ya W M 4;have y:=uU d ak 6;have z:=sc F p;have A:=uU H q 6;have B:=uU I r 4;rw[h]at y;rw[i]at z;rw[j]at A;rw[k]at B;simp only at y z A B;have b:=λg=>TF g G h i j k u w G G G;let:t=aD:=by{
 cases t with
 |true=>rfl
 |false=>{obtain⟨rfl,aq⟩:=yd w;obtain⟨rfl,ap⟩:=yd u;obtain⟨rfl,an⟩:=yd k;obtain⟨rfl,al⟩:=yd j;obtain⟨rfl,aj⟩:=TK i;obtain⟨-,ah⟩:=yd h;omega}};rw[b8<|bJ K];exact TG (bJ<|by grind) b};{
 let:=λC=>(il:E (bi C d)=E d-C);have b:=λg=>TF g G (yc d ak 6 G) (TJ ak<|by grind) (yc _ ak 6<|by grind) (yc _ ak 4<|by grind) (yc _ ak 6<|by grind) (yc _ ak 4<|by grind) (by grind) (by grind) (by grind);simp only[my,AT,DD,Nat.reduceAdd]at b;let T:=ac7 d G;let S:((D<|be 6 d).toList==[0,1,8,0,6,4])=dC (be 6 d=[0,1,8,0,6,4]):=by rw[gC];exact Bool.beq_eq_decide_eq _ _
 rw[S]at b;by_cases e:be 8 d=[0,1,8,0,6,4,0,1]/\be 4 (bi 24 d)=P;{
 let⟨e,a⟩:=e;let⟨Q,R⟩:=T.1 e;rw[bV<|by grind];rw[Q,R,a]at b;let O:be 7 d=[0,1,8,0,6,4,0]:=by rw[show be 7 d=be 7 (be 8 d) by grind,e];rfl
 let N:be 10 (bi 8 d)=be 6 (bi 8 d)++be 4 (bi 14 d):=by rw[show(10:Nat)=6+4 from U,DR,my]
 rw[O,N];let:=acW n c o x l (by grind) G G (by grind) b;simpa [p4,aO,cL]using this};{rw[b8<|by grind];refine TG ?_ b;grind}}
def ac9{ρ}(i q c)(a)(u:E q<=6)(p:E d=6)(n:E o=4)(l:E c<=10000000)(t:t8 ρ 14 e b):BU 54 #[mI i q a c,e,jW d o] b (if a=2054 then t7 d o c else if a=2048 then BV ρ q d o (be 4<|bi 12 c) (pd o c)else []):=λw k=>by
 by_cases g:a=2054
 ·rw[b8 g];subst g;exact acX λj _=>ac8 i q 2054 j l p n
 ·rw[bV g];by_cases h:a=2048
  ·rw[b8 h];subst h;exact abs λj r=>ac6 i 2048 u p n l<|t.next<|bC k<|bN r k.4
  ·rw[bV h];exact abr g h
def Um(s:ap)(e:14<=E s)(d a):be 2 (bi 12 s)=[d,a]↔cD (bi 12 s) 0=256*bg d+bg a:=by
 match hs:bi 12 s with
 |[]=>let:=eQ List.length hs;grind
 |[b]=>let:=eQ List.length hs;grind
 |b::c::g=>{show [b,c]=[d,a]↔256*bg b+bg c=_;constructor;{grind};{intro e;let:=gp c;let:=gp a;rw[sM<|show bg b=bg d by omega,sM<|show bg c=bg a by omega]}}
def HJ{ρ f aB ip}(A:E aB=6)(z:E ip=4)(I:E f<=10000000)(w:t8 ρ 14 e b):a_ aL 18 #[e,jW aB ip,aS f] b (cI (aS<|nF ρ aB ip f) b):=by
 unfold nF;by_cases p:E f<14;{
 rw[b8<|bJ p];let⟨F,C,q,j⟩:=ya f ak 6;let⟨H,D,r,k⟩:=ya C q 6;let⟨K,O,t,l⟩:=TH D r;have a:=λd=>SE d G j k l;cases t with
 |true=>exact abt a
 |false=>{obtain⟨rfl,N⟩:=TK l;obtain⟨rfl,M⟩:=yd k;obtain⟨-,L⟩:=yd j;omega}};{let:=λn=>(il:E (bi n f)=E f-n);have a:=λd=>SE d G (yc f ak 6 G) (yc _ ak 6<|by grind) (TJ ak<|by grind);simp only[my,Nat.reduceAdd,AT]at a;have c:=ac9 (be 6 f) (be 6<|bi 6 f) (bi 14 f) (cD (bi 12 f) 0) (by grind) A z (by grind) w;let x:be 2 (bi 12 f)=[8,6]↔cD (bi 12 f) 0=2054:=Um f G 8 6;let y:be 2 (bi 12 f)=[8,0]↔cD (bi 12 f) 0=2048:=Um f G 8 0;let u:(if cD (bi 12 f) 0=2054 then t7 aB ip (bi 14 f)else if cD (bi 12 f) 0=2048 then BV ρ (be 6<|bi 6 f) aB ip (be 4<|bi 12<|bi 14 f) (pd ip<|bi 14 f)else [])=(if(bi 12 f).take 2=[8,6]then t7 aB ip (bi 14 f)else if(bi 12 f).take 2≠[8,0]then []else match pd ip (bi 14 f)with|none=>[]|some (m,B)=>if ρ m=[]then []else(bi 6 f).take 6++aB++[8,0]++oN ip (be 4<|bi 26 f) (nJ ip (be 4<|bi 26 f) 53 B<|ρ m)):=by{by_cases bG:be 2 (bi 12 f)=[8,6];{grind};{rw[bV bG,bV λh=>bG<|x.2 h];by_cases i:be 2 (bi 12 f)=[8,0];{rw[b8<|y.1 i,bV λh=>h i,my];rfl};grind}};rw[u]at c;by_cases o:be 6 f=aB;{rw[bV<|by grind];rw[o]at a c;exact abv a c};{by_cases g:be 6 f=[255,255,255,255,255,255];{rw[bV<|by grind];exact ac1 g o a c};{rw[b8<|bE ⟨o,g⟩];exact abu o g a}}}
def l0:Nat->ap->List ap->Option (List ap×ap)
 |0,_,_=>af
 |_+1,[],_=>af
 |f+1,a::b,c=>if a=0 then ae (c,b)else if 63<bg a\/E b<bg a then af else l0 f (bi (bg a) b) (c++[be (bg a) b])
def gg(s:ap):Option (ap×List ap×Nat×Nat×Bool×Nat×Nat):=
 if cD s 4≠1\/cD s 6≠0\/cD s 8≠0\/1<cD s 10 then af
 else match l0 (E s+1) (bi 12 s) []with
  |none=>af
  |some (b,a)=>
   if 255<E s-E a-12\/E a<4 then af
   else if cD s 10=0 then(if E a=4 then ae (be (E s-E a+4-12)<|bi 12 s,b,cD a 0,cD a 2,ak,0,0)else af)
   else if E a<15\/a.getD 4 0≠0\/cD a 5≠41\/15+cD a 13≠E a then af
   else ae (be (E s-E a+4-12)<|bi 12 s,b,cD a 0,cD a 2,aD,cD a 7,bg<|a.getD 10 0)
def xT(s:ap)(a:Nat)(b:List ap)(c:Nat):Option (ap×List ap×Nat×Nat×Bool×Nat×Nat):=
 if 255<a-12\/E s<a+4 then af
 else if c=0 then(if E s=a+4 then ae (be (a+4-12)<|bi 12 s,b,cD s a,cD s<|a+2,ak,0,0)else af)
 else if E s<a+15\/s.getD (a+4) 0≠0\/cD s (a+5)≠41\/a+15+cD s (a+13)≠E s then af
 else ae (be (a+4-12)<|bi 12 s,b,cD s a,cD s<|a+2,aD,cD s<|a+7,bg<|s.getD (a+10) 0)
def ad1:cD (bi a d) c=cD d (a+c):=by simp only[cD,iA,Ig,pL]
def ad6(p:cD d 4=g)(q:cD d 6=c)(r:cD d 8=n)(i:cD d 10=v)(w:g=1)(x:c=0)(y:n=0)(u:¬1<v)(o:l0 (E d+1) (bi 12 d) []=ae (s,bi a d))(t:a<=E d):gg d=xT d a s v:=by rw[gg,xT,bV G,o];simp only[ad1,il,iA,Ig,h8,i];have j:E d-(E d-a)=a:=G;rw[j];by_cases bG:255<a-12\/E d<a+4;{rw[b8 bG,b8 G]};{rw[bV bG,bV G];by_cases b:v=0;{rw[b8 b,b8 b];by_cases e:E d=a+4;{rw[b8 e,b8 G]};{rw[bV e,bV G]}};{rw[bV b,bV b];by_cases e:E d<a+15;{rw[b8<|bJ G,b8<|bJ e]};{have k:(15+cD d (a+13)≠E d-a)↔(a+15+cD d (a+13)≠E d):=G;have l:(E d-a<15)↔(E d<a+15):=G;simp only[k,l]}}}
def gN(j:aQ)(e:Nat)(g:ap)(c:bk)(i b:Int)(d:Bool)(h a:Int):Prop:=j.1[e]? = ae (aZ #[am<|D g,c,ag ai i,ag ai b,aG d,ag ai h,ag ai a] 122)
theorem ys(h:φ:=by unfold gN at*;simp only[a7,ru,mM,h];rfl):φ:=h
section
variable {w:World} {qb:Nat} {qs:ap} {nv:Value} {ty cl:Int} {op:Bool}{sz bD:Int} (h:gN w qb qs nv ty cl op sz bD)
include h
theorem gN.lt:qb<J w.1:=(dK.1 h).1
theorem gN.cells:aA w (N qb 0)=ae (aS qs)/\aA w (N qb 1)=ae nv/\aA w (N qb 2)=ae (M ty)/\aA w (N qb 3)=ae (M cl)/\aA w (N qb 4)=ae (aG op)/\aA w (N qb 5)=ae (M sz)/\aA w (N qb 6)=ae (M bD):=by unfold gN at h;refine⟨?_,?_,?_,?_,?_,?_,?_⟩<;>simp[aA,h]
theorem gN.frozen(a:Nat):gd w (N qb a)=ak:=by unfold gN at h;exact qE
theorem gN.kept{w':aQ}(a:w'.1[qb]? = w.1[qb]?):gN w' qb qs nv ty cl op sz bD:=cQ a h
theorem gN.set0(a:ap):gN (a7 w ⟨qb,0,af⟩<|am<|D a) qb a nv ty cl op sz bD:=by exact ys
theorem gN.set1(a:bk):gN (a7 w ⟨qb,1,af⟩ a) qb qs a ty cl op sz bD:=by exact ys
theorem gN.set2(a:Int):gN (a7 w ⟨qb,2,af⟩<|ag ai a) qb qs nv a cl op sz bD:=by exact ys
theorem gN.lM(a:Int):gN (a7 w ⟨qb,3,af⟩<|ag ai a) qb qs nv ty a op sz bD:=by exact ys
theorem gN.o6(a:Bool):gN (a7 w ⟨qb,4,af⟩<|aG a) qb qs nv ty cl a sz bD:=by exact ys
theorem gN.ub(a:Int):gN (a7 w ⟨qb,5,af⟩<|ag ai a) qb qs nv ty cl op a bD:=by exact ys
theorem gN.yA(a:Int):gN (a7 w ⟨qb,6,af⟩<|ag ai a) qb qs nv ty cl op sz a:=by exact ys
end
def Ca{t:List bk}{r:Int}(n:b.ownsRow g 9 1 e c t)(p:gN b a d k j y l q r):ae a≠bA e:=λh=>by
 rcases n.2 with⟨rfl,_⟩|⟨i,u,w,rfl,_,o,_⟩
 ·cases h
 ·have:a=i:=by simpa [bA]using h
  subst this;rw[p]at o;simp at o
def ad7(b:aQ)(g:TypeId):∀(c:Nat) (h:bk),[e][c]? = ae h->aA (aN b<|aZ #[e] g) (((N (J b.1) 0):Addr).add c)=ae h:=λc h a=>by
 have d:=cW b<|aZ #[e] g;generalize aN b (aZ #[e] g)=i at d⊢;generalize J b.1=j at d⊢
 match c,a with
 |0,a=>simp at a;subst a;simp[Addr.add,aA,d]
 |k+1,a=>simp at a
structure q5(w W:World)(rb qb:Nat)(nv:Value)(ls:List ap)(qs:ap)(ty cl:Int)(op:Bool)(sz bD:Int):Prop where
 q:gN W qb qs nv ty cl op sz bD
 r:gN W rb [] (bX) 0 0 false 0 0
 o:lX W w.heap.size nv ls
 b:a6 w W
 WD:rb=w.heap.size
 nq:qb=w.heap.size+1
section
variable {w W:World} {rb qb:Nat} {nv:Value} {ls:List ap} {qs:ap} {ty cl:Int} {op:Bool}{sz bD:Int} (h:q5 w W rb qb nv ls qs ty cl op sz bD)
include h
theorem q5.below(a:a6 W b):q5 w b rb qb nv ls qs ty cl op sz bD:=
 ⟨h.1.kept<|a.5 qb h.1.lt,h.2.kept<|a.5 rb h.2.lt,⟨g6 h.3.1 a,h.3.2⟩,bC h.4<|bN a h.4.4,h.5,h.6⟩
theorem q5.rest{i:Int}(t:gN (a7 W ⟨qb,a,af⟩ e) qb d nv q y l j i):q5 w (a7 W ⟨qb,a,af⟩ e) rb qb nv ls d q y l j i where
 q:=t
 r:=h.2.kept (qZ W (N qb a) rb _ (by have:=h.5;have:=h.6;show rb≠qb;omega))
 o:=⟨An h.3.1 (row:=ae qb) ⟨U,U,U,ax,λu _ n=>qZ W (N qb a) u _ λc=>n<|by rw[c]⟩ (bE λc=>Ca h.3.1 h.1<|b5 c),h.3.2⟩
 b:=fc h.4 (p:=⟨qb,a,af⟩) (by have:=h.6;show J w.1<=qb;omega) _
 WD:=h.5
 nq:=h.6
theorem q5.WE{W':aQ}(g:a6 W W'):gN (a7 (a7 (a7 (a7 (a7 (a7 (a7 W' ⟨rb,0,af⟩<|am<|D qs) ⟨rb,1,af⟩ nv) ⟨rb,2,af⟩<|ag ai ty) ⟨rb,3,af⟩<|ag ai cl) ⟨rb,4,af⟩<|aG op) ⟨rb,5,af⟩<|ag ai sz) ⟨rb,6,af⟩<|ag ai bD) rb qs nv ty cl op sz bD/\lX (a7 (a7 (a7 (a7 (a7 (a7 (a7 W' ⟨rb,0,af⟩<|am<|D qs) ⟨rb,1,af⟩ nv) ⟨rb,2,af⟩<|ag ai ty) ⟨rb,3,af⟩<|ag ai cl) ⟨rb,4,af⟩<|aG op) ⟨rb,5,af⟩<|ag ai sz) ⟨rb,6,af⟩<|ag ai bD) (J w.1) nv ls/\a6 w (a7 (a7 (a7 (a7 (a7 (a7 (a7 W' ⟨rb,0,af⟩<|am<|D qs) ⟨rb,1,af⟩ nv) ⟨rb,2,af⟩<|ag ai ty) ⟨rb,3,af⟩<|ag ai cl) ⟨rb,4,af⟩<|aG op) ⟨rb,5,af⟩<|ag ai sz) ⟨rb,6,af⟩<|ag ai bD):=by
 have e:=h.below g;have aH:∀{a:aQ} (b:Nat) (j:bk) {L:ap} {I:bk} {O C:Int} {K:Bool} {c P:Int},gN a rb L I O C K c P->lX a (J w.1) nv ls->a6 w a->lX (a7 a ⟨rb,b,af⟩ j) (J w.1) nv ls/\a6 w (a7 a ⟨rb,b,af⟩ j):=λ{a} b j {_ _ _ _ _ _ _} G i g=>
  ⟨⟨An i.1 (row:=ae rb) ⟨U,U,U,ax,λH _ F=>qZ a (N rb b) H _ λd=>F<|by rw[d]⟩ (bE λd=>Ca i.1 G<|b5 d),i.2⟩,fc g (p:=⟨rb,b,af⟩) (by have:=h.5;show J w.1<=rb;omega) _⟩
 have k:=e.2;have c:=aH 0 (aS qs) k e.3 e.4;have l:=k.set0 qs;have u:=aH 1 nv l c.1 c.2;have n:=l.set1 nv;have x:=aH 2 (M ty) n u.1 u.2;have o:=n.set2 ty;have y:=aH 3 (M cl) o x.1 x.2;have q:=o.lM cl;have z:=aH 4 (aG op) q y.1 y.2;have r:=q.o6 op;have A:=aH 5 (M sz) r z.1 z.2;have t:=r.ub sz;have B:=aH 6 (M bD) t A.1 A.2;exact⟨t.yA bD,B.1,B.2⟩
end
def ad8(s:ap)(l:Nat)(n:Ending)(u:aQ):Prop:=∃(h:ap) (b:bk) (j e:Int) (g:Bool) (i d:Int) (c:Bool),n=bh (bZ #[ce #[aS h,b,M j,M e,aG g,M i,M d],aG c]) /\
 (∃k p a,b=aE k p a)/\match gg s with
  |none=>c=ak
  |some (r,o,t,a,q,w,v)=>c=aD/\h=r/\j=(t:Nat)/\e=(a:Nat)/\g=q/\i=(w:Nat)/\d=(v:Nat)/\lX u l b o
def Hp(h:φ:=by first|exact id|exact λ_=>U):φ:=h
def Md(h:φ:=by have a:=x;rintro⟨k0,k1,k2,k3,k4,k5,k6,k7⟩;exact⟨k0,k1,k2,k3,k4,k5,k6,k7▸hF.2.1⟩):φ:=h
def NO(h:φ:=by obtain⟨a,b,c,d,e,f,g⟩:=x;rintro⟨k0,k1,k2,k3,k4,k5,k6,k7⟩;exact⟨k0,k1,k2,k3,k4,k5,k6,by rw[k7];exact hF.2.1⟩):φ:=h
def yq(h:φ:=by simp[c_,results50,go_sem,x0,x1,x2,x3,x4,x5,x6]):φ:=h
def G6(h:φ:=by
 have q0:=lg.1.cells;have r0:=lg.2.1.cells;have nZ:=lg.2.1.frozen;go_wp2;have hF:=((((((lg.2.1.set0 []).set1<|bX).set2 0).lM 0).o6 ak).ub 0).yA 0;have hB:=V aW 6 (M 0) _<|aW 5 (M 0) _<|aW 4 (aG ak) _<|aW 3 (M 0) _<|aW 2 (M 0) _<|aW 1 (bX) _<|aW 0 (am<|D []) _ lg.2.2
 revert hF hB
 generalize a7 _ _ _=xq;intro hF hB;obtain⟨x0,x1,x2,x3,x4,x5,x6⟩:=hF.cells;refine dQ (v:=bZ #[ce #[am<|D [],aE af 0 0,ag ai 0,ag ai 0,aG ak,ag ai 0,ag ai 0],aG ak]) (by simp[c_,results50,go_sem,x0,x1,x2,x3,x4,x5,x6]) U ⟨⟨[],_,0,0,ak,0,0,ak,U,⟨_,_,_,U⟩,by rw[hno]⟩,hB⟩):φ:=h
def E6(h:φ:=by
 have q0:=dG.1.cells;have r0:=dG.2.1.cells;have nZ:=dG.2.1.frozen;go_wp2;have hF:=((((((dG.2.1.set0 []).set1<|aE xa kG xc).set2 0).lM 0).o6 ak).ub 0).yA 0;have hB:=V aW 6 (M 0) _<|aW 5 (M 0) _<|aW 4 (aG ak) _<|aW 3 (M 0) _<|aW 2 (M 0) _<|aW 1 (aE xa kG xc) _<|aW 0 (am<|D []) _ dG.2.2
 revert hF hB
 generalize a7 _ _ _=xq;intro hF hB;obtain⟨x0,x1,x2,x3,x4,x5,x6⟩:=hF.cells;refine dQ (v:=bZ #[ce #[am<|D [],aE xa kG xc,ag ai 0,ag ai 0,aG ak,ag ai 0,ag ai 0],aG ak]) (by simp[c_,results50,go_sem,x0,x1,x2,x3,x4,x5,x6]) U ⟨⟨[],_,0,0,ak,0,0,ak,U,⟨_,_,_,U⟩,by rw[hno]⟩,hB⟩):φ:=h
def ad9(l:aQ)(er:12<=E o)(eq:E o<=2000000):a_ aL 50 #[aS o] l λe w'=>ad8 o (J l.1) e w'/\a6 l w':=by
 have⟨d7,eb,d4,d5,d6⟩:=im wx;have aH:=O fun(i:Nat) (A:aQ) (h:i+1<E o)=>Qy A h G;have:=cV o;have⟨y,bb⟩:=bm (aZ #[am ⟨#[]⟩,aE af 0 0,ag ai 0,ag ai 0,aG ak,ag ai 0,ag ai 0] 122:Obj)
 have de:ao (gN (aN (aN l y) y) (J l.1+1) [] (bX) 0 0 ak 0 0/\gN (aN (aN l y) y) (J l.1) [] (bX) 0 0 ak 0 0/\a6 l (aN (aN l y) y)):=by
  have Q:=cW (aN l y) y;rw[eE]at Q;refine⟨by rw[bb]at Q⊢;exact Q,?_,(cf cc bo _).alloc ax _⟩;have b1:=(dv (aN l y) y (J l.1) ax).trans<|cW l y;rw[bb]at b1⊢;exact b1
 go_in;go_wp2_with fail;rw[<-bb];obtain⟨r,bt⟩:=bm<|J l.1;obtain⟨k,aC⟩:=bm<|J l.1+1;have an:ao (gN (aN (aN l y) y) k [] (bX) 0 0 ak 0 0/\gN (aN (aN l y) y) r [] (bX) 0 0 ak 0 0/\a6 l (aN (aN l y) y)):=by rw[bt,aC];exact de
 rw[<-aC,<-bt];clear de;have aW:ao (∀(i:Nat) (v:bk) (A:aQ),a6 l A->a6 l (a7 A ⟨r,i,af⟩ v)):=λi v A h=>fc h (p:=⟨r,i,af⟩) (by show J l.1<=r;omega) v;have aI:=O<|cj bt aC;generalize aN (aN l y) y=ee at*;clear bt aC bb;refine(aH 4 ee G).m ?_;intro bv w;have lg:ao (gN bv k [] (bX) 0 0 ak 0 0/\gN bv r [] (bX) 0 0 ak 0 0/\a6 l bv):=⟨an.1.kept<|w.5 k an.1.lt,an.2.1.kept<|w.5 r an.2.1.lt,bC an.2.2<|bN w an.2.2.4⟩
 clear w an;have⟨cg,aJ⟩:=bm<|cD o 4
 rw[<-aJ];by_cases dT:cg=1
 case neg=>
  have br:((cg:Int) != 1)=aD:=ct;have hno:gg o=af:=by unfold gg;rw[b8<|bJ (by rw[<-aJ];omega)]
  clear aJ;exact G6
 have:((cg:Int) != 1)=ak:=ct;have cb:=O<|cj (b5 aJ) dT;clear aJ;go_wp2_with fail;refine(aH 6 bv G).m ?_;intro bw w;replace lg:ao (gN bw k [] (bX) 0 0 ak 0 0/\gN bw r [] (bX) 0 0 ak 0 0/\a6 l bw):=⟨lg.1.kept<|w.5 k lg.1.lt,lg.2.1.kept<|w.5 r lg.2.1.lt,bC lg.2.2<|bN w lg.2.2.4⟩
 clear w;have⟨ch,aK⟩:=bm<|cD o 6
 rw[<-aK];by_cases dU:ch=0
 case neg=>
  have br:((ch:Int) != 0)=aD:=ct;have hno:gg o=af:=by unfold gg;rw[b8<|bE<|bJ (by rw[<-aK];omega)]
  clear aK;exact G6
 have:((ch:Int) != 0)=ak:=ct;have bM:=O<|cj (b5 aK) dU;clear aK;go_wp2_with fail;refine(aH 8 bw G).mono ?_;rintro e C ⟨rfl,w⟩;replace lg:ao (gN C k [] (bX) 0 0 ak 0 0/\gN C r [] (bX) 0 0 ak 0 0/\a6 l C):=⟨lg.1.kept<|w.5 k lg.1.lt,lg.2.1.kept<|w.5 r lg.2.1.lt,bC lg.2.2<|bN w lg.2.2.4⟩
 clear w;have⟨ci,a3⟩:=bm<|cD o 8
 rw[<-a3];by_cases dW:ci=0
 case neg=>
  have br:((ci:Int) != 0)=aD:=ct;have hno:gg o=af:=by unfold gg;rw[b8<|bE<|bE<|bJ (by rw[<-a3];omega)]
  clear a3;exact G6
 have:((ci:Int) != 0)=ak:=ct;have bI:=O<|cj (b5 a3) dW;clear a3;go_wp2_with fail;refine(aH 10 C G).mono ?_;rintro e bz ⟨rfl,w⟩;replace lg:ao (gN bz k [] (bX) 0 0 ak 0 0/\gN bz r [] (bX) 0 0 ak 0 0/\a6 l bz):=⟨lg.1.kept<|w.5 k lg.1.lt,lg.2.1.kept<|w.5 r lg.2.1.lt,bC lg.2.2<|bN w lg.2.2.4⟩
 clear w;have⟨az,aO⟩:=bm<|cD o 10
 rw[<-aO];by_cases dP:¬1<az
 case neg=>
  have br:dC ((1:Int)<(az:Int))=aD:=ct;have hno:gg o=af:=by unfold gg;rw[b8<|bE<|bE<|bE (by rw[<-aO];omega)]
  clear aO;have q0:=lg.1.cells;have r0:=lg.2.1.cells;have nZ:=lg.2.1.frozen;go_wp2;have hF:=((((((lg.2.1.set0 []).set1<|bX).set2 0).lM 0).o6 ak).ub 0).yA 0;have hB:=V aW 6 (M 0) _<|aW 5 (M 0) _<|aW 4 (aG ak) _<|aW 3 (M 0) _<|aW 2 (M 0) _<|aW 1 (bX) _<|aW 0 (am<|D []) _ lg.2.2
  revert hF hB
  generalize a7 _ _ _=xq;intro hF hB;have⟨x0,x1,x2,x3,x4,x5,x6⟩:=hF.cells;refine dQ (v:=bZ #[ce #[am<|D [],aE af 0 0,ag ai 0,ag ai 0,aG ak,ag ai 0,ag ai 0],aG ak]) yq U ⟨⟨[],_,0,0,ak,0,0,ak,U,⟨_,_,_,U⟩,by rw[hno]⟩,hB⟩
 have:dC ((1:Int)<(az:Int))=ak:=ct;have bd:=O<|cj (b5 aO) dP;clear aO;go_wp2_with fail;have cK:∀(x:Option<|List ap×ap),l0 (E o+1) (bi 12 o) []=x->x=af->gg o=af:=λx d3 L=>by
  unfold gg;rw[bV (by rw[cb.1,bM.1,bI.1,bd.1];omega),d3,L]
 have⟨bc,bQ⟩:=du<|l0 (E o+1) (bi 12 o) []
 have bf:=O<|cK bc bQ;have bR:=O bQ;clear cK bQ;go_wp2
 go_loopw [5,6] (λb_ es wr=>∃(i f:Nat) (s:List ap) (bD:bk),b_=M i/\12<=i/\i<=E o/\E o<f+i/\ao (l0 f (bi i o) s=bc)/\E s<=i/\ao (lX wr (J l.1) bD s)/\ao (gN wr k [] bD 0 0 ak 0 0/\gN wr r [] (bX) 0 0 ak 0 0/\a6 l wr)) λb_ _ _=>E o-(intOf b_).toNat
 ·exact⟨12,E o+1,[],bX,U,G,G,G,bR,ax,⟨ih _ _ _ _,ax⟩,lg⟩
 ·obtain⟨i,f,s,bD,rfl,df,di,c6,au,cB,T,dG⟩:=hrel;obtain⟨xa,kG,xc,dF⟩:∃a n c,bD=aE a n c:=by
   rcases T.1.2 with⟨h,_⟩|⟨g,dK,dL,h,_⟩
   ·exact⟨_,_,_,h⟩
   ·exact⟨_,_,_,h⟩
  subst dF;by_cases c8:i<E o
  case neg=>
   have ec:i=E o:=G;have br:dC ((i:Int) ≥ (E o:Int))=aD:=ct;have hno:gg o=af:=by
    refine V bf ?_;have:=V au;rw[ec,tl]at this;rw[<-this];cases f<;>rfl
   clear c6 au cB;exact E6
  have⟨c,av⟩:=bm<|o[i]
  have bY:∀h:i<b7 (D o),(D o)[i]=c:=λh=>b5 av;have aV:bi i o=c::bi (i+1) o:=by rw[av];exact jM c8
  obtain⟨f,rfl⟩:∃dM,f=dM+1:=⟨f-1,G⟩
  have F:ao ((if c=0 then ae (s,bi (i+1) o)else if 63<bg c\/E (bi (i+1) o)<bg c then af else l0 f (bi (bg c)<|bi (i+1) o) (s++[be (bg c)<|bi (i+1) o]))=bc):=by
   have:=V au;rw[aV]at this;exact this
  rw[il,my]at F;have⟨n,L⟩:=bm<|bg c;have bF:(bg c:Int)=n:=by rw[L]
  have et:n<256:=L▸gp c
  have R:c=0↔n=0:=L▸⟨λh=>uo,λh=>by apply sM;exact h⟩
  rw[<-L]at F;have d8:(i:Int)<E o:=G;have ef:ai.wrap (n:Int)=(n:Int):=fl
  have a8:ai.wrap ((i:Int)+1)=((i+1:Nat):Int):=fl
  have⟨j,aF⟩:=bm<|i+1;rw[<-aF]at F a8;have ca:=O<|cj aF R;have dI:=O<|cj av L;by_cases b0:n=0
  case neg=>
   rw[bV λh=>b0<|R.1 h]at F;by_cases dV:63<n
   ·have hno:=V bf (by have:=V F;rw[b8<|bJ dV]at this;exact b5 this);clear av aV L au F;have q0:=dG.1.cells;have r0:=dG.2.1.cells;have nZ:=dG.2.1.frozen;go_wp2;have hF:=((((((dG.2.1.set0 []).set1<|aE xa kG xc).set2 0).lM 0).o6 ak).ub 0).yA 0;have hB:=V aW 6 (M 0) _<|aW 5 (M 0) _<|aW 4 (aG ak) _<|aW 3 (M 0) _<|aW 2 (M 0) _<|aW 1 (aE xa kG xc) _<|aW 0 (am<|D []) _ dG.2.2
    revert hF hB
    generalize a7 _ _ _=xq;intro hF hB;have⟨x0,x1,x2,x3,x4,x5,x6⟩:=hF.cells;refine dQ (v:=bZ #[ce #[am<|D [],aE xa kG xc,ag ai 0,ag ai 0,aG ak,ag ai 0,ag ai 0],aG ak]) yq U ⟨⟨[],_,0,0,ak,0,0,ak,U,⟨_,_,_,U⟩,by rw[hno]⟩,hB⟩
   have da:ai.wrap ((j:Int)+n)=((j+n:Nat):Int):=fl
   by_cases dg:E o<j+n
   ·have hno:gg o=af:=V bf (by have:=V F;rw[b8<|bE G]at this;exact b5 this);have dr:dC ((E o:Int)<((j+n:Nat):Int))=aD:=ct;clear av aV L au F;exact E6
   have cC:ao (l0 f (bi (j+n) o) (s++[be n<|bi j o])=bc):=by have:=V F;rw[bV G]at this;exact this
   have a0:(D o).extract j (j+n)=D (be n<|bi j o):=by have:=y5 o j<|j+n;rw[DT]at this;exact this
   have dh:kG=E s:=by
    rcases T.1.2 with⟨h,b0⟩|⟨g,dK,dL,h,_⟩
    ·have:=(js h).2.1;omega
    ·exact(js h).2.1
   subst dh;have cL:=Ca T.1 dG.1;have cH:=Ca T.1 dG.2.1;obtain⟨q0,aB,ac,ad,ah,aj,al⟩:=dG.1.cells;have dk:=dG.1.lt;have d2:=dG.2.1.lt;have I:=dG.1.frozen;have dJ:=dG.2.2.4;obtain⟨aY,bn⟩:=bm<|j+n;rw[<-bn]at a0 da cC;have cS:(j:Int)<=aY:=G;have cT:(aY:Int)<=E o:=G;have cU:j<=aY:=G;have cX:aY<=E o:=G;have dr:dC ((E o:Int)<i+1+n)=ak:=by have:=ca.1;simp;omega
   have:dC (63<(n:Int))=ak:=ct;have cq:=ca.1;have ej:(D o).extract (i+1) (i+1+n)=D (be n<|bi j o):=by rw[<-cq,<-bn];exact a0
   have cY:(i:Int)+1+n<=E o:=G;have cZ:i+1+n<=E o:=G;have:¬63<(n:Int):=G;have ek:ai.wrap ((i:Int)+1+n)=(i:Int)+1+(n:Int):=fl
   have:((i:Int)+1+n).toNat=i+1+n:=G;have:0<=(i:Int)+1+n:=G;have:0<=(i:Int)+1:=G;have:(i:Int)+1<=i+1+n:=G;have ds:=O bn;have dt:=O cq;clear av aV L au F bn q0 ac ad ah aj al R dg cq aF a0 da a8;go_wp2_with fail
   go_region_law (first|(refine step_append_lies _ rfl (.tmp 52) (.tmp 59) 92 rfl l.heap.size 9 d7 _ 1 16 yk eb d4 d5 d6 rfl bW _ s.length (s.map λd9=>aS d9) U (g6 T.1 (cf cc bo _).drew) _ 1 1 [aS<|be n<|bi j o] U U (λj dd aF=>ad7 wr _ j dd aF) (λdd hu=>yn) bW Ay G ct (J wr.1+1) ax ?_;intro g X C bq b9 dY d0;have aM:gN C k [] (aE xa (E s) xc) 0 0 ak 0 0:=dG.1.kept<|(b9.5 k ct cL).trans<|dv _ _ _ dk;have dN:=aM.frozen;have GR:=aM.cells.2.1))
   all_goals
    have aw:World.grownBy _ C (bA<|aE xa (E s) xc):=b9;have cJ:=Ca bq aM;have cM:=fS T.1;have dw:=(fS bq g U).1;have b2:=(cf dG.2.2 dJ<|aZ #[am<|D<|be n<|bi j o] 9).drew;have aC:J l.1<=k:=cd aI.2
    have dl:ao (lX (a7 C ⟨k,1,af⟩<|aE (ae ⟨g,0,af⟩) (E s+1) X) (J l.1) (bL g 0 (E s+1) X)<|s++[be n<|bi j o]):=by
     refine⟨?_,⟨λh=>(by cases h),λh=>yo⟩⟩;have:=An bq (w':=a7 C ⟨k,1,af⟩<|aE (ae ⟨g,0,af⟩) (E s+1) X) (row:=ae k) ⟨U,U,U,ax,λS _ bp=>qZ C (N k 1) S _ λe=>bp<|by rw[e]⟩ (bE λe=>cJ<|b5 e);rw[dj,jg];exact this
    have eh:ao (gN (a7 C ⟨k,1,af⟩<|aE (ae ⟨g,0,af⟩) (E s+1) X) k [] (bL g 0 (E s+1) X) 0 0 ak 0 0/\gN (a7 C ⟨k,1,af⟩<|aE (ae ⟨g,0,af⟩) (E s+1) X) r [] (bX) 0 0 ak 0 0/\a6 l (a7 C ⟨k,1,af⟩<|aE (ae ⟨g,0,af⟩) (E s+1) X)):=by
     refine⟨aM.set1 _,dG.2.1.kept ?_,?_⟩
     ·refine(qZ C (N k 1) r _ ?_).trans<|(aw.5 r ct cH).trans<|dv _ _ _ d2;have:=V aI;show r≠k;omega
     ·exact(bC b2 ⟨aw.1,aw.2,aw.3,aw.4,λS bp=>aw.5 S (cd b2.4) (λe=>by have:=(cM S<|b5 e).1;omega)⟩).setCell (p:=⟨k,1,af⟩) aC _
    have:=V ds;have:=V dt;clear bq b9 aw dY d0 aM dN GR cJ cM dw b2 aC cL cH dG T;generalize a7 C ⟨k,1,af⟩ (aE (ae ⟨g,0,af⟩) (E s+1) X)=bz at*;go_wp2;exact⟨⟨aY,f,s++[be n<|bi j o],bL g 0 (E s+1) X,eQ (ag ai) G,G,G,G,cC,by rw[dj];simp;omega,dl,eh⟩,dz⟩
  subst b0;rw[b8<|R.2 U]at F;have aP:ao (gg o=xT o j s az):=ad6 cb.1 bM.1 bI.1 bd.1 cb.2 bM.2 bI.2 (cd bd.2) ((V bR)▸b5 F) G;have aq:ao (∀(S:Nat) (bO:Int) (A:aQ),bO=(S:Int)->S+1<E o->a_ aL 111 #[aS o,M bO] A (cI (M<|cD o S) A)):=λS bO A dX bp=>dX▸aH S A bp
  clear av aV L au R dI bf bR F c6;by_cases db:255<j-12
  ·have hno:gg o=af:=by rw[V aP];rw[xT,b8<|bJ db]
   have aU:255<(i:Int)+1-12:=G;clear a8;exact E6
  by_cases cz:E o<j+4
  ·have hno:gg o=af:=by rw[V aP];rw[xT,b8<|bE cz]
   have aU:¬255<(i:Int)+1-12:=G;have c1:(E o:Int)<i+1+4:=G;clear a8;exact E6
  have aU:¬255<(i:Int)+1-12:=G;have c1:¬(E o:Int)<i+1+4:=G;clear a8;go_wp21;refine(aq j _ wr G G).m ?_;intro cu c5;rw[show((i:Int)+1)=(j:Int) by omega];have dx:13<=j:=G;have ar:ao (q5 l cu r k (aE xa kG xc) s [] 0 0 ak 0 0):=q5.below ⟨dG.1,dG.2.1,T,dG.2.2,aI.1,aI.2⟩ c5;obtain⟨u,bT⟩:=bm<|cD o j;rw[<-bT];have cy:=O bT;clear c5 dG T bT aU c1 bF ef d8 bY c8 df di aH aW aF ca;obtain⟨q0,aB,ac,ad,ah,aj,al⟩:=ar.1.cells;have r0:=ar.2.cells;have I:=ar.1.frozen;have nZ:=ar.2.frozen;have dy:ai.wrap ((j:Int)+2)=(j:Int)+2:=fl
  go_wp2_with fail;have cG:ao (q5 l (a7 cu ⟨k,2,af⟩<|ag ai u) r k (aE xa kG xc) s [] u 0 ak 0 0):=ar.rest<|ar.1.set2 u;clear q0 aB ac ad ah aj al I ar;generalize a7 cu ⟨k,2,af⟩ (ag ai u)=cw at*;refine(aq (j+2) _ cw G G).m ?_;intro cx c3;obtain⟨q,b4⟩:=bm<|cD o<|j+2;rw[<-b4];have bK:=O b4;have ab:=O<|cG.below c3;clear c3 cG b4;obtain⟨m,aX⟩:=bm<|j+4;obtain⟨t,b3⟩:=bm<|be (j+4-12)<|bi 12 o;have a0:(D o).extract 12 (j+4)=D t:=b3▸y5 o 12 (j+4)
  have bP:=O b3;clear b3;have dA:ai.wrap ((j:Int)+4)=(j:Int)+4:=fl
  have cS:12<=(j:Int)+4:=G;have cT:(j:Int)+4<=E o:=G;have cU:((j:Int)+4).toNat=j+4:=G;have cX:0<=(j:Int)+4:=G;have cY:12<=j+4:=G;have cZ:j+4<=E o:=G;obtain⟨q0,aB,ac,ad,ah,aj,al⟩:=ab.1.cells;have r0:=ab.2.cells;have I:=ab.1.frozen;have nZ:=ab.2.frozen;have cA:ao (q5 l (a7 (a7 cx ⟨k,3,af⟩<|ag ai q) ⟨k,0,af⟩<|am<|D t) r k (aE xa kG xc) s t u q ak 0 0):=by
   have Q:=ab.rest<|ab.1.lM q;exact Q.rest<|Q.1.set0 t
  have bS:gd (a7 cx ⟨k,3,af⟩<|ag ai q) (N k 0)=ak:=(ab.rest<|ab.1.lM (q:Int)).1.frozen 0;go_wp2_with fail;clear q0 aB ac ad ah aj al I bS ab cS cT cU cX cY a0 dA dy;generalize a7 (a7 cx ⟨k,3,af⟩<|ag ai q) ⟨k,0,af⟩ (am<|D t)=eg at*;refine(aq 10 _ eg U G).m ?_;intro bB dc;rw[bd.1,show((j:Int)+4)=(m:Int) by omega];have:17<=m:=G;have:m<=E o:=G;have c0:=O aX;clear aX;have z:=O<|cA.below dc;clear dc cA;by_cases bU:az=0
  ·have d1:((az:Int)==0)=aD:=ct;have⟨Y,aR⟩:=du<|(m:Int)==E o
   have B:match gg o with
    |none=>Y=ak
    |some (a4,a1,a5,c,a2,a9,v)=>Y=aD/\t=a4/\(u:Int)=(a5:Nat)/\(q:Int)=(c:Nat)/\ak=a2/\(0:Int)=(a9:Nat)/\(0:Int)=(v:Nat)/\a1=s:=by
    have aX:=V c0;rw[V aP,xT,bV G,b8 bU];by_cases c7:E o=j+4
    ·rw[b8 c7,<-aR];exact⟨ct,bP,by rw[V cy],by rw[V bK],U,U,U,U⟩
    ·rw[bV c7,<-aR];show((m:Int)==E o)=ak;simp;omega
   have aa:=O B;clear B;have q0:=z.1.cells;have r0:=z.2.cells;have I:=z.1.frozen;have nZ:=z.2.frozen;go_wp2;have hF:=z.WE (W':=bB) cc
   revert hF
   generalize a7 _ _ _=xq;intro hF;obtain⟨x0,x1,x2,x3,x4,x5,x6⟩:=hF.1.cells;refine dQ (v:=bZ #[ce #[am<|D t,aE xa kG xc,ag ai u,ag ai q,aG ak,ag ai 0,ag ai 0],aG Y]) yq U ⟨⟨t,_,u,q,ak,0,0,Y,U,⟨_,_,_,U⟩,?_⟩,hF.2.2⟩;have B:=V aa
   revert B
   cases gg o with
   |none=>first|exact id|exact λ_=>rfl
   |some x=>
    exact Md
  have d1:((az:Int)==0)=ak:=ct;have P:ao (gg o=if E o<m+11\/o.getD m 0≠0\/cD o (m+1)≠41\/m+11+cD o (m+9)≠E o then af else ae (t,s,u,q,aD,cD o<|m+3,bg<|o.getD (m+6) 0)):=by
   have aX:=V c0;rw[ao,V aP,xT,bV G,bV bU,V bP,V cy,V bK,aX]
  have bu:ao (gg o=af->match gg o with
    |none=>ak=ak
    |some (a4,a1,a5,c,a2,a9,v)=>ak=aD/\t=a4/\(u:Int)=(a5:Nat)/\(q:Int)=(c:Nat)/\ak=a2/\(0:Int)=(a9:Nat)/\(0:Int)=(v:Nat)/\a1=s):=λh=>by rw[h]
  clear aP bP cy bK db cz dx cZ bU cB;by_cases dR:E o<m+11
  ·have aa:=O (bu<|by rw[V P,b8<|bJ dR]);have aU:(E o:Int)<m+11:=G;have q0:=z.1.cells;have r0:=z.2.cells;have I:=z.1.frozen;have nZ:=z.2.frozen;go_wp2;have hF:=z.WE (W':=bB) cc
   revert hF
   generalize a7 _ _ _=xq;intro hF;obtain⟨x0,x1,x2,x3,x4,x5,x6⟩:=hF.1.cells;refine dQ (v:=bZ #[ce #[am<|D t,aE xa kG xc,ag ai u,ag ai q,aG ak,ag ai 0,ag ai 0],aG ak]) yq U ⟨⟨t,_,u,q,ak,0,0,ak,U,⟨_,_,_,U⟩,?_⟩,hF.2.2⟩;have B:=V aa
   revert B
   cases gg o with
   |none=>exact Hp
   |some x=>
    exact Md
  have aU:¬(E o:Int)<m+11:=G;have ea:m<E o:=G;have⟨bG,bl⟩:=bm<|o[m]
  have bY:∀h:m<b7 (D o),(D o)[m]=bG:=λh=>b5 bl;have b6:o.getD m 0=bG:=by rw[bl,iA,fs ea];rfl
  have:(m:Int)<(E o:Int):=G;rw[b6]at P;by_cases R:bG=0
  case neg=>
   have aa:=O (bu<|by rw[V P,b8<|bE<|bJ R]);have bF:((bg bG:Int) != 0)=aD:=by
    have:bg bG≠0:=λh=>R<|sM h;simp;omega
   clear bl b6;have q0:=z.1.cells;obtain⟨r0,ck,cl,cm,cn,co,cp⟩:=z.2.cells;have I:=z.1.frozen;have nZ:=z.2.frozen;go_wp2_with fail;have hF:=z.WE (W':=bB) cc
   revert hF
   generalize a7 _ _ _=xq;intro hF;obtain⟨x0,x1,x2,x3,x4,x5,x6⟩:=hF.1.cells;refine dQ (v:=bZ #[ce #[am<|D t,aE xa kG xc,ag ai u,ag ai q,aG ak,ag ai 0,ag ai 0],aG ak]) yq U ⟨⟨t,_,u,q,ak,0,0,ak,U,⟨_,_,_,U⟩,?_⟩,hF.2.2⟩;have B:=V aa
   revert B
   cases gg o with
   |none=>exact Hp
   |some x=>
    exact NO
  have bF:((bg bG:Int) != 0)=ak:=by rw[R];rfl
  clear bl b6;go_wp2_with fail;refine(aq (m+1) _ bB G G).mono ?_;rintro e cr ⟨rfl,cE⟩;have H:=O<|z.below cE;have⟨k1,c2⟩:=bm<|cD o<|m+1
  rw[<-c2]at P⊢;clear cE z c2 bY bF;by_cases cN:k1=41
  case neg=>
   have aa:=O (bu<|by rw[V P,b8<|bE<|bE<|bJ cN]);have dZ:((k1:Int) != 41)=aD:=ct;obtain⟨q0,aB,ac,ad,ah,aj,al⟩:=H.1.cells;obtain⟨r0,ck,cl,cm,cn,co,cp⟩:=H.2.cells;have I:=H.1.frozen;have nZ:=H.2.frozen;go_wp2_with fail;have hF:=H.WE (W':=cr) cc
   revert hF
   generalize a7 _ _ _=xq;intro hF;obtain⟨x0,x1,x2,x3,x4,x5,x6⟩:=hF.1.cells;refine dQ (v:=bZ #[ce #[am<|D t,aE xa kG xc,ag ai u,ag ai q,aG ak,ag ai 0,ag ai 0],aG ak]) yq U ⟨⟨t,_,u,q,ak,0,0,ak,U,⟨_,_,_,U⟩,?_⟩,hF.2.2⟩;have B:=V aa
   revert B
   cases gg o with
   |none=>exact Hp
   |some x=>
    exact NO
  have dZ:((k1:Int) != 41)=ak:=ct;obtain⟨q0,aB,ac,ad,ah,aj,al⟩:=H.1.cells;obtain⟨r0,ck,cl,cm,cn,co,cp⟩:=H.2.cells;have I:=H.1.frozen;have nZ:=H.2.frozen;go_wp2_with fail;have cO:ao (q5 l (a7 cr ⟨k,4,af⟩<|aG aD) r k (aE xa kG xc) s t u q aD 0 0):=H.rest<|H.1.o6 aD;clear q0 aB ac ad ah aj al I r0 ck cl cm cn co cp nZ H;generalize a7 cr ⟨k,4,af⟩ (aG aD)=dm at*;refine(aq (m+3) _ dm G G).m ?_;intro cs c4;have W:=O<|cO.below c4;have⟨Z,c9⟩:=bm<|cD o<|m+3
  rw[<-c9]at P⊢;clear c4 cO c9;have dB:m+6<E o:=G;have⟨fJ,bH⟩:=bm<|o[m+6]
  have dO:∀h:m+6<b7 (D o),(D o)[m+6]=fJ:=λh=>b5 bH;have cF:o.getD (m+6) 0=fJ:=by rw[bH,iA,fs dB];rfl
  rw[cF]at P;obtain⟨K,ba⟩:=bm<|bg fJ;have el:K<256:=ba▸gp fJ
  have dD:(bg fJ:Int)=K:=by rw[ba]
  rw[<-ba]at P;have dH:ai.wrap (K:Int)=(K:Int):=fl
  have ed:((m:Int)+6).toNat=m+6:=G;have d_:(m:Int)+6<E o:=G;have dE:0<=(m:Int)+6:=G;have cw:ai.wrap ((m:Int)+6)=(m:Int)+6:=fl
  clear bH cF ba;have q0:=W.1.cells;have r0:=W.2.cells;have I:=W.1.frozen;have nZ:=W.2.frozen;have dn:ao (q5 l (a7 (a7 cs ⟨k,5,af⟩<|ag ai Z) ⟨k,6,af⟩<|ag ai K) r k (aE xa kG xc) s t u q aD Z K):=by
   have Q:=W.rest<|W.1.ub Z;exact Q.rest<|Q.1.yA K
  have bS:gd (a7 cs ⟨k,5,af⟩<|ag ai Z) (N k 6)=ak:=(W.rest<|W.1.ub (Z:Int)).1.frozen 6;go_wp2;clear q0 I bS r0 nZ W dO ed d_ dE cw dH dD;generalize a7 (a7 cs ⟨k,5,af⟩<|ag ai Z) ⟨k,6,af⟩ (ag ai K)=ei at*;have⟨ay,bj⟩:=bm<|cD o<|m+9
  have em:ay<131072:=by
   have Q:=gp<|o.getD (m+9) 0;have b1:=gp<|o.getD (m+9+1) 0;rw[bj];unfold cD;omega
  have dp:ao (∀A,a_ aL 111 #[aS o,M<|(m:Int)+9] A<|cI (M ay) A):=λA=>bj▸aq (m+9) _ A G G
  have⟨Y,aR⟩:=du<|(m:Int)+11+ay==E o
  have B:match gg o with
   |none=>Y=ak
   |some (a4,a1,a5,c,a2,a9,v)=>Y=aD/\t=a4/\(u:Int)=(a5:Nat)/\(q:Int)=(c:Nat)/\aD=a2/\(Z:Int)=(a9:Nat)/\(K:Int)=(v:Nat)/\a1=s:=by
   rw[V P,<-bj];by_cases cR:m+11+ay=E o
   ·rw[bV (by rintro(h|h|h|h);omega;exact h R;exact h cN;exact h cR),<-aR];exact⟨ct,U,U,U,U,U,U,U⟩
   ·rw[b8<|bE<|bE<|bE cR,<-aR];show((m:Int)+11+ay==E o)=ak;simp;omega
  have aa:=O B;have en:ai.wrap ((m:Int)+9)=(m:Int)+9:=fl
  have eo:ai.wrap ((m:Int)+11)=(m:Int)+11:=fl
  have ep:ai.wrap ((m:Int)+11+ay)=(m:Int)+11+(ay:Int):=fl
  have aT:=O<|dn.below cc.drew;have q0:=aT.1.cells;clear B bj P bu aq aI;go_region_with (go_at_call 111;refine(dp _).m ?_;intro dq bs;have eu:=(aT.below bs).1.cells;have r0:=(aT.below bs).2.cells;have nZ:=(aT.below bs).2.frozen)
  all_goals
   go_wp2;have hF:=aT.WE (W':=dq) (bs)
   revert hF
   generalize a7 _ _ _=xq;intro hF;obtain⟨x0,x1,x2,x3,x4,x5,x6⟩:=hF.1.cells;refine dQ (v:=bZ #[ce #[am<|D t,aE xa kG xc,ag ai u,ag ai q,aG aD,ag ai Z,ag ai K],aG Y]) yq U ⟨⟨t,_,u,q,aD,Z,K,Y,U,⟨_,_,_,U⟩,?_⟩,hF.2.2⟩;have B:=V aa
   revert B
   cases gg o with
   |none=>first|exact id|exact λ_=>rfl
   |some x=>
    have a:=x;rintro⟨k0,k1,k2,k3,k4,k5,k6,k7⟩;exact⟨k0,k1,k2,k3,k4,k5,k6,k7▸hF.2.1⟩
def KQ(v:bk):Prop:=∃a b g h i j n o d e:Int,∃k l:ap,∃c:Bool,v=hD a b g h i j k l n o c d e
def agx{e}:(part 3 #[M j,M q,M y,M e] 0).run aL b=.ok (M j) b:=b6
def agy{e}:(part 3 #[M j,M q,M y,M e] 1).run aL b=.ok (M q) b:=b6
def agz{e}:(part 3 #[M j,M q,M y,M e] 2).run aL b=.ok (M y) b:=b6
def agA{a}:(part 3 #[M j,M q,M y,M a] 3).run aL b=.ok (M a) b:=b6
def acR:(sizeOf 3).run aL b=.ok 1 b:=b6
def agB{d e k l i}:(Op.equalIn 10000 108 (ce #[M q,M y,M d,M e])<|ce #[M j,M k,M l,M i]).run aL b=.ok (q==j&&(y==k&&(d==l&&e==i))) b:=by
 let t:aL.underlying 108=ae (.array 4 3):=b6;let aO:aL.underlying 3=ae (.int ai):=b6;rw[show(10000:Nat)=9998+1+1 from U,Op.equalIn];simp only[Sem.run_bind,Ia t,wB,acR];rw[Std.Legacy.Range.forIn_eq_forIn_range'];simp only[Std.Legacy.Range.size,List.range',Nat.reduceAdd,Nat.reduceSub,Nat.reduceDiv,List.forIn_cons,List.forIn_nil,r5,fM,Sem.run_bind,agx,wB,run_equalIn_int b 9998 _ _ _ _ _ aO];let n:∀g h:Int,(g==h)=dC (g=h):=λg h=>by rfl
 simp only[n];by_cases o:q=j<;>by_cases p:y=k<;>by_cases a:d=l<;>by_cases r:e=i<;>simp[o,p,a,r,agy,agz,agA,run_equalIn_int _ 9998 _ _ _ _ _ aO]
def Nf(h:φ:=by{
 let aR:∀p q:Int,(p==q)=dC (p=q):=λp q=>by rfl
 rw[agB,aR,aR,aR,aR];grind}):φ:=h
def acS{d bG e c}(o:¬(d=1/\bG=0/\e=0/\(c=0\/c=1))):a_ aL 46 #[ce #[M j,M y,M d,M bG,M e,M c],aS Q] b λm n=>m=bh (bZ #[hD 0 0 0 0 0 0 [] [] 0 0 ak 0 0,aG ak])/\a6 b n:=by
 let:∀a:aQ,(Op.equalIn 10000 108 (ce #[M d,M bG,M e,M c])<|ce #[M 1,M 0,M 0,M 0]).run aL a=.ok ak a:=λa=>Nf;let:∀a:aQ,(Op.equalIn 10000 108 (ce #[M d,M bG,M e,M c])<|ce #[M 1,M 0,M 0,M 1]).run aL a=.ok ak a:=λa=>Nf;go_wp2;refine dQ (v:=bZ #[hD 0 0 0 0 0 0 [] [] 0 0 ak 0 0,aG ak]) (by simp[c_,results46,go_sem,hD];try rfl) U ⟨U,?_⟩;let h:∀(a:aQ) (g:Nat) (v:bk),a6 b a->a6 b (a7 a ⟨J b.1+1,g,af⟩ v):=λa g v k=>fc k (p:=⟨J b.1+1,g,af⟩) ax v;repeat' apply h
 exact((cf cc bo _).alloc ax _).alloc ct _
def adK(a):(Op.equalIn 10000 108 (ce #[M 1,M 0,M 0,M 1])<|ce #[M 1,M 0,M 0,M 0]).run aL a=.ok ak a:=b6
def adM(a):(Op.equalIn 10000 108 (ce #[M 1,M 0,M 0,M 1])<|ce #[M 1,M 0,M 0,M 1]).run aL a=.ok aD a:=b6
def AS(c:aQ)(b a:Int)(s:ap):aQ:=
 (((aN c<|aZ #[ag ai b,ag ai a,ag ai 1,ag ai 0,ag ai 0,ag ai 1] 110).alloc
   (aZ #[ag ai 0,ag ai 0,ag ai 0,ag ai 0,ag ai 0,ag ai 0,am ⟨#[]⟩,am ⟨#[]⟩,ag ai 0,ag ai 0,aG ak,ag ai 0,ag ai 0] 115)).alloc
   (aZ #[ag ai b,ag ai a,ag ai 1,ag ai 0,ag ai 0,ag ai 1,am ⟨#[]⟩,am ⟨#[]⟩,ag ai 0,ag ai 0,aG aD,ag ai 0,ag ai 0] 115)).alloc
   (aZ #[am<|D s,aG ak] 195)
def adN(a c b s):g9 (AS a c b s) (J a.1+1+1) c b 1 0 0 1 [] [] 0 0 aD 0 0/\g9 (AS a c b s) (J a.1+1) 0 0 0 0 0 0 [] [] 0 0 ak 0 0/\ed (AS a c b s) (J a.1+1+1+1) s ak/\a6 a (AS a c b s):=by refine⟨?_,?_,?_,?_⟩;{refine(dv _ _ _ ax).trans ?_;let:=cW (aN (aN a<|aZ #[ag ai c,ag ai b,ag ai 1,ag ai 0,ag ai 0,ag ai 1] 110)<|aZ #[ag ai 0,ag ai 0,ag ai 0,ag ai 0,ag ai 0,ag ai 0,am ⟨#[]⟩,am ⟨#[]⟩,ag ai 0,ag ai 0,aG ak,ag ai 0,ag ai 0] 115)<|aZ #[ag ai c,ag ai b,ag ai 1,ag ai 0,ag ai 0,ag ai 1,am ⟨#[]⟩,am ⟨#[]⟩,ag ai 0,ag ai 0,aG aD,ag ai 0,ag ai 0] 115;simpa [D]using this};{refine(dv _ _ _ ax).trans<|(dv _ _ _ ax).trans ?_;let:=cW (aN a<|aZ #[ag ai c,ag ai b,ag ai 1,ag ai 0,ag ai 0,ag ai 1] 110)<|aZ #[ag ai 0,ag ai 0,ag ai 0,ag ai 0,ag ai 0,ag ai 0,am ⟨#[]⟩,am ⟨#[]⟩,ag ai 0,ag ai 0,aG ak,ag ai 0,ag ai 0] 115;simpa [D]using this};{let:=cW (aN (aN (aN a<|aZ #[ag ai c,ag ai b,ag ai 1,ag ai 0,ag ai 0,ag ai 1] 110)<|aZ #[ag ai 0,ag ai 0,ag ai 0,ag ai 0,ag ai 0,ag ai 0,am ⟨#[]⟩,am ⟨#[]⟩,ag ai 0,ag ai 0,aG ak,ag ai 0,ag ai 0] 115)<|aZ #[ag ai c,ag ai b,ag ai 1,ag ai 0,ag ai 0,ag ai 1,am ⟨#[]⟩,am ⟨#[]⟩,ag ai 0,ag ai 0,aG aD,ag ai 0,ag ai 0] 115)<|aZ #[am<|D s,aG ak] 195;simpa [ed,AS]using this};{exact NU}
def Mc(h:φ:=by go_region;all_goals(go_wp2;refine dQ (v:=bZ #[hD id bits 1 0 0 1 q nm k' c' aD z bD,aG ak]) (by simp[c_,results46,go_sem,hD,cS,d1,d2,hN,d4,d5,d6,d7,d8,d9,d10,d11,d12]) U ⟨Mn ak U,?_⟩;first|exact(aW _ (aW _ (aW _ (aW _ (aW _ (aW _ (aW _ (aW _ (aW _ (aW _ (aW _ (aW _ (aW _ bM _ _) _ _) _ _) _ _) _ _) _ _) _ _) _ _) _ _) _ _) _ _) _ _) _ _).drew|exact(aW _ (aW _ (aW _ (aW _ (aW _ (aW _ (aW _ (aW _ (aW _ (aW _ (aW _ (aW _ (aW _ bM.drew _ _) _ _) _ _) _ _) _ _) _ _) _ _) _ _) _ _) _ _) _ _) _ _) _ _))):φ:=h
def OF{id bits}(bo:12<=E d)(T:E d<=1000000000){k' c' x B y}(u:pP (bi 12 d) ak=(s,o,l))(ah:e4 o l=(k',x,t))(R:e4 x t=(c',B,y)){V z bD X Y Z aa ab ac ad h F I K L N P Q}(aB:eY B y=(a,X,F))(aC:e4 X F=(V,Y,H))(aF:e4 Y H=(z,Z,I))(aH:eY Z I=(c,aa,K))(aI:eY aa K=(bD,ab,L))(aJ:nz 2 ab L=(ac,N))(aK:e4 ac N=(g,ad,P))(aM:nz g ad P=(h,Q))(a1:g<=65535){A}(a2:(Q || !(a==0&&V==41))=A):a_ aL 46 #[ce #[M id,M bits,M 1,M 0,M 0,M 1],am<|D d] b λaz bj=>az=bh (bZ #[hD id bits 1 0 0 1 (be (E (bi 12 d)-E B)<|bi 12 d) (cT s) k' c' aD z bD,aG<|!A&&h.isEmpty])/\a6 b bj:=by
 have:=cV d;have al:=O<|zc d 12 U;have:=adK;have:=adM;have ay:=O fun(j:aQ) (a5:ap) (ba:ap) (aU:g9 j (J b.1+1+1) id bits 1 0 0 1 ba a5 k' c' aD 0 0) (aV:ed j (J b.1+1+1+1) B y) (T:E B<=1000000000)=>adZ aU aV G T aB aC aF aH aI aJ aK aM a1;have aT:E B<=1000000000:=by{have av:=(PA (bi 12 d) ak);rw[u]at av;have aw:=sc o l;rw[ah]at aw;have:=sc x t;grind};have bm:=O u;have aY:=O ah;have bf:=O R;let⟨aq,an,a4,aS⟩:=adN b id bits<|bi 12 d;have aj:=O<|PB aq a4 G (by grind) bm aY bf;have C:=O an;have S:=O aS;go_in;go_wp21;rw[al];refine aj.m λbl ⟨i,k,w⟩=>?_;have e:=O<|C.kept<|w.5 _ C.lt ⟨G,G⟩;have bM:=O<|bC S<|w.below (λaX aO=>bd G G) S.4;have W:=O i;have a9:=O<|ay bl _ _ i k aT;let⟨_,_,_,_,_,_,_,_,_,_,tB,_,_⟩:=i.cells;go_wp21;refine a9.m λbq ⟨i,k,w⟩=>?_;rw[a2]at k;have e:=O<|e.kept<|w.5 _ e.lt ⟨G,G⟩;have bM:=O<|bC bM<|w.below (λaX aO=>bd G G) bM.4;have W:=O i;have a0:=O k;generalize ar:be (E (bi 12 d)-E B) (bi 12 d)=q,iN:cT s=nm at*;have au:=O ar;have a3:=O iN;have:=W.cells;let⟨cS,d1,d2,hN,d4,d5,d6,d7,d8,d9,d10,d11,d12⟩:=e.cells;have:=e.frozen;let⟨bb,bp⟩:=a0.cells;go_wp2;have bc:∀r:Bool,(!A&&h.isEmpty)=r->bh (bZ #[hD id bits 1 0 0 1 q nm k' c' aD z bD,aG r])=bh (bZ #[hD id bits 1 0 0 1 (be (E (bi 12 d)-E B)<|bi 12 d) (cT s) k' c' aD z bD,aG<|!A&&h.isEmpty]):=λr aR=>by{rw[au,a3,aR]};have Mn:=O bc;have aW:=O fun(j:aQ) (aP:a6 b j) (a8:Nat) (v:bk)=>fc aP (p:=⟨J b.1+1,a8,af⟩) ax v;cases A;{
 cases h with
 |nil=>{have u:D []=⟨#[]⟩:=U;rw[u]at bb;go_region;all_goals(go_wp2;refine dQ (v:=bZ #[hD id bits 1 0 0 1 q nm k' c' aD z bD,aG aD]) (by simp[c_,results46,go_sem,hD,cS,d1,d2,hN,d4,d5,d6,d7,d8,d9,d10,d11,d12]) U ⟨Mn aD U,?_⟩;first|exact(aW _ (aW _ (aW _ (aW _ (aW _ (aW _ (aW _ (aW _ (aW _ (aW _ (aW _ (aW _ (aW _ bM _ _) _ _) _ _) _ _) _ _) _ _) _ _) _ _) _ _) _ _) _ _) _ _) _ _).drew|exact(aW _ (aW _ (aW _ (aW _ (aW _ (aW _ (aW _ (aW _ (aW _ (aW _ (aW _ (aW _ (aW _ bM.drew _ _) _ _) _ _) _ _) _ _) _ _) _ _) _ _) _ _) _ _) _ _) _ _) _ _))}
 |cons bn n=>{
 have u:((D (bn::n)).toList==(⟨#[]⟩:ByteArray).toList)=ak:=by rw[yV];rfl
 have ah:(D (bn::n)).toList.isEmpty=ak:=by simp_all
 have R:¬b7 (D (bn::n))=0:=by rw[cV];simp
 generalize D (bn::n)=gF at*;exact Mc}};{exact Mc}
def Lj:(eY d aD).2.2=aD:=by cases d<;>rfl
def agD:(e4 d aD).2.2=aD:=by show(eY (eY d aD).2.1 (eY d aD).2.2).2.2=aD;rw[Lj,Lj]
def Cc(c:(eY d l).2.2=ak):l=ak/\∃a b,d=a::b:=by
 cases d with
 |nil=>cases c
 |cons a d=>exact⟨c,a,d,U⟩
def zS{s br}(e:(e4 s br).2.2=ak):br=ak/\∃b a i,s=b::a::i:=by let g:(eY (eY s br).2.1 (eY s br).2.2).2.2=ak:=e;let⟨h,a,k,d⟩:=Cc g;let⟨l,b,j,c⟩:=Cc h;subst c;let:j=a::k:=d;grind
def Ve(c:(nz a d l).2=ak):l=ak/\a<=E d:=by unfold nz at c;grind
def Lk(b:eY d l=(a,o,ak)):l=ak/\E d=E o+1:=by
 cases d with
 |nil=>cases b
 |cons e d=>{obtain⟨rfl,g⟩:=kv b;grind}
def Ll(br:e4 d l=(a,o,ak)):l=ak/\E d=E o+2:=by obtain⟨e,g,h,i,rfl⟩:=zS (s:=d) (br:=l) (by rw[br]);let⟨_,c⟩:=kv br;obtain⟨rfl,_⟩:=kv c;exact bd e U
def Lm(c:nz a d l=(o,ak)):l=ak/\E d=E o+a:=by unfold nz at c;grind
def xX{a b}:e4 (a::b::Q) l=(bg a*256+bg b,Q,l):=rfl
def Ln{a}:eY (a::Q) l=(bg a,Q,l):=rfl
def Cd(a b s):cD (a::b::s) 0=bg a*256+bg b:=by simp[cD];omega
def Lo:∀(f a:Nat) (s:ap) (size:Nat) (b:List ap),(mT f a s aD size b).2.2=aD
 |0,a,s,size,b=>U
 |f+1,a,s,size,b=>by
  unfold mT;split;{rfl};{
  split;{rfl};{
  have c:(eP s aD a).2.2=aD:=by unfold eP;grind
  rw[c,Lj];exact Lo f _ _ _ _}}
def Vf:∀{f:Nat} {s:ap} {c d:List ap} {b:ap},l0 f s c=ae (d,b)->E b+1<=E s
 |0,_,_,_,_,a=>by cases a
 |f+1,[],_,_,_,a=>by cases a
 |f+1,e::s,c,d,b,a=>by unfold l0 at a;split at a;{grind};{split at a;{cases a};{have:=Vf a;grind}}
def Vg:∀(e:Nat) (a:UInt8) (s:ap) (f size:Nat) (c:List ap),E s+1<e->257<=f+size->size<=255->(∃d b,l0 e (a::s) c=ae (d,b)/\E b<=E s/\size+(E s-E b)<=255/\mT f (bg a) s ak size c=(d,b,ak)) \/
  ((∀d b,l0 e (a::s) c=ae (d,b)->E b<=E s/\255<size+(E s-E b))/\(mT f (bg a) s ak size c).2.2=aD)
 |0,a,s,f,size,c,n,_,_=>absurd n G
 |e+1,a,s,f,size,c,n,B,C=>by
  obtain⟨f,rfl⟩:∃u,f=u+1:=⟨f-1,G⟩;by_cases o:a=0;{subst o;refine bJ ⟨c,s,?_,cO _,G,?_⟩;{rfl};rfl};{
  have H:bg a≠0:=λg=>o<|sM g;have y:l0 (e+1) (a::s) c=if 63<bg a\/E s<bg a then af else l0 e (bi (bg a) s) (c++[be (bg a) s]):=by{
  conv=>lhs;unfold l0
  grind}
  have x:mT (f+1) (bg a) s ak size c=if 63<bg a\/255<size+1+bg a then([],s,aD)else mT f (eY (eP s ak<|bg a).2.1 (eP s ak<|bg a).2.2).1 (eY (eP s ak<|bg a).2.1 (eP s ak<|bg a).2.2).2.1 (eY (eP s ak<|bg a).2.1 (eP s ak<|bg a).2.2).2.2 (size+1+bg a) (c++[(eP s ak<|bg a).1]):=by{
  conv=>lhs;unfold mT
  grind}
  rw[y,x];by_cases D:63<bg a;{grind};by_cases q:E s<bg a;{
  rw[b8<|bE q];refine bE ⟨λd b g=>(by cases g),?_⟩;by_cases j:255<size+1+bg a;{grind};{
  rw[bV G];have h:eP s ak (bg a)=([],[],aD):=by unfold eP;grind
  rw[h];exact Lo _ _ _ _ _}};rw[bV G];have h:eP s ak (bg a)=(be (bg a) s,bi (bg a) s,ak):=by unfold eP;grind
  cases i:bi (bg a) s with
  |nil=>{
  have w:l0 e [] (c++[be (bg a) s])=af:=by cases e<;>rfl
  rw[w];refine bE ⟨λd b g=>(by cases g),?_⟩;by_cases j:255<size+1+bg a;{grind};{rw[bV G,h,i];exact Lo _ _ _ _ _}}
  |cons r p=>{have F:E p+1=E s-bg a:=by{have:=eQ List.length i;grind};by_cases j:255<size+1+bg a;{rw[b8<|bE j];refine bE ⟨λd b g=>?_,U⟩;have:=Vf g;grind};{rw[bV G,h,i];have z:=Vg e r p f (size+1+bg a) (c++[be (bg a) s]) G G G;rcases z with⟨d,b,k,l,A,t⟩|⟨k,l⟩;{exact .inl ⟨d,b,k,G,G,t⟩};{exact .inr ⟨λd b g=>by grind,l⟩}}}}
def adO(b d)(k:E b<d):(∃c a,l0 d b []=ae (c,a)/\E a+1<=E b/\E b-E a<=255/\pP b ak=(c,a,ak)) \/
  ((∀c a,l0 d b []=ae (c,a)->255<E b-E a)/\(pP b ak).2.2=aD):=by
 cases b with
 |nil=>exact bE ⟨λc a h=>(by cases d<;>cases h),U⟩
 |cons i s=>{rw[dW]at k;rcases Vg d i s 256 1 [] G G G with⟨c,a,e,g,l,j⟩|⟨e,g⟩;{exact .inl ⟨c,a,e,by grind,by grind,j⟩};{exact .inr ⟨λc a h=>by grind,g⟩}}
def adP{t:ap}(e:4<=E t):∃a b c d s,t=a::b::c::d::s:=by
 match t,e with
 |a::b::c::d::s,_=>simp
def adQ{t:ap}(l:11<=E t):∃a b c d e f g h i j k s,t=a::b::c::d::e::f::g::h::i::j::k::s:=by
 match t,l with
 |a::b::c::d::e::f::g::h::i::j::k::s,_=>simp
def xY(m:ap)(g d:Int)(a:Ending):Prop:=match gg m with
 |none=>∃c,KQ c/\a=bh (bZ #[c,aG ak])
 |some (i,h,j,e,b,k,v)=>a=bh (bZ #[hD g d 1 0 0 (if b=aD then 1 else 0) i (cT h) j e b k v,aG aD])
def yK(a:gg d=af)(g:l=ak)(h:KQ e:=by exact⟨_,_,_,_,_,_,_,_,_,_,_,_,_,rfl⟩):xY d j q (bh<|bZ #[e,aG l]):=by grind[xY]
def Mq(h:φ:=by
 have yU:=λh=>hb3 (j1 (j2 (j3 (j4 (j5 (j6 (j7 (j8 h).1).1).1).1).1).1).1).1;rcases h10 with h10|h10
 ·rw[h10];exact(OC hm hl e1 e2 e3).m λw' hb=>⟨yK hno<|by grind,hb⟩
 ·rw[h10];exact(OF hm hl e1 e2 e3 f1 f2 f3 f4 f5 f6 f7 f8 jQ U).m λw' hb=>⟨yK hno<|by grind,hb⟩):φ:=h
def ad0(m S Q an)(hm:12<=E m)(hl:E m<=1000000000):a_ aL 46 #[ce #[M S,M Q,M<|cD m 4,M<|cD m 6,M<|cD m 8,M<|cD m 10],aS m] an λR w'=>xY m S Q R/\a6 an w':=by
 by_cases a3:cD m 4=1/\cD m 6=0/\cD m 8=0/\(cD m 10=0\/cD m 10=1)
 case neg=>
  exact(acS G).m λw' hb=>⟨yK (by unfold gg;grind) U,hb⟩
 let⟨aW,aX,aY,h10⟩:=a3;have a5:gg m=match l0 (E m+1) (bi 12 m) []with
  |none=>af
  |some (y,t)=>
   if 255<E m-E t-12\/E t<4 then af
   else if cD m 10=0 then(if E t=4 then ae (be (E m-E t+4-12)<|bi 12 m,y,cD t 0,cD t 2,ak,0,0)else af)
   else if E t<15\/t.getD 4 0≠0\/cD t 5≠41\/15+cD t 13≠E t then af
   else ae (be (E m-E t+4-12)<|bi 12 m,y,cD t 0,cD t 2,aD,cD t 7,bg<|t.getD 10 0):=by
  unfold gg
  grind
 have:E (bi 12 m)=E m-12:=il;rw[aW,aX,aY];obtain⟨⟨y,X,al⟩,e1⟩:∃g,pP (bi 12 m) ak=g:=eR _ U
 obtain⟨⟨bp,Y,P⟩,e2⟩:∃g,e4 X al=g:=eR _ U
 obtain⟨⟨bn,Z,z⟩,e3⟩:∃g,e4 Y P=g:=eR _ U
 obtain⟨⟨bG,aa,B⟩,f1⟩:∃g,eY Z z=g:=eR _ U
 obtain⟨⟨bq,ab,C⟩,f2⟩:∃g,e4 aa B=g:=eR _ U
 obtain⟨⟨bI,ac,D⟩,f3⟩:∃g,e4 ab C=g:=eR _ U
 obtain⟨⟨bH,ad,F⟩,f4⟩:∃g,eY ac D=g:=eR _ U
 obtain⟨⟨bm,ah,H⟩,f5⟩:∃g,eY ad F=g:=eR _ U
 obtain⟨⟨O,A⟩,f6⟩:∃g,nz 2 ah H=g:=eR _ U
 obtain⟨⟨L,aj,I⟩,f7⟩:∃g,e4 O A=g:=eR _ U
 obtain⟨⟨bF,K⟩,f8⟩:∃g,nz L aj I=g:=eR _ U
 have jQ:L<=65535:=by have:=aim O A;grind
 have a9:P=ak->al=ak/\∃a b d,X=a::b::d:=λh=>zS (by grind);have ba:z=ak->P=ak/\∃a b d,Y=a::b::d:=λh=>zS (by grind);have j1:B=ak->z=ak/\∃c d,Z=c::d:=λh=>Cc (by grind);have j2:C=ak->B=ak/\∃a b d,aa=a::b::d:=λh=>zS (by grind);have j3:D=ak->C=ak/\∃a b d,ab=a::b::d:=λh=>zS (by grind);have j4:F=ak->D=ak/\∃c d,ac=c::d:=λh=>Cc (by grind);have j5:H=ak->F=ak/\∃c d,ad=c::d:=λh=>Cc (by grind);have j6:A=ak->H=ak/\2<=E ah:=λh=>Ve (by grind);have j7:I=ak->A=ak/\∃a b d,O=a::b::d:=λh=>zS (by grind);have j8:K=ak->I=ak/\L<=E aj:=λh=>Ve (by grind);rcases adO (bi 12 m) (E m+1) G with⟨bz,t,T,V,bB,W⟩|⟨T,V⟩
 case inr=>
  have hno:gg m=af:=by
   grind
  rw[e1]at V;have hb3:z≠ak:=λh=>by grind
  exact Mq
 rw[e1]at W;let⟨u1,aB⟩:=kv W;let⟨u2,u3⟩:=kv aB;have aq:=b5 u2;subst u1 aq u3;rw[T]at a5;by_cases ar:E t<4
 ·have hno:gg m=af:=by
   grind
  have hb3:z≠ak:=λh=>by
   let⟨aV,a,b,d,R⟩:=ba h;let⟨_,bf,bl,bD,aC⟩:=a9 aV;rw[aC]at e2 ar;rw[xX]at e2
   grind
  exact Mq
 obtain⟨a,b,c,e,s,rfl⟩:=adP (t:=t) G;rw[xX]at e2;obtain⟨rfl,aF⟩:=kv e2;obtain⟨rfl,rfl⟩:=kv aF;rw[xX]at e3;obtain⟨rfl,aH⟩:=kv e3;obtain⟨rfl,rfl⟩:=kv aH;have bb:E (a::b::c::e::s)=E s+4:=ax;have az:be (E (bi 12 m)-E s) (bi 12 m)=be (E m-E (a::b::c::e::s)+4-12) (bi 12 m):=by
  grind
 have:¬(255<E m-E (a::b::c::e::s)-12\/E (a::b::c::e::s)<4):=G;have i:gg m=if cD m 10=0 then(if(a::b::c::e::s).length=4 then ae (be (E m-E (a::b::c::e::s)+4-12)<|bi 12 m,y,cD (a::b::c::e::s) 0,cD (a::b::c::e::s) 2,ak,0,0)else af)
   else if(a::b::c::e::s).length<15\/(a::b::c::e::s).getD 4 0≠0\/cD (a::b::c::e::s) 5≠41\/15+cD (a::b::c::e::s) 13≠E (a::b::c::e::s) then af
   else ae (be (E m-E (a::b::c::e::s)+4-12)<|bi 12 m,y,cD (a::b::c::e::s) 0,cD (a::b::c::e::s) 2,aD,cD (a::b::c::e::s) 7,bg<|(a::b::c::e::s).getD 10 0):=by
  grind
 rw[<-az]at i;have a0:cD (a::b::c::e::s) 0=bg a*256+bg b:=Cd a b _;have a1:cD (a::b::c::e::s) 2=bg c*256+bg e:=Cd c e s;rw[a0,a1]at i;rcases h10 with h10|h10
 ·rw[h10];refine(OC hm hl e1 U U).m λw' hb=>bd ?_ hb;rw[b8 h10,bb]at i;cases s with
  |nil=>
   rw[b8 ax]at i;rw[xY,i];rfl
  |cons g s=>
   rw[bV ax]at i;exact yK i U
 ·rw[h10];refine(OF hm hl e1 U U f1 f2 f3 f4 f5 f6 f7 f8 jQ U).m λw' hb=>bd ?_ hb;rw[bV G]at i;by_cases bo:E s<11
  ·rw[b8<|bJ G]at i;refine yK i ?_;cases K
   ·exfalso;obtain⟨rfl,bc⟩:=Lm f8;obtain⟨rfl,bj⟩:=Ll f7;obtain⟨rfl,bw⟩:=Lm f6;obtain⟨rfl,bv⟩:=Lk f5;obtain⟨rfl,bu⟩:=Lk f4;obtain⟨rfl,bt⟩:=Ll f3;obtain⟨rfl,bs⟩:=Ll f2;let⟨_,br⟩:=Lk f1;omega
   ·rfl
  ·obtain⟨l,n,o,p,q,x,w,r,u,j,k,d,rfl⟩:=adQ (t:=s) G;rw[Ln]at f1;obtain⟨rfl,aI⟩:=kv f1;obtain⟨rfl,rfl⟩:=kv aI;rw[xX]at f2;obtain⟨rfl,aJ⟩:=kv f2;obtain⟨rfl,rfl⟩:=kv aJ;rw[xX]at f3;obtain⟨rfl,aK⟩:=kv f3;obtain⟨rfl,rfl⟩:=kv aK;rw[Ln]at f4;obtain⟨rfl,au⟩:=kv f4;obtain⟨rfl,rfl⟩:=kv au;rw[Ln]at f5;obtain⟨rfl,av⟩:=kv f5;obtain⟨rfl,rfl⟩:=kv av;have aw:nz 2 (r::u::j::k::d) ak=(j::k::d,ak):=dl;rw[aw]at f6;obtain⟨rfl,rfl⟩:=kv f6;rw[xX]at f7;obtain⟨rfl,aM⟩:=kv f7;obtain⟨rfl,rfl⟩:=kv aM;have aR:(a::b::c::e::l::n::o::p::q::x::w::r::u::j::k::d).getD 4 0=l:=U;have aT:cD (a::b::c::e::l::n::o::p::q::x::w::r::u::j::k::d) 5=bg n*256+bg o:=Cd n o [];have aU:cD (a::b::c::e::l::n::o::p::q::x::w::r::u::j::k::d) 7=bg p*256+bg q:=Cd p q [];have aP:cD (a::b::c::e::l::n::o::p::q::x::w::r::u::j::k::d) 13=bg j*256+bg k:=Cd j k [];have aO:(a::b::c::e::l::n::o::p::q::x::w::r::u::j::k::d).getD 10 0=w:=U;rw[aR,aT,aU,aP,aO]at i;have a4:E (a::b::c::e::l::n::o::p::q::x::w::r::u::j::k::d)=E d+15:=ax;rw[a4]at i;have:l=0↔bg l=0:=⟨λh=>uo,λh=>sM h⟩
   generalize bg j*256+bg k=N,bg n*256+bg o=ap at*;by_cases a2:l=0/\ap=41/\N=E d
   ·obtain⟨a8,rfl,rfl⟩:=a2;rw[bV<|by grind]at i;let ay:nz (E d) d ak=([],ak):=by simp[nz]
    rw[ay]at f8;obtain⟨rfl,rfl⟩:=kv f8;rw[xY,i,a8];rfl
   ·rw[b8 (by
     grind)]at i
    refine yK i ?_;cases K
    ·let⟨_,bc⟩:=Lm f8
     grind
    ·rfl
def aeA(W:Nat){bG}(k l g h o)(p n S)(H:aQ->bk->bk->bk->bk->bk->Prop)(aX:(bits .and ai c 32768 != 0)=ak)(aY:(bits .and ai c 30720 != 0)=ak)(aK:a_ aL 44 #[aS Q] b<|cI (bZ #[ce #[M a,M c,M j,M bG,M q,M y],aG aD]) b)(aM:∀i,a_ aL 46 #[ce #[M a,M c,M j,M bG,M q,M y],aS Q] i<|cI (bZ #[hD a c j bG q y p n k l o g h,aG aD]) i)(aI:∀i,a6 b i->a_ aL 48 #[hD a c j bG q y p n k l o g h,bv W] i λF m=>(∃t u w x e,F=bh (ce #[t,u,w,x,e])/\H m t u w x e)/\a6 i m)(aO:∀i t u w x e,a6 b i->H i t u w x e->a_ aL 47 #[hD a c j bG q y p n k l o g h,ce #[t,u,w,x,e]] i (cI (aS S) i)):a_ aL 14 #[bv W,aS Q] b (cI (aS S) b):=by
 have ac:=O aK;have X:=O aM;have T:=O aI;have R:=O aO;unfold hD at X T R;go_in;go_wp21;refine ac.m λa1 P=>?_;have aP:=P.4;replace P:=O P;go_wp21;refine(X _).m λB aJ=>?_;have aa:=(cf P aP _).trans<|bN aJ ct;have ah:=O aa;have aR:=aa.4;go_wp2;have ab:g9 (aN B<|aZ #[ag ai a,ag ai c,ag ai j,ag ai bG,ag ai q,ag ai y,am<|D p,am<|D n,ag ai k,ag ai l,aG o,ag ai g,ag ai h] 115) (J B.1) a c j bG q y p n k l o g h:=cW B _;have Y:a6 b (aN B<|aZ #[ag ai a,ag ai c,ag ai j,ag ai bG,ag ai q,ag ai y,am<|D p,am<|D n,ag ai k,ag ai l,aG o,ag ai g,ag ai h] 115):=cf ah aR _;generalize (aN B<|aZ #[ag ai a,ag ai c,ag ai j,ag ai bG,ag ai q,ag ai y,am<|D p,am<|D n,ag ai k,ag ai l,aG o,ag ai g,ag ai h] 115)=z at*;have d:∀i r:aQ,a6 i r->(bY i (J B.1) 0 (M a)/\bY i (J B.1) 1 (M c)/\bY i (J B.1) 2 (M j)/\bY i (J B.1) 3 (M bG)/\bY i (J B.1) 4 (M q)/\bY i (J B.1) 5 (M y)/\bY i (J B.1) 6 (aS p)/\bY i (J B.1) 7 (aS n)/\bY i (J B.1) 8 (M k)/\bY i (J B.1) 9 (M l)/\bY i (J B.1) 10 (aG o)/\bY i (J B.1) 11 (M g)/\bY i (J B.1) 12 (M h))->(bY r (J B.1) 0 (M a)/\bY r (J B.1) 1 (M c)/\bY r (J B.1) 2 (M j)/\bY r (J B.1) 3 (M bG)/\bY r (J B.1) 4 (M q)/\bY r (J B.1) 5 (M y)/\bY r (J B.1) 6 (aS p)/\bY r (J B.1) 7 (aS n)/\bY r (J B.1) 8 (M k)/\bY r (J B.1) 9 (M l)/\bY r (J B.1) 10 (aG o)/\bY r (J B.1) 11 (M g)/\bY r (J B.1) 12 (M h)):=λi r C K=>by
  let A:∀(I:Addr) (v:bk),aA i I=ae v->aA r I=ae v:=λI v K=>(C.cell<|g_ i I K).trans K;let⟨aj,al,ar,au,av,aw,ax,ay,az,aB,an,ap,aq⟩:=K;exact⟨A _ _ aj,A _ _ al,A _ _ ar,A _ _ au,A _ _ av,A _ _ aw,A _ _ ax,A _ _ ay,A _ _ az,A _ _ aB,A _ _ an,A _ _ ap,A _ _ aq⟩
 have aU:ao (∀i,a6 b i->(bY i (J B.1) 0 (M a)/\bY i (J B.1) 1 (M c)/\bY i (J B.1) 2 (M j)/\bY i (J B.1) 3 (M bG)/\bY i (J B.1) 4 (M q)/\bY i (J B.1) 5 (M y)/\bY i (J B.1) 6 (aS p)/\bY i (J B.1) 7 (aS n)/\bY i (J B.1) 8 (M k)/\bY i (J B.1) 9 (M l)/\bY i (J B.1) 10 (aG o)/\bY i (J B.1) 11 (M g)/\bY i (J B.1) 12 (M h))->a_ aL 48 #[(ce #[M a,M c,M j,M bG,M q,M y,aS p,aS n,M k,M l,aG o,M g,M h]),bv W] i λF m=>
   ∃t u w x e,F=bh (ce #[t,u,w,x,e])/\(bY m (J B.1) 0 (M a)/\bY m (J B.1) 1 (M c)/\bY m (J B.1) 2 (M j)/\bY m (J B.1) 3 (M bG)/\bY m (J B.1) 4 (M q)/\bY m (J B.1) 5 (M y)/\bY m (J B.1) 6 (aS p)/\bY m (J B.1) 7 (aS n)/\bY m (J B.1) 8 (M k)/\bY m (J B.1) 9 (M l)/\bY m (J B.1) 10 (aG o)/\bY m (J B.1) 11 (M g)/\bY m (J B.1) 12 (M h))/\ao (a6 b m/\H m t u w x e)):=by
  intro i C L;refine(T i C).mono ?_;rintro F m ⟨⟨t,u,w,x,e,rfl,V⟩,G⟩;exact⟨t,u,w,x,e,U,d i m G L,bC C<|bN G C.4,V⟩
 have aT:ao (∀i t u w x e,ao (a6 b i/\H i t u w x e)->(bY i (J B.1) 0 (M a)/\bY i (J B.1) 1 (M c)/\bY i (J B.1) 2 (M j)/\bY i (J B.1) 3 (M bG)/\bY i (J B.1) 4 (M q)/\bY i (J B.1) 5 (M y)/\bY i (J B.1) 6 (aS p)/\bY i (J B.1) 7 (aS n)/\bY i (J B.1) 8 (M k)/\bY i (J B.1) 9 (M l)/\bY i (J B.1) 10 (aG o)/\bY i (J B.1) 11 (M g)/\bY i (J B.1) 12 (M h))->a_ aL 47 #[(ce #[M a,M c,M j,M bG,M q,M y,aS p,aS n,M k,M l,aG o,M g,M h]),ce #[t,u,w,x,e]] i λF m=>
   F=bh (aS<|S)/\(bY m (J B.1) 0 (M a)/\bY m (J B.1) 1 (M c)/\bY m (J B.1) 2 (M j)/\bY m (J B.1) 3 (M bG)/\bY m (J B.1) 4 (M q)/\bY m (J B.1) 5 (M y)/\bY m (J B.1) 6 (aS p)/\bY m (J B.1) 7 (aS n)/\bY m (J B.1) 8 (M k)/\bY m (J B.1) 9 (M l)/\bY m (J B.1) 10 (aG o)/\bY m (J B.1) 11 (M g)/\bY m (J B.1) 12 (M h))/\ao (a6 b m)):=by
  intro i t u w x e aF L;let⟨C,V⟩:=aF;refine(R i _ _ _ _ _ C V).m ?_;intro m G;exact⟨U,d i m G L,bC C<|bN G C.4⟩
 have L:aA (bx z) (N (J B.1) 0)=ae (M a)/\aA (bx z) (N (J B.1) 1)=ae (M c)/\aA (bx z) (N (J B.1) 2)=ae (M j)/\aA (bx z) (N (J B.1) 3)=ae (M bG)/\aA (bx z) (N (J B.1) 4)=ae (M q)/\aA (bx z) (N (J B.1) 5)=ae (M y)/\aA (bx z) (N (J B.1) 6)=ae (aS p)/\aA (bx z) (N (J B.1) 7)=ae (aS n)/\aA (bx z) (N (J B.1) 8)=ae (M k)/\aA (bx z) (N (J B.1) 9)=ae (M l)/\aA (bx z) (N (J B.1) 10)=ae (aG o)/\aA (bx z) (N (J B.1) 11)=ae (M g)/\aA (bx z) (N (J B.1) 12)=ae (M h):=ab.cells;have Z:=Y.drew;have ad:=O Z;clear ab Y Z T R d
 go_region_held (λm=>aA m (N (J B.1) 0)=ae (M a)/\aA m (N (J B.1) 1)=ae (M c)/\aA m (N (J B.1) 2)=ae (M j)/\aA m (N (J B.1) 3)=ae (M bG)/\aA m (N (J B.1) 4)=ae (M q)/\aA m (N (J B.1) 5)=ae (M y)/\aA m (N (J B.1) 6)=ae (aS p)/\aA m (N (J B.1) 7)=ae (aS n)/\aA m (N (J B.1) 8)=ae (M k)/\aA m (N (J B.1) 9)=ae (M l)/\aA m (N (J B.1) 10)=ae (aG o)/\aA m (N (J B.1) 11)=ae (M g)/\aA m (N (J B.1) 12)=ae (M h)) (first|assumption|go_keep)
  (first
   |(go_at_call 48;go_loud (refine(aU _ ad ?_).mono ?_;assumption;rintro F a2 ⟨t,u,w,x,e,rfl,aV,aC⟩))
   |(go_at_call 47;go_loud (refine(aT _ _ _ _ _ _ aC ?_).mono ?_;assumption;rintro F a3 ⟨rfl,aW,aH⟩)))
 rename_i a0;go_wp2;go_ret;exact⟨U,aH⟩
end Go.Proofs.YtkkpahmoljiepabGreatDoor
