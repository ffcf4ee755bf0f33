import Derived.Test.YtkkpahmoljiepaaGreatDoorJ09
import Derived.Test.YtkkpahmoljiepaaGreatDoorJ08
set_option maxRecDepth 1000000
set_option maxHeartbeats 12800000
set_option linter.all false
open Array renaming size->U
open Bool renaming false->ao,true->aE
open ByteArray renaming size->cf
open Decidable renaming decide->dQ
open Eq renaming symm->bZ,trans->c_
open Go renaming Calls->bd,TypeId->d_,Value->bm,World->aQ,callsIn_of_wp_marks->wK,maxLen->hC,results->dr,run_takeDeferred->mI
open Go.Calls renaming mono->gU
open Go.CallsIn renaming inRound->jH
open Go.Ending renaming returned->bg
open Go.IntKind renaming i64->am,u8->ck
open Go.Obj renaming cells->aS,deferred->dq
open Go.Proofs.Tryz renaming prog->aK
open Go.RowKit renaming Below->cB,Hid->ax
open Go.RowKit.Below renaming alloc->ct,mono->bV,setCell->fk,trans->bN
open Go.Value renaming agg->ci,bool->aG,iface->cV,int->ak,ownBlock->bW,slice->aL,string->amz,tuple->bX
open Go.World renaming alloc->aO,alloc_heap_new->du,cell?->aD,drew->bq,drewN->ef,frozen?->io,setCell->a_
open List renaming drop->bh,flatMap->fA,length->E,take->amA,toArray->dl
open Option renaming none->ai,some->ag
open Or renaming inl->bG,inr->bE
open UInt8 renaming toNat->be
namespace Go.Proofs.YtkkpahmoljiepaaGreatDoor
open Go.RowKit Go.Proofs.Tryz
variable{a o:Nat}{b f m:World}{c g n v L:ap}{e k s F:Value}{i p x S:Int}{j:List D}{t H:Bool}{r:List ap}{z:TypeId}{Q:List UInt8}{T:ByteArray}
def v_(c b a:ap):Option (ap×Nat) :=
 if cG a 4<8\/E a<cG a 4\/cG a 2≠53 then ai
 else if cG a 6≠0/\iQ (ch aE<|c++b++[0,17]++[aN<|cG a 4,cO<|cG a 4]++amA (cG a 4) a)≠65535 then ai
 else ag (bh 8<|amA (cG a 4) a,cG a 0)
def rn(a s:ap):Option (ap×Nat) :=
 if E s<28\/be (s.getD 0 0)≠69\/iQ (ch aE<|amA 20 s)≠65535 then ai
 else if cG s 2<28\/E s<cG s 2\/cG s 6%16384≠0\/be (s.getD 9 0)≠17\/amA 4 (bh 16 s)≠a then ai
 else v_ (amA 4<|bh 12 s) (amA 4<|bh 16 s) (amA (cG s 2-20)<|bh 20 s)
def oG:Option (ap×Nat)->bm
 | none=>bX #[amz ⟨#[]⟩,J 0,aG ao]
 | some (m,a)=>bX #[aZ m,J a,aG aE]
def Xy(c:ap)(b a:Nat)(d:a+1<b):cG (amA b c) a=cG c a:=by unfold cG;rw[jw,jw,uD G,uD d,jw,jw]
def rI{P:Prop}(h:P:=by simp[dr,results82,oG,go_sem]):P:=h
def agR(y i s:ap)(d:aQ)(bM:E s<=100000000):bd aK 82 #[l8 y i,aZ s] d (cQ (oG<|rn i s) d):=by
 have:=de s;have j:=ae<|cv (bk.fF d [aZ y,aZ i] 62)<|(dz (U d.1) d).alloc bv<|aS #[amz<|O y,amz<|O i] 62;have⟨R,hR⟩:=bi<|oG<|rn i s;rw[<- hR];unfold rn at hR;replace hR:=ae hR;go_in;by_cases br:E s<28
 ·have a2:(E s:Int)<28:=G;go_wp2;exact eh (v:=oG ai) rI af ⟨by rw[V hR,b7<|bG br],j.2⟩
 have a2:¬(E s:Int)<28:=G;have bc:dQ ((E s:Int)<28)=ao:=by simpa using a2
 have⟨a0,ha0⟩:=bi<|s[0]
 have bn:∀b:0<cf (O s),(O s)[0]=a0:=λb=>bZ ha0;have aP:s.getD 0 0=a0:=by rw[ha0,jw,gw G];rfl
 rw[aP]at hR;have:0<E s:=G;have⟨t,hx⟩:=bi<|be a0;have bF:(be a0:Int)=t:=by rw[hx]
 rw[<- hx]at hR;clear aP ha0 hx;by_cases H:t=69
 case neg =>
  have Y:((t:Int) != 69)=aE:=cx;go_wp2;exact eh (v:=oG ai) rI af ⟨by rw[V hR,b7<|bE<|bG H],j.2⟩
 have Y:((t:Int) != 69)=ao:=cx;have⟨q1,e1,x1⟩:=ru s 0 20 20 af;rw[sk]at e1;rw[<- e1]at hR;have aa:=ae λa=>IT q1 a (by rw[e1,jF];omega);generalize iQ (ch aE q1)=Q at *;have bp:=ae H;clear e1 H;go_wp2_with fail;refine(aa _).m λbI L=>?_;have A:=ae<|bN j.2<|bV L aA;have P:=j.1.below L aA;have:=P.lt;have bA:=P.cell 1 aA;simp only[e9,fw]at bA;clear L j P;by_cases aH:Q=65535
 case neg =>
  have ah:((Q:Int) != 65535)=aE:=cx;go_wp2;exact eh (v:=oG ai) rI af ⟨by rw[V hR,b7<|bE<|bE aH],A⟩
 have ah:((Q:Int) != 65535)=ao:=cx;rw[bJ (by have:=V bp;omega)]at hR;have aC:=ae<|AH s 2 bI G G;have k:=ae λa=>AH s 6 a G G;have:=Ft s 2;generalize cG s 2=c,cG s 6=T at *;clear aH;go_wp2_with fail;refine gU aC ?_;rintro D aX ⟨rfl,bC,N⟩;have g:ax (∀m,a7 d<|ef aX m):=λm=>kv (N▸kv (V A) bC) m;have bb:aD aX (M (U d.1) 1)=ag (aZ i):=N▸bA
 clear aC N bA A aa;by_cases bt:c<28
 ·have ac:(c:Int)<28:=G;go_wp2;go_quiet (fail);go_wp2;exact eh (v:=oG ai) rI af ⟨by rw[V hR,b7<|bG bt],V g _⟩
 have ac:¬(c:Int)<28:=G;have bf:dQ ((c:Int)<28)=ao:=by simpa using ac
 by_cases bu:E s<c
 ·have al:(E s:Int)<c:=G
  go_wp2;go_quiet (fail);go_wp2;exact eh (v:=oG ai) rI af ⟨by rw[V hR,b7<|bE<|bG bu],V g _⟩
 have al:¬(E s:Int)<c:=G;have bj:dQ ((E s:Int)<c)=ao:=by simpa using al
 by_cases I:T%16384=0
 case neg =>
  have aw:((T:Int)%16384 != 0)=aE:=cx;go_wp2_with fail;go_quiet ((go_at_call 141;exact Calls.quiet_of<|k _));go_wp2;exact eh (v:=oG ai) rI af ⟨by rw[V hR,b7<|bE<|bE<|bG I],V g _⟩
 have aw:((T:Int)%16384 != 0)=ao:=cx;have⟨a9,air⟩:=bi<|s[9]
 have bo:∀b:9<cf (O s),(O s)[9]=a9:=λb=>bZ air;have aR:s.getD 9 0=a9:=by rw[air,jw,gw G];rfl
 rw[aR]at hR;have:9<(E s:Int):=G;have⟨u,hx⟩:=bi<|be a9
 have bH:(be a9:Int)=u:=by rw[hx]
 rw[<- hx]at hR;have⟨q2,e2,x2⟩:=ru s 16 20 4 af;rw[<- e2]at hR;have:¬(E s:Int)<20:=G;have a4:=ae I;clear aR air hx I;by_cases K:u=17
 case neg =>
  have ay:((u:Int) != 17)=aE:=cx;go_wp2_with fail;go_quiet ((go_at_call 141;exact Calls.quiet_of<|k _));go_wp2;exact eh (v:=oG ai) rI af ⟨by rw[V hR,b7<|bE<|bE<|bE<|bG K],V g _⟩
 have ay:((u:Int) != 17)=ao:=cx;by_cases o:q2=i
 case neg =>
  have ad:=Og o;clear K e2;go_wp2_with fail;go_quiet ((go_at_call 141;exact Calls.quiet_of<|k _));go_wp2;exact eh (v:=oG ai) rI af ⟨by rw[V hR,b7<|bE<|bE<|bE<|bE o],V g _⟩
 have ad:=Of o;rw[bJ (by have:=V a4;rintro(b|b|b|b|b)<;>first|contradiction|omega)]at hR;obtain⟨e,x,bL⟩:=ru s 20 c (c-20) G;have bx:E e=c-20:=by rw[x,jF,js];omega
 rw[<- x]at hR;have:cf (O e)=c-20:=by rw[de,bx]
 have:¬(c:Int)<20:=G;have⟨q3,e3,x3⟩:=ru s 12 16 4 af;rw[<- e3]at hR;have ab:=ae λa=>AH e 4 a G G;have a6:E q3<=4:=by rw[e3,jF];omega
 have bD:E q2<=4:=by rw[e2,jF];omega
 clear K o e2 x e3;go_wp2;go_quiet ((go_at_call 141;exact Calls.quiet_of<|k _));go_wp2_with fail;refine(ab _).m λaY ⟨bz,aJ⟩=>?_;have l:ax (∀m,a7 d<|ef aY m):=λm=>aJ▸kv (kv (g nq) bz) m
 have a3:=ae λa=>AH e 2 a G G;unfold v_ at hR;have W:=ae λb:8<=cG e 4=>Xy e (cG e 4) 0 G;have X:=ae λb:8<=cG e 4=>Xy e (cG e 4) 6 G;have:=Ft e 4;generalize cG e 4=m,cG e 2=C at *;clear ab aJ g bb x1 bn bo bF bH Y ah aw ay ad k bc bf bj;by_cases a5:m<8
 ·have an:(m:Int)<8:=G;go_wp2;exact eh (v:=oG ai) rI af ⟨by rw[V hR,b7<|bG a5],V l 0⟩
 have an:¬(m:Int)<8:=G;have bl:dQ ((m:Int)<8)=ao:=by simpa using an
 by_cases bs:E e<m
 ·have a8:(((c-20:Nat):Int))<(m:Int):=G;go_wp2;exact eh (v:=oG ai) rI af ⟨by rw[V hR,b7<|bE<|bG bs],V l 0⟩
 have a8:¬(((c-20:Nat):Int))<(m:Int):=G;have aq:=ae<|a3 aY;go_wp2_with fail;refine aq.m λa1 ⟨bB,aM⟩=>?_;have q:ax (∀m,a7 d<|ef a1 m):=λm=>aM▸kv (l bB) m
 clear aM a3 aq l bl;by_cases aF:C=53
 case neg =>
  have ba:((C:Int) != 53)=aE:=cx;go_wp2;exact eh (v:=oG ai) rI af ⟨by rw[V hR,b7<|bE<|bE aF],V q 0⟩
 have ba:((C:Int) != 53)=ao:=cx;rw[bJ G,<- V W G,<- V X G]at hR;obtain⟨v,n,bO⟩:=ru e 0 m m G;rw[sk]at n;rw[<- n]at hR;have aI:E v=m:=by rw[n,jF];omega
 have:cf (O v)=m:=by rw[de,aI]
 have z:=ae λa=>AH v 6 a G G;have Z:=ae λa=>AH v 0 a G G;have:(O v).extract 8 m=O (bh 8 v):=aI▸Cf v 8 af
 generalize bh 8 v=aW at *;have az:=ae λa=>V5 q3 q2 m a G G G;have⟨ps,ait,aTn,abr⟩:=kh (q3++q2++[0,17]++[aN m,cO m]) v;rw[<- ait]at hR;have aT:=ae λa=>IT ps a (by rw[ait];simp;omega);have bK:¬9223372036854775807<cf (O<|q3++q2++[0,17]++[aN m,cO m])+m:=by rw[de];simp;omega
 generalize q3++q2++[0,17]++[aN m,cO m]=pp,iQ (ch aE ps)=w at *;generalize cG v 6=B,cG v 0=aU at *;clear W X aF n ait a6 bD abr;go_wp2;by_cases aV:B=0
 ·go_quiet ((go_at_call 141;exact Calls.quiet_of<|z _));go_wp2;have F:=ae λc=>kv (q nq) c;generalize ef a1 nq=S at *;go_quiet ((go_at_call 141;exact Calls.quiet_of<|Z _));go_wp2;exact eh (v:=oG<|ag (aW,aU)) rI af ⟨by rw[V hR,bJ λb=>b.1 aV],V F _⟩
 have:((B:Int) != 0)=aE:=cx;have:(16:Int)<=E s:=G;have ar:ax (∀a,a7 d a->bd aK 141 #[aZ v,J 6] a (cQ (J B) d)):=λa h=>(z a).mono λD r b=>⟨b.1,b.2.elim λc bw=>bw ▸ kv h c⟩
 have au:ax (∀a,a7 d a->bd aK 85 #[aZ q3,aZ q2,J m] a (cQ (aZ pp) d)):=λa h=>(az a).mono λD r b=>⟨b.1,bN h<|bV b.2 h.4⟩
 have av:ax (∀a,a7 d a->bd aK 84 #[aZ ps] a (cQ (J w) d)):=λa h=>(aT a).mono λD r b=>⟨b.1,bN h<|bV b.2 h.4⟩
 have aB:=V q 1;clear az aT q z
 go_region_held (λr=>a7 d r) (first|assumption|exact aB)
  (first
   | (go_at_call 141;go_loud (refine(ar _ fN).m λS p=>?_))
   | (go_at_call 85;go_loud (refine(au _ fN).m λS p=>?_))
   | (go_at_call 84;go_loud (refine(av _ fN).m λS p=>?_)))
 clear ar au av aB;by_cases aj:w=65535
 ·have F:=ae λc=>kv p c;go_wp2;go_quiet ((go_at_call 141;exact Calls.quiet_of<|Z _));go_wp2;exact eh (v:=oG<|ag (aW,aU)) rI af ⟨by rw[V hR,bJ λb=>b.2 aj],V F _⟩
 ·have:((w:Int) != 65535)=aE:=cx;go_wp2;exact eh (v:=oG ai) rI af ⟨by rw[V hR,b7 ⟨aV,aj⟩],p⟩
def tF(ρ:ap->ap)(b a s:ap):ap :=
 if E s<14\/(amA 6 s≠b/\amA 6 s≠[255,255,255,255,255,255])then []
 else if(bh 12 s).take 2=[8,6]then xB b a (bh 14 s)
 else if(bh 12 s).take 2≠[8,0]then []
 else match rn a (bh 14 s)with
  | none=>[]
  | some (m,c)=>if ρ m=[]then []else(bh 6 s).take 6++b++[8,0]++qT a (amA 4<|bh 26 s) (pJ a (amA 4<|bh 26 s) 53 c<|ρ m)
def Xd(b:v_ g n c=ag (v,a)):E v<=65535/\a<=65535:=by unfold v_ at b;split at b;{cases b};{split at b;{cases b};{cases b;refine⟨?_,Ft _ _⟩;rw[js,jF];have:=Ft c 4;omega}}
def agS(b:rn c g=ag (n,a)):28<=E g/\E n<=65535/\a<=65535:=by unfold rn at b;split at b;{cases b};{split at b;{cases b};{exact⟨G,Xd b⟩}}
def agV(b:ap)(a:E c%2=0):ch aE (c++[0,0]++b)=ch aE (c++b):=by rw[jI,VN _ _ a,VN _ _ a];simp[ch]
def agW{d h:Nat}(i:o=8+E n)(k:d=yN g c o)(l:h=xw g c 53 a n):v++L++[8,0]++(rq o++[aN d,cO d]++(g++c))++qz 53 a n++[aN h,cO h]++n=v++L++[8,0]++qT g c (pJ g c 53 a n):=by
 have e:E (pJ g c 53 a n)=o:=by simp[pJ,qz];omega
 unfold qT;rw[e,<- k];unfold pJ;rw[<- l];simp only[jI]
def agX:ch aE (rq a++[0,0]++(g++c))=ch aE (rq a++g++c):=by rw[agV _<|by simp[rq],jI]
def agY(d e:ap)(b:Nat)(h:a=8+E c):iQ (ch aE<|d++e++[0,17]++[aN a,cO a]++qz 53 b c++[0,0]++c)=rk d e (qz 53 b c++[0,0]++c):=by
 have g:E (qz 53 b c++[0,0]++c)=a:=by simp[qz];omega
 unfold rk;rw[g];exact FX
abbrev mB(b:aQ)(c d:ap)(a:aQ):Prop:=aD a (M (U b.1) 0)=ag (aZ c)/\aD a (M (U b.1) 1)=ag (aZ d)/\U b.1<U a.1/\a7 b a
def mB.call(a:mB b g c f)(h:a7 f m):mB b g c m :=
 ⟨(h.cell (p:=⟨U b.1,0,ai⟩) a.2.2.1).trans a.1,(h.cell (p:=⟨U b.1,1,ai⟩) a.2.2.1).trans a.2.1,e8 a.2.2.1 h.4,bN a.2.2.2<|bV h a.2.2.2.4⟩
def mB.drewN(a:mB f c g b)(e:Nat):mB f c g (ef b e):=⟨a.1,a.2.1,a.2.2.1,kv a.2.2.2 e⟩
def mB.of(i:mB b c g f){v:Array bm}(j:bd aK a v f<|cQ e f):bd aK a v f λh k=>h=bg e/\mB b c g k:=gU j λ_ _ d=>⟨d.1,i.call d.2⟩
def Ig{P:Prop}(h:P:=by go_quiet (fail);go_wp2;go_meet;exact⟨by rw[hb],_,af⟩):P:=h
def agZ{ρ:ap->ap}{bL:bm}(cD:E n<=10000000)(b6:E g=6)(b8:E c=4)(br:∀m:ap,E m<=100000->E (ρ m)<=1232/\∀a,a7 b a->bd aK 28 #[bL,aZ m] a (cQ (aZ<|ρ m) a)):bd aK 38 #[bL,l8 g c,aZ n] b (cQ (aZ<|tF ρ g c n) b):=by
 have:=de n;have⟨W0,hW0⟩:=bi<|aO b<|aS #[amz<|O g,amz<|O c] 62;have H:bk W0 (U b.1) [aZ g,aZ c] 62:=by rw[hW0];exact bk.fF b _ _
 have bp:a7 b W0:=by rw[hW0];exact(dz (U b.1) b).alloc bv _
 have Q:=ae<|cv H bp;have⟨R,ze⟩:=bi<|tF ρ g c n;rw[<- ze];unfold tF at ze;have d:=ae ze;have bF:=ae br;have⟨q1,e1,x1⟩:=ru n 0 6 6 af;have⟨q2,e2,x2⟩:=ru n 12 14 2 af;rw[sk]at e1;rw[<- e1,<- e2]at d;obtain⟨u,hb⟩:∃u:Bool,u=dQ (E n<14\/(q1≠g/\q1≠[255,255,255,255,255,255])):=⟨_,af⟩
 have z:=ae hb;have bj:=H.cell 0 aA;have bA:=H.cell 1 aA;simp only[e9,fw]at bj bA;have au:=ae hW0;clear ze br hb H bp e1 e2 hW0;go_in;go_upto_region 1 with fail;rw[<- V au]
 go_cut [31]from 17 to 31 λv aj=>v=aG u/\ax (∃e,aj=ef W0 e)
 ·by_cases h:E n<14
  ·have K:(E n:Int)<14:=G;have hb:u=aE:=by rw[V z];simp[h]
   exact Ig
  have K:¬(E n:Int)<14:=G;have C:dQ ((E n:Int)<14)=ao:=by simpa using K
  have cp:¬(E n:Int)<6:=G;by_cases i:q1=g
  ·have P:=Of i;have hb:u=ao:=by rw[V z];simp[h,i]
   clear i;exact Ig
  have P:=Og i;by_cases l:q1=[255,255,255,255,255,255]
  ·have cc:((O q1).toList==[255,255,255,255,255,255])=aE:=by rw[l,hZ];rfl
   have hb:u=ao:=by rw[V z];simp[h,l]
   clear l;exact Ig
  have cc:((O q1).toList==[255,255,255,255,255,255])=ao:=by rw[hZ,kE];exact l
  have hb:u=aE:=by rw[V z];simp[i,l]
  exact Ig
 case rest =>
 obtain⟨rfl,cs,bu⟩:=hcut;have q:bk wc (U b.1) [aZ g,aZ c] 62/\a7 b wc:=by rw[bu];exact⟨Q.1,kv Q.2 cs⟩
 have ac:=ae q;have cS:=q.1.cell 0 aA;have C:=q.1.cell 1 aA;simp only[e9,fw]at cS C;have S:=V z;have cn:=q.1.lt;have Y:ax (mB b g c wc):=⟨cS,C,cn,q.2⟩
 clear bu Q bj bA au q z;cases u with
 | true =>
  go_wp2;go_ret;exact⟨by rw[V d,b7<|yu<|bZ S];rfl,ac.2⟩
 | false =>
 have ab:=of_decide_eq_false<|bZ S;rw[bJ ab]at d;have cA:14<=E n:=by by_cases aa:E n<14;exact absurd (bG aa) ab;omega
 have cp:¬(E n:Int)<14:=G;have⟨p,ep⟩:=bi<|bh 14 n;have cw:(O n).extract 14 (E n)=O p:=by rw[ep];exact Cf n 14 af
 have bt:E p+14=E n:=by rw[ep,js];omega
 rw[<- ep]at d;have N:=ae<|cv ep bt;clear ab S ep bt;by_cases h:q2=[8,6]
 ·rw[b7 h]at d;have K:((O q2).toList==[8,6])=aE:=by rw[h,hZ];rfl
  have bl:=ae λa=>agQ g c p a (cj N.2) G G;rw[<- V d]at bl;clear h;go_wp2
  go_region_held (λk=>aD k (M (U b.1) 0)=ag (aZ g)/\aD k (M (U b.1) 1)=ag (aZ c)/\U b.1<U k.1/\a7 b k) (first|assumption|exact mB.drewN (V Y) 1)
   (first|(go_at_call 81;go_loud (refine(mB.of fN<|bl _).m ?_;intro bH r)))
  have bU:=ae r.2.2.2;clear r;go_wp2;go_ret;exact FK
 rw[bJ h]at d;have K:((O q2).toList==[8,6])=ao:=by rw[hZ,kE];exact h
 by_cases i:q2=[8,0]
 case neg =>
  rw[b7 i]at d;have P:((O q2).toList==[8,0])=ao:=by rw[hZ,kE];exact i
  go_wp2;go_ret;exact⟨by rw[V d];rfl,ac.2⟩
 have P:((O q2).toList==[8,0])=aE:=by rw[i,hZ];rfl
 rw[bJ λaa=>aa i]at d;have ar:=ae<|agR g c p wc<|cj N.2;clear h i;go_wp2_with fail;refine ar.m ?_;intro bH bs;have D:=ae<|Y.call bs;clear ar Y ac bs cS C;cases B:rn c p with
 | none =>
  rw[B]at d;simp only[oG];clear B;go_wp2;go_ret;exact⟨by rw[V d];rfl,D.2.2.2⟩
 | some cr =>
 obtain⟨m,t⟩:=cr;rw[B]at d;simp only[oG];simp only at d;have:=agS B;have⟨dm,atG⟩:=V bF m G;have bx:=ae<|atG bH D.2.2.2;generalize ρ m=j at *;clear B bF atG;go_wp2_with fail;refine(mB.of (V D)<|V bx).m ?_;intro cE bo;have Z:=ae bo;have b9:=de j;clear bx bo D;by_cases x:j=[]
 ·have bR:(O j).toList.isEmpty=aE:=by rw[hZ,x];rfl
  rw[b7 x]at d;clear x;go_wp2;go_ret;exact⟨by rw[V d];rfl,Z.2.2.2⟩
 have bR:(O j).toList.isEmpty=ao:=by rw[hZ];show j.isEmpty=ao;simpa using x
 rw[bJ x]at d;have:=de p;have⟨src,e1,y1⟩:=ru p 12 16 4 af;have⟨fr,e2,y2⟩:=ru n 6 12 6 af;have bn:amA 4 (bh 26 n)=src:=by rw[e1,N.1,pk]
 rw[bn,<- e2]at d;have cq:E src=4:=by rw[e1,jF,js];omega
 have co:E fr=6:=by rw[e2,jF,js];omega
 clear e1 e2 bn x;have⟨e,hn⟩:=bi<|8+E j;have⟨w,hk⟩:=bi<|20+e;have bQ:am.wrap (8+(E j:Int))=(e:Int):=fT
 have ah:am.wrap (20+(e:Int))=(w:Int):=fT
 have:e<=2000:=G;have aB:=ae λa=>qa w a G;have⟨o,f0,g0,z0⟩:=kh [69,0] [aN w,cO w];have⟨h,f1,g1,z1⟩:=kh o [0,0,64,0,64,17];have cg:(⟨#[69,0]⟩:ByteArray)++O [aN w,cO w]=O o:=g0;have F:O o++⟨#[0,0,64,0,64,17]⟩=O h:=g1;have X:h=rq e:=by rw[f1,f0,hk];rfl
 have T:cf (O h)=10:=by rw[X];rfl
 have bS:cf (O o)=4:=by rw[f0];rfl
 have bT:cf (O [aN w,cO w])=2:=af;have A:=ae<|cv hn X;clear f0 f1 g0 g1 z0 z1 hn hk X;go_wp2_with fail;refine(mB.of (V Z)<|aB _).m ?_;intro cu L;have bw:=ae L;have bA:=L.2.1;have:¬(E p:Int)<16:=G;have bY:cf (O c)=4:=by rw[de,b8]
 have b0:cf (O src)=4:=by rw[de,cq]
 have⟨ad,fa,ga,za⟩:=kh c src;have aV:cf (O ad)=8:=by rw[za,bY,b0]
 have aq:=ae fa;clear L Z aB za fa;go_wp2;go_quiet (fail);have⟨i,f2,g2,z2⟩:=kh h [0,0];have⟨l,f3,g3,z3⟩:=kh i ad;have cl:O h++⟨#[0,0]⟩=O i:=g2;have aW:cf (O i)=12:=by rw[z2,T];rfl
 have aX:=ae λa=>IT l a (by rw[<- de,z3,aW,aV];omega);have:=yH<|ch aE l;have aY:iQ (ch aE l)=iQ (ch aE<|rq e++c++src):=by rw[f3,f2,V aq,A.2,agX]
 generalize iQ (ch aE l)=al at *;have⟨s,q⟩:=bi<|65535-al;have bM:am.wrap (65535-(al:Int))=(s:Int):=fT
 have a0:s=yN c src e:=by rw[q,aY];rfl
 have aC:=ae λa=>qa s a G;have⟨h4,f4,g4,z4⟩:=kh h [aN s,cO s];have⟨h5,f5,g5,z5⟩:=kh h4 ad;have cy:cf (O [aN s,cO s])=2:=af;have a1:cf (O h4)=12:=by rw[z4,T];rfl
 have b1:cf (O h5)=20:=by rw[z5,a1,aV]
 have a2:h5=rq e++[aN s,cO s]++(c++src):=by rw[f5,f4,V aq,A.2]
 have bC:=ae<|cv a0 a2;have bB:=ae<|bw.drewN nq;generalize ef cu nq=cF at *;clear f2 f3 f4 f5 g2 z2 z3 z4 z5 aY q a0 a2 bw bA;go_wp2_with fail;refine(mB.of (V bB)<|aX _).m ?_;intro cG aw;have bz:=ae aw;clear aw bB aX;go_wp2_with fail;refine(mB.of (V bz)<|aC _).m ?_;intro cH ay;have bD:=ae ay;clear ay bz aC;have aF:ax (∀a,bd aK 83 #[J 53] a<|cQ (aZ [aN 53,cO 53]) a):=λa=>qa 53 a G;have aH:=ae λa=>qa t a G;have aI:=ae λa=>qa e a G;have⟨u0,f6,g6,z6⟩:=kh [aN 53,cO 53] [aN t,cO t];have⟨u1,f7,g7,z7⟩:=kh u0 [aN e,cO e];have a3:cf (O u0)=4:=by rw[z6];rfl
 have a4:cf (O u1)=6:=by rw[z7,a3];rfl
 have bP:cf (O [aN 53,cO 53])=2:=af;have b2:cf (O [aN t,cO t])=2:=af;have:cf (O [aN e,cO e])=2:=af;have a5:u1=qz 53 t j:=by rw[f7,f6,A.1];rfl
 have av:=ae a5;clear f6 f7 z6 z7 a5;go_wp2_with fail;refine(mB.of (V bD)<|aF _).m ?_;intro cI aP;have bK:=ae aP;clear aP bD aF;go_wp2_with fail;refine(mB.of (V bK)<|aH _).m ?_;intro cJ aM;have an:=ae aM;clear aM bK aH;go_wp2_with fail;refine(mB.of (V an)<|aI _).m ?_;intro cK a6;have a8:=ae a6;clear a6 an aI;go_wp2;clear bQ ah bM cg F T bS bT cl g3 aW g4 a1 cy g6 g7 a3 bP b2 ga cw x1 x2;have W:=ae λa=>V5 c src e a G G G;have⟨ps,jP⟩:=bi<|c++src++[0,17]++[aN e,cO e];rw[<- jP]at W;have⟨r0,f0,g0,z0⟩:=kh ps u1;have⟨r1,f1,g1,z1⟩:=kh r0 [0,0];have⟨r2,f2,g2,z2⟩:=kh r1 j;have F:O r0++⟨#[0,0]⟩=O r1:=g1;have aU:cf (O ps)=12:=by rw[de,jP];simp;omega
 have a9:cf (O r0)=18:=by rw[z0,aU,a4]
 have ba:cf (O r1)=20:=by rw[z1,a9];rfl
 have aT:¬9223372036854775807<20+E j:=G;have bb:=ae λa=>IT r2 a (by rw[<- de,z2,ba,b9];omega);have:=yH<|ch aE r2;have bc:iQ (ch aE r2)=rk c src (qz 53 t j++[0,0]++j):=by rw[f2,f1,f0,jP,V av,agY c src t A.1]
 generalize iQ (ch aE r2)=az at *;have⟨y,PK⟩:=bi<|65535-az;have ah:am.wrap (65535-(az:Int))=(y:Int):=fT
 have⟨kk,aix⟩:=bi<|xw c src 53 t j;have aR:ax (kk=if y=0 then 65535 else y):=by rw[ax,aix,xw,<- bc,<- PK]
 have cm:kk<65536:=by rw[V aR];split<;>omega
 have b3:=ae aix;clear jP f0 f1 f2 g1 z0 z1 z2 bc PK aix
 go_region_held (λk=>aD k (M (U b.1) 0)=ag (aZ g)/\aD k (M (U b.1) 1)=ag (aZ c)/\U b.1<U k.1/\a7 b k) (first|assumption|exact mB.drewN (V a8) 1)
  (first
   | (go_at_call 85;go_loud (refine(mB.of fN<|W _).m ?_;intro bI r))
   | (go_at_call 84;go_loud (refine(mB.of fN<|bb _).m ?_;intro bI r)))
 have bf:=ae r;clear r a8 W bb g0 g2 F a9 ba aT aU ah
 go_upto_if 103 with fail
 go_cut [16]from 102 λv aj=>v=J kk/\bI=aj
 ·have I:=V aR;by_cases o:y=0
  ·have cd:((y:Int)==0)=aE:=cx;rw[b7 o]at I;subst I;clear o;go_wp2;go_meet;exact pf
  ·have cd:((y:Int)==0)=ao:=cx;rw[bJ o]at I;subst I;clear o;go_wp2;go_meet;exact pf
 case rest =>
 obtain⟨rfl,rfl⟩:=hcut;have aJ:=ae λa=>qa kk a cm;have⟨t0,f0,g0,z0⟩:=kh fr g;have⟨t1,f1,g1,z1⟩:=kh t0 [8,0];have⟨t2,f2,g2,z2⟩:=kh t1 h5;have⟨t3,f3,g3,z3⟩:=kh t2 u1;have⟨t4,f4,g4,z4⟩:=kh t3 [aN kk,cO kk];have⟨t5,f5,g5,z5⟩:=kh t4 j;have F:O t0++⟨#[8,0]⟩=O t1:=g1;have bO:cf (O fr)=6:=by rw[de,co]
 have cz:cf (O g)=6:=by rw[de,b6]
 have b4:cf (O t0)=12:=by rw[z0,bO,cz]
 have b5:cf (O t1)=14:=by rw[z1,b4];rfl
 have b_:cf (O t2)=34:=by rw[z2,b5,b1]
 have ca:cf (O t3)=40:=by rw[z3,b_,a4]
 have cC:cf (O t4)=42:=by rw[z4,ca];rfl
 have:cf (O [aN kk,cO kk])=2:=af;have aT:¬9223372036854775807<42+E j:=G;have:(12:Int)<=E n:=G;have ce:ax (t5=R):=by rw[ax,f5,f4,f3,f2,f1,f0,V av,bC.2,V d];exact agW A.1 bC.1<|V b3
 clear f0 f1 f2 f3 f4 f5 g1 z0 z1 z2 z3 z4 z5;go_wp2
 go_region_held (λk=>aD k (M (U b.1) 0)=ag (aZ g)/\aD k (M (U b.1) 1)=ag (aZ c)/\U b.1<U k.1/\a7 b k) (first|assumption|exact mB.drewN (V bf) 1)
  (first|(go_at_call 83;go_loud (refine(mB.of fN<|aJ _).m ?_;intro iF r)))
 have cb:=ae r.2.2.2;clear r bf aJ;go_wp2;go_ret;exact⟨by rw[<- V ce];rfl,cb⟩
def Qe{P:Prop}(h:P:=by simp[dr,results207,go_sem,z0,z1,z2,z3,z4]):P:=h
def WZ(B:aQ)(aJ:E g<=1000000000){aw D ay az d b e:ap}{C M N i:Bool}(S:e_ g ao 6=(n,v,t))(T:fj v t=(a,L,H))(W:e_ L H 6=(d,aw,C))(X:e_ aw C 4=(b,D,M))(Y:e_ D M 6=(e,ay,N))(Z:e_ ay N 4=(c,az,i))(aN:E v<=1000000000)(aP:E L<=1000000000)(aR:E D<=1000000000):bd aK 207 #[amz<|O g] B λaI aT=>aI=bg (bX #[Fk a d b e c,aG<|(O n).toList==[0,1,8,0,6,4] && !i])/\cB (U B.1) B aT:=by
 have an:bk (aO (aO B<|aS #[ak am 0,amz ⟨#[]⟩,amz ⟨#[]⟩,amz ⟨#[]⟩,amz ⟨#[]⟩] 303)<|aS #[amz<|O g,aG ao] 215) (U B.1) [ak am 0,amz ⟨#[]⟩,amz ⟨#[]⟩,amz ⟨#[]⟩,amz ⟨#[]⟩] 303:=(bk.fF B _ _).alloc _;have au:eB (aO (aO B<|aS #[ak am 0,amz ⟨#[]⟩,amz ⟨#[]⟩,amz ⟨#[]⟩,amz ⟨#[]⟩] 303)<|aS #[amz<|O g,aG ao] 215) (U B.1+1) g ao:=by{have:=du (aO B<|aS #[ak am 0,amz ⟨#[]⟩,amz ⟨#[]⟩,amz ⟨#[]⟩,amz ⟨#[]⟩] 303)<|aS #[amz<|O g,aG ao] 215;simpa [eB]using this};have aa:=ae<|((dz (U B.1) B).alloc (cW _)<|aS #[ak am 0,amz ⟨#[]⟩,amz ⟨#[]⟩,amz ⟨#[]⟩,amz ⟨#[]⟩] 303).alloc aA<|aS #[amz<|O g,aG ao] 215;have y:=ae<|r9 6 au G aJ;rw[S]at y;have aH:=ae an;have aq:=ae T;have K:=ae<|cv W X;have o:=ae<|cv Y Z;clear an au S T W X Y Z;go_in;go_wp2_with (fail);refine(V y).m ?_;rintro aU ⟨ac,r,aj⟩;have z:=ae<|nD t ac aN;rw[V aq]at z;have aF:=ae<|(V aH).kept r G;have P:=ae<|(V aa).trans<|r.below G cx;have A:ax (U B.1+2<=U aU.1):=by rw[ax,aj];simp
 clear ac r aj y aH aa aq;go_wp2_with (fail);refine(V z).m ?_;rintro aV ⟨ad,w,al⟩;have av:=ae<|Xe ad aP (V K).1 (V K).2;have F:=ae<|(V aF).kept w G;have Q:=ae<|(V P).trans<|w.below G<|cj<|V A;have q:ax (U B.1+2<=U aV.1):=by rw[ax,al];exact V A
 clear ad w al z aF P A K;go_wp2_with (fail);refine(V av).m ?_;rintro aW ⟨ah,j⟩;have aB:=ae<|Xe ah aR (V o).1 (V o).2;have s:=ae<|(V F).kept j G;have R:=ae<|(V Q).trans<|j.below G<|cj<|V q;have u:=ae<|cU (V q) j.4;clear ah j av F Q q o;go_wp2_with (fail);refine(V aB).m ?_;rintro l ⟨x,k⟩;have J:=ae<|(V s).kept k G;have ar:=ae<|(V R).trans<|k.below G<|cj<|V u;have aM:=cU (V u) k.4;have aC:eB (aO l<|aS #[ak am a,amz<|O d,amz<|O b,amz<|O e,amz<|O c] 303) (U B.1+1) az i:=(dT _ _ _ x.lt).trans x;have h:=(V J).alloc<|aS #[ak am a,amz<|O d,amz<|O b,amz<|O e,amz<|O c] 303;have ab:=ae<|(V ar).alloc G<|aS #[ak am a,amz<|O d,amz<|O b,amz<|O e,amz<|O c] 303;have:=aC.cells.2;have z0:=h.cell 0 aA;have z1:=h.cell 1 aA;have z2:=h.cell 2 aA;have z3:=h.cell 3 aA;have z4:=h.cell 4 aA;simp only[e9,fw]at z0 z1 z2 z3 z4;have:=h.frozen;have:U B.1≠U l.1:=G;have:U B.1+1≠U l.1:=G;have:U B.1<=U l.1:=G;clear x k aB s R u J aM ar aC h;go_wp2;cases I:((O n).toList==[0,1,8,0,6,4])with
 | true =>{go_region;all_goals(go_wp2;refine eh (v:=bX #[Fk a d b e c,aG<|!i]) Qe af ⟨by rw[I,yn],?_⟩;exact((((((V ab).drew).setCell (cW _) _).setCell (cW _) _).setCell (cW _) _).setCell (cW _) _).setCell (cW _) _)}
 | false =>{go_region;all_goals(go_wp2;refine eh (v:=bX #[Fk a d b e c,aG ao]) Qe af ⟨by rw[I,ym],?_⟩;exact((((((V ab).drew).setCell (cW _) _).setCell (cW _) _).setCell (cW _) _).setCell (cW _) _).setCell (cW _) _)}
def H9{P:Prop}(h:P:=by go_wp2;go_ret;exact PP):P:=h
def W7{B z C p:ap}(y:t=ao\/o≠1\/p≠L)(u:∀h,bd aK 207 #[amz<|O n] h λj k=>j=bg (bX #[Fk o B z C p,aG t])/\cB (U h.1) h k):bd aK 149 #[oC c g a n,l8 v L] b λj k=>j=bg (amz ⟨#[]⟩)/\cB (U b.1) b k:=by
 have r:=ae u;have w:=ae<|o8.IJ b c g a n v L;have l:=ae y;clear u y;go_in;go_wp2_with (fail);refine(V r _).m ?_;intro J x;have e:=(V w).next x;have M:=e.size;have i:=e.alloc<|aS #[ak am o,amz<|O B,amz<|O z,amz<|O C,amz<|O p] 303;have bA:=i.2.cell 1 aA;simp only[e9,fw]at bA;have D:=e.2.cell 1 aA;simp only[e9,fw]at D;have aT:=ae i.3;have A:U b.1+1≠U J.1:=G;clear x w r e i;cases t with
 | false =>{exact H9}
 | true =>{
 by_cases F:o=1;{
 subst F;have aN:p≠L:=by{rcases V l with d|d|d;{cases d};{exact absurd af d};{exact d}};have I:¬(O p).toList=(O L).toList:=by rw[hZ,hZ];exact aN
 have K:((O p).toList==(O L).toList)=ao:=by simpa using I
 clear aN l;exact H9};{
 have H:¬(o:Int)=1:=G;have N:((o:Int) != 1)=aE:=by simpa using H
 exact H9}}
def Bm(s:ap)(c:Bool)(d:Nat):∃a e b,e_ s c d=(a,e,b):=⟨_,_,_,af⟩
def W8(s:ap)(b:Bool):∃c d a,fj s b=(c,d,a):=⟨_,_,_,af⟩
def ahv{h:ap}{w:aQ}(q:∀m,bd aK 257 #[od c g h] m λC d=>C=bg (bX #[Nx a 53 n,aG aE])/\cB (U m.1) m d)(r:∀m,cB (U w.1) w m->bd aK 27 #[e,amz<|O n] m λC d=>C=bg (amz ⟨#[]⟩)/\cB (U m.1) m d):bd aK 211 #[od c g h,e] w λC d=>C=bg (bX #[od [] [] [],aG ao])/\cB (U w.1) w d:=by have l:=ae q;have k:=ae r;have p:=ae<|qB.ahh w c g h;clear q r;go_in;go_wp2_with (fail);refine(V l _).m ?_;intro y t;have j:=(V p).next t;have G:=j.size;have i:Fs w (aO y<|aS #[ak am a,ak am 53,amz<|O n] 349) c g h (U y.1) a n:=⟨j.alloc _,bk.fF _ _ _⟩;have o:=ae i;have x:=ae<|V k _ i.1.3;clear t p l j i k;go_wp2_with (fail);refine(V x).m ?_;intro H u;have b:=((V o).next u).1;clear u o x;have z:=b.2.cell 0 aA;have A:=b.2.cell 1 aA;have B:=b.2.cell 2 aA;have F:=b.2.frozen;simp only[e9,fw]at z A B;have D:=ae b.3;clear b;go_wp2;refine eh (v:=bX #[ci #[amz ⟨#[]⟩,amz ⟨#[]⟩,amz ⟨#[]⟩],aG ao]) ?_ af ?_;{simp[dr,results211,go_sem,z,A,B]};{exact⟨af,(((V D).setCell uV _).setCell uV _).setCell uV _⟩}
def ahw{w l x:ap}(t:l≠L)(p:∀u,bd aK 210 #[amz<|O g] u λh j=>h=bg (bX #[od w l x,aG aE])/\cB (U u.1) u j):bd aK 150 #[oC c n a g,e,l8 v L] b λh j=>h=bg (amz ⟨#[]⟩)/\cB (U b.1) b j:=by
 have o:=ae p;have q:=ae<|o8.IJ b c n a g v L;have z:¬(O l).toList=(O L).toList:=by rw[hZ,hZ];exact t
 have B:((O l).toList==(O L).toList)=ao:=by simpa using z
 clear p t;go_in;go_wp2_with (fail);refine(V o _).m ?_;intro D r;have d:=(V q).next r;have C:=d.size;have A:=d.alloc<|aS #[amz<|O w,amz<|O l,amz<|O x] 307;have bA:=d.2.cell 1 aA;have y:=A.2.cell 1 aA;simp only[e9,fw]at bA y;have aT:=ae A.3;clear r q o d A;exact H9
def ahx{C j h B}(z:C=[255,255,255,255,255,255])(A:C≠j)(y:∀d,bd aK 79 #[aZ Q] d<|cQ (bX #[oC C g a c,aG aE]) d)(w:∀d,a7 b d->bd aK 80 #[oC C g a c,e,l8 j h] d (cQ (aZ B) d)):bd aK 37 #[e,l8 j h,aZ Q] b (cQ (aZ B) b):=by
 have r:=ae y;have x:=(dz (U b.1) b).alloc bv<|aS #[amz<|O j,amz<|O h] 62;have u:=ae x;have p:=ae<|bk.fF b [aZ j,aZ h] 62;have t:=ae w;have J:¬(O C).toList=(O j).toList:=by rw[hZ,hZ];exact A
 have K:(O C).toList=[255,255,255,255,255,255]:=by rw[hZ];exact z
 have:((O C).toList==(O j).toList)=ao:=by grind
 have:((O C).toList==[255,255,255,255,255,255])=aE:=by grind
 clear y x w z A J K;go_in;go_wp2_with fail;refine(r _).m λM o=>?_;have k:=bN u<|bV o aA;have I:=k.4;have l:=ct k I<|aS #[amz<|O C,amz<|O g,ak am a,amz<|O c] 150;have L:=ae<|t _ l;have q:=ae l;have i:=p.below o aA;have n:=i.alloc<|aS #[amz<|O C,amz<|O g,ak am a,amz<|O c] 150;have D:=i.cell 0 aA;have bA:=i.cell 1 aA;have F:=n.cell 0 aA;have G:=n.cell 1 aA;simp only[e9,fw]at D F bA G;have:=i.lt;clear o r u k p i n t l;go_wp2_with fail;refine L.m ?_;intro N H;have bU:=ae<|bN q<|bV H q.4;go_wp2;go_ret;exact FK
def lF(e:a+1<=E c):∃d b,c=d::b/\a<=E b:=by
 cases c with
 | nil=>grind
 | cons d b=>grind
def W_(g:8<=E c):∃a bA b e cD fB gE d p,c=a::bA::b::e::cD::fB::gE::d::p:=by obtain⟨a,u0,rfl,h⟩:=lF g;obtain⟨bA,u1,rfl,i⟩:=lF h;obtain⟨b,u2,rfl,j⟩:=lF i;obtain⟨e,u3,rfl,k⟩:=lF j;obtain⟨cD,u4,rfl,l⟩:=lF k;obtain⟨fB,u5,rfl,n⟩:=lF l;obtain⟨gE,u6,rfl,o⟩:=lF n;obtain⟨d,u7,rfl,q⟩:=lF o;simp
def ahy(y:ap)(H:20<=E y):∃a b o p q r t u w x c d e g h i j k l n T,y=a::b::o::p::q::r::t::u::w::x::c::d::e::g::h::i::j::k::l::n::T:=by obtain⟨a,u0,rfl,I⟩:=lF H;obtain⟨b,u1,rfl,J⟩:=lF I;obtain⟨o,u2,rfl,M⟩:=lF J;obtain⟨p,u3,rfl,N⟩:=lF M;obtain⟨q,u4,rfl,O⟩:=lF N;obtain⟨r,u5,rfl,P⟩:=lF O;obtain⟨t,u6,rfl,Q⟩:=lF P;obtain⟨u,u7,rfl,R⟩:=lF Q;obtain⟨w,u8,rfl,S⟩:=lF R;obtain⟨x,u9,rfl,C⟩:=lF S;obtain⟨c,u10,rfl,K⟩:=lF C;obtain⟨d,u11,rfl,L⟩:=lF K;obtain⟨e,u12,rfl,V⟩:=lF L;obtain⟨g,u13,rfl,G⟩:=lF V;obtain⟨h,u14,rfl,B⟩:=lF G;obtain⟨i,u15,rfl,A⟩:=lF B;obtain⟨j,u16,rfl,z⟩:=lF A;obtain⟨k,X,rfl,D⟩:=lF z;obtain⟨l,Y,rfl,F⟩:=lF D;obtain⟨n,Z,rfl,W⟩:=lF F;grind
def ahz(l n c bA d e cD fB gE g b){j h i}(D:o=be c*256+be bA)(q:j=be d*256+be e)(C:a=be cD*256+be fB)(B:h=be gE*256+be g)(F:i=rk l n (amA a (c::bA::d::e::cD::fB::gE::g::b))):v_ l n (c::bA::d::e::cD::fB::gE::g::b)=if a<8\/E b<a-8 then ai else if(h==0||i==65535)=aE/\j=53 then ag (amA (a-8) b,o)else ai:=by
 have r:cG (c::bA::d::e::cD::fB::gE::g::b) 0=o:=by rw[D];show 256*be c+be bA=_;omega
 have t:cG (c::bA::d::e::cD::fB::gE::g::b) 2=j:=by rw[q];show 256*be d+be e=_;omega
 have u:cG (c::bA::d::e::cD::fB::gE::g::b) 4=a:=by rw[C];show 256*be cD+be fB=_;omega
 have w:cG (c::bA::d::e::cD::fB::gE::g::b) 6=h:=by rw[B];show 256*be gE+be g=_;omega
 rw[v_,r,t,u,w];have k:E (c::bA::d::e::cD::fB::gE::g::b)=E b+8:=af;rw[k];by_cases y:a<8\/E b<a-8;{grind};{
 rw[bJ y];have x:iQ (ch aE<|l++n++[0,17]++[aN a,cO a]++amA a (c::bA::d::e::cD::fB::gE::g::b))=i:=by{rw[F,rk,jF,k,uI G];simp};rw[x];by_cases z:j=53;{
 rw[bJ G];by_cases A:(h==0||i==65535)=aE;{
 have:h=0\/i=65535:=by grind
 rw[bJ<|show ¬(h≠0/\i≠65535) by omega,b7 ⟨A,z⟩];obtain⟨p,rfl⟩:∃p,a=p+8:=⟨a-8,G⟩;rfl};grind};grind}
def ahA(B g t l n x y r p z q u w h i j k A b c d e){C}(K:a=be l*256+be n)(F:o=be r*256+be p)(L:C=iQ (ch aE [g,t,l,n,x,y,r,p,z,q,u,w,h,i,j,k,A,b,c,d])){D}(M:D=(be g==69&&(o%16384==0&&be q==17))):rn B (g::t::l::n::x::y::r::p::z::q::u::w::h::i::j::k::A::b::c::d::e) =
   if a<28\/C≠65535 then ai else if a-20<=E e then if D=aE/\[A,b,c,d]=B then v_ [h,i,j,k] [A,b,c,d] (amA (a-20) e)else ai else ai:=by
 unfold rn;have J:E (g::t::l::n::x::y::r::p::z::q::u::w::h::i::j::k::A::b::c::d::e)=E e+20:=af;rw[J];have I:amA 20 (g::t::l::n::x::y::r::p::z::q::u::w::h::i::j::k::A::b::c::d::e)=[g,t,l,n,x,y,r,p,z,q,u,w,h,i,j,k,A,b,c,d]:=af;have G:cG (g::t::l::n::x::y::r::p::z::q::u::w::h::i::j::k::A::b::c::d::e) 2=a:=by rw[K];show 256*be l+be n=_;omega
 have H:cG (g::t::l::n::x::y::r::p::z::q::u::w::h::i::j::k::A::b::c::d::e) 6=o:=by rw[F];show 256*be r+be p=_;omega
 rw[I,<- L,G,H];show(if E e+20<28\/be g≠69\/C≠65535 then ai else if a<28\/E e+20<a\/o%16384≠0\/be q≠17\/[A,b,c,d]≠B then ai else v_ [h,i,j,k] [A,b,c,d] (amA (a-20) e))=_;grind
def E8(f:Nat)(b:Array bm)(c:aQ)(d:ap):Prop:=∀a,a7 c a->bd aK f b a (cQ (aZ d) a)
def E8.next{e}(i:E8 a e b c)(d:a7 b f):E8 a e f c:=λh g=>i h<|bN d<|bV g d.4
def NK(ρ:ap->ap)(a b:ap):Option (ap×Nat)->bm
 | none=>bX #[od [] [] [],aG ao]
 | some (m,c)=>if ρ m=[]then bX #[od [] [] [],aG ao]else bX #[od b a<|pJ b a 53 c<|ρ m,aG aE]
def E9(ρ:ap->ap)(d c a b:ap):Option (ap×Nat)->ap
 | none=>[]
 | some (m,e)=>if ρ m=[]then []else d++c++[8,0]++qT a b (pJ a b 53 e<|ρ m)
def xC(ρ:ap->ap)(f:Nat)(b:bm)(a:aQ):Prop:=∀m:ap,E m<=100000->E (ρ m)<=1232/\E8 f #[b,aZ m] a (ρ m)
def xC.next{ρ}(d:xC ρ a e b)(g:a7 b f):xC ρ a e f:=λm c=>⟨(d m c).1,(d m c).2.next g⟩
def ahB(ρ d e l u p)(r:E d<=1000)(t:E e<=1000)(y:8<=E l)(A:E l<=70000)(z:xC ρ 27 u p):bd aK 211 #[od d e l,u] p (cQ (NK ρ d e<|v_ d e l) p):=by
 obtain⟨b,bA,h,i,cD,fB,gE,j,c,rfl⟩:=W_ y;have a:=λw=>ae5 b bA h i cD fB gE j c w r t (by simp at A;omega) af af af af af;rw[ahz d e b bA h i cD fB gE j c af af af af af];have x:be b*256+be bA<65536:=by have:=gY b;have:=gY bA;omega
 generalize be b*256+be bA=sp,be h*256+be i=q at *;generalize be cD*256+be fB=n,be gE*256+be j=B at *;generalize rk d e (amA n (b::bA::h::i::cD::fB::gE::j::c))=D at *;unfold AV at a;by_cases k:n<8\/E c<n-8;{rw[b7 k];simp only[b7 k]at a;exact Wj 0 0 (bG af) a};{rw[bJ k];simp only[bJ k]at a;by_cases g:(B==0||D==65535)=aE/\q=53;{rw[b7 g];obtain⟨g,rfl⟩:=g;rw[g]at a;have⟨dm,VT⟩:=z (amA (n-8) c) (by grind);unfold NK;simp only;generalize ρ (amA (n-8) c)=C at *;by_cases o:C=[];{subst o;rw[b7 af];exact ahv a VT};{rw[bJ o];exact afE r t x o G a VT}};{rw[bJ g];refine Wj sp q ?_ a;grind}}
def ahC{ρ}(W)(ab)(aj:E n<=6)(an:E v=6)(al:E c=4)(aa:E g<=10000000)(T:xC ρ 27 e b):bd aK 150 #[oC W n ab g,e,l8 v c] b (cQ (aZ<|E9 ρ n v c (amA 4<|bh 12 g)<|rn c g) b):=by
 by_cases X:E g<20;{rw[show rn c g=ai by unfold rn;grind];exact IR λS=>(ahu S X).mono λp I a=>⟨⟨[],[],[],a.1⟩,a.2⟩};{
 obtain⟨u,K,l,o,N,O,A,B,P,C,L,M,h,i,j,k,w,x,y,z,q,rfl⟩:=ahy g G;have r:=λJ=>ae4 u K l o N O A B P C L M h i j k w x y z q J (by simp at aa;omega) af af af af;rw[ahA c u K l o N O A B P C L M h i j k w x y z q af af af af];have ap:be l*256+be o<65536:=by have:=gY l;have:=gY o;omega
 show bd _ _ _ _ λp I=>p=bg (aZ<|E9 ρ n v c [h,i,j,k] _)/\_;generalize be l*256+be o=R,iQ (ch aE [u,K,l,o,N,O,A,B,P,C,L,M,h,i,j,k,w,x,y,z])=ae at *;generalize (be u==69&&((be A*256+be B)%16384==0&&be C==17))=ad at *;unfold yS at r;by_cases D:R<28\/ae≠65535;{rw[b7 D];simp only[b7 D]at r;exact IR λS=>(r S).mono λp I a=>⟨⟨[],[],[],a.1⟩,a.2⟩};{
 rw[bJ D];simp only[bJ D]at r;by_cases F:R-20<=E q;{
 rw[b7 F];simp only[b7 F]at r;cases ad with
 | false =>{rw[bJ λa=>Bool.noConfusion a.1];exact IR λS=>(r S).mono λp I a=>⟨⟨_,_,_,a.1⟩,a.2⟩}
 | true =>{
 by_cases H : [w,x,y,z]=c;{
 rw[b7 ⟨af,H⟩];rw[H]at r ⊢;have d:=λJ Y=>ahB ρ [h,i,j,k] c (amA (R-20) q) e J aA G (by grind) (by grind)<|T.next Y;cases Q:v_ [h,i,j,k] c (amA (R-20) q)with
 | none =>{rw[Q]at d;exact Wk r d}
 | some ac =>{obtain⟨m,aq⟩:=ac;rw[Q]at d;unfold NK at d;unfold E9;simp only at d ⊢;by_cases V:ρ m=[];{simp only[b7 V]at d ⊢;exact Wk r d};{simp only[bJ V]at d ⊢;have ah:=(T m<|cU (Xd Q).1 G).1;exact afG G G G aA (by simp[pJ,qz];omega) r d}}};{rw[bJ λa=>H a.2];exact ahw H r}}};{rw[bJ F];simp only[bJ F]at r;exact IR λS=>(r S).mono λp I a=>⟨a.1.elim λm Z=>⟨_,_,m,Z⟩,a.2⟩}}}
def Bn(s b a)(c:a<=E s):e_ s b a=(amA a s,bh a s,b):=b7 c
def Xa(a)(d:2<=E c):fj c a=(cG c 0,bh 2 c,a):=by
 match c,d with
 | b::s::c,_=>rw[wg];show(_,c,a)=(256*be b+be s,c,a);grind
def Bo(e:e_ g t a=(n,c,ao)):t=ao/\E c+a=E g:=by unfold e_ at e;grind
def Xc(b:fj c t=(a,g,ao)):t=ao/\E g+2=E c:=by
 have e:=fE (·.2.1) b;have d:=fE (·.2.2) b;cases c with
 | nil=>rw[Fl]at d;cases d
 | cons h c =>{
 cases c with
 | nil=>simp[fj,fe]at d
 | cons i c =>{rw[wg]at e d;grind}}
def ahD(a:ap)(c:8<=E a):amA 8 a=[0,1,8,0,6,4,0,1] ↔ amA 6 a=[0,1,8,0,6,4]/\cG (bh 6 a) 0=1:=by obtain⟨d,bA,e,g,cD,fB,gE,b,i,rfl⟩:=W_ c;show [d,bA,e,g,cD,fB,gE,b]=_ ↔ [d,bA,e,g,cD,fB]=_/\256*be gE+be b=1;constructor;{simp_all};{rintro⟨c,h⟩;cases c;have:gE=0:=vG (by grind);have:b=1:=vG (by grind);grind}
def ahE(i j)(k h)(z:E g<=10000000)(A:E c=6)(B:E n=4):bd aK 149 #[oC i j k g,l8 c n] h (cQ (aZ<|xB c n g) h):=by
 unfold xB;by_cases r:E g<28;{
 have⟨q0,s1,b1,e1⟩:=Bm g ao 6;have⟨op,s2,b2,e2⟩:=W8 s1 b1;have⟨m1,s3,b3,e3⟩:=Bm s2 b2 6;have⟨i1,s4,b4,e4⟩:=Bm s3 b3 4;have⟨m2,s5,b5,e5⟩:=Bm s4 b4 6;have⟨i2,s6,b6,e6⟩:=Bm s5 b5 4;have l:=yy g ao 6;have a:=uN s1 b1;have o:=yy s2 b2 6;have p:=yy s3 b3 4;rw[e1]at l;rw[e2]at a;rw[e3]at o;rw[e4]at p;simp only at l a o p;have b:=λe=>WZ e G e1 e2 e3 e4 e5 e6 G G G;have:b6=aE:=by{
 cases b6 with
 | true=>rfl
 | false =>{obtain⟨rfl,J⟩:=Bo e6;obtain⟨rfl,I⟩:=Bo e5;obtain⟨rfl,H⟩:=Bo e4;obtain⟨rfl,F⟩:=Bo e3;obtain⟨rfl,D⟩:=Xc e2;obtain⟨-,C⟩:=Bo e1;omega}};rw[b7<|bG r];exact W7 (bG<|by grind) b};{
 have:=λq=>(js:E (bh q g)=E g-q);have b:=λe=>WZ e G (Bn g ao 6 G) (Xa ao<|by grind) (Bn _ ao 6<|by grind) (Bn _ ao 4<|by grind) (Bn _ ao 6<|by grind) (Bn _ ao 4<|by grind) (by grind) (by grind) (by grind);simp only[pk,DP,GC,Nat.reduceAdd]at b;have y:=ahD g G;have x:((O<|amA 6 g).toList==[0,1,8,0,6,4])=dQ (amA 6 g=[0,1,8,0,6,4]):=by rw[hZ];exact Bool.beq_eq_decide_eq _ _
 rw[x]at b;by_cases d:amA 8 g=[0,1,8,0,6,4,0,1]/\amA 4 (bh 24 g)=n;{
 obtain⟨d,w⟩:=d;have⟨h3,h4⟩:=y.1 d;rw[bJ<|by grind];rw[h3,h4,w]at b;have u:amA 7 g=[0,1,8,0,6,4,0]:=by rw[show amA 7 g=amA 7 (amA 8 g) by grind,d];rfl
 have t:amA 10 (bh 8 g)=amA 6 (bh 8 g)++amA 4 (bh 14 g):=by rw[show(10:Nat)=6+4 from af,GQ,pk]
 rw[u,t];have:=ahs i j c k h (by grind) G G (by grind) b;simpa [sv,aN,cO]using this};{rw[b7<|by grind];refine W7 ?_ b;grind}}
def ahF{ρ}(i a p)(d)(u:E a<=6)(o:E c=6)(n:E g=4)(l:E p<=10000000)(t:xC ρ 27 e b):E8 80 #[oC i a d p,e,l8 c g] b (if d=2054 then xB c g p else if d=2048 then E9 ρ a c g (amA 4<|bh 12 p) (rn g p)else []):=λw k=>by
 by_cases q:d=2054
 ·rw[b7 q];subst q;exact aht λj _=>ahE i a 2054 j l o n
 ·rw[bJ q];by_cases h:d=2048
  ·rw[b7 h];subst h;exact afI λj r=>ahC i 2048 u o n l<|t.next<|bN k<|bV r k.4
  ·rw[bJ h];exact afH q h
def XN(s:ap)(e:14<=E s)(d a):amA 2 (bh 12 s)=[d,a] ↔ cG (bh 12 s) 0=256*be d+be a:=by
 match hs:bh 12 s with
 | []=>have:=fE List.length hs;grind
 | [b]=>have:=fE List.length hs;grind
 | b::c::g =>{show [b,c]=[d,a] ↔ 256*be b+be c=_;constructor;{grind};{intro e;have:=gY c;have:=gY a;rw[vG<|show be b=be d by omega,vG<|show be c=be a by omega]}}
def ahG{ρ}(z:E g=6)(y:E c=4)(B:E Q<=10000000)(u:xC ρ 27 e b):bd aK 37 #[e,l8 g c,aZ Q] b (cQ (aZ<|tF ρ g c Q) b):=by
 unfold tF;by_cases r:E Q<14;{
 rw[b7<|bG r];have⟨a,s1,b1,e1⟩:=Bm Q ao 6;have⟨d,s2,b2,e2⟩:=Bm s1 b1 6;have⟨k,s3,b3,e3⟩:=W8 s2 b2;have q:=λi=>VS i G e1 e2 e3;cases b3 with
 | true=>exact afJ q
 | false =>{obtain⟨rfl,F⟩:=Xc e3;obtain⟨rfl,D⟩:=Bo e2;obtain⟨-,C⟩:=Bo e1;omega}};{have:=λp=>(js:E (bh p Q)=E Q-p);have q:=λi=>VS i G (Bn Q ao 6 G) (Bn _ ao 6<|by grind) (Xa ao<|by grind);simp only[pk,Nat.reduceAdd,DP]at q;have h:=ahF (amA 6 Q) (amA 6<|bh 6 Q) (bh 14 Q) (cG (bh 12 Q) 0) (by grind) z y (by grind) u;have w:amA 2 (bh 12 Q)=[8,6] ↔ cG (bh 12 Q) 0=2054:=XN Q G 8 6;have x:amA 2 (bh 12 Q)=[8,0] ↔ cG (bh 12 Q) 0=2048:=XN Q G 8 0;have t:(if cG (bh 12 Q) 0=2054 then xB g c (bh 14 Q)else if cG (bh 12 Q) 0=2048 then E9 ρ (amA 6<|bh 6 Q) g c (amA 4<|bh 12<|bh 14 Q) (rn c<|bh 14 Q)else [])=(if(bh 12 Q).take 2=[8,6]then xB g c (bh 14 Q)else if(bh 12 Q).take 2≠[8,0]then []else match rn c (bh 14 Q)with|none=>[]|some (m,A)=>if ρ m=[]then []else(bh 6 Q).take 6++g++[8,0]++qT c (amA 4<|bh 26 Q) (pJ c (amA 4<|bh 26 Q) 53 A<|ρ m)):=by{by_cases bA:amA 2 (bh 12 Q)=[8,6];{grind};{rw[bJ bA,bJ λj=>bA<|w.2 j];by_cases o:amA 2 (bh 12 Q)=[8,0];{rw[b7<|x.1 o,bJ λj=>j o,pk];rfl};grind}};rw[t]at h;by_cases n:amA 6 Q=g;{rw[bJ<|by grind];rw[n]at q h;exact afL q h};{by_cases l:amA 6 Q=[255,255,255,255,255,255];{rw[bJ<|by grind];exact ahx l n q h};{rw[b7<|bE ⟨n,l⟩];exact afK n l q}}}
def wW(b:List<|ap×Nat):List bm:=b.flatMap λa=>[aZ a.1,J (a.2:Int)]
def ms(c:aQ)(b:Nat)(v:bm)(a:List<|ap×Nat):Prop:=c.ownsRow b 343 2 v (E a)<|wW a
def acW:(aK.info? 343).map (λa=>(a.8,a.3,a.4))=ag (ag<|ci #[amz ⟨#[]⟩,J 0],2,24):=b8
def acX:aK.underlying 281=ag (.slice 343):=b8
def acY{b a}:wW (b++[a])=wW b++[aZ a.1,J (a.2:Int)]:=by simp[wW]
def U_:∀(b:List<|ap×Nat) (a:Nat) (e:a<E b),(wW b)[a*2]? = ag (amz<|O b[a].1)/\(wW b)[a*2+1]? = ag (J (b[a].2:Int))
 | [],a,e=>by grind
 | c::d,0,e=>by simp[wW]
 | c::d,a+1,e=>by have:=U_ d a (by grind);have g:wW (c::d)=aZ c.1::J (c.2:Int)::wW d:=dS;grind
def Mz{i}(g:eJ b a e k)(h:ms b o s i):ag a≠bW s:=λv=>by
 obtain⟨_,⟨rfl,_⟩|⟨j,l,n,rfl,_,d,_⟩⟩:=h
 ·simp[bW]at v
 ·simp only[bW,ug]at v;subst v;rw[g]at d
  grind
def Va:bd aK 130 #[] b λh a=>h=bg (N<|U b.1+1)/\(∃e,eJ a (U b.1+1) e (bY)/\ib a (U b.1) e (List.replicate 12 0))/\a7 b a:=by
 have:∀b:aQ,(Instr.makeSlice 58 (J 12)<|J 12).run aK b=.ok (bC (U b.1) 0 12 12) (aO b<|aS (Array.replicate 12<|ak ck 0) 5):=λ_=>by kernel_rfl
 generalize g:(Array.replicate 12<|ak ck 0)=c at *;go_wp2;go_ret;have d:=du (aO b<|aS c 5)<|aS #[aL (ag ⟨U b.1,0,ai⟩) 12 12,aL ai 0 0] 283;simp only[gd]at d;refine⟨af,⟨_,d,aA,bE ⟨U b.1,12,c,af,cW _,(dT _ _ _ aA).trans<|du b _,aA,m9,by grind,by rw[<- g];rfl⟩⟩,(ct cd bv _).alloc aA _⟩
def Vc{c:Nat}{I n}(A:eJ b a I e)(j:ms b o e n)(Z:o<=U b.1)(ad:E n<=30000)(ah:c<16384):bd aK 202 #[N a,aZ Q,J (c:Int)] b λg t=>g=bg (bX #[])/\∃u,eJ t a I u/\ms t o u (n++[(Q,c)])/\(bW u=bW e\/∃h,bW u=ag h/\U b.1<=h)/\lw a b t/\cL (λi=>i≠a/\ag i≠bW e) b t:=by
 have⟨i0,aN,hz0,hz1,hz2⟩:=jN acW;have:=A.cells.2;have x:=ae A;have w:=ae j;have P:=A.lt;have:(c:Int)<16384:=G;go_in;go_wp2_with (at_builtin;go_loud (refine Sz _ af (.tmp 12) (.tmp 16) af o acX aN hz0 hz1 hz2 af bL (E n) af (w.alloc _) (M (U b.1) 0) 1 [aZ Q,J (c:Int)] bL af af ?bA ?c2 ?c3 ?cD ?fB ?_))
 case bA =>
  intro T X hj
  match T,hj with
  | 0,hj=>exact Dn
  | 1,hj=>exact Dn
  | c+2,hj=>grind
 case c2=>intro X hu;exact Ky
 case c3=>exact uW
 case cD=>omega
 case fB=>simp;omega
 intro aj D R l K O;obtain⟨p,r,q,rfl⟩:=qk R;have F:ax (ms D o (aL p r q)<|n++[(Q,c)]):=by
  rw[ax,ms,dE,acY];omega
 have z:=λi aN B =>
  (l.5 i cx B).trans (dT _ _ _ aN)
 have B:=Mz (V x)<|V w;have d:=ae<|x.kept<|z a P B;have C:ax (cL (λi=>i≠a/\ag i≠bW e) b D) :=
  ⟨l.1,l.2,l.3,cU aA l.4,λi aN S=>z i aN S.2⟩
 have L:ax (bW (aL p r q)=bW e\/∃h,bW (aL p r q)=ag h/\U b.1<=h):=by
  rcases O with k|k
  ·exact bG k
  ·exact bE ⟨_,k,aA⟩
 have W:ax (lw a b<|a_ D ⟨a,1,ai⟩<|aL p r q):=by
  refine lw.of (V x) (d.set1 _) (jE.trans (jE.same _ _ λi ab H=>z i (ea.1 H).1 λg=>?_) (ya (V d) bL _ _ _ _) C.4)<|((SA b _ _ _ _).trans K aA).trans (ya (V d) bL _ _ _ _) C.4;obtain⟨_,⟨y,_⟩|⟨h,aa,ac,y,_,Y,_⟩⟩:=V w
  ·rw[y]at g;simp[bW]at g
  ·rw[y]at g;simp only[bW,ug]at g
   grind
 have:=d.frozen;have H:=d.cells.2;go_wp2;exact lG (v:=bX #[]) (by simp[dr,results202]) af ⟨af,_,d.set1 _,sU (V F) (Mz (V d)<|V F) _ _,L,W,C.trans<|cL.j9 _ λi k=>k.1⟩
def acZ(n)(g:Nat){h}(d)(r:eJ d a e k)(u:ms d o k h)(l:o<=U d.1)(q:E h<=30000)(t:g<16384):bd aK 202 #[N a,aZ n,J (g:Int)] d λp i=>p=bg (bX #[])/\∃b,eJ i a e b/\ms i o b (h++[(n,g)])/\(bW b=bW k\/∃j,bW b=ag j/\U d.1<=j)/\cL (λc=>c≠a/\ag c≠bW k) d i:=by refine(Vc r u l q t).mono ?_;grind
def Vd{v}(g:ms b a e v)(p:v≠[]):∃c d,e=bC c 0 (E v) d/\c<U b.1/\E v<=d/\∀k (i:k<E v),aD b (M c<|k*2)=ag (amz<|O v[k].1)/\aD b (M c<|k*2+1)=ag (J (v[k].2:Int)):=by have h:=g;obtain⟨_,⟨rfl,q⟩|⟨c,d,n,rfl,o,j,l,_⟩⟩:=g;{grind};{refine⟨c,d,af,(ea.1 j).1,l,λk i=>?_⟩;have:=U_ v k i;have:=nz h (k*2) G;have:=nz h (k*2+1) G;grind}
def Qz{P:Prop}(h:P:=by
 generalize ps[k].2=pn,O ps[k].1=pb at *;go_wp2;go_roundw;·exact⟨k+1,dH,G,ct kg hs _⟩
 ·exact Ph):P:=h
def ac0{q ps}(B:eJ b o F e)(C:ms b q e ps)(M:a<E ps)(z:ps[a].1=c)(x:∀i (L:i<a),(ps[i].1==c)=ao)(Q:E ps<=30000):bd aK 339 #[N o,aZ c] b λw H=>w=bg (bX #[J (ps[a].2:Int),aG aE])/\a7 b H:=by
 obtain⟨g,I,rfl,h,K,y⟩:=Vd C (by grind);have:=B.cells.2;have n:=ae y;have l:=ae x;have r:=ae z;go_wp2;go_loopw [13] (λj wr=>∃k:Nat,j=J k/\k<=a/\a7 b wr) λj _=>E ps-(intOf j).toNat;·exact⟨0,af,eb _,dz _ _⟩
 ·(
 obtain⟨k,rfl,P,d⟩:=hrel;have u:k<E ps:=G;have:(k:Int)<E ps:=G;have⟨c0,bA⟩:=V n k u;have cS:=(d.cell (p:=⟨g,k*2,ai⟩) h).trans c0;have t:=(d.cell (p:=⟨g,k*2+1,ai⟩) h).trans bA;have D:((O ps[k].1).toList==(O c).toList)=(ps[k].1==c):=yz;have kg:=ae d;have hs:=d.4;by_cases A:k=a;{subst A;rw[V r]at cS;have⟨pn,Dm⟩:=bi<|ps[k].2;rw[<- Dm]at t;replace Dm:=ae Dm;go_wp2;go_ret2;refine⟨?_,ct kg hs _⟩;rw[<- V Dm];rfl};{
 rw[V l k G]at D;exact Qz})
def ac1(g:Nat)(d:aQ)(a:Nat)(c:List oz):Prop:=a<U d.1/\a≠g/\(∀e,d.1[a]?≠ag (aS e 5 (0,0)))/\∀b (h:b<E c),aD d (M a b)=ag (cV c[b].1 c[b].2)
def MA(h:ib b a e c)(n:c≠[]):∃v d g,e=bC v 0 (E c) d/\a<=v/\b.1[v]? = ag (aS g 5 (0,0))/\E c<=d/\d<=hC:=by obtain⟨_,⟨rfl,o⟩|⟨v,d,g,rfl,j,i,k,l,_⟩⟩:=h;{grind};grind
def Ve{i d}(l:ib b o (bC a 0 i d) g)(h c)(aN:h<E g):ib (a_ b ⟨a,h,ai⟩<|ak ck<|be c) o (bC a 0 i d) (g.set h c):=by obtain⟨t,⟨e,y⟩|⟨r,q,k,e,n,p,u,j,w,x⟩⟩:=l;{cases e};{cases e;refine⟨aA,bE ⟨a,d,k.setIfInBounds h<|ak ck<|be c,aA,n,?_,by grind,j,by grind,?_⟩⟩;{simp only[a_];grind};{rw[Array.toList_setIfInBounds,List.take_set];simp_all}}
def acG(v:ib b a e c):AB e=E c:=by obtain⟨_,⟨rfl,d⟩|⟨i,g,h,rfl,_⟩⟩:=v;{exact bZ d};{rfl}
theorem acH (b d c a) : (method 521 293 (aL b d c) "beacon/wire.writeTo").run aK a = .ok (342, aL b d c) a := by kernel_rfl
def acI(b a):(callFunc 342 b).run aK a=.ok (.enter 342 b) a:=b8
section
variable {P:Program} {α:Type}
def cy.kept(g:cy b a e z)(d:f.1[a]? = b.1[a]?):cy f a e z:=c_ d g
end
section
attribute [local go_sem] Oper.semAt_some undef
def pR{h:aQ}{d}{j}(k:h.ownsRow a z d e o j)(hg:∀g,bW e=ag g->b.1[g]? = h.1[g]?):b.ownsRow a z d e o j:=by obtain⟨l,v⟩:=k;refine⟨l,?_⟩;rcases v with v|⟨g,cap,cur,rfl,hb,bP,hr⟩;{grind};{exact Rd}
def QY{P:Prop}(h:P:=by obtain⟨_,⟨rfl,_⟩|⟨g',cap,cur,rfl,_,bP,_⟩⟩:=h;{simp[bW]at hg};{simp only[bW,ug]at hg;grind}):P:=h
def y5(h:ib b a e c)(hg:bW e=ag o):∃cur,b.1[o]? = ag (aS cur 5 (0,0)):=by exact QY
def acJ(c:a<16384):bits .or am 49152 (a:Int)=((49152+a:Nat):Int):=by
 have:=DZ 49152 a G G;have:=Nat.two_pow_add_eq_or_of_lt (i:=14) (b:=a) G 3
 grind
theorem acK (s a) : (method 521 291 (amz s) "beacon/wire.writeTo").run aK a = .ok (338, amz s) a := by kernel_rfl
def acL(b a):(callFunc 338 b).run aK a=.ok (.enter 338 b) a:=b8
def HB(a:Nat):ap:=[aN<|49152+a,cO<|49152+a]
end
structure dP(mb base:Nat)(w w':World):Prop where
 os:w'.os=w.os
 tape:w'.tape=w.tape
 output:w'.output=w.output
 size:w.heap.size<=w'.heap.size
 block:∀i,i<w.heap.size->i≠mb->(i<base\/((∀cur,w.heap[i]?≠some (.cells cur 5 (0,0)))/\∀cur,w.heap[i]?≠some (.cells cur 343 (0,0))))->w'.heap[i]? = w.heap[i]?
 kp:lw mb w w'
section
variable {mb base:Nat} {A B C:World}
def dP.refl(mb base a):dP mb base a a:=⟨af,af,af,cW _,λ_ _ _ _=>af,lw.refl _ _⟩
def dP.same(a:dP mb base b A)(e:B.4=A.4)(g:B.2=A.2)(h:B.5=A.5)(i:U A.1<=U B.1)(d:∀c,c<U b.1->B.1[c]? = A.1[c]?):dP mb base b B :=
 ⟨c_ e a.1,c_ g a.2,c_ h a.3,cU a.4 i,λc aN j k=>(d c aN).trans<|a.5 c aN j k,a.6.same d⟩
def dP.trans(a:dP mb base A B)(b:dP mb base B C):dP mb base A C :=
 ⟨c_ b.1 a.1,c_ b.2 a.2,c_ b.3 a.3,cU a.4 b.4,λd aN c g=>by
  have e:=a.5 d aN c g;refine(b.5 d (e8 aN a.4) c ?_).trans e
  grind,a.6.trans b.6 a.4⟩
def dP.vz(a:a7 A B):dP mb base A B:=⟨a.1,a.2,a.3,a.4,λb aN _ _=>a.5 b aN,lw.below a⟩
def dP.apl(a:mp mb base A B):dP mb base A B:=⟨a.1,a.2,a.3,a.4,λd aN b c=>a.5 d aN b<|c.imp id And.left,a.6⟩
def dP.keeps(d:dP mb base b A)(c:eL a A B)(g:U b.1<=a):dP mb base b B :=
 d.same c.1 c.2 c.3 c.4 λe aN=>c.5 e (e8 aN d.4) G
def d3.tg(e:d3 b)(d:dP mb base b f)(g:0<base)(i:0<mb):d3 f:=by obtain⟨a,m,h⟩:=e;exact⟨e8 a d.4,m,(ev<|d.5 0 a G<|bG g).trans h⟩
def dP.apm(l:dP mb base b f)(c:eJ b mb e k)(r:eJ f mb s F)(p:bW s=ag a)(q:AB e<=o)(w:base<=a){cur}(u:f.1[a]? = ag (aS cur 5 (0,0)))(t):dP mb base b (a_ f ⟨a,o,ai⟩ t) :=
 ⟨l.1,l.2,l.3,by simpa [a_]using l.4,λj aN c i=>by
  by_cases h:j=a
  ·subst h;have:=l.5 j aN c i
   grind
  ·exact(dJ _ _ _ _ h).trans<|l.5 j aN c i,l.6.azN c r p q u t⟩
def dP.box(k:dP mb base b f){c}(d:b.1[a]? = ag (aS c z))(j:a≠mb)(l:z≠5)(n:z≠343):f.1[a]? = ag (aS c z) :=
 (k.5 a (ea.1 d).1 j<|bE ⟨λh i=>by grind,λh i=>by grind⟩).trans d
end
def E4{d}(j:b.1[a]? = ag d)(k:∀g i f,d≠aS g i f):(∀c,b.1[a]?≠ag (aS c 5 (0,0)))/\∀c,b.1[a]?≠ag (aS c 343 (0,0)) :=
 ⟨λe h=>by grind,λe h=>by grind⟩
def dP.other{h}(l:dP o h b f){e}(c:b.1[a]? = ag e)(j:a≠o)(k:∀i n g,e≠aS i n g):f.1[a]? = b.1[a]? :=
 l.5 a (ea.1 c).1 j (bE<|E4 c k)
abbrev hi:=List<|ap×Nat
def n_(d:aQ)(i e g:Nat)(h:ap)(j:hi):Prop:=∃b c,eJ d i b c/\ib d e b h/\ms d e c j/\(∀a,bW b=ag a->a≠g)/\∀a,bW c=ag a->a≠g
def fX(a:aQ)(g b:Nat)(e:ap)(h:hi):Prop:=∃c d,eJ a g c d/\ib a b c e/\ms a b d h
def y6{d}(h:ms b a e d)(hg:bW e=ag o):∃cur,b.1[o]? = ag (aS cur 343 (0,0)):=by exact QY
section
variable {w w':World} {mb base d:Nat} {l:ap} {ps:hi}
def n_.msg(a:n_ w mb base d l ps):fX w mb base l ps:=by obtain⟨g,h,b,c,e,_⟩:=a;exact⟨g,h,b,c,e⟩
def fX.lt(a:fX w mb base l ps):mb<U w.1:=by obtain⟨c,d,b,_⟩:=a;exact b.lt
def fX.away(i:fX w mb base l ps)(o:(∀a,w.1[d]?≠ag (aS a 5 (0,0)))/\∀a,w.1[d]?≠ag (aS a 343 (0,0))):n_ w mb base d l ps:=by obtain⟨k,n,j,c,e⟩:=i;refine⟨k,n,j,c,e,λh b g=>?_,λh b g=>?_⟩;{have a:=y5 c b;grind};{have a:=y6 e b;grind}
def fX.aE7(b:fX w mb base l ps)(e:U w.1<=d):n_ w mb base d l ps:=b.away ⟨λa c=>by grind,λa c=>by grind⟩
def fX.below(c:fX w mb base l ps)(a:a7 w w'):fX w' mb base l ps:=by obtain⟨g,h,b,d,e⟩:=c;exact⟨g,h,b.kept<|a.5 mb b.lt,jG d a,jG e a⟩
def n_.keeps(k:n_ w mb base d l ps)(c:eL d w w')(n:mb≠d):n_ w' mb base d l ps:=by obtain⟨o,p,e,g,h,i,j⟩:=k;exact⟨o,p,e.kept<|c.5 mb e.lt n,pR g λa b=>c.5 a (kX g a b).2<|i a b,pR h λa b=>c.5 a (kX h a b).2<|j a b,i,j⟩
def n_.put(a:n_ w mb base d l ps)(o)(b:mb≠d):fX (w.putObj d o) mb base l ps:=(a.keeps (eL.put (d:=d) w d o) b).msg
end
def Vf{i}(c:ms b a k i)(n:eJ b o e k)(p:mp o a b f):ms f a k i :=
 pR c λh g=>by
  obtain⟨r,j⟩:=y6 c g;refine p.5 h (kX c h g).2 (λl=>?_)<|bE λq t=>?_
  ·rw[l,n]at j;grind
  grind
def E5(e i h){n}(b)(B:fX b a o c n)(q:o<=U b.1)(p:∀f∈h,f.Ok)(A:e<U b.1)(I:e≠a)(d:e<o\/∀r,b.1[e]?≠ag (aS r 5 (0,0)))(G:∀g (J:g<E h),aD b (M e g)=ag (cV h[g].1 h[g].2))(C:E h<=i)(y:E h<=1000000)(z:E c+E (ew h)<=1000000):bd aK 139 #[N a,bC e 0 (E h) i] b λu j=>u=bg (bX #[])/\fX j a o (c++ew h) n/\dP a o b j:=by obtain⟨K,H,k,w,x⟩:=B;exact(Ez o e i h c b k w q p A I d G C y z).m λj ⟨⟨t,D,F⟩,l⟩=>⟨af,⟨t,H,D,F,Vf x k l⟩,dP.apl l⟩
def qr(b:hi)(c:ap)(a:Nat):hi:=if a<16384 then b++[(c,a)]else b
def Vg(a c b):E (qr a c b)<=E a+1:=by grind[qr]
def acM(a c b):E a<=E (qr a c b):=by grind[qr]
def acN(h:¬a<16384)(i:a<=1000000):bd aK 202 #[N o,aZ Q,J (a:Int)] b λc e=>c=bg (bX #[])/\e=b:=by have:¬(a:Int)<16384:=G;go_wp2;refine lG (v:=bX #[]) (by simp[dr,results202]) af ?_;simp
def lh:hi->ap->Option Nat
 | [],_=>ai
 | a::c,b=>if a.1==b then ag a.2 else lh c b
def Vh:∀(e:hi) (d:ap),lh e d=ai->∀a (b:a<E e),(e[a].1==d)=ao
 | [],_,_,a,b=>by grind
 | i::g,d,c,a,b=>by
  unfold lh at c;split at c;{cases c};{
  rename_i h;match a,b with
  | 0,_=>grind
  | a+1,b=>exact Vh g d c a<|by grind}
def MB:∀(c:hi) (d:ap) (g:Nat),lh c d=ag g->∃a,∃j:a<E c,c[a].2=g/\c[a].1=d/\∀e (aN:e<a),(c[e].1==d)=ao
 | [],_,_,b=>by cases b
 | p::i,d,g,b=>by unfold lh at b;split at b;{rename_i h;exact⟨0,aA,by grind,by grind,λe aN=>G⟩};{rename_i h;obtain⟨a,o,k,l,n⟩:=MB i d g b;refine⟨a+1,by grind,by assumption,by assumption,λe aN=>?_⟩;grind}
def ac2{ps}(l:eJ b a e s)(C:ms b o s ps)(x:∀r (L:r<E ps),(ps[r].1==c)=ao)(P:E ps<=30000):bd aK 339 #[N a,aZ c] b λd D=>d=bg (bX #[J 0,aG ao])/\a7 b D:=by
 by_cases n:ps=[];{subst n;obtain⟨F,B,H,rfl⟩:=qk C;obtain rfl:B=0:=by{obtain⟨_,⟨d,hz⟩|⟨g',cap',cur',d,_⟩⟩:=C;{grind};grind};have y:=l.cells.2;go_wp2;refine RS 1 ?_;rw[rounds_succ];go_wp2;go_ret2;exact⟨af,dz _ _⟩};obtain⟨i,I,rfl,j,K,z⟩:=Vd C n;have y:=l.cells.2;have t:=ae z;have u:=ae x;go_wp2;go_loopw [13] (λg wr=>∃k:Nat,g=J k/\k<=E ps/\a7 b wr) λg _=>E ps-(intOf g).toNat;·exact⟨0,af,eb _,dz _ _⟩
 ·(
 obtain⟨k,rfl,M,w⟩:=hrel;have kg:=ae w;have hs:=w.4;by_cases h:k<E ps;{
 have:(k:Int)<E ps:=G;have⟨c0,bA⟩:=V t k h;have:=(w.cell (p:=⟨i,k*2,ai⟩) j).trans c0;have:=(w.cell (p:=⟨i,k*2+1,ai⟩) j).trans bA;have A:((O ps[k].1).toList==(O c).toList)=(ps[k].1==c):=yz;rw[V u k h]at A;exact Qz};{obtain rfl:k=E ps:=G;go_wp2;go_ret2;exact⟨af,kg⟩})
def adQ(i){k}(n:fX b a o c k)(h:E k<=30000):bd aK 339 #[N a,aZ i] b λl q=>l=bg (bX #[J ((lh k i).getD 0:Nat),aG (lh k i).isSome])/\a7 b q:=by
 obtain⟨t,u,d,r,e⟩:=n;cases g:lh k i with
 | none=>exact ac2 d e (Vh k i g) h
 | some p =>{have⟨j,hj,e1,e2,e3⟩:=MB k i p g;have:=ac0 d e hj e2 e3 h;rw[e1]at this;exact this}
section
attribute [local go_sem] Oper.semAt_some undef
def wv(a:ap):ap:=(Lib.cut a [46]).1
def MD(b:ap)(a:(46:UInt8) ∉ c):wv (c++46::b)=c:=by rw[wv,Lib.cut,Lib.index_one,Gs 46 c b a,b7 G];simp
def ME(b:(46:UInt8) ∉ c):wv c=c:=by rw[wv,Lib.cut,Lib.index_one,Gr 46 c b,bJ bL]
def adS(a:ap):E (wv a)+E (jA a)<=E a:=by by_cases b:(46:UInt8)∈a;{obtain⟨e,c,rfl,d⟩:=D9 b;rw[yC c d,MD c d];simp};{rw[Ay b,ME b];simp}
def MF:∀(f:Nat) (a:ap),E a<=f->E (ei a)<=E a
 | 0,a,c=>by obtain rfl:a=[]:=iM G;simp[rg]
 | f+1,a,c=>by by_cases b:a=[];{subst b;simp[rg]};{have d:=zC b;rw[qG b,ey];have:=MF f (jA a) G;omega}
def pU(a:ap):ap:=UInt8.ofNat (E<|wv a)::wv a
def jV(b:hi):Prop:=∀a∈b,a.2<16384
def jd:List ap->ap->hi->ap×hi
 | [],a,b=>(a++[0],b)
 | c::d,a,b=>match lh b c with
  | some e=>(a++HB e,b)
  | none=>jd d (a++pU c)<|qr b c<|E a
def E6{e:hi}(d:lh e g=ag a):jd (g::r) c e=(c++HB a,e):=by rw[jd,d]
def E7{d:hi}(e:lh d c=ai):jd (c::r) g d=jd r (g++pU c) (qr d c<|E g):=by rw[jd,e]
def Vk{d:hi}(b:jV d)(h:ap)(g:Nat):jV (qr d h g):=by intro c a;unfold qr at a;split at a;{rename_i e;rw[lc]at a;rcases a with a|a;{exact b c a};{simp at a;subst a;exact e}};{exact b c a}
def adT{b:hi}(d:jV b)(e:lh b c=ag a):a<16384:=by have⟨j,hj,e1,_⟩:=MB b c a e;rw[<- e1];exact d _<|eP hj
def adU(y:ap)(p:Nat){q:hi}(d:aQ)(n:eJ d a e k)(i:ib d o e c)(g:ms d o k q)(A:o<=U d.1)(B:E q<=30000)(C:p<=1000000):bd aK 202 #[N a,aZ y,J (p:Int)] d λr b=>r=bg (bX #[])/\∃h,eJ b a e h/\ib b o e c/\ms b o h (qr q y p)/\dP a o d b:=by unfold qr;split;{rename_i l;refine(Vc n g A B l).m λb ⟨h,D,F,_,G,x⟩=>⟨af,h,D,pR i λt u=>?_,F,x.1,x.2,x.3,x.4,λw aN z j=>?_,G⟩;{have⟨cur,bP⟩:=y5 i u;refine x.5 t (kX i t u).2 ⟨λr=>?_,λr=>?_⟩;{rw[r,n]at bP;simp at bP};{have⟨cur',ZR⟩:=y6 g<|bZ r;rw[bP]at ZR;simp at ZR}};{refine x.5 w aN ⟨z,λr=>?_⟩;rcases j with j|j;{have:=(kX g w<|bZ r).1;omega};{have⟨cur',ZR⟩:=y6 g<|bZ r;exact j.2 cur' ZR}}};{rename_i l;refine(acN l C).m ?_;rintro b rfl;exact⟨af,k,n,i,g,dP.refl _ _ _⟩}
def adV{D:hi}(bQ:fX b a o g D)(az:d3 b)(cT:o<=U b.1)(ba:0<o)(bR:0<a)(cK:E c<=3000)(cl:jV D)(cW:E D+E c<=30000)(cU:E g<=60000):bd aK 338 #[aZ c,N a] b λB aH=>B=bg (bX #[])/\fX aH a o (jd (ei c) g D).1 (jd (ei c) g D).2/\dP a o b aH:=by
 refine(ez (n:=0)).1 ?_;refine wK func338 af cE ?_;simp only[ntmps338,ox,ey,h8,Nat.reduceAdd,Nat.reduceSub,ov,oQ,oS,oR,jz,g_];have co:=ae bQ;have b7:=ae az;have cn:=ae cl;have:=bQ.lt;have:=az.1;have cI:aK.follows .mixedOrders=aE:=b8;have:=MF _ c bv;have⟨R,hR⟩:=bi<|jd (ei c) g D;rw[<- hR];replace hR:=ae hR;gi_wp2_with fail;refine⟨cE,af,?_⟩;refine(ez.2<|F8 _ _).m ?_;rintro e ⟨bI,bb,bH⟩;have cu:cy e (U b.1) (N a) 216:=(cy.qf _ _ _).below bb aA;have aP:a7 b e:=(ct cd bv _).trans<|bV bb aA;simp only[gd]at bI bH;have:U b.1+2<=U e.1:=G;have cz:=ae<|co.below aP;have cL:ax (dP a o b e):=dP.vz aP;have bp:=ae<|b7.below aP;clear bI aP bb;gi_wp2_with fail;have cH:∀ad,a7 e (aO (aO e<|dq<|ag [])<|.loop ad):=λad=>(ct cd bv _).alloc aA _;refine JN (xs:=ei c) (encs:=λB:ap=>#[aZ B]) (St:=λH I=>a7 H I) (Kp:=λH I=>U H.1<=U I.1/\I.1[0]? = H.1[0]?) (Kx:=λ_ _=>True) (gf:=241) (lb:=#[N<|U b.1+1]) af (enters_of func241 b8 af) (λ_=>af) ?seq [0] cx (λH I h=>h) (λH I h cA=>⟨cA,h _ aA⟩) (λ_ _=>cE) (λA i=>(∃T r j,bh A (ei c)=ei T/\R=jd (ei T) r j/\E r+E T<=E g+E c+A/\E j<=E D+A/\jV j/\n_ i a o (U e.1+1) r j)/\dP a o b i/\cy i (U b.1) (N a) 216/\d3 i) (λa8 i=>a8=.ret/\n_ i a o (U e.1+1) R.1 R.2/\dP a o b i) (λA H I h cC hk=>by{obtain⟨⟨T,r,j,w,u,aU,bf,aV,W⟩,Q,P,cF⟩:=h;refine⟨⟨T,r,j,w,u,aU,bf,aV,W.keeps hk G⟩,Q.keeps hk G,cy.kept P<|hk.5 _ (cy.lt P) G,?_⟩;obtain⟨bJ,m,cG⟩:=cF;exact⟨e8 bJ hk.4,m,(ev<|hk.5 0 bJ G).trans cG⟩}) (λa8 H I h cC hk=>⟨h.1,h.2.1.keeps hk G,h.2.2.keeps hk G⟩) ⟨⟨c,g,D,af,hR,G,G,cn,cz.aE7 G⟩,cL,cu,bp⟩ ?round ?done ?stop;case seq =>(intro ad;have az:=cH ad;exact F9 ((az.cell (p:=⟨U b.1+1,0,ai⟩) (by show U b.1+1<U e.1;omega)).trans bH) (bp.below az) cK)
 ·(
 intro aF A k cP i hy av bT cw cO;obtain⟨⟨T,r,j,w,u,aU,bf,aV,W⟩,Q,P,a2⟩:=av;have:=(j_.1 hy).1;have:=JP<|rM hy;have aM:T≠[]:=by{intro h;subst h;rw[rg]at w;have:=fE List.length w;exact DA};have cb:k=T/\bh (A+1) (ei c)=ei (jA T):=by{
 rw[qG aM]at w;have bM:(bh A<|ei c)[0]? = ag k:=Il
 rw[w]at bM;refine⟨by simpa using bZ bM,?_⟩;rw[<- pk,w];rfl};obtain⟨rfl,cN⟩:=cb;rw[qG aM]at u;have cc:=adS k;have ab:=adQ k W.msg G;have aN:=ae Q;have al:=ae P;have bx:=ae a2;have bw:=ae W;have:=W.msg.lt;have bD:=cy.cell P;have b_:=ae cN;have b4:=ae aV;have b0:=ae cw;have bU:=ae cO;have ce:=Q.4;cases l:lh j k with
 | some aa =>{
 have b5:=adT (V b4) l;rw[l]at ab;have aI:ax (bd aK 339 #[N a,aZ k] i<|cQ (bX #[J (aa:Int),aG aE]) i):=ab;rw[E6 l]at u;have aC:=ae u;clear u l ab;gi_wp2_with fail;refine⟨cE,?_⟩;gi_wp2_with fail;refine⟨cE,af,?_⟩;refine(jH aF<|ez.2<|V aI).m ?_;intro z x;have Z:=bw.msg.below x;have bK:=cy.below al x<|cy.lt<|V al;have bS:=x.4;have an:=cy.cell bK;have cg:=acJ b5;have cJ:=qe ((49152+aa:Nat):Int)
 have hnew:=du z<|aS #[cV 284<|ak .u16 ((49152+aa:Nat):Int)] 297;have F:=ae (E5 (U z.1) 1 [gs<|49152+aa] (aO z<|aS #[cV 284<|ak .u16 ((49152+aa:Nat):Int)] 297) (Z.below<|ct cd bv _) cx (λf l=>by simp at l;subst l;exact nM _ G) aA (cj Z.lt) (bE λbF h=>FW) (λS y=>by{
 match S,y with
 | 0,_=>exact m8
 | S+1,y=>simp at y}) aA aA (by simp[ew,gs];omega))
 have⟨q,hq⟩:=bi<|49152+aa;rw[<- hq]at F cJ cg;have cs:=ae hq;have cr:=ae x;clear hq hnew Z bK x aI bD;gi_wp2_with fail;refine⟨cE,af,?_⟩;refine(jH aF<|ez.2<|V F).m ?_;rintro t ⟨aB,ah⟩;have aj:=(dP.vz<|V cr).trans<|(dP.vz<|ct cd bv _).trans ah;have aq:=V b0;have⟨ad,d2⟩:=V bU;have au:t.1[U e.1]? = i.1[U e.1]?:=aj.other aq G (λ_ _ _ h=>by cases h);have Y:t.1[U e.1+1]? = i.1[U e.1+1]?:=aj.other d2 G (λ_ _ _ h=>by cases h);have ac:ax (ju (U e.1) i t/\n_ t a o (U e.1+1) R.1 R.2/\dP a o b t):=by{refine⟨⟨aj.4,au,Y⟩,?_,aN.trans aj⟩;rw[V aC,show HB aa=ew [gs q] by rw[V cs];rfl];exact aB.away<|E4 (c_ Y d2) λ_ _ _ h=>by cases h};clear aB ah aj aq d2 au Y F;gi_wp2_with fail;exact⟨ac.1,af,ac.2⟩}
 | none =>{
 rw[l]at ab;have aI:ax (bd aK 339 #[N a,aZ k] i<|cQ (bX #[J 0,aG ao]) i):=ab;rw[E7 l]at u;have aC:=ae u;clear u l ab;gi_wp2_with fail;refine⟨cE,?_⟩;gi_wp2_with fail;refine⟨cE,af,?_⟩;refine(jH aF<|ez.2<|V aI).m ?_;intro z x;have⟨afQ,Uz,m3,b3,gg⟩:=bw.msg.below x;have a3:=cy.below al x<|cy.lt<|V al;have bS:=x.4;have an:=cy.cell a3;obtain⟨cm,cM,cq,rfl⟩:=qk b3;obtain rfl:cM=E r:=by{obtain⟨_,⟨B,hz⟩|⟨g',cap',cur',B,_⟩⟩:=b3;{cases B;omega};{cases B;rfl}};have bz:=m3.cells.1;have aJ:a7 z (bq z):=cd.drew;have bA:cy (bq z) (U b.1) (N a) 216:=a3;have bk:=ae<|adU k (E r) (bq z) (m3.kept af) (jG b3 aJ) (jG gg aJ) (by show o<=U z.1;omega) G G;have br:dP a o i (bq z):=dP.vz<|bN x<|bV aJ bS;have b1:=ae br;have:=ae<|cv m3<|cv b3 gg;clear m3 b3 gg x aJ br aI bD;gi_wp2_with fail;refine Vj (λi=>aD i (M (U b.1) 0)=ag (N a)/\aD i (M a 0)=ag (aL cm (E r) cq)) cI (xj b8) ⟨an,bz⟩ λC=>?_;refine nV 0 C (λ_ _ _ h=>(kx.qC h aA).elim) ?_;refine nV 1 C (λ_ _ _ h=>(kx.qC h aA).elim) ?_;refine nV 2 C (λ_ _ _ h=>(kx.qC h aA).elim) ?_;refine nV 3 C (λ_ _ _ h=>(kx.qC h aA).elim) ?_;refine nV 4 C (λ_ _ _ h=>(kx.qC h aA).elim) ?_;refine nV 5 C (λ_ _ _ h=>(kx.qC h aA).elim) ?_;refine nV 6 C (λ_ _ _ h=>(kx.qC h aA).elim) ?_;refine oh (rs:=[7]) b8 aA (lK af (λb9 bP=>?_) m_);go_simp;refine bk.m ?_;rintro t ⟨cR,bc,bB,bY,aR⟩;have aW:=aR.box bA G bL bL;refine bP.out _ _ ⟨cy.cell aW,bc.cells.1⟩ λC=>?_;clear bP b9 C;refine uY b8 ?_ _;refine⟨af,?_⟩;have bt:=(bx.tg (b1.trans aR) ba bR);have X:=b1.trans aR;have:=X.4;have bo:=ae<|ak7 k bt G;have b2:ax (fX t a o r<|qr j k<|E r):=⟨_,_,bc,bB,bY⟩;have a4:=ae aW;have ca:=ae X;have cD:=cy.cell aW;clear bc bB bY aR aW X bt bk an bz a3 bA;gi_wp2_with fail;refine⟨cE,af,?_⟩;refine(jH aF<|ez.2<|V bo).m ?_;intro a1 ay;have bl:ax ((Lib.cut k [46]).1=wv k):=af;rw[V bl];have bj:=b2.below ay;have a5:=cy.below a4 ay<|cy.lt<|V a4;have:=cy.cell a5;have:=ay.4;have:=Vg j k<|E r;have⟨fl,iX⟩:=bi<|wv k;have aX:ax (pU k=UInt8.ofNat (E fl)::fl):=by rw[iX];rfl
 rw[<- iX]at cc ⊢;have⟨oc,uq⟩:=bi<|UInt8.ofNat<|E fl;have cS:ck.wrap (E fl:Int)=(be oc:Int):=by rw[xT,uq,rJ];omega
 rw[<- uq]at aX;have:=de fl;have hnew:=du a1<|aS #[cV 292<|ak ck<|be oc,cV 224<|amz<|O fl] 297;have F:=ae (E5 (U a1.1) 2 [nL oc,eI fl] (aO a1<|aS #[cV 292<|ak ck<|be oc,cV 224<|amz<|O fl] 297) (bj.below<|ct cd bv _) cx (λf l=>by{simp at l;rcases l with rfl|rfl;{exact vv _};{exact lD _}}) aA (cj bj.lt) (.inr λbF h=>FW) (λS y=>by{
 match S,y with
 | 0,_=>exact m8
 | 1,_=>exact m8
 | S+2,y=>simp at y;omega}) aA aA (by simp[ew,nL,eI];omega))
 have bs:=ca.trans<|dP.vz ay;have ch:=ae bs;have:=ae a5;clear iX uq hnew bj a5 ay bs bo b2 a4 cD bl;gi_wp2_with fail;refine⟨cE,af,?_⟩;refine(jH aF<|ez.2<|V F).m ?_;rintro L ⟨bn,bu⟩;have K:=ch.trans<|(dP.vz<|ct cd bv _).trans bu;have aq:=V b0;have⟨ad,d2⟩:=V bU;have au:L.1[U e.1]? = i.1[U e.1]?:=K.other aq G (λ_ _ _ h=>by cases h);have Y:L.1[U e.1+1]? = i.1[U e.1+1]?:=K.other d2 G (λ_ _ _ h=>by cases h);have ac:ax (ju (U e.1) i L/\(∀aT∈[0],L.1[aT]? = i.1[aT]?)/\(∃T r j,bh (A+1) (ei c)=ei T/\R=jd (ei T) r j/\E r+E T<=E g+E c+(A+1)/\E j<=E D+(A+1)/\jV j/\n_ L a o (U e.1+1) r j)/\dP a o b L/\cy L (U b.1) (N a) 216/\d3 L):=by{
 refine⟨⟨K.4,au,Y⟩,λaT hk=>?_,⟨jA k,r++pU k,_,b_,aC,?_,G,Vk (V b4) _ _,?_⟩,aN.trans K,K.box (V al) G bL bL,bx.tg K ba bR⟩;{
 obtain rfl:aT=0:=FU
 exact K.5 0 G G<|bG ba};{rw[V aX,dE,ey];omega};{
 rw[V aX];have:r++ew [nL oc,eI fl]=r++oc::fl:=by simp[ew,nL,eI]
 rw[<- this];exact bn.away<|E4 (c_ Y d2) λ_ _ _ h=>by cases h}};clear bn bu K aq d2 au Y F;gi_wp2_with fail;exact⟨ac.1,ac.2.1,ac.2.2⟩})
 case done =>(
 intro i av ar bT;obtain⟨⟨T,r,j,w,u,aU,bf,aV,W⟩,Q,P,a2⟩:=av;have aM:T=[]:=by{rw[w_]at w;by_cases h:T=[];{exact h};{rw[qG h]at w;cases w}};subst aM;rw[rg]at u;have an:=cy.cell P;have Z:=W.msg;have ce:=Q.4;have hnew:=du i<|aS #[cV 292<|ak ck<|be (0:UInt8)] 297;have F:ax (bd aK 139 #[N a,bC (U i.1) 0 1 1] (aO i<|aS #[cV 292<|ak ck 0] 297) λB aH=>B=bg (bX #[])/\fX aH a o (r++[0]) j/\dP a o (aO i<|aS #[cV 292<|ak ck 0] 297) aH) := E5 (U i.1) 1 [nL 0] (aO i<|aS #[cV 292<|ak ck<|be (0:UInt8)] 297) (Z.below<|ct cd bv _) cx (λf l=>by simp at l;subst l;exact vv _) aA (cj Z.lt) (bE λbF h=>FW) (λS y=>by{
 match S,y with
 | 0,_=>exact m8
 | S+1,y=>simp at y}) aA aA (by simp[ew,nL];simp at aU;omega)
 have aC:=ae u;have aN:=ae Q;have aY:=ae ar;clear w u Q P a2 W Z hnew ar;gi_wp2_with fail;refine⟨cE,af,?_⟩;refine(ez.2<|V F).m ?_;rintro t ⟨aB,ah⟩;have X:=(dP.vz<|ct cd bv _).trans ah;have a0:t.1[U e.1]? = ag (dq<|ag []):=(X.other (V aY) G λ_ _ _ h=>by cases h).trans<|V aY;have aw:=aB.away (d:=U e.1) (E4 a0 λ_ _ _ h=>by cases h);have a6:ax (n_ t a o (U e.1) R.1 R.2/\dP a o b t/\t.1[U e.1]? = ag (dq<|ag [])):=⟨by rw[V aC];exact aw,aN.trans X,a0⟩;clear aB ah X a0 aw F aY an;gi_wp2_with fail;refine⟨aA,bG ⟨_,_,af,mI a6.2.2,?_⟩⟩;exact⟨bX #[],by simp[dr,results338],af,a6.1.put _ G,a6.2.1.keeps (eL.put (d:=U e.1) t (U e.1) (dq ai)) G⟩)
 case stop =>(intro a8 i av ar bT;obtain⟨rfl,a9,bO⟩:=av;have b6:=ae<|cv a9 bO;have aw:=a9.msg.away (d:=U e.1) (E4 ar λ_ _ _ h=>by cases h);have cp:=ae aw;clear a9 bO aw;gi_wp2_with fail;refine⟨aA,bG ⟨_,_,af,mI ar,?_⟩⟩;exact⟨bX #[],by simp[dr,results338],af,cp.put _ G,b6.2.keeps (eL.put (d:=U e.1) i (U e.1) (dq ai)) G⟩)
end
def Vl(e d:Nat)(i:aQ->Prop)(k:FuncId)(l:bm)(g:ap->hi->ap×hi):Prop:=∀(b:ap) (a:hi) (c:aQ),i c->fX c e d b a->d<=U c.1->jV a->E (g b a).1<=50000->E (g b a).2<=20000 ->
 bd aK k #[l,N e] c λj h=>j=bg (bX #[])/\fX h e d (g b a).1 (g b a).2/\dP e d c h
structure jK where
 t:TypeId
 x:Value
 fn:FuncId
 Gt:ap->hi->ap×hi
structure jK.Ok(f:jK)(mb base:Nat)(I:World->Prop):Prop where
 meth : ∀ W : World, (method 521 f.t f.x "beacon/wire.writeTo").run prog W = .ok (f.fn, f.x) W
 call:∀(args:Array Value) (W:World),(callFunc f.fn args).run prog W=.ok (.enter f.fn args) W
 wr:Vl mb base I f.fn f.x f.Gt
 ZV:∀l ps,l.length<=(f.Gt l ps).1.length/\ps.length<=(f.Gt l ps).2.length/\(jV ps->jV (f.Gt l ps).2)
def gX(a:List jK)(b:ap)(c:hi):ap×hi:=a.foldl (λs f=>f.4 s.1 s.2) (b,c)
def Cx(e d:Nat)(a:aQ->Prop):Prop:=∀b c,a b->dP e d b c->a c
def qh(h:Nat)(e:aQ)(c:Nat)(b:List jK):Prop:=c≠h/\(∃g d,e.1[c]? = ag (aS g d)/\d≠5/\d≠343)/\∀a (i:a<E b),aD e (M c a)=ag (cV b[a].1 b[a].2)
def qh.tg{base c}(n:qh a b o c)(q:dP a base b f):qh a f o c:=by obtain⟨e,⟨l,t,g,h,i⟩,k⟩:=n;have j:=q.box g e h i;exact⟨e,⟨l,t,j,h,i⟩,λr p=>(ev<|c_ j<|bZ g).trans<|k r p⟩
def Vn{b}:gX [] c b=(c,b):=rfl
def HE{f a b}:gX (f::a) c b=gX a (f.4 c b).1 (f.4 c b).2:=rfl
def Vo{a d b}:gX (a++d) c b=gX d (gX a c b).1 (gX a c b).2:=by simp[gX]
def UL{b:List jK}(e:a<E b)(c d):gX (amA (a+1) b) c d=b[a].4 (gX (amA a b) c d).1 (gX (amA a b) c d).2:=by rw[iH e,Vo];rfl
def Cy{e}: ∀(c:List jK),(∀f∈c,f.Ok a o e)->∀b g,E b<=E (gX c b g).1/\E g<=E (gX c b g).2/\(jV g->jV (gX c b g).2)
 | [],_,b,g=>⟨cW _,cW _,id⟩
 | f::c,d,b,g=>by have j:=(d f aA).4 b g;have k:=Cy c (λh l=>d h<|by grind) (f.4 b g).1 (f.4 b g).2;rw[HE];grind
def adW{e}{h}(g:∀f∈h,f.Ok a o e)(b c d):E (gX (amA d h) b c).1<=E (gX h b c).1/\E (gX (amA d h) b c).2<=E (gX h b c).2:=by
 have:gX h b c=gX (bh d h) (gX (amA d h) b c).1 (gX (amA d h) b c).2:=by rw[<- Vo,lP]
 have:=Cy (bh d h) (λf i=>g f<|RL i) (gX (amA d h) b c).1 (gX (amA d h) b c).2;grind
def MH{q}(u){h g}(d c)(P:h b)(S:Cx a o h)(R:fX b a o d c)(Y:o<=U b.1)(W:jV c)(F:∀f∈g,f.Ok a o h)(y:qh a b q g)(ah:E g<=u)(ab:E g<=1000000)(ad:E (gX g d c).1<=50000)(aj:E (gX g d c).2<=20000):bd aK 139 #[N a,bC q 0 (E g) u] b λM z=>M=bg (bX #[])/\fX z a o (gX g d c).1 (gX g d c).2/\dP a o b z:=by
 have I:=ae R;have p:=ae F;have B:=ae y;have K:=ae P;have C:=ae S;have X:=ae W;have al:q<U b.1:=by obtain⟨_,⟨Z,an,aa,_⟩,_⟩:=y;grind
 go_wp2;go_loopw [8] (λr wr=>∃(e:Nat),r=J e/\e<=E g/\fX wr a o (gX (amA e g) d c).1 (gX (amA e g) d c).2/\dP a o b wr) λr _=>E g-(intOf r).toNat;·exact⟨0,af,eb _,I,dP.refl _ _ _⟩
 ·(obtain⟨e,rfl,ac,A,x⟩:=hrel;have w:=ae A;have l:=ae x;have:=x.4;by_cases k:e<E g;{have:=(B.tg<|V l).2.2 e k;have n:=V p g[e]<|eP k;have H:=ae<|UL k d c;have j:=adW (V p) d c<|e+1;rw[UL k d c]at j;have T:=(Cy (amA e g) (λf Q=>V p f<|zP Q) d c).2.2<|V X;generalize g[e]=f at *;have:=n.1;have:=n.2;have D:=ae<|n.3 _ _ wr (C b wr K l) (V w) G T G G;go_wp21;refine D.m λap ⟨j,O⟩=>?_;rw[<- V H]at j;have t:=ae<|cv j<|l.trans O;go_wp2;exact⟨⟨e+1,dH,G,t.1,t.2⟩,ee⟩};{have L:e=E g:=G;subst L;have i:=V w;rw[ld]at i;replace i:=ae i;go_wp2;exact lG (v:=bX #[]) (by simp[dr,results139]) af ⟨af,i,l⟩})
def lj(f:oz):jK:=⟨f.1,f.2,f.3,λa b=>(a++f.4,b)⟩
def qt{f:oz}(b:f.Ok){i:aQ->Prop}:(lj f).Ok a o i where
 meth:=b.1
 call:=b.2.1
 wr:=λe t w _ p j _ g _=>by
  obtain⟨u,h,c,l,n⟩:=p;simp only[lj,dE]at g;refine(b.2.2 a o u h e w c l j G).mono ?_;rintro x y ⟨rfl,⟨k,q,r⟩,d⟩;exact⟨af,⟨k,h,q,r,Vf n c d⟩,dP.apl d⟩
 ZV:=λe t=>⟨by simp[lj],cW _,id⟩
def tZ(a:ap):jK:=⟨291,aZ a,338,λb c=>jd (ei a) b c⟩
def HF:∀(c:List ap) (b:ap) (a:hi),E b<=E (jd c b a).1/\E a<=E (jd c b a).2/\(jV a->jV (jd c b a).2)
 | [],b,a=>⟨by simp[jd],cW _,id⟩
 | d::c,b,a=>by
  cases g:lh a d with
  | some j=>rw[E6 g];simp
  | none =>{rw[E7 g];have e:=HF c (b++pU d)<|qr a d<|E b;have i:=acM a d<|E b;rw[dE]at e;exact⟨G,G,λh=>e.2.2<|Vk h _ _⟩}
def Cz(t:E c<=300){e:aQ->Prop}(i:∀d,e d->d3 d)(l:0<o)(p:0<a):(tZ c).Ok a o e where
 meth:=acK _
 call:=acL
 wr:=λb g d k h j r n q=>by
  have:=HF (ei c) b g;exact adV h (i d k) j l p G r (by have:E (jd (ei c) b g).2<=20000:=q;omega) (by have:E (jd (ei c) b g).1<=50000:=n;omega)
 ZV:=λb g=>HF (ei c) b g
def xF(c:ap)(b:Nat)(a:Nat):ap:=(c.set b<|aN a).set (b+1)<|cO a
def MI:E (xF c a o)=E c:=by simp[xF]
def xG(b:List jK)(a:ap)(c:hi):ap×hi :=
 (xF (gX b (a++[0,0]) c).1 (E a)<|E (gX b (a++[0,0]) c).1-(E a+2),(gX b (a++[0,0]) c).2)
def HI(c b:Nat)(a:List jK):jK:=⟨293,bC c 0 (E a) b,342,xG a⟩
def adX{W C p h}(a1:Cx a o p)(aV:∀g,p g->qh a g W h)(O:∀f∈h,f.Ok a o p)(aZ:E h<=C)(aW:E h<=1000000):Vl a o p 342 (bC W 0 (E h) C) (xG h):=by
 intro i e g aF ac a7 a2 w x;have z:=Cy h O (i++[0,0]) e;rw[dE]at z;simp only[ey,h8]at z;simp only[xG,MI]at w x;have T:=ae ac;have Q:=ae aF;have A:=ae a1;have aP:=ae aV;have aI:=ae O;have a3:=ae a2;have:=ac.lt;go_in;go_wp2_with fail;have hnew:=du g<|aS #[cV 284<|ak .u16 0] 297;refine(E5 (U g.1) 1 [gs 0] _ (T.below<|ct cd bv _) (by grind) ?_ aA G (bE ?_) ?_ aA aA ?_).mono ?_;{intro f aa;simp at aa;subst aa;exact nM _ G};{grind};{
 intro aj ab;match aj,ab with
 | 0,_=>exact m8
 | aj+1,ab=>grind};{simp[ew,gs];omega};rintro t L ⟨rfl,F,H⟩;have q:=ae<|(dP.vz<|ct cd bv _).trans H;have X:ax (fX L a o (i++[0,0]) e):=F;have aq:ax (∃y K,eJ g a y K/\AB y=E i):=by{have⟨y,K,q1,q2,_⟩:=V T;exact⟨y,K,q1,acG q2⟩};have⟨Pz,Ic,m2,o2,fz⟩:=V X;obtain⟨ba,a8,a4,rfl,bc,a5,bf,_⟩:=MA o2 aA;have S:=m2.cells.1;have:=q.4;rw[dE]at S;simp only[ey,h8]at S;have aJ:=ae<|MH C (i++[0,0]) e (A g L Q q) (V A) (V X) G (V a3) (V aI) (aP _<|A g L Q q) aZ aW w x;go_wp21;refine aJ.m λd ⟨F,H⟩=>?_;have aw:=ae<|q.trans H;obtain⟨a6,aB,I,l,gg⟩:=F;obtain⟨aH,P⟩:=bi<|gX h (i++[0,0]) e;have B:ax (xG h i e=(xF aH.1 (E i)<|E aH.1-(E i+2),aH.2)):=by rw[ax,P];rfl
 rw[<- P]at z w x l gg;obtain⟨j,al⟩:=aH;simp only at z w x l gg B;have a0:j≠[]:=by grind
 obtain⟨c,a9,aC,rfl,Z,r,aX,bb⟩:=MA l a0;have aM:=I.cells.1;have an:a≠c:=λt=>by{rw[eJ,t,r]at I;grind};have:io d (M c<|E i)=ao:=by simp[World.frozen?,r]
 have bj:∀n,io (a_ d ⟨c,E i,ai⟩ n) (M c<|E i+1)=ao:=λn=>by{simp[World.frozen?,a_,xP,r]};have ad:∃n,aD d (M c<|E i)=ag (ak ck n):=⟨_,by{rw[nz l (E i) G,vy,gw G];rfl}⟩;have ah:∃n,aD d (M c<|E i+1)=ag (ak ck n):=⟨_,by{rw[nz l (E i+1) G,vy,gw G];rfl}⟩;obtain⟨u0,ad⟩:=ad;obtain⟨u1,ah⟩:=ah;obtain⟨b,Y⟩:∃b,E j=E i+2+b:=⟨E j-(E i+2),G⟩;have az:E j-(E i+2)=b:=G;rw[az]at B;have J:=ae r;have aR:=ae l;have D:=ae I;have ap:=ae gg;have:=ae Y;have aY:E i<E j:=G;have:E i+1<E j:=G;rw[Y]at aM aX;have:(E i:Int)+2+b-(E i+2)=b:=G;go_wp2;go_region;have aT:(b:Int)/256=(be (aN b):Int):=by rw[aN,rJ];omega
 have aU:(b:Int)%256=(be (cO b):Int):=dS;rw[aT,aU];have ar:=Ve (Ve (V aR) (E i) (aN b) aY) (E i+1) (cO b) (by grind);have N:∀k,k≠c->(a_ (a_ d ⟨c,E i,ai⟩<|ak ck<|be<|aN b) ⟨c,E i+1,ai⟩<|ak ck<|be<|cO b).1[k]? = d.1[k]?:=λk u=>(dJ _ _ _ _ u).trans<|dJ _ _ _ _ u;have au:=D.kept (w':=(a_ (a_ d ⟨c,E i,ai⟩<|ak ck<|be<|aN b) ⟨c,E i+1,ai⟩<|ak ck<|be<|cO b)) (N a an);have av:ms (a_ (a_ d ⟨c,E i,ai⟩<|ak ck<|be<|aN b) ⟨c,E i+1,ai⟩<|ak ck<|be<|cO b) o aB al:=pR (V ap) λk u=>N k λt=>by{have⟨cur,bP⟩:=y6 (V ap) u;rw[t,V J]at bP;grind};have ay:dP a o g (a_ (a_ d ⟨c,E i,ai⟩<|ak ck<|be<|aN b) ⟨c,E i+1,ai⟩<|ak ck<|be<|cO b):=by{have⟨vb0,apD,q1,q2⟩:=V aq;exact(aw.apm q1 (V D) af (Nat.le_of_eq q2) Z (V J) _).apm q1 (D.kept<|dJ _ _ _ _ an) af G Z (cur:=aC.setIfInBounds (E i)<|ak ck<|be<|aN b) (by simp only[a_];rw[xP,b7 af,V J];rfl) _};have R:ax (fX (a_ (a_ d ⟨c,E i,ai⟩<|ak ck<|be<|aN b) ⟨c,E i+1,ai⟩<|ak ck<|be<|cO b) a o (xF j (E i) b) al/\dP a o g (a_ (a_ d ⟨c,E i,ai⟩<|ak ck<|be<|aN b) ⟨c,E i+1,ai⟩<|ak ck<|be<|cO b)):=⟨⟨_,_,au,ar,av⟩,ay⟩;generalize (a_ (a_ d ⟨c,E i,ai⟩<|ak ck<|be<|aN b) ⟨c,E i+1,ai⟩<|ak ck<|be<|cO b)=bk at *;go_wp2;refine lG (v:=bX #[]) (by simp[dr,results342]) af ⟨af,?_,R.2.trans<|dP.vz cd.drew⟩;rw[V B];exact R.1.below cd.drew
def UM{h g:Nat}{b:aQ->Prop}{d:List jK}(p:Cx a o b)(l:∀k,b k->qh a k h d)(e:∀f∈d,f.Ok a o b)(c:E d<=g)(n:E d<=1000000):(HI h g d).Ok a o b where
 meth:=acH _ _ _
 call:=acI
 wr:=adX p l e c n
 ZV:=λj q=>by
  have i:=Cy d e (j++[0,0]) q;rw[dE]at i;refine⟨?_,i.2⟩;show E j<=E (xF _ _ _);rw[MI];omega
def ts(c:aQ)(b:Nat)(v:bm)(a:List oz):Prop:=c.ownsRow b 297 1 v (E a)<|a.map λf=>cV f.1 f.2
def UN:(aK.info? 297).map (λa=>(a.8,a.3,a.4))=ag (ag .nilIface,1,16):=b8
def adY:aK.underlying 293=ag (.slice 297):=b8
def adZ:cB (U b.1) b (Lib.bytesWorld b z T):=Go.Joins.below_bytesWorld _ _ _ _<|cW _
def Hr(s)(b)(k:cf s<=3000)(e:Lib.parseUintB 64 s.1.1=.ok a):bd aK 280 #[amz s] b λd h=>d=bg (ak .u64 (a:Int))/\cB (U b.1) b h:=by have c:=ae<|Tryz.strconv_ParseUint_10_at64_ok s G a e b;go_in;go_wp21;refine(V c).m λi g=>?_;have j:cB (U b.1) b i:=by{rcases g with rfl|rfl;{exact dz _ _};{exact adZ}};go_wp2;go_ret;simp_all
def ER(a:ap)(b:List Nat):Prop:=(I 46 a).map (Lib.parseUintB 64)=b.map .ok
def oq(b:List Nat):List oz:=b.map λa=>nL<|UInt8.ofNat a
def ad0{d}(aa:d3 b)(aF:E c<=3000)(A:ER c d):bd aK 281 #[amz<|O c] b λT F=>(∃v,T=bg v/\ts F (U b.1) v (oq d))/\cB (U b.1) b F:=by
 have⟨i0,aN,hz0,hz1,hz2⟩:=jN UN;have X:=Ep b<|jl 46<|O c;have I:=vO (O c) 46 aa m7;have y:cB (U b.1) b (aO b<|aS (dl<|(jl 46<|O c).map amz) 9):=(dz _ _).alloc (cW _) _;have ap:ax (∀i∈jl 46 (O c),cf i<=3000):=λi aj=>by{have:=Eo 46 (O c) i aj;rw[de]at this;omega};have x:ax ((jl 46<|O c).map (λi=>Lib.parseUintB 64 i.1.1)=d.map .ok):=by{have:=tK 46<|O c;rw[r8]at this;rw[ER,<- this,nu]at A;exact A};have z:E (jl 46<|O c)=E d:=by{have:=fE List.length<|V x;grind};have aI:E d<=3001:=by{have:=pN 46 (O c).1.1;rw[<- tK,fC,r8]at this;omega};generalize jl 46 (O c)=h at *;generalize aO b (aS (dl<|h.map amz) 9)=e at *;have t:=ae I;have L:=ae y;have K:=y.4;rw[z]at t;obtain⟨ah,Y⟩:=X;have P:=ae Y;have J:=ae z;go_in;go_wp2_with (go_at_call 97;refine(V t).m ?_;rintro e rfl);go_loopw [9,3] (λr v wr=>∃(a:Nat) (k:Option Addr) (j l:Nat),r=ak am a/\v=aL k j l/\a<=E d/\ts wr (U e.1) (aL k j l) (oq<|amA a d)/\cB (U e.1) e wr) λr _ _=>E d-(intOf r).toNat;·exact⟨0,ai,0,0,af,af,eb _,jO _ _ _ _,dz _ _⟩
 ·(
 obtain⟨a,k,j,l,rfl,rfl,aH,o,n⟩:=hrel;have D:=ae n;have ar:=n.4;replace o:=ae o;by_cases ac:a<E d;{
 have w:a<E h:=by rw[V J];omega
 have Z:=(n.cell (p:=⟨U b.1,0+a,ai⟩) ah).trans ((V P) a w);rw[g8]at Z;have:(a:Int)<E d:=G;have C:Lib.parseUintB 64 h[a].1.1=.ok d[a]:=by{have:=fE (λav:List _=>av[a]?)<|V x;grind};have N:=ae<|Hr h[a] wr (V ap h[a]<|eP w) C;have Q:ax (oq (amA (a+1) d)=oq (amA a d)++[nL<|UInt8.ofNat d[a]]):=by{rw[ax,oq,iH ac,kq];rfl};have B:(d[a]:Int)%256=(be (UInt8.ofNat d[a]):Int):=by{rfl};have:=ae B;have al:E (oq<|amA a d)=a:=by simp[oq];omega
 clear C n B;generalize h[a]=i,d[a]=aw at *;go_wp2_with (fail);refine(V N).m λH q=>?_;have g:ax (ts H (U e.1) (aL k j l)<|oq<|amA a d):=jG (V o) q;have:=q.4;have M:=ae<|(V D).trans<|bV q ar;go_wp2_with (at_builtin;go_loud (refine Gk _ af (.tmp 13) (.tmp 18) 293 af (U e.1) 297 i0 .nilIface 1 16 adY aN hz0 hz1 hz2 af bL _ (E<|oq<|amA a d) _ af ((V g).alloc _) ⟨U H.1,0,ai⟩ 1 1 [cV 292<|ak ck<|(aw:Int)%256] af af ?bA ?c2 ?c3 ?cD ?fB ?_));case bA =>(
 intro an ay hj;match an,hj with
 | 0,hj=>exact Dn
 | j+1,hj=>grind)
 case c2=>intro ay u;simp at u;subst u;rfl
 case c3=>exact uW
 case cD=>omega
 case fB=>simp;omega
 intro aJ aC ad ab _;obtain⟨az,aB,aA,rfl⟩:=qk ad;have W:ax (ts aC (U e.1) (aL az aB aA)<|oq<|amA (a+1) d):=by{rw[ax,ts,V Q,dE,kq,al];assumption};have R:=ae<|((V M).alloc G _).grown ab cx λau aq=>((V g).lt au aq).1;go_wp2;exact⟨⟨a+1,_,_,_,dH,af,G,V W,V R⟩,ee⟩};{have S:a=E d:=G;subst S;have g:=V o;rw[ld]at g;replace g:=ae g;go_wp2;go_ret;exact⟨⟨_,af,z_ (V g) G⟩,(V L).trans<|(V D).mono K⟩})
def ad1{a:D}{k}(i:d3 b)(r:a.type=1)(o:E a.data<=3000)(t:ER a.data k):bd aK 254 #[ci #[amz<|O a.owner,ak am a.aP,ak am a.type,amz<|O a.data]] b λg l=>(∃v,g=bg v/\ts l (U b.1) v (oq k))/\cB (U b.1) b l:=by have d:cB (U b.1) b (aO b<|aS #[amz<|O a.owner,ak am a.aP,ak am a.type,amz<|O a.data] 47):=(dz _ _).alloc (cW _) _;have:=d.4;have n:=ae<|vO (O a.data) 32 (i.below d) m7;have h:cB (U b.1) b (aO (aO b<|aS #[amz<|O a.owner,ak am a.aP,ak am a.type,amz<|O a.data] 47)<|aS (dl<|(jl 32<|O a.data).map amz) 9):=ct d aA _;have p:=ae<|ad0 (i.below h) o t;rw[r]at *;generalize jl 32 (O a.data)=u at *;have e:=ae h;go_in;go_wp21;refine(V n).m ?_;rintro z rfl;go_wp21;refine(V p).mono ?_;rintro g A ⟨⟨v,rfl,c⟩,q⟩;obtain⟨w,y,x,rfl⟩:=qk c;replace c:=ae c;have j:=(V e).4;go_wp2;go_ret;exact⟨⟨_,af,z_ (V c) j⟩,(V e).trans<|bV q j⟩
def adw(a:D):bm:=ci #[aZ a.owner,J a.aP,J a.type,aZ a.data]
def adx{mb:Nat}{v:List oz}(g:ts b a e v)(n:v≠[])(u:mb<a):∃c i,e=bC c 0 (E v) i/\E v<=i/\ac1 mb b c v:=by have j:=g;obtain⟨_,⟨rfl,o⟩|⟨c,i,r,rfl,t,d,k,_⟩⟩:=g;{exact absurd (iM o) n};{refine⟨c,i,af,k,(ea.1 d).1,G,λq h=>?_,λp l=>?_⟩;{rw[d]at h;simp at h};{have:=nz j p G;rw[this];simp[l]}}
def q_(b:aQ)(c:Nat)(a:D):Prop:=b.1[c]? = ag (aS #[amz<|O a.owner,ak am a.aP,ak am a.type,amz<|O a.data] 47)
def q_.cells{c:D}(d:q_ b a c):aD b (M a 0)=ag (aZ c.owner)/\aD b (M a 1)=ag (J c.aP)/\aD b (M a 2)=ag (J c.type)/\aD b (M a 3)=ag (aZ c.data):=by unfold q_ at d;refine⟨?_,?_,?_,?_⟩<;>simp[aD,d]
def UP(h:ib b a e c):∃v d,e=aL v (E c) d:=by obtain⟨_,⟨rfl,g⟩|⟨k,i,j,rfl,_⟩⟩:=h;{exact⟨ai,0,by rw[g]⟩};{exact⟨_,_,af⟩}
structure t6(s mb:Nat)(size:Int)(cs:List Int)(W:World):Prop where
 b0:cy W s (N mb) 216
 b1:cy W (s+1) (J size) 3
 b2:cy W (s+2) (bY) 56
 b3:im W (s+3) cs 3
 b4:cy W (s+4) (bC (s+3) 0 3 3) 56
def t6.kept{cs}(e:t6 a o i cs b)(d:∀c,a<=c->c<a+5->f.1[c]? = b.1[c]?):t6 a o i cs f :=
 ⟨(d _ G G).trans e.1,(d _ G G).trans e.2,(d _ G G).trans e.3,(d _ G G).trans e.4,(d _ G G).trans e.5⟩
def t6.lt{cs}(b:t6 a o i cs f):a+4<U f.1:=cy.lt b.5
def t6.set{e cs d}(a:t6 o e i cs d)(b c):t6 o e i (cs.set b c) (a_ d ⟨o+3,b,ai⟩<|ak am c) :=
 ⟨(dJ _ _ _ _ aA).trans a.1,(dJ _ _ _ _ aA).trans a.2,(dJ _ _ _ _ aA).trans a.3,a.4.set b c,(dJ _ _ _ _ aA).trans a.5⟩
def ado(c e d a):bd aK 107 #[aL c e d] a λg b=>g=bg (.func (.func 233) #[] #[N<|U a.1,N<|U a.1+1])/\U b.1=U a.1+2/\a7 a b/\cy b (U a.1) (aL c e d) 41/\cy b (U a.1+1) (.func (.func 177) #[] #[]) 261:=by refine(SM).m ?_;rintro b rfl;refine⟨af,aA,(ct cd bv _).alloc aA _,(cy.qf _ _ _).alloc _,?_⟩;have:=cy.qf (aO a<|aS #[aL c e d] 41) (.func (.func 177) #[] #[]) 261;simp_all
def oj(b:List D)(a:Nat):List D:=fA (·.2)<|amA a<|dw dj b
def adp:oj j 0=[]:=rfl
def adr{c}(d:(dw dj j)[a]? = ag c):oj j (a+1)=oj j a++c.2:=by unfold oj;rw[D6 d,rR];simp
def Nf(a b):E (oj a b)<=E a:=by have c:a=oj a b++fA (·.2) (bh b<|dw dj a):=by{rw[oj,<- rR,lP];exact(DX dj _ _ _ bv).symm};grind
def Ng{c}(d:c∈dw dj j){a}(e:a∈c.2):a∈j:=by rw[(tw d).2.2]at e;grind
section
attribute [local go_sem] Oper.semAt_some undef
def jZ(s:Nat)(b:ap):List (ap×Nat):=(ei b).map λa=>(a,s+E b-E a)
def adP(s:Nat)(d:(ei c)[a]? = ag g):amA (a+1) (jZ s c)=amA a (jZ s c)++[(g,s+E c-E g)]:=by
 have:(jZ s c)[a]? = ag (g,s+E c-E g):=by simp[jZ,d]
 have⟨aN,e⟩:=j_.1 this;rw[iH aN,e]
def UK:∀(f:Nat) (a:ap),E a<=f->E (ei a)<=E a
 | 0,a,c=>by obtain rfl:a=[]:=iM G;simp[rg]
 | f+1,a,c=>by by_cases b:a=[];{subst b;simp[rg]};{have d:=zC b;rw[qG b,ey];have:=UK f (jA a) G;omega}
def aeJ{i:List<|ap×Nat}(h:ms b a e i)(aN:∀d,b.1[o]?≠ag (aS d 343 (0,0))):ag o≠bW e:=λv=>by
 obtain⟨_,⟨rfl,_⟩|⟨k,j,d,rfl,_,g,_⟩⟩:=h
 ·simp[bW]at v
 ·simp only[bW,ug]at v;subst v;exact aN d g
def aeK{i:List<|ap×Nat}(h:ms b a e i)(v:bW e=ag o):∃d,b.1[o]? = ag (aS d 343 (0,0)):=by obtain⟨_,⟨rfl,_⟩|⟨k,j,d,rfl,_,g,_⟩⟩:=h;{simp[bW]at v};{simp only[bW,ug]at v;subst v;exact⟨d,g⟩}
def y_(a:aQ)(b:Nat)(e g h i j k:Int)(p n:ap)(l c:Int)(o:Bool)(q d:Int):Prop:=a.1[b]? = ag (aS #[ak am e,ak am g,ak am h,ak am i,ak am j,ak am k,amz<|O p,amz<|O n,ak am l,ak am c,aG o,ak am q,ak am d] 137)
def y_.cells{l d o:Int}{g:Int}{r h:Int}(q:y_ b a i x S l d o c n p g t r h):aD b (M a 6)=ag (aZ c)/\aD b (M a 7)=ag (aZ n):=by unfold y_ at q;constructor<;>simp[aD,q]
def y_.lt{b:Nat}{k l:Int}{n o:Int}{r d:Int}(e:y_ f b p x i S k l c g n o t r d):b<U f.1:=(ea.1 e).1
def aeL(Z B z Q aa ab:Int)(C:ap)(D y:Int)(ad:Bool)(aj Y:Int){w:aQ}(aJ:eJ w a e<|bY)(aM:ib w o e c)(b:d3 w)(bt:o<=U w.1)(b1:0<o)(b3:o<=a)(b4:E n<=900)(b2:E c+E C<=10000):bd aK 135 #[N a,ir Z B z Q aa ab C n D y ad aj Y] w λq aB=>q=bg (bX #[])/\(∃aV k,eJ aB a aV k/\ib aB o aV (c++C)/\ms aB o k (jZ (E c) n))/\cB o w aB:=by
 unfold ir;refine(ez (n:=0)).1 ?_;refine wK func135 af cE ?_;simp only[ntmps135,ox,ey,h8,Nat.reduceAdd,Nat.reduceSub,ov,oQ,oS,oR,jz,g_];have bs:=ae aJ;have bi:=ae aM;have bf:=ae b;have bK:=aJ.lt;have:=b.1;have bL:aK.follows .mixedOrders=aE:=b8;have bS:=ae λal b=>(kX aM al b).2;have:=UK _ n bv;clear aJ aM b;gi_wp2_with fail;refine⟨cE,af,?_⟩;refine(ez.2<|F8 _ _).m ?_;rintro W2 ⟨av,aI,aX⟩;have bw:cy W2 (U w.1) (N a) 216:=((cy.qf _ _ _).alloc _).below aI hV;have bx:y_ W2 (U w.1+1) Z B z Q aa ab C n D y ad aj Y:=by{refine(aI.5 _ aA).trans ?_;have:=du (aO w<|aS #[.pointer<|ag ⟨a,0,ai⟩] 216)<|aS #[ak am Z,ak am B,ak am z,ak am Q,ak am aa,ak am ab,amz<|O C,amz<|O n,ak am D,ak am y,aG ad,ak am aj,ak am Y] 137;simpa using this};have aw:a7 w W2:=((ct cd bv _).alloc aA _).trans<|bV aI hV;simp only[gd]at av aX;have bC:=ae<|bs.kept<|aw.5 a bK;have bz:ax (ib W2 o e c):=jG (V bi) aw;have bk:=ae<|bf.below aw;gi_wp2_with fail;have bJ:∀ah,a7 W2 (aO (aO W2<|dq<|ag [])<|.loop ah):=λah=>(ct cd bv _).alloc aA _;have bH:=bV aw bt;have:E c<=10000:=G;refine JN (xs:=ei n) (encs:=λq:ap=>#[aZ q]) (St:=λL P=>a7 L P) (Kp:=λL P=>U L.1<=U P.1/\P.1[0]? = L.1[0]?) (Kx:=λ_ _=>True) (gf:=241) (lb:=#[N<|U w.1+1+1]) af (enters_of func241 b8 af) (λ_=>af) ?seq [0] cx (λL P h=>h) (λL P h bD=>⟨bD,h _ aA⟩) (λ_ _=>cE) (λR j=>cB o w j/\ib j o e c/\cy j (U w.1) (N a) 216/\y_ j (U w.1+1) Z B z Q aa ab C n D y ad aj Y/\∃k,eJ j a e k/\ms j o k (amA R<|jZ (E c) n)/\∀al,bW k=ag al->al≠U W2.1+1) (λ_ _=>False) (λR L P h bF t=>⟨bN h.1<|t.below G G,pR h.2.1 λal b=>t.5 al (kX h.2.1 al b).2<|cj<|V bS al b,cy.kept h.2.2.1<|t.5 _ (cy.lt h.2.2.1) G,(t.5 _ h.2.2.2.1.lt G).trans h.2.2.2.1,by{have⟨k,az,fz,gg⟩:=h.2.2.2.2;exact⟨k,az.kept<|t.5 a az.lt G,pR fz λal b=>t.5 al (kX fz al b).2<|gg al b,gg⟩}⟩) (λy L P h bF t=>h) ⟨bH,bz,bw,bx,bY,bC,jO _ _ _ _,λal b=>by simp[bW]at b⟩ ?round ?done ?stop;case seq =>(intro ah;have b:=bJ ah;exact F9 ((b.cell (p:=⟨U w.1+1+1,0,ai⟩) J2).trans aX) (bk.below b) G)
 ·(
 intro b6 R J bT j ay ac a3 aY a8;obtain⟨A,F,K,H,W,x,u,an⟩:=ac;have:=JP<|rM ay;have:=(j_.1 ay).1;obtain⟨aq,bO,au,rfl⟩:=qk F;have bQ:bO=E c:=by{obtain⟨_,⟨q,b5⟩|⟨bB,bU,b0,q,_⟩⟩:=F;{cases q;omega};{cases q;rfl}};subst bQ;have⟨c0,bA⟩:=x.cells;have aU:=K.cell;have⟨bu,cn⟩:=H.cells;have:=de J;have:=de n;have:0<a:=G;have br:a7 j (bq j):=cd.drew;have aN:=ae<|acZ J (E c+E n-E J) (bq j) (x.kept af) (jG u br) (by show o<=U j.1;have:=A.4;omega) (by simp[jZ];omega) G;have a1:((E c+E n-E J:Nat):Int)=(E c:Int)+(E n:Int)-(E J:Int):=G;have bR:ax (∀g,(∃k,eJ g a (aL aq (E c) au) k/\ms g o k (amA R (jZ (E c) n)++[(J,E c+E n-E J)])/\(bW k=bW W\/∃al,bW k=ag al/\U (bq j).1<=al)/\cL (λR=>R≠a/\ag R≠bW W) (bq j) g)->ju (U W2.1) j g/\(∀D∈[0],g.1[D]? = j.1[D]?)/\cB o w g/\ib g o (aL aq (E c) au) c/\cy g (U w.1) (N a) 216/\y_ g (U w.1+1) Z B z Q aa ab C n D y ad aj Y/\∃k,eJ g a (aL aq (E c) au) k/\ms g o k (amA (R+1)<|jZ (E c) n)/\∀al,bW k=ag al->al≠U W2.1+1):=by{
 rintro g ⟨k,az,fz,gg,X⟩;have t:∀i,i<U j.1->i≠a->(∀T,j.1[i]?≠ag (aS T 343 (0,0)))->g.1[i]? = j.1[i]?:=λi hj bn bo=>X.5 i hj ⟨bn,aeJ u bo⟩;have a6:∀i,i<o->g.1[i]? = j.1[i]?:=λi hj=>X.5 i (by show i<U j.1;have:=A.4;omega) ⟨G,λq=>by{have:=(kX u i<|bZ q).1;omega}⟩;have a5:U j.1<=U g.1:=X.4;refine⟨⟨a5,t _ G G (λT l=>by rw[aY]at l;cases l),t _ G G (λT l=>by obtain⟨ah,bM⟩:=a8;rw[bM]at l;cases l)⟩,λi hj=>?_,?_,?_,?_,?_,k,az,?_,?_⟩;{
 obtain rfl:i=0:=Do
 exact a6 0 G};{exact bN A ⟨X.1,X.2,X.3,a5,λi hj=>a6 i G⟩};{refine pR F λal b=>?_;have⟨T,bP⟩:=y5 F b;exact t al (kX F al b).2 (λq=>by subst q;rw[x]at bP;simp at bP) (λy l=>by rw[bP]at l;simp at l)};{exact K.kept<|t _ K.lt G (λy l=>by rw[K]at l;simp at l)};{exact(t _ H.lt G (λy l=>by rw[H]at l;simp at l)).trans H};{rw[adP _ ay];exact fz};{intro al b;rcases gg with h|⟨bB,h,bI⟩;{exact an al (by rw[<- h];exact b)};{rw[b]at h;cases h;have:U j.1<=al:=bI;omega}}};rw[a1]at aN;have b7:am.wrap ((E c:Int)+E n)=(E c:Int)+(E n:Int):=by rw[wL];first|omega|(unfold wrap64;omega)
 have b9:am.wrap ((E c:Int)+E n-E J)=(E c:Int)+(E n:Int)-(E J:Int):=by rw[wL];first|omega|(unfold wrap64;omega)
 have aF:=ae<|cv x<|cv u<|cv F<|cv K H;clear x u F K H an A aY a8 ay a1;gi_wp2_with fail;refine⟨cE,?_⟩;gi_wp2_with fail;refine Vj (λj=>aD j (M (U w.1) 0)=ag (N a)/\aD j (M (U w.1+1) 7)=ag (aZ n)/\aD j (M a 0)=ag (aL aq (E c) au)) bL (xj b8) ⟨aU,cn,c0⟩ λr=>?_;refine nV 0 r (λ_ _ _ h=>(kx.qC h aA).elim) ?_;refine nV 1 r (λ_ _ _ h=>(kx.qC h aA).elim) ?_;refine nV 2 r (λ_ _ _ h=>(kx.qC h aA).elim) ?_;refine nV 3 r (λ_ _ _ h=>(kx.qC h aA).elim) ?_;refine nV 4 r (λ_ _ _ h=>(kx.qC h aA).elim) ?_;refine nV 5 r (λ_ _ _ h=>(kx.qC h aA).elim) ?_;refine nV 6 r (λ_ _ _ h=>(kx.qC h aA).elim) ?_;refine nV 7 r (λ_ _ _ h=>(kx.qC h aA).elim) ?_;refine nV 8 r (λ_ _ _ h=>(kx.qC h aA).elim) ?_;refine nV 9 r (λ_ _ _ h=>(kx.qC h aA).elim) ?_;refine nV 10 r (λ_ _ _ h=>(kx.qC h aA).elim) ?_;refine nV 11 r (λ_ _ _ h=>(kx.qC h aA).elim) ?_;refine nV 12 r (λ_ _ _ h=>(kx.qC h aA).elim) ?_;refine nV 13 r (λ_ _ _ h=>(kx.qC h aA).elim) ?_;refine oh (rs:=[14]) b8 aA (lK af (λbj a0=>?_) m_);go_simp;refine aN.m ?_;intro g aP;have ar:=ae<|bR g aP;clear aP;have⟨_,_,_,_,ap6,Dx,aFm,hm4,_⟩:=V ar;refine a0.out _ _ ⟨ap6.cell,Dx.cells.2,hm4.cells.1⟩ λr=>?_;clear a0 bj ap6 Dx hm4;refine uY b8 ?_ _;refine⟨af,?_⟩;gi_wp2_with fail;exact⟨ar.1,ar.2.1,ar.2.2⟩)
 case done =>(
 intro j ac I a3;obtain⟨A,F,K,H,W,x,u,an⟩:=ac;rw[show(ei n).length=E (jZ (E c) n) by simp[jZ],ld]at u;have aU:=K.cell;have bu:=H.cells.1;have bb:=x.lt;have:=A.4;have hnew:=du j<|aS #[cV 224<|amz<|O C] 297;have ba:=ae (Ez o (U j.1) 1 [eI C] c (aO j<|aS #[cV 224<|amz<|O C] 297) ((dT _ _ _ bb).trans x) (F.alloc _) cx (λf a2=>by simp at a2;subst a2;exact lD _) aA G (bE λT h=>FW) (λi hj=>by{
 match i,hj with
 | 0,_=>exact m8
 | i+1,hj=>simp at hj}) aA aA (by simp[ew,eI];omega))
 have aF:=ae<|cv A<|cv x<|cv u I;have bl:U W2.1≠a:=G;have bc:=ae av;clear x u F K H an A I hnew av;gi_wp2_with fail;refine⟨cE,af,?_⟩;refine(ez.2<|V ba).m ?_;rintro g ⟨⟨aH,B,z⟩,Q⟩;have S:=ae<|(mp.adJ<|ct cd bv _).trans Q;have bp:ax (eJ g a aH W/\ib g o aH (c++C)):=⟨B,by simpa [ew,eI]using z⟩;clear B z Q ba;have⟨A,x,u,I⟩:=V aF;have aT:g.1[U W2.1]? = ag (dq<|ag []):=(S.5 _ G bl (bE λy l=>by rw[I]at l;cases l)).trans I;have aR:=ae aT;clear A x u I aT;gi_wp2_with fail;refine⟨aA,bG ⟨_,_,af,mI<|V aR,?_⟩⟩;have av:=V bc;have⟨A,x,u,I⟩:=V aF;have⟨B,z⟩:=V bp;have aC:=eL.put (d:=U W2.1) g (U W2.1) (dq ai);have a4:∀al,bW W=ag al->g.1[al]? = j.1[al]?/\al≠U W2.1:=λal b=>by{have⟨T,bP⟩:=aeK u b;refine⟨S.5 al (kX u al b).2 (λq=>?_)<|bE λy l=>?_,λq=>?_⟩;{rw[q,x]at bP;simp at bP};{rw[bP]at l;simp at l};{rw[q,I]at bP;cases bP}};have a9:ms g o W (jZ (E c) n):=pR u λal b=>(a4 al b).1;have aW:=bN A ⟨S.1,S.2,S.3,S.4,λD t=>S.5 D G G<|bG t⟩;exact⟨bX #[],by simp[dr,results135],af,⟨aH,W,B.kept<|aC.5 a B.lt G,pR z λal b=>aC.5 al (kX z al b).2 (λq=>by{have⟨T,bP⟩:=y5 z b;rw[q,V aR]at bP;cases bP}),pR a9 λal b=>aC.5 al (kX a9 al b).2 (a4 al b).2⟩,bN aW<|aC.below G<|cj aW.4⟩)
 case stop =>(intro y j ac I a3;exact ac.elim)
end
def nI:Nat->ap->List ap->Option (List ap×ap)
 | 0,_,_=>ai
 | _+1,[],_=>ai
 | f+1,a::b,c=>if a=0 then ag (c,b)else if 63<be a\/E b<be a then ai else nI f (bh (be a) b) (c++[amA (be a) b])
def gZ(s:ap):Option (ap×List ap×Nat×Nat×Bool×Nat×Nat) :=
 if cG s 4≠1\/cG s 6≠0\/cG s 8≠0\/1<cG s 10 then ai
 else match nI (E s+1) (bh 12 s) []with
  | none=>ai
  | some (b,a) =>
   if 255<E s-E a-12\/E a<4 then ai
   else if cG s 10=0 then(if E a=4 then ag (amA (E s-E a+4-12)<|bh 12 s,b,cG a 0,cG a 2,ao,0,0)else ai)
   else if E a<15\/a.getD 4 0≠0\/cG a 5≠41\/15+cG a 13≠E a then ai
   else ag (amA (E s-E a+4-12)<|bh 12 s,b,cG a 0,cG a 2,aE,cG a 7,be<|a.getD 10 0)
def A9(s:ap)(a:Nat)(b:List ap)(c:Nat):Option (ap×List ap×Nat×Nat×Bool×Nat×Nat) :=
 if 255<a-12\/E s<a+4 then ai
 else if c=0 then(if E s=a+4 then ag (amA (a+4-12)<|bh 12 s,b,cG s a,cG s<|a+2,ao,0,0)else ai)
 else if E s<a+15\/s.getD (a+4) 0≠0\/cG s (a+5)≠41\/a+15+cG s (a+13)≠E s then ai
 else ag (amA (a+4-12)<|bh 12 s,b,cG s a,cG s<|a+2,aE,cG s<|a+7,be<|s.getD (a+10) 0)
def aiC:cG (bh a c) o=cG c (a+o):=by unfold cG;simp only[jw,KZ,rV]
def aiD{h i d:Nat}(p:cG c 4=o)(q:cG c 6=h)(s:cG c 8=i)(n:cG c 10=d)(w:o=1)(x:h=0)(y:i=0)(u:¬1<d)(g:nI (E c+1) (bh 12 c) []=ag (r,bh a c))(t:a<=E c):gZ c=A9 c a r d:=by unfold gZ A9;rw[bJ G,g];simp only[aiC,js,jw,KZ,jn,n];have j:E c-(E c-a)=a:=G;rw[j];by_cases bA:255<a-12\/E c<a+4;{rw[b7 bA,b7 G]};{rw[bJ bA,bJ G];by_cases b:d=0;{rw[b7 b,b7 b];by_cases e:E c=a+4;{rw[b7 e,b7 G]};{rw[bJ e,bJ G]}};{rw[bJ b,bJ b];by_cases e:E c<a+15;{rw[b7<|bG G,b7<|bG e]};{have k:(15+cG c (a+13)≠E c-a) ↔ (a+15+cG c (a+13)≠E c):=G;have l:(E c-a<15) ↔ (E c<a+15):=G;simp only[k,l]}}}
def iv(j:aQ)(e:Nat)(g:ap)(c:bm)(i b:Int)(d:Bool)(h a:Int):Prop:=j.1[e]? = ag (aS #[amz<|O g,c,ak am i,ak am b,aG d,ak am h,ak am a] 144)
theorem By{P:Prop}(h:P:=by unfold iv at *; simp only[a_,xP,pi,h];rfl):P:=h
section
variable {w:World} {qb:Nat} {qs:ap} {nv:Value} {ty cl:Int} {op:Bool} {sz bD:Int} (h:iv w qb qs nv ty cl op sz bD)
include h
theorem iv.lt:qb<U w.1:=(ea.1 h).1
theorem iv.cells:aD w (M qb 0)=ag (aZ qs)/\aD w (M qb 1)=ag nv/\aD w (M qb 2)=ag (J ty)/\aD w (M qb 3)=ag (J cl)/\aD w (M qb 4)=ag (aG op)/\aD w (M qb 5)=ag (J sz)/\aD w (M qb 6)=ag (J bD):=by unfold iv at h;refine⟨?_,?_,?_,?_,?_,?_,?_⟩<;>simp[aD,h]
theorem iv.frozen(a:Nat):io w (M qb a)=ao:=by unfold iv at h;exact tb
theorem iv.kept{w':aQ}(a:w'.1[qb]? = w.1[qb]?):iv w' qb qs nv ty cl op sz bD:=c_ a h
theorem iv.set0(a:ap):iv (a_ w ⟨qb,0,ai⟩<|amz<|O a) qb a nv ty cl op sz bD:=by exact By
theorem iv.set1(a:bm):iv (a_ w ⟨qb,1,ai⟩ a) qb qs a ty cl op sz bD:=by exact By
theorem iv.set2(a:Int):iv (a_ w ⟨qb,2,ai⟩<|ak am a) qb qs nv a cl op sz bD:=by exact By
theorem iv.lM(a:Int):iv (a_ w ⟨qb,3,ai⟩<|ak am a) qb qs nv ty a op sz bD:=by exact By
theorem iv.o6(a:Bool):iv (a_ w ⟨qb,4,ai⟩<|aG a) qb qs nv ty cl a sz bD:=by exact By
theorem iv.ub(a:Int):iv (a_ w ⟨qb,5,ai⟩<|ak am a) qb qs nv ty cl op a bD:=by exact By
theorem iv.yA(a:Int):iv (a_ w ⟨qb,6,ai⟩<|ak am a) qb qs nv ty cl op sz a:=by exact By
end
def Fw{l:Nat}{v:List bm}(j:b.ownsRow o 9 1 e l v)(h:iv b a c k i p t x S):ag a≠bW e:=λr=>by
 rcases j.2 with⟨rfl,_⟩|⟨n,u,w,rfl,_,q,_⟩
 ·cases r
 ·have:a=n:=by simpa [bW]using r
  subst this;rw[h]at q;simp at q
def aiE(b:aQ)(g:d_):∀(c:Nat) (h:bm),[e][c]? = ag h->aD (aO b<|aS #[e] g) (((M (U b.1) 0):Addr).add c)=ag h:=λc h a=>by
 have d:=du b<|aS #[e] g;generalize aO b (aS #[e] g)=i at d ⊢;generalize U b.1=j at d ⊢
 match c,a with
 | 0,a=>simp at a;subst a;simp[Addr.add,aD,d]
 | k+1,a=>simp at a
structure wT(w W:World)(rb qb:Nat)(nv:Value)(ls:List ap)(qs:ap)(ty cl:Int)(op:Bool)(sz bD:Int):Prop where
 q:iv W qb qs nv ty cl op sz bD
 r:iv W rb [] (bY) 0 0 false 0 0
 o:nE W w.heap.size nv ls
 b:a7 w W
 WD:rb=w.heap.size
 nq:qb=w.heap.size+1
section
variable {w W:World} {rb qb:Nat} {nv:Value} {ls:List ap} {qs:ap} {ty cl:Int} {op:Bool} {sz bD:Int} (h:wT w W rb qb nv ls qs ty cl op sz bD)
include h
theorem wT.below(a:a7 W b):wT w b rb qb nv ls qs ty cl op sz bD :=
 ⟨h.1.kept<|a.5 qb h.1.lt,h.2.kept<|a.5 rb h.2.lt,⟨jG h.3.1 a,h.3.2⟩,bN h.4<|bV a h.4.4,h.5,h.6⟩
theorem wT.rest(k:iv (a_ W ⟨qb,a,ai⟩ e) qb c nv i p t x S):wT w (a_ W ⟨qb,a,ai⟩ e) rb qb nv ls c i p t x S where
 q:=k
 r:=h.2.kept (tJ W (M qb a) rb _ (by have:=h.5;have:=h.6;show rb≠qb;omega))
 o:=⟨El h.3.1 (row:=ag qb) ⟨af,af,af,aA,λu _ n=>tJ W (M qb a) u _ λj=>n<|by rw[j]⟩ (bE λj=>Fw h.3.1 h.1<|bZ j),h.3.2⟩
 b:=fk h.4 (p:=⟨qb,a,ai⟩) (by have:=h.6;show U w.1<=qb;omega) _
 WD:=h.5
 nq:=h.6
theorem wT.WE{W':aQ}(g:a7 W W'):iv (a_ (a_ (a_ (a_ (a_ (a_ (a_ W' ⟨rb,0,ai⟩<|amz<|O qs) ⟨rb,1,ai⟩ nv) ⟨rb,2,ai⟩<|ak am ty) ⟨rb,3,ai⟩<|ak am cl) ⟨rb,4,ai⟩<|aG op) ⟨rb,5,ai⟩<|ak am sz) ⟨rb,6,ai⟩<|ak am bD) rb qs nv ty cl op sz bD/\nE (a_ (a_ (a_ (a_ (a_ (a_ (a_ W' ⟨rb,0,ai⟩<|amz<|O qs) ⟨rb,1,ai⟩ nv) ⟨rb,2,ai⟩<|ak am ty) ⟨rb,3,ai⟩<|ak am cl) ⟨rb,4,ai⟩<|aG op) ⟨rb,5,ai⟩<|ak am sz) ⟨rb,6,ai⟩<|ak am bD) (U w.1) nv ls/\a7 w (a_ (a_ (a_ (a_ (a_ (a_ (a_ W' ⟨rb,0,ai⟩<|amz<|O qs) ⟨rb,1,ai⟩ nv) ⟨rb,2,ai⟩<|ak am ty) ⟨rb,3,ai⟩<|ak am cl) ⟨rb,4,ai⟩<|aG op) ⟨rb,5,ai⟩<|ak am sz) ⟨rb,6,ai⟩<|ak am bD):=by
 have e:=h.below g;have aH:∀ {a:aQ} (b:Nat) (j:bm) {K:ap} {H:bm} {L C:Int} {I:Bool} {c N:Int},iv a rb K H L C I c N->nE a (U w.1) nv ls->a7 w a->nE (a_ a ⟨rb,b,ai⟩ j) (U w.1) nv ls/\a7 w (a_ a ⟨rb,b,ai⟩ j):=λ{a} b j {_ _ _ _ _ _ _} F i g =>
  ⟨⟨El i.1 (row:=ag rb) ⟨af,af,af,aA,λG _ D=>tJ a (M rb b) G _ λd=>D<|by rw[d]⟩ (bE λd=>Fw i.1 F<|bZ d),i.2⟩,fk g (p:=⟨rb,b,ai⟩) (by have:=h.5;show U w.1<=rb;omega) _⟩
 have k:=e.2;have c:=aH 0 (aZ qs) k e.3 e.4;have l:=k.set0 qs;have u:=aH 1 nv l c.1 c.2;have n:=l.set1 nv;have x:=aH 2 (J ty) n u.1 u.2;have o:=n.set2 ty;have y:=aH 3 (J cl) o x.1 x.2;have q:=o.lM cl;have z:=aH 4 (aG op) q y.1 y.2;have r:=q.o6 op;have A:=aH 5 (J sz) r z.1 z.2;have t:=r.ub sz;have B:=aH 6 (J bD) t A.1 A.2;exact⟨t.yA bD,B.1,B.2⟩
end
def aiF(s:ap)(l:Nat)(n:Ending)(u:aQ):Prop:=∃(h:ap) (b:bm) (j e:Int) (g:Bool) (i d:Int) (c:Bool),n=bg (bX #[ci #[aZ h,b,J j,J e,aG g,J i,J d],aG c]) /\
 (∃k p a,b=aL k p a)/\match gZ s with
  | none=>c=ao
  | some (r,o,t,a,q,w,v)=>c=aE/\h=r/\j=(t:Nat)/\e=(a:Nat)/\g=q/\i=(w:Nat)/\d=(v:Nat)/\nE u l b o
def Kc{P:Prop}(h:P:=by first|exact id|exact λ_=>af):P:=h
def H8{P:Prop}(h:P:=by obtain⟨a,b,c,d,e,f,g⟩:=x;rintro⟨k0,k1,k2,k3,k4,k5,k6,k7⟩;exact⟨k0,k1,k2,k3,k4,k5,k6,by rw[k7];exact hF.2.1⟩):P:=h
def Bx{P:Prop}(h:P:=by simp[dr,results76,go_sem,x0,x1,x2,x3,x4,x5,x6]):P:=h
def Kk{P:Prop}(h:P:=by
 have q0:=lg.1.cells;have r0:=lg.2.1.cells;have nZ:=lg.2.1.frozen;go_wp2;have hF:=((((((lg.2.1.set0 []).set1<|bY).set2 0).lM 0).o6 ao).ub 0).yA 0;have hB:=V aW 6 (J 0) _<|aW 5 (J 0) _<|aW 4 (aG ao) _<|aW 3 (J 0) _<|aW 2 (J 0) _<|aW 1 (bY) _<|aW 0 (amz<|O []) _ lg.2.2
 revert hF hB
 generalize a_ _ _ _=xq;intro hF hB;obtain⟨x0,x1,x2,x3,x4,x5,x6⟩:=hF.cells;refine eh (v:=bX #[ci #[amz<|O [],aL ai 0 0,ak am 0,ak am 0,aG ao,ak am 0,ak am 0],aG ao]) (by simp[dr,results76,go_sem,x0,x1,x2,x3,x4,x5,x6]) af ⟨⟨[],_,0,0,ao,0,0,ao,af,⟨_,_,_,af⟩,by rw[hno]⟩,hB⟩):P:=h
def PD{P:Prop}(h:P:=by
 have hF:=((((((dG.2.1.set0 []).set1<|aL xa kG xc).set2 0).lM 0).o6 ao).ub 0).yA 0;have hB:=V aW 6 (J 0) _<|aW 5 (J 0) _<|aW 4 (aG ao) _<|aW 3 (J 0) _<|aW 2 (J 0) _<|aW 1 (aL xa kG xc) _<|aW 0 (amz<|O []) _ dG.2.2
 revert hF hB
 generalize a_ _ _ _=xq;intro hF hB;obtain⟨x0,x1,x2,x3,x4,x5,x6⟩:=hF.cells;refine eh (v:=bX #[ci #[amz<|O [],aL xa kG xc,ak am 0,ak am 0,aG ao,ak am 0,ak am 0],aG ao]) (by simp[dr,results76,go_sem,x0,x1,x2,x3,x4,x5,x6]) af ⟨⟨[],_,0,0,ao,0,0,ao,af,⟨_,_,_,af⟩,by rw[hno]⟩,hB⟩):P:=h
def Kg{P:Prop}(h:P:=by obtain⟨q0,q1,q2,q3,q4,q5,q6⟩:=dG.1.cells;obtain⟨r0,r1,r2,r3,r4,r5,r6⟩:=dG.2.1.cells;have nZ:=dG.2.1.frozen;go_wp2_with fail;exact PD):P:=h
def aiG(s:aQ)(dX:12<=E n)(dW:E n<=2000000):bd aK 76 #[aZ n] s λe w'=>aiF n (U s.1) e w'/\a7 s w':=by
 have⟨dw,dB,ds,dt,dv⟩:=jN zF;have an:=ae fun(i:Nat) (z:aQ) (h:i+1<E n)=>Tx z h G;have:=de n;have⟨oU,KX⟩:=bi (aS #[amz ⟨#[]⟩,aL ai 0 0,ak am 0,ak am 0,aG ao,ak am 0,ak am 0] 144:Obj)
 have cD:ax (iv (aO (aO s oU) oU) (U s.1+1) [] (bY) 0 0 ao 0 0/\iv (aO (aO s oU) oU) (U s.1) [] (bY) 0 0 ao 0 0/\a7 s (aO (aO s oU) oU)):=by
  have L:=du (aO s oU) oU;rw[gd]at L;refine⟨by rw[KX]at L ⊢; exact L,?_,(ct cd bv _).alloc aA _⟩;have bs:=(dT (aO s oU) oU (U s.1) aA).trans<|du s oU;rw[KX]at bs ⊢; exact bs
 go_in;go_wp2_with fail;rw[<- KX];obtain⟨u,a1⟩:=bi<|U s.1;obtain⟨l,aj⟩:=bi<|U s.1+1;have Y:ax (iv (aO (aO s oU) oU) l [] (bY) 0 0 ao 0 0/\iv (aO (aO s oU) oU) u [] (bY) 0 0 ao 0 0/\a7 s (aO (aO s oU) oU)):=by rw[a1,aj];exact cD
 rw[<- aj,<- a1];clear cD;have aW:ax (∀(i:Nat) (v:bm) (z:aQ),a7 s z->a7 s (a_ z ⟨u,i,ai⟩ v)):=λi v z h=>fk h (p:=⟨u,i,ai⟩) (by show U s.1<=u;omega) v;have aq:=ae<|cv a1 aj;generalize aO (aO s oU) oU=dF at *;clear a1 aj KX;refine(an 4 dF G).mono ?_;rintro e a3 ⟨rfl,t⟩;have lg:ax (iv a3 l [] (bY) 0 0 ao 0 0/\iv a3 u [] (bY) 0 0 ao 0 0/\a7 s a3):=⟨Y.1.kept<|t.5 l Y.1.lt,Y.2.1.kept<|t.5 u Y.2.1.lt,bN Y.2.2<|bV t Y.2.2.4⟩
 clear t Y;have⟨bH,DD⟩:=bi<|cG n 4
 rw[<- DD];by_cases dc:bH=1
 case neg =>
  have aY:((bH:Int) != 1)=aE:=cx;have hno:gZ n=ai:=by unfold gZ;rw[b7<|bG (by rw[<- DD];omega)]
  clear DD;exact Kk
 have:((bH:Int) != 1)=ao:=cx;have bF:=ae<|cv (bZ DD) dc;clear DD;go_wp2_with fail;refine(an 6 a3 G).mono ?_;rintro e a4 ⟨rfl,t⟩;replace lg:ax (iv a4 l [] (bY) 0 0 ao 0 0/\iv a4 u [] (bY) 0 0 ao 0 0/\a7 s a4):=⟨lg.1.kept<|t.5 l lg.1.lt,lg.2.1.kept<|t.5 u lg.2.1.lt,bN lg.2.2<|bV t lg.2.2.4⟩
 clear t;have⟨bI,Kl⟩:=bi<|cG n 6
 rw[<- Kl];by_cases dd:bI=0
 case neg =>
  have aY:((bI:Int) != 0)=aE:=cx;have hno:gZ n=ai:=by unfold gZ;rw[b7<|bE<|bG (by rw[<- Kl];omega)]
  clear Kl;exact Kk
 have:((bI:Int) != 0)=ao:=cx;have bc:=ae<|cv (bZ Kl) dd;clear Kl;go_wp2_with fail;refine(an 8 a4 G).mono ?_;rintro e B ⟨rfl,t⟩;replace lg:ax (iv B l [] (bY) 0 0 ao 0 0/\iv B u [] (bY) 0 0 ao 0 0/\a7 s B):=⟨lg.1.kept<|t.5 l lg.1.lt,lg.2.1.kept<|t.5 u lg.2.1.lt,bN lg.2.2<|bV t lg.2.2.4⟩
 clear t;have⟨bK,oN⟩:=bi<|cG n 8
 rw[<- oN];by_cases dg:bK=0
 case neg =>
  have aY:((bK:Int) != 0)=aE:=cx;have hno:gZ n=ai:=by unfold gZ;rw[b7<|bE<|bE<|bG (by rw[<- oN];omega)]
  clear oN;exact Kk
 have:((bK:Int) != 0)=ao:=cx;have ba:=ae<|cv (bZ oN) dg;clear oN;go_wp2_with fail;refine(an 10 B G).mono ?_;rintro e a5 ⟨rfl,t⟩;replace lg:ax (iv a5 l [] (bY) 0 0 ao 0 0/\iv a5 u [] (bY) 0 0 ao 0 0/\a7 s a5):=⟨lg.1.kept<|t.5 l lg.1.lt,lg.2.1.kept<|t.5 u lg.2.1.lt,bN lg.2.2<|bV t lg.2.2.4⟩
 clear t;have⟨ah,WG⟩:=bi<|cG n 10
 rw[<- WG];by_cases da:¬1<ah
 case neg =>
  have aY:dQ ((1:Int)<(ah:Int))=aE:=cx;have hno:gZ n=ai:=by unfold gZ;rw[b7<|bE<|bE<|bE (by rw[<- WG];omega)]
  clear WG;have q0:=lg.1.cells;have r0:=lg.2.1.cells;have nZ:=lg.2.1.frozen;go_wp2;have hF:=((((((lg.2.1.set0 []).set1<|bY).set2 0).lM 0).o6 ao).ub 0).yA 0;have hB:=V aW 6 (J 0) _<|aW 5 (J 0) _<|aW 4 (aG ao) _<|aW 3 (J 0) _<|aW 2 (J 0) _<|aW 1 (bY) _<|aW 0 (amz<|O []) _ lg.2.2
  revert hF hB
  generalize a_ _ _ _=xq;intro hF hB;have⟨x0,x1,x2,x3,x4,x5,x6⟩:=hF.cells;refine eh (v:=bX #[ci #[amz<|O [],aL ai 0 0,ak am 0,ak am 0,aG ao,ak am 0,ak am 0],aG ao]) Bx af ⟨⟨[],_,0,0,ao,0,0,ao,af,⟨_,_,_,af⟩,by rw[hno]⟩,hB⟩
 have:dQ ((1:Int)<(ah:Int))=ao:=cx;have aR:=ae<|cv (bZ WG) da;clear WG;go_wp2_with fail;have b4:∀(x:Option<|List ap×ap),nI (E n+1) (bh 12 n) []=x->x=ai->gZ n=ai:=λx dp I=>by
  unfold gZ;rw[bJ (by rw[bF.1,bc.1,ba.1,aR.1];omega),dp,I]
 have⟨RA,ajt⟩:=dK<|nI (E n+1) (bh 12 n) []
 have aT:=ae<|b4 RA ajt;have bk:=ae ajt;clear b4 ajt;go_wp2
 go_loopw [5,6] (λbB dY wr=>∃(i f:Nat) (o:List ap) (a8:bm),bB=J i/\12<=i/\i<=E n/\E n<f+i/\ax (nI f (bh i n) o=RA)/\E o<=i/\ax (nE wr (U s.1) a8 o)/\ax (iv wr l [] a8 0 0 ao 0 0/\iv wr u [] (bY) 0 0 ao 0 0/\a7 s wr)) λbB _ _=>E n-(intOf bB).toNat
 ·exact⟨12,E n+1,[],bY,af,G,G,G,bk,aA,⟨jO _ _ _ _,aA⟩,lg⟩
 ·obtain⟨i,f,o,a8,rfl,cE,cI,cp,ab,bS,Q,dG⟩:=hrel;obtain⟨xa,kG,xc,c1⟩:∃a k c,a8=aL a k c:=by
   rcases Q.1.2 with⟨h,_⟩|⟨g,c5,c6,h,_⟩
   ·exact⟨_,_,_,h⟩
   ·exact⟨_,_,_,h⟩
  subst c1;by_cases cr:i<E n
  case neg =>
   have dC:i=E n:=G;have aY:dQ ((i:Int) ≥ (E n:Int))=aE:=cx;have hno:gZ n=ai:=by
    refine V aT ?_;have:=V ab;rw[dC,w_]at this;rw[<- this];cases f<;>rfl
   clear cp ab bS;have q0:=dG.1.cells;have r0:=dG.2.1.cells;have nZ:=dG.2.1.frozen;go_wp2;exact PD
  have⟨c,hc⟩:=bi<|n[i]
  have bp:∀h:i<cf (O n),(O n)[i]=c:=λh=>bZ hc;have ay:bh i n=c::bh (i+1) n:=by rw[hc];exact lA cr
  obtain⟨f,rfl⟩:∃c7,f=c7+1:=⟨f-1,G⟩
  have C:ax ((if c=0 then ag (o,bh (i+1) n)else if 63<be c\/E (bh (i+1) n)<be c then ai else nI f (bh (be c)<|bh (i+1) n) (o++[amA (be c)<|bh (i+1) n]))=RA):=by
   have:=V ab;rw[ay]at this;exact this
  rw[js,pk]at C;have⟨k,I⟩:=bi<|be c;have a9:(be c:Int)=k:=by rw[I]
  have dZ:k<256:=by rw[I];exact gY c
  have N:c=0 ↔ k=0:=by rw[I];exact⟨λh=>xO,λh=>by apply vG;exact h⟩
  rw[<- I]at C;have dx:(i:Int)<(E n:Int):=G;have dH:am.wrap (k:Int)=(k:Int):=fT
  have aM:am.wrap ((i:Int)+1)=((i+1:Nat):Int):=fT
  have⟨j,al⟩:=bi<|i+1;rw[<- al]at C aM;have bD:=ae<|cv al N;have c3:=ae<|cv hc I;by_cases br:k=0
  case neg =>
   rw[bJ λh=>br<|N.1 h]at C;by_cases df:63<k
   ·have hno:=V aT (by have:=V C;rw[b7<|bG df]at this;exact bZ this);clear hc ay I ab C;have q0:=dG.1.cells;have r0:=dG.2.1.cells;have nZ:=dG.2.1.frozen;go_wp2;have hF:=((((((dG.2.1.set0 []).set1<|aL xa kG xc).set2 0).lM 0).o6 ao).ub 0).yA 0;have hB:=V aW 6 (J 0) _<|aW 5 (J 0) _<|aW 4 (aG ao) _<|aW 3 (J 0) _<|aW 2 (J 0) _<|aW 1 (aL xa kG xc) _<|aW 0 (amz<|O []) _ dG.2.2
    revert hF hB
    generalize a_ _ _ _=xq;intro hF hB;have⟨x0,x1,x2,x3,x4,x5,x6⟩:=hF.cells;refine eh (v:=bX #[ci #[amz<|O [],aL xa kG xc,ak am 0,ak am 0,aG ao,ak am 0,ak am 0],aG ao]) Bx af ⟨⟨[],_,0,0,ao,0,0,ao,af,⟨_,_,_,af⟩,by rw[hno]⟩,hB⟩
   have cs:am.wrap ((j:Int)+k)=((j+k:Nat):Int):=fT
   by_cases cF:E n<j+k
   case pos =>
    have hno:gZ n=ai:=V aT (by have:=V C;rw[b7<|bE G]at this;exact bZ this);have cP:dQ ((E n:Int)<((j+k:Nat):Int))=aE:=cx;clear hc ay I ab C;exact Kg
   have bT:ax (nI f (bh (j+k) n) (o++[amA k<|bh j n])=RA):=by have:=V C;rw[bJ G]at this;exact this
   have aC:(O n).extract j (j+k)=O (amA k<|bh j n):=by have:=B8 n j<|j+k;rw[GT]at this;exact this
   have cH:kG=E o:=by
    rcases Q.1.2 with⟨h,br⟩|⟨g,c5,c6,h,_⟩
    ·have:=(np h).2.1;omega
    ·exact(np h).2.1
   subst cH;have b5:=Fw Q.1 dG.1;have b2:=Fw Q.1 dG.2.1;obtain⟨q0,q1,q2,q3,q4,q5,q6⟩:=dG.1.cells;have cJ:=dG.1.lt;have dn:=dG.2.1.lt;have F:=dG.1.frozen;have c4:=dG.2.2.4;obtain⟨aB,aU⟩:=bi<|j+k;rw[<- aU]at aC cs bT;have ca:(j:Int)<=(aB:Int):=G;have cb:(aB:Int)<=(E n:Int):=G;have cc:j<=aB:=G;have ce:aB<=E n:=G;have cP:dQ ((E n:Int)<(i:Int)+1+(k:Int))=ao:=by have:=bD.1;simp;omega
   have:dQ ((63:Int)<(k:Int))=ao:=cx;have bM:=bD.1;have dN:(O n).extract (i+1) (i+1+k)=O (amA k<|bh j n):=by rw[<- bM,<- aU];exact aC
   have cg:(i:Int)+1+(k:Int)<=(E n:Int):=G;have ch:i+1+k<=E n:=G;have:¬(63:Int)<(k:Int):=G;have dO:am.wrap ((i:Int)+1+(k:Int))=(i:Int)+1+(k:Int):=fT
   have:((i:Int)+1+(k:Int)).toNat=i+1+k:=G;have:(0:Int)<=(i:Int)+1+(k:Int):=G;have:(0:Int)<=(i:Int)+1:=G;have:(i:Int)+1<=(i:Int)+1+(k:Int):=G;have cR:=ae aU;have cS:=ae bM;clear hc ay I ab C aU q0 q2 q3 q4 q5 q6 N cF bM al aC cs aM;go_wp2_with fail
   go_region_law (first|(refine step_append_lies _ rfl (.tmp 52) (.tmp 59) 113 rfl s.heap.size 9 dw _ 1 16 CS dB ds dt dv rfl bL _ o.length (o.map λdy=>aZ dy) af (jG Q.1 (ct cd bv _).drew) _ 1 1 [aZ<|amA k<|bh j n] af af (λj cy al=>aiE wr _ j cy al) (λcy hu=>Bw) bL m9 G cx (U wr.1+1) aA ?_;intro g S B aX bz di dk;have ar:=dG.1.kept<|(bz.5 l cx b5).trans<|dT _ _ _ cJ;have c8:=ar.frozen;have JO:=ar.cells.2.1))
   all_goals
    have ac:World.grownBy _ B (bW<|aL xa (E o) xc):=bz;have b3:=Fw aX ar;have b6:=kX Q.1;have cT:=(kX aX g af).1;have bt:=(ct dG.2.2 c4<|aS #[amz<|O<|amA k<|bh j n] 9).drew;have aj:U s.1<=l:=by have:=aq.2;omega
    have cK:ax (nE (a_ B ⟨l,1,ai⟩<|aL (ag ⟨g,0,ai⟩) (E o+1) S) (U s.1) (bC g 0 (E o+1) S)<|o++[amA k<|bh j n]):=by
     refine⟨?_,⟨λh=>(by cases h),λh=>BA⟩⟩;have:=El aX (w':=a_ B ⟨l,1,ai⟩<|aL (ag ⟨g,0,ai⟩) (E o+1) S) (row:=ag l) ⟨af,af,af,aA,λP _ aV=>tJ B (M l 1) P _ λe=>aV<|by rw[e]⟩ (bE λe=>b3<|bZ e);rw[dE,kq];exact this
    have dL:ax (iv (a_ B ⟨l,1,ai⟩<|aL (ag ⟨g,0,ai⟩) (E o+1) S) l [] (bC g 0 (E o+1) S) 0 0 ao 0 0/\iv (a_ B ⟨l,1,ai⟩<|aL (ag ⟨g,0,ai⟩) (E o+1) S) u [] (bY) 0 0 ao 0 0/\a7 s (a_ B ⟨l,1,ai⟩<|aL (ag ⟨g,0,ai⟩) (E o+1) S)):=by
     refine⟨ar.set1 _,dG.2.1.kept ?_,?_⟩
     ·refine(tJ B (M l 1) u _ ?_).trans<|(ac.5 u cx b2).trans<|dT _ _ _ dn;have:=V aq;show u≠l;omega
     ·exact(bN bt ⟨ac.1,ac.2,ac.3,ac.4,λP aV=>ac.5 P (by have:=bt.4;omega) (λe=>by have:=(b6 P<|bZ e).1;omega)⟩).setCell (p:=⟨l,1,ai⟩) aj _
    have:=V cR;have:=V cS;clear aX bz ac di dk ar c8 JO b3 b6 cT bt aj b5 b2 dG Q;generalize a_ B ⟨l,1,ai⟩ (aL (ag ⟨g,0,ai⟩) (E o+1) S)=a5 at *;go_wp2;exact⟨⟨aB,f,o++[amA k<|bh j n],bC g 0 (E o+1) S,fE (ak am) G,G,G,G,bT,by rw[dE];simp;omega,cK,dL⟩,ee⟩
  subst br;rw[b7<|N.2 af]at C;have au:ax (gZ n=A9 n j o ah):=aiD bF.1 bc.1 ba.1 aR.1 bF.2 bc.2 ba.2 (by have:=aR.2;omega) (by rw[V bk];exact bZ C) G;have Z:ax (∀(P:Nat) (bf:Int) (z:aQ),bf=(P:Int)->P+1<E n->bd aK 141 #[aZ n,J bf] z (cQ (J<|cG n P) z)):=λP bf z dh aV=>by rw[dh];exact an P z aV
  clear hc ay I ab N c3 aT bk C cp;by_cases cu:255<j-12
  case pos =>
   have hno:gZ n=ai:=by rw[V au];unfold A9;rw[b7<|bG cu]
   have aw:(255:Int)<(i:Int)+1-12:=G;clear aM;exact Kg
  by_cases bQ:E n<j+4
  case pos =>
   have hno:gZ n=ai:=by rw[V au];unfold A9;rw[b7<|bE bQ]
   have aw:¬(255:Int)<(i:Int)+1-12:=G;have cl:(E n:Int)<(i:Int)+1+4:=G;clear aM;exact Kg
  have aw:¬(255:Int)<(i:Int)+1-12:=G;have cl:¬(E n:Int)<(i:Int)+1+4:=G;clear aM;go_wp2_with fail;refine(Z j _ wr G G).mono ?_;rintro e dI ⟨rfl,co⟩;rw[show((i:Int)+1)=(j:Int) by omega];have cU:13<=j:=G;have aa:=ae<|wT.below ⟨dG.1,dG.2.1,Q,dG.2.2,aq.1,aq.2⟩ co;obtain⟨w,bn⟩:=bi<|cG n j;rw[<- bn];have bP:=ae bn;clear co dG Q bn aw cl a9 dH dx bp cr cE cI an aW al bD;obtain⟨q0,q1,q2,q3,q4,q5,q6⟩:=aa.1.cells;obtain⟨r0,r1,r2,r3,r4,r5,r6⟩:=aa.2.cells;have F:=aa.1.frozen;have nZ:=aa.2.frozen;have cW:am.wrap ((j:Int)+2)=(j:Int)+2:=fT
  go_wp2_with fail;have b1:=ae<|aa.rest<|aa.1.set2 w;clear q0 q1 q2 q3 q4 q5 q6 F aa;generalize a_ dI ⟨l,2,ai⟩ (ak am w)=bO at *;refine(Z (j+2) _ bO G G).mono ?_;rintro e cC ⟨rfl,cm⟩;obtain⟨r,bw⟩:=bi<|cG n<|j+2;rw[<- bw];have bb:=ae bw;have W:=ae<|b1.below cm;clear cm b1 bw;obtain⟨m,az⟩:=bi<|j+4;obtain⟨q,bu⟩:=bi<|amA (j+4-12)<|bh 12 n;have aC:(O n).extract 12 (j+4)=O q:=by rw[bu];exact B8 n 12<|j+4
  have bj:=ae bu;clear bu;have cX:am.wrap ((j:Int)+4)=(j:Int)+4:=fT
  have ca:(12:Int)<=(j:Int)+4:=G;have cb:(j:Int)+4<=(E n:Int):=G;have cc:((j:Int)+4).toNat=j+4:=G;have ce:(0:Int)<=(j:Int)+4:=G;have cg:12<=j+4:=G;have ch:j+4<=E n:=G;obtain⟨q0,q1,q2,q3,q4,q5,q6⟩:=W.1.cells;obtain⟨r0,r1,r2,r3,r4,r5,r6⟩:=W.2.cells;have F:=W.1.frozen;have nZ:=W.2.frozen;have bR:ax (wT s (a_ (a_ cC ⟨l,3,ai⟩<|ak am r) ⟨l,0,ai⟩<|amz<|O q) u l (aL xa kG xc) o q w r ao 0 0):=by
   have L:=W.rest<|W.1.lM r;exact L.rest<|L.1.set0 q
  have bl:=(W.rest<|W.1.lM (r:Int)).1.frozen 0;go_wp2_with fail;clear q0 q1 q2 q3 q4 q5 q6 F bl W ca cb cc ce cg aC cX cW;generalize a_ (a_ cC ⟨l,3,ai⟩<|ak am r) ⟨l,0,ai⟩ (amz<|O q)=dJ at *;refine(Z 10 _ dJ af G).mono ?_;rintro e a6 ⟨rfl,cw⟩;rw[aR.1,show((j:Int)+4)=(m:Int) by omega];have:17<=m:=G;have:m<=E n:=G;have cj:=ae az;clear az;have y:=ae<|bR.below cw;clear cw bR;by_cases bo:ah=0
  case pos =>
   have dm:((ah:Int)==0)=aE:=cx;have⟨okb,WI⟩:=dK<|(m:Int)==(E n:Int)
   have A:match gZ n with
    | none=>okb=ao
    | some (aI,aF,aJ,c,aH,aN,v)=>okb=aE/\q=aI/\(w:Int)=(aJ:Nat)/\(r:Int)=(c:Nat)/\ao=aH/\(0:Int)=(aN:Nat)/\(0:Int)=(v:Nat)/\aF=o:=by
    have az:=V cj;rw[V au,A9,bJ G,b7 bo];by_cases cq:E n=j+4
    ·rw[b7 cq,<- WI];exact⟨cx,bj,by rw[V bP],by rw[V bb],af,af,af,af⟩
    ·rw[bJ cq,<- WI];show((m:Int)==(E n:Int))=ao;simp;omega
   have T:=ae A;clear A;obtain⟨q0,q1,q2,q3,q4,q5,q6⟩:=y.1.cells;obtain⟨r0,r1,r2,r3,r4,r5,r6⟩:=y.2.cells;have F:=y.1.frozen;have nZ:=y.2.frozen;go_wp2_with fail;have hF:=y.WE (W':=a6) cd
   revert hF
   generalize a_ _ _ _=xq;intro hF;obtain⟨x0,x1,x2,x3,x4,x5,x6⟩:=hF.1.cells;refine eh (v:=bX #[ci #[amz<|O q,aL xa kG xc,ak am w,ak am r,aG ao,ak am 0,ak am 0],aG okb]) Bx af ⟨⟨q,_,w,r,ao,0,0,okb,af,⟨_,_,_,af⟩,?_⟩,hF.2.2⟩;have A:=V T
   revert A
   cases gZ n with
   | none=>first|exact id|exact λ_=>rfl
   | some x =>
    exact H8
  have dm:((ah:Int)==0)=ao:=cx;have K:ax (gZ n=if E n<m+11\/n.getD m 0≠0\/cG n (m+1)≠41\/m+11+cG n (m+9)≠E n then ai else ag (q,o,w,r,aE,cG n<|m+3,be<|n.getD (m+6) 0)):=by
   have az:=V cj;rw[ax,V au,A9,bJ G,bJ bo,V bj,V bP,V bb,az]
  have a2:ax (gZ n=ai->match gZ n with
    | none=>ao=ao
    | some (aI,aF,aJ,c,aH,aN,v)=>ao=aE/\q=aI/\(w:Int)=(aJ:Nat)/\(r:Int)=(c:Nat)/\ao=aH/\(0:Int)=(aN:Nat)/\(0:Int)=(v:Nat)/\aF=o):=λh=>by rw[h]
  clear au bj bP bb cu bQ cU ch bo bS;by_cases db:E n<m+11
  case pos =>
   have T:=ae (a2<|by rw[V K,b7<|bG db]);have aw:(E n:Int)<(m:Int)+11:=G;obtain⟨q0,q1,q2,q3,q4,q5,q6⟩:=y.1.cells;obtain⟨r0,r1,r2,r3,r4,r5,r6⟩:=y.2.cells;have F:=y.1.frozen;have nZ:=y.2.frozen;go_wp2_with fail;have hF:=y.WE (W':=a6) cd
   revert hF
   generalize a_ _ _ _=xq;intro hF;obtain⟨x0,x1,x2,x3,x4,x5,x6⟩:=hF.1.cells;refine eh (v:=bX #[ci #[amz<|O q,aL xa kG xc,ak am w,ak am r,aG ao,ak am 0,ak am 0],aG ao]) Bx af ⟨⟨q,_,w,r,ao,0,0,ao,af,⟨_,_,_,af⟩,?_⟩,hF.2.2⟩;have A:=V T
   revert A
   cases gZ n with
   | none=>exact Kc
   | some x =>
    exact H8
  have aw:¬(E n:Int)<(m:Int)+11:=G;have dA:m<E n:=G;have⟨bA,hc1⟩:=bi<|n[m]
  have bp:∀h:m<cf (O n),(O n)[m]=bA:=λh=>bZ hc1;have bx:n.getD m 0=bA:=by rw[hc1,jw,gw dA];rfl
  have:(m:Int)<(E n:Int):=G;rw[bx]at K;by_cases N:bA=0
  case neg =>
   have T:=ae (a2<|by rw[V K,b7<|bE<|bG N]);have a9:((be bA:Int) != 0)=aE:=by
    have:be bA≠0:=λh=>N<|vG h;simp;omega
   clear hc1 bx;obtain⟨q0,q1,q2,q3,q4,q5,q6⟩:=y.1.cells;obtain⟨r0,r1,r2,r3,r4,r5,r6⟩:=y.2.cells;have F:=y.1.frozen;have nZ:=y.2.frozen;go_wp2_with fail;have hF:=y.WE (W':=a6) cd
   revert hF
   generalize a_ _ _ _=xq;intro hF;obtain⟨x0,x1,x2,x3,x4,x5,x6⟩:=hF.1.cells;refine eh (v:=bX #[ci #[amz<|O q,aL xa kG xc,ak am w,ak am r,aG ao,ak am 0,ak am 0],aG ao]) Bx af ⟨⟨q,_,w,r,ao,0,0,ao,af,⟨_,_,_,af⟩,?_⟩,hF.2.2⟩;have A:=V T
   revert A
   cases gZ n with
   | none=>exact Kc
   | some x =>
    exact H8
  have a9:((be bA:Int) != 0)=ao:=by rw[N];rfl
  clear hc1 bx;go_wp2_with fail;refine(Z (m+1) _ a6 G G).mono ?_;rintro e cz ⟨rfl,bU⟩;have D:=ae<|y.below bU;have⟨k1,eK⟩:=bi<|cG n<|m+1
  rw[<- eK]at K ⊢;clear bU y eK bp a9;by_cases b8:k1=41
  case neg =>
   have T:=ae (a2<|by rw[V K,b7<|bE<|bE<|bG b8]);have dj:((k1:Int) != 41)=aE:=cx;obtain⟨q0,q1,q2,q3,q4,q5,q6⟩:=D.1.cells;obtain⟨r0,r1,r2,r3,r4,r5,r6⟩:=D.2.cells;have F:=D.1.frozen;have nZ:=D.2.frozen;go_wp2_with fail;have hF:=D.WE (W':=cz) cd
   revert hF
   generalize a_ _ _ _=xq;intro hF;obtain⟨x0,x1,x2,x3,x4,x5,x6⟩:=hF.1.cells;refine eh (v:=bX #[ci #[amz<|O q,aL xa kG xc,ak am w,ak am r,aG ao,ak am 0,ak am 0],aG ao]) Bx af ⟨⟨q,_,w,r,ao,0,0,ao,af,⟨_,_,_,af⟩,?_⟩,hF.2.2⟩;have A:=V T
   revert A
   cases gZ n with
   | none=>exact Kc
   | some x =>
    exact H8
  have dj:((k1:Int) != 41)=ao:=cx;obtain⟨q0,q1,q2,q3,q4,q5,q6⟩:=D.1.cells;obtain⟨r0,r1,r2,r3,r4,r5,r6⟩:=D.2.cells;have F:=D.1.frozen;have nZ:=D.2.frozen;go_wp2_with fail;have b9:=ae<|D.rest<|D.1.o6 aE;clear q0 q1 q2 q3 q4 q5 q6 F r0 r1 r2 r3 r4 r5 r6 nZ D;generalize a_ cz ⟨l,4,ai⟩ (aG aE)=cL at *;refine(Z (m+3) _ cL G G).mono ?_;rintro e cA ⟨rfl,cn⟩;have R:=ae<|b9.below cn;have⟨X,hsz⟩:=bi<|cG n<|m+3
  rw[<- hsz]at K ⊢;clear cn b9 hsz;have cY:m+6<E n:=G;have⟨gE,CQ⟩:=bi<|n[m+6]
  have c9:∀h:m+6<cf (O n),(O n)[m+6]=gE:=λh=>bZ CQ;have b0:n.getD (m+6) 0=gE:=by rw[CQ,jw,gw cY];rfl
  rw[b0]at K;obtain⟨H,aP⟩:=bi<|be gE;have dP:H<256:=by rw[aP];exact gY gE
  have cZ:(be gE:Int)=(H:Int):=by rw[aP]
  rw[<- aP]at K;have c2:am.wrap (H:Int)=(H:Int):=fT
  have dD:((m:Int)+6).toNat=m+6:=G;have dz:(m:Int)+6<(E n:Int):=G;have c0:(0:Int)<=(m:Int)+6:=G;have bO:am.wrap ((m:Int)+6)=(m:Int)+6:=fT
  clear CQ b0 aP;obtain⟨q0,q1,q2,q3,q4,q5,q6⟩:=R.1.cells;obtain⟨r0,r1,r2,r3,r4,r5,r6⟩:=R.2.cells;have F:=R.1.frozen;have nZ:=R.2.frozen;have cM:ax (wT s (a_ (a_ cA ⟨l,5,ai⟩<|ak am X) ⟨l,6,ai⟩<|ak am H) u l (aL xa kG xc) o q w r aE X H):=by
   have L:=R.rest<|R.1.ub X;exact L.rest<|L.1.yA H
  have bl:=(R.rest<|R.1.ub (X:Int)).1.frozen 6;go_wp2_with fail;clear q0 q1 q2 q3 q4 q5 q6 F bl r0 r1 r2 r3 r4 r5 r6 nZ R c9 dD dz c0 bO c2 cZ;generalize a_ (a_ cA ⟨l,5,ai⟩<|ak am X) ⟨l,6,ai⟩ (ak am H)=dM at *;have⟨ad,ab4⟩:=bi<|cG n<|m+9
  have dR:ad<131072:=by
   have L:=gY<|n.getD (m+9) 0;have bs:=gY<|n.getD (m+9+1) 0;rw[ab4];unfold cG;omega
  have cN:ax (∀z,bd aK 141 #[aZ n,J<|(m:Int)+9] z<|cQ (J ad) z):=λz=>by rw[ab4];exact Z (m+9) _ z G G
  have⟨okb,WI⟩:=dK<|(m:Int)+11+(ad:Int)==(E n:Int)
  have A:match gZ n with
   | none=>okb=ao
   | some (aI,aF,aJ,c,aH,aN,v)=>okb=aE/\q=aI/\(w:Int)=(aJ:Nat)/\(r:Int)=(c:Nat)/\aE=aH/\(X:Int)=(aN:Nat)/\(H:Int)=(v:Nat)/\aF=o:=by
   rw[V K,<- ab4];by_cases b_:m+11+ad=E n
   ·rw[bJ (by rintro(h|h|h|h);omega;exact h N;exact h b8;exact h b_),<- WI];exact⟨cx,af,af,af,af,af,af,af⟩
   ·rw[b7<|bE<|bE<|bE b_,<- WI];show((m:Int)+11+(ad:Int)==(E n:Int))=ao;simp;omega
  have T:=ae A;have dS:am.wrap ((m:Int)+9)=(m:Int)+9:=fT
  have dU:am.wrap ((m:Int)+11)=(m:Int)+11:=fT
  have dV:am.wrap ((m:Int)+11+(ad:Int))=(m:Int)+11+(ad:Int):=fT
  have av:=ae<|cM.below cd.drew;obtain⟨q0,q1,q2,q3,q4,q5,q6⟩:=av.1.cells;clear A ab4 K a2 Z aq;go_region_with (go_at_call 141;refine(cN _).mono ?_;rintro e cO ⟨rfl,a0⟩;obtain⟨d0,d1,fz,gg,d2,d3,d4⟩:=(av.below a0).1.cells;obtain⟨r0,r1,r2,r3,r4,r5,r6⟩:=(av.below a0).2.cells;have nZ:=(av.below a0).2.frozen)
  all_goals
   go_wp2_with fail;have hF:=av.WE (W':=cO) (a0)
   revert hF
   generalize a_ _ _ _=xq;intro hF;obtain⟨x0,x1,x2,x3,x4,x5,x6⟩:=hF.1.cells;refine eh (v:=bX #[ci #[amz<|O q,aL xa kG xc,ak am w,ak am r,aG aE,ak am X,ak am H],aG okb]) Bx af ⟨⟨q,_,w,r,aE,X,H,okb,af,⟨_,_,_,af⟩,?_⟩,hF.2.2⟩;have A:=V T
   revert A
   cases gZ n with
   | none=>first|exact id|exact λ_=>rfl
   | some x =>
    obtain⟨a,b,c,d,e,f,g⟩:=x;rintro⟨k0,k1,k2,k3,k4,k5,k6,k7⟩;exact⟨k0,k1,k2,k3,k4,k5,k6,by rw[k7];exact hF.2.1⟩
def NV(v:bm):Prop:=∃a b g h i j n o d e:Int,∃k l:ap,∃c:Bool,v=ir a b g h i j k l n o c d e
def akz:(part 3 #[J i,J p,J x,J S] 0).run aK b=.ok (J i) b:=b8
def akA:(part 3 #[J i,J p,J x,J S] 1).run aK b=.ok (J p) b:=b8
def akB:(part 3 #[J i,J p,J x,J S] 2).run aK b=.ok (J x) b:=b8
def akC:(part 3 #[J i,J p,J x,J S] 3).run aK b=.ok (J S) b:=b8
def ahn:(sizeOf 3).run aK b=.ok 1 b:=b8
def akD{e j k l}:(Op.equalIn 10000 131 (ci #[J p,J x,J S,J e])<|ci #[J j,J k,J l,J i]).run aK b=.ok (p==j&&(x==k&&(S==l&&e==i))) b:=by
 have t:aK.underlying 131=ag (.array 4 3):=b8;have aN:aK.underlying 3=ag (.int am):=b8;rw[show(10000:Nat)=9998+1+1 from af,Op.equalIn];simp only[Sem.run_bind,KR t,zI,ahn];rw[Std.Legacy.Range.forIn_eq_forIn_range'];simp only[Std.Legacy.Range.size,List.range',Nat.reduceAdd,Nat.reduceSub,Nat.reduceDiv,List.forIn_cons,List.forIn_nil,uJ,g8,Sem.run_bind,akz,zI,run_equalIn_int b 9998 _ _ _ _ _ aN];have n:∀g h:Int,(g==h)=dQ (g=h):=λg h=>by rfl
 simp only[n];by_cases o:p=j<;>by_cases a:x=k<;>by_cases q:S=l<;>by_cases r:e=i<;>simp[o,a,q,r,akA,akB,akC,run_equalIn_int _ 9998 _ _ _ _ _ aN]
def Q7{P:Prop}(h:P:=by{
 have aR:∀p q:Int,(p==q)=dQ (p=q):=λp q=>by rfl
 rw[akD,aR,aR,aR,aR];grind}):P:=h
def aho{bA e c}(o:¬(S=1/\bA=0/\e=0/\(c=0\/c=1))):bd aK 72 #[ci #[J x,J i,J S,J bA,J e,J c],aZ Q] b λj n=>j=bg (bX #[ir 0 0 0 0 0 0 [] [] 0 0 ao 0 0,aG ao])/\a7 b n:=by
 have:∀a:aQ,(Op.equalIn 10000 131 (ci #[J S,J bA,J e,J c])<|ci #[J 1,J 0,J 0,J 0]).run aK a=.ok ao a:=λa=>Q7;have:∀a:aQ,(Op.equalIn 10000 131 (ci #[J S,J bA,J e,J c])<|ci #[J 1,J 0,J 0,J 1]).run aK a=.ok ao a:=λa=>Q7;go_wp2;refine eh (v:=bX #[ir 0 0 0 0 0 0 [] [] 0 0 ao 0 0,aG ao]) (by simp[dr,results72,go_sem,ir];try rfl) af ⟨af,?_⟩;have h:∀(a:aQ) (g:Nat) (v:bm),a7 b a->a7 b (a_ a ⟨U b.1+1,g,ai⟩ v):=λa g v k=>fk k (p:=⟨U b.1+1,g,ai⟩) aA v;repeat' apply h
 exact((ct cd bv _).alloc aA _).alloc cx _
def aii(a):(Op.equalIn 10000 131 (ci #[J 1,J 0,J 0,J 1])<|ci #[J 1,J 0,J 0,J 0]).run aK a=.ok ao a:=b8
def aij(a):(Op.equalIn 10000 131 (ci #[J 1,J 0,J 0,J 1])<|ci #[J 1,J 0,J 0,J 1]).run aK a=.ok aE a:=b8
def DO(c:aQ)(b a:Int)(s:ap):aQ :=
 (((aO c<|aS #[ak am b,ak am a,ak am 1,ak am 0,ak am 0,ak am 1] 133).alloc
   (aS #[ak am 0,ak am 0,ak am 0,ak am 0,ak am 0,ak am 0,amz ⟨#[]⟩,amz ⟨#[]⟩,ak am 0,ak am 0,aG ao,ak am 0,ak am 0] 137)).alloc
   (aS #[ak am b,ak am a,ak am 1,ak am 0,ak am 0,ak am 1,amz ⟨#[]⟩,amz ⟨#[]⟩,ak am 0,ak am 0,aG aE,ak am 0,ak am 0] 137)).alloc
   (aS #[amz<|O s,aG ao] 215)
def aik(a c b s):iB (DO a c b s) (U a.1+1+1) c b 1 0 0 1 [] [] 0 0 aE 0 0/\iB (DO a c b s) (U a.1+1) 0 0 0 0 0 0 [] [] 0 0 ao 0 0/\eB (DO a c b s) (U a.1+1+1+1) s ao/\a7 a (DO a c b s):=by refine⟨?_,?_,?_,?_⟩;{refine(dT _ _ _ aA).trans ?_;have:=du (aO (aO a<|aS #[ak am c,ak am b,ak am 1,ak am 0,ak am 0,ak am 1] 133)<|aS #[ak am 0,ak am 0,ak am 0,ak am 0,ak am 0,ak am 0,amz ⟨#[]⟩,amz ⟨#[]⟩,ak am 0,ak am 0,aG ao,ak am 0,ak am 0] 137)<|aS #[ak am c,ak am b,ak am 1,ak am 0,ak am 0,ak am 1,amz ⟨#[]⟩,amz ⟨#[]⟩,ak am 0,ak am 0,aG aE,ak am 0,ak am 0] 137;simpa [O]using this};{refine(dT _ _ _ aA).trans<|(dT _ _ _ aA).trans ?_;have:=du (aO a<|aS #[ak am c,ak am b,ak am 1,ak am 0,ak am 0,ak am 1] 133)<|aS #[ak am 0,ak am 0,ak am 0,ak am 0,ak am 0,ak am 0,amz ⟨#[]⟩,amz ⟨#[]⟩,ak am 0,ak am 0,aG ao,ak am 0,ak am 0] 137;simpa [O]using this};{have:=du (aO (aO (aO a<|aS #[ak am c,ak am b,ak am 1,ak am 0,ak am 0,ak am 1] 133)<|aS #[ak am 0,ak am 0,ak am 0,ak am 0,ak am 0,ak am 0,amz ⟨#[]⟩,amz ⟨#[]⟩,ak am 0,ak am 0,aG ao,ak am 0,ak am 0] 137)<|aS #[ak am c,ak am b,ak am 1,ak am 0,ak am 0,ak am 1,amz ⟨#[]⟩,amz ⟨#[]⟩,ak am 0,ak am 0,aG aE,ak am 0,ak am 0] 137)<|aS #[amz<|O s,aG ao] 215;simpa [eB,DO]using this};{exact Qt}
def QX{P:Prop}(h:P:=by go_region;all_goals(go_wp2;refine eh (v:=bX #[ir id bits 1 0 0 1 q nm k' c' aE z bD,aG ao]) (by simp[dr,results72,go_sem,ir,cS,d1,d2,iZ,d4,d5,d6,d7,d8,d9,d10,d11,d12]) af ⟨V Mn ao af,?_⟩;first|exact(aW _ (aW _ (aW _ (aW _ (aW _ (aW _ (aW _ (aW _ (aW _ (aW _ (aW _ (aW _ (aW _ bM _ _) _ _) _ _) _ _) _ _) _ _) _ _) _ _) _ _) _ _) _ _) _ _) _ _).drew|exact(aW _ (aW _ (aW _ (aW _ (aW _ (aW _ (aW _ (aW _ (aW _ (aW _ (aW _ (aW _ (aW _ bM.drew _ _) _ _) _ _) _ _) _ _) _ _) _ _) _ _) _ _) _ _) _ _) _ _) _ _))):P:=h
def Ry{id bits}(bc:12<=E c)(R:E c<=1000000000){k' c' B y}(d:r_ (bh 12 c) ao=(r,g,t))(w:fj g t=(k',n,B))(P:fj n B=(c',L,y)){bb z bD u W X Y Z aa ab ac h D F I K l M N}(aw:fe L y=(a,W,D))(ay:fj W D=(o,X,F))(az:fj X F=(z,Y,H))(aB:fe Y H=(bb,Z,I))(aC:fe Z I=(bD,aa,K))(aF:pD 2 aa K=(ab,l))(aH:fj ab l=(u,ac,M))(aI:pD u ac M=(h,N))(aY:u<=65535){S}(aZ:(N || !(a==0&&o==41))=S):bd aK 72 #[ci #[J id,J bits,J 1,J 0,J 0,J 1],amz<|O c] b λav a8=>av=bg (bX #[ir id bits 1 0 0 1 (amA (E (bh 12 c)-E L)<|bh 12 c) (c8 r) k' c' aE z bD,aG<|!S&&h.isEmpty])/\a7 b a8:=by
 have:=de c;have aj:=ae<|Cf c 12 af;have:=aii;have:=aij;have au:=ae fun(j:aQ) (a1:ap) (a4:ap) (aR:iB j (U b.1+1+1) id bits 1 0 0 1 a4 a1 k' c' aE 0 0) (aT:eB j (U b.1+1+1+1) L y) (R:E L<=1000000000)=>aiA aR aT G R aw ay az aB aC aF aH aI aY;have aP:E L<=1000000000:=by{have aq:=(Sv (bh 12 c) ao);rw[d]at aq;have ar:=uN g t;rw[w]at ar;have:=uN n B;grind};have ba:=ae d;have aV:=ae w;have a6:=ae P;have⟨Mm,JD,mh,hb0⟩:=aik b id bits<|bh 12 c;have ah:=ae<|Sw Mm mh G (by grind) (V ba) (V aV)<|V a6;have C:=ae JD;have Q:=ae hb0;go_in;go_wp21;rw[V aj];refine ah.m λa9 ⟨i,k,ad⟩=>?_;have e:=ae<|C.kept<|ad.5 _ C.lt ⟨G,G⟩;have bM:=ae<|bN Q<|ad.below (λaU aN=>⟨G,G⟩) Q.4;have T:=ae i;have a3:=ae<|au a9 _ _ i k aP;have⟨_,_,_,_,_,_,_,_,_,_,wS,_,_⟩:=i.cells;go_wp21;refine a3.m λbf ⟨i,k,ad⟩=>?_;rw[aZ]at k;have e:=ae<|e.kept<|ad.5 _ e.lt ⟨G,G⟩;have bM:=ae<|bN bM<|ad.below (λaU aN=>⟨G,G⟩) bM.4;have T:=ae i;have aX:=ae k;generalize al:amA (E (bh 12 c)-E L) (bh 12 c)=q,iN:c8 r=nm at *;have an:=ae al;have a0:=ae iN;have:=T.cells;have⟨cS,d1,d2,iZ,d4,d5,d6,d7,d8,d9,d10,d11,d12⟩:=e.cells;have:=e.frozen;have⟨r0,r1⟩:=aX.cells;go_wp2;have a5:∀x:Bool,(!S&&h.isEmpty)=x->bg (bX #[ir id bits 1 0 0 1 q nm k' c' aE z bD,aG x])=bg (bX #[ir id bits 1 0 0 1 (amA (E (bh 12 c)-E L)<|bh 12 c) (c8 r) k' c' aE z bD,aG<|!S&&h.isEmpty]):=λx aM=>by{rw[V an,V a0,aM]};have Mn:=ae a5;have aW:=ae fun(j:aQ) (aJ:a7 b j) (a2:Nat) (v:bm)=>fk aJ (p:=⟨U b.1+1,a2,ai⟩) aA v;cases S;{
 cases h with
 | nil =>{have d:O []=⟨#[]⟩:=af;rw[d]at r0;go_region;all_goals(go_wp2;refine eh (v:=bX #[ir id bits 1 0 0 1 q nm k' c' aE z bD,aG aE]) (by simp[dr,results72,go_sem,ir,cS,d1,d2,iZ,d4,d5,d6,d7,d8,d9,d10,d11,d12]) af ⟨V Mn aE af,?_⟩;first|exact(aW _ (aW _ (aW _ (aW _ (aW _ (aW _ (aW _ (aW _ (aW _ (aW _ (aW _ (aW _ (aW _ bM _ _) _ _) _ _) _ _) _ _) _ _) _ _) _ _) _ _) _ _) _ _) _ _) _ _).drew|exact(aW _ (aW _ (aW _ (aW _ (aW _ (aW _ (aW _ (aW _ (aW _ (aW _ (aW _ (aW _ (aW _ bM.drew _ _) _ _) _ _) _ _) _ _) _ _) _ _) _ _) _ _) _ _) _ _) _ _) _ _))}
 | cons m A =>{
 have d:((O (m::A)).toList==(⟨#[]⟩:ByteArray).toList)=ao:=by rw[BX];rfl
 have w:(O (m::A)).toList.isEmpty=false:=by simp_all
 have P:¬cf (O (m::A))=0:=by rw[de];simp
 generalize O (m::A)=gF at *;exact QX}};{exact QX}
def OA:(fe c aE).2.2=aE:=by cases c<;>rfl
def akF:(fj c aE).2.2=aE:=by show(fe (fe c aE).2.1 (fe c aE).2.2).2.2=aE;rw[OA,OA]
def Fy(b:(fe c t).2.2=ao):t=ao/\∃a d,c=a::d:=by
 cases c with
 | nil=>cases b
 | cons a c=>exact⟨b,a,c,af⟩
def C2{s br}(c:(fj s br).2.2=ao):br=ao/\∃b a e,s=b::a::e:=by have d:(fe (fe s br).2.1 (fe s br).2.2).2.2=ao:=c;have⟨h1,a,s2,e2⟩:=Fy d;have⟨h3,b,s1,e1⟩:=Fy h1;subst e1;have:s1=a::s2:=e2;grind
def YR(s:(pD a c t).2=ao):t=ao/\a<=E c:=by unfold pD at s;grind
def OB(b:fe g t=(a,c,ao)):t=ao/\E g=E c+1:=by
 cases g with
 | nil=>cases b
 | cons e g =>{obtain⟨rfl,d⟩:=lR b;grind}
def OC(b:fj c t=(a,g,ao)):t=ao/\E c=E g+2:=by obtain⟨d,e,br,h,rfl⟩:=C2 (s:=c) (br:=t) (by rw[b]);have⟨_,h'⟩:=lR b;obtain⟨rfl,_⟩:=lR h';exact⟨d,af⟩
def OD(d:pD a g t=(c,ao)):t=ao/\E g=E c+a:=by unfold pD at d;grind
def Bd{a b}:fj (a::b::Q) t=(be a*256+be b,Q,t):=rfl
def OE{a}:fe (a::Q) t=(be a,Q,t):=rfl
def Fz(a b s):cG (a::b::s) 0=be a*256+be b:=by simp[cG];omega
def OF:∀(f a:Nat) (s:ap) (size:Nat) (b:List ap),(oV f a s aE size b).2.2=aE
 | 0,a,s,size,b=>af
 | f+1,a,s,size,b=>by
  unfold oV;split;{rfl};{
  split;{rfl};{
  have c:(e_ s aE a).2.2=aE:=by unfold e_;grind
  rw[c,OA];exact OF f _ _ _ _}}
def YS:∀ {f:Nat} {s:ap} {c d:List ap} {b:ap},nI f s c=ag (d,b)->E b+1<=E s
 | 0,_,_,_,_,a=>by cases a
 | f+1,[],_,_,_,a=>by cases a
 | f+1,e::s,c,d,b,a=>by unfold nI at a;split at a;{grind};{split at a;{cases a};{have:=YS a;grind}}
def YT:∀(e:Nat) (a:UInt8) (s:ap) (f size:Nat) (c:List ap),E s+1<e->257<=f+size->size<=255->(∃d b,nI e (a::s) c=ag (d,b)/\E b<=E s/\size+(E s-E b)<=255/\oV f (be a) s ao size c=(d,b,ao)) \/
  ((∀d b,nI e (a::s) c=ag (d,b)->E b<=E s/\255<size+(E s-E b))/\(oV f (be a) s ao size c).2.2=aE)
 | 0,a,s,f,size,c,n,_,_=>absurd n G
 | e+1,a,s,f,size,c,n,B,C=>by
  obtain⟨f,rfl⟩:∃u,f=u+1:=⟨f-1,G⟩;by_cases o:a=0;{subst o;refine bG ⟨c,s,?_,cW _,G,?_⟩;{rfl};rfl};{
  have H:be a≠0:=λg=>o<|vG g;have y:nI (e+1) (a::s) c=if 63<be a\/E s<be a then ai else nI e (bh (be a) s) (c++[amA (be a) s]):=by{
  conv=>lhs;unfold nI
  grind}
  have x:oV (f+1) (be a) s ao size c=if 63<be a\/255<size+1+be a then([],s,aE)else oV f (fe (e_ s ao<|be a).2.1 (e_ s ao<|be a).2.2).1 (fe (e_ s ao<|be a).2.1 (e_ s ao<|be a).2.2).2.1 (fe (e_ s ao<|be a).2.1 (e_ s ao<|be a).2.2).2.2 (size+1+be a) (c++[(e_ s ao<|be a).1]):=by{
  conv=>lhs;unfold oV
  grind}
  rw[y,x];by_cases D:63<be a;{grind};by_cases q:E s<be a;{
  rw[b7<|bE q];refine bE ⟨λd b g=>(by cases g),?_⟩;by_cases j:255<size+1+be a;{grind};{
  rw[bJ G];have h:e_ s ao (be a)=([],[],aE):=by unfold e_;grind
  rw[h];exact OF _ _ _ _ _}};rw[bJ G];have h:e_ s ao (be a)=(amA (be a) s,bh (be a) s,ao):=by unfold e_;grind
  cases i:bh (be a) s with
  | nil =>{
  have w:nI e [] (c++[amA (be a) s])=ai:=by cases e<;>rfl
  rw[w];refine bE ⟨λd b g=>(by cases g),?_⟩;by_cases j:255<size+1+be a;{grind};{rw[bJ G,h,i];exact OF _ _ _ _ _}}
  | cons r p =>{have F:E p+1=E s-be a:=by{have:=fE List.length i;grind};by_cases j:255<size+1+be a;{rw[b7<|bE j];refine bE ⟨λd b g=>?_,af⟩;have:=YS g;grind};{rw[bJ G,h,i];have z:=YT e r p f (size+1+be a) (c++[amA (be a) s]) G G G;rcases z with⟨d,b,k,l,A,t⟩|⟨k,l⟩;{exact .inl ⟨d,b,k,G,G,t⟩};{exact .inr ⟨λd b g=>by grind,l⟩}}}}
def ail(b d)(k:E b<d):(∃c a,nI d b []=ag (c,a)/\E a+1<=E b/\E b-E a<=255/\r_ b ao=(c,a,ao)) \/
  ((∀c a,nI d b []=ag (c,a)->255<E b-E a)/\(r_ b ao).2.2=aE):=by
 cases b with
 | nil=>exact bE ⟨λc a h=>(by cases d<;>cases h),af⟩
 | cons i s =>{rw[ey]at k;rcases YT d i s 256 1 [] G G G with⟨c,a,e,g,l,j⟩|⟨e,g⟩;{exact .inl ⟨c,a,e,by grind,by grind,j⟩};{exact .inr ⟨λc a h=>by grind,g⟩}}
def aim{t:ap}(e:4<=E t):∃a b c d s,t=a::b::c::d::s:=by
 match t,e with
 | a::b::c::d::s,_=>simp
def ain{t:ap}(l:11<=E t):∃a b c d e f g h i j k s,t=a::b::c::d::e::f::g::h::i::j::k::s:=by
 match t,l with
 | a::b::c::d::e::f::g::h::i::j::k::s,_=>simp
def Be(m:ap)(g d:Int)(a:Ending):Prop:=match gZ m with
 | none=>∃c,NV c/\a=bg (bX #[c,aG ao])
 | some (i,h,j,e,b,k,v)=>a=bg (bX #[ir g d 1 0 0 (if b=aE then 1 else 0) i (c8 h) j e b k v,aG aE])
def BO(a:gZ c=ai)(g:t=ao)(h:NV e:=by exact⟨_,_,_,_,_,_,_,_,_,_,_,_,_,rfl⟩):Be c i p (bg<|bX #[e,aG t]):=by grind[Be]
def Rh{P:Prop}(h:P:=by
 have yU:=λh=>hb3 (j1 (j2 (j3 (j4 (j5 (j6 (j7 (j8 h).1).1).1).1).1).1).1).1;rcases h10 with h10|h10
 ·rw[h10];exact(Rt hm hl e1 e2 e3).m λw' hb=>⟨BO hno<|by grind,hb⟩
 ·rw[h10];exact(Ry hm hl e1 e2 e3 f1 f2 f3 f4 f5 f6 f7 f8 jQ af).m λw' hb=>⟨BO hno<|by grind,hb⟩):P:=h
def aiB(m R P aj)(hm:12<=E m)(hl:E m<=1000000000):bd aK 72 #[ci #[J R,J P,J<|cG m 4,J<|cG m 6,J<|cG m 8,J<|cG m 10],aZ m] aj λQ w'=>Be m R P Q/\a7 aj w':=by
 by_cases aY:cG m 4=1/\cG m 6=0/\cG m 8=0/\(cG m 10=0\/cG m 10=1)
 case neg =>
  exact(aho G).m λw' hb=>⟨BO (by unfold gZ;grind) af,hb⟩
 obtain⟨aR,aT,aU,h10⟩:=aY;have a1:gZ m=match nI (E m+1) (bh 12 m) []with
  | none=>ai
  | some (y,t) =>
   if 255<E m-E t-12\/E t<4 then ai
   else if cG m 10=0 then(if E t=4 then ag (amA (E m-E t+4-12)<|bh 12 m,y,cG t 0,cG t 2,ao,0,0)else ai)
   else if E t<15\/t.getD 4 0≠0\/cG t 5≠41\/15+cG t 13≠E t then ai
   else ag (amA (E m-E t+4-12)<|bh 12 m,y,cG t 0,cG t 2,aE,cG t 7,be<|t.getD 10 0):=by
  unfold gZ
  grind
 have:E (bh 12 m)=E m-12:=js;rw[aR,aT,aU];obtain⟨⟨y,W,ah⟩,e1⟩:∃g,r_ (bh 12 m) ao=g:=⟨_,af⟩
 obtain⟨⟨bc,X,O⟩,e2⟩:∃g,fj W ah=g:=⟨_,af⟩
 obtain⟨⟨ba,Y,z⟩,e3⟩:∃g,fj X O=g:=⟨_,af⟩
 obtain⟨⟨bs,Z,B⟩,f1⟩:∃g,fe Y z=g:=⟨_,af⟩
 obtain⟨⟨bf,aa,C⟩,f2⟩:∃g,fj Z B=g:=⟨_,af⟩
 obtain⟨⟨bu,ab,D⟩,f3⟩:∃g,fj aa C=g:=⟨_,af⟩
 obtain⟨⟨bt,ac,F⟩,f4⟩:∃g,fe ab D=g:=⟨_,af⟩
 obtain⟨⟨a9,ad,H⟩,f5⟩:∃g,fe ac F=g:=⟨_,af⟩
 obtain⟨⟨M,A⟩,f6⟩:∃g,pD 2 ad H=g:=⟨_,af⟩
 obtain⟨⟨L,ae,I⟩,f7⟩:∃g,fj M A=g:=⟨_,af⟩
 obtain⟨⟨br,K⟩,f8⟩:∃g,pD L ae I=g:=⟨_,af⟩
 have jQ:L<=65535:=by have:=ams M A;grind
 have a3:O=ao->ah=ao/\∃a b d,W=a::b::d:=λh=>C2 (by grind);have a4:z=ao->O=ao/\∃a b d,X=a::b::d:=λh=>C2 (by grind);have j1:B=ao->z=ao/\∃c d,Y=c::d:=λh=>Fy (by grind);have j2:C=ao->B=ao/\∃a b d,Z=a::b::d:=λh=>C2 (by grind);have j3:D=ao->C=ao/\∃a b d,aa=a::b::d:=λh=>C2 (by grind);have j4:F=ao->D=ao/\∃c d,ab=c::d:=λh=>Fy (by grind);have j5:H=ao->F=ao/\∃c d,ac=c::d:=λh=>Fy (by grind);have j6:A=ao->H=ao/\2<=E ad:=λh=>YR (by grind);have j7:I=ao->A=ao/\∃a b d,M=a::b::d:=λh=>C2 (by grind);have j8:K=ao->I=ao/\L<=E ae:=λh=>YR (by grind);rcases ail (bh 12 m) (E m+1) G with⟨bo,t,S,T,bp,V⟩|⟨S,T⟩
 case inr =>
  have hno:gZ m=ai:=by
   grind
  rw[e1]at T;have hb3:z≠ao:=λh=>by grind
  exact Rh
 rw[e1]at V;have⟨u1,aog⟩:=lR V;have⟨u2,u3⟩:=lR aog;have an:=bZ u2;subst u1 an u3;rw[S]at a1;by_cases ap:E t<4
 ·have hno:gZ m=ai:=by
   grind
  have hb3:z≠ao:=λh=>by
   have⟨h2,a,b,d,Q⟩:=a4 h;have⟨_,a',b',s'',e'⟩:=a3 h2;rw[e']at e2 ap;rw[Bd]at e2
   grind
  exact Rh
 obtain⟨a,b,c,e,s,rfl⟩:=aim (t:=t) G;rw[Bd]at e2;obtain⟨rfl,ay⟩:=lR e2;obtain⟨rfl,rfl⟩:=lR ay;rw[Bd]at e3;obtain⟨rfl,az⟩:=lR e3;obtain⟨rfl,rfl⟩:=lR az;have a5:E (a::b::c::e::s)=E s+4:=aA;have aw:amA (E (bh 12 m)-E s) (bh 12 m)=amA (E m-E (a::b::c::e::s)+4-12) (bh 12 m):=by
  grind
 have:¬(255<E m-E (a::b::c::e::s)-12\/E (a::b::c::e::s)<4):=G;have i:gZ m=if cG m 10=0 then(if(a::b::c::e::s).length=4 then ag (amA (E m-E (a::b::c::e::s)+4-12)<|bh 12 m,y,cG (a::b::c::e::s) 0,cG (a::b::c::e::s) 2,ao,0,0)else ai)
   else if(a::b::c::e::s).length<15\/(a::b::c::e::s).getD 4 0≠0\/cG (a::b::c::e::s) 5≠41\/15+cG (a::b::c::e::s) 13≠E (a::b::c::e::s) then ai
   else ag (amA (E m-E (a::b::c::e::s)+4-12)<|bh 12 m,y,cG (a::b::c::e::s) 0,cG (a::b::c::e::s) 2,aE,cG (a::b::c::e::s) 7,be<|(a::b::c::e::s).getD 10 0):=by
  grind
 rw[<- aw]at i;have aV:cG (a::b::c::e::s) 0=be a*256+be b:=Fz a b _;have aW:cG (a::b::c::e::s) 2=be c*256+be e:=Fz c e s;rw[aV,aW]at i;rcases h10 with h10|h10
 ·rw[h10];refine(Rt hm hl e1 af af).m λw' hb=>⟨?_,hb⟩;rw[b7 h10,a5]at i;cases s with
  | nil =>
   rw[b7 aA]at i;rw[Be,i];rfl
  | cons g s =>
   rw[bJ aA]at i;exact BO i af
 ·rw[h10];refine(Ry hm hl e1 af af f1 f2 f3 f4 f5 f6 f7 f8 jQ af).m λw' hb=>⟨?_,hb⟩;rw[bJ G]at i;by_cases bb:E s<11
  ·rw[b7<|bG G]at i;refine BO i ?_;cases K
   ·exfalso;obtain⟨rfl,a6⟩:=OD f8;obtain⟨rfl,a8⟩:=OC f7;obtain⟨rfl,bn⟩:=OD f6;obtain⟨rfl,bl⟩:=OB f5;obtain⟨rfl,bk⟩:=OB f4;obtain⟨rfl,bj⟩:=OC f3;obtain⟨rfl,bi⟩:=OC f2;have⟨_,l1⟩:=OB f1;omega
   ·rfl
  ·obtain⟨l,n,o,p,q,x,w,r,u,j,k,d,rfl⟩:=ain (t:=s) G;rw[OE]at f1;obtain⟨rfl,aB⟩:=lR f1;obtain⟨rfl,rfl⟩:=lR aB;rw[Bd]at f2;obtain⟨rfl,aC⟩:=lR f2;obtain⟨rfl,rfl⟩:=lR aC;rw[Bd]at f3;obtain⟨rfl,aF⟩:=lR f3;obtain⟨rfl,rfl⟩:=lR aF;rw[OE]at f4;obtain⟨rfl,aq⟩:=lR f4;obtain⟨rfl,rfl⟩:=lR aq;rw[OE]at f5;obtain⟨rfl,ar⟩:=lR f5;obtain⟨rfl,rfl⟩:=lR ar;have au:pD 2 (r::u::j::k::d) ao=(j::k::d,ao):=dS;rw[au]at f6;obtain⟨rfl,rfl⟩:=lR f6;rw[Bd]at f7;obtain⟨rfl,aH⟩:=lR f7;obtain⟨rfl,rfl⟩:=lR aH;have aM:(a::b::c::e::l::n::o::p::q::x::w::r::u::j::k::d).getD 4 0=l:=af;have aN:cG (a::b::c::e::l::n::o::p::q::x::w::r::u::j::k::d) 5=be n*256+be o:=Fz n o [];have aP:cG (a::b::c::e::l::n::o::p::q::x::w::r::u::j::k::d) 7=be p*256+be q:=Fz p q [];have aJ:cG (a::b::c::e::l::n::o::p::q::x::w::r::u::j::k::d) 13=be j*256+be k:=Fz j k [];have aI:(a::b::c::e::l::n::o::p::q::x::w::r::u::j::k::d).getD 10 0=w:=af;rw[aM,aN,aP,aJ,aI]at i;have a0:E (a::b::c::e::l::n::o::p::q::x::w::r::u::j::k::d)=E d+15:=aA;rw[a0]at i;have:l=0 ↔ be l=0:=⟨λh=>xO,λh=>vG h⟩
   generalize be j*256+be k=N,be n*256+be o=al at *;by_cases aX:l=0/\al=41/\N=E d
   ·obtain⟨a2,rfl,rfl⟩:=aX;rw[bJ<|by grind]at i;have av:pD (E d) d ao=([],ao):=by simp[pD]
    rw[av]at f8;obtain⟨rfl,rfl⟩:=lR f8;rw[Be,i,a2];rfl
   ·rw[b7 (by
     grind)]at i
    refine BO i ?_;cases K
    ·have⟨_,a6⟩:=OD f8
     grind
    ·rfl
def ajh(W:Nat){bA}(k l q j m)(h n R)(G:aQ->bm->bm->bm->bm->bm->Prop)(aY:(bits .and am o 32768 != 0)=ao)(a0:(bits .and am o 30720 != 0)=ao)(aM:bd aK 70 #[aZ Q] b<|cQ (bX #[ci #[J a,J o,J i,J bA,J p,J x],aG aE]) b)(aN:∀d,bd aK 72 #[ci #[J a,J o,J i,J bA,J p,J x],aZ Q] d<|cQ (bX #[ir a o i bA p x h n k l m q j,aG aE]) d)(aI:∀d,a7 b d->bd aK 74 #[ir a o i bA p x h n k l m q j,N W] d λD c=>(∃t u w g y,D=bg (ci #[t,u,w,g,y])/\G c t u w g y)/\a7 d c)(aP:∀d t u w g y,a7 b d->G d t u w g y->bd aK 73 #[ir a o i bA p x h n k l m q j,ci #[t,u,w,g,y]] d (cQ (aZ R) d)):bd aK 27 #[N W,aZ Q] b (cQ (aZ R) b):=by
 have ac:=ae aM;have X:=ae aN;have S:=ae aI;have e:=ae aP;unfold ir at X S e;go_in;go_wp21;refine ac.m λa2 L=>?_;have aR:=L.4;replace L:=ae L;go_wp21;refine(X _).m λB aJ=>?_;have aa:=(ct L aR _).trans<|bV aJ cx;have ah:=ae aa;have aT:=aa.4;go_wp2;have ab:iB (aO B<|aS #[ak am a,ak am o,ak am i,ak am bA,ak am p,ak am x,amz<|O h,amz<|O n,ak am k,ak am l,aG m,ak am q,ak am j] 137) (U B.1) a o i bA p x h n k l m q j:=du B _;have Y:a7 b (aO B<|aS #[ak am a,ak am o,ak am i,ak am bA,ak am p,ak am x,amz<|O h,amz<|O n,ak am k,ak am l,aG m,ak am q,ak am j] 137):=ct ah aT _;generalize (aO B<|aS #[ak am a,ak am o,ak am i,ak am bA,ak am p,ak am x,amz<|O h,amz<|O n,ak am k,ak am l,aG m,ak am q,ak am j] 137)=z at *;have P:∀d r:aQ,a7 d r->(co d (U B.1) 0 (J a)/\co d (U B.1) 1 (J o)/\co d (U B.1) 2 (J i)/\co d (U B.1) 3 (J bA)/\co d (U B.1) 4 (J p)/\co d (U B.1) 5 (J x)/\co d (U B.1) 6 (aZ h)/\co d (U B.1) 7 (aZ n)/\co d (U B.1) 8 (J k)/\co d (U B.1) 9 (J l)/\co d (U B.1) 10 (aG m)/\co d (U B.1) 11 (J q)/\co d (U B.1) 12 (J j))->(co r (U B.1) 0 (J a)/\co r (U B.1) 1 (J o)/\co r (U B.1) 2 (J i)/\co r (U B.1) 3 (J bA)/\co r (U B.1) 4 (J p)/\co r (U B.1) 5 (J x)/\co r (U B.1) 6 (aZ h)/\co r (U B.1) 7 (aZ n)/\co r (U B.1) 8 (J k)/\co r (U B.1) 9 (J l)/\co r (U B.1) 10 (aG m)/\co r (U B.1) 11 (J q)/\co r (U B.1) 12 (J j)):=λd r C I=>by
  have A:∀(H:Addr) (v:bm),aD d H=ag v->aD r H=ag v:=λH v I=>(C.cell<|i8 d H I).trans I;obtain⟨aj,al,ar,au,av,aw,ay,az,aA,aB,an,ap,aq⟩:=I;exact⟨A _ _ aj,A _ _ al,A _ _ ar,A _ _ au,A _ _ av,A _ _ aw,A _ _ ay,A _ _ az,A _ _ aA,A _ _ aB,A _ _ an,A _ _ ap,A _ _ aq⟩
 have aV:ax (∀d,a7 b d->(co d (U B.1) 0 (J a)/\co d (U B.1) 1 (J o)/\co d (U B.1) 2 (J i)/\co d (U B.1) 3 (J bA)/\co d (U B.1) 4 (J p)/\co d (U B.1) 5 (J x)/\co d (U B.1) 6 (aZ h)/\co d (U B.1) 7 (aZ n)/\co d (U B.1) 8 (J k)/\co d (U B.1) 9 (J l)/\co d (U B.1) 10 (aG m)/\co d (U B.1) 11 (J q)/\co d (U B.1) 12 (J j))->bd aK 74 #[(ci #[J a,J o,J i,J bA,J p,J x,aZ h,aZ n,J k,J l,aG m,J q,J j]),N W] d λD c =>
   ∃t u w g y,D=bg (ci #[t,u,w,g,y])/\(co c (U B.1) 0 (J a)/\co c (U B.1) 1 (J o)/\co c (U B.1) 2 (J i)/\co c (U B.1) 3 (J bA)/\co c (U B.1) 4 (J p)/\co c (U B.1) 5 (J x)/\co c (U B.1) 6 (aZ h)/\co c (U B.1) 7 (aZ n)/\co c (U B.1) 8 (J k)/\co c (U B.1) 9 (J l)/\co c (U B.1) 10 (aG m)/\co c (U B.1) 11 (J q)/\co c (U B.1) 12 (J j))/\ax (a7 b c/\G c t u w g y)):=by
  intro d C K;refine(S d C).mono ?_;rintro D c ⟨⟨t,u,w,g,y,rfl,T⟩,F⟩;exact⟨t,u,w,g,y,af,P d c F K,bN C<|bV F C.4,T⟩
 have aU:ax (∀d t u w g y,ax (a7 b d/\G d t u w g y)->(co d (U B.1) 0 (J a)/\co d (U B.1) 1 (J o)/\co d (U B.1) 2 (J i)/\co d (U B.1) 3 (J bA)/\co d (U B.1) 4 (J p)/\co d (U B.1) 5 (J x)/\co d (U B.1) 6 (aZ h)/\co d (U B.1) 7 (aZ n)/\co d (U B.1) 8 (J k)/\co d (U B.1) 9 (J l)/\co d (U B.1) 10 (aG m)/\co d (U B.1) 11 (J q)/\co d (U B.1) 12 (J j))->bd aK 73 #[(ci #[J a,J o,J i,J bA,J p,J x,aZ h,aZ n,J k,J l,aG m,J q,J j]),ci #[t,u,w,g,y]] d λD c =>
   D=bg (aZ<|R)/\(co c (U B.1) 0 (J a)/\co c (U B.1) 1 (J o)/\co c (U B.1) 2 (J i)/\co c (U B.1) 3 (J bA)/\co c (U B.1) 4 (J p)/\co c (U B.1) 5 (J x)/\co c (U B.1) 6 (aZ h)/\co c (U B.1) 7 (aZ n)/\co c (U B.1) 8 (J k)/\co c (U B.1) 9 (J l)/\co c (U B.1) 10 (aG m)/\co c (U B.1) 11 (J q)/\co c (U B.1) 12 (J j))/\ax (a7 b c)):=by
  intro d t u w g y aF K;have⟨C,T⟩:=V aF;refine(e d _ _ _ _ _ C T).m ?_;intro c F;exact⟨af,P d c F K,bN C<|bV F C.4⟩
 have K:aD (bq z) (M (U B.1) 0)=ag (J a)/\aD (bq z) (M (U B.1) 1)=ag (J o)/\aD (bq z) (M (U B.1) 2)=ag (J i)/\aD (bq z) (M (U B.1) 3)=ag (J bA)/\aD (bq z) (M (U B.1) 4)=ag (J p)/\aD (bq z) (M (U B.1) 5)=ag (J x)/\aD (bq z) (M (U B.1) 6)=ag (aZ h)/\aD (bq z) (M (U B.1) 7)=ag (aZ n)/\aD (bq z) (M (U B.1) 8)=ag (J k)/\aD (bq z) (M (U B.1) 9)=ag (J l)/\aD (bq z) (M (U B.1) 10)=ag (aG m)/\aD (bq z) (M (U B.1) 11)=ag (J q)/\aD (bq z) (M (U B.1) 12)=ag (J j):=ab.cells;have Z:=Y.drew;have ad:=ae Z;clear ab Y Z S e P
 go_region_held (λc=>aD c (M (U B.1) 0)=ag (J a)/\aD c (M (U B.1) 1)=ag (J o)/\aD c (M (U B.1) 2)=ag (J i)/\aD c (M (U B.1) 3)=ag (J bA)/\aD c (M (U B.1) 4)=ag (J p)/\aD c (M (U B.1) 5)=ag (J x)/\aD c (M (U B.1) 6)=ag (aZ h)/\aD c (M (U B.1) 7)=ag (aZ n)/\aD c (M (U B.1) 8)=ag (J k)/\aD c (M (U B.1) 9)=ag (J l)/\aD c (M (U B.1) 10)=ag (aG m)/\aD c (M (U B.1) 11)=ag (J q)/\aD c (M (U B.1) 12)=ag (J j)) (first|assumption|go_keep)
  (first
   | (go_at_call 74;go_loud (refine(aV _ ad ?_).mono ?_;assumption;rintro D a3 ⟨t,u,w,g,y,rfl,aW,aC⟩))
   | (go_at_call 73;go_loud (refine(aU _ _ _ _ _ _ aC ?_).mono ?_;assumption;rintro D a4 ⟨rfl,aX,aH⟩)))
 rename_i a1;go_wp2;go_ret;exact⟨af,aH⟩
end Go.Proofs.YtkkpahmoljiepaaGreatDoor
