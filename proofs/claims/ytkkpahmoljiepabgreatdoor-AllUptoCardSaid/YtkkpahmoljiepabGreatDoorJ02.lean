import Derived.Test.YtkkpahmoljiepabGreatDoorJ00
import Derived.Test.YtkkpahmoljiepabGreatDoorJ0a
import Derived.Test.YtkkpahmoljiepabGreatDoorRows
import Derived.Test.YtkkpahmoljiepabGreatDoorShelf
import Derived.Test.YtkkpahmoljiepabGreatDoorJ0t
import Derived.Test.YtkkpahmoljiepabGreatDoorJ01
import Derived.Test.YtkkpahmoljiepabGreatDoorJ0i
import Derived.Deep.RegionHeld
import Derived.ProofKit
import Derived.OpenShut
import Derived.HandedShaped
import Derived.Lay
import Derived.Stop.Joined
import Derived.MakeChecks
set_option maxRecDepth 1000000
set_option maxHeartbeats 12800000
set_option linter.all false
open Array renaming size->J
open Bool renaming false->ak,true->aD
open ByteArray renaming size->b7
open Decidable renaming decide->dC
open Eq renaming symm->b5,trans->cQ
open Go renaming Act->kq,Calls->a_,Code->mp,Exit->wh,TypeId->dP,Value->bk,World->aQ,callsIn_of_wp_marks->sm,cell_grown->hU,maxLen->fk,results->c_,run_takeDeferred->lf,undef->e8
open Go.CallsIn renaming inRound->ij
open Go.Ending renaming returned->bh
open Go.Exit renaming normal->ky
open Go.Fence renaming wide->e6
open Go.IntKind renaming i64->ai,u8->ch
open Go.Lib renaming trimPrefix->l6
open Go.Obj renaming cells->aZ,deferred->df,loop->dq
open Go.Proofs renaming intOf->fj
open Go.Proofs.Tryz renaming prog->aL
open Go.RowKit renaming Below->cv,Hid->ao
open Go.RowKit.Below renaming alloc->cf,mono->bN,setCell->fc,trans->bC
open Go.Value renaming agg->ce,bool->aG,func->ez,int->ag,slice->aE,string->am,tuple->bZ
open Go.World renaming alloc->aN,alloc_heap_new->cW,cell?->aA,drew->bx,drewN->dS,frozen?->gd,putObj->ep,putObj_heap_other->jB,putObj_size->wj,setCell->a7
open Int renaming toNat->cM
open List renaming drop->bi,dropWhile->kT,filter->dT,length->E,map->b9,take->be,takeWhile->he,toArray->c7
open Option renaming none->af,some->ae
open Or renaming inl->bJ,inr->bE
open UInt8 renaming toNat->bg
namespace Go.Proofs.YtkkpahmoljiepabGreatDoor
variable{φ:Prop}
open Go.RowKit Go.Proofs.Tryz
variable{n v:Nat}{m u K:World}{e:Value}{j q:Int}{z:TypeId}{T:ByteArray}
abbrev ap:=List UInt8
variable{d h o:ap}{F:List ap}
def O{a}(b:a):Go.RowKit.Hid a:=b
def V{a}(b:Go.RowKit.Hid a):a:=b
def Dq(a:Int):Bool:=(dC (97<=a)&&dC (a<=122))||(dC (48<=a)&&dC (a<=57))||a==45||a==95
def ry(a:UInt8):Bool:=Dq<|bg a
def kr(a:ap):Bool:=dC (1<=E a)&&dC (E a<=20)&&a.all ry
def tK(a:Int):Bool:=dC (33<=a)&&dC (a<=126)
def oe(a:ap):Bool:=a.all (λb=>tK<|bg b)&&dC (1<=E a)&&dC (E a<=40)
def pF(a:Int):Bool:=dC (48<=a)&&dC (a<=57)
def mB(c:Nat):Nat->ap->Option Nat
 |a,[]=>ae a
 |a,b::d=>if pF (bg b) then(if 10*a+(bg b-48)<=c then mB c (10*a+(bg b-48)) d else af)else af
def pM(d:Nat)(c:ap):Option Nat:=
 match c with
 |[]=>af
 |a::b=>if bg a=48/\b≠[]then af else mB d 0 (a::b)
def ii(a:ap):Int:=
 if a=[65]then 1 else if a=[78,83]then 2 else if a=[67,78,65,77,69]then 5 else if a=[83,79,65]then 6
 else if a=[77,88]then 15 else if a=[84,88,84]then 16 else 0
def OY(b:n<b7 T):be (n+1) T.1.1=be n T.1.1++[T[n]]:=by rw[g8<|by simp_all];rfl
def OZ(b:n<b7 T):bi n T.1.1=T[n]::bi (n+1) T.1.1:=by rw[jM<|by simp_all];rfl
def oQ:E T.1.1=b7 T:=ax
def I(a:UInt8):ap->List ap
 |[]=>[[]]
 |b::c=>if b=a then []::I a c else match I a c with
  |[]=>[[b]]
  |d::e=>(b::d)::e
def nL(b a):I b a≠[]:=by
 cases a with
 |nil=>simp[I]
 |cons d c=>{grind[I]}
def tM(a):∀(c:ap),a∉c->I a c=[c]
 |[],_=>U
 |g::e,b=>by simp only[fw,not_or]at b;rw[I,bV λd=>b.1<|b5 d,tM a e b.2]
def tO(b):∀(c a:ap),b∉c->I b (c++b::a)=c::I b a
 |[],a,_=>by rw[iF,I,b8 U]
 |h::g,a,d=>by simp only[fw,not_or]at d;rw[fN,I,bV λe=>d.1<|b5 e,tO b g a d.2]
def Dr(a):∀(c:ap),a∉c->Lib.indexByte c a = -1
 |[],_=>U
 |g::d,b=>by simp only[fw,not_or]at b;have e:=Dr a d b.2;unfold Lib.indexByte;grind
def Dt(b):∀(c a:ap),b∉c->Lib.indexByte (c++b::a) b=E c
 |[],a,_=>by simp[Lib.indexByte]
 |h::e,a,d=>by simp only[fw,not_or]at d;have g:=Dt b e a d.2;rw[fN];unfold Lib.indexByte;grind
def Dv{b}(c){a}(d:b∉a):Lib.splitK [b] 0 c a=[a]:=by
 cases c with
 |zero=>rfl
 |succ c=>rw[Lib.splitK,Lib.index_one,Dr b a d];rfl
def Dx{a}(d){b}(c)(e:a∉b):Lib.splitK [a] 0 (d+1) (b++a::c)=b::Lib.splitK [a] 0 d c:=by rw[Lib.splitK,Lib.index_one,Dt a b c e];simp
def O0(b):∀(d:Nat) (a:ap),E a<=d->Lib.splitK [b] 0 (a.count b) a=I b a
 |0,a,i=>by obtain rfl:a=[]:=hq G;rfl
 |d+1,a,i=>by
  by_cases g:b∈a;{
  obtain⟨h,c,rfl,e⟩:=A9 g;have j:E c<=d:=by grind
  rw[List.count_append,List.count_cons_self,List.count_eq_zero.2 e,fM,Dx _ c e,tO b h c e,O0 b d c j]};{rw[Dv _ g,tM b a g]}
def h9(a:UInt8)(s:ByteArray):List ByteArray:=Lib.splitB ⟨#[a]⟩ 0 (Lib.countB s ⟨#[a]⟩) s
def q4(a s):b9 (·.data.1) (h9 a s)=I a s.1.1:=by rw[h9,Lib.splitB_data];let b:Lib.countB s ⟨#[a]⟩=s.1.1.count a:=by{exact Lib.count_one a s.1.1};rw[b];exact O0 a _ _ bo
def O1(a s):E (h9 a s)=Lib.countB s ⟨#[a]⟩+1:=Lib.splitB_all _ bo 0 _ s U
def n6(c):∀(d:Nat) (a:ap),E a<=d->∀e∈I c a,E e<=E a
 |0,a,j,e,b=>by obtain rfl:a=[]:=hq G;simp[I]at b;grind
 |d+1,a,j,e,b=>by
  by_cases h:c∈a;{
  obtain⟨i,g,rfl,k⟩:=A9 h;rw[tO c i g k,fw]at b;have l:E g<=d:=by grind
  rcases b with rfl|b;{simp};{have:=n6 c d g l e b;grind}};{rw[tM c a h]at b;grind}
def Bn(a s b)(c:b∈h9 a s):b7 b<=b7 s:=by let:b.1.1∈I a s.1.1:=by{rw[<-q4];grind};let:=n6 a _ _ bo _ this;assumption
def nM(a):∀(b:ap),E (I a b)<=E b+1
 |[]=>by simp[I]
 |e::c=>by have d:=nM a c;unfold I;grind
def sR(b:Nat)(a:ap):Bool:=kr a||(b==0&&a==[42])
def pN(a:Nat):List ap->Bool
 |[]=>aD
 |b::c=>sR a b&&pN (a+1) c
def jh(a:ap):Bool:=dC (E a<=60)&&pN 0 (I 46 a)
def oZ(a:ap):Bool:=Lib.hasPrefix a [42]
def eL(a:ap):Bool:=jh a && !oZ a
def fx(a b:ap):Bool:=a==b||Lib.hasSuffix a (46::b)
def dx(a:aQ):Prop:=0<J a.1/\∃m:Int,aA a (N 0 0)=ae (M m)
def dx.below(e:dx u)(b:a6 u K):dx K:=by let⟨a,m,g⟩:=e;exact⟨eA a b.4,m,(b.cell (p:=⟨0,0,af⟩) a).trans g⟩
def dx.alloc(b:dx m)(c):dx (aN m c):=b.below<|cf cc bo _
def Dy(g:a6 m u):(∀a b,a<J m.1->aA u (N a b)=aA m (N a b))/\(∀a b,a<J m.1->gd u (N a b)=gd m (N a b)):=
 ⟨λa b d=>g.cell (p:=⟨a,b,af⟩) d,λa b d=>g.frozen (p:=⟨a,b,af⟩) d⟩
def qG(d:aQ)(b ay:Nat)(c:List ByteArray):Prop:=b<J d.1/\∀a (e:a<E c),aA d (N b<|ay+a)=ae (am c[a])
def qG.below{ay e}(b:qG m n ay e)(c:a6 m u):qG u n ay e:=
 ⟨eA b.1 c.4,λd i=>(c.cell (p:=⟨n,ay+d,af⟩) b.1).trans (b.2 d i)⟩
def Bo(b:aQ)(a):qG (aN b<|aZ (c7<|a.map am) 9) (J b.1) 0 a:=by refine bd ax<|λd c=>?_;simp
def sT(s a)(e:dx m)(h:b7 s<4294967281):a_ aL 73 #[am s,am ⟨#[a]⟩] m λd i=>d=bh (bL (J m.1) 0 (E<|h9 a s)<|E<|h9 a s)/\i=aN m (aZ (c7<|(h9 a s).map am) 9):=by let⟨_,b,g⟩:=e;have c:=Tryz.strings_Split s ⟨#[a]⟩ b m h g bo;rw[<-O1]at c;exact c
def e_{a b}(c:a=b):bh (aG a)=bh (aG b):=by rw[c]
def wQ{c}(d:j=q):bh (ag c j)=bh (ag c q):=by rw[d]
def O2{b}(c:T.1.1=b.1.1):bh (am T)=bh (am b):=by
 let:T=b:=by cases T;simp_all
 grind
def O3{a}:a_ aL 226 #[ag ch<|bg a] m λc d=>c=bh (aG<|ry a)/\d=m:=by
 unfold ry;generalize (bg a:Int)=e;go_wp2;all_goals(go_ret;refine⟨e_ ?_,U⟩;unfold Dq)
 all_goals (first|done|(simp[*];done)|grind|grind|trace_state)
def Mr(h:φ:=by go_wp2;go_ret;exact⟨e_ (by rw[kr,oQ];grind),U⟩):φ:=h
def Dz(o:b7 T<=fk):a_ aL 184 #[am T] m λg c=>g=bh (aG<|kr T.1.1)/\c=m:=by
 by_cases j:(b7 T:Int)<1;{exact Mr};by_cases k:20<(b7 T:Int);{exact Mr};go_wp2;go_loop [14] (λb=>∃a:Nat,a<=b7 T/\b=M a/\(be a T.1.1).all ry=aD) λb=>b7 T-cM (intOf b);·grind
 ·(
 obtain⟨a,n,rfl,h⟩:=hrel;let d:=O h;by_cases i:a<b7 T;{
 by_cases l:ry T[a]=aD;{
 go_wp2_with (go_at_call 226;refine(O3).m ?_;rintro c rfl);go_round;·exact⟨a+1,G,dd,by rw[(OY i),wC,d];grind⟩
 ·exact qD};{
 have:ry T[a]=ak:=by grind
 go_wp2_with (go_at_call 226;refine(O3).m ?_;rintro c rfl);go_ret;refine⟨e_ ?_,U⟩;have:T[a]∈T.1.1:=ei fi;symm;grind[kr]}};{go_wp2;go_ret;refine⟨e_ ?_,U⟩;have:=d;rw[mS ct]at this;rw[kr,this,oQ];grind})
def ft(b:Nat)(a:ap):Bool:=(pM b a).isSome
def jF(b:Nat)(a:ap):Nat:=(pM b a).getD 0
def agS(l:b7 T<=fk):a_ aL 199 #[am T] m λi n=>i=bh (aG<|oe T.1.1)/\n=m:=by
 unfold fk at l;go_wp2
 go_loop [6] (λd=>∃a:Nat,a<=b7 T/\d=M a/\(be a T.1.1).all (λh=>tK<|bg h)=aD) λd=>b7 T-cM (intOf d)
 ·grind
 ·obtain⟨a,p,rfl,b⟩:=hrel;let e:=O b;by_cases j:a<b7 T
  ·by_cases o:(33:Int)<=(T[a].toNat:Int)/\(T[a].toNat:Int)<=126
   ·go_wp2
    go_round
    ·exact⟨a+1,G,dd,by rw[(OY j),wC,e];simp[tK];omega⟩
    ·exact qD
   ·let k:T[a]∈T.1.1:=ei fi;let c:ao (oe T.1.1=ak):=by
     rw[oe,ao,yN,yN,AW];exact bJ<|bJ ⟨_,k,by simp[tK];omega⟩
    go_wp2
    all_goals
     first
     |(exfalso;omega)
     | (go_ret
        exact⟨e_<|b5 c,U⟩)
  ·have b:=e;rw[mS ct]at b;let c:ao (oe T.1.1=(dC ((1:Int)<=b7 T)&&dC ((b7 T:Int)<=40))):=by
    rw[oe,ao,b,oQ,uN]
    grind
   go_wp2
   all_goals
    go_ret;refine⟨e_ ?_,U⟩;rw[c]
    grind
def O4:a_ aL 143 #[am T] m λb c=>b=bh (M<|ii T.1.1)/\c=m:=by go_wp2;all_goals(go_ret;refine⟨wQ ?_,U⟩;unfold ii;simp only[gC,iE,ju,ne_eq]at*;simp[*])
def agV{i}{L:List ap}{k}(a:k<E L):pN i (bi k L)=(sR i L[k]&&pN (i+1) (bi (k+1) L)):=by rw[jM a];rfl
def Bp(A:dx m)(B:b7 T<=fk):a_ aL 132 #[am T] m (cI (aG<|jh T.1.1) m):=by
 unfold fk at B;by_cases H:60<(b7 T:Int);{have a:ao (jh T.1.1=ak):=by{rw[jh,ao,oQ];grind};go_wp2;go_ret;exact⟨e_<|b5 a,cU _ _⟩};have q:ao (jh T.1.1=pN 0 (I 46 T.1.1)):=by{rw[jh,ao,oQ];grind};have p:=O<|b5<|q4 46 T;have D:=O<|Bn 46 T;have y:=Bo m<|h9 46 T;have r:=sT T 46 A G;have d:a6 m (aN m<|aZ (c7<|(h9 46 T).map am) 9):=cf cc bo _;have P:E (h9 46 T)<=61:=by{have:=nM 46 T.1.1;rw[<-q4,ff,oQ]at this;omega};generalize h9 46 T=L at*;generalize aN m (aZ (c7<|L.map am) 9)=F at*;have w:=O r;have n:=O d;clear r d;let⟨Q,o⟩:=y;replace o:=O o;go_in;go_wp2_with (go_at_call 73;refine w.m ?_;rintro l rfl);go_loop [11] (λi=>∃k:Nat,k<=E L/\i=M k/\pN k (bi k (b9 (·.data.1) L))=pN 0 (b9 (·.data.1) L)) λi=>E L-cM (intOf i);·grind
 ·(
 obtain⟨k,K,rfl,x⟩:=hrel;have c:=O x;by_cases u:k<E L;{
 have z:=o k u;rw[fM]at z;have e:=O (agV (i:=k) (L:=b9 (·.data.1) L) (k:=k) (by grind));rw[pH]at e;have h:L[k].size<=fk:=by{have:=D L[k]<|ei u;unfold fk;omega};generalize L[k]=g at*;by_cases d:kr g.1.1=aD;{
 go_wp2_with (go_at_call 184;refine(Dz h).m ?_;rintro l rfl);go_round;·exact⟨k+1,G,dd,by rw[<-c,e];simp[sR,d]⟩
 ·exact qD};{
 have t:kr g.1.1=ak:=by grind
 clear d;by_cases N:0<(k:Int);{
 let a:ao (jh T.1.1=ak):=by{
 rw[ao,q,p,<-c,e];have:(k==0)=ak:=by grind
 simp[sR,t,this]};go_wp2_with (go_at_call 184;refine(Dz h).m ?_;rintro l rfl);go_ret;exact bd (e_<|b5 a) n};{
 obtain rfl:k=0:=G;by_cases j:g.1.1=[42];{
 let C:(g.toList==[42])=aD:=by rw[gC,j];rfl
 go_wp2_with (go_at_call 184;refine(Dz h).m ?_;rintro l rfl);go_round;·exact⟨0+1,G,dd,by rw[<-c,e];simp[sR,j]⟩
 ·exact qD};{
 let C:(g.toList==[42])=ak:=by rw[gC,ju];exact j
 let a:ao (jh T.1.1=ak):=by{rw[ao,q,p,<-c,e];simp[sR,t,j]};go_wp2_with (go_at_call 184;refine(Dz h).m ?_;rintro l rfl);go_ret;exact bd (e_<|b5 a) n}}}};{let a:ao (jh T.1.1=aD):=by{rw[ao,q,p,<-c,pT<|by grind];rfl};go_wp2;go_ret;exact bd (e_<|b5 a) n})
def O5(s a):a_ aL 133 #[am s] a λc b=>c=bh (aG<|oZ s.1.1)/\b=a:=by go_in;go_wp2_with (go_at_call 185;refine(Tryz.strings_HasPrefix s _ _).m ?_;rintro b rfl);go_ret;exact oa
def r7{s}(d:dx m)(e:b7 s<=fk):a_ aL 70 #[am s] m (cI (aG<|eL s.1.1) m):=by
 cases g:jh s.1.1
 ·let a:ao (eL s.1.1=ak):=by rw[eL,g];rfl
  go_in;go_wp2_with (go_at_call 132;refine(Bp d e).m λh b=>?_);go_ret;exact bd (e_<|b5 a) b
 ·let a:ao (eL s.1.1 = !oZ s.1.1):=by rw[eL,g];rfl
  go_in;go_wp2_with (first
   |(go_at_call 132;refine(Bp d e).m λh b=>?_)
   |(go_at_call 133;refine(O5 s _).m ?_;rintro h rfl))
  go_ret;exact bd (e_<|b5 a) b
def yV{a:ByteArray}:(T.toList==a.toList)=(T.1.1==a.1.1):=by rw[gC,gC]
def AZ(s a d)(i:b7 s<=1000000)(h:b7 a<=1000000):a_ aL 86 #[am s,am a] d λg e=>g=bh (aG<|fx s.1.1 a.1.1)/\e=d:=by cases b:(s.toList==a.toList);{have c:ao (fx s.1.1 a.1.1=Lib.hasSuffix s.1.1 (⟨#[46]⟩++a:ByteArray).1.1):=by{rw[yV]at b;rw[fx,ao,b];simp};go_in;go_wp2_with (go_at_call 155;refine(Tryz.strings_HasSuffix s _ _ G).m ?_;rintro e rfl);go_ret;exact bd (e_<|b5 c) U};{have c:ao (fx s.1.1 a.1.1=aD):=by{rw[yV]at b;rw[fx,ao,b];rfl};go_wp2;go_ret;exact bd (e_<|b5 c) U}
def agW(a)(d:b7 T<=1000000):a_ aL 256 #[am T] a λb c=>b=bh (am ⟨c7 (42::46::T.1.1)⟩)/\c=a:=by go_wp2;go_ret;exact bd (O2 ax) U
def O6:∀(e:ap) (b m:Nat),mB n b e=ae m->b<=n->m<=n
 |[],b,m,a,d=>by simp[mB]at a;omega
 |h::g,b,m,a,d=>by unfold mB at a;split at a;{split at a;{exact O6 g _ m a G};grind};grind
def C8{c d e}(g:j=q)(h:d=e):bh (bZ #[ag c j,aG d])=bh (bZ #[ag c q,aG e]):=by grind
def NV(h:φ:=by go_wp2;go_ret2;exact⟨C8 (by rw[jF,hn];rfl) (by rw[ft,hn];rfl),U⟩):φ:=h
def Iq(a:Nat)(t:b7 T<=fk)(C:a<=4294967295):a_ aL 142 #[am T,ag .u64 a] m λp y=>p=bh (bZ #[ag .u64<|jF a T.1.1,aG<|ft a T.1.1])/\y=m:=by
 unfold fk at t;by_cases z:b7 T=0
 ·let j:T.toList=[]:=by simp_all
  let hn:ao (pM a T.1.1=af):=by
   rw[<-gC,j];rfl
  exact NV
 have j:(T.toList==[])=ak:=by
  rw[gC,ju];intro e;have:=eQ List.length e;rw[oQ]at this
  grind
 let o:0<b7 T:=G;have g:=OZ o;rw[pW]at g;by_cases l:(T[0].toNat:Int)=48/\(1:Int)<b7 T
 ·have hn:ao (pM a T.1.1=af):=by
   rw[g,pM];exact b8 ⟨G,λe=>by have:=eQ List.length e;exact At⟩
  exact NV
 have hn:ao (pM a T.1.1=mB a 0 T.1.1):=by
  rw[g,pM];exact bV (λe=>l ⟨G,by
   have:bi (0+1) T.1.1≠[]:=e.2;rw[ne_eq,List.drop_eq_nil_iff,oQ]at this;omega⟩)
 clear g;have u:(T[0].toNat:Int)=48/\(b7 T:Int)<=1\/¬(T[0].toNat:Int)=48:=G;clear l;rcases u with⟨w,F⟩|w
 all_goals
  go_wp2
  go_loop [6,22] (λx h=>∃b n:Nat,b<=b7 T/\h=M b/\x=ag .u64 n/\n<=a/\mB a n (bi b T.1.1)=mB a 0 T.1.1) λ_ h=>b7 T-cM (intOf h)
  ·exact⟨0,0,dJ _,U,U,dJ _,dl⟩
  ·obtain⟨b,n,B,rfl,rfl,D,d⟩:=hrel;replace d:=O d;by_cases r:b<b7 T
   ·let i:=O<|OZ r;by_cases q:(48:Int)<=(T[b].toNat:Int)/\(T[b].toNat:Int)<=57
    ·have:=q;have:(n:Int)<=4294967295:=G;let k:ao (mB a n (bi b T.1.1)=if 10*n+(T[b].toNat-48)<=a then mB a (10*n+(T[b].toNat-48)) (bi (b+1) T.1.1)else af):=by
      rw[i,ao]
      conv=>lhs;rw[mB,b8 (by simp[pF];omega)]
     by_cases A:10*(n:Int)+((T[b].toNat:Int)-48)<=(a:Int)
     ·go_wp2
      go_round
      ·exact⟨b+1,10*n+(T[b].toNat-48),G,dd,dd,G,by rw[<-d,k,b8 G]⟩
      ·exact qD
     ·let c:ao (pM a T.1.1=af):=by
       rw[hn,ao,<-d,k,bV G]
      go_wp2;go_ret2;exact⟨C8 (by rw[jF,c];rfl) (by rw[ft,c];rfl),U⟩
    ·let c:ao (pM a T.1.1=af):=by
      rw[hn,ao,<-d,i,mB,bV (by simp[pF];omega)]
     go_wp2
     all_goals
      first
      |(exfalso;omega)
      | (go_ret2
         exact⟨C8 (by rw[jF,c];rfl) (by rw[ft,c];rfl),U⟩)
   ·let c:ao (pM a T.1.1=ae n):=by
     rw[hn,ao,<-d,pT<|by simp_all];rfl
    go_wp2;go_ret2;exact⟨C8 (by rw[jF,c];rfl) (by rw[ft,c];rfl),U⟩
def y_(a:Nat)(g:b7 T<=fk)(e:a<=4294967295):a_ aL 197 #[am T,ag .u64 a] m λd c=>d=bh (aG<|ft a T.1.1)/\c=m:=by go_in;go_wp2_with (go_at_call 142;refine(Iq a g e).m ?_;rintro c rfl);go_ret;simp
def tP(a:ap):Bool:=(I 46 a).all (ft 255)&&E (I 46 a)==4
def et(b:Int)(ci:List ap):Bool:=
 if b=6 then(match ci with
  |[a,c,d,e]=>eL a&&eL c&&ft 4294967295 d&&ft 86400 e
  |_=>ak)
 else if b=2\/b=5 then(match ci with
  |[a]=>eL a
  |_=>ak)
 else if b=1 then(match ci with
  |[a]=>tP a
  |_=>ak)
 else if b=16 then(match ci with
  |[a]=>oe a
  |_=>ak)
 else if b=15 then(match ci with
  |[a,c]=>ft 65535 a&&eL c
  |_=>ak)
 else ak
def agX(w:dx m)(F:b7 T<=3000):a_ aL 198 #[am T] m (cI (aG<|tP T.1.1) m):=by
 have l:=O<|b5<|q4 46 T;have z:=O<|Bn 46 T;have t:=Bo m<|h9 46 T;have p:=sT T 46 w G;have k:a6 m (aN m<|aZ (c7<|(h9 46 T).map am) 9):=cf cc bo _;have D:E (h9 46 T)<=3001:=by{have:=nM 46 T.1.1;rw[<-q4,ff,oQ]at this;omega};generalize h9 46 T=a at*;generalize aN m (aZ (c7<|a.map am) 9)=B at*;have q:=O p;have j:=O k;let⟨H,e⟩:=t;replace e:=O e;go_in;go_wp2_with (go_at_call 73;refine q.m ?_;rintro o rfl);go_loop [10] (λh=>∃b:Nat,b<=E a/\h=M b/\(be b (b9 (·.data.1) a)).all (ft 255)=aD) λh=>E a-cM (intOf h);·grind
 ·(
 obtain⟨b,C,rfl,r⟩:=hrel;have i:=O r;by_cases g:b<E a;{
 have u:=e b g;rw[fM]at u;have y:ao (be (b+1) (b9 (·.data.1) a)=be b (b9 (·.data.1) a)++[a[b].1.1]):=by{rw[ao,g8<|by grind,pH]};have x:ao (a[b].1.1∈b9 (·.data.1) a):=Be<|ei g;have n:a[b].size<=fk:=by{have:=z a[b]<|ei g;unfold fk;omega};generalize a[b]=A at*;cases k:ft 255 A.1.1;{let d:ao (tP T.1.1=ak):=by{rw[ao,tP,l,yN,AW];exact bJ ⟨_,x,by grind⟩};go_wp2_with (go_at_call 197;refine(y_ 255 n G).m ?_;rintro o rfl);go_ret;exact bd (e_<|b5 d) j};{
 go_wp2_with (go_at_call 197;refine(y_ 255 n G).m ?_;rintro o rfl);go_round;·exact⟨b+1,G,dd,by rw[y,wC,i];grind⟩
 ·exact qD}};{let d:ao (tP T.1.1=((E a:Int)==4)):=by{have:=i;rw[mS<|by grind]at this;rw[ao,tP,l,this,uN,ff,pR,iE,iE];omega};go_wp2;go_ret;exact bd (e_<|b5 d) j})
def m9(ci:List ByteArray):List ap:=b9 (·.data.1) ci
def Cy(h:φ:=by split;{exact absurd U h};{rfl}):φ:=h
def agY(ci:List ap)(h:E ci≠4):et 6 ci=ak:=by unfold et;rw[b8 U];exact Cy
def O7(b:j=2\/j=5){ci:List ap}(h:E ci≠1):et j ci=ak:=by unfold et;rw[bV G,b8 b];exact Cy
def agZ(ci:List ap)(h:E ci≠1):et 1 ci=ak:=by unfold et;rw[bV G,bV G,b8 U];exact Cy
def agF(ci:List ap)(h:E ci≠1):et 16 ci=ak:=by unfold et;rw[bV G,bV G,bV G,b8 U];exact Cy
def agG(ci:List ap)(h:E ci≠2):et 15 ci=ak:=by unfold et;rw[bV G,bV G,bV G,bV G,b8 U];exact Cy
def cS(a:Int)(ci:List ap)(e:a≠6)(g:a≠2)(h:a≠5)(d:a≠1)(b:a≠16)(c:a≠15):et a ci=ak:=by unfold et;rw[bV e,bV G,bV d,bV b,bV c]
def Av(h:φ:=by simpa [m9]using h4):φ:=h
def EN(h:φ:=by let:=hsz x0 ax;unfold fk;omega):φ:=h
def AD(h:φ:=by go_wp2;go_ret;exact⟨e_<|b5 bK,cU _ _⟩):φ:=h
def agH{ci:List ByteArray}{h:aQ}(g:dx h)(t:qG h n 0 ci)(hsz:∀B∈ci,b7 B<=3000)(D:E ci<=3001):a_ aL 144 #[M 6,bL n 0 (E ci) v] h (cI (aG<|et 6<|m9 ci) h):=by
 by_cases h4:E ci=4;{
 match ci,h4 with
 |[x0,d,e,i],_=>
 let bK:ao (et 6 (m9 [x0,d,e,i])=(eL x0.1.1&&eL d.1.1&&ft 4294967295 e.1.1&&ft 86400 i.1.1)):=U;let x:b7 x0<=fk:=EN
 let u:b7 d<=fk:=by let:=hsz d ax;unfold fk;omega
 let y:b7 e<=fk:=by let:=hsz e ax;unfold fk;omega
 let z:b7 i<=fk:=by let:=hsz i ax;unfold fk;omega
 let:bY h n 0 (am x0):=t.2 0 ax;let r:=O t;cases o:eL x0.1.1;{go_in;go_wp2_with (go_at_call 70;refine(r7 g x).m λk a=>?_);go_ret;exact⟨e_ (by rw[bK,o];rfl),a⟩};cases w:eL d.1.1;{go_in;go_wp21;refine(r7 g x).m λk a=>?_;let l:=g.below a;have b:=r.below a;let bG:bY k n 1 (am d):=b.2 1 ax;replace b:=O b;go_wp2_with (go_at_call 70;refine(r7 l u).m λp j=>?_);go_ret;exact⟨e_ (by rw[bK,o,w];rfl),bC a<|bN j a.4⟩};cases A:ft 4294967295 e.1.1;all_goals(go_in;go_wp21;refine(r7 g x).m λk a=>?_;let l:=g.below a;have b:=r.below a;let bG:bY k n 1 (am d):=b.2 1 ax;replace b:=O b;go_wp21;refine(r7 l u).m λp j=>?_;let q:=b.below j;let:bY p n 2 (am e):=q.2 2 ax;let:bY p n 3 (am i):=q.2 3 ax;go_wp21;refine(y_ 4294967295 y G).m ?_;rintro F rfl;go_wp2_with (go_at_call 197;refine(y_ 86400 z G).m ?_;rintro H rfl);go_ret;exact⟨e_ (by rw[bK,o,w,A];rfl),bC a<|bN j a.4⟩)};{
 let bK:ao (et 6 (m9 ci)=ak):=by{exact agY _ Av};let C:((E ci:Int)==4)=ak:=iQ
 exact AD}
def LW(h:φ:=by
 let s0:b7 x0<=fk:=by let:=hsz x0 ax;unfold fk;omega
 let:bY w b 0 (am x0):=hat.2 0 ax;go_in;go_wp2_with (go_at_call 70;refine(r7 hg s0).m λw1 hb1=>?_);go_ret;exact bd U hb1):φ:=h
def agI{b:Nat}{ci:List ByteArray}{w:aQ}(hg:dx w)(hat:qG w b 0 ci)(hsz:∀c∈ci,b7 c<=3000)(e:E ci<=3001):a_ aL 144 #[M 2,bL b 0 (E ci) n] w (cI (aG<|et 2<|m9 ci) w):=by
 by_cases h4:E ci=1;{
 match ci,h4 with
 |[x0],_=>
 exact LW};{
 let bK:ao (et 2 (m9 ci)=ak):=O7 (bJ U) Av;let d:((E ci:Int)==1)=ak:=iQ
 exact AD}
def agJ{b:Nat}{ci:List ByteArray}{w:aQ}(hg:dx w)(hat:qG w b 0 ci)(hsz:∀c∈ci,b7 c<=3000)(e:E ci<=3001):a_ aL 144 #[M 5,bL b 0 (E ci) n] w (cI (aG<|et 5<|m9 ci) w):=by
 by_cases h4:E ci=1;{
 match ci,h4 with
 |[x0],_=>
 exact LW};{
 let bK:ao (et 5 (m9 ci)=ak):=O7 (bE U) Av;let d:((E ci:Int)==1)=ak:=iQ
 exact AD}
def agK{ci:List ByteArray}(g:dx m)(d:qG m n 0 ci)(hsz:∀i∈ci,b7 i<=3000)(k:E ci<=3001):a_ aL 144 #[M 1,bL n 0 (E ci) v] m (cI (aG<|et 1<|m9 ci) m):=by
 by_cases h4:E ci=1;{
 match ci,h4 with
 |[x0],_=>
 let l:b7 x0<=fk:=EN
 let h:=hsz x0 ax;let:bY m n 0 (am x0):=d.2 0 ax;go_in;go_wp2_with (go_at_call 198;refine(agX g h).m λa e=>?_);go_ret;exact bd U e};{
 let bK:ao (et 1 (m9 ci)=ak):=agZ _ Av;let j:((E ci:Int)==1)=ak:=iQ
 exact AD}
def agL{ci:List ByteArray}(i:dx m)(d:qG m n 0 ci)(hsz:∀g∈ci,b7 g<=3000)(j:E ci<=3001):a_ aL 144 #[M 16,bL n 0 (E ci) v] m (cI (aG<|et 16<|m9 ci) m):=by
 by_cases h4:E ci=1;{
 match ci,h4 with
 |[x0],_=>
 let e:b7 x0<=fk:=EN
 let:bY m n 0 (am x0):=d.2 0 ax;go_in;go_wp2_with (go_at_call 199;refine(agS e).m ?_;rintro k rfl);go_ret;exact bd U<|cU _ _};{
 let bK:ao (et 16 (m9 ci)=ak):=agF _ Av;let h:((E ci:Int)==1)=ak:=iQ
 exact AD}
def agM{ci:List ByteArray}(k:dx m)(d:qG m n 0 ci)(hsz:∀a∈ci,b7 a<=3000)(p:E ci<=3001):a_ aL 144 #[M 15,bL n 0 (E ci) v] m (cI (aG<|et 15<|m9 ci) m):=by
 by_cases h4:E ci=2
 ·match ci,h4 with
  |[x0,b],_=>
  let bK:ao (et 15 (m9 [x0,b])=(ft 65535 x0.1.1&&eL b.1.1)):=U;let e:b7 x0<=fk:=EN
  let l:b7 b<=fk:=by let:=hsz b ax;unfold fk;omega
  let:bY m n 0 (am x0):=d.2 0 ax;let:bY m n 1 (am b):=d.2 1 ax;cases g:ft 65535 x0.1.1
  ·go_in;go_wp2_with (go_at_call 197;refine(y_ 65535 e G).m ?_;rintro h rfl);go_ret;exact⟨e_ (by rw[bK,g];rfl),cU _ _⟩
  ·go_in;go_wp2_with (first
    |(go_at_call 197;refine(y_ 65535 e G).m ?_;rintro h rfl)
    |(go_at_call 70;refine(r7 k l).m λh j=>?_))
   go_ret;exact⟨e_ (by rw[bK,g];rfl),j⟩
 ·let bK:ao (et 15 (m9 ci)=ak):=agG _ Av;let o:((E ci:Int)==2)=ak:=iQ
  exact AD
def agN{ci:List ByteArray}(h:j≠6)(e:j≠2)(g:j≠5)(d:j≠1)(b:j≠16)(c:j≠15):a_ aL 144 #[M j,bL n 0 (E ci) v] m (cI (aG<|et j<|m9 ci) m):=by let k:=O<|cS j (m9 ci) h e g d b c;let:=ju.2 h;let:=ju.2 e;let:=ju.2 g;let:=ju.2 d;let:=ju.2 b;let:=ju.2 c;go_wp2;go_ret;exact⟨e_<|b5 k,cU _ _⟩
def agO{ci:List ByteArray}(c:dx m)(b:qG m n 0 ci)(e:∀q∈ci,b7 q<=3000)(d:E ci<=3001):a_ aL 144 #[M j,bL n 0 (E ci) v] m (cI (aG<|et j<|m9 ci) m):=by by_cases o:j=6;{subst o;exact agH c b e d};by_cases l:j=2;{subst l;exact agI c b e d};by_cases g:j=5;{subst g;exact agJ c b e d};by_cases k:j=1;{subst k;exact agK c b e d};by_cases h:j=16;{subst h;exact agL c b e d};by_cases i:j=15;{subst i;exact agM c b e d};exact agN o l g k h i
def D(a:ap):ByteArray:=⟨c7 a⟩
abbrev aS(a:List UInt8):bk:=am<|D a
def Ir:D T.1.1=T:=dl
def o8:(D d).1.1=d:=rfl
def cV(a):b7 (D a)=E a:=dl
abbrev aK:=ap×Nat×Int×ap
variable{p:List aK}
def aK.owner(a:aK):ap:=a.1
def aK.aP(a:aK):Nat:=a.2.1
def aK.type(a:aK):Int:=a.2.2.1
def aK.data(a:aK):ap:=a.2.2.2
def aK.zero:aK:=([],0,0,[])
def aK.bz(a:aK):List bk:=[am<|D a.owner,M a.aP,M a.type,am<|D a.data]
def aK.zN(a:aK):bk:=ce #[am<|D a.owner,M a.aP,M a.type,am<|D a.data]
def iB(e:ap):Option aK:=
 match Lib.splitN e [32] 4 with
 |[a,b,c,d]=>if jh a&&ft 86400 b&&et (ii c) (I 32 d)then ae (a,jF 86400 b,ii c,d)else af
 |_=>af
def qI(a:Option aK):bk:=bZ #[(a.getD aK.zero).zN,aG a.isSome]
def Is(e):∀(d:Nat) (b:ap),∀c∈Lib.splitK [e] 0 d b,E c<=E b
 |0,b,c,a=>by simp[Lib.splitK]at a;grind
 |d+1,b,c,a=>by unfold Lib.splitK at a;split at a;{grind};{rw[fw]at a;rcases a with rfl|a;{grind};{have:=Is e d _ c a;grind}}
def p0(s:ByteArray):List ByteArray:=Lib.splitB ⟨#[32]⟩ 0 (min 4 (b7 s+1)-1) s
def It:b9 (·.data.1) (p0 T)=Lib.splitN T.1.1 [32] 4:=by rw[p0,Lib.splitB_data];rfl
def ag0(s):E (p0 s)<=4:=by let:=Lib.splitB_length_le ⟨#[32]⟩ 0 (min 4 (b7 s+1)-1) s;unfold p0;omega
def ahs(s a)(b:a∈p0 s):b7 a<=b7 s:=by let:a.1.1∈Lib.splitN s.1.1 [32] 4:=by{rw[<-It];grind};let:=Is 32 _ _ _ this;assumption
def aht(b:aQ)(a c):qG (aN b<|aZ (Lib.cellsOf a c) 9) (J b.1) 0 a:=by refine bd ax<|λe d=>?_;rw[fM];simp[Lib.cellsOf,d,List.getElem?_append]
def O8(a)(c:dx a)(g:b7 T<=3000):a_ aL 141 #[am T,am ⟨#[32]⟩,M 4] a λb e=>b=bh (bL (J a.1) 0 (E<|p0 T)<|min 4<|b7 T+1)/\e=aN a (aZ (Lib.cellsOf (p0 T)<|min 4<|b7 T+1) 9):=by let⟨_,m,d⟩:=c;exact Tryz.strings_SplitN T ⟨#[32]⟩ 4 m a G d bo G G
def ahu(d:dx m)(e:b7 T<=3000)(g:E (p0 T)≠4):a_ aL 75 #[am T] m (cI (qI af) m):=by have:=ag0 T;have b:=O8 (aN m<|aZ #[am ⟨#[]⟩,ag ai 0,ag ai 0,am ⟨#[]⟩] 83) (d.alloc _) e;generalize p0 T=c at*;let:(E c:Int)<4:=G;replace b:=O b;go_in;go_wp2_with (go_at_call 141;refine b.m ?_;rintro h rfl);exact dQ (v:=qI af) (by simp[c_,results75,go_sem,qI,aK.zN,aK.zero,aK.owner,aK.aP,aK.type,aK.data,D]) U (bd U<|(cf cc bo _).alloc ax _)
section
variable {P:Program}{α:Type}
def uq(P:Program)(t:Nat)(u:Array bk)(r:α->Array bk)(o:List α)(j p q:aQ->aQ->Prop)(k:aQ):Prop:=
 ∀(l:Nat) (b:Nat->aQ->Prop) (g:aQ->Prop),
  (∀c d e,b c d->j d e->b c e)->(∀d e,g d->j d e->g e) ->
  (∀c n h,o[c]? = ae n->b c h->YieldAt e6 0 P l (r n) h λi a=>
   (i=bh (aG aD)/\b (c+1) a/\p h a)\/(i=bh (aG ak)/\g a/\q h a)) ->
  b 0 k ->
  CallsIn e6 0 P t (#[ez (.yield l) #[] #[]]++u) k λi a=>(∃v,i=bh v)/\(b (E o) a\/g a)
def io(a:Nat)(b c:aQ):Prop:=J b.1<=J c.1/\c.1[a]? = b.1[a]?/\c.1[a+1]? = b.1[a+1]?
def ko(b:Nat)(c:Loop)(a:aQ):Prop:=a.1[b+1]? = ae (dq c)/\a.1[b]? = ae (df<|ae [])
def FB(c:Nat)(e:aQ->Prop)(d:mp->aQ->Prop)(b:aQ):wh->kq->aQ->Prop
 |.normal,_,a=>io c b a/\e a
 |.ret,_,a=>io c b a/\d .ret a
 |.exit g,_,a=>io c b a/\d (.exit g) a
 |.goto h,_,a=>io c b a/\d (.goto h) a
 |_,_,_=>False
def Iu(h:Nat)(e i:aQ->aQ->Prop)(c:aQ->Prop)(d:mp->aQ->Prop)(b:aQ):wh->kq->aQ->Prop:=FB h (λa=>e b a/\c a) (λg a=>i b a/\d g a) b
def CS{a:Fence}{n p:mp}{h i:wh->kq->aQ->Prop}{o:kq}(q:n.wpIn a 0 P (Exit.then (λe d=>d=m/\p.wpIn a 0 P h e u) λ_ _ _=>False) o m)(r:∀c l k,h c l k->i c l k):n.wpIn a 0 P (Exit.then (λe d=>d=m/\p.wpIn a 0 P i e u) λ_ _ _=>False) o m:=
 wpIn_mono q λc _ _ g=>by cases c<;>first|exact⟨g.1,wpIn_mono g.2 r⟩|exact g.elim
section
variable {g:Operand} {ps:Array Tmp} {assign body:Code} {Q:Exit->Act->World->Prop} {a:Act} {w:World} {gf:Nat}{lb:Array Value} (hg:a.eval g=.func (.func gf) #[] lb) (eg:∀args w,(callFunc gf args).run P w=.ok (.enter gf args) w) {encs:α->Array Value} (jP:∀x,(encs x).size=ps.size)
include hg eg jP
theorem Ob(Z C:aQ->Prop)(B:Nat->α->aQ->Prop)(K Y:Nat->α->aQ->aQ->Prop)(L I:mp->aQ->aQ->Prop)(A:mp->aQ->Prop)(aw:∀(e:Loop) (ap:mp->Loop),(∀h x b,B h x b->ko (J w.1) e b->YieldAt e6 0 P (J w.1+1) (encs x) b λp l=>(p=bh (aG aD)/\K h x b l/\ko (J w.1) e l)\/(p=bh (aG ak)/\∃c,L c b l/\ko (J w.1) (ap c) l)) ->
   ∀H,Z H->ko (J w.1) e H->CallsIn e6 0 P gf (#[ez (.yield<|J w.1+1) #[] #[]]++lb) H λp l=>(∃v,p=bh v)/\((C l/\ko (J w.1) e l)\/∃c,A c l/\ko (J w.1) (ap c) l))(aY:∀h x i e z,B h x i->i.1[J w.1+1]? = ae (dq e)->B h x (ep i (J w.1+1) z))(ay:∀i e z,C i->i.1[J w.1+1]? = ae (dq e)->C (ep i (J w.1+1) z))(az:∀c i e z,A c i->i.1[J w.1+1]? = ae (dq e)->A c (ep i (J w.1+1) z))(aK:∀h x b e q X d,b.1[J w.1+1]? = ae (dq e)->io (J w.1) (ep b (J w.1+1)<|dq q) d->d.1[J w.1+1]? = ae (dq q)->Y h x (ep b (J w.1+1)<|dq q) d->K h x b (ep d (J w.1+1)<|dq X))(aM:∀c b e q X d,b.1[J w.1+1]? = ae (dq e)->io (J w.1) (ep b (J w.1+1)<|dq q) d->d.1[J w.1+1]? = ae (dq q)->I c (ep b (J w.1+1)<|dq q) d->L c b (ep d (J w.1+1)<|dq X))(a6:∀e,Z<|aN (aN w<|df<|ae [])<|dq e)(ar:∀(an h:Nat) (x:α) (aa b:aQ),B h x b->J w.1+2<=J b.1->b.1[J w.1]? = ae (df<|ae [])->(∃e,b.1[J w.1+1]? = ae (dq e)) ->
   assign.wpIn (e6.inRound an) 0 P (Exit.then (λaB av=>av=aa/\body.wpIn (e6.inRound an) 0 P (FB (J w.1) (Y h x b) (λc=>I c b) b) aB b) λ_ _ _=>False) {tmps:=(ps.zip<|encs x).foldl (λaq (aW,v)=>aq.setIfInBounds aW v) a.1,defers:=[]} aa)(aP:∀b,C b->b.1[J w.1]? = ae (df<|ae [])->J w.1+2<=J b.1->Q ky {a with defers:={target:=.collected<|J w.1,args:=#[]}::a.2} b)(a0:∀c b,A c b->b.1[J w.1]? = ae (df<|ae [])->J w.1+2<=J b.1->c.wpIn e6 0 P Q {a with defers:={target:=.collected<|J w.1,args:=#[]}::a.2} b):(Code.rangeFunc g ps assign body).wpIn e6 0 P Q a w:=by
 refine wpIn_rangeFunc λfn aR=>?_;let⟨k,F⟩:=bm (λaH aX=>{state:=aH,pending:=aX,fn,tmps:=a.1,params:=ps,assign,body,defers:=J w.1}:LoopState->Option mp->Loop)
 have au:=run_enterLoop_outer (P:=P) (w:=w) fn a.1 ps assign body;let⟨D,R⟩:=du<|aN (aN w<|df<|ae [])<|dq<|k .ready af
 refine⟨_,_,D,{target:=.fn (.func gf) lb,args:=#[ez (.yield<|J w.1+1) #[] #[]]},D,gf,#[ez (.yield<|J w.1+1) #[] #[]]++lb,D,by rw[<-R,F];exact au,?_,λ_ _=>cy,?_,λaF=>by simp[e6]at aF,?_⟩
 ·simp only[resolve,hg];simp[go_sem]
 ·simp[invoke,go_sem,eg]
 have aT:=aw (k .ready af) (λc=>k .done<|ae c)
  (λh x b aI ⟨r,aJ⟩=>by
   have aj:=run_yield (P:=P) (args:=encs x) r (by grind);rw[F]at aj;have aS:=(dK.1 r).1;let⟨n,aV⟩:=bm<|{k .ready af with state:=.busy};have ac:(ep b (J w.1+1)<|dq n).1[J w.1+1]? = ae (dq n):=World.putObj_heap_same aS;have ad:(ep b (J w.1+1)<|dq n).1[J w.1]? = ae (df<|ae []):=(jB G).trans aJ;refine⟨fn,_,assign,body,aj,roundIn_of_wpIn aR<|wpIn_mono (ar _ h x b (ep b (J w.1+1)<|dq n) (aY h x b _ _ aI r) (by grind) ad ⟨_,ac⟩) ?_⟩;rintro ab a3 a1 al;have aC:ab=ky:=by cases ab<;>first|rfl|exact al.elim
   subst aC;let⟨W,aU⟩:=al
   replace W:=b5 W
   subst W;refine⟨_,aV▸run_beginRound r (by grind),wpIn_mono aU ?_⟩;have ah:∀(j:Option mp) (d:aQ),io (J w.1) (ep b (J w.1+1)<|dq n) d ->
     (Instr.endRound (J w.1+1) j).run P d=.ok (aG j.isNone) (ep d (J w.1+1)<|dq<|k (if j.isNone then .ready else .done) j) /\
     d.1[J w.1+1]? = ae (dq n)/\ko (J w.1) (k (if j.isNone then .ready else .done) j) (ep d (J w.1+1)<|dq<|k (if j.isNone then .ready else .done) j):=λj d u=>by
    have T:=cQ u.2.2 ac;have:=run_endRound (P:=P) j T;refine⟨?_,T,World.putObj_heap_same (dK.1 T).1,(jB G).trans<|cQ u.2.1 ad⟩
    grind
   have V:∀(c:mp) (d:aQ),io (J w.1) (ep b (J w.1+1)<|dq n) d/\I c (ep b (J w.1+1)<|dq n) d ->
     ∃v t,(Instr.endRound (J w.1+1)<|ae c).run P d=.ok v t/\((bh v=bh (aG aD)/\K h x b t/\ko (J w.1) (k .ready af) t)\/(bh v=bh (aG ak)/\∃c,L c b t/\ko (J w.1) (k .done<|ae c) t)):=λc d ⟨u,aO⟩=>by
    let⟨M,N,O⟩:=ah (ae c) d u;exact⟨_,_,M,bE ⟨U,c,aM _ _ _ _ _ _ r u N aO,O⟩⟩
   rintro p a4 d o;cases p with
   |normal=>
    let⟨M,N,O⟩:=ah af d o.1;exact⟨_,_,M,bJ ⟨U,aK _ _ _ _ _ _ _ r o.1 N o.2,O⟩⟩
   |ret=>exact V _ _ o
   |exit a8=>exact V _ _ o
   |goto aq=>exact V _ _ o
   |panic a5=>exact o.elim
   |outgrown=>exact o.elim)
  D (by grind) ⟨by rw[<-R];have:=cW (aN w<|df<|ae [])<|dq<|k .ready af;simp_all,R▸(dv _ _ _ ax).trans (cW w _)⟩
 refine aT.mono ?_;rintro p a2 ⟨⟨v,rfl⟩,⟨aO,y,S⟩|⟨c,aO,y,S⟩⟩
 ·let:=run_endLoop (P:=P) y (by grind);exact⟨af,_,by rw[this,F],aP _ (ay _ _ _ aO y) ((jB G).trans S) (by rw[wj];grind)⟩
 ·let:=run_endLoop (P:=P) y (by grind);exact⟨ae c,_,by rw[this,F],a0 c _ (az _ _ _ _ aO y) ((jB G).trans S) (by rw[wj];grind)⟩
variable {xs:List α}{St Kp Kx:World->World->Prop} (hseq:∀r,uq P gf lb encs xs St Kp Kx ((w.alloc (.deferred (some []))).alloc (.loop r)))
include hseq
theorem NZ
  (j:Nat->aQ->Prop) (l:mp->aQ->Prop)(Y:∀c i,J w.1+2<=J c.1->St c i->io (J w.1) c i)(R:∀e c i,j e c->St c i->j e i) (ab:∀h c i,l h c->St c i->l h i)(I:∀e c r z,j e c->c.1[J w.1+1]? = ae (dq r)->j e (ep c (J w.1+1) z))(L:∀h c r z,l h c->c.1[J w.1+1]? = ae (dq r)->l h (ep c (J w.1+1) z))(F:∀r,j 0<|aN (aN w<|df<|ae [])<|dq r)(C:aQ->aQ->Prop)(ah:∀b r n q o,b.1[J w.1+1]? = ae (dq r)->C (ep b (J w.1+1)<|dq n) o->io (J w.1) (ep b (J w.1+1)<|dq n) o->Kp b (ep o (J w.1+1)<|dq q))(H:aQ->aQ->Prop)(S:∀b r n q o,b.1[J w.1+1]? = ae (dq r)->H (ep b (J w.1+1)<|dq n) o->io (J w.1) (ep b (J w.1+1)<|dq n) o->Kx b (ep o (J w.1+1)<|dq q))(M:∀(B e:Nat) (x:α) (A b:aQ),xs[e]? = ae x->j e b->J w.1+2<=J b.1->b.1[J w.1]? = ae (df<|ae [])->(∃r,b.1[J w.1+1]? = ae (dq r)) ->
   assign.wpIn (e6.inRound B) 0 P (Exit.then (λO N=>N=A/\body.wpIn (e6.inRound B) 0 P (Iu (J w.1) C H (j<|e+1) l b) O b) λ_ _ _=>False) {tmps:=(ps.zip<|encs x).foldl (λad (Z,v)=>ad.setIfInBounds Z v) a.1,defers:=[]} A)(T:∀b,j (E xs) b->b.1[J w.1]? = ae (df<|ae [])->J w.1+2<=J b.1->Q ky {a with defers:={target:=.collected<|J w.1,args:=#[]}::a.2} b)(aj:∀h b,l h b->b.1[J w.1]? = ae (df<|ae [])->J w.1+2<=J b.1->h.wpIn e6 0 P Q {a with defers:={target:=.collected<|J w.1,args:=#[]}::a.2} b):(Code.rangeFunc g ps assign body).wpIn e6 0 P Q a w:=by refine Ob hg eg jP (λb=>(∃r,b=aN (aN w<|df<|ae []) (dq r))/\j 0 b) (j<|E xs) (λe x b=>xs[e]? = ae x/\j e b) (λe _ b k=>j (e+1) k/\Kp b k) (λe _ b k=>C b k/\j (e+1) k) (λh b k=>l h k/\Kx b k) (λh b k=>H b k/\l h k) l ?_ (λe x c r z d X=>⟨d.1,I e c r z d.2 X⟩) (I _) L (λe x b r n q D d t G u=>⟨I _ _ _ _ u.2 G,ah b r n q D d u.1 t⟩) (λh b r n q D d t G u=>⟨L _ _ _ _ u.2 G,S b r n q D d u.1 t⟩) (λr=>⟨⟨r,U⟩,F r⟩) (λB e x A b d=>M B e x A b d.1 d.2) T aj;rintro r ac W al ⟨⟨aa,rfl⟩,F⟩ t;have K:∀c i r,ko (J w.1) r c->St c i->ko (J w.1) r i:=λc i r d p=>by{have:=Y c i (cd<|(dK.1 d.1).1) p;exact⟨cQ this.2.2 d.1,cQ this.2.1 d.2⟩};refine(hseq aa (J w.1+1) (λe b=>j e b/\ko (J w.1) r b) (λb=>∃h,l h b/\ko (J w.1) (ac h) b) (λe c i d p=>⟨R e c i d.1 p,K _ _ _ d.2 p⟩) (λc i ⟨h,d,y⟩ p=>⟨h,ab h c i d p,K _ _ _ y p⟩) (λe x b V d=>(W e x b ⟨V,d.1⟩ d.2).mono ?_) ⟨F,t⟩);rintro an k (⟨rfl,d,y⟩|⟨rfl,h,d,y⟩);{exact bJ ⟨U,⟨d.1,y⟩,d.2⟩};{exact bE ⟨U,⟨h,d.1,y⟩,d.2⟩}
theorem LQ
  (e:Nat->aQ->Prop) (j:mp->aQ->Prop)(I:∀c h,J w.1+2<=J c.1->St c h->io (J w.1) c h)(C:∀d c h,e d c->St c h->e d h) (L:∀i c h,j i c->St c h->j i h)(R:∀d c r q,e d c->c.1[J w.1+1]? = ae (dq r)->e d (ep c (J w.1+1) q))(N:∀i c r q,j i c->c.1[J w.1+1]? = ae (dq r)->j i (ep c (J w.1+1) q))(B:∀r,e 0<|aN (aN w<|df<|ae [])<|dq r)(p:aQ->aQ->Prop)(O:∀b r l t k,b.1[J w.1+1]? = ae (dq r)->p (ep b (J w.1+1)<|dq l) k->io (J w.1) (ep b (J w.1+1)<|dq l) k->Kp b (ep k (J w.1+1)<|dq t))(u:aQ->aQ->Prop)(D:∀b r l t k,b.1[J w.1+1]? = ae (dq r)->u (ep b (J w.1+1)<|dq l) k->io (J w.1) (ep b (J w.1+1)<|dq l) k->Kx b (ep k (J w.1+1)<|dq t))(y:∀(o d:Nat) (x:α) (n b:aQ),xs[d]? = ae x->e d b->J w.1+2<=J b.1 ->
   assign.wpIn (e6.inRound o) 0 P (Exit.then (λA z=>z=n/\body.wpIn (e6.inRound o) 0 P (Iu (J w.1) p u (e<|d+1) j b) A b) λ_ _ _=>False) {tmps:=(ps.zip<|encs x).foldl (λM (K,v)=>M.setIfInBounds K v) a.1,defers:=[]} n)(F:∀b,e (E xs) b->b.1[J w.1]? = ae (df<|ae [])->J w.1+2<=J b.1->Q ky {a with defers:={target:=.collected<|J w.1,args:=#[]}::a.2} b)(S:∀i b,j i b->b.1[J w.1]? = ae (df<|ae [])->J w.1+2<=J b.1->i.wpIn e6 0 P Q {a with defers:={target:=.collected<|J w.1,args:=#[]}::a.2} b):(Code.rangeFunc g ps assign body).wpIn e6 0 P Q a w:=
 NZ hg eg jP hseq e j I C L R N B p O u D (λo d x n b H aO G _ _=>y o d x n b H aO G) F S
theorem ahv
  (e:Nat->aQ->Prop) (j:mp->aQ->Prop)(K:∀c h,J w.1+2<=J c.1->St c h->io (J w.1) c h)(C:∀d c h,e d c->St c h->e d h) (M:∀i c h,j i c->St c h->j i h)(S:∀d c r p,e d c->c.1[J w.1+1]? = ae (dq r)->e d (ep c (J w.1+1) p))(O:∀i c r p,j i c->c.1[J w.1+1]? = ae (dq r)->j i (ep c (J w.1+1) p))(B:∀r,e 0<|aN (aN w<|df<|ae [])<|dq r)(o:aQ->aQ->Prop)(R:∀b r n q k,b.1[J w.1+1]? = ae (dq r)->o (ep b (J w.1+1)<|dq n) k->io (J w.1) (ep b (J w.1+1)<|dq n) k->Kp b (ep k (J w.1+1)<|dq q))(t:aQ->aQ->Prop)(D:∀b r n q k,b.1[J w.1+1]? = ae (dq r)->t (ep b (J w.1+1)<|dq n) k->io (J w.1) (ep b (J w.1+1)<|dq n) k->Kx b (ep k (J w.1+1)<|dq q))(y:α->kq)(F:∀(l:Nat) (x:α) (b:aQ) (u:kq->aQ->Prop),u (y x) b ->
   assign.wpIn (e6.inRound l) 0 P (Exit.then u λ_ _ _=>False) {tmps:=(ps.zip<|encs x).foldl (λN (L,v)=>N.setIfInBounds L v) a.1,defers:=[]} b)(z:∀(l d:Nat) (x:α) (b:aQ),xs[d]? = ae x->e d b->J w.1+2<=J b.1->body.wpIn (e6.inRound l) 0 P (Iu (J w.1) o t (e<|d+1) j b) (y x) b)(G:∀b,e (E xs) b->b.1[J w.1]? = ae (df<|ae [])->J w.1+2<=J b.1->Q ky {a with defers:={target:=.collected<|J w.1,args:=#[]}::a.2} b)(T:∀i b,j i b->b.1[J w.1]? = ae (df<|ae [])->J w.1+2<=J b.1->i.wpIn e6 0 P Q {a with defers:={target:=.collected<|J w.1,args:=#[]}::a.2} b):(Code.rangeFunc g ps assign body).wpIn e6 0 P Q a w:=
 LQ hg eg jP hseq e j K C M S O B o R t D (λl d x A b I aO H=>F l x A _ ⟨U,z l d x b I aO H⟩) G T
end
def kC(c d e:Nat)(a b:aQ):Prop:=J a.1<=J b.1/\b.1[c]? = a.1[c]?/\b.1[d]? = a.1[d]?/\b.1[e]? = a.1[e]?
def kC.refl(b c d:Nat)(a:aQ):kC b c d a a:=⟨cO _,U,U,U⟩
def kC.trans{e:Nat}(a:kC n v e m u)(b:kC n v e u K):kC n v e m K:=
 ⟨cJ a.1 b.1,cQ b.2.1 a.2.1,cQ b.2.2.1 a.2.2.1,cQ b.2.2.2 a.2.2.2⟩
def kC.Pb{e b:Nat}(a:cv b m u)(i:n<b)(j:v<b)(k:e<b):kC n v e m u:=
 ⟨a.4,a.5 n i,a.5 v j,a.5 e k⟩
def ea(d:Nat)(b c:aQ):Prop:=J b.1<=J c.1/\∀a,d<=a->a<J b.1->c.1[a]? = b.1[a]?
def ea.refl(b:Nat)(a:aQ):ea b a a:=⟨cO _,λ_ _ _=>U⟩
def ea.trans{b:Nat}(a:ea b m u)(i:ea b u K):ea b m K:=
 ⟨cJ a.1 i.1,λh aO g=>(i.2 h aO<|eA g a.1).trans<|a.2 h aO g⟩
def ea.Em(c:a6 m u):ea n m u:=⟨c.4,λg _ d=>c.5 g d⟩
end
section
variable {P:Program}{α:Type}
def Gx(c:Nat)(i:List Nat)(g:aQ->Prop)(d:mp->aQ->Prop)(b:aQ):wh->kq->aQ->Prop
 |.normal,_,a=>ea c b a/\(∀e∈i,a.1[e]? = b.1[e]?)/\g a
 |.ret,_,a=>ea c b a/\d .ret a
 |.exit h,_,a=>ea c b a/\d (.exit h) a
 |.goto j,_,a=>ea c b a/\d (.goto j) a
 |.panic _,_,_=>False
 |.outgrown,_,_=>False
structure ey(d:Nat)(A B:World):Prop where
 os:B.os=A.os
 tape:B.tape=A.tape
 output:B.output=A.output
 size:A.heap.size<=B.heap.size
 block:∀k,k<A.heap.size->k≠d->B.heap[k]? = A.heap[k]?
def ey.CD(a:a6 m u):ey n m u:=⟨a.1,a.2,a.3,a.4,λg e _=>a.5 g e⟩
def ey.put{d:Nat}(a:aQ)(b:Nat)(o:Obj)(c:b=d:=by rfl):ey d a (ep a b o):=⟨U,U,U,ax,λg _ e=>jB G⟩
def ey.below{n:Nat}(a:ey v m u)(h:n<=v)(i:n<=J m.1):cv n m u:=⟨a.1,a.2,a.3,a.4,λe g=>a.5 e G G⟩
def DA(c:Nat)(i:List Nat)(g:aQ->Prop)(d:mp->aQ->Prop)(b:aQ):wh->kq->aQ->Prop
 |.normal,_,a=>io c b a/\(∀e∈i,a.1[e]? = b.1[e]?)/\g a
 |.ret,_,a=>io c b a/\d .ret a
 |.exit h,_,a=>io c b a/\d (.exit h) a
 |.goto j,_,a=>io c b a/\d (.goto j) a
 |.panic _,_,_=>False
 |.outgrown,_,_=>False
def NG(h:φ:=by have hs:=hk.1;rw[wj]at hs;refine⟨by simp_all,λk eK hk2=>?_⟩;rw[jB G,hk.2 _ G<|by simp_all,jB G]):φ:=h
def FA{d e g:Loop}(h:m.1[n+1]? = ae (dq d))(hk:ea n (ep m (n+1)<|dq e) u):ea (n+2) m (ep u (n+1)<|dq g):=by exact NG
def Oc{k:List Nat}{g:aQ->Prop}{h:mp->aQ->Prop}(b:n+2<=J m.1){e:wh}{i:kq}(a:Gx n k g h m e i u):FB n (λu=>(ea n m u/\∀j∈k,u.1[j]? = m.1[j]?)/\g u) (λl u=>ea n m u/\h l u) m e i u:=by cases e<;>first|exact⟨⟨a.1.1,a.1.2 _ bo G,a.1.2 _ G G⟩,bd a.1 a.2.1,a.2.2⟩|exact⟨⟨a.1.1,a.1.2 _ bo G,a.1.2 _ G G⟩,a.1,a.2⟩|exact a.elim
section
variable {g:Operand} {ps:Array Tmp} {assign body:Code} {Q:Exit->Act->World->Prop} {a:Act} {w:World} {gf:Nat} {lb:Array Value} (hg:a.eval g=.func (.func gf) #[] lb) (eg:∀args w,(callFunc gf args).run P w=.ok (.enter gf args) w) {encs:α->Array Value} (jP:∀x,(encs x).size=ps.size) {xs:List α}{St Kp Kx:World->World->Prop} (hseq:∀r,uq P gf lb encs xs St Kp Kx ((w.alloc (.deferred (some []))).alloc (.loop r))) (ks:List Nat) (rP:∀k∈ks,k<w.heap.size)
include hg eg jP hseq rP
theorem HP(u co:aQ->aQ->Prop)(F:∀c e,J w.1+2<=J c.1->St c e->io (J w.1) c e/\u c e)(H:∀c r y,c.1[J w.1+1]? = ae (dq r)->u c (ep c (J w.1+1) y))(O:∀r,u w<|aN (aN w<|df<|ae [])<|dq r)(ab:∀b r n o j,b.1[J w.1+1]? = ae (dq r)->io (J w.1) (ep b (J w.1+1)<|dq n) j->co (ep b (J w.1+1)<|dq n) j->(∀k∈ks,(ep j (J w.1+1)<|dq o).1[k]? = b.1[k]?)->Kp b (ep j (J w.1+1)<|dq o))(U:∀b r n o j,b.1[J w.1+1]? = ae (dq r)->co (ep b (J w.1+1)<|dq n) j->Kx b (ep j (J w.1+1)<|dq o))(p:Nat->aQ->Prop) (t:mp->aQ->Prop)(C:∀i c e,p i c->J w.1<=J c.1->u c e->p i e) (K:∀h c e,t h c->J w.1+2<=J c.1->u c e->t h e)(T:p 0 w)(L:∀(B i:Nat) (x:α) (z b:aQ),xs[i]? = ae x->p i b->J w.1+2<=J b.1->b.1[J w.1]? = ae (df<|ae [])->(∃r,b.1[J w.1+1]? = ae (dq r)) ->
   assign.wpIn (e6.inRound B) 0 P (Exit.then (λR M=>M=z/\body.wpIn (e6.inRound B) 0 P (FB (J w.1) (λq=>(co b q/\∀k∈ks,q.1[k]? = b.1[k]?)/\p (i+1) q) (λh q=>co b q/\t h q) b) R b) λ_ _ _=>False) {tmps:=(ps.zip<|encs x).foldl (λaa (Z,v)=>aa.setIfInBounds Z v) a.1,defers:=[]} z)(W:∀b,p (E xs) b->b.1[J w.1]? = ae (df<|ae [])->J w.1+2<=J b.1->Q ky {a with defers:={target:=.collected<|J w.1,args:=#[]}::a.2} b)(ac:∀h b,t h b->b.1[J w.1]? = ae (df<|ae [])->J w.1+2<=J b.1->h.wpIn e6 0 P Q {a with defers:={target:=.collected<|J w.1,args:=#[]}::a.2} b):(Code.rangeFunc g ps assign body).wpIn e6 0 P Q a w:=by refine NZ hg eg jP hseq (λi b=>p i b/\J w.1+2<=J b.1) (λh b=>t h b/\J w.1+2<=J b.1) (λc e d l=>(F c e d l).1) (λi c e d l=>let:=F c e d.2 l;⟨C i c e d.1 G this.2,cJ d.2 this.1.1⟩) (λh c e d l=>let:=F c e d.2 l;⟨K h c e d.1 d.2 this.2,cJ d.2 this.1.1⟩) (λi c r y d D=>bd (C i c _ d.1 G<|H c r y D)<|by simp_all) (λh c r y d D=>bd (K h c _ d.1 d.2<|H c r y D)<|by simp_all) (λr=>bd (C 0 w _ T bo<|O r) ax) (λc e=>co c e/\∀k∈ks,e.1[k]? = c.1[k]?) (λb r n o j d A V=>ab b r n o j d V A.1 λk I=>?_) co (λb r n o j d A _=>U b r n o j d A) (λB i x z b Y aO l N X=>CS (L B i x z b Y aO.1 l N X) λS _ _ d=>?_) (λb d=>W b d.1) λh b d=>ac h b d.1;{let:=rP k I;rw[jB G,A.2 k I,jB G]};{cases S<;>first|exact⟨d.1,d.2.1,d.2.2,cJ l d.1.1⟩|exact d.elim}
theorem wR
  (H:∀b c,J w.1+2<=J b.1->St b c->cv (J w.1+2) b c)(R:∀b c,(∀k∈ks,c.1[k]? = b.1[k]?)->ea (J w.1+2) b c->Kp b c)(C:∀b c,ea (J w.1+2) b c->Kx b c)(i:Nat->aQ->Prop) (l:mp->aQ->Prop)(B:∀h b c,i h b->cv (J w.1) b c->i h c) (N:∀j b c,l j b->cv (J w.1) b c->l j c)(A:i 0 w)(t:∀(p h:Nat) (x:α) (n d:aQ),xs[h]? = ae x->i h d->J w.1+2<=J d.1 ->
   assign.wpIn (e6.inRound p) 0 P (Exit.then (λz u=>u=n/\body.wpIn (e6.inRound p) 0 P (Gx (J w.1) ks (i<|h+1) l d) z d) λ_ _ _=>False) {tmps:=(ps.zip<|encs x).foldl (λO (K,v)=>O.setIfInBounds K v) a.1,defers:=[]} n)(D:∀d,i (E xs) d->d.1[J w.1]? = ae (df<|ae [])->J w.1+2<=J d.1->Q ky {a with defers:={target:=.collected<|J w.1,args:=#[]}::a.2} d)(S:∀j d,l j d->d.1[J w.1]? = ae (df<|ae [])->J w.1+2<=J d.1->j.wpIn e6 0 P Q {a with defers:={target:=.collected<|J w.1,args:=#[]}::a.2} d):(Code.rangeFunc g ps assign body).wpIn e6 0 P Q a w:=
 HP hg eg jP hseq ks rP (cv<|J w.1) (ea<|J w.1) (λb c e o=>have:=H b c e o;⟨⟨this.4,this.5 _ G,this.5 _ G⟩,bN this G⟩) (λb r I e=>belowK_b (w:=w) bo b _ _ I G e U U) (λr=>(cf cc bo _).alloc ax _)
  (λd r L M y e _ q rP=>R _ _ rP<|FA e q) (λd r L M y e q=>C _ _<|FA e q) i l (λh b c e _=>B h b c e) (λj b c e _=>N j b c e) A (λp h x n d F aO o _ _=>CS (t p h x n d F aO o) λ_ _ _=>Oc o) D S
theorem ahw
  (H:∀b d,St b d->a6 b d)(R:∀b d,(∀k∈ks,d.1[k]? = b.1[k]?)->ea (J w.1+2) b d->Kp b d)(C:∀b d,ea (J w.1+2) b d->Kx b d)(h:Nat->aQ->Prop) (i:mp->aQ->Prop)(B:∀e b d,h e b->J w.1<=J b.1->ey (J w.1+1) b d->h e d) (N:∀j b d,i j b->J w.1+2<=J b.1->ey (J w.1+1) b d->i j d)(A:h 0 w)(t:∀(p e:Nat) (x:α) (l c:aQ),xs[e]? = ae x->h e c->J w.1+2<=J c.1 ->
   assign.wpIn (e6.inRound p) 0 P (Exit.then (λz u=>u=l/\body.wpIn (e6.inRound p) 0 P (Gx (J w.1) ks (h<|e+1) i c) z c) λ_ _ _=>False) {tmps:=(ps.zip<|encs x).foldl (λO (K,v)=>O.setIfInBounds K v) a.1,defers:=[]} l)(D:∀c,h (E xs) c->c.1[J w.1]? = ae (df<|ae [])->J w.1+2<=J c.1->Q ky {a with defers:={target:=.collected<|J w.1,args:=#[]}::a.2} c)(S:∀j c,i j c->c.1[J w.1]? = ae (df<|ae [])->J w.1+2<=J c.1->j.wpIn e6 0 P Q {a with defers:={target:=.collected<|J w.1,args:=#[]}::a.2} c):(Code.rangeFunc g ps assign body).wpIn e6 0 P Q a w:=
 HP hg eg jP hseq ks rP (ey<|J w.1+1) (ea<|J w.1) (λb d n o=>have:=H b d o;⟨⟨this.4,this.5 _ G,this.5 _ G⟩,ey.CD this⟩) (λb r I _=>ey.put b _ I) (λr=>ey.CD<|(cf cc bo _).alloc ax _)
  (λc r L M y n _ q rP=>R _ _ rP<|FA n q) (λc r L M y n q=>C _ _<|FA n q) h i B N A (λp e x l c F aO o _ _=>CS (t p e x l c F aO o) λ_ _ _=>Oc o) D S
theorem GJ
  (K:∀b d,St b d->a6 b d)(R:∀b d,(∀k∈ks,d.1[k]? = b.1[k]?)->J b.1<=J d.1->Kp b d)(C:∀b d,Kx b d)(i:Nat->aQ->Prop) (j:mp->aQ->Prop)(B:∀h b d,i h b->J w.1<=J b.1->ey (J w.1+1) b d->i h d) (N:∀l b d,j l b->J w.1+2<=J b.1->ey (J w.1+1) b d->j l d)(A:i 0 w)(q:∀(o h:Nat) (x:α) (n c:aQ),xs[h]? = ae x->i h c->J w.1+2<=J c.1->c.1[J w.1]? = ae (df<|ae [])->(∃r,c.1[J w.1+1]? = ae (dq r)) ->
   assign.wpIn (e6.inRound o) 0 P (Exit.then (λy t=>t=n/\body.wpIn (e6.inRound o) 0 P (DA (J w.1) ks (i<|h+1) j c) y c) λ_ _ _=>False) {tmps:=(ps.zip<|encs x).foldl (λO (M,v)=>O.setIfInBounds M v) a.1,defers:=[]} n)(F:∀c,i (E xs) c->c.1[J w.1]? = ae (df<|ae [])->J w.1+2<=J c.1->Q ky {a with defers:={target:=.collected<|J w.1,args:=#[]}::a.2} c)(S:∀l c,j l c->c.1[J w.1]? = ae (df<|ae [])->J w.1+2<=J c.1->l.wpIn e6 0 P Q {a with defers:={target:=.collected<|J w.1,args:=#[]}::a.2} c):(Code.rangeFunc g ps assign body).wpIn e6 0 P Q a w:=
 HP hg eg jP hseq ks rP (ey<|J w.1+1) (λ_ _=>True) (λb d e p=>have:=K b d p;⟨⟨this.4,this.5 _ G,this.5 _ G⟩,ey.CD this⟩) (λb r L _=>ey.put b _ L) (λr=>ey.CD<|(cf cc bo _).alloc ax _)
  (λc r U V T e D _ rP=>R _ _ rP (by have:=D.1;simp_all)) (λ_ _ _ _ _ _ _=>C _ _) i j B N A (λo h x n c I aO p u H=>CS (q o h x n c I aO p u H) λz _ _ e=>by cases z<;>first|exact⟨e.1,⟨cy,e.2.1⟩,e.2.2⟩|exact⟨e.1,cy,e.2⟩|exact e.elim) F S
theorem ahx
  (B:∀b d,St b d->a6 b d)(G:∀b d,(∀k∈ks,d.1[k]? = b.1[k]?)->J b.1<=J d.1->Kp b d)(u:∀b d,Kx b d)(h:Nat->aQ->Prop) (i:mp->aQ->Prop)(t:∀e b d,h e b->J w.1<=J b.1->ey (J w.1+1) b d->h e d) (D:∀j b d,i j b->J w.1+2<=J b.1->ey (J w.1+1) b d->i j d)(r:h 0 w)(o:∀(n e:Nat) (x:α) (l c:aQ),xs[e]? = ae x->h e c->J w.1+2<=J c.1 ->
   assign.wpIn (e6.inRound n) 0 P (Exit.then (λq p=>p=l/\body.wpIn (e6.inRound n) 0 P (DA (J w.1) ks (h<|e+1) i c) q c) λ_ _ _=>False) {tmps:=(ps.zip<|encs x).foldl (λF (C,v)=>F.setIfInBounds C v) a.1,defers:=[]} l)(y:∀c,h (E xs) c->c.1[J w.1]? = ae (df<|ae [])->J w.1+2<=J c.1->Q ky {a with defers:={target:=.collected<|J w.1,args:=#[]}::a.2} c)(H:∀j c,i j c->c.1[J w.1]? = ae (df<|ae [])->J w.1+2<=J c.1->j.wpIn e6 0 P Q {a with defers:={target:=.collected<|J w.1,args:=#[]}::a.2} c):(Code.rangeFunc g ps assign body).wpIn e6 0 P Q a w:=
 GJ hg eg jP hseq ks rP B G u h i t D r (λn e x l c A aO z _ _=>o n e x l c A aO z) y H
end
def cx(a:aQ)(b:Nat)(v:bk)(c:dP):Prop:=a.1[b]? = ae (aZ #[v] c)
def cx.cell{c:Nat}(b:cx m c e z):aA m (N c 0)=ae e:=by unfold cx at b;simp[aA,b]
def cx.frozen{t:dP}(h:cx m n e t):gd m (N n 0)=ak:=by unfold cx at h;exact qE
def cx.lt{b:Nat}(c:cx m b e z):b<J m.1:=(dK.1 c).1
def cx.set{b:aQ}{a:Nat}{t:dP}(d:cx b a e t)(c:bk):cx (a7 b ⟨a,0,af⟩ c) a c t:=by unfold cx at*;simp only[a7];grind
def cx.below{k n:Nat}(d:cx m k e z)(c:cv n m u)(g:k<n):cx u k e z:=(c.5 k g).trans d
def cx.put{d:Nat}{o:Obj}(c:cx m n e z)(g:n≠d):cx (ep m d o) n e z:=(jB g).trans c
def cx.qf(a:aQ)(v:bk)(b:dP):cx (aN a<|aZ #[v] b) (J a.1) v b:=cW a _
def cx.alloc(c:cx m n e z)(d:Obj):cx (aN m d) n e z:=(dv m d n c.lt).trans c
def ea.setCell(a:aQ)(c:bk)(e:v<n):ea n a (a7 a ⟨v,0,af⟩ c):=
 ⟨ax,λg d _=>dr _ _ _ _<|by grind⟩
end
def lI(b a):ey b a a:=⟨U,U,U,cO _,λ_ _ _=>U⟩
def za(a:ey n m u)(b:ey n u K):ey n m K:=
 ⟨cQ b.1 a.1,cQ b.2 a.2,cQ b.3 a.3,cJ a.4 b.4,λi aO h=>(b.5 i (eA aO a.4) h).trans<|a.5 i aO h⟩
def jx(d:ey n m u)(o v):ey n m (a7 u ⟨n,o,af⟩ v):=
 za d ⟨U,U,U,ax,λg _ e=>dr _ _ _ _ e⟩
def ed(c:aQ)(a:Nat)(s:ap)(b:Bool):Prop:=c.1[a]? = ae (aZ #[am<|D s,aG b] 195)
section
variable {w:World} {b:Nat} {s:ap}{br:Bool}
def ed.lt(a:ed w b s br):b<J w.1:=(dK.1 a).1
def ed.cells(a:ed w b s br):aA w (N b 0)=ae (am<|D s)/\aA w (N b 1)=ae (aG br):=by unfold ed at a;constructor<;>simp[aA,a]
def ed.frozen(h:ed w b s br)(a):gd w (N b a)=ak:=by unfold ed at h;exact qE
def ed.set0(c:ed w b s br)(a):ed (a7 w ⟨b,0,af⟩<|am<|D a) b a br:=by unfold ed at*;exact AG
def ed.set1(c:ed w b s br)(a):ed (a7 w ⟨b,1,af⟩<|aG a) b s a:=by unfold ed at*;exact AG
def ed.kept{w'}(c:ed w b s br)(e:ey n w w')(d:b≠n):ed w' b s br:=(e.5 b c.lt d).trans c
end
def wS(s a)(b:a<=E s):(D s).extract 0 a=D (be a s):=by apply Gu;simp[D]
def zc(s a)(b:n=E s):(D s).extract a n=D (bi a s):=by subst b;apply Gu;simp[D];exact mS ax
def H5(a){g}(b:ed m n d g)(k:a<=E d)(l:E d<=1000000000):a_ aL 118 #[bv n,M a] m λj e=>j=bh (am<|D<|be a d)/\ed e n (bi a d) g/\ey n m e/\J e.1=J m.1:=by let:=b.cells;let:=b.frozen;replace b:=O b;let:=cV d;let i:=O<|wS d a k;let h:=O<|zc d a U;let:¬E d<a:=G;go_wp2;go_ret;rw[h];refine⟨?_,b.set0 _,jx (lI _ _) _ _,ax⟩;show bh (am<|(D d).extract 0 a)=_;rw[i]
def H6(c){g}(a:ed m n d g)(j:E d<c)(i:c<=1000000000):a_ aL 118 #[bv n,M c] m λh e=>h=bh (am<|D [])/\ed e n [] aD/\ey n m e/\J e.1=J m.1:=by let:=a.cells;let:=a.frozen;replace a:=O a;let:=cV d;go_wp2;go_ret;exact⟨U,(a.set1 _).set0 [],jx (jx (lI _ _) _ _) _ _,ax⟩
def ahy{a s e}(l:ed m n (a::s) e)(q:E s<1000000000):a_ aL 163 #[bv n] m λj d=>j=bh (M<|bg a)/\ed d n s e/\ey n m d/\J d.1=J m.1:=by let g:=O (H5 1 l ax<|by grind);go_in;go_wp21;refine g.m λr ⟨o,c,p⟩=>?_;let i:=O<|cj o<|cj c p;let k:D (List.take 1 (a::s))=⟨#[a]⟩:=U;rw[k];let h:ao (wrap64 (bg a:Int)=bg a):=by{let:=gp a;show wrap64 _=_;unfold wrap64;omega};go_wp2;go_ret;refine bd ?_ i;show bh (M<|wrap64 (bg a:Int))=_;rw[h]
def ahz{g}(j:ed m n [] g):a_ aL 163 #[bv n] m λh c=>h=bh (M 0)/\ed c n [] aD/\ey n m c/\J c.1=J m.1:=by let d:=O<|H6 1 j ax G;go_in;go_wp21;refine d.m λo ⟨l,k,b⟩=>?_;let e:=O<|cj l<|cj k b;let i:D []=⟨#[]⟩:=U;rw[i];go_wp2;go_ret;exact bd U e
def eY:ap->Bool->Nat×ap×Bool
 |[],_=>(0,[],aD)
 |b::s,a=>(bg b,s,a)
def ze(s a):(eY s a).1<256:=by cases s<;>simp[eY];exact gp _
def sU(s a):E (eY s a).2.1<=E s:=by cases s<;>simp[eY]
def o0(s b)(e:ed m n s b)(i:E s<=1000000000):a_ aL 163 #[bv n] m λg d=>g=bh (M (eY s b).1)/\ed d n (eY s b).2.1 (eY s b).2.2/\ey n m d/\J d.1=J m.1:=by
 cases s with
 |nil=>exact ahz e
 |cons h s=>exact ahy e fi
def A0(a b:Nat)(c:a<9223372036854775808)(d:b<9223372036854775808):bits .or ai (a:Int) (b:Int)=((a ||| b:Nat):Int):=by
 have:a ||| b<2^63:=Bj G G
 show ai.wrap ((BitVec.ofInt 64 (a:Int) ||| BitVec.ofInt 64 (b:Int)).toNat:Int)=_;rw[BitVec.toNat_or,uS a G,uS b G];generalize a ||| b=e at*
 rw[tv];omega
def ahA(d:n<256)(e:v<256):bits .or ai ((n:Int)*256) v=((n*256+v:Nat):Int):=by let c:((n:Int)*256)=((n*256:Nat):Int):=G;rw[c,A0 _ _ G G,<-Nat.shiftLeft_eq n 8,OV G]
def e4(s:ap)(c:Bool):Nat×ap×Bool:=
 let a:=eY s c
 let b:=eY a.2.1 a.2.2
 (a.1*256+b.1,b.2.1,b.2.2)
def lW(a)(z:ed m n d a)(t:E d<=1000000000):a_ aL 99 #[bv n] m λy k=>y=bh (M (e4 d a).1)/\ed k n (e4 d a).2.1 (e4 d a).2.2/\ey n m k/\J k.1=J m.1:=by have l:=O<|o0 d a z t;have p:=O<|sU d a;have q:=ze d a;have e:ao (e4 d a=((eY d a).1*256+(eY (eY d a).2.1 (eY d a).2.2).1,(eY (eY d a).2.1 (eY d a).2.2).2.1,(eY (eY d a).2.1 (eY d a).2.2).2.2)):=U;generalize eY d a=A at*;let⟨u,j,s⟩:=A;simp only at l p q e;go_in;go_wp21;refine l.m λF ⟨h,g,i⟩=>?_;have c:=O<|o0 j s h<|cJ p t;have o:=O<|cj g i;have r:=ze j s;generalize eY j s=B at*;let⟨w,D,C⟩:=B;simp only at c r e;go_wp21;refine c.m λG ⟨h,g,i⟩=>?_;let x:=O<|cj h<|cj (za o.1 g)<|cQ i o.2;go_wp2;go_ret;rw[e];refine bd ?_ x;show bh (M<|bits .or ai ((u:Int)*256) w)=bh (M ((u*256+w:Nat):Int));rw[ahA q r]
def ahB(a b):jF a b<=a:=by
 unfold jF pM;cases b with
 |nil=>simp
 |cons c e=>{
 simp only[];split;{simp};{
 cases d:mB a 0 (c::e)with
 |none=>simp
 |some m=>simpa using O6 _ _ _ d (dJ _)}}
def ahC(g:dx m)(e:qG m n 0<|h9 32 T)(h:b7 T<=3000):a_ aL 144 #[M j,bL n 0 (E<|h9 32 T)<|E<|h9 32 T] m (cI (aG<|et j<|I 32 T.1.1) m):=by rw[<-q4];refine agO g e (λb i=>cJ (Bn 32 T b i) h) ?_;have:=nM 32 T.1.1;rw[<-q4,ff,oQ]at this;omega
def ND(h:φ:=by simp[c_,results75,go_sem,qI,aK.zN,aK.zero,aK.owner,aK.aP,aK.type,aK.data,D,bc,r0,r1,r2,r3,hz0]):φ:=h
def ahD{c b e d}(w:dx m)(P:b7 T<=3000)(H:p0 T=[c,b,e,d]):a_ aL 75 #[am T] m λC n=>C=bh (qI<|if jh c.1.1&&ft 86400 b.1.1&&et (ii e.1.1) (I 32 d.1.1)then ae (c.1.1,jF 86400 b.1.1,ii e.1.1,d.1.1)else af)/\a6 m n:=by
 have k:=O8 (aN m<|aZ #[am ⟨#[]⟩,ag ai 0,ag ai 0,am ⟨#[]⟩] 83) (w.alloc _) P;have Q:=ahs T;have h:=aht (aN m<|aZ #[am ⟨#[]⟩,ag ai 0,ag ai 0,am ⟨#[]⟩] 83) (p0 T)<|min 4<|b7 T+1;rw[H]at k Q h;have j:dx (aN (aN m<|aZ #[am ⟨#[]⟩,ag ai 0,ag ai 0,am ⟨#[]⟩] 83)<|aZ (Lib.cellsOf [c,b,e,d]<|min 4<|b7 T+1) 9):=(w.alloc _).alloc _;have F:a6 m (aN (aN m<|aZ #[am ⟨#[]⟩,ag ai 0,ag ai 0,am ⟨#[]⟩] 83)<|aZ (Lib.cellsOf [c,b,e,d]<|min 4<|b7 T+1) 9):=(cf cc bo _).alloc ax _;have r0:aA (aN (aN m<|aZ #[am ⟨#[]⟩,ag ai 0,ag ai 0,am ⟨#[]⟩] 83)<|aZ (Lib.cellsOf [c,b,e,d]<|min 4<|b7 T+1) 9) (N (J m.1) 0)=ae (am ⟨#[]⟩):=ax;have r1:aA (aN (aN m<|aZ #[am ⟨#[]⟩,ag ai 0,ag ai 0,am ⟨#[]⟩] 83)<|aZ (Lib.cellsOf [c,b,e,d]<|min 4<|b7 T+1) 9) (N (J m.1) 1)=ae (M 0):=ax;have r2:aA (aN (aN m<|aZ #[am ⟨#[]⟩,ag ai 0,ag ai 0,am ⟨#[]⟩] 83)<|aZ (Lib.cellsOf [c,b,e,d]<|min 4<|b7 T+1) 9) (N (J m.1) 2)=ae (M 0):=ax;have r3:aA (aN (aN m<|aZ #[am ⟨#[]⟩,ag ai 0,ag ai 0,am ⟨#[]⟩] 83)<|aZ (Lib.cellsOf [c,b,e,d]<|min 4<|b7 T+1) 9) (N (J m.1) 3)=ae (am ⟨#[]⟩):=ax;have:∀R,gd (aN (aN m<|aZ #[am ⟨#[]⟩,ag ai 0,ag ai 0,am ⟨#[]⟩] 83)<|aZ (Lib.cellsOf [c,b,e,d]<|min 4<|b7 T+1) 9) (N (J m.1) R)=ak:=ax;have:J m.1+1<J (aN (aN m<|aZ #[am ⟨#[]⟩,ag ai 0,ag ai 0,am ⟨#[]⟩] 83)<|aZ (Lib.cellsOf [c,b,e,d]<|min 4<|b7 T+1) 9).1:=ax;rw[eE]at h k;generalize aN (aN m<|aZ #[am ⟨#[]⟩,ag ai 0,ag ai 0,am ⟨#[]⟩] 83) (aZ (Lib.cellsOf [c,b,e,d]<|min 4<|b7 T+1) 9)=i at*;let:bY i (J m.1+1) 0 (am c):=h.2 0 ax;let:bY i (J m.1+1) 1 (am b):=h.2 1 ax;let:bY i (J m.1+1) 2 (am e):=h.2 2 ax;let:bY i (J m.1+1) 3 (am d):=h.2 3 ax;let:b7 c<=3000:=by grind
 let:b7 b<=3000:=by grind
 let S:b7 d<=3000:=by grind
 let t:b7 c<=fk:=lN
 let y:b7 b<=fk:=lN
 simp only[dW,gG,fM,Nat.reduceAdd]at k;let hz0:J m.1<J i.1:=G;let o:=O k;let l:=O F;cases a:jh c.1.1;{go_in;go_wp21;refine o.m ?_;rintro n rfl;go_wp21;refine(Bp j t).m λz g=>?_;let⟨bc,A⟩:=Dy g;go_wp2;exact dQ (v:=qI af) (by simp[c_,results75,go_sem,qI,aK.zN,aK.zero,aK.owner,aK.aP,aK.type,aK.data,D,bc,r0,r1,r2,r3,hz0]) U (bd ax<|((((l.trans<|g.mono G).setCell bo _).setCell bo _).setCell bo _).setCell bo _)};cases V:ft 86400 b.data.toList;{go_in;go_wp21;refine o.m ?_;rintro n rfl;go_wp21;refine(Bp j t).m λz g=>?_;let⟨bc,A⟩:=Dy g;go_wp21;refine(Iq 86400 y G).m ?_;rintro u rfl;go_wp21;refine(O4).m ?_;rintro u rfl;go_wp2;exact dQ (v:=qI af) ND U (bd ax<|((((bC l<|bN g G).setCell bo _).setCell bo _).setCell bo _).setCell bo _)};cases W:et (ii e.1.1)<|I 32 d.1.1;all_goals(
 go_in;go_wp21;refine o.m ?_;rintro n rfl;go_wp21;refine(Bp j t).m λz g=>?_;let bc:=Dy g;let x:=j.below g;go_wp21;refine(Iq 86400 y G).m ?_;rintro u rfl;go_wp21;refine(O4).m ?_;rintro u rfl;go_wp21;refine(sT d 32 x G).m λX q=>?_;have p:=q▸cf cc bo _
 have B:=q▸Bo _ _
 let L:=x.below p;clear q;let:(jF 86400 b.1.1:Int)<=86400:=cd<|ahB 86400 b.1.1
 go_wp2_with fail;refine(ahC L B S).m ?_;intro Y K;let r:=bC g<|(bC p<|bN K p.4).mono g.4;let bc:=Dy r;go_wp21)
 {exact dQ (v:=qI af) ND U (bd ax<|((((bC l<|bN r G).setCell bo _).setCell bo _).setCell bo _).setCell bo _)};{go_region;all_goals(go_wp2;exact dQ (v:=qI<|ae (c.1.1,jF 86400 b.1.1,ii e.1.1,d.1.1)) (by simp[c_,results75,go_sem,qI,aK.zN,aK.owner,aK.aP,aK.type,aK.data,Ir,bc,r0,r1,r2,r3,hz0]) U (bd ax<|(((((bC l<|bN r G).setCell bo _).setCell bo _).setCell bo _).setCell bo _).drew))}
def OG(e:dx m)(g:b7 T<=3000):a_ aL 75 #[am T] m (cI (qI<|iB T.1.1) m):=by
 by_cases b:E (p0 T)=4;{
 match h:p0 T,b with
 |[i,j,k,l],_=>
 let a:iB T.1.1=if jh i.1.1&&ft 86400 j.1.1&&et (ii k.1.1) (I 32 l.1.1)then ae (i.1.1,jF 86400 j.1.1,ii k.1.1,l.1.1)else af:=by{rw[iB,<-It,h];rfl}
 rw[a];exact ahD e g h};{let a:iB T.1.1=af:=by{unfold iB;split;{rename_i d;rw[<-It]at d;exact absurd (by let:=eQ List.length d;grind) b};{rfl}};rw[a];exact ahu e g b}
def ji:List ap->Option (List aK)
 |[]=>ae []
 |a::c=>(iB a).bind λb=>(ji c).map (b :: ·)
def kX:ap:=[111,114,105,103,105,110,32]
def sV:List ap->Option (ap×List aK)
 |[]=>af
 |f::b=>if Lib.hasPrefix f kX&&eL (l6 f kX)then(ji b).map (λa=>(l6 f kX,a))else af
def jm(a:ap):Option (ap×List aK):=
 if Lib.hasSuffix a [10]then sV (I 10<|Lib.trimSuffix a [10])else af
def gz(a:List aK):List bk:=a.flatMap aK.bz
def VK{a:aK}:gz (p++[a])=gz p++a.bz:=by simp[gz]
def H8(a:List aK):E (gz a)=E a*4:=by
 induction a with
 |nil=>rfl
 |cons c d b=>simp only[gz,kj,dj]at*;rw[b];simp[aK.bz];omega
def qO(c:aQ)(b:Nat)(v:bk)(a:List aK):Prop:=c.ownsRow b 83 4 v (E a) (gz a)/\(v=bX↔a=[])
def g6{size d:Nat}{h:List bk}(i:m.ownsRow n v size e d h)(a:a6 m u):u.ownsRow n v size e d h:=
 i.kept (row:=af) ⟨a.1,a.2,a.3,a.4,λk j _=>a.5 k j⟩ (Classical.em _)
def wT{d size g:Nat}{i:List bk}(a:m.ownsRow n d size e g i)(t:v<=n):m.ownsRow v d size e g i:=by obtain⟨b,a|⟨l,j,k,w,u,c,o,p,q,r⟩⟩:=a;{exact bd b<|bJ a};{exact bd b<|bE ⟨l,j,k,w,cJ t u,c,o,p,q,r⟩}
def qO.below(b:qO m n e p)(g:a6 m u):qO u n e p:=⟨g6 b.1 g,b.2⟩
def qO.base(c:qO m n e p)(g:v<=n):qO m v e p:=⟨wT c.1 g,c.2⟩
def ahE(c:dx m)(d:b7 T<=3000)(b:iB T.1.1=af):a_ aL 75 #[am T] m (cI (bZ #[ce #[am ⟨#[]⟩,M 0,M 0,am ⟨#[]⟩],aG ak]) m):=by have:=OG c d;rw[b]at this;exact this
def ahF{a:aK}(d:dx m)(e:b7 T<=3000)(c:iB T.1.1=ae a):a_ aL 75 #[am T] m (cI (bZ #[ce #[am<|D a.owner,M a.aP,M a.type,am<|D a.data],aG aD]) m):=by have:=OG d e;rw[c]at this;exact this
def vY:(aL.info? 83).map (λa=>(a.8,a.3,a.4))=ae (ae<|ce #[am ⟨#[]⟩,M 0,M 0,am ⟨#[]⟩],4,48):=b6
def ym:aL.underlying 77=ae (.slice 83):=b6
def A1:bk:=bZ #[am ⟨#[]⟩,bX,aG ak]
def H9(a:Option<|ap×List aK)(c:Nat)(b:Ending)(e:aQ):Prop:=
 match a with
 |none=>b=bh A1
 |some (a,d)=>∃v,b=bh (bZ #[am<|D a,v,aG aD])/\qO e c v d
def H_{a:Ending}(c:a=bh A1):H9 af n a m:=c
def ahG(c:b7 T<=3000)(b:Lib.hasSuffix T.1.1 [10]=ak):a_ aL 32 #[am T] m (cI A1 m):=by go_in;go_wp2_with (go_at_call 72;refine(Tryz.strings_CutSuffix T _ _ G).m ?_;rintro d rfl);go_ret3;exact bd U<|cU _ _
def ahH(a b:ap):E (Lib.trimSuffix a b)<=E a:=by unfold Lib.trimSuffix;split;{simp};{exact cO _}
def ahI(a b:ap):E (l6 a b)<=E a:=by unfold l6;split;{simp};{exact cO _}
def ahK(aj:dx m)(bw:b7 T<=3000)(h:Lib.hasSuffix T.1.1 [10]=aD):a_ aL 32 #[am T] m λw t=>H9 (jm T.1.1) (J m.1) w t/\a6 m t:=by
 have c:ao (jm T.1.1=sV (I 10<|Lib.trimSuffix T.1.1 [10])):=by rw[jm,ao,b8 h]
 have hcut:=Tryz.strings_CutSuffix T ⟨#[10]⟩ m G;rw[h]at hcut;let⟨i,Y⟩:=du (⟨c7<|Lib.trimSuffix T.1.1 [10]⟩:ByteArray);have ar:i.1.1=Lib.trimSuffix T.1.1 [10]:=by rw[<-Y]
 have Z:b7 i<=3000:=by{have:=ahH T.1.1 [10];rw[<-ar,oQ,oQ]at this;omega};have aV:a_ aL 72 #[am T,am ⟨#[10]⟩] m λw t=>w=bh (bZ #[am i,aG aD])/\t=m:=by rw[<-Y];exact hcut
 rw[<-ar,<-q4]at c;have au:=O<|Bn 10 i;have aX:E (h9 10 i)<=3001:=by{have:=nM 10 i.1.1;rw[<-q4,ff,oQ]at this;omega};have ac:=Bo m<|h9 10 i;have W:=sT i 10 aj G;have ad:a6 m (aN m<|aZ (c7<|(h9 10 i).map am) 9):=cf cc bo _;have aF:1<=E (h9 10 i):=cd<|O1 10 i
 generalize h9 10 i=aC at*;cases aC with
 |nil=>simp at aF
 |cons f a=>
 have bs:_:=ac.2 0 ax;have:=cJ (au f ax) Z;have a3:∀y∈a,b7 y<=3000:=λy a4=>cJ (au y<|by simp[a4]) Z;have az:=O a3;generalize aN m (aZ (c7<|(f::a).map am) 9)=g at*;have:aA g (N (J m.1) 0)=ae (am f):=bs;have A:=aj.below ad;have bv:(E a:Int)<=3000:=by simp at aX;omega
 rw[dW]at W;have D:=O aV;have z:=O W;have k:=O ad;have aS:=O ac;have bj:=Tryz.strings_CutPrefix f ⟨#[111,114,105,103,105,110,32]⟩ g;let⟨j,P⟩:=du (⟨c7<|l6 f.1.1 kX⟩:ByteArray);have Q:j.1.1=l6 f.1.1 kX:=by rw[<-P]
 have H:b7 j<=fk:=by{have:=ahI f.1.1 kX;rw[<-Q,oQ,oQ]at this;unfold fk;omega};let⟨S,K⟩:=bm<|Lib.hasPrefix f.1.1 kX;have aH:a_ aL 74 #[am f,am ⟨#[111,114,105,103,105,110,32]⟩] g λw t=>w=bh (bZ #[am j,aG S])/\t=g:=by rw[<-P,K];exact bj
 have B:=O aH;have n:ao (jm T.1.1=if S&&eL j.1.1 then(ji (b9 (·.data.1) a)).map (λe=>(j.1.1,e))else af):=by{rw[ao,c,lU,sV,K,Q]};clear c P Q K;cases S;{go_in;go_wp2_with fail;refine D.m ?_;rintro m rfl;go_wp2_with fail;refine z.m ?_;rintro g rfl;go_wp2_with fail;refine B.m ?_;rintro g rfl;go_wp2;go_ret3;rw[n];exact bd (H_ U) k};cases an:eL j.1.1;{go_in;go_wp2_with fail;refine D.m ?_;rintro m rfl;go_wp2_with fail;refine z.m ?_;rintro g rfl;go_wp2_with fail;refine B.m ?_;rintro g rfl;go_wp2_with fail;refine(r7 A H).m λo l=>?_;go_wp2;go_ret3;rw[n,an];exact⟨H_ U,bC k<|bN l k.4⟩};have aI:ao (jm T.1.1=(ji (b9 (·.data.1) a)).map λe=>(j.1.1,e)):=by{rw[ao,n,an];rfl};have n:=aI;cases a with
 |nil=>{
 go_in;go_wp2_with fail;refine D.m ?_;rintro m rfl;go_wp2_with fail;refine z.m ?_;rintro g rfl;go_wp2_with fail;refine B.m ?_;rintro g rfl;go_wp2_with fail;refine(r7 A H).m λo l=>?_;go_wp2;go_loop [10,41] (λv x=>v=bX/\x=M 0) λ_ _=>0;·exact oa
 ·(obtain⟨rfl,rfl⟩:=hrel;go_wp2;go_ret3;rw[n];exact⟨⟨_,by rw[Ir];rfl,ih _ _ _ _,ax⟩,bC k<|bN l k.4⟩)}
 |cons bl bn=>{
 generalize ab:bl::bn=a at*;have bz:¬a=[]:=by rw[<-ab];simp
 have bB:0<E a:=by rw[<-ab];simp
 go_in;go_wp2_with fail;refine D.m ?_;rintro m rfl;go_wp2_with fail;refine z.m ?_;rintro g rfl;go_wp21;refine B.m ?_;rintro g rfl;go_wp21;refine(r7 A H).m λo l=>?_;go_wp2;have aP:=A.below l;have p:=bC k<|bN l k.4;have ap:=p.4;replace p:=O p;have aJ:=aS.below l;have br:=O aJ;go_loopw [10,41] (λv x wr=>∃(b:Nat) (e:List aK),b<=E a/\x=M b/\E e=b/\qO wr (J o.1) v e/\ji (b9 (·.data.1) a)=(ji (bi b (b9 (·.data.1) a))).map (e++·)/\a6 o wr) λ_ x _=>E a-cM (intOf x);·exact⟨0,[],dJ _,U,U,bd (ih _ _ _ _) ax,ax,cU _ _⟩
 ·(
 obtain⟨b,e,bu,rfl,av,a0,aM,r⟩:=hrel;have L:=O aM;have X:=O a0;have al:=aP.below r;have:=r.4;by_cases R:b<E a;{
 have bt:bY wr (J m.1) (1+b) (am a[b]):=by{have:=(br.below r).2 (b+1) (by simpa using R);rw[show 0+(b+1)=1+b from G]at this;simpa using this};have ah:ao (bi b (b9 (·.data.1) a)=a[b].1.1::bi (b+1) (b9 (·.data.1) a)):=by{rw[ao,jM<|by simpa using R,pH]};have V:=az a[b]<|ei R;generalize a[b]=y at*;cases C:iB y.1.1 with
 |none=>{let u:ao (jm T.1.1=af):=by{rw[ao,n,L,ah,ji,C];rfl};go_wp21;refine(ahE al V C).m λaw q=>?_;go_wp2;go_ret3;rw[u];exact⟨H_ U,(bC p<|(bN r ap).trans<|bN q G).alloc (cd q.4) _⟩}
 |some F=>{
 let⟨ba,aO,a5,a8,a9⟩:=im vY;let u:ao (ji (b9 (·.data.1) a)=(ji (bi (b+1) (b9 (·.data.1) a))).map ((e++[F])++·)):=by{rw[ao,L,ah,ji,C];simp[Option.map_map,Function.comp_def]};go_wp21;refine(ahF al V C).m λaw q=>?_;let a2:=X.below q;let aa:=O a2;have:=q.4;go_wp2_with (at_builtin;refine Dm _ U (.tmp 52) (.tmp 54) 77 U (J o.1) 83 ba (ce #[am ⟨#[]⟩,M 0,M 0,am ⟨#[]⟩]) 4 48 ym aO a5 a8 a9 U bW _ (E e) (gz e) U ((aa.1.alloc _).alloc _) (N (J aw.1+1) 0) 1 1 F.bz U U ?bG ?c2 ?c3 ?cB ?fe ?_);case bG=>(
 intro bb bp d;match bb,d with
 |0,d=>simp[aK.bz]at d;subst d;simp[Addr.add]
 |1,d=>simp[aK.bz]at d;subst d;simp[Addr.add]
 |2,d=>simp[aK.bz]at d;subst d;simp[Addr.add]
 |3,d=>simp[aK.bz]at d;subst d;simp[Addr.add]
 |bA+4,d=>simp[aK.bz]at d)
 case c2=>intro bp aq;simp[aK.bz]at aq;rcases aq with rfl|rfl|rfl|rfl<;>rfl
 case c3=>unfold fk;omega
 case cB=>omega
 case fe=>simp;omega
 intro bq ay a1 aW aY;let aB:qO ay (J o.1) bq (e++[F]):=by{refine bd ?_ ?_;{rw[VK,dj,av];exact a1};{exact⟨λh=>absurd h aY,λh=>yo⟩}};let aU:a6 o ay:=by{exact((((bC r<|bN q G).alloc G _).alloc ct _)).grown aW ct λbf bc=>(aa.1.lt bf bc).1};let aT:=O aB;let aR:=O aU;go_wp2;go_roundw;·exact⟨b+1,e++[F],G,dd,by simp[av],aT,u,aR⟩
 ·exact qD}};{let u:ao (jm T.1.1=ae (j.1.1,e)):=by{rw[ao,n,L,pT ct];simp[ji]};go_wp2;go_ret3;rw[u];exact⟨⟨_,by rw[Ir];rfl,X.base p.4⟩,bC p<|bN r ap⟩})}
def ahL(g:dx m)(d:b7 T<=3000):a_ aL 32 #[am T] m λb e=>H9 (jm T.1.1) (J m.1) b e/\a6 m e:=by
 cases c:Lib.hasSuffix T.1.1 [10];{
 let b:jm T.1.1=af:=by rw[jm,c];rfl
 rw[b];exact ahG d c};{exact ahK g d c}
def lX(d:aQ)(b:Nat)(v:bk)(a:List ap):Prop:=d.ownsRow b 9 1 v (E a) (a.map λc=>aS c)/\(v=bX↔a=[])
def wx:(aL.info? 9).map (λa=>(a.8,a.3,a.4))=ae (ae<|am ⟨#[]⟩,1,16):=b6
def A2:aL.underlying 23=ae (.slice 9):=b6
def eP(s:ap)(b:Bool)(a:Nat):ap×ap×Bool:=if a<=E s then(be a s,bi a s,b)else([],[],aD)
def uU(s a b):E (eP s a b).2.1<=E s:=by grind[eP]
def pO(a:Nat){c}(h:ed m n d c)(k:a<=1000000000)(j:E d<=1000000000):a_ aL 118 #[bv n,M a] m λi g=>i=bh (aS (eP d c a).1)/\ed g n (eP d c a).2.1 (eP d c a).2.2/\ey n m g/\J g.1=J m.1:=by by_cases e:a<=E d;{rw[eP,b8 e];exact H5 a h e j};{rw[eP,bV e];exact H6 a h G k}
def mT:Nat->Nat->ap->Bool->Nat->List ap->List ap×ap×Bool
 |0,_,s,b,_,c=>(c,s,b)
 |f+1,a,s,b,size,c=>
  if a=0 then(c,s,b)
  else if 63<a\/255<size+1+a then([],s,aD)
  else mT f (eY (eP s b a).2.1 (eP s b a).2.2).1 (eY (eP s b a).2.1 (eP s b a).2.2).2.1 (eY (eP s b a).2.1 (eP s b a).2.2).2.2 (size+1+a) (c++[(eP s b a).1])
def pP(s:ap)(a:Bool):List ap×ap×Bool:=mT 256 (eY s a).1 (eY s a).2.1 (eY s a).2.2 1 []
def ag_{j}(a:ey n m u)(b:u.grownBy K j)(g:∀c,j=ae c->J m.1<=c):ey n m K:=
 ⟨cQ b.1 a.1,cQ b.2 a.2,cQ b.3 a.3,cJ a.4 b.4,
  λc i k=>(b.5 c (eA i a.4) λl=>by grind).trans<|a.5 c i k⟩
def aha(a:ey n m u)(i):ey n m (aN u i):=
 ⟨a.1,a.2,a.3,cJ a.4 ax,λh d g=>(dv _ _ _<|eA d a.4).trans<|a.5 h d g⟩
def OH{h g l}(p:m.ownsRow n z h e g l)(t:ey v m u)(w:v<n):u.ownsRow n z h e g l:=by let⟨q,a⟩:=p;refine bd q ?_;rcases a with a|⟨d,c,o,rfl,r,b,i⟩;{grind};{exact bE ⟨d,c,o,U,r,(t.5 d (dK.1 b).1 G).trans b,i⟩}
def MU(h:φ:=by go_wp2;go_ret;rw[bn];exact⟨_,U,⟨ih _ _ _ _,ax⟩,Ba.set1 _,jx kO _ _⟩):φ:=h
def ahc{c}(h:ed m n d c)(W:E d<=1000000000):a_ aL 166 #[bv n] m λw B=>∃v,w=bh v/\lX B (J m.1) v (pP d c).1/\ed B n (pP d c).2.1 (pP d c).2.2/\ey n m B:=by
 have aa:=h.lt;have j:=O<|o0 d c h W;have P:=O<|cJ (sU d c) W;have L:=O<|ze d c;have K:ao (pP d c=mT 256 (eY d c).1 (eY d c).2.1 (eY d c).2.2 1 []):=U;generalize eY d c=a6 at*;let⟨aY,a1,ay⟩:=a6;simp only at j P L K;generalize pP d c=o at*;go_in;go_wp21;refine j.m λbp ⟨aK,aF,bm⟩=>?_;have aV:=O aK;have aq:=O aF;go_wp2;go_loopw [3,4,5] (λv A ab wr=>∃(f size a:Nat) (b:ap) (gF:Bool) (s:List ap),A=M size/\ab=M a/\a<256/\size<=255/\256<=f+size/\0<f/\E b<=1000000000/\E s<=size/\ed wr n b gF/\lX wr (J m.1) v s/\ey n m wr/\o=mT f a b gF size s) λ_ A _ _=>256-cM (intOf A);·exact⟨256,1,aY,a1,ay,[],U,U,L,G,G,G,P,ax,aV,⟨ih _ _ _ _,ax⟩,aq,K⟩
 ·(
 obtain⟨f,size,a,b,gF,s,rfl,rfl,bf,bl,bc,bd,ac,ba,g,X,C,R⟩:=hrel;have Ba:=O g;have H:=O X;have kO:=O C;have r:=O R;have:=g.frozen;have:=g.cells.2;have:=C.4;clear g X C R;obtain⟨f,rfl⟩:∃aH,f=aH+1:=⟨f-1,G⟩;by_cases y:a=0;{
 subst y;have bn:ao (o=(s,b,gF)):=fi
 clear r;go_wp2;go_ret;rw[bn];exact⟨_,U,H,Ba,kO⟩};{
 by_cases D:63<a\/255<size+1+a;{
 have bn:ao (o=([],b,aD)):=by rw[ao,r,mT,bV y,b8 D]
 have a3:0<a:=G;by_cases bb:63<a;{exact MU};{have:255<size+1+a:=G;exact MU}};{
 have a3:0<a:=G;have bn:ao (o=mT f (eY (eP b gF a).2.1 (eP b gF a).2.2).1 (eY (eP b gF a).2.1 (eP b gF a).2.2).2.1 (eY (eP b gF a).2.1 (eP b gF a).2.2).2.2 (size+1+a) (s++[(eP b gF a).1])):=by{rw[ao,r,mT,bV y,bV D]};have t:=O<|pO a Ba G ac;have q:=O<|cJ (uU b gF a) ac;generalize eP b gF a=a8 at*;let⟨p,l,k⟩:=a8;simp only at bn t q;let⟨aT,aO,aP,aw,aR⟩:=im wx;go_wp2_with fail;refine t.m ?_;rintro a4 ⟨Y,z,Z⟩;have x:=O<|OH H.1 z aa;have I:=O Y;have al:=O<|za kO z;have aC:=O Z;clear Y z Z t;go_wp2_with (at_builtin;go_loud (refine Dm _ U (.tmp 25) (.tmp 29) 23 U (J m.1) 9 aT (am ⟨#[]⟩) 1 16 A2 aO aP aw aR U bW _ (E s) _ U (x.alloc _) (N (J a4.1) 0) 1 1 [aS p] U U ?bG ?c2 ?c3 ?cB ?fe ?_));case bG=>(
 intro aU u i;match aU,i with
 |0,i=>simp at i;subst i;simp[Addr.add]
 |ab+1,i=>simp at i)
 case c2=>exact E5
 case c3=>unfold fk;omega
 case cB=>omega
 case fe=>have:=V aC;simp;omega
 intro ad ah bj S aJ;have Q:ao (lX ah (J m.1) ad<|s++[p]):=by{refine⟨?_,λh=>absurd h aJ,λh=>yo⟩;simp_all};have ar:=O<|ag_ (aha al _) S λaX aW=>(x.lt aX aW).1;have av:ao (ed ah n l k):=by{have aI:=I.lt;refine(S.5 n ct ?_).trans<|(dv _ _ _ aI).trans I;intro w;have:=(x.lt n<|b5 w).1;omega};have j:=O<|o0 l k av q;have F:=O<|cJ (sU l k) q;have aj:=O<|ze l k;generalize eY l k=a9 at*;let⟨a0,a2,az⟩:=a9;simp only at j F aj bn;go_wp21;refine j.m λa5 ⟨aM,T,bo⟩=>?_;let an:=O aM;let aB:=O<|za ar T;let au:ao (lX a5 (J m.1) ad<|s++[p]):=⟨OH Q.1 T aa,Q.2⟩;go_wp2;go_roundw;·exact⟨f,size+1+a,a0,a2,az,s++[p],dd,U,aj,G,G,G,F,by grind,an,au,aB,bn⟩
 ·exact qD}})
def fA(g:aQ)(b ay:Nat)(d:List aK):Prop:=b<J g.1/\∀a,a<E d->∀c e,(aK.bz d[a]!)[c]? = ae e->aA g (N b<|ay+a*4+c)=ae e
def fA.below{i:aQ}{ay:Nat}(b:fA m n ay p)(c:a6 m i):fA i n ay p:=
 ⟨eA b.1 c.4,λe j d l k=>(c.cell (p:=⟨n,ay+e*4+d,af⟩) b.1).trans (b.2 e j d l k)⟩
def jy(d:aQ)(v:bk)(a:List aK):Prop:=(v=bX/\a=[])\/∃b ay c,v=bL b ay (E a) c/\E a<=c/\fA d b ay a
def jy.below(a:jy m e p)(h:a6 m u):jy u e p:=by rcases a with a|⟨b,ay,g,k,i,j⟩;{exact bJ a};{exact bE ⟨b,ay,g,k,i,j.below h⟩}
def OI(a b:Nat)(hj:a<E p)(aO:b<4):(gz p)[a*4+b]? = (aK.bz p[a]!)[b]?:=by
 induction p generalizing a with
 |nil=>simp at hj
 |cons d e i=>{
 let g:gz (d::e)=d.bz++gz e:=by simp[gz]
 let h:E d.bz=4:=U;rw[g];cases a with
 |zero=>rw[Cr G];simp
 |succ a=>{rw[pv G,h,show(a+1)*4+b-4=a*4+b from G,i a AA];simp}}
def OJ{ay:Nat}(j:n<J m.1)(a:∀b d,(gz p)[b]? = ae d->aA m (N n<|ay+b)=ae d):fA m n ay p:=by refine bd j<|λb k c d g=>?_;let aO:c<4:=by{rcases Nat.lt_or_ge c 4 with a|a;{exact a};{rw[Ph<|by simpa [aK.bz]using a]at g;cases g}};have:=a (b*4+c) d<|(OI b c k aO)▸g;rwa [<-pL]at this
def qO.rv(b:qO m n e p):jy m e p:=by obtain⟨⟨x,b|⟨j,h,i,v,w,c,k,t,u,l⟩⟩,o⟩:=b;{exact bJ<|bd b.1<|o.1 b.1};{refine .inr ⟨j,0,h,v,k,OJ (dK.1 c).1 λq r a=>?_⟩;let d:i[q]? = ae r:=by{rw[<-l]at a;let:=(iW.1 a).1;rw[yG]at a;split at a;{simpa using a};{cases a}};simp[aA,c,d]}
def fA.drop{ay:Nat}(g:fA m n ay p)(a:Nat):fA m n (ay+a*4) (bi a p):=by refine bd g.1<|λb k d l h=>?_;rw[il]at k;let j:(bi a p)[b]! = p[a+b]!:=ax;rw[j]at h;have:=g.2 (a+b) G d l h;rwa [show ay+(a+b)*4+d=ay+a*4+b*4+d from G]at this
def fA.take{ay:Nat}(d:fA m n ay p)(g:Nat):fA m n ay (be g p):=by refine bd d.1<|λb j k l e=>?_;rw[iv]at j;let i:(be g p)[b]! = p[b]!:=by{rw[Pg,Pg,yG,b8 G]};rw[i]at e;exact d.2 b G k l e
def fA.four{ay:Nat}(h:fA m n ay p)(a:Nat)(e:a<E p):aA m (N n<|ay+a*4)=ae (am<|D p[a].owner)/\aA m (N n<|ay+a*4+1)=ae (M p[a].aP)/\aA m (N n<|ay+a*4+2)=ae (M p[a].type)/\aA m (N n<|ay+a*4+3)=ae (am<|D p[a].data):=by let g:=yT p a e;have:=h.2 a e;rw[g]at this;exact⟨this 0 _ U,this 1 _ U,this 2 _ U,this 3 _ U⟩
def lJ(a:Int)(b:aK):Bool:=b.type==a
def ahd{a:aK}(g:aA m (N n 0)=ae (M j))(e:n<J m.1):a_ aL 146 #[ce #[aS a.owner,M a.aP,M a.type,aS a.data],bv n] m (cI (aG<|lJ j a) m):=by go_wp2;go_ret;exact Fg
def ahe(h:aA m (N n 0)=ae (M j))(d:n<J m.1):PredBelow aL 146 #[bv n] (λi=>ce<|c7<|aK.bz i) (lJ j) m:=by intro c k b;exact(ahd ((b.cell (p:=⟨n,0,af⟩) d).trans h) (eA d b.4)).m λl g=>bd U<|bC b (bN g b.4)
def ahf(e:Int)(c:Nat){ay:Nat}(g:Nat)(k:aA m (N c 0)=ae (M e))(j:c<J m.1)(h:fA m n ay p)(b:E p<=3001):a_ aL 145 #[bL n ay (E p) g,ez (.func 146) #[] #[bv c]] m λi l=>i=bh (aG<|p.any<|lJ e)/\a6 m l:=by have:=AnyQ.slices_ContainsFunc Tryz.akX 4 Tryz.isAgg83 Tryz.sizeOf83 aK.bz (λ_=>U) (lJ e) 146 #[bv c] (enters_of func146 b6 U) n ay (E p) g p m (ahe k j) bo G h.1 h.2;rw[jc]at this;exact this
def IT{ay:Nat}(k:fA m n ay p)(a:E p<=3001):a_ aL 77 #[bL n ay (E p) v,M j] m (cI (aG<|p.any<|lJ j) m):=by let g:a6 m (aN m<|aZ #[ag ai j] 3):=cf cc bo _;let h:=O<|ahf j (J m.1) v ax ax (k.below g) a;go_in;go_wp21;refine h.m λl i=>?_;go_wp2;go_ret;exact bd U<|bC g (bN i ax)
def ahg:a_ aL 200 #[bX,e] m λb d=>b=bh (M<|-1)/\d=m:=by
 go_wp2;go_loop [8] (λc=>c=M 0) λ_=>0;·rfl
 ·(obtain rfl:=hrel;go_wp2;go_ret;exact bd U U)
def ahi:a_ aL 77 #[bX,M j] m (cI (aG ak) m):=by let c:ao (∀f m,a_ aL 145 #[bX,f] m λd b=>d=bh (aG ak)/\b=m):=by{intro f m;go_in;go_wp2_with (go_at_call 200;refine(ahg).m ?_;rintro b rfl);go_ret;exact oa};go_in;go_wp21;refine(c _ _).m ?_;rintro b rfl;go_wp2;go_ret;exact bd U<|cf cc bo _
def IU(c:Int)(g:jy m e p)(d:E p<=3001):a_ aL 77 #[e,M c] m (cI (aG<|p.any<|lJ c) m):=by rcases g with⟨rfl,rfl⟩|⟨h,ay,i,rfl,_,b⟩;{exact ahi};{exact IT b d}
def lO(c:ap)(b:List aK):Bool:=
 match b with
 |[]=>ak
 |a::d=>dC (E b<=60)&&(a.owner==c&&a.type==6 && !d.any (lJ 6))
def M6(h:φ:=by go_wp2;go_ret;exact⟨e_ (by rw[bK,ho,ht];rfl),hb'⟩):φ:=h
def IV(a:ap)(w:jy m e p)(u:E p<=3001):a_ aL 34 #[aS a,e] m (cI (aG<|lO a p) m):=by
 rcases w with⟨rfl,rfl⟩|⟨k,ay,d,rfl,q,g⟩;{go_wp2;go_ret;exact⟨U,cU _ _⟩};cases p with
 |nil=>{go_wp2;go_ret;exact⟨U,cU _ _⟩}
 |cons b c=>{
 rw[dW]at q u⊢;let⟨n,_,o,_⟩:=g.four 0 ax;have h:=g.drop 1;let t:fA m k ay []:=⟨g.1,λz hj=>AF⟩;simp only[o7,h8,eB,Nat.one_mul,List.drop_succ_cons,pW]at n o h;let j:=O h;let l:=O t;by_cases y:60<(E c:Int)+1;{let bK:ao (lO a (b::c)=ak):=by{rw[lO,ao,dW,fI G];rfl};go_wp2;go_ret;exact⟨e_<|b5 bK,cU _ _⟩};let bK:ao (lO a (b::c)=(b.owner==a&&b.type==6 && !c.any (lJ 6))):=by{rw[lO,ao,dW,lx G];rfl};have i:((D b.owner).toList==(D a).toList)=(b.owner==a):=by rw[yV];rfl
 cases ho:b.owner==a;{rw[ho]at i;go_wp2;go_ret;exact⟨e_ (by rw[bK,ho];rfl),cU _ _⟩};rw[ho]at i;cases ht:b.type==6;{go_wp2;go_ret;exact⟨e_ (by rw[bK,ho,ht];rfl),cU _ _⟩};by_cases r:d=1;{subst r;obtain rfl:c=[]:=hq G;go_in;go_wp21;refine(IT l ax).m λx hb'=>?_;exact M6};{go_in;go_wp21;refine(IT j G).m λx hb'=>?_;exact M6}}
def uV:((D d).toList==(D h).toList)=(d==h):=by rw[yV];rfl
theorem VJ:EqlAt aL 83 (λa:aK=>ce<|c7<|aK.bz a) (λa d=>a==d):=by
 refine⟨λa d n=>?_,GuardAt.agg _ ax⟩;let:=underlying3;let:=Tryz.isAgg3;let:=Tryz.sizeOf3;let:=underlying9;let:=Tryz.isAgg9;let:=Tryz.sizeOf9;let k:aL.underlying 83=ae (.struct<|aL.fieldsOf 83):=b6;let l:aL.stoodInHeld 83=ak:=ax;simp only[aK.bz];rw[run_eql_struct,show(10000:Nat)=9999+1 from U,run_equalIn_agg n 9999 83 _ _ k l];simp only[Program.fieldsOf,underlying83];let⟨o,c,p,q⟩:=a;let⟨r,e,t,u⟩:=d;simp only[aK.owner,aK.aP,aK.type,aK.data];let w:∀b:ap,(D b).toList=b:=λb=>by rw[gC];rfl
 let:((c:Int)=e)=(c=e):=by grind
 go_simp;by_cases g:o=r<;>by_cases h:c=e<;>by_cases i:p=t<;>by_cases j:q=u<;>simp[g,h,i,j]
def OK(a){ay}(e)(h:fA m n ay p)(k:E p<=3001):a_ aL 152 #[bL n ay (E p) e,ce #[aS a.owner,M a.aP,M a.type,aS a.data]] m λg i=>g=bh (aG (p.any (a == ·)))/\a6 m i:=by have:=AnyQ.slices_Contains Tryz.lContains 4 Tryz.isAgg83 Tryz.sizeOf83 aK.bz (λ_=>U) (λa j=>a==j) VJ n ay (E p) e p a m bo G h.2;rw[jc]at this;exact this
def jn(a:cv n m u)(e):cv n m (dS u e):=⟨a.1,a.2,a.3,a.4,a.5⟩
def C_(d:cv n m u):cv n m (bx u):=d.drew
def ql(c:Nat):List aK->List aK->Bool
 |_,[]=>aD
 |b,a::d=>a.aP==c && !b.any (a == ·)&&ql c (b++[a]) d
def oL(a:List aK):Bool:=
 match a with
 |[]=>aD
 |b::_=>ql b.aP [] a
def ahj{c ay}(z:fA m n ay (c::p))(ad:E (c::p)<=3001)(ab:E (c::p)<=v):a_ aL 84 #[bL n ay (E (c::p)) v] m (cI (aG<|oL (c::p)) m):=by
 have q:ao (oL (c::p)=ql c.aP [] (c::p)):=U;let⟨X,I,Y,Z⟩:=z.four 0 ax;clear Y Z;simp only[o7,h8,eB]at X I;have:0<E (c::p):=ax;generalize ah:c.aP=F,c::p=b at*;have P:=O z;have R:=z.1;go_wp2;go_loopw [7] (λB wr=>∃a:Nat,a<=E b/\B=M a/\ql F (be a b) (bi a b)=ql F [] b/\a6 m wr) λB _=>E b-cM (fj B);·exact⟨0,dJ _,U,ax,cU _ _⟩
 ·(
 obtain⟨a,ac,rfl,h,g⟩:=hrel;replace h:=O h;have H:=P.below g;have:=(g.cell (p:=⟨n,ay+1,af⟩) R).trans I;have A:=g.4;have:n<J wr.1:=G;by_cases y:a<E b;{
 have:=H.four a y;have:(a:Int)<E b:=G;have x:=O<|jM y;have W:=O<|g8 y;have K:=H.take a;have N:=O K;have T:E (be a b)=a:=by grind
 have L:=O T;generalize b[a]=d at*;have l:∀k,a6 wr k->∀t,a_ aL 152 #[bL n ay a t,ce #[aS d.owner,M d.aP,M d.type,aS d.data]] k (cI (aG ((be a b).any (d == ·))) k):=by{intro k Q t;have:=OK d t (N.below Q) (by grind);rw[L]at this;exact this};replace l:=O l;by_cases C:d.aP=F;{
 subst C;cases D:(be a b).any (d == ·);{
 let V:ao (ql d.aP (be (a+1) b) (bi (a+1) b)=ql d.aP [] b):=by{rw[ao,<-h,x,ql,D,W];simp};go_wp2;go_region_with (go_at_call 152;refine(l _ (by exact C_<|cf cc bo _) _).m λaa w=>?_);all_goals(
 let u:=(C_<|cf g A _).trans<|bN w ct;let r:=O u;go_wp2;go_roundw;·exact⟨a+1,G,dd,V,r⟩
 ·simp[fj];omega)};{let i:ao (oL b=ak):=by{rw[ao,q,<-h,x,ql,D];simp};go_wp2;go_region_with (go_at_call 152;refine(l _ (by exact C_<|cf cc bo _) _).m λaa w=>?_);all_goals(let u:=(C_<|cf g A _).trans<|bN w ct;let r:=O u;go_wp2;go_ret;exact bd (e_<|b5 i) r)}};{
 have:((d.aP:Int) != (F:Int))=aD:=by grind
 have i:ao (oL b=ak):=by{have S:=ju.2 C;rw[ao,q,<-h,x,ql,S];rfl};go_wp2;go_quiet (fail);go_wp2;go_ret;exact⟨e_<|b5 i,jn (cf g A _) _⟩}};{let i:ao (oL b=aD):=by{rw[ao,q,<-h,pT G];rfl};go_wp2;go_ret;exact bd (e_<|b5 i) g})
def c8(a s:aK):Bool:=a.owner==s.owner&&a.type==s.type
def eS(a s:aK):Bool:=a.owner==s.owner
def jH(dA:aK->aK->Bool):Nat->Nat->List aK->List (Nat×List aK)
 |0,_,_=>[]
 |_+1,_,[]=>[]
 |f+1,c,a::b=>(c,a::he (dA a) b)::jH dA f (c+1+E (he (dA a) b)) (kT (dA a) b)
def dg(dA:aK->aK->Bool)(a:List aK):List (Nat×List aK):=jH dA (E a) 0 a
def Mp(h:φ:=by rw[Sort.alloc_eq_grow,Sort.alloc_eq_grow,Sort.grow_grow];rfl):φ:=h
def Ma(h:φ:=by rw[ho]at lH;go_wp2;go_ret;exact⟨e_<|b5 bK,0,_,Mp⟩):φ:=h
def OL(a s b):a_ aL 151 #[ce #[aS a.owner,M a.aP,M a.type,aS a.data],ce #[aS s.owner,M s.aP,M s.type,aS s.data]] b λc g=>c=bh (aG<|c8 a s)/\∃e d,g=Sort.grow (dS b e) d:=by
 have lH:((D a.owner).toList==(D s.owner).toList)=(a.owner==s.owner):=uV;cases ho:a.owner==s.owner;{
 let bK:ao (c8 a s=ak):=by rw[c8,ho];rfl
 exact Ma};{
 let bK:ao (c8 a s=(a.type==s.type)):=by rw[c8,ho];rfl
 exact Ma}
def OM(a s b):a_ aL 154 #[ce #[aS a.owner,M a.aP,M a.type,aS a.data],ce #[aS s.owner,M s.aP,M s.type,aS s.data]] b λc g=>c=bh (aG<|eS a s)/\∃e d,g=Sort.grow (dS b e) d:=by let:((D a.owner).toList==(D s.owner).toList)=(a.owner==s.owner):=uV;go_wp2;go_ret;exact⟨U,0,_,Mp⟩
def IW(dA):∀(f a:Nat) (l:List aK),E l<=f->jH dA f a l=jH dA (E l) a l
 |0,a,l,c=>by grind
 |f+1,a,[],c=>U
 |f+1,a,d::b,c=>by have e:E (kT (dA d) b)<=E b:=by{have:=eQ List.length<|rY (p:=dA d) (l:=b);grind};rw[jH,dW,jH,IW dA f _ _<|by grind,IW dA (E b) _ _ e]
def O9{dA b}:jH dA (E (b::p)) n (b::p)=(n,b::he (dA b) p)::jH dA (E<|kT (dA b) p) (n+1+E (he (dA b) p)) (kT (dA b) p):=by let d:E (kT (dA b) p)<=E p:=by{let:=eQ List.length<|rY (p:=dA b) (l:=p);grind};rw[dW,jH,IW dA (E p) _ _ d]
theorem IX{p}:∀(c:List aK) (a:Nat) (b:a<E (he p c)),∃d:a<E c,p c[a]=aD
 |[],a,b=>by simp at b
 |g::c,a,b=>by
  by_cases e:p g=aD;{
  rw[DQ e]at b;cases a with
  |zero=>grind
  |succ a=>{obtain⟨d,h⟩:=IX c a (by simpa using b);grind}};simp_all
theorem IY{p}:∀(a:List aK) (b:E (he p a)<E a),p a[E<|he p a]=ak
 |[],b=>by grind
 |c::a,b=>by
  by_cases e:p c=aD;{
  have d:E (he p (c::a))=E (he p a)+1:=by simp_all
  have:=IY a (by rw[d]at b;simpa using b);grind};simp_all
def yH(a d c):a6 a (Sort.grow (dS a d) c):=
 ⟨U,U,U,ax,λb e=>by
  show(a.1++c)[b]? = a.1[b]?
  grind⟩
def sW{ay}(d:fA m n ay p)(i:J m.1<=J u.1)(g:u.1[n]? = m.1[n]?):fA u n ay p:=
 ⟨eA d.1 i,λl h k e j=>(dR g).trans<|d.2 l h k e j⟩
def ahk{ay}(b:fA m n ay p)(c:cv v m u)(l:n<v):fA u n ay p:=
 ⟨eA b.1 c.4,λe k d o h=>(c.cell (p:=⟨n,ay+e*4+d,af⟩) l).trans (b.2 e k d o h)⟩
def PH(b e c d a):a_ aL 150 #[aE b e c,ez (.func d) #[] #[]] a λg h=>g=bh (ez (.func 203) #[] #[bv<|J a.1,bv<|J a.1+1])/\h=aN (aN a<|aZ #[aE b e c] 77) (aZ #[ez (.func d) #[] #[]] 246):=by go_wp2;go_ret;simp
section
attribute [local go_sem] Oper.semAt_some
def Fe(h:φ:=by show bs<_;omega):φ:=h
def EK(h:φ:=by show bl<_;omega):φ:=h
def M4(h:φ:=by exact⟨0,0,U,dJ _,dJ _,by simp[dg],h0,kC.refl _ _ _ _⟩):φ:=h
def L_(h:φ:=by{let⟨h',e⟩:=CJ (m-(k+1)) adm;rw[hg]at e;exact e}):φ:=h
def MT(h:φ:=by have:=hend<|h'▸n9;simp only[h']at this;rw[hg]at this;exact this):φ:=h
def Fa(h:φ:=by gi_wp2;exact dQ (wq U _ _ _) U ⟨eR _ U,bE yx⟩):φ:=h
def EM(h:φ:=by have dY:=gA.trans hk4;replace mE:=O mE;gi_wp2_with fail;exact⟨⟨i+1,m,by go_num,G,Bg,kz,mE,dY⟩,by simp[fj];omega⟩):φ:=h
def je(h:φ:=by show b<_;omega):φ:=h
def M0(h:φ:=by gi_wp2_with fail;exact⟨⟨m+1,by go_num,G,G,jt i _ _ hJ2<|yH _ _ _,hB2.trans<|kC.Pb (yH _ _ _) G G G⟩,by exact v7⟩):φ:=h
def zf(b ay w bl bs:Nat)(a:List aK)(g:aQ)(X:aA g (N bl 0)=ae (bL b ay (E a) w)) (Z:aA g (N bs 0)=ae (ez (.func 151) #[] #[]))(D:fA g b ay a) (W:bl<J g.1) (bb:bs<J g.1) (bf:E a<=3001) (ba:E a<=w):uq aL 203 #[bv bl,bv bs] (λP:Nat×List aK=>#[bL b (ay+P.1*4) (E P.2)<|E P.2]) (dg c8 a)
   (λaj al=>a6 aj al) (kC bl bs b) (λ_ _=>True) g:=by
 have:=D.1;intro l T a8 aS a5 aT h0;have aa:=O aT;have jt:=O aS;refine callsIn_of_wp func203 U cy ?_;simp only[ntmps203,mA,dW,gG,Nat.reduceAdd,Nat.reduceSub,mx,mP,mR,mQ,iF,fN];gi_wp2;gi_loopw [4] (λs wr=>∃i k:Nat,s=M k/\k<=E a/\i<=E (dg c8 a)/\bi i (dg c8 a)=jH c8 (E<|bi k a) k (bi k a)/\T i wr/\kC bl bs b g wr) λs _=>E a-cM (fj s);·exact M4
 ·(
 obtain⟨i,k,rfl,bc,aO,aW,a4,r⟩:=hrel;have o:=O aW;have S:=O a4;have t:=(dR r.2.1).trans X;have x:=(dR r.2.2.1).trans Z;by_cases C:k<E a;{
 have q:=sW D r.1 r.2.2.2;have u:=q.four k C;have aV:=jM C;have a1:∀m (aR:m<E a) (h0:k+1<=m),∃h':m-(k+1)<E (bi (k+1) a),(bi (k+1) a)[m-(k+1)]=a[m]:=λm aR h0=>⟨by rw[il];omega,by rw[yQ];congr 1;omega⟩;have a0:E (bi (k+1) a)=E a-(k+1):=il;rw[aV,O9]at o;have ap:=O a1;let⟨d,B⟩:=bm<|E<|he (c8 a[k])<|bi (k+1) a;have bj:d<=E a-(k+1):=by{rw[B,<-a0];exact(OT _).length_le};have CJ:=O<|IX (p:=c8 a[k]) (bi (k+1) a);have hend:=O<|IY (p:=c8 a[k]) (bi (k+1) a);rw[<-B]at CJ;have n:=O B;generalize F:a[k]=c at*;replace F:=O F;have Q:ao ((dg c8 a)[i]? = ae (k,c::he (c8 c) (bi (k+1) a))):=by{have:=eQ (λl:List (Nat×List aK)=>l[0]?) o;rw[ao];simpa using this};have Bg:ao (i+1<=E (dg c8 a)):=(iW.1 Q).1;have V:ao (kT (c8 c) (bi (k+1) a)=bi (k+1+d) a):=by{
 have W:bi (k+1+d) a=bi d (bi (k+1) a):=by rw[my]
 rw[ao,W,n];conv=>rhs;arg 2;rw[<-rY (p:=c8 c) (l:=bi (k+1) a)]
 rw[Ic]};gi_wp2_with fail;gi_loopw [5] (λe ah=>∃m:Nat,e=M m/\k+1<=m/\m<=k+1+d/\T i ah/\kC bl bs b g ah) λe _=>E a-cM (fj e);·exact⟨k+1,by go_num,cO _,G,S,r⟩
 ·(
 obtain⟨m,rfl,aq,a9,hJ2,hB2⟩:=hrel;replace hJ2:=O hJ2;have t:=(dR hB2.2.1).trans X;have x:=(dR hB2.2.2.1).trans Z;have q:=sW D hB2.1 hB2.2.2.2;let⟨u,H,I,K⟩:=q.four k C;rw[F]at u H I K;by_cases Y:m<E a;{
 let⟨ac,ad,fa,fy⟩:=q.four m Y;let⟨n9,hg⟩:=ap m Y aq;by_cases adm:m-(k+1)<d;{have aX:c8 c a[m]=aD:=L_;generalize a[m]=s at*;have an:(m:Int)<E a:=G;have a2:(k:Int)<E a:=G;have aU:aL.follows .mixedOrders=aD:=b6;have ab:=hB2.1;have aM:=hU EK t;have aP:=hU Fe x;have aF:=hU je u;have aH:=hU je H;have aI:=hU je I;have aJ:=hU je K;have y:=hU je ac;have ax:=hU je ad;have az:=hU je fa;have aB:=hU je fy;gi_wp2_with fail;refine wpIn_wide.2 ?_;go_quiet_grown ((go_at_call 151;exact Calls.grown_of<|OL c s _));exact M0};{
 have h:m=k+1+d:=G;have aX:c8 c a[m]=ak:=by{
 have h':E (he (c8 c)<|bi (k+1) a)=m-(k+1):=by rw[<-n];omega
 exact MT};generalize a[m]=s at*;have an:(m:Int)<E a:=G;have a2:(k:Int)<E a:=G;replace h:=O h;have L:ao (E (c::he (c8 c) (bi (k+1) a))=m-k):=by{rw[ao,dW,<-n,h];omega};have kz:ao (bi (i+1) (dg c8 a)=jH c8 (E<|bi m a) m (bi m a)):=by{rw[ao,<-my,o,DG,DP,V,<-n,<-h]};have aU:aL.follows .mixedOrders=aD:=b6;have ab:=hB2.1;have aM:=hU EK t;have aP:=hU Fe x;have aF:=hU je u;have aH:=hU je H;have aI:=hU je I;have aJ:=hU je K;have y:=hU je ac;have ax:=hU je ad;have az:=hU je fa;have aB:=hU je fy;gi_wp2_with fail;refine wpIn_wide.2 ?_;go_quiet_grown ((go_at_call 151;exact Calls.grown_of<|OL c s _));have z:=jt i _ _ hJ2<|yH wr nq osq;have gA:=hB2.trans<|kC.Pb (yH wr nq osq) G G G;have j:=aa i (k,c::he (c8 c) (bi (k+1) a)) _ Q z;dsimp only at j;rw[L]at j;let⟨aC,a3,au,aw,aY,A⟩:=j;gi_wp2_with fail;refine bd U<|A.mono ?_;rintro e ar (⟨rfl,mE,hk4⟩|⟨rfl,yx,_⟩);{exact EM};{exact Fa}}};{have h:m=k+1+d:=G;have R:=O h;clear h q;have:m<=E a:=G;have ab:=hB2.1;have L:ao (E (c::he (c8 c) (bi (k+1) a))=m-k):=by{rw[ao,dW,<-n,R];omega};have kz:ao (bi (i+1) (dg c8 a)=jH c8 (E<|bi m a) m (bi m a)):=by{rw[ao,<-my,o,DG,DP,V,<-n,<-R]};gi_wp2_with fail;refine wpIn_wide.2 ?_;go_quiet (fail);have z:=jt i _ _ hJ2<|jn (cU _ wr) nq;have gA:=hB2.trans<|kC.Pb (jn (cU (J wr.1) wr) nq) G G G;have:bY (dS wr nq) bl 0 (bL b ay (E a) w):=t;have j:=aa i (k,c::he (c8 c) (bi (k+1) a)) _ Q z;dsimp only at j;rw[L]at j;let⟨aC,a3,au,aw,aY,A⟩:=j;gi_wp2_with fail;refine bd U<|A.mono ?_;rintro e ar (⟨rfl,mE,hk4⟩|⟨rfl,yx,_⟩);{exact EM};{exact Fa}})};{gi_wp2;go_end0;have av:i=E (dg c8 a):=by{have:=o;rw[pT<|show E a<=k by omega]at this;have h':=eQ List.length this;rw[il]at h';have y:E (jH c8 (List.length (α:=aK) []) k [])=0:=U;rw[y]at h';omega};exact⟨eR _ U,bJ<|av▸S⟩})
def ahl{h ay:Nat}(q:aA m (N n 0)=ae (bX)){g:aQ->aQ->Prop}:uq aL 203 #[bv n,bv v] (λb:Nat×List aK=>#[bL h (ay+b.1*4) (E b.2)<|E b.2]) (dg c8 [])
   (λd e=>a6 d e) g (λ_ _=>True) m:=by
 intro r l a o k p j;refine callsIn_of_wp func203 U cy ?_;simp only[ntmps203,mA,dW,gG,Nat.reduceAdd,Nat.reduceSub,mx,mP,mR,mQ,iF,fN];gi_wp2;gi_loopw [4] (λs wr=>s=M 0/\wr=m) λ_ _=>0;·exact oa
 ·(obtain⟨rfl,rfl⟩:=hrel;gi_wp2;go_end0;exact⟨eR _ U,bJ j⟩)
end
section
attribute [local go_sem] Oper.semAt_some
def IZ(b ay w bl bs:Nat)(a:List aK)(g:aQ)(X:aA g (N bl 0)=ae (bL b ay (E a) w)) (Z:aA g (N bs 0)=ae (ez (.func 154) #[] #[]))(D:fA g b ay a) (W:bl<J g.1) (bb:bs<J g.1) (bf:E a<=3001) (ba:E a<=w):uq aL 203 #[bv bl,bv bs] (λP:Nat×List aK=>#[bL b (ay+P.1*4) (E P.2)<|E P.2]) (dg eS a)
   (λaj al=>a6 aj al) (kC bl bs b) (λ_ _=>True) g:=by
 have:=D.1;intro l T a8 aS a5 aT h0;have aa:=O aT;have jt:=O aS;refine callsIn_of_wp func203 U cy ?_;simp only[ntmps203,mA,dW,gG,Nat.reduceAdd,Nat.reduceSub,mx,mP,mR,mQ,iF,fN];gi_wp2;gi_loopw [4] (λs wr=>∃i k:Nat,s=M k/\k<=E a/\i<=E (dg eS a)/\bi i (dg eS a)=jH eS (E<|bi k a) k (bi k a)/\T i wr/\kC bl bs b g wr) λs _=>E a-cM (fj s);·exact M4
 ·(
 obtain⟨i,k,rfl,bc,aO,aW,a4,r⟩:=hrel;have o:=O aW;have S:=O a4;have t:=(dR r.2.1).trans X;have x:=(dR r.2.2.1).trans Z;by_cases C:k<E a;{
 have q:=sW D r.1 r.2.2.2;have u:=q.four k C;have aV:=jM C;have a1:∀m (aR:m<E a) (h0:k+1<=m),∃h':m-(k+1)<E (bi (k+1) a),(bi (k+1) a)[m-(k+1)]=a[m]:=λm aR h0=>⟨by rw[il];omega,by rw[yQ];congr 1;omega⟩;have a0:E (bi (k+1) a)=E a-(k+1):=il;rw[aV,O9]at o;have ap:=O a1;let⟨d,B⟩:=bm<|E<|he (eS a[k])<|bi (k+1) a;have bj:d<=E a-(k+1):=by{rw[B,<-a0];exact(OT _).length_le};have CJ:=O<|IX (p:=eS a[k]) (bi (k+1) a);have hend:=O<|IY (p:=eS a[k]) (bi (k+1) a);rw[<-B]at CJ;have n:=O B;generalize F:a[k]=c at*;replace F:=O F;have Q:ao ((dg eS a)[i]? = ae (k,c::he (eS c) (bi (k+1) a))):=by{have:=eQ (λl:List (Nat×List aK)=>l[0]?) o;rw[ao];simpa using this};have Bg:ao (i+1<=E (dg eS a)):=(iW.1 Q).1;have V:ao (kT (eS c) (bi (k+1) a)=bi (k+1+d) a):=by{
 have W:bi (k+1+d) a=bi d (bi (k+1) a):=by rw[my]
 rw[ao,W,n];conv=>rhs;arg 2;rw[<-rY (p:=eS c) (l:=bi (k+1) a)]
 rw[Ic]};gi_wp2_with fail;gi_loopw [5] (λe ah=>∃m:Nat,e=M m/\k+1<=m/\m<=k+1+d/\T i ah/\kC bl bs b g ah) λe _=>E a-cM (fj e);·exact⟨k+1,by go_num,cO _,G,S,r⟩
 ·(
 obtain⟨m,rfl,aq,a9,hJ2,hB2⟩:=hrel;replace hJ2:=O hJ2;have t:=(dR hB2.2.1).trans X;have x:=(dR hB2.2.2.1).trans Z;have q:=sW D hB2.1 hB2.2.2.2;let⟨u,H,I,K⟩:=q.four k C;rw[F]at u H I K;by_cases Y:m<E a;{
 let⟨ac,ad,fa,fy⟩:=q.four m Y;let⟨n9,hg⟩:=ap m Y aq;by_cases adm:m-(k+1)<d;{have aX:eS c a[m]=aD:=L_;generalize a[m]=s at*;have an:(m:Int)<E a:=G;have a2:(k:Int)<E a:=G;have aU:aL.follows .mixedOrders=aD:=b6;have ab:=hB2.1;have aM:=hU EK t;have aP:=hU Fe x;have aF:=hU je u;have aH:=hU je H;have aI:=hU je I;have aJ:=hU je K;have y:=hU je ac;have ax:=hU je ad;have az:=hU je fa;have aB:=hU je fy;gi_wp2_with fail;refine wpIn_wide.2 ?_;go_quiet_grown ((go_at_call 154;exact Calls.grown_of<|OM c s _));exact M0};{
 have h:m=k+1+d:=G;have aX:eS c a[m]=ak:=by{
 have h':E (he (eS c)<|bi (k+1) a)=m-(k+1):=by rw[<-n];omega
 exact MT};generalize a[m]=s at*;have an:(m:Int)<E a:=G;have a2:(k:Int)<E a:=G;replace h:=O h;have L:ao (E (c::he (eS c) (bi (k+1) a))=m-k):=by{rw[ao,dW,<-n,h];omega};have kz:ao (bi (i+1) (dg eS a)=jH eS (E<|bi m a) m (bi m a)):=by{rw[ao,<-my,o,DG,DP,V,<-n,<-h]};have aU:aL.follows .mixedOrders=aD:=b6;have ab:=hB2.1;have aM:=hU EK t;have aP:=hU Fe x;have aF:=hU je u;have aH:=hU je H;have aI:=hU je I;have aJ:=hU je K;have y:=hU je ac;have ax:=hU je ad;have az:=hU je fa;have aB:=hU je fy;gi_wp2_with fail;refine wpIn_wide.2 ?_;go_quiet_grown ((go_at_call 154;exact Calls.grown_of<|OM c s _));have z:=jt i _ _ hJ2<|yH wr nq osq;have gA:=hB2.trans<|kC.Pb (yH wr nq osq) G G G;have j:=aa i (k,c::he (eS c) (bi (k+1) a)) _ Q z;dsimp only at j;rw[L]at j;let⟨aC,a3,au,aw,aY,A⟩:=j;gi_wp2_with fail;refine bd U<|A.mono ?_;rintro e ar (⟨rfl,mE,hk4⟩|⟨rfl,yx,_⟩);{exact EM};{exact Fa}}};{have h:m=k+1+d:=G;have R:=O h;clear h q;have:m<=E a:=G;have ab:=hB2.1;have L:ao (E (c::he (eS c) (bi (k+1) a))=m-k):=by{rw[ao,dW,<-n,R];omega};have kz:ao (bi (i+1) (dg eS a)=jH eS (E<|bi m a) m (bi m a)):=by{rw[ao,<-my,o,DG,DP,V,<-n,<-R]};gi_wp2_with fail;refine wpIn_wide.2 ?_;go_quiet (fail);have z:=jt i _ _ hJ2<|jn (cU _ wr) nq;have gA:=hB2.trans<|kC.Pb (jn (cU (J wr.1) wr) nq) G G G;have:bY (dS wr nq) bl 0 (bL b ay (E a) w):=t;have j:=aa i (k,c::he (eS c) (bi (k+1) a)) _ Q z;dsimp only at j;rw[L]at j;let⟨aC,a3,au,aw,aY,A⟩:=j;gi_wp2_with fail;refine bd U<|A.mono ?_;rintro e ar (⟨rfl,mE,hk4⟩|⟨rfl,yx,_⟩);{exact EM};{exact Fa}})};{gi_wp2;go_end0;have av:i=E (dg eS a):=by{have:=o;rw[pT<|show E a<=k by omega]at this;have h':=eQ List.length this;rw[il]at h';have y:E (jH eS (List.length (α:=aK) []) k [])=0:=U;rw[y]at h';omega};exact⟨eR _ U,bJ<|av▸S⟩})
end
section
variable {P:Program} {ops:Array Oper} {Q:Exit->Act->World->Prop}{l:Nat}
def ahm(q:∀(n:Nat) (e:Oper),ops[n]? = ae e->∀k,e.2≠.defer k){h i}(o:∀b m,h b m->i b m){b}(d:wpOpIn e6 0 P ops Q n h b m):wpOpIn (e6.inRound l) 0 P ops Q n i b m:=by
 unfold wpOpIn at*;cases g:ops[n]? with
 |none=>simp only[g]at d⊢;grind
 |some e=>{simp only[g]at d⊢;split;{rename_i p;simp only[p,mM]at d;let j:=Oper.wpIn_mono o d;refine bd j.1 ?_;have c:=j.2;rw[Oper.semAt_eq _ _ _<|q n e g]at c⊢;assumption};simp_all}
def PI(i:∀(e:Nat) (j:Oper),ops[e]? = ae j->∀k,j.2≠.defer k)(h):∀(c:Nat) (g:Array Bool) (a:kq) (b:aQ),
  wpAnyIn e6 0 P h ops Q c g a b->wpAnyIn (e6.inRound l) 0 P h ops Q c g a b
 |0,_,_,_,d=>d
 |c+1,g,a,b,d=>⟨d.1,λe aO=>ahm i (λa b n=>PI i h c _ a b n)<|d.2 e aO⟩
def wU{a}(g:P.follows .mixedOrders=aD)(j:∀(h:Nat) (b:Oper),ops[h]? = ae b->∀d,b.2≠.defer d)(e:wpAnyIn e6 0 P .any ops Q (J ops) (Array.replicate (J ops) ak) a<|bx m):(Code.region n ops aD).wpIn (e6.inRound l) 0 P Q a m:=
 wpIn_region_any g (PI j _ _ _ _ _ e)
def ahn(ops:Array Oper):Bool:=ops.all λa=>match a.2 with
 |.defer _=>ak
 |_=>aD
def tQ(d:ahn ops=aD):∀(c:Nat) (a:Oper),ops[c]? = ae a->∀b,a.2≠.defer b:=by intro c a g b h;let e:=Array.mem_of_getElem? g;let:=(Array.all_eq_true_iff_forall_mem.1 d) a e;grind
end
section
attribute [local go_sem] Oper.semAt_some
def eF(a:Nat×List aK):ap:=(a.2.headD aK.zero).owner
def I0(b:Option Addr)(d c:Nat)(a:aQ):a_ aL 85 #[aE b d c] a λe g=>e=bh (ez (.func 153) #[] #[bv<|J a.1])/\g=aN a (aZ #[aE b d c] 77):=by go_wp2;go_ret;exact oa
def PJ(dA:aK->aK->Bool):∀(f b:Nat) (l:List aK) (a:Nat×List aK),a∈jH dA f b l->b<=a.1/\a.1+E a.2<=b+E l/\0<E a.2/\a.2=be (E a.2) (bi (a.1-b) l)
 |0,b,l,a,e=>by simp[jH]at e
 |f+1,b,[],a,e=>by simp[jH]at e
 |f+1,b,c::d,a,e=>by
  have j:=eQ List.length<|rY (p:=dA c) (l:=d);rw[dj]at j;rw[jH,fw]at e;rcases e with rfl|e;{
  refine⟨cO _,ct,ax,?_⟩;simp only[pX,pW,dW,uQ];congr 1;conv=>rhs;arg 2;rw[<-rY (p:=dA c) (l:=d)]
  rw[List.take_left]};{
  obtain⟨k,n,h,i⟩:=PJ dA f _ _ a e;refine⟨G,ct,h,?_⟩;have g:bi (a.1-b) (c::d)=bi (a.1-(b+1+E (he (dA c) d))) (kT (dA c) d):=by{
  conv=>lhs;arg 2;arg 2;rw[<-rY (p:=dA c) (l:=d)]
  rw[show a.1-b=1+E (he (dA c) d)+(a.1-(b+1+E (he (dA c) d)))from G];rw[<-my,show 1+E (he (dA c) d)=E (c::he (dA c) d) from ct,<-fN,Ic]};rw[g];exact i}
def qP{dA:aK->aK->Bool}{a:Nat×List aK}(c:a∈dg dA p):a.1+E a.2<=E p/\0<E a.2/\a.2=be (E a.2) (bi a.1 p):=by let⟨g,h,d,e⟩:=PJ dA _ _ _ _ c;exact⟨G,d,by simpa using e⟩
def xh{ay:Nat}(e:fA m n ay p){dA:aK->aK->Bool}{a:Nat×List aK}(h:a∈dg dA p):fA m n (ay+a.1*4) a.2:=by let⟨_,_,g⟩:=qP h;rw[g];exact(e.drop a.1).take _
def PK{a:Nat×List aK}(b:0<E a.2):a.2[0].owner=eF a:=by
 let⟨e,c⟩:=a;cases c with
 |nil=>simp at b
 |cons d g=>rfl
def Mh(h:φ:=by exact λA B hA hst=>⟨hst.4,hst.5 _ G,hst.5 _ G⟩):φ:=h
def MP(h:φ:=by exact λc A B hA hst=>⟨hA.1,Mb A B hA.2.1<|bN hst G,cJ hA.2.2 hst.4⟩):φ:=h
def NT(h:φ:=by intro r;let hg:=hgrow r;exact⟨jt 0 _ _ h0<|bC e5<|bN hg G,hg.5 _ G,hg.5 _ G,hg.4⟩):φ:=h
def Mm(h:φ:=by go_simp;refine hK _ _ ?_;refine kA 6 λK hK=>?_;go_simp;refine bd U<|hR.mono ?_;rintro e W3 (⟨rfl,mE,hk4⟩|⟨rfl,yx,hk4⟩);{refine hK _ _ ?_;refine kA 7 λK hK=>?_;go_simp;refine hK _ _ ?_;refine wn b6 ?_ _;gi_wp2_with fail;exact V<|cF W3 mE hk4};{refine hK _ _ ?_;refine kA 7 λK hK=>?_;go_simp;refine hK _ _ ?_;refine wn b6 ?_ _;gi_wp2_with fail;let⟨r1,r3,r4⟩:=V<|bI W3 yx hk4;exact⟨r1,cy,U,r3,r4⟩}):φ:=h
def I1{ay y:Nat}(aC:aA m (N y 0)=ae (bL n ay (E p) v))(H:fA m n ay p)(aw:y<J m.1)(aj:E p<=3001)(ac:E p<=v):uq aL 153 #[bv y] (λh:Nat×List aK=>#[aS<|eF h,bL n (ay+h.1*4) (E h.2)<|E h.2]) (dg eS p)
   (λA B=>cv (J m.1) A B) (λA B=>B.1[n]? = A.1[n]?/\ea (J m.1) A B) (λA B=>ea (J m.1) A B) m:=by
 intro l C D ad W ah h0;have an:=O ah;have jt:=O ad;have Mb:=O W;refine Dp func153 U cy ?_;simp only[ntmps153,mA,dW,gG,Nat.reduceAdd,Nat.reduceSub,mx,mP,mR,mQ,iF,fN];have:=H.1;gi_wp2_with (refine⟨cy,U,?_⟩;gi_at_call 150;refine(ec.2<|PH _ _ _ _ _).m ?_;rintro aP rfl);have Z:aA (aN (aN (aN m<|aZ #[ez (.yield l) #[] #[]] 87)<|aZ #[aE (ae ⟨n,ay,af⟩) (E p) v] 77)<|aZ #[ez (.func 154) #[] #[]] 246) (N (J m.1) 0)=ae (ez (.yield l) #[] #[]):=by go_simp
 have aa:aA (aN (aN (aN m<|aZ #[ez (.yield l) #[] #[]] 87)<|aZ #[aE (ae ⟨n,ay,af⟩) (E p) v] 77)<|aZ #[ez (.func 154) #[] #[]] 246) (N (J m.1+1) 0)=ae (bL n ay (E p) v):=by go_simp
 have ab:aA (aN (aN (aN m<|aZ #[ez (.yield l) #[] #[]] 87)<|aZ #[aE (ae ⟨n,ay,af⟩) (E p) v] 77)<|aZ #[ez (.func 154) #[] #[]] 246) (N (J m.1+1+1) 0)=ae (ez (.func 154) #[] #[]):=by go_simp
 have:J (aN (aN (aN m<|aZ #[ez (.yield l) #[] #[]] 87)<|aZ #[aE (ae ⟨n,ay,af⟩) (E p) v] 77)<|aZ #[ez (.func 154) #[] #[]] 246).1=J m.1+3:=ax;have e5:a6 m (aN (aN (aN m<|aZ #[ez (.yield l) #[] #[]] 87)<|aZ #[aE (ae ⟨n,ay,af⟩) (E p) v] 77)<|aZ #[ez (.func 154) #[] #[]] 246):=((cf cc bo _).alloc ax _).alloc ct _;generalize aN (aN (aN m<|aZ #[ez (.yield l) #[] #[]] 87)<|aZ #[aE (ae ⟨n,ay,af⟩) (E p) v] 77) (aZ #[ez (.func 154) #[] #[]] 246)=g at*;let hgrow:∀r,a6 g (aN (aN g<|df<|ae [])<|dq r):=λr=>(cf cc bo _).alloc ax _;refine ahv (xs:=dg eS p) (encs:=λh:Nat×List aK=>#[bL n (ay+h.1*4) (E h.2)<|E h.2]) (St:=λA B=>a6 A B) (Kp:=kC (J m.1+1) (J m.1+1+1) n) (Kx:=λ_ _=>True) (gf:=203) (lb:=#[bv<|J m.1+1,bv<|J m.1+1+1]) U (enters_of func203 b6 U) (λ_=>U) ?IZ (λk b=>C k b/\b.1[J m.1]? = g.1[J m.1]?/\b.1[n]? = g.1[n]?/\J g.1<=J b.1) (λc b=>c=.ret/\D b/\J g.1<=J b.1) ?nY ?hI ?rO ?yt ?uR ?h0 (λA B=>B.1[n]? = A.1[n]?/\ea (J m.1) A B) ?vV (λ_ _=>True) (λ_ _ _ _ _ _ _ _=>cy) (λh=>{tmps:=#[ez (.yield l) #[] #[],bv y,bv<|J m.1,ez (.func 154) #[] #[],bL n (ay+h.1*4) (E h.2)<|E h.2,bL n ay (E p) v,ez (.func 154) #[] #[],ez (.func 203) #[] #[bv<|J m.1+1,bv<|J m.1+1+1],bL n (ay+h.1*4) (E h.2)<|E h.2,e8,e8,e8,e8,e8,e8,e8,e8],defers:=[]}) ?assign ?body ?done ?stop;case IZ=>(intro r;let hg:=hgrow r;exact IZ n ay v _ _ p _ ((hg.cell (p:=⟨J m.1+1,0,af⟩) (by show J m.1+1<J g.1;omega)).trans aa) ((hg.cell (p:=⟨J m.1+1+1,0,af⟩) (by show J m.1+1+1<J g.1;omega)).trans ab) ((H.below e5).below hg) (cd hg.4) (cd hg.4) aj ac)
 case nY=>exact Mh
 case hI=>exact λk A B hA hst=>⟨jt k A B hA.1<|bN hst G,(hst.5 _ G).trans hA.2.1,(hst.5 _ G).trans hA.2.2.1,cJ hA.2.2.2 hst.4⟩
 case rO=>exact MP
 case yt=>(intro k A r x hA t;let o:cv (J m.1) A (ep A (J g.1+1) x):=uT (w:=g) G A _ _ x G t U U;exact⟨jt k A _ hA.1 o,(r6 G).trans hA.2.1,(r6 G).trans hA.2.2.1,by rw[wL];exact hA.2.2.2⟩)
 case uR=>(intro c A r x hA t;let o:cv (J m.1) A (ep A (J g.1+1) x):=uT (w:=g) G A _ _ x G t U U;exact⟨hA.1,Mb A _ hA.2.1 o,by rw[wL];exact hA.2.2⟩)
 case h0=>(exact NT)
 case vV=>(intro b r aM aO av t j aB;let:=(dK.1 t).1;have P:=j.2.1;rw[wL]at P;refine⟨by rw[wL];exact P,?_,?_,?_⟩;{rw[r6 G,j.2.2 _ G (by rw[wL];omega),r6 G]};{rw[r6 G,j.2.2 _ G (by rw[wL];omega),r6 G]};{rw[r6 G,j.1,r6 G]})
 case assign=>(intro ap h b K hK;gi_wp2;exact hK)
 case body=>(intro ap k h b R hI Q;let⟨au,S,I,z⟩:=hI;let M:=pE R;let hA:=sW (H.below e5) z I;let Y:=xh hA M;let T:=(qP M).2.1;let⟨aq,aH,aI,aJ⟩:=Y.four 0 T;rw[o7,h8,PK T]at aq;let:=(dR S).trans Z;have ar:=an k h (bx b) R<|jt k _ _ au<|cc.drew;let:0<(E h.2:Int):=G;let al:aL.follows .mixedOrders=aD:=b6;let⟨az,tmps,assign,body,aF,hR⟩:=ar;let L:∀W3,ea (J m.1) (bx b) W3->io (J g.1) b W3:=λW3 j=>by{let a:ea (J m.1) b W3:=j;exact⟨a.1,a.2 _ G G,a.2 _ G G⟩};let cF:∀W3,C (k+1) W3->W3.1[n]? = (bx b).1[n]?/\ea (J m.1) (bx b) W3->ao (io (J g.1) b W3/\(W3.1[n]? = b.1[n]?/\ea (J m.1) b W3)/\(C (k+1) W3/\W3.1[J m.1]? = g.1[J m.1]?/\W3.1[n]? = g.1[n]?/\J g.1<=J W3.1)):=λW3 F j=>by{let u:=L W3 j.2;let a:W3.1[n]? = b.1[n]?/\ea (J m.1) b W3:=j;exact⟨u,a,F,(a.2.2 _ bo G).trans S,cQ a.1 I,cJ z u.1⟩};let bI:∀W3,D W3->ea (J m.1) (bx b) W3->ao (io (J g.1) b W3/\(D W3/\J g.1<=J W3.1)):=λW3 F j=>by{let u:=L W3 j;exact⟨u,F,cJ z u.1⟩};gi_wp2_with fail;refine wU al (tQ b6) ?_;refine lh 1 ?_;refine lh 2 ?_;refine lh 3 ?_;refine lh 5 ?_;refine rI (rs:=[0,4]) b6 ax ?_;refine ly U (λK hK=>?_)<|ly U (λK hK=>?_) rH;{go_simp;refine hK _ _ ?_;refine kA 4 λK hK=>?_;exact Mm};{go_simp;refine hK _ _ ?_;refine kA 0 λK hK=>?_;exact Mm})
 case done=>(intro b hI q Q;gi_wp2;refine bd ax<|bJ ⟨_,_,U,wM q,?_⟩;let o:cv (J m.1) b (ep b (J g.1)<|df af):=uT (w:=g) G b _ _ _ bo q U U;exact⟨_,wq U _ _ _,eR _ U,bJ<|jt _ _ _ hI.1 o⟩)
 case stop=>(intro c b hI q Q;obtain⟨rfl,X,z⟩:=hI;gi_wp2;refine bd ax<|bJ ⟨_,_,U,wM q,?_⟩;let o:cv (J m.1) b (ep b (J g.1)<|df af):=uT (w:=g) G b _ _ _ bo q U U;exact⟨_,wq U _ _ _,eR _ U,bE<|Mb _ _ X o⟩)
end
section
attribute [local go_sem] Oper.semAt_some
def r9(a:ap)(b:List aK):List (Nat×List aK):=dT (λc=>fx (eF c) a)<|dg eS b
def aho{b}:a_ aL 156 #[aE b n v,am T] m λe g=>e=bh (ez (.func 205) #[] #[bv<|J m.1,bv<|J m.1+1])/\g=aN (aN m<|aZ #[aE b n v] 77) (aZ #[am T] 9):=by go_wp2;go_ret;simp
def L6(h:φ:=by rintro w' rfl;exact⟨U,ax,(cf cc bo _).alloc ax _,by go_simp,by go_simp⟩):φ:=h
def PL(b d c s a):a_ aL 156 #[aE b d c,am s] a λe w'=>e=bh (ez (.func 205) #[] #[bv<|J a.1,bv<|J a.1+1])/\J w'.1=J a.1+2/\a6 a w'/\aA w' (N (J a.1) 0)=ae (aE b d c)/\aA w' (N (J a.1+1) 0)=ae (am s):=by refine(aho).m ?_;exact L6
def iG(c:Nat×List aK->Bool)(b:List<|Nat×List aK)(a:Nat):Nat:=E<|dT c<|be a b
def ahp{b a}:iG b a (E a)=E (dT b a):=by simp[iG]
def ahq(c){b d}(e:b[n]? = ae d)(g:c d=ak):iG c b (n+1)=iG c b n:=by obtain⟨aO,rfl⟩:=iW.1 e;unfold iG;rw[g8 aO,qV,dj];grind
def ahr(c){a d}(e:a[n]? = ae d)(g:c d=aD):iG c a (n+1)=iG c a n+1/\(dT c a)[iG c a n]? = ae d:=by
 obtain⟨aO,rfl⟩:=iW.1 e;unfold iG;refine bd ?_ ?_;{rw[g8 aO,qV,dj];grind};{
 let:dT c a=dT c (be n a)++(a[n]::dT c (bi (n+1) a)):=by{
 conv=>lhs;rw[<-ku n a,jM aO]
 grind};grind}
def PM{a}(e:a∈dg eS p):∃g∈p,g.owner=eF a:=by let⟨i,c,j⟩:=qP e;let d:∀h∈a.2,h∈p:=by{grind};exact⟨a.2[0],d _<|ei c,PK c⟩
def PN{h ay i l}(ab:fA m h ay p)(aC:E p<=n)(a5:aA m (N v 0)=ae (bL h ay (E p) n))(a3:aA m (N i 0)=ae (aS l))(bl:v<J m.1)(aU:i<J m.1)(aO:E p<=3001)(bc:E l<=3000)(bf:∀r∈p,E r.owner<=3000):uq aL 205 #[bv v,bv i] (λg:Nat×List aK=>#[aS<|eF g,bL h (ay+g.1*4) (E g.2)<|E g.2]) (r9 l p)
   (λA B=>cv (J m.1) A B) (λA B=>(B.1[h]? = A.1[h]?/\B.1[i]? = A.1[i]?)/\ea (J m.1) A B) (λA B=>ea (J m.1) A B) m:=by
 intro x L P aH aq aM h0;have aT:=O aM;have jt:=O aH;have Mb:=O aq;have:=ab.1;refine sm func205 U cy ?_;simp only[ntmps205,mA,dW,gG,Nat.reduceAdd,Nat.reduceSub,mx,mP,mR,mQ,iF,fN];gi_wp2_with (refine⟨cy,U,?_⟩;gi_at_call 85;refine(ec.2<|I0 _ _ _ _).m ?_;rintro an rfl);have az:aA (aN (aN m<|aZ #[ez (.yield x) #[] #[]] 87)<|aZ #[aE (ae ⟨h,ay,af⟩) (E p) n] 77) (N (J m.1) 0)=ae (ez (.yield x) #[] #[]):=by go_simp
 have aB:aA (aN (aN m<|aZ #[ez (.yield x) #[] #[]] 87)<|aZ #[aE (ae ⟨h,ay,af⟩) (E p) n] 77) (N (J m.1+1) 0)=ae (bL h ay (E p) n):=by go_simp
 have:J (aN (aN m<|aZ #[ez (.yield x) #[] #[]] 87)<|aZ #[aE (ae ⟨h,ay,af⟩) (E p) n] 77).1=J m.1+2:=ax;have e5:a6 m (aN (aN m<|aZ #[ez (.yield x) #[] #[]] 87)<|aZ #[aE (ae ⟨h,ay,af⟩) (E p) n] 77):=(cf cc bo _).alloc ax _;generalize (aN (aN m<|aZ #[ez (.yield x) #[] #[]] 87)<|aZ #[aE (ae ⟨h,ay,af⟩) (E p) n] 77)=d at*;let hgrow:∀r,a6 d (aN (aN d<|df<|ae [])<|dq r):=λr=>(cf cc bo _).alloc ax _;let:∀r,J (aN (aN d<|df<|ae [])<|dq r).1=J d.1+2:=λr=>by simp
 refine LQ (xs:=dg eS p) (encs:=λg:Nat×List aK=>#[aS<|eF g,bL h (ay+g.1*4) (E g.2)<|E g.2]) (St:=λA B=>cv (J d.1+2) A B) (Kp:=λA B=>B.1[h]? = A.1[h]?/\ea (J d.1+2) A B) (Kx:=λA B=>ea (J d.1+2) A B)
  (gf:=153) (lb:=#[bv<|J m.1+1]) U (enters_of func153 dl U) (λ_=>U) ?seq
  (λu b=>L (iG (λg=>fx (eF g) l) (dg eS p) u) b/\b.1[J m.1]? = d.1[J m.1]?/\b.1[i]? = d.1[i]?/\J d.1<=J b.1)
  (λc b=>c=.ret/\P b/\J d.1<=J b.1)
  ?nY ?hI ?rO ?yt ?uR ?h0 (λA B=>(B.1[h]? = A.1[h]?/\B.1[i]? = A.1[i]?)/\ea (J m.1) A B) ?vV (λA B=>ea (J m.1) A B) ?hKx
  ?round ?done ?stop
 case seq=>
  intro r;let hg:=hgrow r;let:=I1 ((hg.cell (p:=⟨J m.1+1,0,af⟩) (by grind)).trans aB) ((ab.below e5).below hg) (by grind) aO aC
  grind
 case nY=>exact Mh
 case hI=>exact λu A B hA hst=>⟨jt _ A B hA.1<|bN hst G,(hst.5 _ G).trans hA.2.1,(hst.5 _ G).trans hA.2.2.1,cJ hA.2.2.2 hst.4⟩
 case rO=>exact MP
 case yt=>
  intro u A r H hA t;let q:cv (J m.1) A (ep A (J d.1+1) H):=belowK_b (w:=d) G A _ _ H G t U U;exact⟨jt _ A _ hA.1 q,(jB G).trans hA.2.1,(jB G).trans hA.2.2.1,by simp_all⟩
 case uR=>
  intro c A r H hA t;let q:cv (J m.1) A (ep A (J d.1+1) H):=belowK_b (w:=d) G A _ _ H G t U U;exact⟨hA.1,Mb A _ hA.2.1 q,by simp_all⟩
 case h0=>
  exact NT
 case vV=>
  intro b r aV aW au t hk aI;let:=(dK.1 t).1;have hs:=hk.2.1;rw[wj]at hs;refine⟨by rw[jB G,hk.1.1,jB G],by simp_all,λk eK hk2=>?_⟩;rw[jB G,hk.2.2 _ G<|by simp_all,jB G]
 case hKx=>
  intro b r aV aW au t hk aI;exact NG
 ·intro aj u g a4 b V hI ad;gi_wp2_with fail;refine bd cy ?_;let⟨K,W,M,I⟩:=hI;let aP:=pE V;let⟨r,ar,ac⟩:=PM aP;have aw:b7 (D<|eF g)<=1000000:=by rw[cV,<-ac];grind
  have aR:b7 (D l)<=1000000:=lv
  let:=(dR W).trans az;let:aA b (N i 0)=ae (aS l):=(dR M).trans<|(e5.cell (p:=⟨i,0,af⟩) aU).trans a3;have T:=AZ (D<|eF g) (D l) b aw aR;rw[o8,o8]at T;have Y:=O T;clear T ac ar;cases ah:fx (eF g) l
  ·have z:=ahq (λg=>fx (eF g) l) V ah;have Z:=O z;have:=O K;clear z K;gi_wp2_with (refine⟨cy,U,?_⟩;gi_at_call 86;refine(ij aj<|ec.2 Y).m ?_;rintro an rfl);refine⟨λ_ aF=>(by cases aF),?_⟩;gi_wp2_with fail;exact⟨⟨cO _,U,U⟩,bd (bd U U)<|ea.refl _ _,by rw[Z];assumption,W,M,I⟩
  ·let⟨z,X⟩:=ahr (λg=>fx (eF g) l) V ah;have a2:=aT _ g b X K;have Z:=O z;have S:∀e,L (iG (λg=>fx (eF g) l) (dg eS p) u+1) e->((e.1[h]? = b.1[h]?/\e.1[i]? = b.1[i]?)/\ea (J m.1) b e) ->
     ao (io (J d.1) b e/\((e.1[h]? = b.1[h]?/\e.1[i]? = b.1[i]?)/\ea (J m.1) b e)/\(L (iG (λg=>fx (eF g) l) (dg eS p)<|u+1) e/\e.1[J m.1]? = d.1[J m.1]?/\e.1[i]? = d.1[i]?/\J d.1<=J e.1)):=λe C hk=>by
    let a:=hk.2;refine⟨⟨a.1,a.2 _ G G,a.2 _ G G⟩,hk,?_,(a.2 _ bo G).trans W,cQ hk.1.2 M,cJ I a.1⟩
    grind
   have R:∀e,P e->ea (J m.1) b e->ao (io (J d.1) b e/\ea (J m.1) b e/\(P e/\J d.1<=J e.1)):=λe C a=>
    ⟨⟨a.1,a.2 _ G G,a.2 _ G G⟩,a,C,cJ I a.1⟩
   let⟨bb,bm,a8,a9,bj,aJ⟩:=a2;clear z K X;gi_wp2_with (refine⟨cy,U,?_⟩;gi_at_call 86;refine(ij aj<|ec.2 Y).m ?_;rintro an rfl);refine bd U<|aJ.mono ?_;rintro ba e (⟨rfl,al,F⟩|⟨rfl,ap,F⟩)
   ·have aa:=S e al F;clear al F S R;gi_wp2_with fail
    assumption
   ·have aa:=R e ap F;clear ap F S R;gi_wp2_with fail;let⟨aX,aY,a0,a1⟩:=aa;exact⟨aX,aY,U,a0,a1⟩
 case done=>
  intro b hI y ad;gi_wp2;refine bd ax<|bJ ⟨_,_,U,lf y,?_⟩;let q:cv (J m.1) b (ep b (J d.1)<|df af):=belowK_b (w:=d) G b _ _ _ bo y U U;have C:=hI.1;rw[ahp]at C;exact⟨_,wq U _ _ _,eR _ U,bJ<|jt _ _ _ C q⟩
 case stop=>
  intro c b hI y ad;obtain⟨rfl,av,I⟩:=hI;gi_wp2;refine bd ax<|bJ ⟨_,_,U,lf y,?_⟩;let q:cv (J m.1) b (ep b (J d.1)<|df af):=belowK_b (w:=d) G b _ _ _ bo y U U;exact⟨_,wq U _ _ _,eR _ U,bE<|Mb _ _ av q⟩
end
section
attribute [local go_sem] Oper.semAt_some
def dF(c:List aK)(b:ap):List aK:=
 match (dg eS c).find? (λa=>eF a==b)with
 |some a=>a.2
 |none=>[]
def zg(v:bk)(c ay:Nat)(a:List aK):Prop:=(v=bX/\a=[])\/∃b,v=bL c ay (E a) b/\E a<=b
def mc(d ay:Nat)(c:List aK)(v:bk)(a:List aK):Prop:=(v=bX/\a=[])\/∃b,(v=bL d (ay+b*4) (E a) (E a)/\b+E a<=E c/\a=be (E a) (bi b c))
def mc.at{b ay h d}(l:mc b ay h e d)(j:fA m b ay h):∃g,fA m b g d/\zg e b g d/\∀dA,∀a∈dg dA d,mc b ay h (bL b (g+a.1*4) (E a.2)<|E a.2) a.2:=by
 rcases l with⟨rfl,rfl⟩|⟨v,rfl,q,i⟩;{exact⟨ay,bd j.1<|λr p=>by grind,bJ<|bd U U,λdA a c=>by simp[dg,jH]at c⟩};{
 refine⟨ay+v*4,i▸(j.drop v).take _,bE ⟨_,U,cO _⟩,λdA a c=>bE ⟨v+a.1,?_,?_,?_⟩⟩;{simp};{let:=(qP c).1;omega};{
 let⟨o,_,n⟩:=qP c;conv=>lhs;rw[n,i]
 rw[List.drop_take,List.take_take,my,ro G]}}
def mc.rv{ay c}(h:mc n ay p e c)(k:fA m n ay p):jy m e c:=by let⟨l,i,b,_⟩:=h.at k;rcases b with b|⟨g,rfl,j⟩;{exact bJ b};{exact bE ⟨n,l,g,U,j,i⟩}
def mc.slice{ay a}(v:mc n ay p e a):∃b d,e=aE b (E a) d:=by rcases v with⟨rfl,rfl⟩|⟨h,rfl,_,_⟩;{simp};simp
def mc.len{ay a}(d:mc n ay p e a):E a<=E p:=by rcases d with⟨rfl,rfl⟩|⟨v,rfl,_,_⟩;{simp};{omega}
def mc.ayY{ay dA a}(c:a∈dg dA p):mc n ay p (bL n (ay+a.1*4) (E a.2)<|E a.2) a.2:=
 bE ⟨a.1,U,(qP c).1,(qP c).2.2⟩
def PO{p}{b:List<|Nat×List aK}{c}(d:b[n]? = ae c):(bi n b).find? p=if p c then ae c else(bi (n+1) b).find? p:=by obtain⟨aO,rfl⟩:=iW.1 d;rw[jM aO,Id];grind
def PP{ay}(w)(B:fA m n ay p)(aj:E p<=v)(au:E p<=3001):a_ aL 158 #[bL n ay (E p) v,aS w] m λab X=>(∃b,ab=bh b/\mc n ay p b (dF p w))/\a6 m X:=by
 refine(ec (n:=0)).1 (sm func158 U cy ?_);simp only[ntmps158,mA,dW,gG,Nat.reduceAdd,Nat.reduceSub,mx,mP,mR,mQ,iF,fN];have q:=B.1;replace B:=O B;gi_wp2_with (refine⟨cy,U,?_⟩;gi_at_call 85;refine(ec.2<|I0 _ _ _ _).m ?_;rintro X rfl);have ac:cx (aN (aN (aN m<|aZ #[am<|D w] 9)<|aZ #[aE af 0 0] 77)<|aZ #[aE (ae ⟨n,ay,af⟩) (E p) v] 77) (J m.1) (aS w) 9:=((cx.qf _ _ _).alloc _).alloc _;have ad:cx (aN (aN (aN m<|aZ #[am<|D w] 9)<|aZ #[aE af 0 0] 77)<|aZ #[aE (ae ⟨n,ay,af⟩) (E p) v] 77) (J m.1+1) (bX) 77:=by{have:=(cx.qf (aN m<|aZ #[am<|D w] 9) (bX) 77).alloc<|aZ #[aE (ae ⟨n,ay,af⟩) (E p) v] 77;simp_all};have ah:aA (aN (aN (aN m<|aZ #[am<|D w] 9)<|aZ #[aE af 0 0] 77)<|aZ #[aE (ae ⟨n,ay,af⟩) (E p) v] 77) (N (J m.1+1+1) 0)=ae (bL n ay (E p) v):=by go_simp
 have:J (aN (aN (aN m<|aZ #[am<|D w] 9)<|aZ #[aE af 0 0] 77)<|aZ #[aE (ae ⟨n,ay,af⟩) (E p) v] 77).1=J m.1+3:=ax;have R:a6 m (aN (aN (aN m<|aZ #[am<|D w] 9)<|aZ #[aE af 0 0] 77)<|aZ #[aE (ae ⟨n,ay,af⟩) (E p) v] 77):=((cf cc bo _).alloc ax _).alloc ct _;generalize aN (aN (aN m<|aZ #[am<|D w] 9)<|aZ #[aE af 0 0] 77) (aZ #[aE (ae ⟨n,ay,af⟩) (E p) v] 77)=g at*;let ar:∀r,a6 g (aN (aN g<|df<|ae [])<|dq r):=λr=>(cf cc bo _).alloc ax _;let:∀r,J (aN (aN g<|df<|ae [])<|dq r).1=J g.1+2:=λr=>by simp
 refine wR (xs:=dg eS p) (encs:=λa:Nat×List aK=>#[aS<|eF a,bL n (ay+a.1*4) (E a.2)<|E a.2]) (St:=λk l=>cv (J g.1+2) k l) (Kp:=λk l=>l.1[n]? = k.1[n]?/\ea (J g.1+2) k l) (Kx:=λk l=>ea (J g.1+2) k l) (gf:=153) (lb:=#[bv<|J m.1+1+1]) U (enters_of func153 dl U) (λ_=>U) ?seq [n] (by grind) (λ_ _ _ e=>e) (λk l e al=>bd (e _ ax) al) (λ_ _ e=>e) (λF h=>(bi F<|dg eS p).find? (λa=>eF a==w)=(dg eS p).find? (λa=>eF a==w)/\a6 m h/\cx h (J m.1) (aS w) 9/\cx h (J m.1+1) (bX) 77) (λH h=>H=.ret/\a6 m h/\∃a,a∈dg eS p/\dF p w=a.2/\cx h (J m.1+1) (bL n (ay+a.1*4) (E a.2)<|E a.2) 77) (λF k l e q=>⟨e.1,bC e.2.1<|bN q G,e.2.2.1.below q G,e.2.2.2.below q G⟩) (λH k l e q=>⟨e.1,bC e.2.1<|bN q G,by let⟨a,an,ap,aq⟩:=e.2.2;exact⟨a,an,ap,aq.below q G⟩⟩) ⟨U,R,ac,ad⟩ ?round ?done ?stop;case seq=>(intro r;let S:=ar r;let:=I1 ((S.cell (p:=⟨J m.1+1+1,0,af⟩) (by grind)).trans ah) ((B.below R).below S) (by grind) au aj;grind)
 ·(intro az F a aw h C x T;gi_wp2_with fail;refine bd cy ?_;let⟨y,t,A,i⟩:=x;have:=A.cell;have Q:=i.cell;have aa:=i.frozen;have V:((D<|eF a).toList==(D w).toList)=(eF a==w):=uV;have L:=PO (p:=λa=>eF a==w) C;rw[y]at L;have Y:=O L;have Z:=O A;have W:=O i;clear y L A i;cases K:eF a==w;{rw[K]at V;let u:ao ((bi (F+1)<|dg eS p).find? (λa=>eF a==w)=(dg eS p).find? λa=>eF a==w):=by{grind};gi_wp2_with fail;exact⟨ea.refl _ _,ax,u,t,Z,W⟩};{rw[K]at V;have u:ao (dF p w=a.2):=by{unfold dF;rw[ao,Y,b8 K]};gi_wp2_with fail;exact⟨ea.setCell h _ G,U,fc t ax _,a,pE C,u,W.set _⟩})
 case done=>(intro h x z T;let⟨y,t,A,i⟩:=x;have Q:=i.cell;have aa:=i.frozen;have u:ao (dF p w=[]):=by{unfold dF;rw[ao,<-y,pT bo];rfl};clear y;gi_wp2_with fail;let P:=(dr h (N (J m.1+1) 0) (bX) (J g.1)<|by grind).trans z;refine bd ax<|bJ ⟨_,_,U,lf P,?_⟩;have I:=((i.set<|bX).put (d:=J g.1) (o:=df af) G).cell;refine⟨bX,by simp[c_,results158,go_sem,I],⟨_,U,bJ<|bd U u⟩,?_⟩;exact(fc t ax _).trans<|belowK_b (w:=g) G _ _ _ _ bo P U U)
 case stop=>(intro H h x z T;obtain⟨rfl,t,a,C,M,i⟩:=x;replace M:=O M;have Q:=i.cell;gi_wp2_with fail;refine bd ax<|bJ ⟨_,_,U,lf z,?_⟩;have I:=(i.put (d:=J g.1) (o:=df af) G).cell;let av:=bC t<|belowK_b (w:=g) (show J m.1<=J g.1 by omega) h _ _ (df af) bo z U U;refine⟨_,by simp[c_,results158,go_sem,I];rfl,⟨_,U,?_⟩,av⟩;rw[M];exact mc.ayY C)
end
section
attribute [local go_sem] Oper.semAt_some
def l1(a:Nat×List aK):Int:=(a.2.headD aK.zero).type
def jb(c:List aK)(b:Int):List aK:=
 match (dg c8 c).find? (λa=>l1 a==b)with
 |some a=>a.2
 |none=>[]
def PQ{b:Option Addr}:a_ aL 83 #[aE b n v] m λg e=>g=bh (ez (.func 203) #[] #[bv<|J m.1,bv<|J m.1+1])/\e=aN (aN m<|aZ #[aE b n v] 77) (aZ #[ez (.func 151) #[] #[]] 246):=by go_in;go_wp2_with (go_at_call 150;refine(PH _ _ _ _ _).m ?_;rintro e rfl);go_ret;exact oa
def PR{a:Nat×List aK}(b:0<E a.2):a.2[0].type=l1 a:=by
 let⟨e,c⟩:=a;cases c with
 |nil=>simp at b
 |cons d g=>rfl
def xi(d:jy m e p):∃b c,e=aE b (E p) c:=by rcases d with⟨rfl,rfl⟩|⟨g,ay,h,rfl,_,_⟩;{exact⟨af,0,U⟩};{exact wa}
def I2(c:jy m e p):a_ aL 83 #[e] m λb w'=>b=bh (ez (.func 203) #[] #[bv<|J m.1,bv<|J m.1+1])/\J w'.1=J m.1+2/\a6 m w'/\aA w' (N (J m.1) 0)=ae e/\aA w' (N (J m.1+1) 0)=ae (ez (.func 151) #[] #[]):=by obtain⟨a,g,rfl⟩:=xi c;refine(PQ).m ?_;exact L6
def I3{ay d:Nat}(t:zg e n ay p)(h:aA m (N v 0)=ae e)(r:aA m (N d 0)=ae (ez (.func 151) #[] #[]))(q:fA m n ay p)(l:v<J m.1)(a:d<J m.1)(c:E p<=3001):uq aL 203 #[bv v,bv d] (λg:Nat×List aK=>#[bL n (ay+g.1*4) (E g.2)<|E g.2]) (dg c8 p)
   (λi j=>a6 i j) (kC v d n) (λ_ _=>True) m:=by rcases t with⟨rfl,rfl⟩|⟨k,rfl,o⟩;{exact ahl h};{exact zf n ay k v d p m h r q l a c o}
def uW{dA:aK->aK->Bool}{b:Nat×List aK}(c:b∈dg dA p):E b.2<=E p:=cd<|(qP c).1
def A4(a:List aK)(c:ap):E (dF a c)<=E a:=by unfold dF;split;{rename_i d b;exact uW<|Bf b};{simp}
def Da(a:List aK)(c:Int):E (jb a c)<=E a:=by unfold jb;split;{rename_i d b;exact uW<|Bf b};{simp}
def LX(h:φ:=by go_simp;refine hK _ _<|kA 5 λK hK=>?_;go_simp;refine hK _ _<|wn b6 ?_ _;gi_wp2_with fail;exact bt):φ:=h
def NK(h:φ:=by go_simp;refine hK _ _<|kA 5 λK hK=>?_;go_simp;refine hK _ _<|wn b6 ?_ _;gi_wp2_with fail;exact⟨bt.1,U,bt.2⟩):φ:=h
def PS{h ay:Nat}(j:ap)(c:Int){w:aQ}(z:fA w h ay p)(aX:E p<=n)(aI:E p<=3001):a_ aL 88 #[bL h ay (E p) n,aS j,M c] w λab bf=>(∃v,ab=bh v/\mc h ay p v (jb (dF p j) c))/\a6 w bf:=by
 refine(ec (n:=0)).1 (Dp func88 U cy ?_);simp only[ntmps88,mA,dW,gG,Nat.reduceAdd,Nat.reduceSub,mx,mP,mR,mQ,iF,fN];have:=A4 p j;have aj:a6 w (aN (aN w<|aZ #[ag ai c] 3)<|aZ #[aE af 0 0] 77):=(cf cc bo _).alloc ax _;have aC:=O<|PP j (z.below aj) aX aI;have aw:=O z;have:=z.1;gi_wp2_with fail;refine⟨cy,U,(ec.2 aC).mono ?_⟩;rintro ab g ⟨⟨v,rfl,V⟩,D⟩;have ac:=((cx.qf _ _ _).alloc _).below D gB;have ad:cx g (J w.1+1) (bX) 77:=by{have:=(cx.qf (aN w<|aZ #[ag ai c] 3) (bX) 77).below D gB;rwa [eE]at this};have P:=bC aj<|bN D gB;have bp:J w.1+2<=J g.1:=by have:=D.4;exact At
 generalize az:dF p j=rs at*;let⟨q,z,a5,aH⟩:=V.at aw;let Z:=O z;let aJ:=O a5;let ba:=O aH;let aY:=O<|V.rv<|aw.below P;obtain⟨bl,bm,rfl⟩:=V.slice;gi_wp2_with fail;refine⟨cy,U,(ec.2<|I2 aY).m λW2 ⟨bn,Q,aV,aW⟩=>?_⟩;let aT:=ac.below Q ac.lt;let aU:=ad.below Q ad.lt;let ah:=bC P<|bN Q P.4;let a9:=O<|Z.below ah;gi_wp2_with fail;let a8:∀H,a6 W2 (aN (aN W2<|df<|ae [])<|dq H):=λH=>(cf cc bo _).alloc ax _;refine wR (xs:=dg c8 rs) (encs:=λa:Nat×List aK=>#[bL h (q+a.1*4) (E a.2)<|E a.2]) (St:=λr t=>a6 r t) (Kp:=kC (J g.1) (J g.1+1) h) (Kx:=λ_ _=>True) (gf:=203) (lb:=#[bv<|J g.1,bv<|J g.1+1]) U (enters_of func203 b6 U) (λ_=>U) ?zf [J g.1,J g.1+1,h] ct (λr t a4 e=>bN e a4) (λr t e a0=>⟨a0.1,e _ ax,e _ ax,e _ ax⟩) (λ_ _ _=>cy) (λA b=>(bi A<|dg c8 rs).find? (λa=>l1 a==c)=(dg c8 rs).find? (λa=>l1 a==c)/\a6 w b/\cx b (J w.1) (M c) 3/\cx b (J w.1+1) (bX) 77) (λI b=>I=.ret/\a6 w b/\∃a,a∈dg c8 rs/\jb rs c=a.2/\cx b (J w.1+1) (bL h (q+a.1*4) (E a.2)<|E a.2) 77) (λA r t e l=>⟨e.1,bC e.2.1<|bN l G,e.2.2.1.below l G,e.2.2.2.below l G⟩) (λI r t e l=>⟨e.1,bC e.2.1<|bN l G,by let⟨a,a1,a2,a3⟩:=e.2.2;exact⟨a,a1,a2,a3.below l G⟩⟩) ⟨U,ah,aT,aU⟩ ?round ?done ?stop;case zf=>(intro H;let y:=a8 H;exact I3 aJ ((y.cell (p:=⟨J g.1,0,af⟩) (by show J g.1<J W2.1;omega)).trans aV) ((y.cell (p:=⟨J g.1+1,0,af⟩) (by show J g.1+1<J W2.1;omega)).trans aW) (a9.below y) (cd y.4) (cd y.4) G)
 ·(intro bq A a bj b F x ar;gi_wp2_with fail;refine bd cy ?_;let⟨R,k,T,i⟩:=x;have:=T.cell;let aP:=i.cell;let aR:=i.frozen;let S:=pE F;let aO:=xh (Z.below k) S;let aB:=(qP S).2.1;let⟨br,bs,bc,bu⟩:=aO.four 0 aB;rw[o7,h8,PR aB]at bc;let al:aL.follows .mixedOrders=aD:=b6;have aq:=PO (p:=λa=>l1 a==c) F;rw[R]at aq;let Y:=O aq;let aF:=O T;let av:=O i;let aM:=O S;cases an:l1 a==c;{let u:ao ((bi (A+1)<|dg c8 rs).find? (λa=>l1 a==c)=(dg c8 rs).find? λa=>l1 a==c):=by{rw[ao,Y,bV<|by simp[an]]};let bt:ao (ea (J W2.1) b (bx b)/\(∀au∈[J g.1,J g.1+1,h],(bx b).1[au]? = b.1[au]?)/\((bi (A+1)<|dg c8 rs).find? (λa=>l1 a==c)=(dg c8 rs).find? (λa=>l1 a==c)/\a6 w (bx b)/\cx (bx b) (J w.1) (M c) 3/\cx (bx b) (J w.1+1) (bX) 77)):=⟨ea.refl _ b,λ_ _=>U,u,k.drew,aF,av⟩;gi_wp2_with fail;refine wU al (tQ b6) ?_;refine lh 0 ?_;refine lh 1 ?_;refine lh 2 ?_;refine rI (rs:=[3,4]) b6 ax (ly U (λK hK=>?_)<|ly U (λK hK=>?_) rH);{go_simp;refine hK _ _<|kA 4 λK hK=>?_;exact LX};{go_simp;refine hK _ _<|kA 3 λK hK=>?_;exact LX}};{let u:ao (jb rs c=a.2):=by{rw[jb,ao,Y,b8 an]};let bt:ao (ea (J W2.1) b (bx<|a7 b ⟨J w.1+1,0,af⟩<|aE (ae ⟨h,q+a.1*4,af⟩) (E a.2)<|E a.2)/\(a6 w (bx<|a7 b ⟨J w.1+1,0,af⟩<|aE (ae ⟨h,q+a.1*4,af⟩) (E a.2)<|E a.2)/\∃B,B∈dg c8 rs/\jb rs c=B.2/\cx (bx<|a7 b ⟨J w.1+1,0,af⟩<|aE (ae ⟨h,q+a.1*4,af⟩) (E a.2)<|E a.2) (J w.1+1) (bL h (q+B.1*4) (E B.2)<|E B.2) 77)):=⟨ea.setCell b _ G,(fc k wd _).drew,a,aM,u,av.set _⟩;gi_wp2_with fail;refine wU al (tQ b6) ?_;refine lh 0 ?_;refine lh 1 ?_;refine lh 2 ?_;refine rI (rs:=[3,4]) b6 ax (ly U (λK hK=>?_)<|ly U (λK hK=>?_) rH);{go_simp;refine hK _ _<|kA 4 λK hK=>?_;exact NK};{go_simp;refine hK _ _<|kA 3 λK hK=>?_;exact NK}})
 case done=>(intro b x C ar;let⟨R,k,T,i⟩:=x;let aP:=i.cell;let aR:=i.frozen;let u:ao (jb rs c=[]):=by{rw[jb,ao,<-R,pT bo];rfl};gi_wp2_with fail;let X:=(dr b (N (J w.1+1) 0) (bX) (J W2.1) Hi).trans C;refine bd ax<|bJ ⟨_,_,U,wM X,?_⟩;let L:=((i.set<|bX).put (d:=J W2.1) (o:=df af) G).cell;refine⟨bX,by simp[c_,results88,go_sem,L],⟨_,U,bJ<|bd U<|az▸u⟩,?_⟩;exact(fc k wd _).trans<|uT (w:=W2) G _ _ _ _ bo X U U)
 case stop=>(intro I b x C ar;obtain⟨rfl,k,a,F,W,i⟩:=x;replace W:=O W;gi_wp2_with fail;refine bd ax<|bJ ⟨_,_,U,wM C,?_⟩;let L:=(i.put (d:=J W2.1) (o:=df af) G).cell;let bb:=bC k<|uT (w:=W2) (show J w.1<=J W2.1 by omega) b _ _ (df af) bo C U U;refine⟨_,by simp[c_,results88,go_sem,L];rfl,⟨_,U,?_⟩,bb⟩;rw[az,W];exact ba _ a F)
end
section
attribute [local go_sem] Oper.semAt_some
def gJ(a:aQ)(c:Nat)(g:ap)(d ay e:Nat)(b:List aK):Prop:=
 c<J a.1/\aA a (N c 0)=ae (aS g)/\aA a (N c 1)=ae (bL d ay (E b) e)/\E b<=e/\fA a d ay b
def gJ.below{i ay cap}(a:gJ m n d v ay cap p)(b:a6 m i):gJ i n d v ay cap p:=
 ⟨eA a.1 b.4,(b.cell (p:=⟨n,0,af⟩) a.1).trans a.2.1,(b.cell (p:=⟨n,1,af⟩) a.1).trans a.2.2.1,a.2.2.2.1,a.2.2.2.2.below b⟩
def gJ.low{ay g e}(a:gJ m n d v ay g p)(c:cv e m u)(h:n<e)(j:v<e):gJ u n d v ay g p:=
 ⟨eA a.1 c.4,(c.cell (p:=⟨n,0,af⟩) h).trans a.2.1,(c.cell (p:=⟨n,1,af⟩) h).trans a.2.2.1,a.2.2.2.1,ahk a.2.2.2.2 c j⟩
def tR(c:ap)(b:List aK):Prop:=E b<=3001/\E c<=3000/\∀a∈b,E a.owner<=3000/\E a.data<=3000
def jI(b:List aK)(a:ap):Bool:=!(r9 a b).isEmpty
def PT{ay j}(c)(e:gJ m n d v ay j p)(a:E p<=3001):a_ aL 253 #[bv n,aS c] m λg r=>(∃q,g=bh q/\mc v ay p q (dF p c))/\a6 m r:=by let⟨w,t,u,k,o⟩:=e;let i:=O<|PP c o k a;go_in;go_wp21;refine i.mono ?_;rintro g x ⟨⟨q,rfl,b⟩,l⟩;replace b:=O b;go_wp2;go_ret;exact bd (⟨_,U,b⟩) l
def I4{ay k}(r c)(q:gJ m n d v ay k p)(o:E p<=3001):a_ aL 186 #[bv n,aS r,M c] m λh t=>(∃a,h=bh a/\mc v ay p a (jb (dF p r) c))/\a6 m t:=by let⟨x,u,w,l,g⟩:=q;let j:=O<|PS r c g l o;go_in;go_wp21;refine j.mono ?_;rintro h y ⟨⟨a,rfl,b⟩,e⟩;replace b:=O b;go_wp2;go_ret;exact bd (⟨_,U,b⟩) e
def PU{ay P}(w)(ac:gJ m n o v ay P p)(Y:E p<=3001)(Z:E w<=3000)(aa:∀i∈p,E i.owner<=3000):a_ aL 252 #[bv n,aS w] m (cI (aG<|jI p w) m):=by
 refine(ec (n:=0)).1 (sm func252 U cy ?_);simp only[ntmps252,mA,dW,gG,Nat.reduceAdd,Nat.reduceSub,mx,mP,mR,mQ,iF,fN];let M:=O aa;let⟨ap,al,an,V,I⟩:=ac;let N:=O I;let k:=I.1;gi_wp2_with fail;refine⟨cy,U,(ec.2<|PL _ _ _ _ _).m λb ⟨T,H,C,D⟩=>?_⟩;let S:=(cx.qf _ _ _).below H ax;let F:=(cf cc bo _).trans<|bN H ax;simp only[eE]at T C D;gi_wp2_with fail;let X:∀i,a6 b (aN (aN b<|df<|ae [])<|dq i):=λi=>(cf cc bo _).alloc ax _;let:∀i,J (aN (aN b<|df<|ae [])<|dq i).1=J b.1+2:=λi=>by simp
 refine wR (xs:=r9 w p) (encs:=λu:Nat×List aK=>#[aS<|eF u,bL v (ay+u.1*4) (E u.2)<|E u.2]) (St:=λc e=>cv (J b.1+2) c e) (Kp:=λc e=>(e.1[v]? = c.1[v]?/\e.1[J m.1+1+1]? = c.1[J m.1+1+1]?)/\ea (J b.1+2) c e) (Kx:=λc e=>ea (J b.1+2) c e) (gf:=205) (lb:=#[bv<|J m.1+1,bv<|J m.1+1+1]) U (enters_of func205 dl U) (λ_=>U) ?seq [v,J m.1+1+1] (by grind) (λ_ _ _ a=>a) (λc e a W=>bd (bd (a _ ax)<|a _ ax) W) (λ_ _ a=>a) (λB g=>B=0/\a6 m g/\cx g (J m.1) (aG ak) 4) (λy g=>y=.ret/\jI p w=aD/\a6 m g/\cx g (J m.1) (aG aD) 4) (λB c e a k=>⟨a.1,bC a.2.1<|bN k G,a.2.2.below k G⟩) (λy c e a k=>⟨a.1,a.2.1,bC a.2.2.1<|bN k G,a.2.2.2.below k G⟩) ⟨U,F,S⟩ ?round ?done ?stop;case seq=>(intro i;let A:=X i;let:=PN ((N.below F).below A) V ((A.cell (p:=⟨J m.1+1,0,af⟩) (by grind)).trans C) ((A.cell (p:=⟨J m.1+1+1,0,af⟩) (by grind)).trans D) (by grind) (by grind) Y Z M;grind)
 ·(intro aq B u ad g aj t K;gi_wp2_with fail;refine bd cy ?_;obtain⟨rfl,r,h⟩:=t;let Q:=h.cell;let R:=h.frozen;let x:jI p w=aD:=by{grind[jI]};gi_wp2_with fail;exact⟨ea.setCell g _ G,U,x,fc r bo _,h.set _⟩)
 case done=>(intro g t q K;let⟨ah,r,h⟩:=t;let Q:=h.cell;let R:=h.frozen;let x:jI p w=ak:=by{grind[jI]};gi_wp2_with fail;refine bd ax<|bJ ⟨_,_,U,lf<|(dr _ _ _ _<|by grind).trans q,?_⟩;let z:=((h.set<|aG ak).put (d:=J b.1) (o:=df af) G).cell;exact⟨aG ak,by simp[c_,results252,go_sem,z],by rw[x],(fc r bo _).trans<|belowK_b (w:=b) G _ _ _ _ bo ((dr _ _ _ _<|by grind).trans q) U U⟩)
 case stop=>(intro y g t q K;obtain⟨rfl,ab,r,h⟩:=t;gi_wp2_with fail;refine bd ax<|bJ ⟨_,_,U,lf q,?_⟩;let z:=(h.put (d:=J b.1) (o:=df af) G).cell;exact⟨aG aD,by simp[c_,results252,go_sem,z],by rw[ab],bC r<|belowK_b (w:=b) G _ _ _ _ bo q U U⟩)
end
section
variable {P:Program} {ops:Array Oper} {C:World->Prop}{l:Nat}
def aig{g:Oper}{b h i n}(e:C m)(j:∀b d,C d->h b->i b d)(q:g.quiet P b C h):g.wpIn e6 0 P b m i n:=by
 let⟨v,r,k⟩:=q;have a:=r m e;unfold Oper.quietAt at a;unfold Oper.wpIn;refine⟨λ_ _=>cy,?_⟩;rw[show e6.4=af from U,Oper.semAt_none];generalize (execOp b.eval g).run P m=t at*;cases t with
 | ok l d=>
  cases l<;>simp only[Oper.quietUpon]at a
  ·obtain⟨rfl,rfl⟩:=a;exact j _ _ e k
  all_goals first
   |(obtain⟨rfl,rfl⟩:=a;exact j _ _ e k)
   | (obtain⟨rfl,p⟩:=a
      refine⟨λo=>by simp[e6]at o,callsIn_wide.2<|p.mono λu x w=>?_⟩
      grind)
   |exact a.elim
 |halt l d=>simp only[Oper.quietUpon]at a
def aii{b d e l}(h:C m)(g:∀b k,C k->d b->e b k)(a:qOp P ops C n d b):wpOpIn e6 0 P ops l n e b m:=by unfold qOp at a;unfold wpOpIn;split;{grind};{rename_i o j;simp only[j]at a;split;{rename_i c;simp only[c,mM]at a;exact aig h g a};{rename_i c;simp only[c]at a;exact⟨λ_ _=>cy,g _ _ h a⟩}}
def Pt{j Q h}(g:∀a c,C c->Q a->h ky a c):∀(d:Nat) (i:Array Bool) (a:kq) (c:aQ),C c->wpAnyQ P j ops C Q d i a->wpAnyIn e6 0 P j ops h d i a c
 |0,_,_,_,e,b=>⟨b.1,g _ _ e b.2⟩
 |d+1,_,_,_,e,b=>⟨λl=>g _ _ e<|b.1 l,λo aO=>aii e (λk p n=>Pt g d _ k p n)<|b.2 o aO⟩
def Pv{Q e c}(d:P.follows .mixedOrders=aD)(r:∀(p:Nat) (j:Oper),(c7 c)[p]? = ae j->∀k,j.2≠.defer k)(i:Region.lexB .any (c7 c)=aD)(h:wpQuiet P (c7 c) (λa=>∃b,a=dS m b) (λg=>∀a,(∃b,a=dS m b)->Q ky g a) c e):(Code.region n (c7 c) aD).wpIn (e6.inRound l) 0 P Q e m:=by simp only[Region.lexB,e9]at i;refine wU d r<|Pt (C:=λa=>∃b,a=dS m b) (Q:=λg=>∀a,(∃b,a=dS m b)->Q ky g a) (λ_ a o h=>h a o) _ _ _ _ ⟨1,U⟩ ?_;let:=wpAnyQ_lex (C:=λa=>∃b,a=dS m b) (md:=.any) i.1 c 0 (Array.replicate (J<|c7 c) ak) e ax (by grind) h;simpa using this
end
def gS(c:aQ)(a:Nat)(d:List Int)(b:dP):Prop:=c.1[a]? = ae (aZ (c7<|b9 (ag ai) d) b)
section
variable {w:World} {b:Nat} {xs:List Int}{t:TypeId}
def gS.lt(a:gS w b xs t):b<J w.1:=(dK.1 a).1
def gS.cell(a:gS w b xs t)(i)(aO:i<E xs):aA w (N b i)=ae (M xs[i]):=by unfold gS at a;simp[aA,a,aO]
def gS.frozen(h:gS w b xs t)(a):gd w (N b a)=ak:=by unfold gS at h;exact qE
def gS.set(d:gS w b xs t)(a c):gS (a7 w ⟨b,a,af⟩<|ag ai c) b (xs.set a c) t:=by unfold gS at*;simp only[a7];rw[ru,b8 U,d];simp
def gS.kept{w'}(c:gS w b xs t)(e:ey n w w')(d:b≠n):gS w' b xs t:=(e.5 b c.lt d).trans c
end
def nr:Nat->ap->Bool->List Nat×ap×Bool
 |0,s,a=>([],s,a)
 |b+1,s,a=>((e4 s a).1::(nr b (e4 s a).2.1 (e4 s a).2.2).1,(nr b (e4 s a).2.1 (e4 s a).2.2).2)
def sc(s a):E (e4 s a).2.1<=E s:=cJ (sU _ _)<|sU _ _
def aim(s a):(e4 s a).1<65536:=by let:=ze s a;let:=ze (eY s a).2.1 (eY s a).2.2;simp only[e4];omega
def xo(s:ap):List Nat×Bool:=((nr 6 s ak).1,!(nr 6 s ak).2.2)
def ain(s a)(al:E s<=1000000000):a_ aL 44 #[aS s] a λZ bn=>Z=bh (bZ #[ce<|c7 ((xo s).1.map λa8:Nat=>ag ai a8),aG (xo s).2])/\a6 a bn:=by
 have az:ed (aN (aN a<|aZ #[ag ai 0,ag ai 0,ag ai 0,ag ai 0,ag ai 0,ag ai 0] 110)<|aZ #[am<|D s,aG ak] 195) (J a.1+1) s ak:=by{have:=cW (aN a<|aZ #[ag ai 0,ag ai 0,ag ai 0,ag ai 0,ag ai 0,ag ai 0] 110)<|aZ #[am<|D s,aG ak] 195;simpa [ed]using this};have k:gS (aN (aN a<|aZ #[ag ai 0,ag ai 0,ag ai 0,ag ai 0,ag ai 0,ag ai 0] 110)<|aZ #[am<|D s,aG ak] 195) (J a.1) [0,0,0,0,0,0] 110:=(dv _ _ _ ax).trans<|cW a _;have aa:=O<|((cU (J a.1) a).alloc bo<|aZ #[ag ai 0,ag ai 0,ag ai 0,ag ai 0,ag ai 0,ag ai 0] 110).alloc ax<|aZ #[am<|D s,aG ak] 195;have ah:=lW ak az al;have b:=O k;have F:=O ah;have y:ao (xo s=((e4 s ak).1::(e4 (e4 s ak).2.1 (e4 s ak).2.2).1::(nr 4 (e4 (e4 s ak).2.1 (e4 s ak).2.2).2.1 (e4 (e4 s ak).2.1 (e4 s ak).2.2).2.2).1,!(nr 4 (e4 (e4 s ak).2.1 (e4 s ak).2.2).2.1 (e4 (e4 s ak).2.1 (e4 s ak).2.2).2.2).2.2)):=U;have K:=O<|cJ (sc s ak) al;generalize xo s=R,e4 s ak=bq at*;let⟨h,aF,x⟩:=bq;simp only at F y K;clear az k ah;go_in;go_wp2_with fail;refine F.m ?_;rintro bp ⟨an,z,au⟩;have H:=O<|lW x an K;have aH:=O<|cJ (sc aF x) K;generalize e4 aF x=I at*;let⟨i,bl,aV⟩:=I;simp only at H y aH;have ay:=O<|b.kept z G;have T:=O<|bC aa<|z.below G ct;have ab:ao (J bp.1=J a.1+2):=by rw[ao,au];simp
 clear an z au F b aa;go_wp2_with fail;refine H.m ?_;rintro l ⟨aq,B,a4⟩;have aw:=O aq;have aC:=O<|ay.kept B G;have aX:=O<|bC T<|B.below G<|cd<|V ab;have j:ao (J l.1=J a.1+2):=by grind
 clear aq B a4 H ay T ab;go_wp2;go_loopw [15] (λC wr=>∃(e m:Nat) (done d:List Nat) (c:ap) (gF:Bool),C=M e/\E done=e/\E d=m/\e+m=4/\E c<=1000000000/\ed wr (J a.1+1) c gF/\gS wr (J a.1) [0,0,0,0,0,0] 110/\gS wr (J l.1) (b9 Int.ofNat (h::i::(done++d))) 110/\a6 a wr/\R=(h::i::(done++(nr m c gF).1),!(nr m c gF).2.2)) λC _=>4-cM (intOf C);·(refine⟨0,4,[],[0,0,0,0],bl,aV,U,U,U,U,aH,?_,?_,?_,?_,y⟩;{exact(dv _ _ _ aw.lt).trans aw};{exact(dv _ _ _ aC.lt).trans aC};{exact cW _ _};{exact cf aX (cd<|V j) _})
 ·(
 obtain⟨e,m,done,d,c,gF,rfl,A,av,aR,aB,L,k,Q,ad,ac⟩:=hrel;have r:=O L;have b:=O k;have g:=O Q;have n:=O ad;have u:=O ac;clear L k Q ad ac;cases m with
 |zero=>{
 obtain rfl:d=[]:=hq av;have aj:e=4:=G;subst aj;obtain⟨aY,bG,a0,a1,rfl⟩:∃P S X Y,done=[P,S,X,Y]:=by{
 match done,A with
 |[P,S,X,Y],_=>simp};have a9:=g.cell 0 ax;have ba:=g.cell 1 ax;have bb:=g.cell 2 ax;have bc:=g.cell 3 ax;have bf:=g.cell 4 ax;have bj:=g.cell 5 ax;simp at a9 ba bb bc bf bj;have:=r.cells.2;have aI:=b.cell 0 ax;have aJ:=b.cell 1 ax;have aK:=b.cell 2 ax;have aM:=b.cell 3 ax;have aO:=b.cell 4 ax;have aP:=b.cell 5 ax;simp at aI aJ aK aM aO aP;have a3:=b.frozen;have:J a.1≠J l.1:=cd<|V j
 clear aR A av;go_wp2;go_region;all_goals(go_wp2;refine dQ (v:=bZ #[ce #[ag ai h,ag ai i,ag ai aY,ag ai bG,ag ai a0,ag ai a1],aG<|!gF]) (by simp[c_,results44,go_sem,aI,aJ,aK,aM,aO,aP]) U (bd ?_ ?_);{rw[u];rfl};{exact((((((fc n bo _).setCell bo _).setCell bo _).setCell bo _).setCell bo _).setCell bo _).drew})}
 |succ m=>{
 obtain⟨q,d,rfl⟩:∃q br,d=q::br:=by{
 cases d with
 |nil=>grind
 |cons q d=>simp};have aj:e<4:=G;have W:ao (R=(h::i::((done++[(e4 c gF).1])++(nr m (e4 c gF).2.1 (e4 c gF).2.2).1),!(nr m (e4 c gF).2.1 (e4 c gF).2.2).2.2)):=by{rw[ao,u];simp[nr]};have t:=O<|lW gF r aB;have N:=O<|cJ (sc c gF) aB;generalize e4 c gF=I at*;let⟨p,bm,aW⟩:=I;simp only at t N W;clear u;go_wp2_with fail;refine t.m ?_;rintro bs ⟨ar,o,a5⟩;have aT:=O ar;have aU:=O<|b.kept o G;have w:=O<|g.kept o<|cd<|V j;have a2:=O<|bC n<|o.below G<|cd n.4;let:=w.cell (2+e) (by grind);let a3:=w.frozen;clear ar o a5 t r b g n;go_wp2;let:J a.1<J l.1:=cd<|V j
 let:J a.1+1<J l.1:=cd<|V j
 let:=w.set (2+e) (p:Int);refine⟨⟨e+1,m,done++[p],d,bm,aW,dd,by grind,by grind,G,N,?_,?_,?_,fc a2 (by grind) _,W⟩,dz⟩;{exact(dr _ _ _ _<|by grind).trans aT};{exact(dr _ _ _ _<|by grind).trans aU};{have Z:(b9 Int.ofNat (h::i::(done++q::d))).set (2+e) (p:Int)=b9 Int.ofNat (h::i::((done++[p])++d)):=by{subst A;rw[show 2+E done=E done+1+1 from G];simp};grind}})
section
attribute [local go_sem] Oper.semAt_some
def oR(a:Int)(b:aK):Bool:=b.type != a
def qQ(b:ap)(a:Nat×List aK):Bool:=!oZ (eF a) && !a.2.any (oR<|if eF a==b then 2 else 1)
def nV(b:List aK)(a:ap):Bool:=(r9 a b).all<|qQ a
def IL{p:Nat×List aK->Bool}{b:List<|Nat×List aK}{c:Nat×List aK}(d:b[n]? = ae c):(bi n b).all p=(p c&&(bi (n+1) b).all p):=by obtain⟨aO,rfl⟩:=iW.1 d;rw[jM aO,uO]
def ahP{a:aK}(g:aA m (N n 0)=ae (M j))(e:n<J m.1):a_ aL 157 #[ce #[aS a.owner,M a.aP,M a.type,aS a.data],bv n] m (cI (aG<|oR j a) m):=by go_wp2;go_ret;exact Fg
def ahQ(h:aA m (N n 0)=ae (M j))(d:n<J m.1):PredBelow aL 157 #[bv n] (λi=>ce<|c7<|aK.bz i) (oR j) m:=by intro c k b;exact(ahP ((b.cell (p:=⟨n,0,af⟩) d).trans h) (eA d b.4)).m λl g=>bd U<|bC b (bN g b.4)
def Pl{ay:Nat}(g:Nat)(k:aA m (N n 0)=ae (M j))(b:n<J m.1)(h:fA m v ay p)(a:E p<=3001):a_ aL 145 #[bL v ay (E p) g,ez (.func 157) #[] #[bv n]] m λi l=>i=bh (aG<|p.any<|oR j)/\a6 m l:=by have:=AnyQ.slices_ContainsFunc Tryz.akX 4 Tryz.isAgg83 Tryz.sizeOf83 aK.bz (λ_=>U) (oR j) 157 #[bv n] (enters_of func157 b6 U) v ay (E p) g p m (ahQ k b) bo G h.1 h.2;rw[jc]at this;exact this
def ahR{b:Nat×List aK}(i:ao<|nV p d=(qQ d b&&(bi (n+1)<|r9 d p).all (qQ d)))(l:oZ (eF b)=ak)(k:(if eF b==d then(2:Int)else 1)=j):(b.2.any (oR j)=ak->(bi (n+1)<|r9 d p).all (qQ d)=nV p d)/\(b.2.any (oR j)=aD->nV p d=ak):=by have g:=i;let h:qQ d b = !b.2.any (oR j):=by{rw[qQ,l,k];rfl};rw[h]at g;refine⟨λe=>?_,λe=>?_⟩;{rw[g,e];rfl};{rw[g,e];rfl}
def Nh(h:φ:=by gi_wp2_with fail;let⟨r1,r2⟩:=bt.2 hm;exact⟨r1,U,r2⟩):φ:=h
def ahS{ay:Nat}{w:aQ}(aO:fA w n ay p)(a5:E p<=v)(bb:E p<=3001)(bc:E d<=3000)(t:∀u∈p,E u.owner<=3000):a_ aL 87 #[aS d,bL n ay (E p) v] w (cI (aG<|nV p d) w):=by
 refine(ec (n:=0)).1 (sm func87 U cy ?_);simp only[ntmps87,mA,dW,gG,Nat.reduceAdd,Nat.reduceSub,mx,mP,mR,mQ,iF,fN];have au:=O aO;have aV:=O t;have B:=aO.1;gi_wp2_with fail;refine⟨cy,U,(ec.2<|PL _ _ _ _ _).m λW2 ⟨a4,ad,aF,aH⟩=>?_⟩;have a2:=((cx.qf _ _ _).alloc _).below ad gB;have a3:cx W2 (J w.1+1) (aG ak) 4:=by
  have:=(cx.qf (aN w<|aZ #[am<|D d] 9) (aG ak) 4).below ad gB
  rwa [eE]at this
 have aI:=((cf cc bo _).alloc ax _).trans<|bN ad gB;simp only[eE]at a4 aF aH;gi_wp2_with fail;have bf:=O<|au.below aI;have ba:∀u,a6 W2 (aN (aN W2<|df<|ae [])<|dq u):=λu=>(cf cc bo _).alloc ax _;have aX:∀u,J (aN (aN W2<|df<|ae [])<|dq u).1=J W2.1+2:=λu=>by simp
 refine wR (xs:=r9 d p) (encs:=λc:Nat×List aK=>#[aS<|eF c,bL n (ay+c.1*4) (E c.2)<|E c.2]) (St:=λq r=>cv (J W2.1+2) q r) (Kp:=λq r=>(r.1[n]? = q.1[n]?/\r.1[J w.1+1+1+1]? = q.1[J w.1+1+1+1]?)/\ea (J W2.1+2) q r) (Kx:=λq r=>ea (J W2.1+2) q r)
  (gf:=205) (lb:=#[bv<|J w.1+1+1,bv<|J w.1+1+1+1]) U (enters_of func205 b6 U) (λ_=>U) ?seq
  [n,J w.1+1+1+1] ct (λ_ _ _ h=>h) (λq r h a8=>bd (bd (h _ ax)<|h _ ax) a8) (λ_ _ h=>h)
  (λT b=>(bi T<|r9 d p).all (qQ d)=nV p d/\a6 w b/\cx b (J w.1) (aS d) 9/\cx b (J w.1+1) (aG ak) 4)
  (λaa b=>aa=.ret/\nV p d=ak/\a6 w b/\cx b (J w.1+1) (aG ak) 4)
  (λT q r h B=>⟨h.1,bC h.2.1<|bN B G,h.2.2.1.below B G,h.2.2.2.below B G⟩)
  (λaa q r h B=>⟨h.1,h.2.1,bC h.2.2.1<|bN B G,h.2.2.2.below B G⟩)
  ⟨U,aI,a2,a3⟩
  ?round ?done ?stop
 case seq=>
  intro u;have K:=ba u;have:=PN (bf.below K) a5 ((K.cell (p:=⟨J w.1+1+1,0,af⟩) Hy).trans aF) ((K.cell (p:=⟨J w.1+1+1+1,0,af⟩) Hl).trans aH) (cd K.4) (cd K.4) bb bc aV;rw[aX u]at this;exact this
 ·intro L T c bm b aU H aT;gi_wp2_with fail;refine bd cy ?_;let⟨ah,l,S,x⟩:=H;have:=S.cell;have aM:=(ig.1<|pE aU).1;have a0:=xh (au.below l) aM;have:=uW aM;have aR:=IL (p:=qQ d) aU;rw[ah]at aR;have ar:=O aR;have aW:=O S;have P:=O x;have az:=O a0;have al:((D<|eF c).toList==(D d).toList)=(eF c==d):=uV;have aY:=S.lt;have z:=x.lt;have aJ:=λQ=>O5 (D<|eF c) Q;have Y:ao (∀Q,a_ aL 133 #[aS<|eF c] Q λF bl=>F=bh (aG<|oZ<|eF c)/\bl=Q):=aJ;clear aJ
  have aC:∀(W:Int) (g i:aQ),a6 b g->a6 g i->oZ (eF c)=ak->(if eF c==d then(2:Int)else 1)=W ->
    ao ((c.2.any (oR W)=ak->ea (J W2.1) b i/\(∀V∈[n,J w.1+1+1+1],i.1[V]? = b.1[V]?)/\((bi (T+1)<|r9 d p).all (qQ d)=nV p d/\a6 w i/\cx i (J w.1) (aS d) 9/\cx i (J w.1+1) (aG ak) 4)) /\
     (c.2.any (oR W)=aD->ea (J W2.1) b (a7 i ⟨J w.1+1,0,af⟩<|aG ak)/\nV p d=ak/\a6 w (a7 i ⟨J w.1+1,0,af⟩<|aG ak)/\cx (a7 i ⟨J w.1+1,0,af⟩<|aG ak) (J w.1+1) (aG ak) 4)):=by
   intro W g i e a9 C t;have aP:=ahR ar C t;have y:=bC e<|bN a9 e.4;refine⟨λF=>⟨ea.Em y,λV hk=>y.5 V E_,aP.1 F,bC l<|bN y l.4,aW.below y aY,P.below y z⟩,λF=>⟨(ea.Em y).trans<|ea.setCell i _ G,aP.2 F,(bC l<|bN y l.4).setCell wd _,(P.below y z).set _⟩⟩
  cases C:oZ<|eF c
  ·cases t:eF c==d
   ·rw[t]at al;gi_wp2_with fail;refine⟨cy,U,(ij L<|ec.2<|Y _).m λg hW3=>?_⟩;have e:a6 b g:=G2
    have ab:aA g (N (J b.1) 0)=ae (M 1):=by rw[hW3];go_simp
    have aj:J b.1<J g.1:=by rw[hW3];simp
    clear hW3;have X:=O<|Pl (E c.2) ab aj (az.below e) G;gi_wp2_with fail;refine⟨cy,U,?_⟩;refine(ij L<|ec.2 X).m ?_;intro i I;have bt:=aC 1 g i e I C (by rw[t];rfl);have k:=((P.below e z).below I<|eA z e.4)
    have av:=k.cell;have aw:=k.frozen;cases hm:c.2.any<|oR 1
    ·gi_wp2_with fail;exact bt.1 hm
    ·exact Nh
   ·rw[t]at al;gi_wp2_with fail;refine⟨cy,U,?_⟩;refine(ij L<|ec.2<|Y _).m ?_;intro g hW3;have e:a6 b g:=G2
    have ab:aA g (N (J b.1) 0)=ae (M 2):=by rw[hW3];go_simp
    have aj:J b.1<J g.1:=by rw[hW3];simp
    clear hW3;have X:=O<|Pl (E c.2) ab aj (az.below e) G;gi_wp2_with fail;refine⟨cy,U,?_⟩;refine(ij L<|ec.2 X).m ?_;intro i I;have bt:=aC 2 g i e I C (by rw[t];rfl);have k:=((P.below e z).below I<|eA z e.4)
    have av:=k.cell;have aw:=k.frozen;cases hm:c.2.any<|oR 2
    ·gi_wp2_with fail;exact bt.1 hm
    ·exact Nh
  ·have Z:ao (nV p d=ak):=by
    rw[ao,ar,qQ,C];rfl
   cases t:eF c==d
   all_goals
    rw[t]at al;gi_wp2_with fail;refine⟨cy,U,?_⟩;refine(ij L<|ec.2<|Y _).m ?_;intro g hW3;have e:a6 b g:=by
     rw[hW3]
     first
     |exact cf cc bo _
     |exact((Below.refl _ _).alloc (Nat.le_refl _) _).setCell (p:=⟨b.heap.size,0,none⟩) (Nat.le_refl b.heap.size) _
    clear hW3;have k:=P.below e z;have av:=k.cell;have aw:=k.frozen;replace k:=O k;have:=e.4;gi_wp2_with fail;refine bd cy ?_;gi_wp2_with fail;exact⟨(ea.Em e).trans<|ea.setCell g _ G,U,Z,(bC l<|bN e l.4).setCell wd _,k.set _⟩
 case done=>
  intro b H R aT;let⟨ah,l,S,x⟩:=H;have a1:=x.cell;have:=x.frozen;have Z:ao (nV p d=aD):=by
   rw[ao,<-ah,pT bo];rfl
  gi_wp2_with fail;have aq:=(dr b (N (J w.1+1) 0) (aG aD) (J W2.1) Hi).trans R;refine bd ax<|bJ ⟨_,_,U,lf aq,?_⟩;have ac:=((x.set<|aG aD).put (d:=J W2.1) (o:=df af) G).cell;refine⟨aG aD,by simp[c_,results87,go_sem,ac],by rw[Z],?_⟩;exact(fc l wd _).trans<|belowK_b (w:=W2) G _ _ _ _ bo aq U U
 case stop=>
  intro aa b H R aT;obtain⟨rfl,an,l,x⟩:=H;replace an:=O an;let a1:=x.cell;gi_wp2_with fail;refine bd ax<|bJ ⟨_,_,U,lf R,?_⟩;let ac:=(x.put (d:=J W2.1) (o:=df af) G).cell;let bj:=bC l<|belowK_b (w:=W2) (show J w.1<=J W2.1 by omega) b _ _ (df af) bo R U U;exact⟨aG ak,by simp[c_,results87,go_sem,ac],by rw[an],bj⟩
end
def WB:a_ aL 148 #[am T] m λb c=>b=bh (aG ak)/\c=m:=by go_wp2;go_ret;simp
def xr(a b:ap):Int:=if Op.bytesLess a b then -1 else if a==b then 0 else 1
def WC(s b a):a_ aL 81 #[am s,am b] a λc d=>c=bh (M<|xr s.1.1 b.1.1)/\d=a:=by go_in;go_wp2_with (go_at_call 148;refine(WB).m ?_;rintro a rfl);all_goals(go_ret;refine⟨wQ ?_,U⟩;unfold xr;simp only[gC]at*;simp_all)
def y3(a b:Int):Int:=if a=0 then b else a
def GZ(h:φ:=by
 go_wp2;go_round;·grind
 ·simp[fj]):φ:=h
def WF(c d){h}(p:aA m (N h 0)=ae (M c))(q:aA m (N h 1)=ae (M d)):a_ aL 80 #[bL h 0 2 n] m λl o=>l=bh (M<|y3 c d)/\o=m:=by
 by_cases j:c=0;{
 have e:ao (y3 c d=d):=b8 j;subst j;by_cases g:d=0;{
 subst g;go_wp2;go_loop [8] (λa=>∃b:Nat,b<=2/\a=M b) λa=>2-cM (fj a);·grind
 ·(
 obtain⟨b,i,rfl⟩:=hrel;match b,i with
 |0,_=>{
 exact GZ}
 |1,_=>{
 exact GZ}
 |2,_=>{go_wp2;go_ret;exact⟨wQ<|b5 e,U⟩})};{
 let:(d != 0)=aD:=by grind
 go_wp2;go_loop [8] (λa=>∃b:Nat,b<=1/\a=M b) λa=>2-cM (fj a);·grind
 ·(
 obtain⟨b,i,rfl⟩:=hrel;match b,i with
 |0,_=>{
 exact GZ}
 |1,_=>{go_wp2;go_ret;exact⟨wQ<|b5 e,U⟩})}};{
 let:(c != 0)=aD:=by grind
 have e:ao (y3 c d=c):=bV j;go_wp2;go_loop [8] (λa=>a=M 0) λa=>2-cM (fj a);·rfl
 ·(obtain rfl:=hrel;go_wp2;go_ret;exact⟨wQ<|b5 e,U⟩)}
def mf(a s:aK):Int:=y3 (xr a.owner s.owner)<|Lib.compareInt a.type s.type
def Eg(a s d):a_ aL 79 #[ce #[aS a.owner,M a.aP,M a.type,aS a.data],ce #[aS s.owner,M s.aP,M s.type,aS s.data]] d λe b=>e=bh (M<|mf a s)/\∃o n,b=Sort.grow (dS d o) n:=by
 have i:∀c,a_ aL 81 #[aS a.owner,aS s.owner] c λe b=>e=bh (M<|xr a.owner s.owner)/\b=c:=λc=>WC _ _ c;have j:∀c,a_ aL 82 #[M a.type,M s.type] c λe b=>e=bh (M<|Lib.compareInt a.type s.type)/\b=c:=λc=>Tryz.cmp_Compare_int _ _ c;have k:=O i;have l:=O j;have h:ao (mf a s=y3 (xr a.owner s.owner) (Lib.compareInt a.type s.type)):=U;generalize xr a.owner s.owner=x,Lib.compareInt a.type s.type=g at*;go_wp2
 go_region_held (λb=>aA b (N (J d.1) 0)=ae (aS a.owner)/\aA b (N (J d.1) 2)=ae (M a.type)/\aA b (N (J d.1+1) 0)=ae (aS s.owner)/\aA b (N (J d.1+1) 2)=ae (M s.type)) (go_keep)
  (first
   |(go_at_call 81;refine(k _).m ?_;rintro b rfl)
   |(go_at_call 82;refine(l _).m ?_;rintro b rfl)
   |(go_at_call 80;refine(WF x g (by go_simp)<|by go_simp).m ?_;rintro b rfl))
 all_goals
  go_wp2;go_ret;refine⟨wQ<|b5 h,1,#[aZ #[am<|D a.owner,ag ai a.aP,ag ai a.type,am<|D a.data] 83,aZ #[am<|D s.owner,ag ai s.aP,ag ai s.type,am<|D s.data] 83,aZ #[ag ai x,ag ai g] 3],?_⟩;rfl
def tS(a:UInt8)(s:ap)(b f:Nat)(c:List ap):Prop:=(b<=E s/\f<=b/\a∉be (b-f) (bi f s)/\I a s=c++I a (bi f s))\/(b=E s+1/\c=I a s)
section
variable {c:UInt8} {s:ap} {i f:Nat}{L:List ap}
def tS.Yr(a:tS c s i f L)(aO:i<=E s):f<=i/\c∉be (i-f) (bi f s)/\I c s=L++I c (bi f s):=by rcases a with a|a;{grind};{omega}
def WY(d:tS c s (E s) f L):tS c s (E s+1) (E s+1) (L++[be (E s-f)<|bi f s]):=by let⟨g,a,e⟩:=d.Yr bo;have b:be (E s-f) (bi f s)=bi f s:=mS ax;rw[b]at a⊢;exact bE ⟨U,by rw[e,tM c _ a]⟩
def Wi(b:tS c s i f L)(aO:i<E s)(g:s[i]=c):tS c s (i+1) (i+1) (L++[be (i-f)<|bi f s]):=by
 let⟨h,d,e⟩:=b.Yr G;refine bJ ⟨G,cO _,ax,?_⟩;let a:bi f s=be (i-f) (bi f s)++c::bi (i+1) s:=by{have:=b5<|ku (i-f)<|bi f s;rw[my,show f+(i-f)=i by omega,jM aO,g]at this;omega};rw[e];conv=>lhs;rw[a,tO c _ _ d]
 simp
def Wj(a:tS c s i f L)(aO:i<E s)(h:s[i]≠c):tS c s (i+1) f L:=by let⟨e,g,b⟩:=a.Yr G;refine bJ ⟨G,G,?_,b⟩;let d:be (i+1-f) (bi f s)=be (i-f) (bi f s)++[s[i]]:=by{rw[show i+1-f=i-f+1 by omega,g8<|by grind,yQ];grind};grind
end
def y5(s c d):(D s).extract c d=D (be (d-c)<|bi c s):=by
 have ext:∀{a b:ByteArray},a.1=b.1->a=b:=λ{a b} e=>by cases a;simp_all
 apply ext;apply Array.ext';simp[D,List.extract_eq_take_drop]
def V2(h:φ:=by have hB:=HO.2.2;exact(cf hB cY _).trans ⟨hgrow.1,hgrow.2,hgrow.3,hgrow.4,λk hk=>hgrow.5 k ct λe=>cd<|(fS HO.1 k<|b5 e).1⟩):φ:=h
def L8(h:φ:=by{rw[ao,dj,jg];refine⟨by rw[bI]at hown';exact hown',⟨λh=>absurd h fi,λh=>yo⟩,?_⟩;exact V2}):φ:=h
def y6(s l c)(ad:E s<=2000000):a_ aL 38 #[aS s,ag ch<|bg l] c λe L=>(∃v,e=bh v/\lX L (J c.1) v (I l s))/\a6 c L:=by
 let⟨H,K,B,C,F⟩:=im wx;have:=cV s;go_wp2;go_loopw [5,6,7] (λv Y Z wr=>∃(a f:Nat) (b:List ap),Z=M a/\Y=M f/\a<=E s+1/\f<=E s+1/\E b<=a/\tS l s a f b/\wr.ownsRow (J c.1) 9 1 v (E b) (b.map λn=>aS n)/\(v=bX↔b=[])/\a6 c wr) λ_ _ a _=>E s+1-cM (intOf a);·exact⟨0,0,[],U,U,G,G,ax,bJ ⟨G,G,ax,U⟩,ih _ _ _ _,ax,cU _ _⟩
 ·(
 obtain⟨a,f,b,rfl,rfl,aO,ac,aa,R,V,T,z⟩:=hrel;have o:=O R;have HO:=O<|cj V<|cj T z;have cY:=z.4;by_cases S:a<=E s;{
 have W:(a:Int)<=E s:=G;let⟨ab,_,_⟩:=o.Yr S;have bI:=O<|y5 s f a;by_cases r:a=E s;{
 have Q:((a:Int)==E s)=aD:=by grind
 replace r:=O r;go_wp2_with (at_builtin;go_loud (refine sQ _ U (.tmp 25) (.tmp 30) 23 U (J c.1) 9 H (am ⟨#[]⟩) 1 16 A2 K B C F U bW _ (E b) _ U (HO.1.alloc _) (N (J wr.1) 0) 1 1 [am<|(D s).extract f a] U U (Bm _ _ _) (λX hu=>yn) lN G ct ?_));intro p q hown' hgrow y _;have u:ao (q.ownsRow (J c.1) 9 1 p (E<|b++[be (a-f)<|bi f s]) ((b++[be (a-f)<|bi f s]).map λn=>aS n)/\(p=bX↔b++[be (a-f)<|bi f s]=[])/\a6 c q):=L8;go_wp2;let⟨g,i,j⟩:=u;exact⟨⟨a+1,a+1,_,dd,dd,G,G,by grind,by have h:=o;rw[r]at h⊢;exact WY h,g,i,j⟩,dz⟩};{
 have Q:((a:Int)==E s)=ak:=by grind
 have A:a<E s:=G;let⟨t,w⟩:=bm<|s[a];have:∀h:a<b7 (D s),(D s)[a]=t:=λh=>b5 w;have x:=O w;clear r w;by_cases d:t=l;{
 have P:((bg t:Int)==bg l)=aD:=by grind
 replace d:=O d;go_wp2_with (at_builtin;go_loud (refine sQ _ U (.tmp 25) (.tmp 30) 23 U (J c.1) 9 H (am ⟨#[]⟩) 1 16 A2 K B C F U bW _ (E b) _ U (HO.1.alloc _) (N (J wr.1) 0) 1 1 [am<|(D s).extract f a] U U (Bm _ _ _) (λX hu=>yn) lN G ct ?_));intro p q hown' hgrow y _;have u:ao (q.ownsRow (J c.1) 9 1 p (E<|b++[be (a-f)<|bi f s]) ((b++[be (a-f)<|bi f s]).map λn=>aS n)/\(p=bX↔b++[be (a-f)<|bi f s]=[])/\a6 c q):=L8;clear hown' hgrow y;go_wp2;let⟨g,i,j⟩:=u;exact⟨⟨a+1,a+1,_,dd,dd,G,G,by grind,Wi o A<|(b5 x).trans d,g,i,j⟩,dz⟩};{have P:((bg t:Int)==bg l)=ak:=by{rw[ju];intro h;exact d<|wK.1 G};replace d:=O d;go_wp2;let⟨g,i,j⟩:=HO;exact⟨⟨a+1,f,b,dd,U,G,G,G,Wj o A λh=>d<|cQ x h,g,i,j⟩,dz⟩}}};{let W:¬(a:Int)<=E s:=G;go_wp2;go_ret;let⟨g,i,j⟩:=HO;rcases o with h|⟨_,h⟩;{omega};{rw[<-h];exact⟨⟨_,U,g,i⟩,j⟩}})
def QA(b:n<E d):be (n+1) d=be n d++[d[n]]:=g8 b
def Wk(a:UInt8):(ry a=aD/\((97<=(bg a:Int)/\(bg a:Int)<=122)\/(48<=(bg a:Int)/\(bg a:Int)<=57)\/(bg a:Int)=45\/(bg a:Int)=95)) \/
  (ry a=ak/\(((bg a:Int)<45)\/(45<(bg a:Int)/\(bg a:Int)<48)\/(57<(bg a:Int)/\(bg a:Int)<95)\/((bg a:Int)=96)\/(122<(bg a:Int)))):=by unfold ry Dq;generalize (bg a:Int)=b;by_cases c:97<=b/\b<=122;{left;simp[c]};by_cases d:48<=b/\b<=57;{left;simp[d]};by_cases e:b=45;{left;simp[e]};by_cases g:b=95;{left;simp[g]};right;refine bd ?_ G;rw[Bool.eq_false_iff];simp only[ne_eq,sZ,e9,pZ,iE];omega
def E4(h:φ:=by first|rfl|trivial):φ:=h
def He(h:φ:=by go_wp2;go_ret;refine bd (e_ ?_) U;rw[kr,bn];simp;omega):φ:=h
def Wl(s:ap)(j:aQ)(H:E s<=2000000):a_ aL 89 #[aS s] j λq C=>q=bh (aG<|kr s)/\C=j:=by
 have:=cV s;go_wp2;go_loopw [3] (λi wr=>∃a:Nat,a<=E s/\i=M a/\(be a s).all ry=aD/\wr=j) λi _=>E s-cM (intOf i);·exact Hm
 ·(
 obtain⟨a,F,rfl,r,rfl⟩:=hrel;have k:=O r;by_cases n:a<E s;{
 have w:(a:Int)<E s:=G;have p:=O<|QA n;let⟨c,d⟩:=bm<|s[a];have:∀h:a<b7 (D s),(D s)[a]=c:=λh=>b5 d;replace d:=O d;rcases Wk c with⟨b,h⟩|⟨b,h⟩;{
 replace b:=O b;have g:∀v:bk,v=M ((a:Int)+1)->∃e:Nat,e<=E s/\v=M e/\(be e s).all ry=aD:=λv u=>⟨a+1,G,by rw[u];go_num,by rw[p,wC,k,<-d];simp[V b]⟩;replace g:=O g;rcases h with h|h|h|h;case' inr.inr.inl=>have o:((bg c:Int) != 45)=ak:=uo
 case' inr.inr.inr=>(
 have o:((bg c:Int) != 45)=aD:=uo
 have A:((bg c:Int) != 95)=ak:=uo)
 all_goals(go_wp2;let⟨e,x,y,z⟩:=g _ U;exact⟨⟨e,x,y,z,E4⟩,dz⟩)};{
 replace b:=O b;have o:((bg c:Int) != 45)=aD:=CE
 have A:((bg c:Int) != 95)=aD:=CE
 rcases h with h|h|h|h|h;all_goals(go_wp2;go_ret;refine bd (e_ ?_) U;have t:=ei n;symm;rw[kr,yN];right;rw[AW];exact⟨_,t,by rw[<-d,b];simp⟩)}};{have w:¬(a:Int)<E s:=G;have B:a=E s:=G;have l:=k;rw[B,jc]at l;have bn:=O l;by_cases I:0<(E s:Int);{by_cases K:(E s:Int)<=20;{exact He};{exact He}};{exact He}})
def mh:Nat->ap->Option Nat
 |a,[]=>ae a
 |a,b::c=>if pF (bg b) then mh (10*a+(bg b-48)) c else af
def IN:∀(d:ap) (a v:Nat),mh a d=ae v->a*10^E d<=v
 |[],a,v,b=>by simp[mh]at b;simp[b]
 | e::c,a,v,b=>by
  unfold mh at b;split at b
  ·have:=IN c _ v b;rw[dW,Nat.pow_succ]
   calc a*(10^E c*10)=(10*a)*10^E c:=by rw[wI (10^E c) 10,<-Nat.mul_assoc,wI a 10]
    _<=(10*a+(bg e-48))*10^E c:=tp _ G
    _<=v:=this
  ·cases b
def IP(b:Nat):∀(g:ap) (a:Nat),a<=b->mB b a g=(match mh a g with
  |some v=>if v<=b then ae v else af
  |none=>af)
 |[],a,e=>by simp[mB,mh,e]
 |d::c,a,e=>by
  unfold mB mh;split;{
  split;{exact IP b c _ ‹_›};{
  rename_i i;cases h:mh (10*a+(bg d-48)) c with
  |none=>rfl
  |some v=>{have:=IN c _ v h;have j:1<=10^E c:=Nat.one_le_pow _ _ G;have:10*a+(bg d-48)<=v:=cJ (Nat.le_mul_of_pos_right _ G) this;simp;omega}}};{rfl}
def pD(s:ap):Option Nat:=if 1<=E s/\E s<=10/\¬(s.head? = ae 48/\1<E s)then mh 0 s else af
def QB(q:n<10000000000)(s:ap):pM n s=(match pD s with
  |some v=>if v<=n then ae v else af
  |none=>af):=by
 unfold pD;cases s with
 |nil=>simp[pM]
 | cons b a=>
  show(if bg b=48/\a≠[]then af else mB n 0 (b::a))=_;by_cases c:bg b=48/\a≠[]
  ·have k:b=48:=wK.1 c.1;have p:1<E (b::a):=by
    rcases a with _|⟨u,t⟩
    ·exact absurd U c.2
    ·simp
   rw[b8 c,bV λe=>e.2.2 ⟨by rw[k];rfl,p⟩]
  ·rw[bV c];have o:¬((b::a).head? = ae 48/\1<E (b::a)):=by
    rintro⟨l,d⟩;refine c<|bd ?_ ?_
    ·have:b=48:=by simpa using l
     rw[this];rfl
    ·rintro rfl;simp at d
   by_cases h:E (b::a)<=10
   ·rw[b8 ⟨ax,h,o⟩];exact IP n _ 0<|dJ _
   ·rw[bV λe=>h e.2.1,IP n _ 0<|dJ _];cases g:mh 0 (b::a)with
    |none=>rfl
    | some v=>
     unfold mh at g;split at g
     ·rename_i i;have:=IN a _ v g;have j:10<=E a:=by simp at h;omega
      have r:10000000000<=10^E a:=by
       calc 10000000000=10^10:=U
        _<=10^E a:=Df G j
      have k:1<=bg b-48:=by
       unfold pF at i;simp at i;let:bg b≠48:=λe=>c (bd e<|by rintro rfl;simp at j);omega
      let:10^E a<=v:=cJ (by
       calc 10^E a=1*10^E a:=b5 (Nat.one_mul _)
        _<=(10*0+(bg b-48))*10^E a:=tp _ G) this
      simp;omega
     ·cases g
def Ej(a:Nat)(c:a<10000000000)(s:ap):ft a s=(match pD s with
  |some v=>dC<|v<=a
  |none=>ak):=by
 rw[ft,QB c];cases pD s with
 |none=>rfl
 |some v=>by_cases b:v<=a<;>simp[b]
def IQ(a:Nat)(c:a<10000000000)(s:ap)(v:Nat)(b:pD s=ae v)(d:v<=a):jF a s=v:=by rw[jF,QB c,b];simp[d]
def Ng(h:φ:=by have hf:ao (pD s=af):=bV λh=>G;go_wp2;go_ret2;exact bd (wz hf) U):φ:=h
def MC(h:φ:=by have hn:ao (pD s=af):=by{rw[ao,hf,<-HD,HC,mh,bV (by unfold pF;simp;omega)]};go_wp2;go_ret2;exact bd (wz hn) U):φ:=h
def xv(s:ap)(c:Nat)(o:aQ)(ad:E s<=1000000)(u:c<10000000000):a_ aL 91 #[aS s,M c] o λI X=>(∃v:Nat,I=bh (bZ #[M v,aG<|ft c s])/\(ft c s=aD->v=jF c s))/\X=o:=by
 have:=cV s;have p:=O<|Ej c u s;have B:=O<|IQ c u s;have y:pD s=af->∃v:Nat,bh (bZ #[M 0,aG ak])=bh (bZ #[M v,aG<|ft c s])/\(ft c s=aD->v=jF c s):=λh=>by{have d:=p;rw[h]at d;refine⟨0,by rw[d];rfl,λt=>?_⟩;rw[d]at t;cases t};have wz:=O y;clear y;by_cases aj:(E s:Int)<1;{exact Ng};by_cases al:10<(E s:Int);{exact Ng};have N:0<E s:=G;let⟨e,l⟩:=bm<|s[0];have K:∀h:0<b7 (D s),(D s)[0]=e:=λh=>b5 l;have i:s.head? = ae e:=by rw[l,List.head?_eq_getElem?,fs N]
 by_cases z:(bg e:Int)=48/\1<(E s:Int);{have hf:ao (pD s=af):=bV λh=>h.2.2 ⟨i▸eQ ae (wK.1 (by show bg e=48;omega)),G⟩;clear i l;go_wp2;go_ret2;exact bd (wz hf) U};have hf:ao (pD s=mh 0 s):=b8 ⟨G,G,λh=>z ⟨by{
 have g:=h.1;rw[i]at g;have:e=48:=by simpa using g
 rw[this];rfl},G⟩⟩
 have Z:((bg e:Int)=48/\(E s:Int)<=1)\/¬(bg e:Int)=48:=G;clear z i l;rcases Z with⟨Y,ah⟩|Y;all_goals(
 go_wp2;go_loopw [6,7] (λW T wr=>∃a m:Nat,a<=E s/\T=M a/\W=M m/\m<10^a/\mh m (bi a s)=mh 0 s/\wr=o) λ_ Q _=>E s-cM (intOf Q);·exact⟨0,0,dJ _,U,U,ax,by rw[pW],U⟩
 ·(
 obtain⟨a,m,ac,rfl,rfl,w,q,rfl⟩:=hrel;have C:10^a<=10^10:=Df G G;have F:(10:Nat)^10=10000000000:=U;have:m<10000000000:=G;clear C F;have HD:=O q;have A:=O w;clear q w K;by_cases P:a<E s;{
 have R:(a:Int)<E s:=G;let⟨b,n⟩:=bm<|s[a];have:∀h:a<b7 (D s),(D s)[a]=b:=λh=>b5 n;have HC:ao (bi a s=b::bi (a+1) s):=by rw[ao,n];exact jM P
 clear n;by_cases bG:(bg b:Int)<48;{exact MC};by_cases ab:57<(bg b:Int);{exact MC};have aa:ch.wrap ((bg b:Int)-48)=((bg b-48:Nat):Int):=by rw[ur];omega
 have H:ao (mh (10*m+(bg b-48)) (bi (a+1) s)=mh 0 s):=by{rw[ao,<-HD,HC,mh,b8 (by unfold pF;simp;omega)]};have L:ao (10*m+(bg b-48)<10^(a+1)):=by{have:=V A;rw[ao,Nat.pow_succ];omega};have j:ao ((10:Int)*(m:Int)+((bg b:Int)-48)=((10*m+(bg b-48):Nat):Int)):=by rw[ao];omega
 go_wp2;refine⟨⟨a+1,10*m+(bg b-48),G,dd,?_,L,H,E4⟩,dz⟩;first|exact eQ (Value.int .i64) j|exact eQ (Value.int .i64) G|(rw[<-j])|trace_state};{have R:¬(a:Int)<s.length:=G;have S:a=E s:=G;have k:pD s=ae m:=by{have:=HD;rw[S,tl]at this;rw[hf,<-this];rfl};have:=O k;have d:=p;rw[k]at d;have x:=B m k;have r:=O d;have j:=O x;clear d x k;go_wp2;all_goals(go_ret2;refine⟨⟨m,by rw[r];first|rfl|simp[*],λh=>?_⟩,U⟩;have g:=r;rw[h]at g;exact(j<|by simpa using b5 g).symm)}))
def Wm(s:ap)(a:aQ):a_ aL 90 #[aS s] a λb c=>b=bh (M<|ii s)/\c=a:=by go_wp2;all_goals(go_ret;refine bd (wQ ?_) U;unfold ii;simp only[gC,o8,iE,ju,ne_eq]at*;simp[*])
def qR(c:Bool)(b:Nat)(a:ap):Bool:=kr a||(b==0&&a==[42]&&c)
def k9(b:Bool):Nat->List ap->Bool
 |_,[]=>aD
 |a,c::d=>qR b a c&&k9 b (a+1) d
def QE(b e):∀(c:List ap) (a:Nat),k9 b a (c++[e])=(k9 b a c&&qR b (a+E c) e)
 |[],a=>by simp[k9]
 |g::d,a=>by rw[fN,k9,QE b e d<|a+1,k9,dW,Bool.and_assoc,show a+1+E d=a+(E d+1) by omega]
def P2(d):∀(c:List ap) (a b:Nat) (e:b<E c),qR d (a+b) c[b]=ak->k9 d a c=ak
 |e::g,a,0,_,h=>by rw[k9];grind
 |e::g,a,b+1,i,h=>by rw[k9,P2 d g (a+1) b (by grind)<|by grind,DC]
def hO(a:Bool)(s:ap):Option (List ap):=if E s<=60/\k9 a 0 (I 46 s)=aD then ae (I 46 s)else af
def gR(d:aQ)(b ay:Nat)(c:List ap):Prop:=b<J d.1/\∀a (e:a<E c),aA d (N b<|ay+a)=ae (am<|D c[a])
def gR.below{ay}(b:gR m n ay F)(d:cv (J m.1) m u):gR u n ay F:=
 ⟨eA b.1 d.4,λe i=>(d.cell (p:=⟨n,ay+e,af⟩) b.1).trans (b.2 e i)⟩
def fG(d:aQ)(v:bk)(a:List ap):Prop:=∃c ay b,v=bL c ay (E a) b/\E a<=b/\gR d c ay a
def fG.below(g:fG m e F)(k:cv (J m.1) m u):fG u e F:=by obtain⟨b,ay,d,h,i,j⟩:=g;exact⟨b,ay,d,h,i,j.below k⟩
def sF(v:lX m n e F)(p:F≠[]):∃a c,e=bL a 0 (E F) c/\E F<=c/\n<=a/\gR m a 0 F:=by have i:=v.1;obtain⟨_,⟨_,q⟩|⟨a,c,o,rfl,j,h,k,_⟩⟩:=v.1;{grind};{refine⟨a,c,U,k,j,(dK.1 h).1,λb l=>?_⟩;rw[fM,lG i b G,sG,fs l];rfl}
def pm(g:aQ)(d:Nat)(v:bk)(e:Option<|List ap):Prop:=match e with
 |none=>v=bX
 |some a=>a≠[]/\∃b c,v=bL b 0 (E a) c/\E a<=c/\d<=b/\gR g b 0 a
def IB(a):((D a).toList==[42])=(a==[42]):=by rw[gC];rfl
def yj(s b l)(aa:E s<=2000000):a_ aL 39 #[aS s,aG b] l λA H=>(∃v,A=bh v/\pm H (J l.1) v (hO b s))/\cv (J l.1) l H:=by
 have:=cV s;by_cases an:60<(E s:Int);{have ab:ao (hO b s=af):=bV λk=>G;go_wp2;go_ret;rw[V ab];exact⟨⟨_,U,U⟩,cU _ _⟩};have ah:=O<|y6 s 46 l aa;have:E (I 46 s)<=61:=cd<|nM 46 s
 have u:∀c∈I 46 s,E c<=60:=λc j=>cd<|n6 46 (E s) s bo c j
 have F:ao (∀t,k9 b 0 (I 46 s)=t->hO b s=if t then ae (I 46 s)else af):=λt ap=>by{grind[hO]};have K:=O<|nL 46 s;replace u:=O u;generalize I 46 s=d at*;go_in;go_wp21;refine ah.mono ?_;rintro A al ⟨⟨v,rfl,ac⟩,W⟩;obtain⟨B,R,rfl,S,X,D⟩:=sF ac<|V K;have g:=O<|cj X<|cj D W;have:=D.1;go_wp2;go_loopw [6] (λw wr=>∃a:Nat,a<=E d/\w=M a/\k9 b 0 (be a d)=aD/\wr=al) λw _=>E d-cM (intOf w);·exact⟨0,dJ _,U,U,U⟩
 ·(
 obtain⟨a,Y,rfl,T,rfl⟩:=hrel;have y:=O T;by_cases o:a<E d;{
 have ad:(a:Int)<E d:=G;have L:=O<|g8 o;have⟨c,j⟩:=bm<|d[a];have:E c<=60:=j▸u _ (ei o)
 have aq:bY wr B a (aS c):=by{have:=g.2.1.2 a o;grind};replace j:=O j;have h:=O λN=>Wl c N G;have x:=IB c;have z:ao (qR b a c=aD->k9 b 0 (be (a+1) d)=aD):=λk=>by{rw[V L,QE,V y,iv,ro Y,fM,<-V j,k];rfl};have P:ao (qR b a c=ak->hO b s=af):=λk=>by{have:=P2 b d 0 a o (by rw[fM,<-V j];exact k);rw[V F ak this];rfl};have n:ao (qR b a c=(kr c||(a==0&&c==[42]&&b))):=U;cases q:kr c;{rw[q]at h n;replace q:=O q;have r:ao ((a==0&&c==[42]&&b)=ak->∃v,bh (bX)=bh v/\pm wr (J l.1) v (hO b s)):=λk=>by{rw[V P (by rw[V n,k];rfl)];exact⟨_,U,U⟩};by_cases Z:a=0;{subst Z;cases e:(c==[42]);{rw[e]at x;replace e:=O e;go_wp21;refine(h _).m ?_;rintro p rfl;go_wp2;go_ret;exact⟨V r (by rw[V e];rfl),g.2.2⟩};{rw[e]at x;replace e:=O e;cases b;{go_wp21;refine(h _).m ?_;rintro p rfl;go_wp2;go_ret;exact bd (V r ax) g.2.2};{have i:=V z (by rw[V n,V e];rfl);replace i:=O i;go_wp21;refine(h _).m ?_;rintro p rfl;go_wp2;exact bd (⟨0+1,G,dl,i,ax⟩) dz}}};{have:0<(a:Int):=G;go_wp21;refine(h _).m ?_;rintro p rfl;go_wp2;go_ret;exact⟨V r<|by simp_all,g.2.2⟩}};{rw[q]at h n;have i:=V z fi;replace i:=O i;go_wp21;refine(h _).m ?_;rintro p rfl;go_wp2;exact bd (⟨a+1,G,dl,i,ax⟩) dz}};{have ad:¬(a:Int)<E d:=G;have aj:a=E d:=G;have C:=V y;rw[aj,jc]at C;have Q:=O<|F aD C;go_wp2;go_ret;rw[V Q];exact bd (⟨_,U,K,B,R,U,S,g.1,g.2.1⟩) g.2.2})
def P3(a b):((D a).toList==(D b).toList)=(a==b):=by rw[gC,gC];rfl
def V9{c:List ap}(e:n<E F)(g:n<E c)(d:be n F=be n c)(h:F[n]=c[n]):be (n+1) F=be (n+1) c:=by rw[g8 e,g8 g,d,h]
def rQ{t c}(C:fG m e F)(D:fG m t c)(X:E F<=1000)(Y:E c<=1000):a_ aL 93 #[e,t] m (cI (aG<|dC<|F=c) m):=by
 obtain⟨Q,ay,N,rfl,S,L⟩:=C;obtain⟨R,Z,P,rfl,T,x⟩:=D;by_cases b:E F=E c;{
 have y:((E F:Int) != (E c:Int))=ak:=by grind
 have K:=O L;have I:=O x;have:=O b;go_wp2;go_loopw [5] (λo wr=>∃a:Nat,a<=E F/\o=M a/\be a F=be a c/\a6 m wr) λo _=>E F-cM (fj o);·exact⟨0,dJ _,U,U,cU _ _⟩
 ·(
 obtain⟨a,W,rfl,k,g⟩:=hrel;have B:=O k;have i:=O g;by_cases q:a<E F;{
 have H:(a:Int)<E F:=G;have r:a<E c:=by grind
 have:(a:Int)<E c:=G;have bG:=(K.below g).2 a q;have A:=(I.below g).2 a r;have⟨u,l⟩:=bm<|F[a];have⟨w,n⟩:=bm<|c[a];rw[<-l]at bG;rw[<-n]at A;have p:=P3 u w;have h:=O<|cj l n;clear l n k g;cases d:(u==w);{rw[d]at p;replace d:=O d;go_wp2;go_quiet (fail);go_wp2;go_ret;refine⟨e_ ?_,jn (V i) nq⟩;rw[fI];rintro rfl;have j:=V d;rw[h.1,h.2]at j;grind};{rw[d]at p;replace d:=O d;go_wp2;go_quiet (fail);go_wp2;refine bd (⟨a+1,G,dd,V9 q r (V B) ?_,jn (V i) nq⟩) dz;have j:=V d;rw[h.1,h.2]at j;grind}};{have H:¬(a:Int)<E F:=G;have:a=E F:=G;have z:ao (F=c):=by{grind};clear k g;go_wp2;go_ret;exact⟨e_<|by rw[lx<|V z],i⟩})};{
 have y:((E F:Int) != (E c:Int))=aD:=by grind
 go_wp2;go_ret;exact⟨e_<|by grind,cU _ _⟩}
def lR(a b:List ap):Bool:=dC (E b<=E a)&&dC (bi (E a-E b) a=b)
def En{ay cap}(d:gR m n ay F)(i:E F<=cap)(a)(j:a<=E F):fG m (bL n (ay+a) (E F-a)<|cap-a) (bi a F):=by refine⟨n,ay+a,cap-a,ax,by grind,d.1,λh g=>?_⟩;rw[il]at g;rw[pL,d.2 (a+h) G,yQ]
def Eo{l b}(q:fG m e F)(j:fG m l b)(A:E F<=1000)(u:E b<=1000)(B:0<E b):a_ aL 95 #[e,l] m (cI (aG<|lR F b) m):=by
 have o:=O j;obtain⟨x,ay,p,rfl,t,c⟩:=q;obtain⟨y,C,w,rfl,z,_⟩:=j;have:=c.1;by_cases k:E b<=E F;{
 have n:¬(E F:Int)<E b:=G;have g:=O<|rQ (En c t (E F-E b) G) o (by grind) u;have h:ao (lR F b=dC (bi (E F-E b) F=b)):=by rw[lR,ao,lx k];rfl
 let⟨d,i⟩:=bm<|E F-E b;rw[<-i]at g h;have:(E F:Int)-E b=d:=G;have:d<=E F:=G;clear c i k;go_in;let:¬p=d:=G;go_wp2_with fail;refine g.m λD r=>?_;go_wp2;go_ret;exact bd (e_<|b5 h) r};{let n:(E F:Int)<E b:=G;go_wp2;go_ret;exact⟨e_<|by grind[lR],cU _ _⟩}
def jZ:List ap->ap
 |[]=>[]
 |[a]=>a
 |a::c::b=>a++46::jZ (c::b)
def Cs(a):jZ (I 46 a)=a:=by
 have l:∀(e:Nat) (a:ap),E a<=e->jZ (I 46 a)=a:=by{
 intro e;induction e with
 |zero=>intro a i;obtain rfl:a=[]:=hq G;rfl
 |succ e k=>{
 intro a i;cases a with
 |nil=>rfl
 |cons p c=>{
 have b:=k c (by grind);unfold I;split;{
 rename_i j;subst j;let o:=nL 46 c;cases d:I 46 c with
 |nil=>grind
 |cons h g=>{rw[d]at b;rw[jZ,b];rfl}};{
 cases d:I 46 c with
 |nil=>exact absurd d<|nL 46 c
 |cons h g=>{
 rw[d]at b;cases g with
 |nil=>simp only[jZ]at b⊢;rw[b]
 |cons n g=>simp only[jZ]at b⊢;grind}}}}};exact l (E a) a bo
def P4:∀(b:List ap) (a:Nat),k9 aD a b=pN a b
 |[],_=>U
 |d::c,a=>by rw[k9,pN,P4 c<|a+1];unfold qR sR;rw[DD]
def P5:∀(b:List ap) (a:Nat),k9 ak a b=b.all kr
 |[],_=>U
 |d::c,a=>by rw[k9,P5 c<|a+1];unfold qR;rw[DC,Ix,uO]
def P6:∀(b:List ap) (a:Nat),0<a->pN a b=b.all kr
 |[],_,_=>U
 |d::c,a,aO=>by rw[pN,P6 c (a+1) G,uO];unfold sR;rw[show(a==0)=ak by simp;omega];simp
def Bx(s:ap):(hO aD s).isSome=jh s:=by rw[hO,jh,P4];by_cases a:E s<=60<;>cases b:pN 0 (I 46 s)<;>simp[a]
def DX(c:I 46 h=d::F)(b:d≠[]):h.head? = d.head?:=by
 have:=Cs h;rw[c]at this;rw[<-this];cases F with
 |nil=>rfl
 |cons e F=>{
 rw[jZ];cases d with
 |nil=>exact absurd U b
 |cons s g=>rfl}
def rp(s:ap):(hO ak s).isSome=eL s:=by
 rw[hO,eL,jh,oZ,Lib.hasPrefix,P5];by_cases g:E s<=60;{
 have j:=nL 46 s;cases d:I 46 s with
 |nil=>exact absurd d j
 |cons a i=>{
 rw[pN,P6 i 1 G,uO];unfold sR;cases b:kr a;{
 simp only[uM,wy];by_cases e:a=[42];{
 have:=DX d (by rw[e];simp);rw[e]at this;have c:([42]:ap).isPrefixOf s=aD:=by{
 cases s with
 |nil=>simp at this
 |cons n l=>simp at this;subst this;simp[List.isPrefixOf]};rw[c];simp};{rw[show(a==[42])=ak by simpa using e];simp}};{
 have c:([42]:ap).isPrefixOf s=ak:=by{
 have h:a≠[]:=by rintro rfl;simp[kr]at b
 have:=DX d h;cases a with
 |nil=>exact absurd U h
 |cons n l=>{
 cases s with
 |nil=>rfl
 |cons o p=>{
 simp at this;subst this;simp only[kr,e9,uO]at b;have k:=b.2.1;have:o≠42:=by rintro rfl;revert k;decide
 simp[List.isPrefixOf,Ne.symm this]}}};rw[c];cases i.all kr<;>simp[g]}}};{simp[g]}
def DY(s:ap)(e:aQ)(n:E s<=1000000):a_ aL 39 #[aS s,aG ak] e λc h=>((eL s=aD/\∃d l i,c=bh (bL d 0 l i))\/(eL s=ak/\c=bh (bX)))/\a6 e h:=by
 refine(yj s ak e G).mono ?_;rintro c h ⟨⟨v,rfl,b⟩,k⟩;refine bd ?_ k;have a:=rp s;cases g:hO ak s with
 |none=>{rw[g]at b a;obtain rfl:v=bX:=b;exact bE<|bd (b5 a) U}
 |some o=>{rw[g]at b a;obtain⟨_,d,j,rfl,_⟩:=b;exact bJ ⟨b5 a,d,_,j,U⟩}
def DZ(f:ap->Bool):List ap->Bool
 |[a]=>f a
 |_=>ak
def P7(f c:ap->Bool):List ap->Bool
 |[a,b]=>f a&&c b
 |_=>ak
def P8(f:ap->ap->ap->ap->Bool):List ap->Bool
 |[a,b,c,d]=>f a b c d
 |_=>ak
def OB{f:ap->Bool}(a:E F≠1):DZ f F=ak:=by
 match F,a with
 |[],_=>rfl
 |[c],a=>exact absurd U a
 |c::e::d,_=>rfl
def V_{f d:ap->Bool}(a:E F≠2):P7 f d F=ak:=by
 match F,a with
 |[],_=>rfl
 |[c],_=>rfl
 |[c,e],a=>exact absurd U a
 |c::e::h::g,_=>rfl
def Wa{f:ap->ap->ap->ap->Bool}(b:E F≠4):P8 f F=ak:=by
 match F,b with
 |[],_=>rfl
 |[a],_=>rfl
 |[a,d],_=>rfl
 |[a,d,e],_=>rfl
 |[a,d,e,g],b=>exact absurd U b
 |a::d::e::g::v::h,_=>rfl
def Wb(c:j=2\/j=5)(b:List ap):et j b=DZ eL b:=by
 rcases c with rfl|rfl;all_goals(
 match b with
 |[]=>rfl
 |[d]=>rfl
 |d::g::e=>rfl)
def Wc(a:List ap):et 1 a=DZ tP a:=by
 match a with
 |[]=>rfl
 |[b]=>rfl
 |b::d::c=>rfl
def Wd(a:List ap):et 16 a=DZ oe a:=by
 match a with
 |[]=>rfl
 |[b]=>rfl
 |b::d::c=>rfl
def We(a:List ap):et 15 a=P7 (ft 65535) eL a:=by
 match a with
 |[]=>rfl
 |[b]=>rfl
 |[b,c]=>rfl
 |b::c::e::d=>rfl
def Wf(b:List ap):et 6 b=P8 (λe g h i=>eL e&&eL g&&ft 4294967295 h&&ft 86400 i) b:=by
 match b with
 |[]=>rfl
 |[a]=>rfl
 |[a,c]=>rfl
 |[a,c,d]=>rfl
 |[a,c,d,j]=>rfl
 |a::c::d::j::v::k=>rfl
def qS{ay:Nat}(g:gR m n ay F)(a:Nat)(i:F[a]? = ae d):aA m (N n<|ay+a)=ae (aS d):=by obtain⟨h,rfl⟩:=iW.1 i;exact g.2 a h
def MN(h:φ:=by replace hp:=O hp;go_wp2;go_ret;exact⟨e_<|HD▸b5 hp,hb1⟩):φ:=h
def P9(e:j=2\/j=5){h ay:Nat}(p:gR m h ay F)(y:E F<=3001)(q:E F<=n)(t:∀b∈F,E b<=3000):a_ aL 92 #[M j,bL h ay (E F) n] m (cI (aG<|et j F) m):=by
 let k:=O p;let l:=O t;let HD:=O<|Wb e F;by_cases i:E F=1;{
 obtain⟨b,rfl⟩:∃b,F=[b]:=by{
 match F,i with
 |[b],_=>exact⟨b,U⟩};have o:=qS k 0 U;rw[h8]at o;let a:=O<|DY b m<|cd<|V l b ax;let r:E ([b]:List ap)=1:=U;rw[r]at q⊢;rcases e with rfl|rfl;all_goals(go_in;go_wp21;refine a.mono ?_;rintro w A ⟨⟨hp,x,z,u,rfl⟩|⟨hp,rfl⟩,hb1⟩;{exact MN};{exact MN})};{
 let B:((E F:Int)==1)=ak:=iQ
 let d:=O<|cQ HD<|OB i;rcases e with rfl|rfl;all_goals(go_wp2;go_ret;exact⟨e_<|b5 d,cU _ _⟩)}
def Nu(h:φ:=by replace hp:=O hp;go_wp2;go_ret;exact⟨e_ (by rw[qx,hn,hp];rfl),hb2⟩):φ:=h
def Wg{ay:Nat}(k:gR m n ay F)(A:E F<=3001)(t:E F<=v)(w:∀a∈F,E a<=3000):a_ aL 92 #[M 15,bL n ay (E F) v] m (cI (aG<|et 15 F) m):=by
 let:=k.1;let e:=O k;let h:=O w;let g:=O<|We F;by_cases l:E F=2;{
 obtain⟨a,c,rfl⟩:∃a c,F=[a,c]:=by{
 match F,l with
 |[a,c],_=>exact⟨a,c,U⟩};have p:=qS e 0 U;let:=qS e 1 U;rw[h8]at p;let o:=O<|DY c m<|cd<|V h c ax;let q:=O<|xv a 65535 m (cd<|V h a ax) G;let u:E ([a,c]:List ap)=2:=U;rw[u]at t⊢;let qx:ao (et 15 [a,c]=(ft 65535 a&&eL c)):=g;go_in;go_wp21;refine q.mono ?_;rintro r C ⟨⟨b,rfl,_⟩,x⟩;subst x;cases hn:ft 65535 a;{replace hn:=O hn;go_wp2;go_ret;exact⟨e_ (by rw[qx,hn];rfl),cU _ _⟩};{replace hn:=O hn;go_wp21;refine o.mono ?_;rintro r D ⟨⟨hp,z,B,y,rfl⟩|⟨hp,rfl⟩,hb2⟩;{exact Nu};{exact Nu}}};{
 let i:((E F:Int) != 2)=aD:=CE
 let d:=O<|cQ g<|V_ l;go_wp2;go_ret;exact⟨e_<|b5 d,cU _ _⟩}
def NS(h:φ:=by replace hp:=O hp;go_wp2;go_ret;exact⟨e_ (by rw[qx,amJ,amK,tD,hp];rfl),bC hb2<|bN hb3 hb2.4⟩):φ:=h
def Wh{ay:Nat}(t:gR m n ay F)(S:E F<=3001)(B:E F<=v)(r:∀b∈F,E b<=3000):a_ aL 92 #[M 6,bL n ay (E F) v] m (cI (aG<|et 6 F) m):=by
 let C:=t.1;let h:=O t;let i:=O r;let q:=O<|Wf F;by_cases u:E F=4;{
 obtain⟨b,e,d,c,rfl⟩:∃b e d c,F=[b,e,d,c]:=by{
 match F,u with
 |[b,e,d,c],_=>exact⟨b,e,d,c,U⟩};have A:=qS h 0 U;let bG:=qS h 1 U;let:=qS h 2 U;let:=qS h 3 U;rw[h8]at A;let y:=O<|DY b m<|cd<|V i b ax;let w:=O λz=>DY e z<|cd<|V i e ax;let H:=O<|xv d 4294967295 m (cd<|V i d ax) G;let L:=O<|xv c 86400 m (cd<|V i c ax) G;let D:E ([b,e,d,c]:List ap)=4:=U;rw[D]at B⊢;let qx:ao (et 6 [b,e,d,c]=(eL b&&eL e&&ft 4294967295 d&&ft 86400 c)):=q;go_in;go_wp21;refine H.mono ?_;rintro k K ⟨⟨a,rfl,_⟩,g⟩;subst g;go_wp21;refine L.mono ?_;rintro k K ⟨⟨X,rfl,_⟩,g⟩;subst g;cases j:ft 4294967295 d;{replace j:=O j;go_wp2;go_ret;exact⟨e_ (by rw[qx,j];simp),cU _ _⟩};cases o:ft 86400 c;{let I:=O o;go_wp2;go_ret;exact⟨e_ (by rw[qx,I];simp),cU _ _⟩};let amJ:=O j;let amK:=O o;go_wp21;refine y.mono ?_;rintro k Y ⟨⟨hp,Q,T,N,rfl⟩|⟨hp,rfl⟩,hb2⟩;{let tD:=O hp;let:=(hb2.cell (p:=⟨n,ay+1,af⟩) C).trans bG;go_wp21;refine(w _).mono ?_;rintro k Z ⟨⟨hp,R,W,P,rfl⟩|⟨hp,rfl⟩,hb3⟩;{exact NS};{exact NS}};{replace hp:=O hp;go_wp2;go_ret;exact⟨e_ (by rw[qx,hp];rfl),hb2⟩}};{
 let aa:((E F:Int) != 4)=aD:=CE
 let x:=O<|cQ q<|Wa u;go_wp2;go_ret;exact⟨e_<|b5 x,cU _ _⟩}
def Wz(a:UInt8):(tK (bg a)=aD/\33<=(bg a:Int)/\(bg a:Int)<=126)\/(tK (bg a)=ak/\((bg a:Int)<33\/126<(bg a:Int))):=by unfold tK;by_cases b:33<=(bg a:Int)/\(bg a:Int)<=126;{left;exact bd ct b};{right;refine bd ?_ G;rw[yN,Bl,Bl];omega}
def L3(h:φ:=by
 have bn:ao (oe x=ak):=by rw[oe,ao];simp;omega
 go_wp2;go_ret;exact⟨e_<|by rw[V qx,V bn],cU _ _⟩):φ:=h
def ME(h:φ:=by
 have wu:((E ls:Int) != 1)=aD:=by rw[yC];omega
 have EB:=O<|cQ HD<|OB h1;go_wp2;go_ret;exact⟨e_<|b5 EB,cU _ _⟩):φ:=h
def Xm{ay:Nat}{ls:List ap}(b:gR m n ay ls)(C:E ls<=3001)(t:E ls<=v)(y:∀x∈ls,E x<=3000):a_ aL 92 #[M 16,bL n ay (E ls) v] m (cI (aG<|et 16 ls) m):=by
 have:=b.1;have o:=O b;have p:=O y;have HD:=O<|Wd ls;by_cases h1:E ls=1;{
 obtain⟨x,rfl⟩:∃x,ls=[x]:=by{
 match ls,h1 with
 |[x],_=>exact⟨x,U⟩};have r:=qS (V o) 0 U;rw[h8]at r;have:=V p x ax;have:=cV x;have u:E ([x]:List ap)=1:=U;rw[u]at t⊢;have qx:ao (et 16 [x]=oe x):=V HD;by_cases F:(E x:Int)<1;{
 exact L3};by_cases H:40<(E x:Int);{
 exact L3};go_wp2;go_loopw [11] (λi wr=>∃a:Nat,a<=E x/\i=M a/\(be a x).all (λh=>tK<|bg h)=aD/\wr=m) λi _=>E x-cM (fj i);·exact⟨0,dJ _,U,U,U⟩
 ·(obtain⟨a,B,rfl,e,rfl⟩:=hrel;replace e:=O e;by_cases l:a<E x;{have z:(a:Int)<E x:=G;have q:=O<|QA l;have⟨g,d⟩:=bm<|x[a];have:∀b:a<b7 (D x),(D x)[a]=g:=λb=>b5 d;replace d:=O d;rcases Wz g with⟨c,b⟩|⟨c,b⟩;{replace c:=O c;go_wp2;exact⟨⟨a+1,G,dd,by rw[V q,wC,V e,<-V d];simp[V c],E4⟩,dz⟩};{replace c:=O c;have bn:ao (oe x=ak):=by{have w:=ei l;rw[ao];unfold oe;have:x.all (λh=>tK<|bg h)=ak:=by{rw[AW];exact⟨_,w,by rw[<-V d,V c];simp⟩};rw[this];rfl};rcases b with b|b;all_goals(go_wp2;go_ret;exact⟨e_<|by rw[V qx,V bn],cU _ _⟩)}};{have z:¬(a:Int)<E x:=G;have A:a=E x:=G;have bn:ao (oe x=aD):=by{have:=V e;rw[A,jc]at this;rw[ao];rw[oe,this];simp;omega};go_wp2;go_ret;exact⟨e_<|by rw[V qx,V bn],cU _ _⟩})};{
 exact ME}
def Xn{ay:Nat}{ls:List ap}(L:gR m n ay ls)(aj:E ls<=3001)(P:E ls<=v)(S:∀a∈ls,E a<=3000):a_ aL 92 #[M 1,bL n ay (E ls) v] m (cI (aG<|et 1 ls) m):=by
 have x:=O L;have y:=O S;have HD:=O<|Wc ls;by_cases h1:E ls=1;{
 obtain⟨a,rfl⟩:∃a,ls=[a]:=by{
 match ls,h1 with
 |[a],_=>exact⟨a,U⟩};have F:=qS (V x) 0 U;rw[h8]at F;have:=V y a ax;have X:ao (a_ aL 38 #[aS a,ag ch 46] m λg w=>(∃p,g=bh p/\lX w (J m.1) p (I 46 a))/\a6 m w):=y6 a 46 m G;have:E (I 46 a)<=3001:=cd<|nM 46 a
 have ab:ao (∀e∈I 46 a,E e<=3000):=λe d=>cd<|n6 46 (E a) a bo e d
 have aa:=O<|nL 46 a;have Q:E ([a]:List ap)=1:=U;rw[Q]at P⊢;have u:ao (et 1 [a]=((I 46 a).all (ft 255)&&E (I 46 a)==4)):=V HD;generalize I 46 a=b at*;go_in;go_wp21;refine X.mono ?_;rintro g Z ⟨⟨p,rfl,R⟩,N⟩;obtain⟨K,ad,rfl,ac,_,t⟩:=sF R<|V aa;have A:=O t;have l:=O N;have:=t.1;go_wp2;go_loopw [13] (λo wr=>∃c:Nat,c<=E b/\o=M c/\(be c b).all (ft 255)=aD/\wr=Z) λo _=>E b-cM (fj o);·exact Hm
 ·(
 obtain⟨c,ah,rfl,j,rfl⟩:=hrel;replace j:=O j;by_cases k:c<E b;{
 have W:(c:Int)<E b:=G;have z:=O<|g8 k;have⟨e,d⟩:=bm<|b[c];have bG:bY wr K c (aS e):=by{have:=A.2 c k;rw[fM]at this;rw[d];exact this};have:E e<=3000:=d▸ab _ (ei k)
 have H:=O λD=>xv e 255 D G G;replace d:=O d;go_wp21;refine(H _).mono ?_;rintro g al ⟨⟨p,rfl,_⟩,T⟩;subst T;cases r:ft 255 e;{have i:ao (et 1 [a]=ak):=by{rw[ao,V u];have:b.all (ft 255)=ak:=by{rw[AW];exact⟨b[c],ei k,by rw[<-V d,r];simp⟩};rw[this];rfl};go_wp2;go_ret;exact⟨e_<|b5 i,l⟩};{
 have C:ao ((be (c+1) b).all (ft 255)=aD):=by rw[ao,V z,wC,V j,<-V d];simp[r]
 go_wp2;exact⟨⟨c+1,G,dd,C,E4⟩,dz⟩}};{
 have W:¬(c:Int)<E b:=G;have Y:c=E b:=G;have i:ao (et 1 [a]=(E b==4)):=by{have:=V j;rw[Y,jc]at this;rw[ao,V u,this];rfl};by_cases h:E b=4;{
 have B:((E b:Int)==4)=aD:=yv
 replace h:=O h;go_wp2;go_ret;exact⟨e_ (by rw[V i,V h];rfl),l⟩};{
 have B:((E b:Int)==4)=ak:=iQ
 replace h:=O h;go_wp2;go_ret;exact⟨e_<|(V i)▸b5 (ju.2<|V h),l⟩}})};{
 exact ME}
def P_(a:ap):ii a=0\/ii a=1\/ii a=2\/ii a=5\/ii a=6\/ii a=15\/ii a=16:=by unfold ii;split;{simp};split;{simp};split;{simp};split;{simp};split;{simp};split;{simp};{simp}
def Xo(i:0<ii h){ay:Nat}(j:Nat)(b:gR m n ay F)(d:E F<=3001)(c:E F<=j)(e:∀l∈F,E l<=3000):a_ aL 92 #[M<|ii h,bL n ay (E F) j] m (cI (aG<|et (ii h) F) m):=by rcases P_ h with a|a|a|a|a|a|a;{omega};{rw[a];exact Xn b d c e};{rw[a];exact P9 (bJ U) b d c e};{rw[a];exact P9 (bE U) b d c e};{rw[a];exact Wh b d c e};{rw[a];exact Wg b d c e};{rw[a];exact Xm b d c e}
def Xp:et 0 F=ak:=by unfold et;rw[bV bW,bV bW,bV bW,bV bW,bV bW]
def Ed(a:aQ)(b c:Nat)(d:aK):Prop:=∃g e,aA a (N b c)=ae g/\aA a (N b<|c+1)=ae (M d.aP)/\aA a (N b<|c+2)=ae (M d.type)/\aA a (N b<|c+3)=ae (aS d.data)/\aA a (N b<|c+4)=ae e/\fG a g (I 46 d.owner)/\fG a e (I 32 d.data)
def Ed.below{i j}(c:Ed m v i j)(e:a6 m u):Ed u v i j:=by let⟨h,k,l,n,o,p,q,r,t⟩:=c;let a:∀(b:Addr) (g:bk),aA m b=ae g->aA u b=ae g:=λb g c=>(e.cell<|g_ m b c).trans c;exact⟨h,k,a _ _ l,a _ _ n,a _ _ o,a _ _ p,a _ _ q,r.below e,t.below e⟩
def tm(d:aQ)(c ay:Nat)(b:List aK):Prop:=∀a (e:a<E b),Ed d c (ay+a*5) b[a]
def tm.below{ay}(e:tm m n ay p)(g:a6 m u):tm u n ay p:=λi h=>(e i h).below g
def lu(b:aQ)(h:Nat)(g:ap)(a:List aK):Prop:=∃e c ay d,b.1[h]? = ae (aZ #[e,aE (ae ⟨c,ay,af⟩) (E a) d] 96)/\fG b e (I 46 g)/\E a<=d/\tm b c ay a
def lu.below(k:lu m v d p)(a:a6 m u):lu u v d p:=by let⟨e,i,ay,j,c,l,n,o⟩:=k;exact⟨e,i,ay,j,(a.5 v (dK.1 c).1).trans c,l.below a,n,o.below a⟩
def tH(b:ap)(a:List aK):Prop:=E b<=900/\E a<=3001/\∀c∈a,E c.owner<=900
def nD(a:E d<=900):E (I 46 d)<=1000:=cd<|nM 46 d
def uK(s):0<E (I 46 s):=by let:=nL 46 s;grind
def i7(d:List aK)(c:List ap)(b:Int):Bool:=d.any λa=>dC (I 46 a.owner=c)&&(b==255||a.type==b)
def Rg{c}(d:n<E p)(e:(be n p).any c=ak)(g:c p[n]=ak):(be (n+1) p).any c=ak:=by rw[g8 d,List.any_append,e];grind
def MM(h:φ:=by let bj:=O (C7<|by simp_all);go_wp2;go_ret;exact bd (e_<|b5 bj) bM):φ:=h
def L9(h:φ:=by let bj:=O (tk<|by simp_all);go_wp2;exact bd (⟨k+1,G,dd,bj,bM⟩) dz):φ:=h
def Ee(b)(S:lu m n d p)(r:tH d p)(R:fG m e F)(K:E F<=1000):a_ aL 94 #[bv n,e,M b] m (cI (aG<|i7 p F b) m):=by
 have B:=O R;let⟨ah,o,ay,u,x,al,an,Y⟩:=S;have T:=(dK.1 x).1;have C:=O Y;have z:=O x;have:=r.2.1;have D:=O r;go_wp2;go_loopw [7] (λc wr=>∃k:Nat,k<=E p/\c=M k/\(be k p).any (λw=>dC (I 46 w.owner=F)&&(b==255||w.type==b))=ak/\a6 m wr) λc _=>E p-cM (fj c);·exact⟨0,dJ _,U,U,cU _ _⟩
 ·(obtain⟨k,ab,rfl,t,h⟩:=hrel;have X:=O t;have j:=O h;have y:aA wr (N n 1)=ae (bL o ay (E p) u):=by{have:=(h.5 n T).trans z;unfold aA;grind};by_cases i:k<E p;{have V:(k:Int)<E p:=G;let⟨ad,rw',Z,bG,q,aa,cB,fe,fJ⟩:=(C k i).below h;have L:=D.2.2 p[k]<|ei i;have tk:=O<|Rg i t;have C7:ao ((dC (I 46 p[k].owner=F)&&(b==255||p[k].type==b))=aD->i7 p F b=aD):=λH=>ni.2 ⟨p[k],ei i,H⟩;have A:=O<|rQ fe (B.below h) (nD L) K;generalize p[k]=w at*;go_wp21;refine A.m λaj l=>?_;let bM:=O<|bC j<|bN l j.4;have:=(l.cell (p:=⟨n,1,af⟩) (g_ _ _ y)).trans y;have:=(l.cell (p:=⟨o,ay+k*5+2,af⟩) (g_ _ _ q)).trans q;cases P:dC<|I 46 w.owner=F;{exact L9};{rw[P]at C7;cases Q:(b==255);{rw[Q]at C7;cases ac:(w.type==b);{exact L9};{exact MM}};{exact MM}}};{let V:¬(k:Int)<E p:=G;let W:k=E p:=G;let bj:ao (i7 p F b=ak):=by{have:=X;rw[W,jc]at this;exact this};go_wp2;go_ret;exact bd (e_<|b5 bj) j})
section
variable {P:Program} {ops:Array Oper} {Q:Exit->Act->World->Prop} {S:World->Prop}{l:Nat}
def jo(Q:wh->kq->aQ->Prop)(b:wh)(a:kq)(c:aQ):Prop:=b=ky/\Q ky a c
def jo.qC{a b}(c:jo Q a b m)(d:a≠ky):False:=d c.1
def jo.out(a:LetsOut<|jo Q):False:=by let⟨b,c,a⟩:=a;cases a.1
def ZU{j k}(e:∀b m,j b m->k b m){b}(a:wpOp P ops (jo Q) n j b m):wpOpIn e6 0 P ops Q n k b m:=by
 unfold wpOp at a;unfold wpOpIn;split
 ·grind
 ·rename_i u t;simp only[t]at a;split
  ·rename_i g;simp only[g,mM]at a;rcases a with a|⟨_,a⟩
   ·unfold Oper.wp at a;unfold Oper.wpIn;refine⟨λ_ _=>cy,?_⟩;rw[show e6.4=af from U,Oper.semAt_none];generalize (execOp b.eval u).run P m=h at*;cases h with
    | ok i w=>
     cases i<;>simp only[Oper.upon]at a
     all_goals first
      |exact e _ _ a
      |exact a.elim
      | (refine⟨λd=>by simp[e6]at d,callsIn_wide.2<|a.mono λr p c=>?_⟩
         cases r with
         |returned v=>grind
         |panicked l=>exact(jo.qC c ax).elim
         |outgrown=>exact(jo.out c).elim)
      |skip
     exact⟨λd=>by simp[e6]at d,λl q _=>let ⟨v,p,h,s⟩:=a l q;⟨v,p,e _ _ h,stepsIn_wide.2 s⟩⟩
    | halt i w=>
     cases i<;>simp only[Oper.upon]at a
     all_goals first
      |exact(jo.qC a ax).elim
      |exact a.elim
   ·exact(jo.out a).elim
  ·rename_i g;simp only[g]at a;exact⟨λ_ _=>cy,e _ _ a⟩
def R_{e}:∀(b:Nat) (d:Array Bool) (c:kq) (g:aQ),wpAnyH P e ops (jo Q) S b d c g->wpAnyIn e6 0 P e ops Q b d c g
 |0,_,_,_,a=>⟨a.1,a.2.2⟩
 |b+1,_,_,_,a=>⟨λj=>(a.1 j).2,λk aO=>ZU (λh l i=>R_ b _ h l i.2)<|a.2 k aO⟩
def Sa{b}(S)(h:P.follows .mixedOrders=aD)(k:∀(i:Nat) (c:Oper),ops[i]? = ae c->∀d,c.2≠.defer d)(g:S<|bx m)(e:S (bx m)->wpAnyH P .any ops (jo Q) S (J ops) (Array.replicate (J ops) ak) b (bx m)):(Code.region n ops aD).wpIn (e6.inRound l) 0 P Q b m:=
 wU h k (R_ _ _ _ _<|e g)
end
section
open Go.ChangeShapes Go.WideShapes Go.ChangeAt Go.RowKit
section
variable {H:Type}{enc:TypeId×Value->H}
def ae0:ownKnob Tryz.prog.godebug=none:=dl
def ae1(c:m.ShapedOpen aL):dx m:=by have b:∃a,aA m (N 0 0)=ae (M a):=cell_of_shapedOpen_int (zero:=#[M 0]) (t:=3) c (oH b6) b6 U b6 b6 Tryz.underlying3;refine⟨?_,b⟩;let⟨a,e⟩:=b;rcases Nat.eq_zero_or_pos (J m.1) with d|d;{simp[aA,agt<|show J m.1<=0 by omega]at e};omega
end
end
end Go.Proofs.YtkkpahmoljiepabGreatDoor
