import Derived.Test.YtkkpahmoljiepaaGreatDoorJ00
import Derived.Test.YtkkpahmoljiepaaGreatDoorJ0a
import Derived.Test.YtkkpahmoljiepaaGreatDoorRows
import Derived.Test.YtkkpahmoljiepaaGreatDoorShelf
import Derived.Test.YtkkpahmoljiepaaGreatDoorJ0t
import Derived.Test.YtkkpahmoljiepaaGreatDoorJ01
import Derived.Test.YtkkpahmoljiepaaGreatDoorJ0i
import Derived.Deep.RegionHeld
import Derived.ProofKit
import Derived.OpenShut
import Derived.HandedShaped
import Derived.Lay
import Derived.Stop.Joined
import Derived.MakeChecks
set_option maxRecDepth 1000000
set_option maxHeartbeats 12800000
set_option linter.all false
open Array renaming size->U
open Bool renaming false->ao,true->aE
open ByteArray renaming size->cf
open Decidable renaming decide->dQ
open Eq renaming symm->bZ,trans->c_
open Go renaming Act->lJ,Calls->bd,Code->og,Exit->zw,TypeId->d_,Value->bm,World->aQ,callsIn_of_wp_marks->wK,cell_grown->iY,maxLen->hC,results->dr,run_takeDeferred->mI,undef->fv
open Go.CallsIn renaming inRound->jH
open Go.Ending renaming returned->bg
open Go.Exit renaming normal->lV
open Go.Fence renaming wide->fm
open Go.IntKind renaming i64->am,u8->ck
open Go.Lib renaming trimPrefix->pF
open Go.Obj renaming cells->aS,deferred->dq,loop->dR
open Go.Proofs renaming intOf->fJ
open Go.Proofs.Tryz renaming prog->aK
open Go.RowKit renaming Below->cB,Hid->ax
open Go.RowKit.Below renaming alloc->ct,mono->bV,setCell->fk,trans->bN
open Go.Value renaming agg->ci,bool->aG,func->fc,int->ak,slice->aL,string->amz,tuple->bX
open Go.World renaming alloc->aO,alloc_heap_new->du,cell?->aD,drew->bq,drewN->ef,frozen?->io,putObj->eF,putObj_heap_other->kW,putObj_size->zy,setCell->a_
open Int renaming toNat->c7
open List renaming drop->bh,dropWhile->mt,filter->ed,length->E,map->b9,take->amA,takeWhile->iU,toArray->dl
open Option renaming none->ai,some->ag
open Or renaming inl->bG,inr->bE
open UInt8 renaming toNat->be
namespace Go.Proofs.YtkkpahmoljiepaaGreatDoor
open Go.RowKit Go.Proofs.Tryz
variable{d h o:Nat}{m u K:World}{e F:Value}{p:Int}{z:TypeId}{T:ByteArray}
abbrev ap:=List UInt8
variable{n v:ap}
def ae{a}(b:a):Go.RowKit.Hid a:=b
def V{a}(h:Go.RowKit.Hid a):a:=h
def Gq(a:Int):Bool:=(dQ (97<=a)&&dQ (a<=122))||(dQ (48<=a)&&dQ (a<=57))||a==45||a==95
def te(a:UInt8):Bool:=Gq<|be a
def lL(a:ap):Bool:=dQ (1<=E a)&&dQ (E a<=20)&&a.all te
def xf(a:Int):Bool:=dQ (33<=a)&&dQ (a<=126)
def qg(a:ap):Bool:=a.all (λb=>xf<|be b)&&dQ (1<=E a)&&dQ (E a<=40)
def rN(a:Int):Bool:=dQ (48<=a)&&dQ (a<=57)
def oy(c:Nat):Nat->ap->Option Nat
 | a,[]=>ag a
 | a,b::d=>if rN (be b) then(if 10*a+(be b-48)<=c then oy c (10*a+(be b-48)) d else ai)else ai
def rX(d:Nat)(c:ap):Option Nat :=
 match c with
 | []=>ai
 | a::b=>if be a=48/\b≠[]then ai else oy d 0 (a::b)
def i_(a:ap):Int :=
 if a=[65]then 1 else if a=[78,83]then 2 else if a=[67,78,65,77,69]then 5 else if a=[83,79,65]then 6
 else if a=[77,88]then 15 else if a=[84,88,84]then 16 else 0
def RT(b:d<cf T):amA (d+1) T.1.1=amA d T.1.1++[T[d]]:=by rw[iH<|by simp_all];rfl
def RU(b:d<cf T):bh d T.1.1=T[d]::bh (d+1) T.1.1:=by rw[lA<|by simp_all];rfl
def qV:E T.1.1=cf T:=aA
def I(a:UInt8):ap->List ap
 | []=>[[]]
 | b::c=>if b=a then []::I a c else match I a c with
  | []=>[[b]]
  | d::e=>(b::d)::e
def pM(b a):I b a≠[]:=by
 cases a with
 | nil=>simp[I]
 | cons d c =>{grind[I]}
def xg(a):∀(c:ap),a ∉ c->I a c=[c]
 | [],_=>af
 | g::e,b=>by simp only[gC,not_or]at b;rw[I,bJ λd=>b.1<|bZ d,xg a e b.2]
def xh(b):∀(c a:ap),b ∉ c->I b (c++b::a)=c::I b a
 | [],a,_=>by rw[jz,I,b7 af]
 | h::g,a,d=>by simp only[gC,not_or]at d;rw[g_,I,bJ λe=>d.1<|bZ e,xh b g a d.2]
def Gr(a):∀(c:ap),a ∉ c->Lib.indexByte c a = -1
 | [],_=>af
 | g::d,b=>by simp only[gC,not_or]at b;have e:=Gr a d b.2;unfold Lib.indexByte;grind
def Gs(b):∀(c a:ap),b ∉ c->Lib.indexByte (c++b::a) b=E c
 | [],a,_=>by simp[Lib.indexByte]
 | h::e,a,d=>by simp only[gC,not_or]at d;have g:=Gs b e a d.2;rw[g_];unfold Lib.indexByte;grind
def Gu{b}(c){a}(d:b ∉ a):Lib.splitK [b] 0 c a=[a]:=by
 cases c with
 | zero=>rfl
 | succ c=>rw[Lib.splitK,Lib.index_one,Gr b a d];rfl
def Gv{a}(d){b}(c)(e:a ∉ b):Lib.splitK [a] 0 (d+1) (b++a::c)=b::Lib.splitK [a] 0 d c:=by rw[Lib.splitK,Lib.index_one,Gs a b c e];simp
def RV(b):∀(d:Nat) (a:ap),E a<=d->Lib.splitK [b] 0 (a.count b) a=I b a
 | 0,a,i=>by obtain rfl:a=[]:=iM G;rfl
 | d+1,a,i=>by
  by_cases g:b∈a;{
  obtain⟨h,c,rfl,e⟩:=D9 g;have j:E c<=d:=by grind
  rw[List.count_append,List.count_cons_self,List.count_eq_zero.2 e,g8,Gv _ c e,xh b h c e,RV b d c j]};{rw[Gu _ g,xg b a g]}
def jl(a:UInt8)(s:ByteArray):List ByteArray:=Lib.splitB ⟨#[a]⟩ 0 (Lib.countB s ⟨#[a]⟩) s
def tK(a s):b9 (·.data.1) (jl a s)=I a s.1.1:=by rw[jl,Lib.splitB_data];have b:Lib.countB s ⟨#[a]⟩=s.1.1.count a:=by{exact Lib.count_one a s.1.1};rw[b];exact RV a _ _ bv
def RW(a s):E (jl a s)=Lib.countB s ⟨#[a]⟩+1:=Lib.splitB_all _ bv 0 _ s af
def qE(c):∀(d:Nat) (a:ap),E a<=d->∀e∈I c a,E e<=E a
 | 0,a,j,e,b=>by obtain rfl:a=[]:=iM G;simp[I]at b;grind
 | d+1,a,j,e,b=>by
  by_cases h:c∈a;{
  obtain⟨i,g,rfl,k⟩:=D9 h;rw[xh c i g k,gC]at b;have l:E g<=d:=by grind
  rcases b with rfl|b;{simp};{have:=qE c d g l e b;grind}};{rw[xg c a h]at b;grind}
def Eo(a s b)(c:b∈jl a s):cf b<=cf s:=by have:b.1.1∈I a s.1.1:=by{rw[<- tK];grind};have:=qE a _ _ bv _ this;assumption
def pN(a):∀(b:ap),E (I a b)<=E b+1
 | []=>by simp[I]
 | e::c=>by have d:=pN a c;unfold I;grind
/-! ### names -/
def vM(b:Nat)(a:ap):Bool:=lL a||(b==0&&a==[42])
def rY(a:Nat):List ap->Bool
 | []=>aE
 | b::c=>vM a b&&rY (a+1) c
def kr(a:ap):Bool:=dQ (E a<=60)&&rY 0 (I 46 a)
def rd(a:ap):Bool:=Lib.hasPrefix a [42]
def fI(a:ap):Bool:=kr a && !rd a
def fZ(a b:ap):Bool:=a==b||Lib.hasSuffix a (46::b)
def d3(a:aQ):Prop:=0<U a.1/\∃m:Int,aD a (M 0 0)=ag (J m)
def d3.below(e:d3 u)(b:a7 u K):d3 K:=by obtain⟨a,m,g⟩:=e;exact⟨e8 a b.4,m,(b.cell (p:=⟨0,0,ai⟩) a).trans g⟩
def d3.alloc(b:d3 m)(c):d3 (aO m c):=b.below<|ct cd bv _
def Gw(g:a7 m u):(∀a b,a<U m.1->aD u (M a b)=aD m (M a b))/\(∀a b,a<U m.1->io u (M a b)=io m (M a b)) :=
 ⟨λa b d=>g.cell (p:=⟨a,b,ai⟩) d,λa b d=>g.frozen (p:=⟨a,b,ai⟩) d⟩
def th(d:aQ)(b ay:Nat)(c:List ByteArray):Prop:=b<U d.1/\∀a (e:a<E c),aD d (M b<|ay+a)=ag (amz c[a])
def th.below{ay e}(b:th m d ay e)(c:a7 m u):th u d ay e :=
 ⟨e8 b.1 c.4,λa i=>(c.cell (p:=⟨d,ay+a,ai⟩) b.1).trans (b.2 a i)⟩
def Ep(b:aQ)(a):th (aO b<|aS (dl<|a.map amz) 9) (U b.1) 0 a:=by refine⟨aA,λd c=>?_⟩;simp
def vO(s a)(e:d3 m)(h:cf s<4294967281):bd aK 97 #[amz s,amz ⟨#[a]⟩] m λd i=>d=bg (bC (U m.1) 0 (E<|jl a s)<|E<|jl a s)/\i=aO m (aS (dl<|(jl a s).map amz) 9):=by obtain⟨_,b,g⟩:=e;have c:=Tryz.strings_Split s ⟨#[a]⟩ b m h g bv;rw[<- RW]at c;exact c
def fy{a b}(c:a=b):bg (aG a)=bg (aG b):=by rw[c]
def zW{c b}(d:p=b):bg (ak c p)=bg (ak c b):=by rw[d]
def RX{b}(c:T.1.1=b.1.1):bg (amz T)=bg (amz b):=by
 have:T=b:=by cases T;simp_all
 grind
def RY{a}:bd aK 240 #[ak ck<|be a] m λc d=>c=bg (aG<|te a)/\d=m:=by
 unfold te;generalize (be a:Int)=e;go_wp2;all_goals(go_ret;refine⟨fy ?_,af⟩;unfold Gq)
 all_goals (first|done|(simp[*];done)|grind|grind|trace_state)
def Q2{P:Prop}(h:P:=by go_wp2;go_ret;exact⟨fy (by rw[lL,qV];grind),af⟩):P:=h
def Gx(o:cf T<=hC):bd aK 189 #[amz T] m λg c=>g=bg (aG<|lL T.1.1)/\c=m:=by
 by_cases j:(cf T:Int)<1;{exact Q2};by_cases k:20<(cf T:Int);{exact Q2};go_wp2;go_loop [14] (λb=>∃a:Nat,a<=cf T/\b=J a/\(amA a T.1.1).all te=aE) λb=>cf T-c7 (intOf b);·grind
 ·(
 obtain⟨a,n,rfl,h⟩:=hrel;have d:=ae h;by_cases i:a<cf T;{
 by_cases l:te T[a]=aE;{
 go_wp2_with (go_at_call 240;refine(RY).m ?_;rintro c rfl);go_round;·exact⟨a+1,G,dH,by rw[(RT i),zJ,V d];grind⟩
 ·exact t8};{
 have:te T[a]=ao:=by grind
 go_wp2_with (go_at_call 240;refine(RY).m ?_;rintro c rfl);go_ret;refine⟨fy ?_,af⟩;have:T[a]∈T.1.1:=eP fN;symm;grind[lL]}};{go_wp2;go_ret;refine⟨fy ?_,af⟩;have:=V d;rw[oT cx]at this;rw[lL,this,qV];grind})
def fY(b:Nat)(a:ap):Bool:=(rX b a).isSome
def kZ(b:Nat)(a:ap):Nat:=(rX b a).getD 0
def akT(l:cf T<=hC):bd aK 229 #[amz T] m λi n=>i=bg (aG<|qg T.1.1)/\n=m:=by
 unfold hC at l;go_wp2
 go_loop [6] (λd=>∃a:Nat,a<=cf T/\d=J a/\(amA a T.1.1).all (λh=>xf<|be h)=aE) λd=>cf T-c7 (intOf d)
 ·grind
 ·obtain⟨a,p,rfl,b⟩:=hrel;have e:=ae b;by_cases j:a<cf T
  ·by_cases o:(33:Int)<=(T[a].toNat:Int)/\(T[a].toNat:Int)<=126
   ·go_wp2
    go_round
    ·exact⟨a+1,G,dH,by rw[(RT j),zJ,V e];simp[xf];omega⟩
    ·exact t8
   ·have k:T[a]∈T.1.1:=eP fN;have c:ax (qg T.1.1=ao):=by
     rw[qg,ax,BQ,BQ,DT];exact bG<|bG ⟨_,k,by simp[xf];omega⟩
    go_wp2
    all_goals
     first
     | (exfalso;omega)
     | (go_ret
        exact⟨fy<|bZ c,af⟩)
  ·have b:=V e;rw[oT cx]at b;have c:ax (qg T.1.1=(dQ ((1:Int)<=cf T)&&dQ ((cf T:Int)<=40))):=by
    rw[qg,ax,b,qV,yn]
    grind
   go_wp2
   all_goals
    go_ret;refine⟨fy ?_,af⟩;rw[V c]
    grind
def RZ:bd aK 169 #[amz T] m λb c=>b=bg (J<|i_ T.1.1)/\c=m:=by go_wp2;all_goals(go_ret;refine⟨zW ?_,af⟩;unfold i_;simp only[hZ,jy,kE,ne_eq]at *;simp[*])
def akU{i}{L:List ap}{k}(a:k<E L):rY i (bh k L)=(vM i L[k]&&rY (i+1) (bh (k+1) L)):=by rw[lA a];rfl
def Er(A:d3 m)(B:cf T<=hC):bd aK 123 #[amz T] m (cQ (aG<|kr T.1.1) m):=by
 unfold hC at B;by_cases H:60<(cf T:Int);{have a:ax (kr T.1.1=ao):=by{rw[kr,ax,qV];grind};go_wp2;go_ret;exact⟨fy<|bZ a,dz _ _⟩};have q:ax (kr T.1.1=rY 0 (I 46 T.1.1)):=by{rw[kr,ax,qV];grind};have p:=ae<|bZ<|tK 46 T;have D:=ae<|Eo 46 T;have y:=Ep m<|jl 46 T;have r:=vO T 46 A G;have d:a7 m (aO m<|aS (dl<|(jl 46 T).map amz) 9):=ct cd bv _;have N:E (jl 46 T)<=61:=by{have:=pN 46 T.1.1;rw[<- tK,fC,qV]at this;omega};generalize jl 46 T=L at *;generalize aO m (aS (dl<|L.map amz) 9)=F at *;have w:=ae r;have n:=ae d;clear r d;obtain⟨O,o⟩:=y;replace o:=ae o;go_in;go_wp2_with (go_at_call 97;refine w.m ?_;rintro l rfl);go_loop [11] (λi=>∃k:Nat,k<=E L/\i=J k/\rY k (bh k (b9 (·.data.1) L))=rY 0 (b9 (·.data.1) L)) λi=>E L-c7 (intOf i);·grind
 ·(
 obtain⟨k,K,rfl,x⟩:=hrel;have c:=ae x;by_cases u:k<E L;{
 have z:=(V o) k u;rw[g8]at z;have e:=ae (akU (i:=k) (L:=b9 (·.data.1) L) (k:=k) (by grind));rw[rS]at e;have h:L[k].size<=hC:=by{have:=V D L[k]<|eP u;unfold hC;omega};generalize L[k]=g at *;by_cases d:lL g.1.1=aE;{
 go_wp2_with (go_at_call 189;refine(Gx h).m ?_;rintro l rfl);go_round;·exact⟨k+1,G,dH,by rw[<- V c,V e];simp[vM,d]⟩
 ·exact t8};{
 have t:lL g.1.1=ao:=by grind
 clear d;by_cases M:0<(k:Int);{
 have a:ax (kr T.1.1=ao):=by{
 rw[ax,V q,V p,<- V c,V e];have:(k==0)=ao:=by grind
 simp[vM,t,this]};go_wp2_with (go_at_call 189;refine(Gx h).m ?_;rintro l rfl);go_ret;exact⟨fy<|bZ a,n⟩};{
 obtain rfl:k=0:=G;by_cases j:g.1.1=[42];{
 have C:(g.toList==[42])=aE:=by rw[hZ,j];rfl
 go_wp2_with (go_at_call 189;refine(Gx h).m ?_;rintro l rfl);go_round;·exact⟨0+1,G,dH,by rw[<- V c,V e];simp[vM,j]⟩
 ·exact t8};{
 have C:(g.toList==[42])=ao:=by rw[hZ,kE];exact j
 have a:ax (kr T.1.1=ao):=by{rw[ax,V q,V p,<- V c,V e];simp[vM,t,j]};go_wp2_with (go_at_call 189;refine(Gx h).m ?_;rintro l rfl);go_ret;exact⟨fy<|bZ a,n⟩}}}};{have a:ax (kr T.1.1=aE):=by{rw[ax,V q,V p,<- V c,sh<|by grind];rfl};go_wp2;go_ret;exact⟨fy<|bZ a,n⟩})
def R0(s a):bd aK 124 #[amz s] a λc b=>c=bg (aG<|rd s.1.1)/\b=a:=by go_in;go_wp2_with (go_at_call 190;refine(Tryz.strings_HasPrefix s _ _).m ?_;rintro b rfl);go_ret;exact pf
def vj(d:d3 m)(e:cf T<=hC):bd aK 68 #[amz T] m (cQ (aG<|fI T.1.1) m):=by
 cases g:kr T.1.1
 ·have a:ax (fI T.1.1=ao):=by rw[fI,g];rfl
  go_in;go_wp2_with (go_at_call 123;refine(Er d e).m λh b=>?_);go_ret;exact⟨fy<|bZ a,b⟩
 ·have a:ax (fI T.1.1 = !rd T.1.1):=by rw[fI,g];rfl
  go_in;go_wp2_with (first
   | (go_at_call 123;refine(Er d e).m λh b=>?_)
   | (go_at_call 124;refine(R0 T _).m ?_;rintro h rfl))
  go_ret;exact⟨fy<|bZ a,b⟩
def BX{a:ByteArray}:(T.toList==a.toList)=(T.1.1==a.1.1):=by rw[hZ,hZ]
def DY(s a d)(i:cf s<=1000000)(h:cf a<=1000000):bd aK 110 #[amz s,amz a] d λg e=>g=bg (aG<|fZ s.1.1 a.1.1)/\e=d:=by cases b:(s.toList==a.toList);{have c:ax (fZ s.1.1 a.1.1=Lib.hasSuffix s.1.1 (⟨#[46]⟩++a:ByteArray).1.1):=by{rw[BX]at b;rw[fZ,ax,b];simp};go_in;go_wp2_with (go_at_call 181;refine(Tryz.strings_HasSuffix s _ _ G).m ?_;rintro e rfl);go_ret;exact⟨fy<|bZ c,af⟩};{have c:ax (fZ s.1.1 a.1.1=aE):=by{rw[BX]at b;rw[fZ,ax,b];rfl};go_wp2;go_ret;exact⟨fy<|bZ c,af⟩}
def akV(a)(d:cf T<=1000000):bd aK 273 #[amz T] a λb c=>b=bg (amz ⟨dl (42::46::T.1.1)⟩)/\c=a:=by go_wp2;go_ret;exact⟨RX aA,af⟩
def R2: ∀(e:ap) (b m:Nat),oy d b e=ag m->b<=d->m<=d
 | [],b,m,a,c=>by simp[oy]at a;omega
 | h::g,b,m,a,c=>by unfold oy at a;split at a;{split at a;{exact R2 g _ m a G};grind};grind
def F3{c b d e}(g:p=b)(h:d=e):bg (bX #[ak c p,aG d])=bg (bX #[ak c b,aG e]):=by grind
def Q0{P:Prop}(h:P:=by go_wp2;go_ret2;exact⟨F3 (by rw[kZ,V hn];rfl) (by rw[fY,V hn];rfl),af⟩):P:=h
def Lb(a:Nat)(t:cf T<=hC)(C:a<=4294967295):bd aK 168 #[amz T,ak .u64 a] m λp y=>p=bg (bX #[ak .u64<|kZ a T.1.1,aG<|fY a T.1.1])/\y=m:=by
 unfold hC at t;by_cases z:cf T=0
 ·have j:T.toList=[]:=by simp_all
  have hn:ax (rX a T.1.1=ai):=by
   rw[<- hZ,j];rfl
  exact Q0
 have j:(T.toList==[])=ao:=by
  rw[hZ,kE];intro e;have:=fE List.length e;rw[qV]at this
  grind
 have o:0<cf T:=G;have g:=RU o;rw[sk]at g;by_cases l:(T[0].toNat:Int)=48/\(1:Int)<cf T
 ·have hn:ax (rX a T.1.1=ai):=by
   rw[g,rX];exact b7 ⟨G,λe=>by have:=fE List.length e;exact DA⟩
  exact Q0
 have hn:ax (rX a T.1.1=oy a 0 T.1.1):=by
  rw[g,rX];exact bJ (λe=>l ⟨G,by
   have:bh (0+1) T.1.1≠[]:=e.2;rw[ne_eq,List.drop_eq_nil_iff,qV]at this;omega⟩)
 clear g;have u:(T[0].toNat:Int)=48/\(cf T:Int)<=1\/¬(T[0].toNat:Int)=48:=G;clear l;rcases u with⟨w,F⟩|w
 all_goals
  go_wp2
  go_loop [6,22] (λx h=>∃b n:Nat,b<=cf T/\h=J b/\x=ak .u64 n/\n<=a/\oy a n (bh b T.1.1)=oy a 0 T.1.1) λ_ h=>cf T-c7 (intOf h)
  ·exact⟨0,0,eb _,af,af,eb _,dS⟩
  ·obtain⟨b,n,B,rfl,rfl,D,d⟩:=hrel;replace d:=ae d;by_cases r:b<cf T
   ·have i:=ae<|RU r;by_cases q:(48:Int)<=(T[b].toNat:Int)/\(T[b].toNat:Int)<=57
    ·have:=q;have:(n:Int)<=4294967295:=G;have k:ax (oy a n (bh b T.1.1)=if 10*n+(T[b].toNat-48)<=a then oy a (10*n+(T[b].toNat-48)) (bh (b+1) T.1.1)else ai):=by
      rw[V i,ax]
      conv=>lhs;rw[oy,b7 (by simp[rN];omega)]
     by_cases A:10*(n:Int)+((T[b].toNat:Int)-48)<=(a:Int)
     ·go_wp2
      go_round
      ·exact⟨b+1,10*n+(T[b].toNat-48),G,dH,dH,G,by rw[<- V d,V k,b7 G]⟩
      ·exact t8
     ·have c:ax (rX a T.1.1=ai):=by
       rw[V hn,ax,<- V d,V k,bJ G]
      go_wp2;go_ret2;exact⟨F3 (by rw[kZ,V c];rfl) (by rw[fY,V c];rfl),af⟩
    ·have c:ax (rX a T.1.1=ai):=by
      rw[V hn,ax,<- V d,V i,oy,bJ (by simp[rN];omega)]
     go_wp2
     all_goals
      first
      | (exfalso;omega)
      | (go_ret2
         exact⟨F3 (by rw[kZ,V c];rfl) (by rw[fY,V c];rfl),af⟩)
   ·have c:ax (rX a T.1.1=ag n):=by
     rw[V hn,ax,<- V d,sh<|by simp_all];rfl
    go_wp2;go_ret2;exact⟨F3 (by rw[kZ,V c];rfl) (by rw[fY,V c];rfl),af⟩
def Cd(a:Nat)(g:cf T<=hC)(e:a<=4294967295):bd aK 227 #[amz T,ak .u64 a] m λd c=>d=bg (aG<|fY a T.1.1)/\c=m:=by go_in;go_wp2_with (go_at_call 168;refine(Lb a g e).m ?_;rintro c rfl);go_ret;simp
def xi(a:ap):Bool:=(I 46 a).all (fY 255)&&E (I 46 a)==4
def eG(b:Int)(ch:List ap):Bool :=
 if b=6 then(match ch with
  | [a,c,d,e]=>fI a&&fI c&&fY 4294967295 d&&fY 86400 e
  | _=>ao)
 else if b=2\/b=5 then(match ch with
  | [a]=>fI a
  | _=>ao)
 else if b=1 then(match ch with
  | [a]=>xi a
  | _=>ao)
 else if b=16 then(match ch with
  | [a]=>qg a
  | _=>ao)
 else if b=15 then(match ch with
  | [a,c]=>fY 65535 a&&fI c
  | _=>ao)
 else ao
def akW(w:d3 m)(F:cf T<=3000):bd aK 228 #[amz T] m (cQ (aG<|xi T.1.1) m):=by
 have l:=ae<|bZ<|tK 46 T;have z:=ae<|Eo 46 T;have t:=Ep m<|jl 46 T;have p:=vO T 46 w G;have k:a7 m (aO m<|aS (dl<|(jl 46 T).map amz) 9):=ct cd bv _;have D:E (jl 46 T)<=3001:=by{have:=pN 46 T.1.1;rw[<- tK,fC,qV]at this;omega};generalize jl 46 T=a at *;generalize aO m (aS (dl<|a.map amz) 9)=B at *;have q:=ae p;have j:=ae k;obtain⟨H,e⟩:=t;replace e:=ae e;go_in;go_wp2_with (go_at_call 97;refine q.m ?_;rintro o rfl);go_loop [10] (λh=>∃b:Nat,b<=E a/\h=J b/\(amA b (b9 (·.data.1) a)).all (fY 255)=aE) λh=>E a-c7 (intOf h);·grind
 ·(
 obtain⟨b,C,rfl,r⟩:=hrel;have i:=ae r;by_cases g:b<E a;{
 have u:=(V e) b g;rw[g8]at u;have y:ax (amA (b+1) (b9 (·.data.1) a)=amA b (b9 (·.data.1) a)++[a[b].1.1]):=by{rw[ax,iH<|by grind,rS]};have x:ax (a[b].1.1∈b9 (·.data.1) a):=Ec<|eP g;have n:a[b].size<=hC:=by{have:=V z a[b]<|eP g;unfold hC;omega};generalize a[b]=A at *;cases k:fY 255 A.1.1;{have d:ax (xi T.1.1=ao):=by{rw[ax,xi,V l,BQ,DT];exact bG ⟨_,x,by grind⟩};go_wp2_with (go_at_call 227;refine(Cd 255 n G).m ?_;rintro o rfl);go_ret;exact⟨fy<|bZ d,j⟩};{
 go_wp2_with (go_at_call 227;refine(Cd 255 n G).m ?_;rintro o rfl);go_round;·exact⟨b+1,G,dH,by rw[V y,zJ,V i];grind⟩
 ·exact t8}};{have d:ax (xi T.1.1=((E a:Int)==4)):=by{have:=V i;rw[oT<|by grind]at this;rw[ax,xi,V l,this,yn,fC,sd,jy,jy];omega};go_wp2;go_ret;exact⟨fy<|bZ d,j⟩})
def pj(ch:List ByteArray):List ap:=b9 (·.data.1) ch
def FO{P:Prop}(h:P:=by split;{exact absurd af h};{rfl}):P:=h
def akZ(ch:List ap)(h:E ch≠4):eG 6 ch=ao:=by unfold eG;rw[b7 af];exact FO
def R3(b:p=2\/p=5){ch:List ap}(h:E ch≠1):eG p ch=ao:=by unfold eG;rw[bJ G,b7 b];exact FO
def ak0(ch:List ap)(h:E ch≠1):eG 1 ch=ao:=by unfold eG;rw[bJ G,bJ G,b7 af];exact FO
def akG(ch:List ap)(h:E ch≠1):eG 16 ch=ao:=by unfold eG;rw[bJ G,bJ G,bJ G,b7 af];exact FO
def akH(ch:List ap)(h:E ch≠2):eG 15 ch=ao:=by unfold eG;rw[bJ G,bJ G,bJ G,bJ G,b7 af];exact FO
def cS(a:Int)(ch:List ap)(e:a≠6)(g:a≠2)(h:a≠5)(d:a≠1)(b:a≠16)(c:a≠15):eG a ch=ao:=by unfold eG;rw[bJ e,bJ G,bJ d,bJ b,bJ c]
def Dr{P:Prop}(h:P:=by simpa [pj]using h4):P:=h
def H4{P:Prop}(h:P:=by go_wp2;go_ret;exact⟨fy<|bZ bK,dz _ _⟩):P:=h
def Dj{P:Prop}(h:P:=by have:=hsz x0 aA;exact QO):P:=h
def akI{ch:List ByteArray}{h:aQ}(g:d3 h)(t:th h d 0 ch)(hsz:∀B∈ch,cf B<=3000)(D:E ch<=3001):bd aK 170 #[J 6,bC d 0 (E ch) o] h (cQ (aG<|eG 6<|pj ch) h):=by
 by_cases h4:E ch=4;{
 match ch,h4 with
 | [x0,x,e,i],_ =>
 have bK:ax (eG 6 (pj [x0,x,e,i])=(fI x0.1.1&&fI x.1.1&&fY 4294967295 e.1.1&&fY 86400 i.1.1)):=af;have n:cf x0<=hC:=Dj
 have u:cf x<=hC:=by have:=hsz x aA;exact uW
 have y:cf e<=hC:=by have:=hsz e aA;exact uW
 have z:cf i<=hC:=by have:=hsz i aA;exact uW
 have:co h d 0 (amz x0):=t.2 0 aA;have r:=ae t;cases c:fI x0.1.1;{go_in;go_wp2_with (go_at_call 68;refine(vj g n).m λk a=>?_);go_ret;exact⟨fy (by rw[V bK,c];rfl),a⟩};cases w:fI x.1.1;{go_in;go_wp21;refine(vj g n).m λk a=>?_;have l:=g.below a;have b:=r.below a;have bA:co k d 1 (amz x):=b.2 1 aA;replace b:=ae b;go_wp2_with (go_at_call 68;refine(vj l u).m λp j=>?_);go_ret;exact⟨fy (by rw[V bK,c,w];rfl),bN a<|bV j a.4⟩};cases A:fY 4294967295 e.1.1;all_goals(go_in;go_wp21;refine(vj g n).m λk a=>?_;have l:=g.below a;have b:=r.below a;have bA:co k d 1 (amz x):=b.2 1 aA;replace b:=ae b;go_wp21;refine(vj l u).m λp j=>?_;have q:=b.below j;have:co p d 2 (amz e):=q.2 2 aA;have:co p d 3 (amz i):=q.2 3 aA;go_wp21;refine(Cd 4294967295 y G).m ?_;rintro F rfl;go_wp2_with (go_at_call 227;refine(Cd 86400 z G).m ?_;rintro H rfl);go_ret;exact⟨fy (by rw[V bK,c,w,A];rfl),bN a<|bV j a.4⟩)};{
 have bK:ax (eG 6 (pj ch)=ao):=by{exact akZ _ Dr};have C:((E ch:Int)==4)=ao:=kB
 exact H4}
def PN{P:Prop}(h:P:=by have:co w b 0 (amz x0):=hat.2 0 aA;go_in;go_wp2_with (go_at_call 68;refine(vj hg s0).m λw1 hb1=>?_);go_ret;exact⟨af,hb1⟩):P:=h
def H_{P:Prop}(h:P:=by
 have CB:((E ch:Int)==1)=ao:=kB
 exact H4):P:=h
def akJ{b:Nat}{ch:List ByteArray}{w:aQ}(hg:d3 w)(hat:th w b 0 ch)(hsz:∀c∈ch,cf c<=3000)(a:E ch<=3001):bd aK 170 #[J 2,bC b 0 (E ch) d] w (cQ (aG<|eG 2<|pj ch) w):=by
 by_cases h4:E ch=1;{
 match ch,h4 with
 | [x0],_ =>
 have s0:cf x0<=hC:=Dj
 exact PN};{
 have bK:ax (eG 2 (pj ch)=ao):=R3 (bG af) Dr;exact H_}
def akK{b:Nat}{ch:List ByteArray}{w:aQ}(hg:d3 w)(hat:th w b 0 ch)(hsz:∀c∈ch,cf c<=3000)(a:E ch<=3001):bd aK 170 #[J 5,bC b 0 (E ch) d] w (cQ (aG<|eG 5<|pj ch) w):=by
 by_cases h4:E ch=1;{
 match ch,h4 with
 | [x0],_ =>
 have s0:cf x0<=hC:=Dj
 exact PN};{
 have bK:ax (eG 5 (pj ch)=ao):=R3 (bE af) Dr;exact H_}
def akL{ch:List ByteArray}(g:d3 m)(a:th m d 0 ch)(hsz:∀i∈ch,cf i<=3000)(j:E ch<=3001):bd aK 170 #[J 1,bC d 0 (E ch) o] m (cQ (aG<|eG 1<|pj ch) m):=by
 by_cases h4:E ch=1;{
 match ch,h4 with
 | [x0],_ =>
 have k:cf x0<=hC:=Dj
 have h:=hsz x0 aA;have:co m d 0 (amz x0):=a.2 0 aA;go_in;go_wp2_with (go_at_call 228;refine(akW g h).m λl e=>?_);go_ret;exact⟨af,e⟩};{
 have bK:ax (eG 1 (pj ch)=ao):=ak0 _ Dr;exact H_}
def akM{ch:List ByteArray}(h:d3 m)(a:th m d 0 ch)(hsz:∀g∈ch,cf g<=3000)(i:E ch<=3001):bd aK 170 #[J 16,bC d 0 (E ch) o] m (cQ (aG<|eG 16<|pj ch) m):=by
 by_cases h4:E ch=1;{
 match ch,h4 with
 | [x0],_ =>
 have e:cf x0<=hC:=Dj
 have:co m d 0 (amz x0):=a.2 0 aA;go_in;go_wp2_with (go_at_call 229;refine(akT e).m ?_;rintro j rfl);go_ret;exact FS};{
 have bK:ax (eG 16 (pj ch)=ao):=akG _ Dr;exact H_}
def akN{ch:List ByteArray}(k:d3 m)(a:th m d 0 ch)(hsz:∀n∈ch,cf n<=3000)(p:E ch<=3001):bd aK 170 #[J 15,bC d 0 (E ch) o] m (cQ (aG<|eG 15<|pj ch) m):=by
 by_cases h4:E ch=2
 ·match ch,h4 with
  | [x0,b],_ =>
  have bK:ax (eG 15 (pj [x0,b])=(fY 65535 x0.1.1&&fI b.1.1)):=af;have e:cf x0<=hC:=Dj
  have l:cf b<=hC:=by have:=hsz b aA;exact uW
  have:co m d 0 (amz x0):=a.2 0 aA;have:co m d 1 (amz b):=a.2 1 aA;cases g:fY 65535 x0.1.1
  ·go_in;go_wp2_with (go_at_call 227;refine(Cd 65535 e G).m ?_;rintro h rfl);go_ret;exact⟨fy (by rw[V bK,g];rfl),dz _ _⟩
  ·go_in;go_wp2_with (first
    | (go_at_call 227;refine(Cd 65535 e G).m ?_;rintro h rfl)
    | (go_at_call 68;refine(vj k l).m λh j=>?_))
   go_ret;exact⟨fy (by rw[V bK,g];rfl),j⟩
 ·have bK:ax (eG 15 (pj ch)=ao):=akH _ Dr;have i:((E ch:Int)==2)=ao:=kB
  exact H4
def akO{ch:List ByteArray}(h:p≠6)(e:p≠2)(g:p≠5)(i:p≠1)(b:p≠16)(c:p≠15):bd aK 170 #[J p,bC d 0 (E ch) o] m (cQ (aG<|eG p<|pj ch) m):=by have bK:=ae<|cS p (pj ch) h e g i b c;have:=kE.2 h;have:=kE.2 e;have:=kE.2 g;have:=kE.2 i;have:=kE.2 b;have:=kE.2 c;exact H4
def akP{ch:List ByteArray}(c:d3 m)(b:th m d 0 ch)(e:∀q∈ch,cf q<=3000)(g:E ch<=3001):bd aK 170 #[J p,bC d 0 (E ch) h] m (cQ (aG<|eG p<|pj ch) m):=by by_cases o:p=6;{subst o;exact akI c b e g};by_cases l:p=2;{subst l;exact akJ c b e g};by_cases n:p=5;{subst n;exact akK c b e g};by_cases k:p=1;{subst k;exact akL c b e g};by_cases j:p=16;{subst j;exact akM c b e g};by_cases i:p=15;{subst i;exact akN c b e g};exact akO o l n k j i
def O(a:ap):ByteArray:=⟨dl a⟩
abbrev aZ(a:List UInt8):bm:=amz<|O a
def Lc:O T.1.1=T:=dS
def r8:(O n).1.1=n:=rfl
def de(a):cf (O a)=E a:=dS
abbrev D:=ap×Nat×Int×ap
variable{j q:List D}
def D.owner(a:D):ap:=a.1
def D.aP(a:D):Nat:=a.2.1
def D.type(a:D):Int:=a.2.2.1
def D.data(a:D):ap:=a.2.2.2
def D.zero:D:=([],0,0,[])
def D.bz(a:D):List bm:=[amz<|O a.owner,J a.aP,J a.type,amz<|O a.data]
def D.zN(a:D):bm:=ci #[amz<|O a.owner,J a.aP,J a.type,amz<|O a.data]
def jx(e:ap):Option D :=
 match Lib.splitN e [32] 4 with
 | [a,b,c,d]=>if kr a&&fY 86400 b&&eG (i_ c) (I 32 d)then ag (a,kZ 86400 b,i_ c,d)else ai
 | _=>ai
def ti(a:Option D):bm:=bX #[(a.getD D.zero).zN,aG a.isSome]
def Ld(e):∀(d:Nat) (b:ap),∀c∈Lib.splitK [e] 0 d b,E c<=E b
 | 0,b,c,a=>by simp[Lib.splitK]at a;grind
 | d+1,b,c,a=>by unfold Lib.splitK at a;split at a;{grind};{rw[gC]at a;rcases a with rfl|a;{grind};{have:=Ld e d _ c a;grind}}
def ss(s:ByteArray):List ByteArray:=Lib.splitB ⟨#[32]⟩ 0 (min 4 (cf s+1)-1) s
def Le:b9 (·.data.1) (ss T)=Lib.splitN T.1.1 [32] 4:=by rw[ss,Lib.splitB_data];rfl
def ak1(s):E (ss s)<=4:=by have:=Lib.splitB_length_le ⟨#[32]⟩ 0 (min 4 (cf s+1)-1) s;unfold ss;omega
def alt(s a)(b:a∈ss s):cf a<=cf s:=by have:a.1.1∈Lib.splitN s.1.1 [32] 4:=by{rw[<- Le];grind};have:=Ld 32 _ _ _ this;assumption
def alu(b:aQ)(a c):th (aO b<|aS (Lib.cellsOf a c) 9) (U b.1) 0 a:=by refine⟨aA,λe d=>?_⟩;rw[g8];simp[Lib.cellsOf,d,List.getElem?_append]
def R4(a)(c:d3 a)(g:cf T<=3000):bd aK 167 #[amz T,amz ⟨#[32]⟩,J 4] a λb e=>b=bg (bC (U a.1) 0 (E<|ss T)<|min 4<|cf T+1)/\e=aO a (aS (Lib.cellsOf (ss T)<|min 4<|cf T+1) 9):=by obtain⟨_,m,d⟩:=c;exact Tryz.strings_SplitN T ⟨#[32]⟩ 4 m a G d bv G G
def alv(d:d3 m)(e:cf T<=3000)(g:E (ss T)≠4):bd aK 99 #[amz T] m (cQ (ti ai) m):=by have:=ak1 T;have b:=R4 (aO m<|aS #[amz ⟨#[]⟩,ak am 0,ak am 0,amz ⟨#[]⟩] 47) (d.alloc _) e;generalize ss T=c at *;have:(E c:Int)<4:=G;replace b:=ae b;go_in;go_wp2_with (go_at_call 167;refine b.m ?_;rintro h rfl);exact eh (v:=ti ai) (by simp[dr,results99,go_sem,ti,D.zN,D.zero,D.owner,D.aP,D.type,D.data,O]) af ⟨af,(ct cd bv _).alloc aA _⟩
section
variable {P:Program} {α:Type}
def xS(P:Program)(t:Nat)(u:Array bm)(r:α->Array bm)(o:List α)(j p q:aQ->aQ->Prop)(k:aQ):Prop :=
 ∀(l:Nat) (b:Nat->aQ->Prop) (g:aQ->Prop),
  (∀c d e,b c d->j d e->b c e)->(∀d e,g d->j d e->g e) ->
  (∀c n h,o[c]? = ag n->b c h->YieldAt fm 0 P l (r n) h λi a =>
   (i=bg (aG aE)/\b (c+1) a/\p h a)\/(i=bg (aG ao)/\g a/\q h a)) ->
  b 0 k ->
  CallsIn fm 0 P t (#[fc (.yield l) #[] #[]]++u) k λi a=>(∃v,i=bg v)/\(b (E o) a\/g a)
def ju(a:Nat)(b c:aQ):Prop:=U b.1<=U c.1/\c.1[a]? = b.1[a]?/\c.1[a+1]? = b.1[a+1]?
def lI(b:Nat)(c:Loop)(a:aQ):Prop:=a.1[b+1]? = ag (dR c)/\a.1[b]? = ag (dq<|ag [])
def IH(c:Nat)(e:aQ->Prop)(d:og->aQ->Prop)(b:aQ):zw->lJ->aQ->Prop
 | .normal,_,a=>ju c b a/\e a
 | .ret,_,a=>ju c b a/\d .ret a
 | .exit g,_,a=>ju c b a/\d (.exit g) a
 | .goto h,_,a=>ju c b a/\d (.goto h) a
 | _,_,_=>False
def Lf(h:Nat)(e i:aQ->aQ->Prop)(c:aQ->Prop)(d:og->aQ->Prop)(b:aQ):zw->lJ->aQ->Prop:=IH h (λa=>e b a/\c a) (λg a=>i b a/\d g a) b
def F2{a:Fence}{n p:og}{h i:zw->lJ->aQ->Prop}{o:lJ}(q:n.wpIn a 0 P (Exit.then (λe d=>d=m/\p.wpIn a 0 P h e u) λ_ _ _=>False) o m)(r:∀c l k,h c l k->i c l k):n.wpIn a 0 P (Exit.then (λe d=>d=m/\p.wpIn a 0 P i e u) λ_ _ _=>False) o m :=
 wpIn_mono q λc _ _ g=>by cases c<;>first|exact⟨g.1,wpIn_mono g.2 r⟩|exact g.elim
section
variable {g:Operand} {ps:Array Tmp} {assign body:Code} {Q:Exit->Act->World->Prop} {a:Act} {w:World} {gf:Nat} {lb:Array Value} (hg:a.eval g=.func (.func gf) #[] lb) (eg : ∀ args w,(callFunc gf args).run P w=.ok (.enter gf args) w) {encs:α->Array Value} (jP : ∀ x,(encs x).size=ps.size)
include hg eg jP
theorem Ro(N A:aQ->Prop)(z:Nat->α->aQ->Prop)(D M:Nat->α->aQ->aQ->Prop)(F C:og->aQ->aQ->Prop)(y:og->aQ->Prop)(ae:∀(e:Loop) (Z:og->Loop),(∀h x b,z h x b->lI (U w.1) e b->YieldAt fm 0 P (U w.1+1) (encs x) b λn k=>(n=bg (aG aE)/\D h x b k/\lI (U w.1) e k)\/(n=bg (aG ao)/\∃c,F c b k/\lI (U w.1) (Z c) k)) ->
   ∀B,N B->lI (U w.1) e B->CallsIn fm 0 P gf (#[fc (.yield<|U w.1+1) #[] #[]]++lb) B λn k=>(∃v,n=bg v)/\((A k/\lI (U w.1) e k)\/∃c,y c k/\lI (U w.1) (Z c) k))(aJ:∀h x i e u,z h x i->i.1[U w.1+1]? = ag (dR e)->z h x (eF i (U w.1+1) u))(ah:∀i e u,A i->i.1[U w.1+1]? = ag (dR e)->A (eF i (U w.1+1) u))(aj:∀c i e u,y c i->i.1[U w.1+1]? = ag (dR e)->y c (eF i (U w.1+1) u))(au:∀h x b e o L d,b.1[U w.1+1]? = ag (dR e)->ju (U w.1) (eF b (U w.1+1)<|dR o) d->d.1[U w.1+1]? = ag (dR o)->M h x (eF b (U w.1+1)<|dR o) d->D h x b (eF d (U w.1+1)<|dR L))(av:∀c b e o L d,b.1[U w.1+1]? = ag (dR e)->ju (U w.1) (eF b (U w.1+1)<|dR o) d->d.1[U w.1+1]? = ag (dR o)->C c (eF b (U w.1+1)<|dR o) d->F c b (eF d (U w.1+1)<|dR L))(aW:∀e,N<|aO (aO w<|dq<|ag [])<|dR e)(ab:∀(Y h:Nat) (x:α) (O b:aQ),z h x b->U w.1+2<=U b.1->b.1[U w.1]? = ag (dq<|ag [])->(∃e,b.1[U w.1+1]? = ag (dR e)) ->
   assign.wpIn (fm.inRound Y) 0 P (Exit.then (λal ad=>ad=O/\body.wpIn (fm.inRound Y) 0 P (IH (U w.1) (M h x b) (λc=>C c b) b) al b) λ_ _ _=>False) { tmps:=(ps.zip<|encs x).foldl (λaa (aF,v)=>aa.setIfInBounds aF v) a.1,defers:=[] } O)(aw:∀b,A b->b.1[U w.1]? = ag (dq<|ag [])->U w.1+2<=U b.1->Q lV { a with defers:={ target:=.collected<|U w.1,args:=#[] }::a.2 } b)(aM:∀c b,y c b->b.1[U w.1]? = ag (dq<|ag [])->U w.1+2<=U b.1->c.wpIn fm 0 P Q { a with defers:={ target:=.collected<|U w.1,args:=#[] }::a.2 } b):(Code.rangeFunc g ps assign body).wpIn fm 0 P Q a w:=by
 refine wpIn_rangeFunc λfn ay=>?_;have⟨rec,fq⟩:=bi (λaH aI=>{ state:=aH,pending:=aI,fn,tmps:=a.1,params:=ps,assign,body,defers:=U w.1 }:LoopState->Option og->Loop)
 have ac:=run_enterLoop_outer (P:=P) (w:=w) fn a.1 ps assign body;have⟨W1,hW1⟩:=dK<|aO (aO w<|dq<|ag [])<|dR<|rec .ready ai
 refine⟨_,_,W1,{ target:=.fn (.func gf) lb,args:=#[fc (.yield<|U w.1+1) #[] #[]] },W1,gf,#[fc (.yield<|U w.1+1) #[] #[]]++lb,W1,by rw[<- hW1,fq];exact ac,?_,λ_ _=>cE,?_,λap=>by simp[fm]at ap,?_⟩
 ·simp only[resolve,hg];simp[go_sem]
 ·simp[invoke,go_sem,eg]
 have aB:=ae (rec .ready ai) (λc=>rec .done<|ag c)
  (λh x b aq ⟨p,ar⟩=>by
   have W:=run_yield (P:=P) (args:=encs x) p (by grind);rw[fq]at W;have az:=(ea.1 p).1;have⟨X2,nw⟩:=bi<|{ rec .ready ai with state:=.busy };have S:(eF b (U w.1+1)<|dR X2).1[U w.1+1]? = ag (dR X2):=World.putObj_heap_same az;have T:(eF b (U w.1+1)<|dR X2).1[U w.1]? = ag (dq<|ag []):=(kW G).trans ar;refine⟨fn,_,assign,body,W,roundIn_of_wpIn ay<|wpIn_mono (ab _ h x b (eF b (U w.1+1)<|dR X2) (aJ h x b _ _ aq p) (by grind) T ⟨_,S⟩) ?_⟩;rintro R aT aP X;have an:R=lV:=by cases R<;>first|rfl|exact X.elim
   subst an;obtain⟨K,aC⟩:=X
   replace K:=bZ K
   subst K;refine⟨_,nw ▸ run_beginRound p (by grind),wpIn_mono aC ?_⟩;have V:∀(j:Option og) (d:aQ),ju (U w.1) (eF b (U w.1+1)<|dR X2) d ->
     (Instr.endRound (U w.1+1) j).run P d=.ok (aG j.isNone) (eF d (U w.1+1)<|dR<|rec (if j.isNone then .ready else .done) j) /\
     d.1[U w.1+1]? = ag (dR X2)/\lI (U w.1) (rec (if j.isNone then .ready else .done) j) (eF d (U w.1+1)<|dR<|rec (if j.isNone then .ready else .done) j):=λj d r=>by
    have I:=c_ r.2.2 S;have:=run_endRound (P:=P) j I;refine⟨?_,I,World.putObj_heap_same (ea.1 I).1,(kW G).trans<|c_ r.2.1 T⟩
    grind
   have J:∀(c:og) (d:aQ),ju (U w.1) (eF b (U w.1+1)<|dR X2) d/\C c (eF b (U w.1+1)<|dR X2) d ->
     ∃v q,(Instr.endRound (U w.1+1)<|ag c).run P d=.ok v q/\((bg v=bg (aG aE)/\D h x b q/\lI (U w.1) (rec .ready ai) q)\/(bg v=bg (aG ao)/\∃c,F c b q/\lI (U w.1) (rec .done<|ag c) q)):=λc d ⟨r,aN⟩=>by
    have⟨f1,f2,f3⟩:=V (ag c) d r;exact⟨_,_,f1,bE ⟨af,c,av _ _ _ _ _ _ p r f2 aN,f3⟩⟩
   rintro n aU d l;cases n with
   | normal =>
    have⟨f1,f2,f3⟩:=V ai d l.1;exact⟨_,_,f1,bG ⟨af,au _ _ _ _ _ _ _ p l.1 f2 l.2,f3⟩⟩
   | ret=>exact J _ _ l
   | exit aX=>exact J _ _ l
   | goto aa=>exact J _ _ l
   | panic aV=>exact l.elim
   | outgrown=>exact l.elim)
  W1 (by grind) ⟨by rw[<- hW1];have:=du (aO w<|dq<|ag [])<|dR<|rec .ready ai;simp_all,hW1▸(dT _ _ _ aA).trans (du w _)⟩
 refine aB.mono ?_;rintro n aR ⟨⟨v,rfl⟩,⟨aN,t,H⟩|⟨c,aN,t,H⟩⟩
 ·have:=run_endLoop (P:=P) t (by grind);exact⟨ai,_,by rw[this,fq],aw _ (ah _ _ _ aN t) ((kW G).trans H) (by rw[zy];grind)⟩
 ·have:=run_endLoop (P:=P) t (by grind);exact⟨ag c,_,by rw[this,fq],aM c _ (aj _ _ _ _ aN t) ((kW G).trans H) (by rw[zy];grind)⟩
variable {xs:List α} {St Kp Kx:World->World->Prop} (hseq : ∀ r,xS P gf lb encs xs St Kp Kx ((w.alloc (.deferred (some []))).alloc (.loop r)))
include hseq
theorem Rn
  (j:Nat->aQ->Prop) (l:og->aQ->Prop)(X:∀c i,U w.1+2<=U c.1->St c i->ju (U w.1) c i)(O:∀e c i,j e c->St c i->j e i) (aa:∀h c i,l h c->St c i->l h i)(I:∀e c r z,j e c->c.1[U w.1+1]? = ag (dR r)->j e (eF c (U w.1+1) z))(K:∀h c r z,l h c->c.1[U w.1+1]? = ag (dR r)->l h (eF c (U w.1+1) z))(F:∀r,j 0<|aO (aO w<|dq<|ag [])<|dR r)(C:aQ->aQ->Prop)(ad:∀b r n q o,b.1[U w.1+1]? = ag (dR r)->C (eF b (U w.1+1)<|dR n) o->ju (U w.1) (eF b (U w.1+1)<|dR n) o->Kp b (eF o (U w.1+1)<|dR q))(H:aQ->aQ->Prop)(R:∀b r n q o,b.1[U w.1+1]? = ag (dR r)->H (eF b (U w.1+1)<|dR n) o->ju (U w.1) (eF b (U w.1+1)<|dR n) o->Kx b (eF o (U w.1+1)<|dR q))(L:∀(B e:Nat) (x:α) (A b:aQ),xs[e]? = ag x->j e b->U w.1+2<=U b.1->b.1[U w.1]? = ag (dq<|ag [])->(∃r,b.1[U w.1+1]? = ag (dR r)) ->
   assign.wpIn (fm.inRound B) 0 P (Exit.then (λN M=>M=A/\body.wpIn (fm.inRound B) 0 P (Lf (U w.1) C H (j<|e+1) l b) N b) λ_ _ _=>False) { tmps:=(ps.zip<|encs x).foldl (λac (Y,v)=>ac.setIfInBounds Y v) a.1,defers:=[] } A)(S:∀b,j (E xs) b->b.1[U w.1]? = ag (dq<|ag [])->U w.1+2<=U b.1->Q lV { a with defers:={ target:=.collected<|U w.1,args:=#[] }::a.2 } b)(ae:∀h b,l h b->b.1[U w.1]? = ag (dq<|ag [])->U w.1+2<=U b.1->h.wpIn fm 0 P Q { a with defers:={ target:=.collected<|U w.1,args:=#[] }::a.2 } b):(Code.rangeFunc g ps assign body).wpIn fm 0 P Q a w:=by refine Ro hg eg jP (λb=>(∃r,b=aO (aO w<|dq<|ag []) (dR r))/\j 0 b) (j<|E xs) (λe x b=>xs[e]? = ag x/\j e b) (λe _ b k=>j (e+1) k/\Kp b k) (λe _ b k=>C b k/\j (e+1) k) (λh b k=>l h k/\Kx b k) (λh b k=>H b k/\l h k) l ?_ (λe x c r z d W=>⟨d.1,I e c r z d.2 W⟩) (I _) K (λe x b r n q D d t G u=>⟨I _ _ _ _ u.2 G,ad b r n q D d u.1 t⟩) (λh b r n q D d t G u=>⟨K _ _ _ _ u.2 G,R b r n q D d u.1 t⟩) (λr=>⟨⟨r,af⟩,F r⟩) (λB e x A b d=>L B e x A b d.1 d.2) S ae;rintro r ab V ah ⟨⟨Z,rfl⟩,F⟩ t;have J:∀c i r,lI (U w.1) r c->St c i->lI (U w.1) r i:=λc i r d p=>by{have:=X c i (cj<|(ea.1 d.1).1) p;exact⟨c_ this.2.2 d.1,c_ this.2.1 d.2⟩};refine(hseq Z (U w.1+1) (λe b=>j e b/\lI (U w.1) r b) (λb=>∃h,l h b/\lI (U w.1) (ab h) b) (λe c i d p=>⟨O e c i d.1 p,J _ _ _ d.2 p⟩) (λc i ⟨h,d,y⟩ p=>⟨h,aa h c i d p,J _ _ _ y p⟩) (λe x b T d=>(V e x b ⟨T,d.1⟩ d.2).mono ?_) ⟨F,t⟩);rintro aj k (⟨rfl,d,y⟩|⟨rfl,h,d,y⟩);{exact bG ⟨af,⟨d.1,y⟩,d.2⟩};{exact bE ⟨af,⟨h,d.1,y⟩,d.2⟩}
theorem O2
  (e:Nat->aQ->Prop) (j:og->aQ->Prop)(I:∀c h,U w.1+2<=U c.1->St c h->ju (U w.1) c h)(C:∀d c h,e d c->St c h->e d h) (K:∀i c h,j i c->St c h->j i h)(O:∀d c r q,e d c->c.1[U w.1+1]? = ag (dR r)->e d (eF c (U w.1+1) q))(M:∀i c r q,j i c->c.1[U w.1+1]? = ag (dR r)->j i (eF c (U w.1+1) q))(B:∀r,e 0<|aO (aO w<|dq<|ag [])<|dR r)(p:aQ->aQ->Prop)(N:∀b r l t k,b.1[U w.1+1]? = ag (dR r)->p (eF b (U w.1+1)<|dR l) k->ju (U w.1) (eF b (U w.1+1)<|dR l) k->Kp b (eF k (U w.1+1)<|dR t))(u:aQ->aQ->Prop)(D:∀b r l t k,b.1[U w.1+1]? = ag (dR r)->u (eF b (U w.1+1)<|dR l) k->ju (U w.1) (eF b (U w.1+1)<|dR l) k->Kx b (eF k (U w.1+1)<|dR t))(y:∀(o d:Nat) (x:α) (n b:aQ),xs[d]? = ag x->e d b->U w.1+2<=U b.1 ->
   assign.wpIn (fm.inRound o) 0 P (Exit.then (λA z=>z=n/\body.wpIn (fm.inRound o) 0 P (Lf (U w.1) p u (e<|d+1) j b) A b) λ_ _ _=>False) { tmps:=(ps.zip<|encs x).foldl (λL (J,v)=>L.setIfInBounds J v) a.1,defers:=[] } n)(F:∀b,e (E xs) b->b.1[U w.1]? = ag (dq<|ag [])->U w.1+2<=U b.1->Q lV { a with defers:={ target:=.collected<|U w.1,args:=#[] }::a.2 } b)(R:∀i b,j i b->b.1[U w.1]? = ag (dq<|ag [])->U w.1+2<=U b.1->i.wpIn fm 0 P Q { a with defers:={ target:=.collected<|U w.1,args:=#[] }::a.2 } b):(Code.rangeFunc g ps assign body).wpIn fm 0 P Q a w :=
 Rn hg eg jP hseq e j I C K O M B p N u D (λo d x n b H aN G _ _=>y o d x n b H aN G) F R
theorem alw
  (e:Nat->aQ->Prop) (j:og->aQ->Prop)(J:∀c h,U w.1+2<=U c.1->St c h->ju (U w.1) c h)(C:∀d c h,e d c->St c h->e d h) (L:∀i c h,j i c->St c h->j i h)(R:∀d c r p,e d c->c.1[U w.1+1]? = ag (dR r)->e d (eF c (U w.1+1) p))(N:∀i c r p,j i c->c.1[U w.1+1]? = ag (dR r)->j i (eF c (U w.1+1) p))(B:∀r,e 0<|aO (aO w<|dq<|ag [])<|dR r)(o:aQ->aQ->Prop)(O:∀b r n q k,b.1[U w.1+1]? = ag (dR r)->o (eF b (U w.1+1)<|dR n) k->ju (U w.1) (eF b (U w.1+1)<|dR n) k->Kp b (eF k (U w.1+1)<|dR q))(t:aQ->aQ->Prop)(D:∀b r n q k,b.1[U w.1+1]? = ag (dR r)->t (eF b (U w.1+1)<|dR n) k->ju (U w.1) (eF b (U w.1+1)<|dR n) k->Kx b (eF k (U w.1+1)<|dR q))(y:α->lJ)(F:∀(l:Nat) (x:α) (b:aQ) (u:lJ->aQ->Prop),u (y x) b ->
   assign.wpIn (fm.inRound l) 0 P (Exit.then u λ_ _ _=>False) { tmps:=(ps.zip<|encs x).foldl (λM (K,v)=>M.setIfInBounds K v) a.1,defers:=[] } b)(z:∀(l d:Nat) (x:α) (b:aQ),xs[d]? = ag x->e d b->U w.1+2<=U b.1->body.wpIn (fm.inRound l) 0 P (Lf (U w.1) o t (e<|d+1) j b) (y x) b)(G:∀b,e (E xs) b->b.1[U w.1]? = ag (dq<|ag [])->U w.1+2<=U b.1->Q lV { a with defers:={ target:=.collected<|U w.1,args:=#[] }::a.2 } b)(S:∀i b,j i b->b.1[U w.1]? = ag (dq<|ag [])->U w.1+2<=U b.1->i.wpIn fm 0 P Q { a with defers:={ target:=.collected<|U w.1,args:=#[] }::a.2 } b):(Code.rangeFunc g ps assign body).wpIn fm 0 P Q a w :=
 O2 hg eg jP hseq e j J C L R N B o O t D (λl d x A b I aN H=>F l x A _ ⟨af,z l d x b I aN H⟩) G S
end
def lY(c d e:Nat)(a b:aQ):Prop:=U a.1<=U b.1/\b.1[c]? = a.1[c]?/\b.1[d]? = a.1[d]?/\b.1[e]? = a.1[e]?
def lY.refl(b c d:Nat)(a:aQ):lY b c d a a:=⟨cW _,af,af,af⟩
def lY.trans(a:lY h d o m u)(b:lY h d o u K):lY h d o m K :=
 ⟨cU a.1 b.1,c_ b.2.1 a.2.1,c_ b.2.2.1 a.2.2.1,c_ b.2.2.2 a.2.2.2⟩
def lY.Pb{b:Nat}(a:cB b m u)(i:h<b)(j:d<b)(k:o<b):lY h d o m u :=
 ⟨a.4,a.5 h i,a.5 d j,a.5 o k⟩
def ex(d:Nat)(b c:aQ):Prop:=U b.1<=U c.1/\∀a,d<=a->a<U b.1->c.1[a]? = b.1[a]?
def ex.refl(b:Nat)(a:aQ):ex b a a:=⟨cW _,λ_ _ _=>af⟩
def ex.trans{b:Nat}(a:ex b m u)(i:ex b u K):ex b m K :=
 ⟨cU a.1 i.1,λh aN g=>(i.2 h aN<|e8 g a.1).trans<|a.2 h aN g⟩
def ex.Em(c:a7 m u):ex d m u:=⟨c.4,λg _ b=>c.5 g b⟩
end
section
variable {P:Program} {α:Type}
def Jy(c:Nat)(i:List Nat)(g:aQ->Prop)(d:og->aQ->Prop)(b:aQ):zw->lJ->aQ->Prop
 | .normal,_,a=>ex c b a/\(∀e∈i,a.1[e]? = b.1[e]?)/\g a
 | .ret,_,a=>ex c b a/\d .ret a
 | .exit h,_,a=>ex c b a/\d (.exit h) a
 | .goto j,_,a=>ex c b a/\d (.goto j) a
 | .panic _,_,_=>False
 | .outgrown,_,_=>False
structure eL(d:Nat)(A B:World):Prop where
 os:B.os=A.os
 tape:B.tape=A.tape
 output:B.output=A.output
 size:A.heap.size<=B.heap.size
 block:∀k,k<A.heap.size->k≠d->B.heap[k]? = A.heap[k]?
def eL.CD(a:a7 m u):eL d m u:=⟨a.1,a.2,a.3,a.4,λg e _=>a.5 g e⟩
def eL.put{d:Nat}(a:aQ)(b:Nat)(o:Obj)(c:b=d:=by rfl):eL d a (eF a b o):=⟨af,af,af,aA,λg _ e=>kW G⟩
def eL.below{n:Nat}(a:eL d m u)(h:n<=d)(i:n<=U m.1):cB n m u:=⟨a.1,a.2,a.3,a.4,λe g=>a.5 e G G⟩
def Gy(c:Nat)(i:List Nat)(g:aQ->Prop)(d:og->aQ->Prop)(b:aQ):zw->lJ->aQ->Prop
 | .normal,_,a=>ju c b a/\(∀e∈i,a.1[e]? = b.1[e]?)/\g a
 | .ret,_,a=>ju c b a/\d .ret a
 | .exit h,_,a=>ju c b a/\d (.exit h) a
 | .goto j,_,a=>ju c b a/\d (.goto j) a
 | .panic _,_,_=>False
 | .outgrown,_,_=>False
def PH{P:Prop}(h:P:=by have hs:=hk.1;rw[zy]at hs;refine⟨by simp_all,λk eK hk2=>?_⟩;rw[kW G,hk.2 _ G<|by simp_all,kW G]):P:=h
def IG{c e g:Loop}(h:m.1[d+1]? = ag (dR c))(hk:ex d (eF m (d+1)<|dR e) u):ex (d+2) m (eF u (d+1)<|dR g):=by exact PH
def Rq{k:List Nat}{g:aQ->Prop}{h:og->aQ->Prop}(n:d+2<=U m.1){e:zw}{i:lJ}(a:Jy d k g h m e i u):IH d (λu=>(ex d m u/\∀j∈k,u.1[j]? = m.1[j]?)/\g u) (λl u=>ex d m u/\h l u) m e i u:=by cases e<;>first|exact⟨⟨a.1.1,a.1.2 _ bv G,a.1.2 _ G G⟩,⟨a.1,a.2.1⟩,a.2.2⟩|exact⟨⟨a.1.1,a.1.2 _ bv G,a.1.2 _ G G⟩,a.1,a.2⟩|exact a.elim
section
variable {g:Operand} {ps:Array Tmp} {assign body:Code} {Q:Exit->Act->World->Prop} {a:Act} {w:World} {gf:Nat} {lb:Array Value} (hg:a.eval g=.func (.func gf) #[] lb) (eg : ∀ args w,(callFunc gf args).run P w=.ok (.enter gf args) w) {encs:α->Array Value} (jP : ∀ x,(encs x).size=ps.size) {xs:List α} {St Kp Kx:World->World->Prop} (hseq : ∀ r,xS P gf lb encs xs St Kp Kx ((w.alloc (.deferred (some []))).alloc (.loop r))) (ks:List Nat) (rP : ∀ k∈ks,k<w.heap.size)
include hg eg jP hseq rP
theorem KF(u cL:aQ->aQ->Prop)(F:∀c e,U w.1+2<=U c.1->St c e->ju (U w.1) c e/\u c e)(H:∀c r y,c.1[U w.1+1]? = ag (dR r)->u c (eF c (U w.1+1) y))(N:∀r,u w<|aO (aO w<|dq<|ag [])<|dR r)(ab:∀b r n o j,b.1[U w.1+1]? = ag (dR r)->ju (U w.1) (eF b (U w.1+1)<|dR n) j->cL (eF b (U w.1+1)<|dR n) j->(∀k∈ks,(eF j (U w.1+1)<|dR o).1[k]? = b.1[k]?)->Kp b (eF j (U w.1+1)<|dR o))(T:∀b r n o j,b.1[U w.1+1]? = ag (dR r)->cL (eF b (U w.1+1)<|dR n) j->Kx b (eF j (U w.1+1)<|dR o))(p:Nat->aQ->Prop) (t:og->aQ->Prop)(C:∀i c e,p i c->U w.1<=U c.1->u c e->p i e) (J:∀h c e,t h c->U w.1+2<=U c.1->u c e->t h e)(S:p 0 w)(K:∀(B i:Nat) (x:α) (z b:aQ),xs[i]? = ag x->p i b->U w.1+2<=U b.1->b.1[U w.1]? = ag (dq<|ag [])->(∃r,b.1[U w.1+1]? = ag (dR r)) ->
   assign.wpIn (fm.inRound B) 0 P (Exit.then (λO L=>L=z/\body.wpIn (fm.inRound B) 0 P (IH (U w.1) (λq=>(cL b q/\∀k∈ks,q.1[k]? = b.1[k]?)/\p (i+1) q) (λh q=>cL b q/\t h q) b) O b) λ_ _ _=>False) { tmps:=(ps.zip<|encs x).foldl (λaa (Z,v)=>aa.setIfInBounds Z v) a.1,defers:=[] } z)(W:∀b,p (E xs) b->b.1[U w.1]? = ag (dq<|ag [])->U w.1+2<=U b.1->Q lV { a with defers:={ target:=.collected<|U w.1,args:=#[] }::a.2 } b)(ac:∀h b,t h b->b.1[U w.1]? = ag (dq<|ag [])->U w.1+2<=U b.1->h.wpIn fm 0 P Q { a with defers:={ target:=.collected<|U w.1,args:=#[] }::a.2 } b):(Code.rangeFunc g ps assign body).wpIn fm 0 P Q a w:=by refine Rn hg eg jP hseq (λi b=>p i b/\U w.1+2<=U b.1) (λh b=>t h b/\U w.1+2<=U b.1) (λc e d l=>(F c e d l).1) (λi c e d l=>have:=F c e d.2 l;⟨C i c e d.1 G this.2,cU d.2 this.1.1⟩) (λh c e d l=>have:=F c e d.2 l;⟨J h c e d.1 d.2 this.2,cU d.2 this.1.1⟩) (λi c r y d D=>⟨C i c _ d.1 G<|H c r y D,by simp_all⟩) (λh c r y d D=>⟨J h c _ d.1 d.2<|H c r y D,by simp_all⟩) (λr=>⟨C 0 w _ S bv<|N r,aA⟩) (λc e=>cL c e/\∀k∈ks,e.1[k]? = c.1[k]?) (λb r n o j d A V=>ab b r n o j d V A.1 λk I=>?_) cL (λb r n o j d A _=>T b r n o j d A) (λB i x z b Y aN l M X=>F2 (K B i x z b Y aN.1 l M X) λR _ _ d=>?_) (λb d=>W b d.1) λh b d=>ac h b d.1;{have:=rP k I;rw[kW G,A.2 k I,kW G]};{cases R<;>first|exact⟨d.1,d.2.1,d.2.2,cU l d.1.1⟩|exact d.elim}
theorem zZ
  (H:∀b c,U w.1+2<=U b.1->St b c->cB (U w.1+2) b c)(O:∀b c,(∀k∈ks,c.1[k]? = b.1[k]?)->ex (U w.1+2) b c->Kp b c)(C:∀b c,ex (U w.1+2) b c->Kx b c)(i:Nat->aQ->Prop) (l:og->aQ->Prop)(B:∀h b c,i h b->cB (U w.1) b c->i h c) (M:∀j b c,l j b->cB (U w.1) b c->l j c)(A:i 0 w)(t:∀(p h:Nat) (x:α) (n d:aQ),xs[h]? = ag x->i h d->U w.1+2<=U d.1 ->
   assign.wpIn (fm.inRound p) 0 P (Exit.then (λz u=>u=n/\body.wpIn (fm.inRound p) 0 P (Jy (U w.1) ks (i<|h+1) l d) z d) λ_ _ _=>False) { tmps:=(ps.zip<|encs x).foldl (λN (J,v)=>N.setIfInBounds J v) a.1,defers:=[] } n)(D:∀d,i (E xs) d->d.1[U w.1]? = ag (dq<|ag [])->U w.1+2<=U d.1->Q lV { a with defers:={ target:=.collected<|U w.1,args:=#[] }::a.2 } d)(R:∀j d,l j d->d.1[U w.1]? = ag (dq<|ag [])->U w.1+2<=U d.1->j.wpIn fm 0 P Q { a with defers:={ target:=.collected<|U w.1,args:=#[] }::a.2 } d):(Code.rangeFunc g ps assign body).wpIn fm 0 P Q a w :=
 KF hg eg jP hseq ks rP (cB<|U w.1) (ex<|U w.1) (λb c e o=>have:=H b c e o;⟨⟨this.4,this.5 _ G,this.5 _ G⟩,bV this G⟩) (λb r I e=>belowK_b (w:=w) bv b _ _ I G e af af) (λr=>(ct cd bv _).alloc aA _)
  (λd r K L y e _ q rP=>O _ _ rP<|IG e q) (λd r K L y e q=>C _ _<|IG e q) i l (λh b c e _=>B h b c e) (λj b c e _=>M j b c e) A (λp h x n d F aN o _ _=>F2 (t p h x n d F aN o) λ_ _ _=>Rq o) D R
theorem alx
  (H:∀b d,St b d->a7 b d)(O:∀b d,(∀k∈ks,d.1[k]? = b.1[k]?)->ex (U w.1+2) b d->Kp b d)(C:∀b d,ex (U w.1+2) b d->Kx b d)(h:Nat->aQ->Prop) (i:og->aQ->Prop)(B:∀e b d,h e b->U w.1<=U b.1->eL (U w.1+1) b d->h e d) (M:∀j b d,i j b->U w.1+2<=U b.1->eL (U w.1+1) b d->i j d)(A:h 0 w)(t:∀(p e:Nat) (x:α) (l c:aQ),xs[e]? = ag x->h e c->U w.1+2<=U c.1 ->
   assign.wpIn (fm.inRound p) 0 P (Exit.then (λz u=>u=l/\body.wpIn (fm.inRound p) 0 P (Jy (U w.1) ks (h<|e+1) i c) z c) λ_ _ _=>False) { tmps:=(ps.zip<|encs x).foldl (λN (J,v)=>N.setIfInBounds J v) a.1,defers:=[] } l)(D:∀c,h (E xs) c->c.1[U w.1]? = ag (dq<|ag [])->U w.1+2<=U c.1->Q lV { a with defers:={ target:=.collected<|U w.1,args:=#[] }::a.2 } c)(R:∀j c,i j c->c.1[U w.1]? = ag (dq<|ag [])->U w.1+2<=U c.1->j.wpIn fm 0 P Q { a with defers:={ target:=.collected<|U w.1,args:=#[] }::a.2 } c):(Code.rangeFunc g ps assign body).wpIn fm 0 P Q a w :=
 KF hg eg jP hseq ks rP (eL<|U w.1+1) (ex<|U w.1) (λb d n o=>have:=H b d o;⟨⟨this.4,this.5 _ G,this.5 _ G⟩,eL.CD this⟩) (λb r I _=>eL.put b _ I) (λr=>eL.CD<|(ct cd bv _).alloc aA _)
  (λc r K L y n _ q rP=>O _ _ rP<|IG n q) (λc r K L y n q=>C _ _<|IG n q) h i B M A (λp e x l c F aN o _ _=>F2 (t p e x l c F aN o) λ_ _ _=>Rq o) D R
theorem JN
  (J:∀b d,St b d->a7 b d)(O:∀b d,(∀k∈ks,d.1[k]? = b.1[k]?)->U b.1<=U d.1->Kp b d)(C:∀b d,Kx b d)(i:Nat->aQ->Prop) (j:og->aQ->Prop)(B:∀h b d,i h b->U w.1<=U b.1->eL (U w.1+1) b d->i h d) (M:∀l b d,j l b->U w.1+2<=U b.1->eL (U w.1+1) b d->j l d)(A:i 0 w)(q:∀(o h:Nat) (x:α) (n c:aQ),xs[h]? = ag x->i h c->U w.1+2<=U c.1->c.1[U w.1]? = ag (dq<|ag [])->(∃r,c.1[U w.1+1]? = ag (dR r)) ->
   assign.wpIn (fm.inRound o) 0 P (Exit.then (λy t=>t=n/\body.wpIn (fm.inRound o) 0 P (Gy (U w.1) ks (i<|h+1) j c) y c) λ_ _ _=>False) { tmps:=(ps.zip<|encs x).foldl (λN (L,v)=>N.setIfInBounds L v) a.1,defers:=[] } n)(F:∀c,i (E xs) c->c.1[U w.1]? = ag (dq<|ag [])->U w.1+2<=U c.1->Q lV { a with defers:={ target:=.collected<|U w.1,args:=#[] }::a.2 } c)(R:∀l c,j l c->c.1[U w.1]? = ag (dq<|ag [])->U w.1+2<=U c.1->l.wpIn fm 0 P Q { a with defers:={ target:=.collected<|U w.1,args:=#[] }::a.2 } c):(Code.rangeFunc g ps assign body).wpIn fm 0 P Q a w :=
 KF hg eg jP hseq ks rP (eL<|U w.1+1) (λ_ _=>True) (λb d e p=>have:=J b d p;⟨⟨this.4,this.5 _ G,this.5 _ G⟩,eL.CD this⟩) (λb r K _=>eL.put b _ K) (λr=>eL.CD<|(ct cd bv _).alloc aA _)
  (λc r T V S e D _ rP=>O _ _ rP (by have:=D.1;simp_all)) (λ_ _ _ _ _ _ _=>C _ _) i j B M A (λo h x n c I aN p u H=>F2 (q o h x n c I aN p u H) λz _ _ e=>by cases z<;>first|exact⟨e.1,⟨cE,e.2.1⟩,e.2.2⟩|exact⟨e.1,cE,e.2⟩|exact e.elim) F R
theorem aly
  (B:∀b d,St b d->a7 b d)(G:∀b d,(∀k∈ks,d.1[k]? = b.1[k]?)->U b.1<=U d.1->Kp b d)(u:∀b d,Kx b d)(h:Nat->aQ->Prop) (i:og->aQ->Prop)(t:∀e b d,h e b->U w.1<=U b.1->eL (U w.1+1) b d->h e d) (D:∀j b d,i j b->U w.1+2<=U b.1->eL (U w.1+1) b d->i j d)(r:h 0 w)(o:∀(n e:Nat) (x:α) (l c:aQ),xs[e]? = ag x->h e c->U w.1+2<=U c.1 ->
   assign.wpIn (fm.inRound n) 0 P (Exit.then (λq p=>p=l/\body.wpIn (fm.inRound n) 0 P (Gy (U w.1) ks (h<|e+1) i c) q c) λ_ _ _=>False) { tmps:=(ps.zip<|encs x).foldl (λF (C,v)=>F.setIfInBounds C v) a.1,defers:=[] } l)(y:∀c,h (E xs) c->c.1[U w.1]? = ag (dq<|ag [])->U w.1+2<=U c.1->Q lV { a with defers:={ target:=.collected<|U w.1,args:=#[] }::a.2 } c)(H:∀j c,i j c->c.1[U w.1]? = ag (dq<|ag [])->U w.1+2<=U c.1->j.wpIn fm 0 P Q { a with defers:={ target:=.collected<|U w.1,args:=#[] }::a.2 } c):(Code.rangeFunc g ps assign body).wpIn fm 0 P Q a w :=
 JN hg eg jP hseq ks rP B G u h i t D r (λn e x l c A aN z _ _=>o n e x l c A aN z) y H
end
/-! ### a block of one cell -/
def cy(a:aQ)(b:Nat)(v:bm)(c:d_):Prop:=a.1[b]? = ag (aS #[v] c)
def cy.cell{c:Nat}(b:cy m c e z):aD m (M c 0)=ag e:=by unfold cy at b;simp[aD,b]
def cy.frozen{t:d_}(h:cy m d e t):io m (M d 0)=ao:=by unfold cy at h;exact tb
def cy.lt{b:Nat}(c:cy m b e z):b<U m.1:=(ea.1 c).1
def cy.set{b:aQ}{a:Nat}{t:d_}(d:cy b a e t)(c:bm):cy (a_ b ⟨a,0,ai⟩ c) a c t:=by unfold cy at *;simp only[a_];grind
def cy.below{k n:Nat}(d:cy m k e z)(c:cB n m u)(g:k<n):cy u k e z:=(c.5 k g).trans d
def cy.put{d:Nat}{o:Obj}(c:cy m h e z)(g:h≠d):cy (eF m d o) h e z:=(kW g).trans c
def cy.qf(a:aQ)(v:bm)(b:d_):cy (aO a<|aS #[v] b) (U a.1) v b:=du a _
def cy.alloc(c:cy m d e z)(t:Obj):cy (aO m t) d e z:=(dT m t d c.lt).trans c
def ex.setCell(a:aQ)(v:bm)(e:h<d):ex d a (a_ a ⟨h,0,ai⟩ v) :=
 ⟨aA,λg c _=>dJ _ _ _ _<|by grind⟩
end
def mT(b a):eL b a a:=⟨af,af,af,cW _,λ_ _ _=>af⟩
def Ce(a:eL d m u)(b:eL d u K):eL d m K :=
 ⟨c_ b.1 a.1,c_ b.2 a.2,c_ b.3 a.3,cU a.4 b.4,λi aN h=>(b.5 i (e8 aN a.4) h).trans<|a.5 i aN h⟩
def kI(c:eL d m u)(o v):eL d m (a_ u ⟨d,o,ai⟩ v) :=
 Ce c ⟨af,af,af,aA,λg _ e=>dJ _ _ _ _ e⟩
def eB(c:aQ)(a:Nat)(s:ap)(b:Bool):Prop:=c.1[a]? = ag (aS #[amz<|O s,aG b] 215)
section
variable {w:World} {b:Nat} {s:ap} {br:Bool}
def eB.lt(a:eB w b s br):b<U w.1:=(ea.1 a).1
def eB.cells(a:eB w b s br):aD w (M b 0)=ag (amz<|O s)/\aD w (M b 1)=ag (aG br):=by unfold eB at a;constructor<;>simp[aD,a]
def eB.frozen(h:eB w b s br)(a):io w (M b a)=ao:=by unfold eB at h;exact tb
def eB.set0(c:eB w b s br)(a):eB (a_ w ⟨b,0,ai⟩<|amz<|O a) b a br:=by unfold eB at *;exact Dk
def eB.set1(c:eB w b s br)(a):eB (a_ w ⟨b,1,ai⟩<|aG a) b s a:=by unfold eB at *;exact Dk
def eB.kept{w'}(c:eB w b s br)(e:eL d w w')(a:b≠d):eB w' b s br:=(e.5 b c.lt a).trans c
end
def z8(s a)(b:a<=E s):(O s).extract 0 a=O (amA a s):=by apply KN;simp[O]
def Cf(s a)(b:d=E s):(O s).extract a d=O (bh a s):=by subst b;apply KN;simp[O];exact oT aA
def KH(a){g}(b:eB m d n g)(k:a<=E n)(l:E n<=1000000000):bd aK 148 #[N d,J a] m λj e=>j=bg (amz<|O<|amA a n)/\eB e d (bh a n) g/\eL d m e/\U e.1=U m.1:=by have:=b.cells;have:=b.frozen;replace b:=ae b;have:=de n;have i:=ae<|z8 n a k;have h:=ae<|Cf n a af;have:¬E n<a:=G;go_wp2;go_ret;rw[V h];refine⟨?_,b.set0 _,kI (mT _ _) _ _,aA⟩;show bg (amz<|(O n).extract 0 a)=_;rw[V i]
def KI(c){g}(a:eB m d n g)(j:E n<c)(i:c<=1000000000):bd aK 148 #[N d,J c] m λh e=>h=bg (amz<|O [])/\eB e d [] aE/\eL d m e/\U e.1=U m.1:=by have:=a.cells;have:=a.frozen;replace a:=ae a;have:=de n;go_wp2;go_ret;exact⟨af,(a.set1 _).set0 [],kI (kI (mT _ _) _ _) _ _,aA⟩
def alA{a s e}(l:eB m d (a::s) e)(q:E s<1000000000):bd aK 198 #[N d] m λj c=>j=bg (J<|be a)/\eB c d s e/\eL d m c/\U c.1=U m.1:=by have g:=ae (KH 1 l aA<|by grind);go_in;go_wp21;refine g.m λr ⟨o,n,p⟩=>?_;have i:=ae<|cv o<|cv n p;have k:O (List.take 1 (a::s))=⟨#[a]⟩:=af;rw[k];have h:ax (wrap64 (be a:Int)=be a):=by{have:=gY a;show wrap64 _=_;unfold wrap64;omega};go_wp2;go_ret;refine⟨?_,i⟩;show bg (J<|wrap64 (be a:Int))=_;rw[V h]
def alB{g}(j:eB m d [] g):bd aK 198 #[N d] m λh c=>h=bg (J 0)/\eB c d [] aE/\eL d m c/\U c.1=U m.1:=by have b:=ae<|KI 1 j aA G;go_in;go_wp21;refine b.m λo ⟨l,k,n⟩=>?_;have e:=ae<|cv l<|cv k n;have i:O []=⟨#[]⟩:=af;rw[i];go_wp2;go_ret;exact⟨af,e⟩
def fe:ap->Bool->Nat×ap×Bool
 | [],_=>(0,[],aE)
 | b::s,a=>(be b,s,a)
def Ci(s a):(fe s a).1<256:=by cases s<;>simp[fe];exact gY _
def vP(s a):E (fe s a).2.1<=E s:=by cases s<;>simp[fe]
def rf(s b)(e:eB m d s b)(i:E s<=1000000000):bd aK 198 #[N d] m λg c=>g=bg (J (fe s b).1)/\eB c d (fe s b).2.1 (fe s b).2.2/\eL d m c/\U c.1=U m.1:=by
 cases s with
 | nil=>exact alB e
 | cons h s=>exact alA e fN
def DZ(a b:Nat)(c:a<9223372036854775808)(d:b<9223372036854775808):bits .or am (a:Int) (b:Int)=((a ||| b:Nat):Int):=by
 have:a ||| b<2 ^ 63:=Eg G G
 show am.wrap ((BitVec.ofInt 64 (a:Int) ||| BitVec.ofInt 64 (b:Int)).toNat:Int)=_;rw[BitVec.toNat_or,yv a G,yv b G];generalize a ||| b=e at *
 rw[wL];omega
def alC(b:d<256)(e:h<256):bits .or am ((d:Int)*256) h=((d*256+h:Nat):Int):=by have c:((d:Int)*256)=((d*256:Nat):Int):=G;rw[c,DZ _ _ G G,<- Nat.shiftLeft_eq d 8,RP G]
def fj(s:ap)(c:Bool):Nat×ap×Bool :=
 let a:=fe s c
 let b:=fe a.2.1 a.2.2
 (a.1*256+b.1,b.2.1,b.2.2)
def nD(a)(z:eB m d n a)(t:E n<=1000000000):bd aK 129 #[N d] m λy k=>y=bg (J (fj n a).1)/\eB k d (fj n a).2.1 (fj n a).2.2/\eL d m k/\U k.1=U m.1:=by have l:=ae<|rf n a z t;have p:=ae<|vP n a;have q:=Ci n a;have e:ax (fj n a=((fe n a).1*256+(fe (fe n a).2.1 (fe n a).2.2).1,(fe (fe n a).2.1 (fe n a).2.2).2.1,(fe (fe n a).2.1 (fe n a).2.2).2.2)):=af;generalize fe n a=A at *;obtain⟨u,j,c⟩:=A;simp only at l p q e;go_in;go_wp21;refine l.m λF ⟨h,g,i⟩=>?_;have s:=ae<|rf j c h<|cU (V p) t;have o:=ae<|cv g i;have r:=Ci j c;generalize fe j c=B at *;obtain⟨w,D,C⟩:=B;simp only at s r e;go_wp21;refine s.m λG ⟨h,g,i⟩=>?_;have x:=ae<|cv h<|cv (Ce o.1 g)<|c_ i o.2;go_wp2;go_ret;rw[V e];refine⟨?_,x⟩;show bg (J<|bits .or am ((u:Int)*256) w)=bg (J ((u*256+w:Nat):Int));rw[alC q r]
def alD(a b):kZ a b<=a:=by
 unfold kZ rX;cases b with
 | nil=>simp
 | cons c e =>{
 simp only[];split;{simp};{
 cases d:oy a 0 (c::e)with
 | none=>simp
 | some m=>simpa using R2 _ _ _ d (eb _)}}
def alE(g:d3 m)(e:th m d 0<|jl 32 T)(h:cf T<=3000):bd aK 170 #[J p,bC d 0 (E<|jl 32 T)<|E<|jl 32 T] m (cQ (aG<|eG p<|I 32 T.1.1) m):=by rw[<- tK];refine akP g e (λj i=>cU (Eo 32 T j i) h) ?_;have:=pN 32 T.1.1;rw[<- tK,fC,qV]at this;omega
def P0{P:Prop}(h:P:=by simp[dr,results99,go_sem,ti,D.zN,D.zero,D.owner,D.aP,D.type,D.data,O, bc,r0,r1,r2,r3,hz0]):P:=h
def alF{c b e d}(w:d3 m)(L:cf T<=3000)(F:ss T=[c,b,e,d]):bd aK 99 #[amz T] m λB n=>B=bg (ti<|if kr c.1.1&&fY 86400 b.1.1&&eG (i_ e.1.1) (I 32 d.1.1)then ag (c.1.1,kZ 86400 b.1.1,i_ e.1.1,d.1.1)else ai)/\a7 m n:=by
 have k:=R4 (aO m<|aS #[amz ⟨#[]⟩,ak am 0,ak am 0,amz ⟨#[]⟩] 47) (w.alloc _) L;have N:=alt T;have h:=alu (aO m<|aS #[amz ⟨#[]⟩,ak am 0,ak am 0,amz ⟨#[]⟩] 47) (ss T)<|min 4<|cf T+1;rw[F]at k N h;have j:d3 (aO (aO m<|aS #[amz ⟨#[]⟩,ak am 0,ak am 0,amz ⟨#[]⟩] 47)<|aS (Lib.cellsOf [c,b,e,d]<|min 4<|cf T+1) 9):=(w.alloc _).alloc _;have C:a7 m (aO (aO m<|aS #[amz ⟨#[]⟩,ak am 0,ak am 0,amz ⟨#[]⟩] 47)<|aS (Lib.cellsOf [c,b,e,d]<|min 4<|cf T+1) 9) := (ct cd bv _).alloc aA _;have r0:aD (aO (aO m<|aS #[amz ⟨#[]⟩,ak am 0,ak am 0,amz ⟨#[]⟩] 47)<|aS (Lib.cellsOf [c,b,e,d]<|min 4<|cf T+1) 9) (M (U m.1) 0)=ag (amz ⟨#[]⟩):=aA;have r1:aD (aO (aO m<|aS #[amz ⟨#[]⟩,ak am 0,ak am 0,amz ⟨#[]⟩] 47)<|aS (Lib.cellsOf [c,b,e,d]<|min 4<|cf T+1) 9) (M (U m.1) 1)=ag (J 0):=aA;have r2:aD (aO (aO m<|aS #[amz ⟨#[]⟩,ak am 0,ak am 0,amz ⟨#[]⟩] 47)<|aS (Lib.cellsOf [c,b,e,d]<|min 4<|cf T+1) 9) (M (U m.1) 2)=ag (J 0):=aA;have r3:aD (aO (aO m<|aS #[amz ⟨#[]⟩,ak am 0,ak am 0,amz ⟨#[]⟩] 47)<|aS (Lib.cellsOf [c,b,e,d]<|min 4<|cf T+1) 9) (M (U m.1) 3)=ag (amz ⟨#[]⟩):=aA;have:∀P,io (aO (aO m<|aS #[amz ⟨#[]⟩,ak am 0,ak am 0,amz ⟨#[]⟩] 47)<|aS (Lib.cellsOf [c,b,e,d]<|min 4<|cf T+1) 9) (M (U m.1) P)=ao:=aA;have:U m.1+1<U (aO (aO m<|aS #[amz ⟨#[]⟩,ak am 0,ak am 0,amz ⟨#[]⟩] 47)<|aS (Lib.cellsOf [c,b,e,d]<|min 4<|cf T+1) 9).1:=aA;rw[gd]at h k;generalize aO (aO m<|aS #[amz ⟨#[]⟩,ak am 0,ak am 0,amz ⟨#[]⟩] 47) (aS (Lib.cellsOf [c,b,e,d]<|min 4<|cf T+1) 9)=i at *;have:co i (U m.1+1) 0 (amz c):=h.2 0 aA;have:co i (U m.1+1) 1 (amz b):=h.2 1 aA;have:co i (U m.1+1) 2 (amz e):=h.2 2 aA;have:co i (U m.1+1) 3 (amz d):=h.2 3 aA;have:cf c<=3000:=by grind
 have:cf b<=3000:=by grind
 have Q:cf d<=3000:=by grind
 have u:cf c<=hC:=m9
 have y:cf b<=hC:=m9
 simp only[ey,h8,g8,Nat.reduceAdd]at k;have hz0:U m.1<U i.1:=G;have p:=ae k;have l:=ae C;cases S:kr c.1.1;{go_in;go_wp21;refine p.m ?_;rintro n rfl;go_wp21;refine(Er j u).m λz g=>?_;have⟨bc,XV⟩:=Gw g;go_wp2;exact eh (v:=ti ai) (by simp[dr,results99,go_sem,ti,D.zN,D.zero,D.owner,D.aP,D.type,D.data,O,bc,r0,r1,r2,r3,hz0]) af ⟨aA,((((bN l<|bV g G).setCell bv _).setCell bv _).setCell bv _).setCell bv _⟩};cases a:fY 86400 b.1.1;{go_in;go_wp21;refine p.m ?_;rintro n rfl;go_wp21;refine(Er j u).m λz g=>?_;have⟨bc,XV⟩:=Gw g;go_wp21;refine(Lb 86400 y G).m ?_;rintro o rfl;go_wp21;refine(RZ).m ?_;rintro o rfl;go_wp2;exact eh (v:=ti ai) P0 af ⟨aA,((((bN l<|bV g G).setCell bv _).setCell bv _).setCell bv _).setCell bv _⟩};cases V:eG (i_ e.1.1)<|I 32 d.1.1;all_goals(
 go_in;go_wp21;refine p.m ?_;rintro n rfl;go_wp21;refine(Er j u).m λz g=>?_;have bc:=Gw g;have x:=j.below g;go_wp21;refine(Lb 86400 y G).m ?_;rintro o rfl;go_wp21;refine(RZ).m ?_;rintro o rfl;go_wp21;refine(vO d 32 x G).m λR r=>?_;have q:a7 o R:=r▸ct cd bv _
 have A:=r▸Ep _ _
 have K:=x.below q;clear r;have:(kZ 86400 b.1.1:Int)<=86400:=cj<|alD 86400 b.1.1
 go_wp2_with fail;refine(alE K A Q).m ?_;intro W H;have t:=bN g<|(bN q<|bV H q.4).mono g.4;have bc:=Gw t;go_wp21)
 {exact eh (v:=ti ai) P0 af ⟨aA,((((bN l<|bV t G).setCell bv _).setCell bv _).setCell bv _).setCell bv _⟩};{go_region;all_goals(go_wp2;exact eh (v:=ti<|ag (c.1.1,kZ 86400 b.1.1,i_ e.1.1,d.1.1)) (by simp[dr,results99,go_sem,ti,D.zN,D.owner,D.aP,D.type,D.data,Lc,bc,r0,r1,r2,r3,hz0]) af ⟨aA,(((((bN l<|bV t G).setCell bv _).setCell bv _).setCell bv _).setCell bv _).drew⟩)}
def Rz(e:d3 m)(g:cf T<=3000):bd aK 99 #[amz T] m (cQ (ti<|jx T.1.1) m):=by
 by_cases b:E (ss T)=4;{
 match h:ss T,b with
 | [i,j,k,l],_ =>
 have a:jx T.1.1=if kr i.1.1&&fY 86400 j.1.1&&eG (i_ k.1.1) (I 32 l.1.1)then ag (i.1.1,kZ 86400 j.1.1,i_ k.1.1,l.1.1)else ai:=by{rw[jx,<- Le,h];rfl}
 rw[a];exact alF e g h};{have a:jx T.1.1=ai:=by{unfold jx;split;{rename_i d;rw[<- Le]at d;exact absurd (by have:=fE List.length d;grind) b};{rfl}};rw[a];exact alv e g b}
def kt:List ap->Option (List D)
 | []=>ag []
 | a::c=>(jx a).bind λb=>(kt c).map (b :: ·)
def mf:ap:=[111,114,105,103,105,110,32]
def vQ:List ap->Option (ap×List D)
 | []=>ai
 | f::b=>if Lib.hasPrefix f mf&&fI (pF f mf)then(kt b).map (λa=>(pF f mf,a))else ai
def kK(a:ap):Option (ap×List D) :=
 if Lib.hasSuffix a [10]then vQ (I 10<|Lib.trimSuffix a [10])else ai
def jL(a:List D):List bm:=a.flatMap D.bz
def alG{a:D}:jL (j++[a])=jL j++a.bz:=by simp[jL]
def KK(a:List D):E (jL a)=E a*4:=by
 induction a with
 | nil=>rfl
 | cons c d b=>simp only[jL,l5,dE]at *; rw[b];simp[D.bz];omega
def tv(c:aQ)(b:Nat)(v:bm)(a:List D):Prop:=c.ownsRow b 47 4 v (E a) (jL a)/\(v=bY ↔ a=[])
def jG{size:Nat}{v:List bm}(i:m.ownsRow h o size e d v)(a:a7 m u):u.ownsRow h o size e d v :=
 i.kept (row:=ai) ⟨a.1,a.2,a.3,a.4,λk j _=>a.5 k j⟩ (Classical.em _)
def z_{size g:Nat}{i:List bm}(a:m.ownsRow h d size e g i)(t:o<=h):m.ownsRow o d size e g i:=by obtain⟨c,a|⟨l,j,k,w,u,n,v,p,q,r⟩⟩:=a;{exact⟨c,bG a⟩};{exact⟨c,bE ⟨l,j,k,w,cU t u,n,v,p,q,r⟩⟩}
def tv.below(b:tv m d e j)(g:a7 m u):tv u d e j:=⟨jG b.1 g,b.2⟩
def tv.base(c:tv m d e j)(g:h<=d):tv m h e j:=⟨z_ c.1 g,c.2⟩
def alH(c:d3 m)(d:cf T<=3000)(b:jx T.1.1=ai):bd aK 99 #[amz T] m (cQ (bX #[ci #[amz ⟨#[]⟩,J 0,J 0,amz ⟨#[]⟩],aG ao]) m):=by have:=Rz c d;rw[b]at this;exact this
def alI{a:D}(d:d3 m)(e:cf T<=3000)(c:jx T.1.1=ag a):bd aK 99 #[amz T] m (cQ (bX #[ci #[amz<|O a.owner,J a.aP,J a.type,amz<|O a.data],aG aE]) m):=by have:=Rz d e;rw[c]at this;exact this
def Cj:(aK.info? 47).map (λa=>(a.8,a.3,a.4))=ag (ag<|ci #[amz ⟨#[]⟩,J 0,J 0,amz ⟨#[]⟩],4,48):=b8
def Gz:aK.underlying 41=ag (.slice 47):=b8
def D0:bm:=bX #[amz ⟨#[]⟩,bY,aG ao]
def KL(a:Option<|ap×List D)(c:Nat)(b:Ending)(e:aQ):Prop :=
 match a with
 | none=>b=bg D0
 | some (a,d)=>∃v,b=bg (bX #[amz<|O a,v,aG aE])/\tv e c v d
def KM{a:Ending}(c:a=bg D0):KL ai d a m:=c
def alJ(c:cf T<=3000)(b:Lib.hasSuffix T.1.1 [10]=ao):bd aK 56 #[amz T] m (cQ D0 m):=by go_in;go_wp2_with (go_at_call 96;refine(Tryz.strings_CutSuffix T _ _ G).m ?_;rintro d rfl);go_ret3;exact FS
def alK(a b:ap):E (Lib.trimSuffix a b)<=E a:=by unfold Lib.trimSuffix;split;{simp};{exact cW _}
def alL(a b:ap):E (pF a b)<=E a:=by unfold pF;split;{simp};{exact cW _}
def alM(Z:d3 m)(bf:cf T<=3000)(h:Lib.hasSuffix T.1.1 [10]=aE):bd aK 56 #[amz T] m λt q=>KL (kK T.1.1) (U m.1) t q/\a7 m q:=by
 have N:ax (kK T.1.1=vQ (I 10<|Lib.trimSuffix T.1.1 [10])):=by rw[kK,ax,b7 h]
 have hcut:=Tryz.strings_CutSuffix T ⟨#[10]⟩ m G;rw[h]at hcut;have⟨body,SE⟩:=dK (⟨dl<|Lib.trimSuffix T.1.1 [10]⟩:ByteArray);have ah:body.1.1=Lib.trimSuffix T.1.1 [10]:=by rw[<- SE]
 have R:cf body<=3000:=by{have:=alK T.1.1 [10];rw[<- ah,qV,qV]at this;omega};have aM:bd aK 96 #[amz T,amz ⟨#[10]⟩] m λt q=>t=bg (bX #[amz body,aG aE])/\q=m:=by rw[<- SE];exact hcut
 rw[<- ah,<- tK]at N;have aj:=ae<|Eo 10 body;have aR:E (jl 10 body)<=3001:=by{have:=pN 10 body.1.1;rw[<- tK,fC,qV]at this;omega};have W:=Ep m<|jl 10 body;have P:=vO body 10 Z G;have X:a7 m (aO m<|aS (dl<|(jl 10 body).map amz) 9):=ct cd bv _;have av:1<=E (jl 10 body):=cj<|RW 10 body
 generalize jl 10 body=au at *;cases au with
 | nil=>simp at av
 | cons f a =>
 have a9:_:=W.2 0 aA;have:=cU (aj f aA) R;have aX:∀w∈a,cf w<=3000:=λw aY=>cU (aj w<|by simp[aY]) R;have aq:=ae aX;generalize aO m (aS (dl<|(f::a).map amz) 9)=g at *;have:aD g (M (U m.1) 0)=ag (amz f):=a9;have y:=Z.below X;have bc:(E a:Int)<=3000:=by simp at aR;omega
 rw[ey]at P;have B:=ae aM;have x:=ae P;have i:=ae X;have aH:=ae W;have a2:=Tryz.strings_CutPrefix f ⟨#[111,114,105,103,105,110,32]⟩ g;have⟨org,ac6⟩:=dK (⟨dl<|pF f.1.1 mf⟩:ByteArray);have K:org.1.1=pF f.1.1 mf:=by rw[<- ac6]
 have F:cf org<=hC:=by{have:=alL f.1.1 mf;rw[<- K,qV,qV]at this;unfold hC;omega};have⟨hp,XX⟩:=bi<|Lib.hasPrefix f.1.1 mf;have aw:bd aK 98 #[amz f,amz ⟨#[111,114,105,103,105,110,32]⟩] g λt q=>t=bg (bX #[amz org,aG hp])/\q=g:=by rw[<- ac6,XX];exact a2
 have z:=ae aw;have k:ax (kK T.1.1=if hp&&fI org.1.1 then(kt (b9 (·.data.1) a)).map (λe=>(org.1.1,e))else ai):=by{rw[ax,V N,nr,vQ,XX,K]};clear N ac6 K XX;cases hp;{go_in;go_wp2_with fail;refine B.m ?_;rintro m rfl;go_wp2_with fail;refine x.m ?_;rintro g rfl;go_wp2_with fail;refine z.m ?_;rintro g rfl;go_wp2;go_ret3;rw[V k];exact⟨KM af,i⟩};cases ab:fI org.1.1;{go_in;go_wp2_with fail;refine B.m ?_;rintro m rfl;go_wp2_with fail;refine x.m ?_;rintro g rfl;go_wp2_with fail;refine z.m ?_;rintro g rfl;go_wp2_with fail;refine(vj y F).m λl j=>?_;go_wp2;go_ret3;rw[V k,ab];exact⟨KM af,bN i<|bV j i.4⟩};have ay:ax (kK T.1.1=(kt (b9 (·.data.1) a)).map λe=>(org.1.1,e)):=by{rw[ax,V k,ab];rfl};have k:=ay;cases a with
 | nil =>{
 go_in;go_wp2_with fail;refine B.m ?_;rintro m rfl;go_wp2_with fail;refine x.m ?_;rintro g rfl;go_wp2_with fail;refine z.m ?_;rintro g rfl;go_wp2_with fail;refine(vj y F).m λl j=>?_;go_wp2;go_loop [10,41] (λv u=>v=bY/\u=J 0) λ_ _=>0;·exact pf
 ·(obtain⟨rfl,rfl⟩:=hrel;go_wp2;go_ret3;rw[V k];exact⟨⟨_,by rw[Lc];rfl,jO _ _ _ _,aA⟩,bN i<|bV j i.4⟩)}
 | cons a3 a4 =>{
 generalize c:a3::a4=a at *;have bj:¬a=[]:=by rw[<- c];simp
 have bl:0<E a:=by rw[<- c];simp
 go_in;go_wp2_with fail;refine B.m ?_;rintro m rfl;go_wp2_with fail;refine x.m ?_;rintro g rfl;go_wp21;refine z.m ?_;rintro g rfl;go_wp21;refine(vj y F).m λl j=>?_;go_wp2;have aC:=y.below j;have n:=bN i<|bV j i.4;have ac:=n.4;replace n:=ae n;have az:=aH.below j;have a8:=ae az;go_loopw [10,41] (λv u wr=>∃(b:Nat) (e:List D),b<=E a/\u=J b/\E e=b/\tv wr (U l.1) v e/\kt (b9 (·.data.1) a)=(kt (bh b (b9 (·.data.1) a))).map (e++·)/\a7 l wr) λ_ u _=>E a-c7 (intOf u);·exact⟨0,[],eb _,af,af,⟨jO _ _ _ _,aA⟩,aA,dz _ _⟩
 ·(
 obtain⟨b,e,bb,rfl,al,aU,aB,p⟩:=hrel;have H:=ae aB;have Q:=ae aU;have aa:=aC.below p;have:=p.4;by_cases L:b<E a;{
 have ba:co wr (U m.1) (1+b) (amz a[b]):=by{have:=(a8.below p).2 (b+1) (by simpa using L);rw[show 0+(b+1)=1+b from G]at this;simpa using this};have Y:ax (bh b (b9 (·.data.1) a)=a[b].1.1::bh (b+1) (b9 (·.data.1) a)):=by{rw[ax,lA<|by simpa using L,rS]};have O:=V aq a[b]<|eP L;generalize a[b]=w at *;cases A:jx w.1.1 with
 | none =>{have r:ax (kK T.1.1=ai):=by{rw[ax,V k,V H,V Y,kt,A];rfl};go_wp21;refine(alH aa O A).m λan o=>?_;go_wp2;go_ret3;rw[V r];exact⟨KM af,(bN n<|(bV p ac).trans<|bV o G).alloc (cj o.4) _⟩}
 | some C =>{
 have⟨i0,aN,hz0,hz1,hz2⟩:=jN Cj;have r:ax (kt (b9 (·.data.1) a)=(kt (bh (b+1) (b9 (·.data.1) a))).map ((e++[C])++·)):=by{rw[ax,V H,V Y,kt,A];simp[Option.map_map,Function.comp_def]};go_wp21;refine(alI aa O A).m λan o=>?_;have aW:=Q.below o;have S:=ae aW;have:=o.4;go_wp2_with (at_builtin;refine Gk _ af (.tmp 52) (.tmp 54) 41 af (U l.1) 47 i0 (ci #[amz ⟨#[]⟩,J 0,J 0,amz ⟨#[]⟩]) 4 48 Gz aN hz0 hz1 hz2 af bL _ (E e) (jL e) af ((S.1.alloc _).alloc _) (M (U an.1+1) 0) 1 1 C.bz af af ?bA ?c2 ?c3 ?cD ?fB ?_);case bA =>(
 intro aZ a5 d;match aZ,d with
 | 0,d=>simp[D.bz]at d;subst d;simp[Addr.add]
 | 1,d=>simp[D.bz]at d;subst d;simp[Addr.add]
 | 2,d=>simp[D.bz]at d;subst d;simp[Addr.add]
 | 3,d=>simp[D.bz]at d;subst d;simp[Addr.add]
 | bk+4,d=>simp[D.bz]at d)
 case c2=>intro a5 ad;simp[D.bz]at ad;rcases ad with rfl|rfl|rfl|rfl<;>rfl
 case c3=>exact uW
 case cD=>omega
 case fB=>simp;omega
 intro a6 ap aV aP aT;have ar:tv ap (U l.1) a6 (e++[C]):=by{refine⟨?_,?_⟩;{rw[alG,dE,al];exact aV};{exact⟨λh=>absurd h aT,λh=>BA⟩}};have aJ:a7 l ap:=by{exact((((bN p<|bV o G).alloc G _).alloc cx _)).grown aP cx λa1 a0=>(S.1.lt a1 a0).1};have aI:=ae ar;have aF:=ae aJ;go_wp2;go_roundw;·exact⟨b+1,e++[C],G,dH,by simp[al],aI,r,aF⟩
 ·exact t8}};{have r:ax (kK T.1.1=ag (org.1.1,e)):=by{rw[ax,V k,V H,sh cx];simp[kt]};go_wp2;go_ret3;rw[V r];exact⟨⟨_,by rw[Lc];rfl,Q.base n.4⟩,bN n<|bV p ac⟩})}
def alN(g:d3 m)(d:cf T<=3000):bd aK 56 #[amz T] m λb e=>KL (kK T.1.1) (U m.1) b e/\a7 m e:=by
 cases c:Lib.hasSuffix T.1.1 [10];{
 have b:kK T.1.1=ai:=by rw[kK,c];rfl
 rw[b];exact alJ d c};{exact alM g d c}
def nE(d:aQ)(b:Nat)(v:bm)(a:List ap):Prop:=d.ownsRow b 9 1 v (E a) (a.map λc=>aZ c)/\(v=bY ↔ a=[])
def zF:(aK.info? 9).map (λa=>(a.8,a.3,a.4))=ag (ag<|amz ⟨#[]⟩,1,16):=b8
def D1:aK.underlying 49=ag (.slice 9):=b8
def e_(s:ap)(b:Bool)(a:Nat):ap×ap×Bool:=if a<=E s then(amA a s,bh a s,b)else([],[],aE)
def yy(s a b):E (e_ s a b).2.1<=E s:=by grind[e_]
def r9(a:Nat){c}(h:eB m d n c)(k:a<=1000000000)(j:E n<=1000000000):bd aK 148 #[N d,J a] m λi g=>i=bg (aZ (e_ n c a).1)/\eB g d (e_ n c a).2.1 (e_ n c a).2.2/\eL d m g/\U g.1=U m.1:=by by_cases e:a<=E n;{rw[e_,b7 e];exact KH a h e j};{rw[e_,bJ e];exact KI a h G k}
def oV:Nat->Nat->ap->Bool->Nat->List ap->List ap×ap×Bool
 | 0,_,s,b,_,c=>(c,s,b)
 | f+1,a,s,b,size,c =>
  if a=0 then(c,s,b)
  else if 63<a\/255<size+1+a then([],s,aE)
  else oV f (fe (e_ s b a).2.1 (e_ s b a).2.2).1 (fe (e_ s b a).2.1 (e_ s b a).2.2).2.1 (fe (e_ s b a).2.1 (e_ s b a).2.2).2.2 (size+1+a) (c++[(e_ s b a).1])
def r_(s:ap)(a:Bool):List ap×ap×Bool:=oV 256 (fe s a).1 (fe s a).2.1 (fe s a).2.2 1 []
def ala{j}(a:eL h m u)(b:u.grownBy K j)(n:∀c,j=ag c->U m.1<=c):eL h m K :=
 ⟨c_ b.1 a.1,c_ b.2 a.2,c_ b.3 a.3,cU a.4 b.4,
  λc i k=>(b.5 c (e8 i a.4) λl=>by grind).trans<|a.5 c i k⟩
def alb(a:eL d m u)(i):eL d m (aO u i) :=
 ⟨a.1,a.2,a.3,cU a.4 aA,λh b g=>(dT _ _ _<|e8 b a.4).trans<|a.5 h b g⟩
def RB{g l}(p:m.ownsRow d z h e g l)(t:eL o m u)(w:o<d):u.ownsRow d z h e g l:=by obtain⟨q,a⟩:=p;refine⟨q,?_⟩;rcases a with a|⟨i,n,c,rfl,r,b,v⟩;{grind};{exact bE ⟨i,n,c,af,r,(t.5 i (ea.1 b).1 G).trans b,v⟩}
def Qm{P:Prop}(h:P:=by go_wp2;go_ret;rw[V bn];exact⟨_,af,⟨jO _ _ _ _,aA⟩,Ba.set1 _,kI (V kO) _ _⟩):P:=h
def alc{c}(h:eB m d n c)(T:E n<=1000000000):bd aK 201 #[N d] m λw B=>∃v,w=bg v/\nE B (U m.1) v (r_ n c).1/\eB B d (r_ n c).2.1 (r_ n c).2.2/\eL d m B:=by
 have Z:=h.lt;have j:=ae<|rf n c h T;have O:=ae<|cU (vP n c) T;have L:=ae<|Ci n c;have K:ax (r_ n c=oV 256 (fe n c).1 (fe n c).2.1 (fe n c).2.2 1 []):=af;generalize fe n c=a2 at *;obtain⟨aU,aW,av⟩:=a2;simp only at j O L K;generalize r_ n c=o at *;go_in;go_wp21;refine j.m λbi ⟨aI,aB,bc⟩=>?_;have aP:=ae aI;have an:=ae aB;go_wp2;go_loopw [3,4,5] (λv A aa wr=>∃(f size a:Nat) (b:ap) (gF:Bool) (g:List ap),A=J size/\aa=J a/\a<256/\size<=255/\256<=f+size/\0<f/\E b<=1000000000/\E g<=size/\eB wr d b gF/\nE wr (U m.1) v g/\eL d m wr/\o=oV f a b gF size g) λ_ A _ _=>256-c7 (intOf A);·exact⟨256,1,aU,aW,av,[],af,af,L,G,G,G,O,aA,aP,⟨jO _ _ _ _,aA⟩,an,K⟩
 ·(
 obtain⟨f,size,a,b,gF,g,rfl,rfl,a9,bb,a7,a8,ab,a5,s,W,C,Q⟩:=hrel;have Ba:=ae s;have H:=ae W;have kO:=ae C;have r:=ae Q;have:=s.frozen;have:=s.cells.2;have:=C.4;clear s W C Q;obtain⟨f,rfl⟩:∃aC,f=aC+1:=⟨f-1,G⟩;by_cases y:a=0;{
 subst y;have bn:ax (o=(g,b,gF)):=fN
 clear r;go_wp2;go_ret;rw[V bn];exact⟨_,af,H,Ba,kO⟩};{
 by_cases D:63<a\/255<size+1+a;{
 have bn:ax (o=([],b,aE)):=by rw[ax,V r,oV,bJ y,b7 D]
 have aY:0<a:=G;by_cases a6:63<a;{exact Qm};{have:255<size+1+a:=G;exact Qm}};{
 have aY:0<a:=G;have bn:ax (o=oV f (fe (e_ b gF a).2.1 (e_ b gF a).2.2).1 (fe (e_ b gF a).2.1 (e_ b gF a).2.2).2.1 (fe (e_ b gF a).2.1 (e_ b gF a).2.2).2.2 (size+1+a) (g++[(e_ b gF a).1])):=by{rw[ax,V r,oV,bJ y,bJ D]};have t:=ae<|r9 a (V Ba) G ab;have q:=ae<|cU (yy b gF a) ab;generalize e_ b gF a=a3 at *;obtain⟨p,l,k⟩:=a3;simp only at bn t q;have⟨i0,aN,hz0,ac_,hz2⟩:=jN zF;go_wp2_with fail;refine t.m ?_;rintro a0 ⟨X,z,Y⟩;have x:=ae<|RB H.1 z Z;have I:=ae X;have aj:=ae<|Ce (V kO) z;have az:=ae Y;clear X z Y t;go_wp2_with (at_builtin;go_loud (refine Gk _ af (.tmp 25) (.tmp 29) 49 af (U m.1) 9 i0 (amz ⟨#[]⟩) 1 16 D1 aN hz0 ac_ hz2 af bL _ (E g) _ af (x.alloc _) (M (U a0.1) 0) 1 1 [aZ p] af af ?bA ?c2 ?c3 ?cD ?fB ?_));case bA =>(
 intro aM u i;match aM,i with
 | 0,i=>simp at i;subst i;simp[Addr.add]
 | aa+1,i=>simp at i)
 case c2=>exact H0
 case c3=>exact uW
 case cD=>omega
 case fB=>have:=V az;simp;omega
 intro ac ad ba R aH;have P:ax (nE ad (U m.1) ac<|g++[p]):=by{refine⟨?_,λh=>absurd h aH,λh=>BA⟩;simp_all};have aq:=ae<|ala (alb (V aj) _) R λaT aR=>(x.lt aT aR).1;have au:ax (eB ad d l k):=by{have aF:=I.lt;refine(R.5 d cx ?_).trans<|(dT _ _ _ aF).trans I;intro w;have:=(x.lt d<|bZ w).1;omega};have j:=ae<|rf l k (V au)<|V q;have F:=ae<|cU (vP l k)<|V q;have ah:=ae<|Ci l k;generalize fe l k=a4 at *;obtain⟨aV,aX,aw⟩:=a4;simp only at j F ah bn;go_wp21;refine j.m λa1 ⟨aJ,S,bf⟩=>?_;have al:=ae aJ;have ay:=ae<|Ce (V aq) S;have ar:ax (nE a1 (U m.1) ac<|g++[p]):=⟨RB P.1 S Z,P.2⟩;go_wp2;go_roundw;·exact⟨f,size+1+a,aV,aX,aw,g++[p],dH,af,ah,G,G,G,F,by grind,al,ar,ay,bn⟩
 ·exact t8}})
def gr(g:aQ)(b ay:Nat)(d:List D):Prop:=b<U g.1/\∀a,a<E d->∀c e,(D.bz d[a]!)[c]? = ag e->aD g (M b<|ay+a*4+c)=ag e
def gr.below{i:aQ}{ay:Nat}(b:gr m d ay j)(c:a7 m i):gr i d ay j :=
 ⟨e8 b.1 c.4,λe a g l k=>(c.cell (p:=⟨d,ay+e*4+g,ai⟩) b.1).trans (b.2 e a g l k)⟩
def kN(d:aQ)(v:bm)(a:List D):Prop:=(v=bY/\a=[])\/∃b ay c,v=bC b ay (E a) c/\E a<=c/\gr d b ay a
def kN.below(a:kN m e j)(h:a7 m u):kN u e j:=by rcases a with a|⟨b,ay,g,k,i,v⟩;{exact bG a};{exact bE ⟨b,ay,g,k,i,v.below h⟩}
def RC(a b:Nat)(hj:a<E j)(aN:b<4):(jL j)[a*4+b]? = (D.bz j[a]!)[b]?:=by
 induction j generalizing a with
 | nil=>simp at hj
 | cons d e i =>{
 have g:jL (d::e)=d.bz++jL e:=by simp[jL]
 have h:E d.bz=4:=af;rw[g];cases a with
 | zero=>rw[GI G];simp
 | succ a =>{rw[uC G,h,show(a+1)*4+b-4=a*4+b from G,i a Do];simp}}
def RD{ay:Nat}(e:d<U m.1)(a:∀b i,(jL j)[b]? = ag i->aD m (M d<|ay+b)=ag i):gr m d ay j:=by refine⟨e,λb k c i g=>?_⟩;have aN:c<4:=by{rcases Nat.lt_or_ge c 4 with a|a;{exact a};{rw[Sb<|by simpa [D.bz]using a]at g;cases g}};have:=a (b*4+c) i<|(RC b c k aN)▸g;rwa [<- rV]at this
def tv.rv(b:tv m d e j):kN m e j:=by obtain⟨⟨x,b|⟨v,h,i,p,w,c,k,t,u,l⟩⟩,o⟩:=b;{exact bG ⟨b.1,o.1 b.1⟩};{refine bE ⟨v,0,h,p,k,RD (ea.1 c).1 λq r a=>?_⟩;have n:i[q]? = ag r:=by{rw[<- l]at a;have:=(j_.1 a).1;rw[DH]at a;split at a;{simpa using a};{cases a}};simp[aD,c,n]}
def gr.drop{ay:Nat}(g:gr m d ay j)(a:Nat):gr m d (ay+a*4) (bh a j):=by refine⟨g.1,λb k c l h=>?_⟩;rw[js]at k;have e:(bh a j)[b]! = j[a+b]!:=aA;rw[e]at h;have:=g.2 (a+b) G c l h;rwa [show ay+(a+b)*4+c=ay+a*4+b*4+c from G]at this
def gr.take{ay:Nat}(a:gr m d ay j)(g:Nat):gr m d ay (amA g j):=by refine⟨a.1,λb c k l e=>?_⟩;rw[jF]at c;have i:(amA g j)[b]! = j[b]!:=by{rw[Sa,Sa,DH,b7 G]};rw[i]at e;exact a.2 b G k l e
def gr.four{ay:Nat}(h:gr m d ay j)(a:Nat)(e:a<E j):aD m (M d<|ay+a*4)=ag (amz<|O j[a].owner)/\aD m (M d<|ay+a*4+1)=ag (J j[a].aP)/\aD m (M d<|ay+a*4+2)=ag (J j[a].type)/\aD m (M d<|ay+a*4+3)=ag (amz<|O j[a].data):=by have g:=BW j a e;have:=h.2 a e;rw[g]at this;exact⟨this 0 _ af,this 1 _ af,this 2 _ af,this 3 _ af⟩
def mU(a:Int)(b:D):Bool:=b.type==a
def ald{a:D}(g:aD m (M d 0)=ag (J p))(e:d<U m.1):bd aK 172 #[ci #[aZ a.owner,J a.aP,J a.type,aZ a.data],N d] m (cQ (aG<|mU p a) m):=by go_wp2;go_ret;exact FL
def ale(h:aD m (M d 0)=ag (J p))(a:d<U m.1):PredBelow aK 172 #[N d] (λi=>ci<|dl<|D.bz i) (mU p) m:=by intro j k b;exact(ald ((b.cell (p:=⟨d,0,ai⟩) a).trans h) (e8 a b.4)).m λl g=>⟨af,bN b<|bV g b.4⟩
def alf(e:Int)(c:Nat){ay:Nat}(g:Nat)(k:aD m (M c 0)=ag (J e))(b:c<U m.1)(h:gr m d ay j)(n:E j<=3001):bd aK 171 #[bC d ay (E j) g,fc (.func 172) #[] #[N c]] m λi l=>i=bg (aG<|j.any<|mU e)/\a7 m l:=by have:=AnyQ.slices_ContainsFunc Tryz.akX 4 Tryz.isAgg47 Tryz.sizeOf47 D.bz (λ_=>af) (mU e) 172 #[N c] (enters_of func172 b8 af) d ay (E j) g j m (ale k b) bv G h.1 h.2;rw[ld]at this;exact this
def LE{ay:Nat}(k:gr m d ay j)(c:E j<=3001):bd aK 101 #[bC d ay (E j) h,J p] m (cQ (aG<|j.any<|mU p) m):=by have g:a7 m (aO m<|aS #[ak am p] 3):=ct cd bv _;have a:=ae<|alf p (U m.1) h aA aA (k.below g) c;go_in;go_wp21;refine a.m λl i=>?_;go_wp2;go_ret;exact⟨af,bN g<|bV i aA⟩
def alg:bd aK 230 #[bY,e] m λb d=>b=bg (J<|-1)/\d=m:=by
 go_wp2;go_loop [8] (λc=>c=J 0) λ_=>0;·rfl
 ·(obtain rfl:=hrel;go_wp2;go_ret;exact⟨af,af⟩)
def alh:bd aK 101 #[bY,J p] m (cQ (aG ao) m):=by have c:ax (∀f m,bd aK 171 #[bY,f] m λd b=>d=bg (aG ao)/\b=m):=by{intro f m;go_in;go_wp2_with (go_at_call 230;refine(alg).m ?_;rintro b rfl);go_ret;exact pf};go_in;go_wp21;refine(c _ _).m ?_;rintro b rfl;go_wp2;go_ret;exact⟨af,ct cd bv _⟩
def LF(c:Int)(g:kN m e j)(d:E j<=3001):bd aK 101 #[e,J c] m (cQ (aG<|j.any<|mU c) m):=by rcases g with⟨rfl,rfl⟩|⟨h,ay,i,rfl,_,b⟩;{exact alh};{exact LE b d}
def na(c:ap)(b:List D):Bool :=
 match b with
 | []=>ao
 | a::d=>dQ (E b<=60)&&(a.owner==c&&a.type==6 && !d.any (mU 6))
def QC{P:Prop}(h:P:=by go_wp2;go_ret;exact⟨fy (by rw[V bK,ho,ht];rfl),hb'⟩):P:=h
def LG(a:ap)(t:kN m e j)(r:E j<=3001):bd aK 58 #[aZ a,e] m (cQ (aG<|na a j) m):=by
 rcases t with⟨rfl,rfl⟩|⟨k,ay,n,rfl,o,g⟩;{go_wp2;go_ret;exact FS};cases j with
 | nil =>{go_wp2;go_ret;exact FS}
 | cons b c =>{
 rw[ey]at o r ⊢;have⟨c0,_,c2,_⟩:=g.four 0 aA;have h:=g.drop 1;have q:gr m k ay []:=⟨g.1,λx hj=>Di⟩;simp only[rW,jn,e9,Nat.one_mul,List.drop_succ_cons,sk]at c0 c2 h;have d:=ae h;have l:=ae q;by_cases w:60<(E c:Int)+1;{have bK:ax (na a (b::c)=ao):=by{rw[na,ax,ey,gD G];rfl};go_wp2;go_ret;exact⟨fy<|bZ bK,dz _ _⟩};have bK:ax (na a (b::c)=(b.owner==a&&b.type==6 && !c.any (mU 6))):=by{rw[na,ax,ey,mL G];rfl};have i:((O b.owner).toList==(O a).toList)=(b.owner==a):=by rw[BX];rfl
 cases ho:b.owner==a;{rw[ho]at i;go_wp2;go_ret;exact⟨fy (by rw[V bK,ho];rfl),dz _ _⟩};rw[ho]at i;cases ht:b.type==6;{go_wp2;go_ret;exact⟨fy (by rw[V bK,ho,ht];rfl),dz _ _⟩};by_cases p:n=1;{subst p;obtain rfl:c=[]:=iM G;go_in;go_wp21;refine(LE (V l) aA).m λu hb'=>?_;exact QC};{go_in;go_wp21;refine(LE (V d) G).m λu hb'=>?_;exact QC}}
def yz: ((O n).toList==(O v).toList)=(n==v):=by rw[BX];rfl
theorem ali:EqlAt aK 47 (λa:D=>ci<|dl<|D.bz a) (λa d=>a==d):=by
 refine⟨λa d n=>?_,GuardAt.agg _ aA⟩;have:=underlying3;have:=Tryz.isAgg3;have:=Tryz.sizeOf3;have:=underlying9;have:=Tryz.isAgg9;have:=Tryz.sizeOf9;have k:aK.underlying 47=ag (.struct<|aK.fieldsOf 47):=b8;have l:aK.stoodInHeld 47=ao:=aA;simp only[D.bz];rw[run_eql_struct,show(10000:Nat)=9999+1 from af,run_equalIn_agg n 9999 47 _ _ k l];simp only[Program.fieldsOf,underlying47];obtain⟨o,c,p,q⟩:=a;obtain⟨r,e,t,u⟩:=d;simp only[D.owner,D.aP,D.type,D.data];have w:∀b:ap,(O b).toList=b:=λb=>by rw[hZ];rfl
 have:((c:Int)=e)=(c=e):=by grind
 go_simp;by_cases g:o=r<;>by_cases h:c=e<;>by_cases i:p=t<;>by_cases j:q=u<;>simp[g,h,i,j]
def RE(a){ay}(e)(h:gr m d ay j)(k:E j<=3001):bd aK 178 #[bC d ay (E j) e,ci #[aZ a.owner,J a.aP,J a.type,aZ a.data]] m λg i=>g=bg (aG (j.any (a == ·)))/\a7 m i:=by have:=AnyQ.slices_Contains Tryz.lContains 4 Tryz.isAgg47 Tryz.sizeOf47 D.bz (λ_=>af) (λa c=>a==c) ali d ay (E j) e j a m bv G h.2;rw[ld]at this;exact this
def kv(a:cB d m u)(e):cB d m (ef u e):=⟨a.1,a.2,a.3,a.4,a.5⟩
def F5(c:cB d m u):cB d m (bq u):=c.drew
def sR(c:Nat):List D->List D->Bool
 | _,[]=>aE
 | b,a::d=>a.aP==c && !b.any (a == ·)&&sR c (b++[a]) d
def qR(a:List D):Bool :=
 match a with
 | []=>aE
 | b::_=>sR b.aP [] a
def alj{c ay}(z:gr m d ay (c::j))(Y:E (c::j)<=3001)(W:E (c::j)<=h):bd aK 108 #[bC d ay (E (c::j)) h] m (cQ (aG<|qR (c::j)) m):=by
 have q:ax (qR (c::j)=sR c.aP [] (c::j)):=af;have⟨q0,q1,q2,q3⟩:=z.four 0 aA;clear q2 q3;simp only[rW,jn,e9]at q0 q1;have:0<E (c::j):=aA;generalize Z:c.aP=n,c::j=b at *;have M:=ae z;have O:=z.1;go_wp2;go_loopw [7] (λB wr=>∃a:Nat,a<=E b/\B=J a/\sR n (amA a b) (bh a b)=sR n [] b/\a7 m wr) λB _=>E b-c7 (fJ B);·exact⟨0,eb _,af,aA,dz _ _⟩
 ·(
 obtain⟨a,X,rfl,F,g⟩:=hrel;replace F:=ae F;have H:=M.below g;have:=(g.cell (p:=⟨d,ay+1,ai⟩) O).trans q1;have A:=g.4;have:d<U wr.1:=G;by_cases y:a<E b;{
 have:=H.four a y;have:(a:Int)<E b:=G;have x:=ae<|lA y;have S:=ae<|iH y;have I:=H.take a;have L:=ae I;have Q:E (amA a b)=a:=by grind
 have K:=ae Q;generalize b[a]=o at *;have l:∀k,a7 wr k->∀t,bd aK 178 #[bC d ay a t,ci #[aZ o.owner,J o.aP,J o.type,aZ o.data]] k (cQ (aG ((amA a b).any (o == ·))) k):=by{intro k N t;have:=RE o t (L.below N) (by grind);rw[V K]at this;exact this};replace l:=ae l;by_cases C:o.aP=n;{
 subst C;cases D:(amA a b).any (o == ·);{
 have R:ax (sR o.aP (amA (a+1) b) (bh (a+1) b)=sR o.aP [] b):=by{rw[ax,<- V F,V x,sR,D,V S];simp};go_wp2;go_region_with (go_at_call 178;refine((V l) _ (by exact F5<|ct cd bv _) _).m λT w=>?_);all_goals(
 have u:=(F5<|ct g A _).trans<|bV w cx;have r:=ae u;go_wp2;go_roundw;·exact⟨a+1,G,dH,R,r⟩
 ·simp[fJ];omega)};{have i:ax (qR b=ao):=by{rw[ax,V q,<- V F,V x,sR,D];simp};go_wp2;go_region_with (go_at_call 178;refine((V l) _ (by exact F5<|ct cd bv _) _).m λT w=>?_);all_goals(have u:=(F5<|ct g A _).trans<|bV w cx;have r:=ae u;go_wp2;go_ret;exact⟨fy<|bZ i,r⟩)}};{
 have:((o.aP:Int) != (n:Int))=aE:=by grind
 have i:ax (qR b=ao):=by{have P:=kE.2 C;rw[ax,V q,<- V F,V x,sR,P];rfl};go_wp2;go_quiet (fail);go_wp2;go_ret;exact⟨fy<|bZ i,kv (ct g A _) _⟩}};{have i:ax (qR b=aE):=by{rw[ax,V q,<- V F,sh G];rfl};go_wp2;go_ret;exact⟨fy<|bZ i,g⟩})
def dj(a s:D):Bool:=a.owner==s.owner&&a.type==s.type
def fd(a s:D):Bool:=a.owner==s.owner
def le(dZ:D->D->Bool):Nat->Nat->List D->List (Nat×List D)
 | 0,_,_=>[]
 | _+1,_,[]=>[]
 | f+1,c,a::b=>(c,a::iU (dZ a) b)::le dZ f (c+1+E (iU (dZ a) b)) (mt (dZ a) b)
def dw(dZ:D->D->Bool)(a:List D):List (Nat×List D):=le dZ (E a) 0 a
def QD{P:Prop}(h:P:=by rw[Sort.alloc_eq_grow,Sort.alloc_eq_grow,Sort.grow_grow];rfl):P:=h
def Rb{P:Prop}(h:P:=by rw[ho]at lH;go_wp2;go_ret;exact⟨fy<|bZ bK,0,_,QD⟩):P:=h
def RF(a s b):bd aK 177 #[ci #[aZ a.owner,J a.aP,J a.type,aZ a.data],ci #[aZ s.owner,J s.aP,J s.type,aZ s.data]] b λc g=>c=bg (aG<|dj a s)/\∃e d,g=Sort.grow (ef b e) d:=by
 have lH:((O a.owner).toList==(O s.owner).toList)=(a.owner==s.owner):=yz;cases ho:a.owner==s.owner;{
 have bK:ax (dj a s=ao):=by rw[dj,ho];rfl
 exact Rb};{
 have bK:ax (dj a s=(a.type==s.type)):=by rw[dj,ho];rfl
 exact Rb}
def RG(a s b):bd aK 180 #[ci #[aZ a.owner,J a.aP,J a.type,aZ a.data],ci #[aZ s.owner,J s.aP,J s.type,aZ s.data]] b λc g=>c=bg (aG<|fd a s)/\∃e d,g=Sort.grow (ef b e) d:=by have:((O a.owner).toList==(O s.owner).toList)=(a.owner==s.owner):=yz;go_wp2;go_ret;exact⟨af,0,_,QD⟩
def LH(dZ):∀(f a:Nat) (l:List D),E l<=f->le dZ f a l=le dZ (E l) a l
 | 0,a,l,c=>by grind
 | f+1,a,[],c=>af
 | f+1,a,d::b,c=>by have e:E (mt (dZ d) b)<=E b:=by{have:=fE List.length<|uH (p:=dZ d) (l:=b);grind};rw[le,ey,le,LH dZ f _ _<|by grind,LH dZ (E b) _ _ e]
def R5{dZ b}:le dZ (E (b::j)) d (b::j)=(d,b::iU (dZ b) j)::le dZ (E<|mt (dZ b) j) (d+1+E (iU (dZ b) j)) (mt (dZ b) j):=by have a:E (mt (dZ b) j)<=E j:=by{have:=fE List.length<|uH (p:=dZ b) (l:=j);grind};rw[ey,le,LH dZ (E j) _ _ a]
theorem LI{p} : ∀(c:List D) (a:Nat) (b:a<E (iU p c)),∃d:a<E c,p c[a]=aE
 | [],a,b=>by simp at b
 | g::c,a,b=>by
  by_cases e:p g=aE;{
  rw[GP e]at b;cases a with
  | zero=>grind
  | succ a =>{obtain⟨d,h⟩:=LI c a (by simpa using b);grind}};simp_all
theorem LJ{p}: ∀(a:List D) (b:E (iU p a)<E a),p a[E<|iU p a]=ao
 | [],b=>by grind
 | c::a,b=>by
  by_cases e:p c=aE;{
  have d:E (iU p (c::a))=E (iU p a)+1:=by simp_all
  have:=LJ a (by rw[d]at b;simpa using b);grind};simp_all
def BK(a d c):a7 a (Sort.grow (ef a d) c) :=
 ⟨af,af,af,aA,λb e=>by
  show(a.1++c)[b]? = a.1[b]?
  grind⟩
def vR{ay}(e:gr m d ay j)(i:U m.1<=U u.1)(g:u.1[d]? = m.1[d]?):gr u d ay j :=
 ⟨e8 e.1 i,λl h k n a=>(ev g).trans<|e.2 l h k n a⟩
def alk{ay}(b:gr m d ay j)(c:cB h m u)(l:d<h):gr u d ay j :=
 ⟨e8 b.1 c.4,λe k g o n=>(c.cell (p:=⟨d,ay+e*4+g,ai⟩) l).trans (b.2 e k g o n)⟩
def SC(b e c d a):bd aK 176 #[aL b e c,fc (.func d) #[] #[]] a λg h=>g=bg (fc (.func 233) #[] #[N<|U a.1,N<|U a.1+1])/\h=aO (aO a<|aS #[aL b e c] 41) (aS #[fc (.func d) #[] #[]] 261):=by go_wp2;go_ret;simp
section
attribute [local go_sem] Oper.semAt_some
def In{P:Prop}(h:P:=by show bs<_;omega):P:=h
def Ib{P:Prop}(h:P:=by show bl<_;omega):P:=h
def PJ{P:Prop}(h:P:=by{rw[ax,<- pk,V aU,O5,O6,V L9,<- V dA,<- V Bh]}):P:=h
def Pt{P:Prop}(h:P:=by exact⟨0,0,af,eb _,eb _,by simp[dw],h0,lY.refl _ _ _ _⟩):P:=h
def QT{P:Prop}(h:P:=by{rw[ax,<- pk,V aU,O5,O6,V L9,<- V dA,<- V hmk]}):P:=h
def Py{P:Prop}(h:P:=by{have⟨h',e⟩:=V CJ (m-(k+1)) adm;rw[hg]at e;exact e}):P:=h
def Ri{P:Prop}(h:P:=by have:=V hend<|h'▸n9;simp only[h']at this;rw[hg]at this;exact this):P:=h
def HR{P:Prop}(h:P:=by gi_wp2;exact eh (BH af _ _ _) af ⟨⟨_,af⟩,bE yx⟩):P:=h
def Ia{P:Prop}(h:P:=by have dY:=gA.trans hk4;replace mE:=ae mE;gi_wp2_with fail;exact⟨⟨i+1,m,by go_num,G,Bg,kz,mE,dY⟩,by simp[fJ];omega⟩):P:=h
def ko{P:Prop}(h:P:=by show b<_;omega):P:=h
def Pp{P:Prop}(h:P:=by gi_wp2_with fail;exact⟨⟨m+1,by go_num,G,G,V jt i _ _ (V hJ2)<|BK _ _ _,hB2.trans<|lY.Pb (BK _ _ _) G G G⟩,by exact Bz⟩):P:=h
def Cl(b ay q bl bs:Nat)(a:List D)(d:aQ)(K:aD d (M bl 0)=ag (bC b ay (E a) q)) (O:aD d (M bs 0)=ag (fc (.func 177) #[] #[]))(y:gr d b ay a) (I:bl<U d.1) (a0:bs<U d.1) (a2:E a<=3001) (aZ:E a<=q):xS aK 233 #[N bl,N bs] (λB:Nat×List D=>#[bC b (ay+B.1*4) (E B.2)<|E B.2]) (dw dj a)
   (λS W=>a7 S W) (lY bl bs b) (λ_ _=>True) d:=by
 have:=y.1;intro l H aX aA aW aB h0;have P:=ae aB;have jt:=ae aA;refine callsIn_of_wp func233 af cE ?_;simp only[ntmps233,ox,ey,h8,Nat.reduceAdd,Nat.reduceSub,ov,oQ,oS,oR,jz,g_];gi_wp2;gi_loopw [4] (λs wr=>∃i k:Nat,s=J k/\k<=E a/\i<=E (dw dj a)/\bh i (dw dj a)=le dj (E<|bh k a) k (bh k a)/\H i wr/\lY bl bs b d wr) λs _=>E a-c7 (fJ s);·exact Pt
 ·(
 obtain⟨i,k,rfl,a1,aN,aH,aV,j⟩:=hrel;have aU:=ae aH;have F:=ae aV;have n:=(ev j.2.1).trans K;have r:=(ev j.2.2.1).trans O;by_cases x:k<E a;{
 have h:=vR y j.1 j.2.2.2;have o:=h.four k x;have aF:=lA x;have aP:∀m (az:m<E a) (h0:k+1<=m),∃h':m-(k+1)<E (bh (k+1) a),(bh (k+1) a)[m-(k+1)]=a[m]:=λm az h0=>⟨by rw[js];omega,by rw[BT];congr 1;omega⟩;have aM:E (bh (k+1) a)=E a-(k+1):=js;rw[aF,R5]at aU;have Y:=ae aP;have⟨T,hT⟩:=bi<|E<|iU (dj a[k])<|bh (k+1) a;have a3:T<=E a-(k+1):=by{rw[hT,<- aM];exact(RM _).length_le};have CJ:=ae<|LI (p:=dj a[k]) (bh (k+1) a);have hend:=ae<|LJ (p:=dj a[k]) (bh (k+1) a);rw[<- hT]at CJ;have dA:=ae hT;generalize z:a[k]=c at *;replace z:=ae z;have C:ax ((dw dj a)[i]? = ag (k,c::iU (dj c) (bh (k+1) a))):=by{have:=fE (λl:List (Nat×List D)=>l[0]?)<|V aU;rw[ax];simpa using this};have Bg:ax (i+1<=E (dw dj a)):=(j_.1<|V C).1;have L9:ax (mt (dj c) (bh (k+1) a)=bh (k+1+T) a):=by{
 have I:bh (k+1+T) a=bh T (bh (k+1) a):=by rw[pk]
 rw[ax,I,V dA];conv=>rhs;arg 2;rw[<- uH (p:=dj c) (l:=bh (k+1) a)]
 rw[KU]};gi_wp2_with fail;gi_loopw [5] (λe R=>∃m:Nat,e=J m/\k+1<=m/\m<=k+1+T/\H i R/\lY bl bs b d R) λe _=>E a-c7 (fJ e);·exact⟨k+1,by go_num,cW _,G,F,j⟩
 ·(
 obtain⟨m,rfl,Z,aY,hJ2,hB2⟩:=hrel;replace hJ2:=ae hJ2;have n:=(ev hB2.2.1).trans K;have r:=(ev hB2.2.2.1).trans O;have h:=vR y hB2.1 hB2.2.2.2;have⟨o,q1,q2,q3⟩:=h.four k x;rw[V z]at o q1 q2 q3;by_cases L:m<E a;{
 have⟨p0,p1,fz,gg⟩:=h.four m L;have⟨n9,hg⟩:=V Y m L Z;by_cases adm:m-(k+1)<T;{have aI:dj c a[m]=aE:=Py;generalize a[m]=s at *;have X:(m:Int)<E a:=G;have aR:(k:Int)<E a:=G;have aC:aK.follows .mixedOrders=aE:=b8;have Q:=hB2.1;have av:=iY Ib n;have aw:=iY In r;have ap:=iY ko o;have aq:=iY ko q1;have ar:=iY ko q2;have au:=iY ko q3;have t:=iY ko p0;have ah:=iY ko p1;have aj:=iY ko fz;have al:=iY ko gg;gi_wp2_with fail;refine wpIn_wide.2 ?_;go_quiet_grown ((go_at_call 177;exact Calls.grown_of<|RF c s _));exact Pp};{
 have hmk:m=k+1+T:=G;have aI:dj c a[m]=ao:=by{
 have h':E (iU (dj c)<|bh (k+1) a)=m-(k+1):=by rw[<- V dA];omega
 exact Ri};generalize a[m]=s at *;have X:(m:Int)<E a:=G;have aR:(k:Int)<E a:=G;replace hmk:=ae hmk;have A:ax (E (c::iU (dj c) (bh (k+1) a))=m-k):=by{rw[ax,ey,<- V dA,V hmk];omega};have kz:ax (bh (i+1) (dw dj a)=le dj (E<|bh m a) m (bh m a)):=QT;have aC:aK.follows .mixedOrders=aE:=b8;have Q:=hB2.1;have av:=iY Ib n;have aw:=iY In r;have ap:=iY ko o;have aq:=iY ko q1;have ar:=iY ko q2;have au:=iY ko q3;have t:=iY ko p0;have ah:=iY ko p1;have aj:=iY ko fz;have al:=iY ko gg;gi_wp2_with fail;refine wpIn_wide.2 ?_;go_quiet_grown ((go_at_call 177;exact Calls.grown_of<|RF c s _));have u:=V jt i _ _ (V hJ2)<|BK wr nq osq;have gA:=hB2.trans<|lY.Pb (BK wr nq osq) G G G;have g:=V P i (k,c::iU (dj c) (bh (k+1) a)) _ (V C) u;dsimp only at g;rw[V A]at g;obtain⟨an,aT,ab,ad,aJ,w⟩:=g;gi_wp2_with fail;refine⟨af,w.mono ?_⟩;rintro e aa (⟨rfl,mE,hk4⟩|⟨rfl,yx,_⟩);{exact Ia};{exact HR}}};{have hmk:m=k+1+T:=G;have Bh:=ae hmk;clear hmk h;have:m<=E a:=G;have Q:=hB2.1;have A:ax (E (c::iU (dj c) (bh (k+1) a))=m-k):=by{rw[ax,ey,<- V dA,V Bh];omega};have kz:ax (bh (i+1) (dw dj a)=le dj (E<|bh m a) m (bh m a)):=PJ;gi_wp2_with fail;refine wpIn_wide.2 ?_;go_quiet (fail);have u:=V jt i _ _ (V hJ2)<|kv (dz _ wr) nq;have gA:=hB2.trans<|lY.Pb (kv (dz (U wr.1) wr) nq) G G G;have:co (ef wr nq) bl 0 (bC b ay (E a) q):=n;have g:=V P i (k,c::iU (dj c) (bh (k+1) a)) _ (V C) u;dsimp only at g;rw[V A]at g;obtain⟨an,aT,ab,ad,aJ,w⟩:=g;gi_wp2_with fail;refine⟨af,w.mono ?_⟩;rintro e aa (⟨rfl,mE,hk4⟩|⟨rfl,yx,_⟩);{exact Ia};{exact HR}})};{gi_wp2;go_end0;have ac:i=E (dw dj a):=by{have:=V aU;rw[sh<|show E a<=k by omega]at this;have h':=fE List.length this;rw[js]at h';have t:E (le dj (List.length (α:=D) []) k [])=0:=af;rw[t]at h';omega};exact⟨⟨_,af⟩,bG<|ac▸F⟩})
def alm{h ay:Nat}(q:aD m (M d 0)=ag (bY)){g:aQ->aQ->Prop}:xS aK 233 #[N d,N o] (λb:Nat×List D=>#[bC h (ay+b.1*4) (E b.2)<|E b.2]) (dw dj [])
   (λa e=>a7 a e) g (λ_ _=>True) m:=by
 intro r l n i k p j;refine callsIn_of_wp func233 af cE ?_;simp only[ntmps233,ox,ey,h8,Nat.reduceAdd,Nat.reduceSub,ov,oQ,oS,oR,jz,g_];gi_wp2;gi_loopw [4] (λs wr=>s=J 0/\wr=m) λ_ _=>0;·exact pf
 ·(obtain⟨rfl,rfl⟩:=hrel;gi_wp2;go_end0;exact⟨⟨_,af⟩,bG j⟩)
end
section
attribute [local go_sem] Oper.semAt_some
def LK(b ay q bl bs:Nat)(a:List D)(d:aQ)(K:aD d (M bl 0)=ag (bC b ay (E a) q)) (O:aD d (M bs 0)=ag (fc (.func 180) #[] #[]))(y:gr d b ay a) (I:bl<U d.1) (a0:bs<U d.1) (a2:E a<=3001) (aZ:E a<=q):xS aK 233 #[N bl,N bs] (λB:Nat×List D=>#[bC b (ay+B.1*4) (E B.2)<|E B.2]) (dw fd a)
   (λS W=>a7 S W) (lY bl bs b) (λ_ _=>True) d:=by
 have:=y.1;intro l H aX aA aW aB h0;have P:=ae aB;have jt:=ae aA;refine callsIn_of_wp func233 af cE ?_;simp only[ntmps233,ox,ey,h8,Nat.reduceAdd,Nat.reduceSub,ov,oQ,oS,oR,jz,g_];gi_wp2;gi_loopw [4] (λs wr=>∃i k:Nat,s=J k/\k<=E a/\i<=E (dw fd a)/\bh i (dw fd a)=le fd (E<|bh k a) k (bh k a)/\H i wr/\lY bl bs b d wr) λs _=>E a-c7 (fJ s);·exact Pt
 ·(
 obtain⟨i,k,rfl,a1,aN,aH,aV,j⟩:=hrel;have aU:=ae aH;have F:=ae aV;have n:=(ev j.2.1).trans K;have r:=(ev j.2.2.1).trans O;by_cases x:k<E a;{
 have h:=vR y j.1 j.2.2.2;have o:=h.four k x;have aF:=lA x;have aP:∀m (az:m<E a) (h0:k+1<=m),∃h':m-(k+1)<E (bh (k+1) a),(bh (k+1) a)[m-(k+1)]=a[m]:=λm az h0=>⟨by rw[js];omega,by rw[BT];congr 1;omega⟩;have aM:E (bh (k+1) a)=E a-(k+1):=js;rw[aF,R5]at aU;have Y:=ae aP;have⟨T,hT⟩:=bi<|E<|iU (fd a[k])<|bh (k+1) a;have a3:T<=E a-(k+1):=by{rw[hT,<- aM];exact(RM _).length_le};have CJ:=ae<|LI (p:=fd a[k]) (bh (k+1) a);have hend:=ae<|LJ (p:=fd a[k]) (bh (k+1) a);rw[<- hT]at CJ;have dA:=ae hT;generalize z:a[k]=c at *;replace z:=ae z;have C:ax ((dw fd a)[i]? = ag (k,c::iU (fd c) (bh (k+1) a))):=by{have:=fE (λl:List (Nat×List D)=>l[0]?)<|V aU;rw[ax];simpa using this};have Bg:ax (i+1<=E (dw fd a)):=(j_.1<|V C).1;have L9:ax (mt (fd c) (bh (k+1) a)=bh (k+1+T) a):=by{
 have I:bh (k+1+T) a=bh T (bh (k+1) a):=by rw[pk]
 rw[ax,I,V dA];conv=>rhs;arg 2;rw[<- uH (p:=fd c) (l:=bh (k+1) a)]
 rw[KU]};gi_wp2_with fail;gi_loopw [5] (λe R=>∃m:Nat,e=J m/\k+1<=m/\m<=k+1+T/\H i R/\lY bl bs b d R) λe _=>E a-c7 (fJ e);·exact⟨k+1,by go_num,cW _,G,F,j⟩
 ·(
 obtain⟨m,rfl,Z,aY,hJ2,hB2⟩:=hrel;replace hJ2:=ae hJ2;have n:=(ev hB2.2.1).trans K;have r:=(ev hB2.2.2.1).trans O;have h:=vR y hB2.1 hB2.2.2.2;have⟨o,q1,q2,q3⟩:=h.four k x;rw[V z]at o q1 q2 q3;by_cases L:m<E a;{
 have⟨p0,p1,fz,gg⟩:=h.four m L;have⟨n9,hg⟩:=V Y m L Z;by_cases adm:m-(k+1)<T;{have aI:fd c a[m]=aE:=Py;generalize a[m]=s at *;have X:(m:Int)<E a:=G;have aR:(k:Int)<E a:=G;have aC:aK.follows .mixedOrders=aE:=b8;have Q:=hB2.1;have av:=iY Ib n;have aw:=iY In r;have ap:=iY ko o;have aq:=iY ko q1;have ar:=iY ko q2;have au:=iY ko q3;have t:=iY ko p0;have ah:=iY ko p1;have aj:=iY ko fz;have al:=iY ko gg;gi_wp2_with fail;refine wpIn_wide.2 ?_;go_quiet_grown ((go_at_call 180;exact Calls.grown_of<|RG c s _));exact Pp};{
 have hmk:m=k+1+T:=G;have aI:fd c a[m]=ao:=by{
 have h':E (iU (fd c)<|bh (k+1) a)=m-(k+1):=by rw[<- V dA];omega
 exact Ri};generalize a[m]=s at *;have X:(m:Int)<E a:=G;have aR:(k:Int)<E a:=G;replace hmk:=ae hmk;have A:ax (E (c::iU (fd c) (bh (k+1) a))=m-k):=by{rw[ax,ey,<- V dA,V hmk];omega};have kz:ax (bh (i+1) (dw fd a)=le fd (E<|bh m a) m (bh m a)):=QT;have aC:aK.follows .mixedOrders=aE:=b8;have Q:=hB2.1;have av:=iY Ib n;have aw:=iY In r;have ap:=iY ko o;have aq:=iY ko q1;have ar:=iY ko q2;have au:=iY ko q3;have t:=iY ko p0;have ah:=iY ko p1;have aj:=iY ko fz;have al:=iY ko gg;gi_wp2_with fail;refine wpIn_wide.2 ?_;go_quiet_grown ((go_at_call 180;exact Calls.grown_of<|RG c s _));have u:=V jt i _ _ (V hJ2)<|BK wr nq osq;have gA:=hB2.trans<|lY.Pb (BK wr nq osq) G G G;have g:=V P i (k,c::iU (fd c) (bh (k+1) a)) _ (V C) u;dsimp only at g;rw[V A]at g;obtain⟨an,aT,ab,ad,aJ,w⟩:=g;gi_wp2_with fail;refine⟨af,w.mono ?_⟩;rintro e aa (⟨rfl,mE,hk4⟩|⟨rfl,yx,_⟩);{exact Ia};{exact HR}}};{have hmk:m=k+1+T:=G;have Bh:=ae hmk;clear hmk h;have:m<=E a:=G;have Q:=hB2.1;have A:ax (E (c::iU (fd c) (bh (k+1) a))=m-k):=by{rw[ax,ey,<- V dA,V Bh];omega};have kz:ax (bh (i+1) (dw fd a)=le fd (E<|bh m a) m (bh m a)):=PJ;gi_wp2_with fail;refine wpIn_wide.2 ?_;go_quiet (fail);have u:=V jt i _ _ (V hJ2)<|kv (dz _ wr) nq;have gA:=hB2.trans<|lY.Pb (kv (dz (U wr.1) wr) nq) G G G;have:co (ef wr nq) bl 0 (bC b ay (E a) q):=n;have g:=V P i (k,c::iU (fd c) (bh (k+1) a)) _ (V C) u;dsimp only at g;rw[V A]at g;obtain⟨an,aT,ab,ad,aJ,w⟩:=g;gi_wp2_with fail;refine⟨af,w.mono ?_⟩;rintro e aa (⟨rfl,mE,hk4⟩|⟨rfl,yx,_⟩);{exact Ia};{exact HR}})};{gi_wp2;go_end0;have ac:i=E (dw fd a):=by{have:=V aU;rw[sh<|show E a<=k by omega]at this;have h':=fE List.length this;rw[js]at h';have t:E (le fd (List.length (α:=D) []) k [])=0:=af;rw[t]at h';omega};exact⟨⟨_,af⟩,bG<|ac▸F⟩})
end
section
variable {P:Program} {ops:Array Oper} {Q:Exit->Act->World->Prop} {l:Nat}
def aln(q:∀(d:Nat) (e:Oper),ops[d]? = ag e->∀k,e.2≠.defer k){h i}(o:∀b m,h b m->i b m){b}(c:wpOpIn fm 0 P ops Q d h b m):wpOpIn (fm.inRound l) 0 P ops Q d i b m:=by
 unfold wpOpIn at *;cases g:ops[d]? with
 | none=>simp only[g]at c ⊢; grind
 | some e =>{simp only[g]at c ⊢;split;{rename_i p;simp only[p,pi]at c;have j:=Oper.wpIn_mono o c;refine⟨j.1,?_⟩;have n:=j.2;rw[Oper.semAt_eq _ _ _<|q d e g]at n ⊢;assumption};simp_all}
def SD(i:∀(e:Nat) (j:Oper),ops[e]? = ag j->∀k,j.2≠.defer k)(h):∀(c:Nat) (g:Array Bool) (a:lJ) (b:aQ),
  wpAnyIn fm 0 P h ops Q c g a b->wpAnyIn (fm.inRound l) 0 P h ops Q c g a b
 | 0,_,_,_,d=>d
 | c+1,g,a,b,d=>⟨d.1,λe aN=>aln i (λa b n=>SD i h c _ a b n)<|d.2 e aN⟩
def Aa{a}(g:P.follows .mixedOrders=aE)(j:∀(h:Nat) (b:Oper),ops[h]? = ag b->∀c,b.2≠.defer c)(e:wpAnyIn fm 0 P .any ops Q (U ops) (Array.replicate (U ops) ao) a<|bq m):(Code.region d ops aE).wpIn (fm.inRound l) 0 P Q a m :=
 wpIn_region_any g (SD j _ _ _ _ _ e)
def alo(ops:Array Oper):Bool:=ops.all λa=>match a.2 with
 | .defer _=>ao
 | _=>aE
def xj(d:alo ops=aE):∀(c:Nat) (a:Oper),ops[c]? = ag a->∀b,a.2≠.defer b:=by intro c a g b h;have e:=Array.mem_of_getElem? g;have:=(Array.all_eq_true_iff_forall_mem.1 d) a e;grind
end
section
attribute [local go_sem] Oper.semAt_some
def eR(a:Nat×List D):ap:=(a.2.headD D.zero).owner
def LL(b:Option Addr)(d c:Nat)(a:aQ):bd aK 109 #[aL b d c] a λe g=>e=bg (fc (.func 179) #[] #[N<|U a.1])/\g=aO a (aS #[aL b d c] 41):=by go_wp2;go_ret;exact pf
def SF(dZ:D->D->Bool):∀(f b:Nat) (l:List D) (a:Nat×List D),a∈le dZ f b l->b<=a.1/\a.1+E a.2<=b+E l/\0<E a.2/\a.2=amA (E a.2) (bh (a.1-b) l)
 | 0,b,l,a,e=>by simp[le]at e
 | f+1,b,[],a,e=>by simp[le]at e
 | f+1,b,c::d,a,e=>by
  have j:=fE List.length<|uH (p:=dZ c) (l:=d);rw[dE]at j;rw[le,gC]at e;rcases e with rfl|e;{
  refine⟨cW _,cx,aA,?_⟩;simp only[sm,sk,ey,yr];congr 1;conv=>rhs;arg 2;rw[<- uH (p:=dZ c) (l:=d)]
  rw[List.take_left]};{
  obtain⟨k,n,h,i⟩:=SF dZ f _ _ a e;refine⟨G,cx,h,?_⟩;have g:bh (a.1-b) (c::d)=bh (a.1-(b+1+E (iU (dZ c) d))) (mt (dZ c) d):=by{
  conv=>lhs;arg 2;arg 2;rw[<- uH (p:=dZ c) (l:=d)]
  rw[show a.1-b=1+E (iU (dZ c) d)+(a.1-(b+1+E (iU (dZ c) d)))from G];rw[<- pk,show 1+E (iU (dZ c) d)=E (c::iU (dZ c) d) from cx,<- g_,KU]};rw[g];exact i}
def tw{dZ:D->D->Bool}{a:Nat×List D}(c:a∈dw dZ j):a.1+E a.2<=E j/\0<E a.2/\a.2=amA (E a.2) (bh a.1 j):=by have⟨h1,h2,h3,h4⟩:=SF dZ _ _ _ _ c;exact⟨G,h3,by simpa using h4⟩
def Av{ay:Nat}(e:gr m d ay j){dZ:D->D->Bool}{a:Nat×List D}(g:a∈dw dZ j):gr m d (ay+a.1*4) a.2:=by have⟨_,_,h3⟩:=tw g;rw[h3];exact(e.drop a.1).take _
def SG{a:Nat×List D}(b:0<E a.2):a.2[0].owner=eR a:=by
 obtain⟨e,c⟩:=a;cases c with
 | nil=>simp at b
 | cons d g=>rfl
def P4{P:Prop}(h:P:=by exact λA B hA hst=>⟨hst.4,hst.5 _ G,hst.5 _ G⟩):P:=h
def Po{P:Prop}(h:P:=by exact⟨_,BH af _ _ _,⟨_,af⟩,bE<|Mb _ _ adq hp⟩):P:=h
def PB{P:Prop}(h:P:=by exact λc A B hA hst=>⟨hA.1,V Mb A B hA.2.1<|bV hst G,cU hA.2.2 hst.4⟩):P:=h
def Qu{P:Prop}(h:P:=by intro r;have hg:=hgrow r;exact⟨V jt 0 _ _ h0<|bN e5<|bV hg G,hg.5 _ G,hg.5 _ G,hg.4⟩):P:=h
def Qg{P:Prop}(h:P:=by go_simp;refine hK _ _ ?_;refine lW 6 λK hK=>?_;go_simp;refine⟨af,hR.mono ?_⟩;rintro e W3 (⟨rfl,mE,hk4⟩|⟨rfl,yx,hk4⟩);{refine hK _ _ ?_;refine lW 7 λK hK=>?_;go_simp;refine hK _ _ ?_;refine zz b8 ?_ _;gi_wp2_with fail;exact V<|cF W3 mE hk4};{refine hK _ _ ?_;refine lW 7 λK hK=>?_;go_simp;refine hK _ _ ?_;refine zz b8 ?_ _;gi_wp2_with fail;have⟨r1,r3,r4⟩:=V<|bI W3 yx hk4;exact⟨r1,cE,af,r3,r4⟩}):P:=h
def LM{ay x:Nat}(aw:aD m (M x 0)=ag (bC d ay (E j) o))(H:gr m d ay j)(ar:x<U m.1)(ad:E j<=3001)(aa:E j<=o):xS aK 179 #[N x] (λh:Nat×List D=>#[aZ<|eR h,bC d (ay+h.1*4) (E h.2)<|E h.2]) (dw fd j)
   (λA B=>cB (U m.1) A B) (λA B=>B.1[d]? = A.1[d]?/\ex (U m.1) A B) (λA B=>ex (U m.1) A B) m:=by
 intro l z C ab T ac h0;have aj:=ae ac;have jt:=ae ab;have Mb:=ae T;refine Gp func179 af cE ?_;simp only[ntmps179,ox,ey,h8,Nat.reduceAdd,Nat.reduceSub,ov,oQ,oS,oR,jz,g_];have:=H.1;gi_wp2_with (refine⟨cE,af,?_⟩;gi_at_call 176;refine(ez.2<|SC _ _ _ _ _).m ?_;rintro aF rfl);have X:aD (aO (aO (aO m<|aS #[fc (.yield l) #[] #[]] 108)<|aS #[aL (ag ⟨d,ay,ai⟩) (E j) o] 41)<|aS #[fc (.func 180) #[] #[]] 261) (M (U m.1) 0)=ag (fc (.yield l) #[] #[]):=by go_simp
 have Y:aD (aO (aO (aO m<|aS #[fc (.yield l) #[] #[]] 108)<|aS #[aL (ag ⟨d,ay,ai⟩) (E j) o] 41)<|aS #[fc (.func 180) #[] #[]] 261) (M (U m.1+1) 0)=ag (bC d ay (E j) o):=by go_simp
 have Z:aD (aO (aO (aO m<|aS #[fc (.yield l) #[] #[]] 108)<|aS #[aL (ag ⟨d,ay,ai⟩) (E j) o] 41)<|aS #[fc (.func 180) #[] #[]] 261) (M (U m.1+1+1) 0)=ag (fc (.func 180) #[] #[]):=by go_simp
 have:U (aO (aO (aO m<|aS #[fc (.yield l) #[] #[]] 108)<|aS #[aL (ag ⟨d,ay,ai⟩) (E j) o] 41)<|aS #[fc (.func 180) #[] #[]] 261).1=U m.1+3:=aA;have e5:a7 m (aO (aO (aO m<|aS #[fc (.yield l) #[] #[]] 108)<|aS #[aL (ag ⟨d,ay,ai⟩) (E j) o] 41)<|aS #[fc (.func 180) #[] #[]] 261) := ((ct cd bv _).alloc aA _).alloc cx _;generalize aO (aO (aO m<|aS #[fc (.yield l) #[] #[]] 108)<|aS #[aL (ag ⟨d,ay,ai⟩) (E j) o] 41) (aS #[fc (.func 180) #[] #[]] 261)=g at *;have hgrow:∀r,a7 g (aO (aO g<|dq<|ag [])<|dR r):=λr=>(ct cd bv _).alloc aA _;refine alw (xs:=dw fd j) (encs:=λh:Nat×List D=>#[bC d (ay+h.1*4) (E h.2)<|E h.2]) (St:=λA B=>a7 A B) (Kp:=lY (U m.1+1) (U m.1+1+1) d) (Kx:=λ_ _=>True) (gf:=233) (lb:=#[N<|U m.1+1,N<|U m.1+1+1]) af (enters_of func233 b8 af) (λ_=>af) ?LK (λk b=>z k b/\b.1[U m.1]? = g.1[U m.1]?/\b.1[d]? = g.1[d]?/\U g.1<=U b.1) (λc b=>c=.ret/\C b/\U g.1<=U b.1) ?nY ?hI ?rO ?yt ?uR ?h0 (λA B=>B.1[d]? = A.1[d]?/\ex (U m.1) A B) ?vV (λ_ _=>True) (λ_ _ _ _ _ _ _ _=>cE) (λh=>{ tmps:=#[fc (.yield l) #[] #[],N x,N<|U m.1,fc (.func 180) #[] #[],bC d (ay+h.1*4) (E h.2)<|E h.2, bC d ay (E j) o,fc (.func 180) #[] #[],fc (.func 233) #[] #[N<|U m.1+1,N<|U m.1+1+1],bC d (ay+h.1*4) (E h.2)<|E h.2,fv,fv,fv,fv,fv,fv,fv,fv],defers:=[] }) ?assign ?body ?done ?stop;case LK =>(intro r;have hg:=hgrow r;exact LK d ay o _ _ j _ ((hg.cell (p:=⟨U m.1+1,0,ai⟩) (by show U m.1+1<U g.1;omega)).trans Y) ((hg.cell (p:=⟨U m.1+1+1,0,ai⟩) (by show U m.1+1+1<U g.1;omega)).trans Z) ((H.below e5).below hg) (cj hg.4) (cj hg.4) ad aa)
 case nY=>exact P4
 case hI=>exact λk A B hA hst=>⟨V jt k A B hA.1<|bV hst G,(hst.5 _ G).trans hA.2.1,(hst.5 _ G).trans hA.2.2.1,cU hA.2.2.2 hst.4⟩
 case rO=>exact PB
 case yt =>(intro k A r u hA q;have hp:cB (U m.1) A (eF A (U g.1+1) u):=yw (w:=g) G A _ _ u G q af af;exact⟨V jt k A _ hA.1 hp,(uK G).trans hA.2.1,(uK G).trans hA.2.2.1,by rw[zU];exact hA.2.2.2⟩)
 case uR =>(intro c A r u hA q;have hp:cB (U m.1) A (eF A (U g.1+1) u):=yw (w:=g) G A _ _ u G q af af;exact⟨hA.1,V Mb A _ hA.2.1 hp,by rw[zU];exact hA.2.2⟩)
 case h0 =>(exact Qu)
 case vV =>(intro b r aB aC aq q rs av;have:=(ea.1 q).1;have O:=rs.2.1;rw[zU]at O;refine⟨by rw[zU];exact O,?_,?_,?_⟩;{rw[uK G,rs.2.2 _ G (by rw[zU];omega),uK G]};{rw[uK G,rs.2.2 _ G (by rw[zU];omega),uK G]};{rw[uK G,rs.1,uK G]})
 case assign =>(intro al h b K hK;gi_wp2;exact hK)
 case body =>(intro al k h b Q hI P;obtain⟨ap,R,I,y⟩:=hI;have L:=rM Q;have hA:=vR (H.below e5) y I;have W:=Av hA L;have S:=(tw L).2.1;have⟨q0,q1,q2,q3⟩:=W.four 0 S;rw[rW,jn,SG S]at q0;have:=(ev R).trans X;have an:=V aj k h (bq b) Q<|jt k _ _ ap<|cd.drew;have:0<(E h.2:Int):=G;have ah:aK.follows .mixedOrders=aE:=b8;obtain⟨au,tmps,assign,body,az,hR⟩:=an;have J:∀W3,ex (U m.1) (bq b) W3->ju (U g.1) b W3:=λW3 rs=>by{have n:ex (U m.1) b W3:=rs;exact⟨n.1,n.2 _ G G,n.2 _ G G⟩};have cF:∀W3,z (k+1) W3->W3.1[d]? = (bq b).1[d]?/\ex (U m.1) (bq b) W3->ax (ju (U g.1) b W3/\(W3.1[d]? = b.1[d]?/\ex (U m.1) b W3)/\(z (k+1) W3/\W3.1[U m.1]? = g.1[U m.1]?/\W3.1[d]? = g.1[d]?/\U g.1<=U W3.1)):=λW3 F rs=>by{have t:=J W3 rs.2;have n:W3.1[d]? = b.1[d]?/\ex (U m.1) b W3:=rs;exact⟨t,n,F,(n.2.2 _ bv G).trans R,c_ n.1 I,cU y t.1⟩};have bI:∀W3,C W3->ex (U m.1) (bq b) W3->ax (ju (U g.1) b W3/\(C W3/\U g.1<=U W3.1)):=λW3 F rs=>by{have t:=J W3 rs;exact⟨t,F,cU y t.1⟩};gi_wp2_with fail;refine Aa ah (xj b8) ?_;refine mv 1 ?_;refine mv 2 ?_;refine mv 3 ?_;refine mv 5 ?_;refine ui (rs:=[0,4]) b8 aA ?_;refine mM af (λK hK=>?_)<|mM af (λK hK=>?_) uh;{go_simp;refine hK _ _ ?_;refine lW 4 λK hK=>?_;exact Qg};{go_simp;refine hK _ _ ?_;refine lW 0 λK hK=>?_;exact Qg})
 case done =>(intro b hI a P;gi_wp2;refine⟨aA,bG ⟨_,_,af,zV a,?_⟩⟩;have hp:cB (U m.1) b (eF b (U g.1)<|dq ai):=yw (w:=g) G b _ _ _ bv a af af;exact⟨_,BH af _ _ _,⟨_,af⟩,bG<|jt _ _ _ hI.1 hp⟩)
 case stop =>(intro c b hI a P;obtain⟨rfl,adq,y⟩:=hI;gi_wp2;refine⟨aA,bG ⟨_,_,af,zV a,?_⟩⟩;have hp:cB (U m.1) b (eF b (U g.1)<|dq ai):=yw (w:=g) G b _ _ _ bv a af af;exact Po)
end
section
attribute [local go_sem] Oper.semAt_some
def uL(a:ap)(b:List D):List (Nat×List D):=ed (λc=>fZ (eR c) a)<|dw fd b
def alp{b}:bd aK 182 #[aL b d h,amz T] m λe g=>e=bg (fc (.func 235) #[] #[N<|U m.1,N<|U m.1+1])/\g=aO (aO m<|aS #[aL b d h] 41) (aS #[amz T] 9):=by go_wp2;go_ret;simp
def P1{P:Prop}(h:P:=by rintro w' rfl;exact⟨af,aA,(ct cd bv _).alloc aA _,by go_simp,by go_simp⟩):P:=h
def SH(b d c s a):bd aK 182 #[aL b d c,amz s] a λe w'=>e=bg (fc (.func 235) #[] #[N<|U a.1,N<|U a.1+1])/\U w'.1=U a.1+2/\a7 a w'/\aD w' (M (U a.1) 0)=ag (aL b d c)/\aD w' (M (U a.1+1) 0)=ag (amz s):=by refine(alp).m ?_;exact P1
def iG(c:Nat×List D->Bool)(b:List<|Nat×List D)(a:Nat):Nat:=E<|ed c<|amA a b
def alq{b a}:iG b a (E a)=E (ed b a):=by simp[iG]
def alr(c){b a}(e:b[d]? = ag a)(g:c a=ao):iG c b (d+1)=iG c b d:=by obtain⟨aN,rfl⟩:=j_.1 e;unfold iG;rw[iH aN,tG,dE];grind
def als(c){a b}(e:a[d]? = ag b)(g:c b=aE):iG c a (d+1)=iG c a d+1/\(ed c a)[iG c a d]? = ag b:=by
 obtain⟨aN,rfl⟩:=j_.1 e;unfold iG;refine⟨?_,?_⟩;{rw[iH aN,tG,dE];grind};{
 have:ed c a=ed c (amA d a)++(a[d]::ed c (bh (d+1) a)):=by{
 conv=>lhs;rw[<- lP d a,lA aN]
 grind};grind}
def SI{a}(d:a∈dw fd j):∃e∈j,e.owner=eR a:=by have⟨h1,h2,h3⟩:=tw d;have c:∀g∈a.2,g∈j:=by{grind};exact⟨a.2[0],c _<|eP h2,SG h2⟩
def SJ{h ay P l}(aa:gr m h ay j)(av:E j<=o)(aW:aD m (M P 0)=ag (bC h ay (E j) o))(aU:aD m (M d 0)=ag (aZ l))(a5:P<U m.1)(aN:d<U m.1)(aH:E j<=3001)(a2:E l<=3000)(a3:∀r∈j,E r.owner<=3000):xS aK 235 #[N P,N d] (λg:Nat×List D=>#[aZ<|eR g,bC h (ay+g.1*4) (E g.2)<|E g.2]) (uL l j)
   (λA B=>cB (U m.1) A B) (λA B=>(B.1[h]? = A.1[h]?/\B.1[d]? = A.1[d]?)/\ex (U m.1) A B) (λA B=>ex (U m.1) A B) m:=by
 intro u J L az an aF h0;have aM:=ae aF;have jt:=ae az;have Mb:=ae an;have:=aa.1;refine wK func235 af cE ?_;simp only[ntmps235,ox,ey,h8,Nat.reduceAdd,Nat.reduceSub,ov,oQ,oS,oR,jz,g_];gi_wp2_with (refine⟨cE,af,?_⟩;gi_at_call 109;refine(ez.2<|LL _ _ _ _).m ?_;rintro aj rfl);have ar:aD (aO (aO m<|aS #[fc (.yield u) #[] #[]] 108)<|aS #[aL (ag ⟨h,ay,ai⟩) (E j) o] 41) (M (U m.1) 0)=ag (fc (.yield u) #[] #[]):=by go_simp
 have au:aD (aO (aO m<|aS #[fc (.yield u) #[] #[]] 108)<|aS #[aL (ag ⟨h,ay,ai⟩) (E j) o] 41) (M (U m.1+1) 0)=ag (bC h ay (E j) o):=by go_simp
 have:U (aO (aO m<|aS #[fc (.yield u) #[] #[]] 108)<|aS #[aL (ag ⟨h,ay,ai⟩) (E j) o] 41).1=U m.1+2:=aA;have e5:a7 m (aO (aO m<|aS #[fc (.yield u) #[] #[]] 108)<|aS #[aL (ag ⟨h,ay,ai⟩) (E j) o] 41):=(ct cd bv _).alloc aA _;generalize (aO (aO m<|aS #[fc (.yield u) #[] #[]] 108)<|aS #[aL (ag ⟨h,ay,ai⟩) (E j) o] 41)=a at *;have hgrow:∀r,a7 a (aO (aO a<|dq<|ag [])<|dR r):=λr=>(ct cd bv _).alloc aA _;have:∀r,U (aO (aO a<|dq<|ag [])<|dR r).1=U a.1+2:=λr=>by simp
 refine O2 (xs:=dw fd j) (encs:=λg:Nat×List D=>#[aZ<|eR g,bC h (ay+g.1*4) (E g.2)<|E g.2]) (St:=λA B=>cB (U a.1+2) A B) (Kp:=λA B=>B.1[h]? = A.1[h]?/\ex (U a.1+2) A B) (Kx:=λA B=>ex (U a.1+2) A B)
  (gf:=179) (lb:=#[N<|U m.1+1]) af (enters_of func179 dS af) (λ_=>af) ?seq
  (λt b=>J (iG (λg=>fZ (eR g) l) (dw fd j) t) b/\b.1[U m.1]? = a.1[U m.1]?/\b.1[d]? = a.1[d]?/\U a.1<=U b.1)
  (λc b=>c=.ret/\L b/\U a.1<=U b.1)
  ?nY ?hI ?rO ?yt ?uR ?h0 (λA B=>(B.1[h]? = A.1[h]?/\B.1[d]? = A.1[d]?)/\ex (U m.1) A B) ?vV (λA B=>ex (U m.1) A B) ?hKx
  ?round ?done ?stop
 case seq =>
  intro r;have hg:=hgrow r;have:=LM ((hg.cell (p:=⟨U m.1+1,0,ai⟩) (by grind)).trans au) ((aa.below e5).below hg) (by grind) aH av
  grind
 case nY=>exact P4
 case hI=>exact λt A B hA hst=>⟨V jt _ A B hA.1<|bV hst G,(hst.5 _ G).trans hA.2.1,(hst.5 _ G).trans hA.2.2.1,cU hA.2.2.2 hst.4⟩
 case rO=>exact PB
 case yt =>
  intro t A r F hA q;have hp:cB (U m.1) A (eF A (U a.1+1) F):=belowK_b (w:=a) G A _ _ F G q af af;exact⟨V jt _ A _ hA.1 hp,(kW G).trans hA.2.1,(kW G).trans hA.2.2.1,by simp_all⟩
 case uR =>
  intro c A r F hA q;have hp:cB (U m.1) A (eF A (U a.1+1) F):=belowK_b (w:=a) G A _ _ F G q af af;exact⟨hA.1,V Mb A _ hA.2.1 hp,by simp_all⟩
 case h0 =>
  exact Qu
 case vV =>
  intro b r aP aR ap q hk aB;have:=(ea.1 q).1;have hs:=hk.2.1;rw[zy]at hs;refine⟨by rw[kW G,hk.1.1,kW G],by simp_all,λk eK hk2=>?_⟩;rw[kW G,hk.2.2 _ G<|by simp_all,kW G]
 case hKx =>
  intro b r aP aR ap q hk aB;exact PH
 ·intro ad t g aV b T hI ab;gi_wp2_with fail;refine⟨cE,?_⟩;obtain⟨I,W,K,H⟩:=hI;have aI:=rM T;have⟨r,Pn,hro⟩:=SI aI;have aq:cf (O<|eR g)<=1000000:=by rw[de,<- hro];grind
  have aJ:cf (O l)<=1000000:=m7
  have:=(ev W).trans ar;have:aD b (M d 0)=ag (aZ l):=(ev K).trans<|(e5.cell (p:=⟨d,0,ai⟩) aN).trans aU;have S:=DY (O<|eR g) (O l) b aq aJ;rw[r8,r8]at S;have X:=ae S;clear S hro Pn;cases ac:fZ (eR g) l
  ·have y:=alr (λg=>fZ (eR g) l) T ac;have Y:=ae y;have:=ae I;clear y I;gi_wp2_with (refine⟨cE,af,?_⟩;gi_at_call 110;refine(jH ad<|ez.2<|V X).m ?_;rintro aj rfl);refine⟨λ_ aw=>(by cases aw),?_⟩;gi_wp2_with fail;exact⟨⟨cW _,af,af⟩,⟨⟨af,af⟩,ex.refl _ _⟩,by rw[V Y];assumption,W,K,H⟩
  ·have⟨y,A_⟩:=als (λg=>fZ (eR g) l) T ac;have aT:=V aM _ g b A_ I;have Y:=ae y;have R:∀e,J (iG (λg=>fZ (eR g) l) (dw fd j) t+1) e->((e.1[h]? = b.1[h]?/\e.1[d]? = b.1[d]?)/\ex (U m.1) b e) ->
     ax (ju (U a.1) b e/\((e.1[h]? = b.1[h]?/\e.1[d]? = b.1[d]?)/\ex (U m.1) b e)/\(J (iG (λg=>fZ (eR g) l) (dw fd j)<|t+1) e/\e.1[U m.1]? = a.1[U m.1]?/\e.1[d]? = a.1[d]?/\U a.1<=U e.1)):=λe z hk=>by
    have n:=hk.2;refine⟨⟨n.1,n.2 _ G G,n.2 _ G G⟩,hk,?_,(n.2 _ bv G).trans W,c_ hk.1.2 K,cU H n.1⟩
    grind
   have Q:∀e,L e->ex (U m.1) b e->ax (ju (U a.1) b e/\ex (U m.1) b e/\(L e/\U a.1<=U e.1)):=λe z n =>
    ⟨⟨n.1,n.2 _ G G,n.2 _ G G⟩,n,z,cU H n.1⟩
   obtain⟨a1,a6,aX,aY,a4,aC⟩:=aT;clear y I A_;gi_wp2_with (refine⟨cE,af,?_⟩;gi_at_call 110;refine(jH ad<|ez.2<|V X).m ?_;rintro aj rfl);refine⟨af,aC.mono ?_⟩;rintro a0 e (⟨rfl,ah,C⟩|⟨rfl,al,C⟩)
   ·have Z:=R e ah C;clear ah C R Q;gi_wp2_with fail
    assumption
   ·have Z:=Q e al C;clear al C R Q;gi_wp2_with fail;have⟨r1,r2,r3,r4⟩:=V Z;exact⟨r1,r2,af,r3,r4⟩
 case done =>
  intro b hI x ab;gi_wp2;refine⟨aA,bG ⟨_,_,af,mI x,?_⟩⟩;have hp:cB (U m.1) b (eF b (U a.1)<|dq ai):=belowK_b (w:=a) G b _ _ _ bv x af af;have z:=hI.1;rw[alq]at z;exact⟨_,BH af _ _ _,⟨_,af⟩,bG<|jt _ _ _ z hp⟩
 case stop =>
  intro c b hI x ab;obtain⟨rfl,adq,H⟩:=hI;gi_wp2;refine⟨aA,bG ⟨_,_,af,mI x,?_⟩⟩;have hp:cB (U m.1) b (eF b (U a.1)<|dq ai):=belowK_b (w:=a) G b _ _ _ bv x af af;exact Po
end
section
attribute [local go_sem] Oper.semAt_some
def dF(c:List D)(b:ap):List D :=
 match (dw fd c).find? (λa=>eR a==b)with
 | some a=>a.2
 | none=>[]
def Cm(v:bm)(c ay:Nat)(a:List D):Prop:=(v=bY/\a=[])\/∃b,v=bC c ay (E a) b/\E a<=b
def nW(d ay:Nat)(c:List D)(v:bm)(a:List D):Prop:=(v=bY/\a=[])\/∃b,(v=bC d (ay+b*4) (E a) (E a)/\b+E a<=E c/\a=amA (E a) (bh b c))
def nW.at{b ay d}(l:nW b ay j e d)(v:gr m b ay j):∃g,gr m b g d/\Cm e b g d/\∀dZ,∀a∈dw dZ d,nW b ay j (bC b (g+a.1*4) (E a.2)<|E a.2) a.2:=by
 rcases l with⟨rfl,rfl⟩|⟨h,rfl,o,i⟩;{exact⟨ay,⟨v.1,λp n=>by grind⟩,bG ⟨af,af⟩,λdZ a c=>by simp[dw,le]at c⟩};{
 refine⟨ay+h*4,i▸(v.drop h).take _,bE ⟨_,af,cW _⟩,λdZ a c=>bE ⟨h+a.1,?_,?_,?_⟩⟩;{simp};{have:=(tw c).1;omega};{
 have⟨h1,_,h3⟩:=tw c;conv=>lhs;rw[h3,i]
 rw[List.drop_take,List.take_take,pk,uI G]}}
def nW.rv{ay}(h:nW d ay j e q)(v:gr m d ay j):kN m e q:=by have⟨o',h1,b,_⟩:=h.at v;rcases b with b|⟨g,rfl,i⟩;{exact bG b};{exact bE ⟨d,o',g,af,i,h1⟩}
def nW.slice{ay}(a:nW d ay j e q):∃b v,e=aL b (E q) v:=by rcases a with⟨rfl,rfl⟩|⟨h,rfl,_,_⟩;{simp};simp
def nW.len{ay}(v:nW d ay j e q):E q<=E j:=by rcases v with⟨rfl,rfl⟩|⟨a,rfl,_,_⟩;{simp};{omega}
def nW.ayY{ay dZ a}(c:a∈dw dZ j):nW d ay j (bC d (ay+a.1*4) (E a.2)<|E a.2) a.2 :=
 bE ⟨a.1,af,(tw c).1,(tw c).2.2⟩
def SK{p}{b:List<|Nat×List D}{c}(a:b[d]? = ag c):(bh d b).find? p=if p c then ag c else(bh (d+1) b).find? p:=by obtain⟨aN,rfl⟩:=j_.1 a;rw[lA aN,KV];grind
def SL{ay}(n)(B:gr m d ay j)(al:E j<=h)(aq:E j<=3001):bd aK 184 #[bC d ay (E j) h,aZ n] m λac Y=>(∃v,ac=bg v/\nW d ay j v (dF j n))/\a7 m Y:=by
 refine(ez (n:=0)).1 (wK func184 af cE ?_);simp only[ntmps184,ox,ey,h8,Nat.reduceAdd,Nat.reduceSub,ov,oQ,oS,oR,jz,g_];have q:=B.1;replace B:=ae B;gi_wp2_with (refine⟨cE,af,?_⟩;gi_at_call 109;refine(ez.2<|LL _ _ _ _).m ?_;rintro Y rfl);have ad:cy (aO (aO (aO m<|aS #[amz<|O n] 9)<|aS #[aL ai 0 0] 41)<|aS #[aL (ag ⟨d,ay,ai⟩) (E j) h] 41) (U m.1) (aZ n) 9:=((cy.qf _ _ _).alloc _).alloc _;have ah:cy (aO (aO (aO m<|aS #[amz<|O n] 9)<|aS #[aL ai 0 0] 41)<|aS #[aL (ag ⟨d,ay,ai⟩) (E j) h] 41) (U m.1+1) (bY) 41:=by{have:=(cy.qf (aO m<|aS #[amz<|O n] 9) (bY) 41).alloc<|aS #[aL (ag ⟨d,ay,ai⟩) (E j) h] 41;simp_all};have aj:aD (aO (aO (aO m<|aS #[amz<|O n] 9)<|aS #[aL ai 0 0] 41)<|aS #[aL (ag ⟨d,ay,ai⟩) (E j) h] 41) (M (U m.1+1+1) 0)=ag (bC d ay (E j) h):=by go_simp
 have:U (aO (aO (aO m<|aS #[amz<|O n] 9)<|aS #[aL ai 0 0] 41)<|aS #[aL (ag ⟨d,ay,ai⟩) (E j) h] 41).1=U m.1+3:=aA;have R:a7 m (aO (aO (aO m<|aS #[amz<|O n] 9)<|aS #[aL ai 0 0] 41)<|aS #[aL (ag ⟨d,ay,ai⟩) (E j) h] 41):=((ct cd bv _).alloc aA _).alloc cx _;generalize aO (aO (aO m<|aS #[amz<|O n] 9)<|aS #[aL ai 0 0] 41) (aS #[aL (ag ⟨d,ay,ai⟩) (E j) h] 41)=g at *;have ap:∀r,a7 g (aO (aO g<|dq<|ag [])<|dR r):=λr=>(ct cd bv _).alloc aA _;have:∀r,U (aO (aO g<|dq<|ag [])<|dR r).1=U g.1+2:=λr=>by simp
 refine zZ (xs:=dw fd j) (encs:=λa:Nat×List D=>#[aZ<|eR a,bC d (ay+a.1*4) (E a.2)<|E a.2]) (St:=λk l=>cB (U g.1+2) k l) (Kp:=λk l=>l.1[d]? = k.1[d]?/\ex (U g.1+2) k l) (Kx:=λk l=>ex (U g.1+2) k l) (gf:=179) (lb:=#[N<|U m.1+1+1]) af (enters_of func179 dS af) (λ_=>af) ?seq [d] (by grind) (λ_ _ _ e=>e) (λk l e an=>⟨e _ aA,an⟩) (λ_ _ e=>e) (λF b=>(bh F<|dw fd j).find? (λa=>eR a==n)=(dw fd j).find? (λa=>eR a==n)/\a7 m b/\cy b (U m.1) (aZ n) 9/\cy b (U m.1+1) (bY) 41) (λH b=>H=.ret/\a7 m b/\∃a,a∈dw fd j/\dF j n=a.2/\cy b (U m.1+1) (bC d (ay+a.1*4) (E a.2)<|E a.2) 41) (λF k l e q=>⟨e.1,bN e.2.1<|bV q G,e.2.2.1.below q G,e.2.2.2.below q G⟩) (λH k l e q=>⟨e.1,bN e.2.1<|bV q G,by have⟨a,h1,h2,h3⟩:=e.2.2;exact⟨a,h1,h2,h3.below q G⟩⟩) ⟨af,R,ad,ah⟩ ?round ?done ?stop;case seq =>(intro r;have S:=ap r;have:=LM ((S.cell (p:=⟨U m.1+1+1,0,ai⟩) (by grind)).trans aj) ((B.below R).below S) (by grind) aq al;grind)
 ·(intro av F a au b C x T;gi_wp2_with fail;refine⟨cE,?_⟩;obtain⟨y,t,A,i⟩:=x;have:=A.cell;have Q:=i.cell;have ab:=i.frozen;have W:((O<|eR a).toList==(O n).toList)=(eR a==n):=yz;have K:=SK (p:=λa=>eR a==n) C;rw[y]at K;have Z:=ae K;have aa:=ae A;have X:=ae i;clear y K A i;cases J:eR a==n;{rw[J]at W;have u:ax ((bh (F+1)<|dw fd j).find? (λa=>eR a==n)=(dw fd j).find? λa=>eR a==n):=by{grind};gi_wp2_with fail;exact⟨ex.refl _ _,aA,u,t,aa,X⟩};{rw[J]at W;have u:ax (dF j n=a.2):=by{unfold dF;rw[ax,V Z,b7 J]};gi_wp2_with fail;exact⟨ex.setCell b _ G,af,fk t aA _,a,rM C,u,X.set _⟩})
 case done =>(intro b x z T;obtain⟨y,t,A,i⟩:=x;have Q:=i.cell;have ab:=i.frozen;have u:ax (dF j n=[]):=by{unfold dF;rw[ax,<- y,sh bv];rfl};clear y;gi_wp2_with fail;have P:=(dJ b (M (U m.1+1) 0) (bY) (U g.1)<|by grind).trans z;refine⟨aA,bG ⟨_,_,af,mI P,?_⟩⟩;have I:=((i.set<|bY).put (d:=U g.1) (o:=dq ai) G).cell;refine⟨bY,by simp[dr,results184,go_sem,I],⟨_,af,bG ⟨af,u⟩⟩,?_⟩;exact(fk t aA _).trans<|belowK_b (w:=g) G _ _ _ _ bv P af af)
 case stop =>(intro H b x z T;obtain⟨rfl,t,a,C,L,i⟩:=x;replace L:=ae L;have Q:=i.cell;gi_wp2_with fail;refine⟨aA,bG ⟨_,_,af,mI z,?_⟩⟩;have I:=(i.put (d:=U g.1) (o:=dq ai) G).cell;have ar:=bN t<|belowK_b (w:=g) (show U m.1<=U g.1 by omega) b _ _ (dq ai) bv z af af;refine⟨_,by simp[dr,results184,go_sem,I];rfl,⟨_,af,?_⟩,ar⟩;rw[V L];exact nW.ayY C)
end
section
attribute [local go_sem] Oper.semAt_some
def nK(a:Nat×List D):Int:=(a.2.headD D.zero).type
def jb(c:List D)(b:Int):List D :=
 match (dw dj c).find? (λa=>nK a==b)with
 | some a=>a.2
 | none=>[]
def SM{b:Option Addr}:bd aK 107 #[aL b d o] m λg e=>g=bg (fc (.func 233) #[] #[N<|U m.1,N<|U m.1+1])/\e=aO (aO m<|aS #[aL b d o] 41) (aS #[fc (.func 177) #[] #[]] 261):=by go_in;go_wp2_with (go_at_call 176;refine(SC _ _ _ _ _).m ?_;rintro e rfl);go_ret;exact pf
def SN{a:Nat×List D}(b:0<E a.2):a.2[0].type=nK a:=by
 obtain⟨e,c⟩:=a;cases c with
 | nil=>simp at b
 | cons d g=>rfl
def Aw(d:kN m e j):∃b c,e=aL b (E j) c:=by rcases d with⟨rfl,rfl⟩|⟨g,ay,h,rfl,_,_⟩;{exact⟨ai,0,af⟩};{exact⟨_,_,af⟩}
def LN(c:kN m e j):bd aK 107 #[e] m λb w'=>b=bg (fc (.func 233) #[] #[N<|U m.1,N<|U m.1+1])/\U w'.1=U m.1+2/\a7 m w'/\aD w' (M (U m.1) 0)=ag e/\aD w' (M (U m.1+1) 0)=ag (fc (.func 177) #[] #[]):=by obtain⟨a,g,rfl⟩:=Aw c;refine(SM).m ?_;exact P1
def LO{ay:Nat}(t:Cm e h ay j)(a:aD m (M o 0)=ag e)(r:aD m (M d 0)=ag (fc (.func 177) #[] #[]))(q:gr m h ay j)(l:o<U m.1)(n:d<U m.1)(p:E j<=3001):xS aK 233 #[N o,N d] (λg:Nat×List D=>#[bC h (ay+g.1*4) (E g.2)<|E g.2]) (dw dj j)
   (λi b=>a7 i b) (lY o d h) (λ_ _=>True) m:=by rcases t with⟨rfl,rfl⟩|⟨k,rfl,c⟩;{exact alm a};{exact Cl h ay k o d j m a r q l n p c}
def yB{dZ:D->D->Bool}{b:Nat×List D}(c:b∈dw dZ j):E b.2<=E j:=cj<|(tw c).1
def D2(a:List D)(c:ap):E (dF a c)<=E a:=by unfold dF;split;{rename_i d b;exact yB<|Ed b};{simp}
def F6(a:List D)(c:Int):E (jb a c)<=E a:=by unfold jb;split;{rename_i d b;exact yB<|Ed b};{simp}
def Pf{P:Prop}(h:P:=by go_simp;refine hK _ _<|lW 5 λK hK=>?_;go_simp;refine hK _ _<|zz b8 ?_ _;gi_wp2_with fail;exact bt):P:=h
def Pw{P:Prop}(h:P:=by go_simp;refine hK _ _<|lW 5 λK hK=>?_;go_simp;refine hK _ _<|zz b8 ?_ _;gi_wp2_with fail;exact⟨bt.1,af,bt.2⟩):P:=h
def SO{h ay:Nat}(n:ap)(c:Int){w:aQ}(y:gr w h ay j)(aW:E j<=d)(aH:E j<=3001):bd aK 112 #[bC h ay (E j) d,aZ n,J c] w λab a5=>(∃v,ab=bg v/\nW h ay j v (jb (dF j n) c))/\a7 w a5:=by
 refine(ez (n:=0)).1 (Gp func112 af cE ?_);simp only[ntmps112,ox,ey,h8,Nat.reduceAdd,Nat.reduceSub,ov,oQ,oS,oR,jz,g_];have:=D2 j n;have aj:a7 w (aO (aO w<|aS #[ak am c] 3)<|aS #[aL ai 0 0] 41):=(ct cd bv _).alloc aA _;have aC:=ae<|SL n (y.below aj) aW aH;have aw:=ae y;have:=y.1;gi_wp2_with fail;refine⟨cE,af,(ez.2<|V aC).mono ?_⟩;rintro ab g ⟨⟨v,rfl,T⟩,C⟩;have ac:=((cy.qf _ _ _).alloc _).below C hV;have ad:cy g (U w.1+1) (bY) 41:=by{have:=(cy.qf (aO w<|aS #[ak am c] 3) (bY) 41).below C hV;rwa [gd]at this};have O:=bN aj<|bV C hV;have bb:U w.1+2<=U g.1:=by have:=C.4;exact DA
 generalize az:dF j n=rs at *;have⟨o',y,hL,Md⟩:=T.at<|V aw;have Z:=ae y;have aI:=ae hL;have a3:=ae Md;have aX:=ae<|T.rv<|aw.below O;obtain⟨a8,a9,rfl⟩:=T.slice;gi_wp2_with fail;refine⟨cE,af,(ez.2<|LN<|V aX).m λW2 ⟨ba,P,aU,aV⟩=>?_⟩;have aR:=ac.below P ac.lt;have aT:=ad.below P ad.lt;have ah:=bN O<|bV P O.4;have a2:=ae<|Z.below ah;gi_wp2_with fail;have a1:∀H,a7 W2 (aO (aO W2<|dq<|ag [])<|dR H):=λH=>(ct cd bv _).alloc aA _;refine zZ (xs:=dw dj rs) (encs:=λa:Nat×List D=>#[bC h (o'+a.1*4) (E a.2)<|E a.2]) (St:=λq r=>a7 q r) (Kp:=lY (U g.1) (U g.1+1) h) (Kx:=λ_ _=>True) (gf:=233) (lb:=#[N<|U g.1,N<|U g.1+1]) af (enters_of func233 b8 af) (λ_=>af) ?Cl [U g.1,U g.1+1,h] cx (λq r a0 e=>bV e a0) (λq r e aY=>⟨aY.1,e _ aA,e _ aA,e _ aA⟩) (λ_ _ _=>cE) (λz b=>(bh z<|dw dj rs).find? (λa=>nK a==c)=(dw dj rs).find? (λa=>nK a==c)/\a7 w b/\cy b (U w.1) (J c) 3/\cy b (U w.1+1) (bY) 41) (λI b=>I=.ret/\a7 w b/\∃a,a∈dw dj rs/\jb rs c=a.2/\cy b (U w.1+1) (bC h (o'+a.1*4) (E a.2)<|E a.2) 41) (λz q r e l=>⟨e.1,bN e.2.1<|bV l G,e.2.2.1.below l G,e.2.2.2.below l G⟩) (λI q r e l=>⟨e.1,bN e.2.1<|bV l G,by have⟨a,h1,h2,h3⟩:=e.2.2;exact⟨a,h1,h2,h3.below l G⟩⟩) ⟨af,ah,aR,aT⟩ ?round ?done ?stop;case Cl =>(intro H;have x:=a1 H;exact LO (V aI) ((x.cell (p:=⟨U g.1,0,ai⟩) (by show U g.1<U W2.1;omega)).trans aU) ((x.cell (p:=⟨U g.1+1,0,ai⟩) (by show U g.1+1<U W2.1;omega)).trans aV) (a2.below x) (cj x.4) (cj x.4) G)
 ·(intro bc z a a6 b F u ar;gi_wp2_with fail;refine⟨cE,?_⟩;obtain⟨Q,k,S,i⟩:=u;have:=S.cell;have aN:=i.cell;have aP:=i.frozen;have R:=rM F;have aM:=Av (Z.below k) R;have aB:=(tw R).2.1;have⟨q0,q1,q2,q3⟩:=aM.four 0 aB;rw[rW,jn,SN aB]at q2;have al:aK.follows .mixedOrders=aE:=b8;have aq:=SK (p:=λa=>nK a==c) F;rw[Q]at aq;have Y:=ae aq;have aF:=ae S;have av:=ae i;have aJ:=ae R;cases an:nK a==c;{have t:ax ((bh (z+1)<|dw dj rs).find? (λa=>nK a==c)=(dw dj rs).find? λa=>nK a==c):=by{rw[ax,V Y,bJ<|by simp[an]]};have bt:ax (ex (U W2.1) b (bq b)/\(∀au∈[U g.1,U g.1+1,h],(bq b).1[au]? = b.1[au]?)/\((bh (z+1)<|dw dj rs).find? (λa=>nK a==c)=(dw dj rs).find? (λa=>nK a==c)/\a7 w (bq b)/\cy (bq b) (U w.1) (J c) 3/\cy (bq b) (U w.1+1) (bY) 41)) := ⟨ex.refl _ b,λ_ _=>af,t,k.drew,aF,av⟩;gi_wp2_with fail;refine Aa al (xj b8) ?_;refine mv 0 ?_;refine mv 1 ?_;refine mv 2 ?_;refine ui (rs:=[3,4]) b8 aA (mM af (λK hK=>?_)<|mM af (λK hK=>?_) uh);{go_simp;refine hK _ _<|lW 4 λK hK=>?_;exact Pf};{go_simp;refine hK _ _<|lW 3 λK hK=>?_;exact Pf}};{have t:ax (jb rs c=a.2):=by{rw[jb,ax,V Y,b7 an]};have bt:ax (ex (U W2.1) b (bq<|a_ b ⟨U w.1+1,0,ai⟩<|aL (ag ⟨h,o'+a.1*4,ai⟩) (E a.2)<|E a.2)/\(a7 w (bq<|a_ b ⟨U w.1+1,0,ai⟩<|aL (ag ⟨h,o'+a.1*4,ai⟩) (E a.2)<|E a.2)/\∃A,A∈dw dj rs/\jb rs c=A.2/\cy (bq<|a_ b ⟨U w.1+1,0,ai⟩<|aL (ag ⟨h,o'+a.1*4,ai⟩) (E a.2)<|E a.2) (U w.1+1) (bC h (o'+A.1*4) (E A.2)<|E A.2) 41)) := ⟨ex.setCell b _ G,(fk k uV _).drew,a,aJ,t,av.set _⟩;gi_wp2_with fail;refine Aa al (xj b8) ?_;refine mv 0 ?_;refine mv 1 ?_;refine mv 2 ?_;refine ui (rs:=[3,4]) b8 aA (mM af (λK hK=>?_)<|mM af (λK hK=>?_) uh);{go_simp;refine hK _ _<|lW 4 λK hK=>?_;exact Pw};{go_simp;refine hK _ _<|lW 3 λK hK=>?_;exact Pw}})
 case done =>(intro b u B ar;obtain⟨Q,k,S,i⟩:=u;have aN:=i.cell;have aP:=i.frozen;have t:ax (jb rs c=[]):=by{rw[jb,ax,<- Q,sh bv];rfl};gi_wp2_with fail;have X:=(dJ b (M (U w.1+1) 0) (bY) (U W2.1) KA).trans B;refine⟨aA,bG ⟨_,_,af,zV X,?_⟩⟩;have L:=((i.set<|bY).put (d:=U W2.1) (o:=dq ai) G).cell;refine⟨bY,by simp[dr,results112,go_sem,L],⟨_,af,bG ⟨af,az▸t⟩⟩,?_⟩;exact(fk k uV _).trans<|yw (w:=W2) G _ _ _ _ bv X af af)
 case stop =>(intro I b u B ar;obtain⟨rfl,k,a,F,W,i⟩:=u;replace W:=ae W;gi_wp2_with fail;refine⟨aA,bG ⟨_,_,af,zV B,?_⟩⟩;have L:=(i.put (d:=U W2.1) (o:=dq ai) G).cell;have a4:=bN k<|yw (w:=W2) (show U w.1<=U W2.1 by omega) b _ _ (dq ai) bv B af af;refine⟨_,by simp[dr,results112,go_sem,L];rfl,⟨_,af,?_⟩,a4⟩;rw[az,V W];exact a3 _ a F)
end
section
attribute [local go_sem] Oper.semAt_some
def iL(a:aQ)(c:Nat)(g:ap)(d ay e:Nat)(b:List D):Prop :=
 c<U a.1/\aD a (M c 0)=ag (aZ g)/\aD a (M c 1)=ag (bC d ay (E b) e)/\E b<=e/\gr a d ay b
def iL.below{i ay cap}(a:iL m h n d ay cap j)(b:a7 m i):iL i h n d ay cap j :=
 ⟨e8 a.1 b.4,(b.cell (p:=⟨h,0,ai⟩) a.1).trans a.2.1,(b.cell (p:=⟨h,1,ai⟩) a.1).trans a.2.2.1,a.2.2.2.1,a.2.2.2.2.below b⟩
def iL.low{ay e}(a:iL m h n d ay o j)(c:cB e m u)(i:h<e)(g:d<e):iL u h n d ay o j :=
 ⟨e8 a.1 c.4,(c.cell (p:=⟨h,0,ai⟩) i).trans a.2.1,(c.cell (p:=⟨h,1,ai⟩) i).trans a.2.2.1,a.2.2.2.1,alk a.2.2.2.2 c g⟩
def xk(c:ap)(b:List D):Prop:=E b<=3001/\E c<=3000/\∀a∈b,E a.owner<=3000/\E a.data<=3000
def lf(b:List D)(a:ap):Bool:=!(uL a b).isEmpty
def PA{P:Prop}(h:P:=by go_in;go_wp21;refine HC.mono ?_;rintro e w1 ⟨⟨v,rfl,hv⟩,hb1⟩;replace hv:=ae hv;go_wp2;go_ret;exact⟨⟨_,af,hv⟩,hb1⟩):P:=h
def SP{ay h}(b)(l:iL m o n d ay h j)(a:E j<=3001):bd aK 270 #[N o,aZ b] m λe c=>(∃v,e=bg v/\nW d ay j v (dF j b))/\a7 m c:=by obtain⟨r,p,q,i,k⟩:=l;have HC:=ae<|SL b k i a;exact PA
def LP{h ay}(c b)(a:iL m h n d ay o j)(k:E j<=3001):bd aK 192 #[N h,aZ c,J b] m λe p=>(∃v,e=bg v/\nW d ay j v (jb (dF j c) b))/\a7 m p:=by obtain⟨t,q,r,i,l⟩:=a;have HC:=ae<|SO c b l i k;exact PA
def SQ{ay}(l)(ad:iL m d n h ay o j)(Z:E j<=3001)(aa:E l<=3000)(ab:∀i∈j,E i.owner<=3000):bd aK 269 #[N d,aZ l] m (cQ (aG<|lf j l) m):=by
 refine(ez (n:=0)).1 (wK func269 af cE ?_);simp only[ntmps269,ox,ey,h8,Nat.reduceAdd,Nat.reduceSub,ov,oQ,oS,oR,jz,g_];have M:=ae ab;obtain⟨aq,an,ap,W,J⟩:=ad;have O:=ae J;have k:=J.1;gi_wp2_with fail;refine⟨cE,af,(ez.2<|SH _ _ _ _ _).m λb ⟨T,I,C,F⟩=>?_⟩;have S:=(cy.qf _ _ _).below I aA;have H:=(ct cd bv _).trans<|bV I aA;simp only[gd]at T C F;gi_wp2_with fail;have Y:∀i,a7 b (aO (aO b<|dq<|ag [])<|dR i):=λi=>(ct cd bv _).alloc aA _;have:∀i,U (aO (aO b<|dq<|ag [])<|dR i).1=U b.1+2:=λi=>by simp
 refine zZ (xs:=uL l j) (encs:=λu:Nat×List D=>#[aZ<|eR u,bC h (ay+u.1*4) (E u.2)<|E u.2]) (St:=λc e=>cB (U b.1+2) c e) (Kp:=λc e=>(e.1[h]? = c.1[h]?/\e.1[U m.1+1+1]? = c.1[U m.1+1+1]?)/\ex (U b.1+2) c e) (Kx:=λc e=>ex (U b.1+2) c e) (gf:=235) (lb:=#[N<|U m.1+1,N<|U m.1+1+1]) af (enters_of func235 dS af) (λ_=>af) ?seq [h,U m.1+1+1] (by grind) (λ_ _ _ a=>a) (λc e a X=>⟨⟨a _ aA,a _ aA⟩,X⟩) (λ_ _ a=>a) (λB g=>B=0/\a7 m g/\cy g (U m.1) (aG ao) 4) (λy g=>y=.ret/\lf j l=aE/\a7 m g/\cy g (U m.1) (aG aE) 4) (λB c e a k=>⟨a.1,bN a.2.1<|bV k G,a.2.2.below k G⟩) (λy c e a k=>⟨a.1,a.2.1,bN a.2.2.1<|bV k G,a.2.2.2.below k G⟩) ⟨af,H,S⟩ ?round ?done ?stop;case seq =>(intro i;have A:=Y i;have:=SJ ((O.below H).below A) W ((A.cell (p:=⟨U m.1+1,0,ai⟩) (by grind)).trans C) ((A.cell (p:=⟨U m.1+1+1,0,ai⟩) (by grind)).trans F) (by grind) (by grind) Z aa (V M);grind)
 ·(intro ar B u ah g al t K;gi_wp2_with fail;refine⟨cE,?_⟩;obtain⟨rfl,r,P⟩:=t;have Q:=P.cell;have R:=P.frozen;have x:lf j l=aE:=by{grind[lf]};gi_wp2_with fail;exact⟨ex.setCell g _ G,af,x,fk r bv _,P.set _⟩)
 case done =>(intro g t q K;obtain⟨aj,r,P⟩:=t;have Q:=P.cell;have R:=P.frozen;have x:lf j l=ao:=by{grind[lf]};gi_wp2_with fail;refine⟨aA,bG ⟨_,_,af,mI<|(dJ _ _ _ _<|by grind).trans q,?_⟩⟩;have z:=((P.set<|aG ao).put (d:=U b.1) (o:=dq ai) G).cell;exact⟨aG ao,by simp[dr,results269,go_sem,z],by rw[x],(fk r bv _).trans<|belowK_b (w:=b) G _ _ _ _ bv ((dJ _ _ _ _<|by grind).trans q) af af⟩)
 case stop =>(intro y g t q K;obtain⟨rfl,ac,r,P⟩:=t;gi_wp2_with fail;refine⟨aA,bG ⟨_,_,af,mI q,?_⟩⟩;have z:=(P.put (d:=U b.1) (o:=dq ai) G).cell;exact⟨aG aE,by simp[dr,results269,go_sem,z],by rw[ac],bN r<|belowK_b (w:=b) G _ _ _ _ bv q af af⟩)
end
section
variable {P:Program} {ops:Array Oper} {C:World->Prop} {l:Nat}
def amn{g:Oper}{b h i n}(e:C m)(j:∀b d,C d->h b->i b d)(q:g.quiet P b C h):g.wpIn fm 0 P b m i n:=by
 obtain⟨v,r,k⟩:=q;have a:=r m e;unfold Oper.quietAt at a;unfold Oper.wpIn;refine⟨λ_ _=>cE,?_⟩;rw[show fm.4=ai from af,Oper.semAt_none];generalize (execOp b.eval g).run P m=t at *;cases t with
 | ok l d =>
  cases l<;>simp only[Oper.quietUpon]at a
  ·obtain⟨rfl,rfl⟩:=a;exact j _ _ e k
  all_goals first
   | (obtain⟨rfl,rfl⟩:=a;exact j _ _ e k)
   | (obtain⟨rfl,p⟩:=a
      refine⟨λo=>by simp[fm]at o,callsIn_wide.2<|p.mono λu x w=>?_⟩
      grind)
   | exact a.elim
 | halt l d=>simp only[Oper.quietUpon]at a
def amo{b j e l}(h:C m)(g:∀b k,C k->j b->e b k)(a:qOp P ops C d j b):wpOpIn fm 0 P ops l d e b m:=by unfold qOp at a;unfold wpOpIn;split;{grind};{rename_i o n;simp only[n]at a;split;{rename_i c;simp only[c,pi]at a;exact amn h g a};{rename_i c;simp only[c]at a;exact⟨λ_ _=>cE,g _ _ h a⟩}}
def So{j Q h}(g:∀a c,C c->Q a->h lV a c):∀(d:Nat) (i:Array Bool) (a:lJ) (c:aQ),C c->wpAnyQ P j ops C Q d i a->wpAnyIn fm 0 P j ops h d i a c
 | 0,_,_,_,e,b=>⟨b.1,g _ _ e b.2⟩
 | d+1,_,_,_,e,b=>⟨λl=>g _ _ e<|b.1 l,λo aN=>amo e (λk p n=>So g d _ k p n)<|b.2 o aN⟩
def Sp{Q e c}(n:P.follows .mixedOrders=aE)(r:∀(p:Nat) (j:Oper),(dl c)[p]? = ag j->∀k,j.2≠.defer k)(i:Region.lexB .any (dl c)=aE)(h:wpQuiet P (dl c) (λa=>∃b,a=ef m b) (λg=>∀a,(∃b,a=ef m b)->Q lV g a) c e):(Code.region d (dl c) aE).wpIn (fm.inRound l) 0 P Q e m:=by simp only[Region.lexB,fx]at i;refine Aa n r<|So (C:=λa=>∃b,a=ef m b) (Q:=λg=>∀a,(∃b,a=ef m b)->Q lV g a) (λ_ a o h=>h a o) _ _ _ _ ⟨1,af⟩ ?_;have:=wpAnyQ_lex (C:=λa=>∃b,a=ef m b) (md:=.any) i.1 c 0 (Array.replicate (U<|dl c) ao) e aA (by grind) h;simpa using this
end
def im(c:aQ)(a:Nat)(d:List Int)(b:d_):Prop:=c.1[a]? = ag (aS (dl<|b9 (ak am) d) b)
section
variable {w:World} {b:Nat} {xs:List Int} {t:TypeId}
def im.lt(a:im w b xs t):b<U w.1:=(ea.1 a).1
def im.cell(a:im w b xs t)(i)(aN:i<E xs):aD w (M b i)=ag (J xs[i]):=by unfold im at a;simp[aD,a,aN]
def im.frozen(h:im w b xs t)(a):io w (M b a)=ao:=by unfold im at h;exact tb
def im.set(d:im w b xs t)(a c):im (a_ w ⟨b,a,ai⟩<|ak am c) b (xs.set a c) t:=by unfold im at *; simp only[a_];rw[xP,b7 af,d];simp
def im.kept{w'}(c:im w b xs t)(e:eL d w w')(a:b≠d):im w' b xs t:=(e.5 b c.lt a).trans c
end
def pz:Nat->ap->Bool->List Nat×ap×Bool
 | 0,s,a=>([],s,a)
 | b+1,s,a=>((fj s a).1::(pz b (fj s a).2.1 (fj s a).2.2).1,(pz b (fj s a).2.1 (fj s a).2.2).2)
def uN(s a):E (fj s a).2.1<=E s:=cU (vP _ _)<|vP _ _
def ams(s a):(fj s a).1<65536:=by have:=Ci s a;have:=Ci (fe s a).2.1 (fe s a).2.2;simp only[fj];omega
def AA(s:ap):List Nat×Bool:=((pz 6 s ao).1,!(pz 6 s ao).2.2)
def amv(s a)(ah:E s<=1000000000):bd aK 70 #[aZ s] a λX bj=>X=bg (bX #[ci<|dl ((AA s).1.map λa5:Nat=>ak am a5),aG (AA s).2])/\a7 a bj:=by
 have aw:eB (aO (aO a<|aS #[ak am 0,ak am 0,ak am 0,ak am 0,ak am 0,ak am 0] 133)<|aS #[amz<|O s,aG ao] 215) (U a.1+1) s ao:=by{have:=du (aO a<|aS #[ak am 0,ak am 0,ak am 0,ak am 0,ak am 0,ak am 0] 133)<|aS #[amz<|O s,aG ao] 215;simpa [eB]using this};have k:im (aO (aO a<|aS #[ak am 0,ak am 0,ak am 0,ak am 0,ak am 0,ak am 0] 133)<|aS #[amz<|O s,aG ao] 215) (U a.1) [0,0,0,0,0,0] 133 := (dT _ _ _ aA).trans<|du a _;have Y:=ae<|((dz (U a.1) a).alloc bv<|aS #[ak am 0,ak am 0,ak am 0,ak am 0,ak am 0,ak am 0] 133).alloc aA<|aS #[amz<|O s,aG ao] 215;have ac:=nD ao aw ah;have b:=ae k;have D:=ae ac;have y:ax (AA s=((fj s ao).1::(fj (fj s ao).2.1 (fj s ao).2.2).1::(pz 4 (fj (fj s ao).2.1 (fj s ao).2.2).2.1 (fj (fj s ao).2.1 (fj s ao).2.2).2.2).1,!(pz 4 (fj (fj s ao).2.1 (fj s ao).2.2).2.1 (fj (fj s ao).2.1 (fj s ao).2.2).2.2).2.2)):=af;have I:=ae<|cU (uN s ao) ah;generalize AA s=M at *;generalize fj s ao=bl at *;obtain⟨h,aB,x⟩:=bl;simp only at D y I;clear aw k ac;go_in;go_wp2_with fail;refine D.m ?_;rintro bk ⟨aj,z,aq⟩;have F:=ae<|nD x aj<|V I;have aC:=ae<|cU (uN aB x)<|V I;generalize fj aB x=H at *;obtain⟨i,bf,aU⟩:=H;simp only at F y aC;have av:=ae<|b.kept z G;have R:=ae<|bN Y<|z.below G cx;have Z:ax (U bk.1=U a.1+2):=by rw[ax,aq];simp
 clear aj z aq D b Y;go_wp2_with fail;refine F.m ?_;rintro l ⟨al,B,a3⟩;have au:=ae al;have az:=ae<|av.kept B G;have aW:=ae<|bN R<|B.below G<|cj<|V Z;have j:ax (U l.1=U a.1+2):=by grind
 clear al B a3 F av R Z;go_wp2;go_loopw [15] (λC wr=>∃(e m:Nat) (done d:List Nat) (c:ap) (gF:Bool),C=J e/\E done=e/\E d=m/\e+m=4/\E c<=1000000000/\eB wr (U a.1+1) c gF/\im wr (U a.1) [0,0,0,0,0,0] 133/\im wr (U l.1) (b9 Int.ofNat (h::i::(done++d))) 133/\a7 a wr/\M=(h::i::(done++(pz m c gF).1),!(pz m c gF).2.2)) λC _=>4-c7 (intOf C);·(refine⟨0,4,[],[0,0,0,0],bf,aU,af,af,af,af,aC,?_,?_,?_,?_,y⟩;{exact(dT _ _ _ au.lt).trans au};{exact(dT _ _ _ az.lt).trans az};{exact du _ _};{exact ct aW (cj<|V j) _})
 ·(
 obtain⟨e,m,done,d,c,gF,rfl,A,ar,aP,ay,K,k,P,ab,aa⟩:=hrel;have r:=ae K;have b:=ae k;have g:=ae P;have n:=ae ab;have u:=ae aa;clear K k P ab aa;cases m with
 | zero =>{
 obtain rfl:d=[]:=iM ar;have ad:e=4:=G;subst ad;obtain⟨aX,bA,aY,a0,rfl⟩:∃N Q T W,done=[N,Q,T,W]:=by{
 match done,A with
 | [N,Q,T,W],_=>simp};have a6:=g.cell 0 aA;have a8:=g.cell 1 aA;have a9:=g.cell 2 aA;have ba:=g.cell 3 aA;have bb:=g.cell 4 aA;have bc:=g.cell 5 aA;simp at a6 a8 a9 ba bb bc;have:=r.cells.2;have aF:=b.cell 0 aA;have aH:=b.cell 1 aA;have aI:=b.cell 2 aA;have aJ:=b.cell 3 aA;have aM:=b.cell 4 aA;have aN:=b.cell 5 aA;simp at aF aH aI aJ aM aN;have a2:=b.frozen;have:U a.1≠U l.1:=cj<|V j
 clear aP A ar;go_wp2;go_region;all_goals(go_wp2;refine eh (v:=bX #[ci #[ak am h,ak am i,ak am aX,ak am bA,ak am aY,ak am a0],aG<|!gF]) (by simp[dr,results70,go_sem,aF,aH,aI,aJ,aM,aN]) af ⟨?_,?_⟩;{rw[V u];rfl};{exact((((((fk n bv _).setCell bv _).setCell bv _).setCell bv _).setCell bv _).setCell bv _).drew})}
 | succ m =>{
 obtain⟨q,d,rfl⟩:∃q bn,d=q::bn:=by{
 cases d with
 | nil=>grind
 | cons q d=>simp};have ad:e<4:=G;have S:ax (M=(h::i::((done++[(fj c gF).1])++(pz m (fj c gF).2.1 (fj c gF).2.2).1),!(pz m (fj c gF).2.1 (fj c gF).2.2).2.2)):=by{rw[ax,V u];simp[pz]};have t:=ae<|nD gF (V r) ay;have L:=ae<|cU (uN c gF) ay;generalize fj c gF=H at *;obtain⟨p,bi,aV⟩:=H;simp only at t L S;clear u;go_wp2_with fail;refine t.m ?_;rintro bo ⟨an,o,a4⟩;have aR:=ae an;have aT:=ae<|b.kept o G;have w:=ae<|g.kept o<|cj<|V j;have a1:=ae<|bN n<|o.below G<|cj n.4;have:=w.cell (2+e) (by grind);have a2:=w.frozen;clear an o a4 t r b g n;go_wp2;have:U a.1<U l.1:=cj<|V j
 have:U a.1+1<U l.1:=cj<|V j
 have:=w.set (2+e) (p:Int);refine⟨⟨e+1,m,done++[p],d,bi,aV,dH,by grind,by grind,G,L,?_,?_,?_,fk a1 (by grind) _,S⟩,ee⟩;{exact(dJ _ _ _ _<|by grind).trans<|V aR};{exact(dJ _ _ _ _<|by grind).trans<|V aT};{have X:(b9 Int.ofNat (h::i::(done++q::d))).set (2+e) (p:Int)=b9 Int.ofNat (h::i::((done++[p])++d)):=by{subst A;rw[show 2+E done=E done+1+1 from G];simp};grind}})
section
attribute [local go_sem] Oper.semAt_some
def qW(a:Int)(b:D):Bool:=b.type != a
def tz(b:ap)(a:Nat×List D):Bool:=!rd (eR a) && !a.2.any (qW<|if eR a==b then 2 else 1)
def p6(b:List D)(a:ap):Bool:=(uL a b).all<|tz a
def Lt{p:Nat×List D->Bool}{b:List<|Nat×List D}{c:Nat×List D}(a:b[d]? = ag c):(bh d b).all p=(p c&&(bh (d+1) b).all p):=by obtain⟨aN,rfl⟩:=j_.1 a;rw[lA aN,yo]
def alR{a:D}(g:aD m (M d 0)=ag (J p))(e:d<U m.1):bd aK 183 #[ci #[aZ a.owner,J a.aP,J a.type,aZ a.data],N d] m (cQ (aG<|qW p a) m):=by go_wp2;go_ret;exact FL
def alS(h:aD m (M d 0)=ag (J p))(a:d<U m.1):PredBelow aK 183 #[N d] (λi=>ci<|dl<|D.bz i) (qW p) m:=by intro j k b;exact(alR ((b.cell (p:=⟨d,0,ai⟩) a).trans h) (e8 a b.4)).m λl g=>⟨af,bN b<|bV g b.4⟩
def Sf{ay:Nat}(g:Nat)(k:aD m (M h 0)=ag (J p))(a:h<U m.1)(b:gr m d ay j)(n:E j<=3001):bd aK 171 #[bC d ay (E j) g,fc (.func 183) #[] #[N h]] m λi l=>i=bg (aG<|j.any<|qW p)/\a7 m l:=by have:=AnyQ.slices_ContainsFunc Tryz.akX 4 Tryz.isAgg47 Tryz.sizeOf47 D.bz (λ_=>af) (qW p) 183 #[N h] (enters_of func183 b8 af) d ay (E j) g j m (alS k a) bv G b.1 b.2;rw[ld]at this;exact this
def alT{b:Nat×List D}(i:ax<|p6 j n=(tz n b&&(bh (h+1)<|uL n j).all (tz n)))(l:rd (eR b)=ao)(k:(if eR b==n then(2:Int)else 1)=p):(b.2.any (qW p)=ao->(bh (h+1)<|uL n j).all (tz n)=p6 j n)/\(b.2.any (qW p)=aE->p6 j n=ao):=by have g:=V i;have d:tz n b = !b.2.any (qW p):=by{rw[tz,l,k];rfl};rw[d]at g;refine⟨λe=>?_,λe=>?_⟩;{rw[g,e];rfl};{rw[g,e];rfl}
def Qc{P:Prop}(h:P:=by gi_wp2_with fail;have⟨r1,r2⟩:=bt.2 hm;exact⟨r1,af,r2⟩):P:=h
def alU{ay:Nat}{w:aQ}(aR:gr w d ay j)(a8:E j<=o)(bc:E j<=3001)(bf:E n<=3000)(u:∀x∈j,E x.owner<=3000):bd aK 111 #[aZ n,bC d ay (E j) o] w (cQ (aG<|p6 j n) w):=by
 refine(ez (n:=0)).1 (wK func111 af cE ?_);simp only[ntmps111,ox,ey,h8,Nat.reduceAdd,Nat.reduceSub,ov,oQ,oS,oR,jz,g_];have aw:=ae aR;have aX:=ae u;have C:=aR.1;gi_wp2_with fail;refine⟨cE,af,(ez.2<|SH _ _ _ _ _).m λW2 ⟨a6,aj,aI,aJ⟩=>?_⟩;have a4:=((cy.qf _ _ _).alloc _).below aj hV;have a5:cy W2 (U w.1+1) (aG ao) 4:=by
  have:=(cy.qf (aO w<|aS #[amz<|O n] 9) (aG ao) 4).below aj hV
  rwa [gd]at this
 have aM:=((ct cd bv _).alloc aA _).trans<|bV aj hV;simp only[gd]at a6 aI aJ;gi_wp2_with fail;have bi:=ae<|aw.below aM;have bb:∀x,a7 W2 (aO (aO W2<|dq<|ag [])<|dR x):=λx=>(ct cd bv _).alloc aA _;have a0:∀x,U (aO (aO W2<|dq<|ag [])<|dR x).1=U W2.1+2:=λx=>by simp
 refine zZ (xs:=uL n j) (encs:=λc:Nat×List D=>#[aZ<|eR c,bC d (ay+c.1*4) (E c.2)<|E c.2]) (St:=λr t=>cB (U W2.1+2) r t) (Kp:=λr t=>(t.1[d]? = r.1[d]?/\t.1[U w.1+1+1+1]? = r.1[U w.1+1+1+1]?)/\ex (U W2.1+2) r t) (Kx:=λr t=>ex (U W2.1+2) r t)
  (gf:=235) (lb:=#[N<|U w.1+1+1,N<|U w.1+1+1+1]) af (enters_of func235 b8 af) (λ_=>af) ?seq
  [d,U w.1+1+1+1] cx (λ_ _ _ h=>h) (λr t h a9=>⟨⟨h _ aA,h _ aA⟩,a9⟩) (λ_ _ h=>h)
  (λW b=>(bh W<|uL n j).all (tz n)=p6 j n/\a7 w b/\cy b (U w.1) (aZ n) 9/\cy b (U w.1+1) (aG ao) 4)
  (λac b=>ac=.ret/\p6 j n=ao/\a7 w b/\cy b (U w.1+1) (aG ao) 4)
  (λW r t h C=>⟨h.1,bN h.2.1<|bV C G,h.2.2.1.below C G,h.2.2.2.below C G⟩)
  (λac r t h C=>⟨h.1,h.2.1,bN h.2.2.1<|bV C G,h.2.2.2.below C G⟩)
  ⟨af,aM,a4,a5⟩
  ?round ?done ?stop
 case seq =>
  intro x;have L:=bb x;have:=SJ (bi.below L) a8 ((L.cell (p:=⟨U w.1+1+1,0,ai⟩) J2).trans aI) ((L.cell (p:=⟨U w.1+1+1+1,0,ai⟩) J8).trans aJ) (cj L.4) (cj L.4) bc bf (V aX);rw[a0 x]at this;exact this
 ·intro P W c bl b aW I aV;gi_wp2_with fail;refine⟨cE,?_⟩;obtain⟨al,q,T,y⟩:=I;have:=T.cell;have aP:=(jo.1<|rM aW).1;have a2:=Av (aw.below q) aP;have:=yB aP;have aU:=Lt (p:=tz n) aW;rw[al]at aU;have av:=ae aU;have aY:=ae T;have Q:=ae y;have aC:=ae a2;have aq:((O<|eR c).toList==(O n).toList)=(eR c==n):=yz;have a1:=T.lt;have A:=y.lt;have aN:=λR=>R0 (O<|eR c) R;have aa:ax (∀R,bd aK 124 #[aZ<|eR c] R λH bk=>H=bg (aG<|rd<|eR c)/\bk=R):=aN;clear aN
  -- what follows a tested owner,at a world that only has more
  have aH:∀(Y:Int) (g i:aQ),a7 b g->a7 g i->rd (eR c)=ao->(if eR c==n then(2:Int)else 1)=Y ->
    ax ((c.2.any (qW Y)=ao->ex (U W2.1) b i/\(∀X∈[d,U w.1+1+1+1],i.1[X]? = b.1[X]?)/\((bh (W+1)<|uL n j).all (tz n)=p6 j n/\a7 w i/\cy i (U w.1) (aZ n) 9/\cy i (U w.1+1) (aG ao) 4)) /\
     (c.2.any (qW Y)=aE->ex (U W2.1) b (a_ i ⟨U w.1+1,0,ai⟩<|aG ao)/\p6 j n=ao/\a7 w (a_ i ⟨U w.1+1,0,ai⟩<|aG ao)/\cy (a_ i ⟨U w.1+1,0,ai⟩<|aG ao) (U w.1+1) (aG ao) 4)):=by
   intro Y g i e ba F u;have aT:=alT av F u;have z:=bN e<|bV ba e.4;refine⟨λH=>⟨ex.Em z,λX hk=>z.5 X H2,aT.1 H,bN q<|bV z q.4,aY.below z a1,Q.below z A⟩,λH=>⟨(ex.Em z).trans<|ex.setCell i _ G,aT.2 H,(bN q<|bV z q.4).setCell uV _,(Q.below z A).set _⟩⟩
  cases F:rd<|eR c
  ·cases u:eR c==n
   ·rw[u]at aq;gi_wp2_with fail;refine⟨cE,af,(jH P<|ez.2<|aa _).m λg k=>?_⟩;have e:a7 b g:=by rw[k];exact Bt
    have ad:aD g (M (U b.1) 0)=ag (J 1):=by rw[k];go_simp
    have an:U b.1<U g.1:=by rw[k];simp
    clear k;have Z:=ae<|Sf (E c.2) ad an (aC.below e) G;gi_wp2_with fail;refine⟨cE,af,?_⟩;refine(jH P<|ez.2<|V Z).m ?_;intro i K;have bt:=aH 1 g i e K F (by rw[u];rfl);have l:=((Q.below e A).below K<|e8 A e.4)
    have az:=l.cell;have aB:=l.frozen;cases hm:c.2.any<|qW 1
    ·gi_wp2_with fail;exact bt.1 hm
    ·exact Qc
   ·rw[u]at aq;gi_wp2_with fail;refine⟨cE,af,?_⟩;refine(jH P<|ez.2<|aa _).m ?_;intro g k;have e:a7 b g:=by rw[k];exact Bt
    have ad:aD g (M (U b.1) 0)=ag (J 2):=by rw[k];go_simp
    have an:U b.1<U g.1:=by rw[k];simp
    clear k;have Z:=ae<|Sf (E c.2) ad an (aC.below e) G;gi_wp2_with fail;refine⟨cE,af,?_⟩;refine(jH P<|ez.2<|V Z).m ?_;intro i K;have bt:=aH 2 g i e K F (by rw[u];rfl);have l:=((Q.below e A).below K<|e8 A e.4)
    have az:=l.cell;have aB:=l.frozen;cases hm:c.2.any<|qW 2
    ·gi_wp2_with fail;exact bt.1 hm
    ·exact Qc
  ·have ab:ax (p6 j n=ao):=by
    rw[ax,V av,tz,F];rfl
   cases u:eR c==n
   all_goals
    rw[u]at aq;gi_wp2_with fail;refine⟨cE,af,?_⟩;refine(jH P<|ez.2<|aa _).m ?_;intro g k;have e:a7 b g:=by
     rw[k]
     first
     | exact ct cd bv _
     | exact((Below.refl _ _).alloc (Nat.le_refl _) _).setCell (p:=⟨b.heap.size,0,none⟩) (Nat.le_refl b.heap.size) _
    clear k;have l:=Q.below e A;have az:=l.cell;have aB:=l.frozen;replace l:=ae l;have:=e.4;gi_wp2_with fail;refine⟨cE,?_⟩;gi_wp2_with fail;exact⟨(ex.Em e).trans<|ex.setCell g _ G,af,ab,(bN q<|bV e q.4).setCell uV _,l.set _⟩
 case done =>
  intro b I S aV;obtain⟨al,q,T,y⟩:=I;have a3:=y.cell;have:=y.frozen;have ab:ax (p6 j n=aE):=by
   rw[ax,<- al,sh bv];rfl
  gi_wp2_with fail;have au:=(dJ b (M (U w.1+1) 0) (aG aE) (U W2.1) KA).trans S;refine⟨aA,bG ⟨_,_,af,mI au,?_⟩⟩;have ah:=((y.set<|aG aE).put (d:=U W2.1) (o:=dq ai) G).cell;refine⟨aG aE,by simp[dr,results111,go_sem,ah],by rw[V ab],?_⟩;exact(fk q uV _).trans<|belowK_b (w:=W2) G _ _ _ _ bv au af af
 case stop =>
  intro ac b I S aV;obtain⟨rfl,ar,q,y⟩:=I;replace ar:=ae ar;have a3:=y.cell;gi_wp2_with fail;refine⟨aA,bG ⟨_,_,af,mI S,?_⟩⟩;have ah:=(y.put (d:=U W2.1) (o:=dq ai) G).cell;have bj:=bN q<|belowK_b (w:=W2) (show U w.1<=U W2.1 by omega) b _ _ (dq ai) bv S af af;exact⟨aG ao,by simp[dr,results111,go_sem,ah],by rw[V ar],bj⟩
end
def aaj:bd aK 174 #[amz T] m λb c=>b=bg (aG ao)/\c=m:=by go_wp2;go_ret;simp
def AF(a b:ap):Int:=if Op.bytesLess a b then -1 else if a==b then 0 else 1
def aak(s b a):bd aK 105 #[amz s,amz b] a λc d=>c=bg (J<|AF s.1.1 b.1.1)/\d=a:=by go_in;go_wp2_with (go_at_call 174;refine(aaj).m ?_;rintro a rfl);all_goals(go_ret;refine⟨zW ?_,af⟩;unfold AF;simp only[hZ]at *;simp_all)
def B6(a b:Int):Int:=if a=0 then b else a
def Kj{P:Prop}(h:P:=by
 go_wp2;go_round;·grind
 ·simp[fJ]):P:=h
def aal(c g){h}(p:aD m (M h 0)=ag (J c))(q:aD m (M h 1)=ag (J g)):bd aK 104 #[bC h 0 2 d] m λl o=>l=bg (J<|B6 c g)/\o=m:=by
 by_cases j:c=0;{
 have e:ax (B6 c g=g):=b7 j;subst j;by_cases n:g=0;{
 subst n;go_wp2;go_loop [8] (λa=>∃b:Nat,b<=2/\a=J b) λa=>2-c7 (fJ a);·grind
 ·(
 obtain⟨b,i,rfl⟩:=hrel;match b,i with
 | 0,_ =>{
 exact Kj}
 | 1,_ =>{
 exact Kj}
 | 2,_ =>{go_wp2;go_ret;exact⟨zW<|bZ e,af⟩})};{
 have:(g != 0)=aE:=by grind
 go_wp2;go_loop [8] (λa=>∃b:Nat,b<=1/\a=J b) λa=>2-c7 (fJ a);·grind
 ·(
 obtain⟨b,i,rfl⟩:=hrel;match b,i with
 | 0,_ =>{
 exact Kj}
 | 1,_ =>{go_wp2;go_ret;exact⟨zW<|bZ e,af⟩})}};{
 have:(c != 0)=aE:=by grind
 have e:ax (B6 c g=c):=bJ j;go_wp2;go_loop [8] (λa=>a=J 0) λa=>2-c7 (fJ a);·rfl
 ·(obtain rfl:=hrel;go_wp2;go_ret;exact⟨zW<|bZ e,af⟩)}
def n5(a s:D):Int:=B6 (AF a.owner s.owner)<|Lib.compareInt a.type s.type
def Hi(a s d):bd aK 103 #[ci #[aZ a.owner,J a.aP,J a.type,aZ a.data],ci #[aZ s.owner,J s.aP,J s.type,aZ s.data]] d λe b=>e=bg (J<|n5 a s)/\∃o n,b=Sort.grow (ef d o) n:=by
 have i:∀c,bd aK 105 #[aZ a.owner,aZ s.owner] c λe b=>e=bg (J<|AF a.owner s.owner)/\b=c:=λc=>aak _ _ c;have j:∀c,bd aK 106 #[J a.type,J s.type] c λe b=>e=bg (J<|Lib.compareInt a.type s.type)/\b=c:=λc=>Tryz.cmp_Compare_int _ _ c;have k:=ae i;have l:=ae j;have h:ax (n5 a s=B6 (AF a.owner s.owner) (Lib.compareInt a.type s.type)):=af;generalize AF a.owner s.owner=x,Lib.compareInt a.type s.type=g at *;go_wp2
 go_region_held (λb=>aD b (M (U d.1) 0)=ag (aZ a.owner)/\aD b (M (U d.1) 2)=ag (J a.type)/\aD b (M (U d.1+1) 0)=ag (aZ s.owner)/\aD b (M (U d.1+1) 2)=ag (J s.type)) (go_keep)
  (first
   | (go_at_call 105;refine(k _).m ?_;rintro b rfl)
   | (go_at_call 106;refine(l _).m ?_;rintro b rfl)
   | (go_at_call 104;refine(aal x g (by go_simp)<|by go_simp).m ?_;rintro b rfl))
 all_goals
  go_wp2;go_ret;refine⟨zW<|bZ h,1,#[aS #[amz<|O a.owner,ak am a.aP,ak am a.type,amz<|O a.data] 47,aS #[amz<|O s.owner,ak am s.aP,ak am s.type,amz<|O s.data] 47,aS #[ak am x,ak am g] 3],?_⟩;rfl
def xm(a:UInt8)(s:ap)(b f:Nat)(c:List ap):Prop:=(b<=E s/\f<=b/\a ∉ amA (b-f) (bh f s)/\I a s=c++I a (bh f s))\/(b=E s+1/\c=I a s)
section
variable {c:UInt8} {s:ap} {i f:Nat} {L:List ap}
def xm.Yr(a:xm c s i f L)(aN:i<=E s):f<=i/\c ∉ amA (i-f) (bh f s)/\I c s=L++I c (bh f s):=by rcases a with a|a;{grind};{omega}
def aaD(b:xm c s (E s) f L):xm c s (E s+1) (E s+1) (L++[amA (E s-f)<|bh f s]):=by have⟨h1,h2,h3⟩:=b.Yr bv;have a:amA (E s-f) (bh f s)=bh f s:=oT aA;rw[a]at h2 ⊢;exact bE ⟨af,by rw[h3,xg c _ h2]⟩
def Z2(b:xm c s i f L)(aN:i<E s)(d:s[i]=c):xm c s (i+1) (i+1) (L++[amA (i-f)<|bh f s]):=by
 have⟨h1,h2,h3⟩:=b.Yr G;refine bG ⟨G,cW _,aA,?_⟩;have a:bh f s=amA (i-f) (bh f s)++c::bh (i+1) s:=by{have:=bZ<|lP (i-f)<|bh f s;rw[pk,show f+(i-f)=i by omega,lA aN,d]at this;omega};rw[h3];conv=>lhs;rw[a,xh c _ _ h2]
 simp
def Z3(a:xm c s i f L)(aN:i<E s)(d:s[i]≠c):xm c s (i+1) f L:=by have⟨h1,h2,h3⟩:=a.Yr G;refine bG ⟨G,G,?_,h3⟩;have b:amA (i+1-f) (bh f s)=amA (i-f) (bh f s)++[s[i]]:=by{rw[show i+1-f=i-f+1 by omega,iH<|by grind,BT];grind};grind
end
def B8(s c d):(O s).extract c d=O (amA (d-c)<|bh c s):=by
 have ext:∀ {a b:ByteArray},a.1=b.1->a=b:=λ{a b} e=>by cases a;simp_all
 apply ext;apply Array.ext';simp[O,List.extract_eq_take_drop]
def ZA{P:Prop}(h:P:=by have hB:=HO.2.2;exact(ct hB cY _).trans ⟨hgrow.1,hgrow.2,hgrow.3,hgrow.4,λk hk=>hgrow.5 k cx λe=>cj<|(kX HO.1 k<|bZ e).1⟩):P:=h
def Qf{P:Prop}(h:P:=by{rw[ax,dE,kq];refine⟨by rw[V bI]at hown';exact hown',⟨λh=>absurd h fN,λh=>BA⟩,?_⟩;exact ZA}):P:=h
def B9(s g c)(Q:E s<=2000000):bd aK 62 #[aZ s,ak ck<|be g] c λe w=>(∃v,e=bg v/\nE w (U c.1) v (I g s))/\a7 c w:=by
 have⟨i0,oI,hz0,hz1,hz2⟩:=jN zF;have:=de s;go_wp2;go_loopw [5,6,7] (λv K L wr=>∃(a f:Nat) (b:List ap),L=J a/\K=J f/\a<=E s+1/\f<=E s+1/\E b<=a/\xm g s a f b/\wr.ownsRow (U c.1) 9 1 v (E b) (b.map λi=>aZ i)/\(v=bY ↔ b=[])/\a7 c wr) λ_ _ a _=>E s+1-c7 (intOf a);·exact⟨0,0,[],af,af,G,G,aA,bG ⟨G,G,aA,af⟩,jO _ _ _ _,aA,dz _ _⟩
 ·(
 obtain⟨a,f,b,rfl,rfl,aN,P,N,A,D,C,t⟩:=hrel;have j:=ae A;have HO:=ae<|cv D<|cv C t;have cY:=t.4;by_cases B:a<=E s;{
 have F:(a:Int)<=E s:=G;have⟨h1,_,_⟩:=j.Yr B;have bI:=ae<|B8 s f a;by_cases o:a=E s;{
 have z:((a:Int)==E s)=aE:=by grind
 replace o:=ae o;go_wp2_with (at_builtin;go_loud (refine vL _ af (.tmp 25) (.tmp 30) 49 af (U c.1) 9 i0 (amz ⟨#[]⟩) 1 16 D1 oI hz0 hz1 hz2 af bL _ (E b) _ af (HO.1.alloc _) (M (U wr.1) 0) 1 1 [amz<|(O s).extract f a] af af (En _ _ _) (λH hu=>Bw) m9 G cx ?_));intro l n hown' hgrow r _;have p:ax (n.ownsRow (U c.1) 9 1 l (E<|b++[amA (a-f)<|bh f s]) ((b++[amA (a-f)<|bh f s]).map λi=>aZ i)/\(l=bY ↔ b++[amA (a-f)<|bh f s]=[])/\a7 c n):=Qf;go_wp2;have⟨k1,k2,k3⟩:=V p;exact⟨⟨a+1,a+1,_,dH,dH,G,G,by grind,by have h:=V j;rw[V o]at h ⊢; exact aaD h,k1,k2,k3⟩,ee⟩};{
 have z:((a:Int)==E s)=ao:=by grind
 have u:a<E s:=G;have⟨x,hx⟩:=bi<|s[a];have:∀h:a<cf (O s),(O s)[a]=x:=λh=>bZ hx;have q:=ae hx;clear o hx;by_cases d:x=g;{
 have y:((be x:Int)==be g)=aE:=by grind
 replace d:=ae d;go_wp2_with (at_builtin;go_loud (refine vL _ af (.tmp 25) (.tmp 30) 49 af (U c.1) 9 i0 (amz ⟨#[]⟩) 1 16 D1 oI hz0 hz1 hz2 af bL _ (E b) _ af (HO.1.alloc _) (M (U wr.1) 0) 1 1 [amz<|(O s).extract f a] af af (En _ _ _) (λH hu=>Bw) m9 G cx ?_));intro l n hown' hgrow r _;have p:ax (n.ownsRow (U c.1) 9 1 l (E<|b++[amA (a-f)<|bh f s]) ((b++[amA (a-f)<|bh f s]).map λi=>aZ i)/\(l=bY ↔ b++[amA (a-f)<|bh f s]=[])/\a7 c n):=Qf;clear hown' hgrow r;go_wp2;have⟨k1,k2,k3⟩:=V p;exact⟨⟨a+1,a+1,_,dH,dH,G,G,by grind,Z2 (V j) u<|(bZ q).trans d,k1,k2,k3⟩,ee⟩};{have y:((be x:Int)==be g)=ao:=by{rw[kE];intro h;exact d<|zT.1 G};replace d:=ae d;go_wp2;have⟨k1,k2,k3⟩:=V HO;exact⟨⟨a+1,f,b,dH,af,G,G,G,Z3 (V j) u λh=>V d<|c_ q h,k1,k2,k3⟩,ee⟩}}};{have F:¬(a:Int)<=E s:=G;go_wp2;go_ret;have⟨k1,k2,k3⟩:=V HO;rcases V j with h|⟨_,h⟩;{omega};{rw[<- h];exact⟨⟨_,af,k1,k2⟩,k3⟩}})
def Tz(b:d<E n):amA (d+1) n=amA d n++[n[d]]:=iH b
def Z4(a:UInt8):(te a=aE/\((97<=(be a:Int)/\(be a:Int)<=122)\/(48<=(be a:Int)/\(be a:Int)<=57)\/(be a:Int)=45\/(be a:Int)=95)) \/
  (te a=ao/\(((be a:Int)<45)\/(45<(be a:Int)/\(be a:Int)<48)\/(57<(be a:Int)/\(be a:Int)<95)\/((be a:Int)=96)\/(122<(be a:Int)))):=by unfold te Gq;generalize (be a:Int)=b;by_cases c:97<=b/\b<=122;{left;simp[c]};by_cases d:48<=b/\b<=57;{left;simp[d]};by_cases e:b=45;{left;simp[e]};by_cases g:b=95;{left;simp[g]};right;refine⟨?_,G⟩;rw[Bool.eq_false_iff];simp only[ne_eq,vY,fx,sq,jy];omega
def HX{P:Prop}(h:P:=by first|rfl|trivial):P:=h
def JT{P:Prop}(h:P:=by go_wp2;go_ret;refine⟨fy ?_,af⟩;rw[lL,V bn];simp;omega):P:=h
def Z5(s:ap)(g:aQ)(A:E s<=2000000):bd aK 113 #[aZ s] g λo y=>o=bg (aG<|lL s)/\y=g:=by
 have:=de s;go_wp2;go_loopw [3] (λe wr=>∃a:Nat,a<=E s/\e=J a/\(amA a s).all te=aE/\wr=g) λe _=>E s-c7 (intOf e);·exact⟨0,eb _,af,af,af⟩
 ·(
 obtain⟨a,z,rfl,p,rfl⟩:=hrel;have i:=ae p;by_cases k:a<E s;{
 have t:(a:Int)<E s:=G;have n:=ae<|Tz k;have⟨x,hx⟩:=bi<|s[a];have:∀h:a<cf (O s),(O s)[a]=x:=λh=>bZ hx;replace hx:=ae hx;rcases Z4 x with⟨b,h⟩|⟨b,h⟩;{
 replace b:=ae b;have d:∀v:bm,v=J ((a:Int)+1)->∃c:Nat,c<=E s/\v=J c/\(amA c s).all te=aE:=λv r=>⟨a+1,G,by rw[r];go_num,by rw[V n,zJ,V i,<- V hx];simp[V b]⟩;replace d:=ae d;rcases h with h|h|h|h;case' inr.inr.inl=>have l:((be x:Int) != 45)=ao:=xO
 case' inr.inr.inr =>(
 have l:((be x:Int) != 45)=aE:=xO
 have u:((be x:Int) != 95)=ao:=xO)
 all_goals(go_wp2;have⟨c,k1,k2,k3⟩:=V d _ af;exact⟨⟨c,k1,k2,k3,HX⟩,ee⟩)};{
 replace b:=ae b;have l:((be x:Int) != 45)=aE:=FR
 have u:((be x:Int) != 95)=aE:=FR
 rcases h with h|h|h|h|h;all_goals(go_wp2;go_ret;refine⟨fy ?_,af⟩;have q:=eP k;symm;rw[lL,BQ];right;rw[DT];exact⟨_,q,by rw[<- V hx,V b];simp⟩)}};{have t:¬(a:Int)<E s:=G;have w:a=E s:=G;have j:=V i;rw[w,ld]at j;have bn:=ae j;by_cases B:0<(E s:Int);{by_cases C:(E s:Int)<=20;{exact JT};{exact JT}};{exact JT}})
def n6:Nat->ap->Option Nat
 | a,[]=>ag a
 | a,b::c=>if rN (be b) then n6 (10*a+(be b-48)) c else ai
def Lv:∀(d:ap) (a v:Nat),n6 a d=ag v->a*10 ^ E d<=v
 | [],a,v,b=>by simp[n6]at b;simp[b]
 | e::c,a,v,b=>by
  unfold n6 at b;split at b
  ·have:=Lv c _ v b;rw[ey,Nat.pow_succ]
   calc a*(10 ^ E c*10)=(10*a)*10 ^ E c:=by rw[zR (10 ^ E c) 10,<- Nat.mul_assoc,zR a 10]
    _<=(10*a+(be e-48))*10 ^ E c:=ys _ G
    _<=v:=this
  ·cases b
def Lw(b:Nat):∀(g:ap) (a:Nat),a<=b->oy b a g=(match n6 a g with
  | some v=>if v<=b then ag v else ai
  | none=>ai)
 | [],a,e=>by simp[oy,n6,e]
 | d::c,a,e=>by
  unfold oy n6;split;{
  split;{exact Lw b c _ ‹_›};{
  rename_i i;cases h:n6 (10*a+(be d-48)) c with
  | none=>rfl
  | some v =>{have:=Lv c _ v h;have j:1<=10 ^ E c:=Nat.one_le_pow _ _ G;have:10*a+(be d-48)<=v:=cU (Nat.le_mul_of_pos_right _ G) this;simp;omega}}};{rfl}
def rL(s:ap):Option Nat:=if 1<=E s/\E s<=10/\¬(s.head? = ag 48/\1<E s)then n6 0 s else ai
def TA(q:d<10000000000)(s:ap):rX d s=(match rL s with
  | some v=>if v<=d then ag v else ai
  | none=>ai):=by
 unfold rL;cases s with
 | nil=>simp[rX]
 | cons b a =>
  show(if be b=48/\a≠[]then ai else oy d 0 (b::a))=_;by_cases c:be b=48/\a≠[]
  ·have k:b=48:=zT.1 c.1;have p:1<E (b::a):=by
    rcases a with _|⟨u,t⟩
    ·exact absurd af c.2
    ·simp
   rw[b7 c,bJ λe=>e.2.2 ⟨by rw[k];rfl,p⟩]
  ·rw[bJ c];have o:¬((b::a).head? = ag 48/\1<E (b::a)):=by
    rintro⟨l,n⟩;refine c ⟨?_,?_⟩
    ·have:b=48:=by simpa using l
     rw[this];rfl
    ·rintro rfl;simp at n
   by_cases h:E (b::a)<=10
   ·rw[b7 ⟨aA,h,o⟩];exact Lw d _ 0<|eb _
   ·rw[bJ λe=>h e.2.1,Lw d _ 0<|eb _];cases g:n6 0 (b::a)with
    | none=>rfl
    | some v =>
     unfold n6 at g;split at g
     ·rename_i i;have:=Lv a _ v g;have j:10<=E a:=by simp at h;omega
      have r:10000000000<=10 ^ E a:=by
       calc 10000000000=10 ^ 10:=af
        _<=10 ^ E a:=Gc G j
      have k:1<=be b-48:=by
       unfold rN at i;simp at i;have:be b≠48:=λe=>c ⟨e,by rintro rfl;simp at j⟩;omega
      have:10 ^ E a<=v:=cU (by
       calc 10 ^ E a=1*10 ^ E a:=bZ (Nat.one_mul _)
        _<=(10*0+(be b-48))*10 ^ E a:=ys _ G) this
      simp;omega
     ·cases g
def Hl(a:Nat)(c:a<10000000000)(s:ap):fY a s=(match rL s with
  | some v=>dQ<|v<=a
  | none=>ao):=by
 rw[fY,TA c];cases rL s with
 | none=>rfl
 | some v=>by_cases b:v<=a<;>simp[b]
def Lx(a:Nat)(c:a<10000000000)(s:ap)(v:Nat)(b:rL s=ag v)(d:v<=a):kZ a s=v:=by rw[kZ,TA c,b];simp[d]
def Pl{P:Prop}(h:P:=by have hf:ax (rL s=ai):=bJ λh=>G;go_wp2;go_ret2;exact⟨V wz<|V hf,af⟩):P:=h
def Qs{P:Prop}(h:P:=by have hn:ax (rL s=ai):=by{rw[ax,V hf,<- V HD,V HC,n6,bJ (by unfold rN;simp;omega)]};go_wp2;go_ret2;exact⟨V wz<|V hn,af⟩):P:=h
def AI(s:ap)(b:Nat)(j:aQ)(Y:E s<=1000000)(p:b<10000000000):bd aK 115 #[aZ s,J b] j λC Q=>(∃v:Nat,C=bg (bX #[J v,aG<|fY b s])/\(fY b s=aE->v=kZ b s))/\Q=j:=by
 have:=de s;have k:=ae<|Hl b p s;have y:=ae<|Lx b p s;have t:rL s=ai->∃v:Nat,bg (bX #[J 0,aG ao])=bg (bX #[J v,aG<|fY b s])/\(fY b s=aE->v=kZ b s):=λh=>by{have c:=V k;rw[h]at c;refine⟨0,by rw[c];rfl,λo=>?_⟩;rw[c]at o;cases o};have wz:=ae t;clear t;by_cases aa:(E s:Int)<1;{exact Pl};by_cases ab:10<(E s:Int);{exact Pl};have H:0<E s:=G;have⟨x0,hx0⟩:=bi<|s[0];have D:∀h:0<cf (O s),(O s)[0]=x0:=λh=>bZ hx0;have e:s.head? = ag x0:=by rw[hx0,List.head?_eq_getElem?,gw H]
 by_cases u:(be x0:Int)=48/\1<(E s:Int);{have hf:ax (rL s=ai):=bJ λh=>h.2.2 ⟨e▸fE ag (zT.1 (by show be x0=48;omega)),G⟩;clear e hx0;go_wp2;go_ret2;exact⟨V wz<|V hf,af⟩};have hf:ax (rL s=n6 0 s):=b7 ⟨G,G,λh=>u ⟨by{
 have d:=h.1;rw[e]at d;have:x0=48:=by simpa using d
 rw[this];rfl},G⟩⟩
 have S:((be x0:Int)=48/\(E s:Int)<=1)\/¬(be x0:Int)=48:=G;clear u e hx0;rcases S with⟨R,Z⟩|R;all_goals(
 go_wp2;go_loopw [6,7] (λP N wr=>∃a m:Nat,a<=E s/\N=J a/\P=J m/\m<10 ^ a/\n6 m (bh a s)=n6 0 s/\wr=j) λ_ K _=>E s-c7 (intOf K);·exact⟨0,0,eb _,af,af,aA,by rw[sk],af⟩
 ·(
 obtain⟨a,m,X,rfl,rfl,q,l,rfl⟩:=hrel;have z:10 ^ a<=10 ^ 10:=Gc G G;have A:(10:Nat) ^ 10=10000000000:=af;have:m<10000000000:=G;clear z A;have HD:=ae l;have w:=ae q;clear l q D;by_cases I:a<E s;{
 have L:(a:Int)<E s:=G;have⟨x,hx⟩:=bi<|s[a];have:∀h:a<cf (O s),(O s)[a]=x:=λh=>bZ hx;have HC:ax (bh a s=x::bh (a+1) s):=by rw[ax,hx];exact lA I
 clear hx;by_cases bA:(be x:Int)<48;{exact Qs};by_cases W:57<(be x:Int);{exact Qs};have T:ck.wrap ((be x:Int)-48)=((be x-48:Nat):Int):=by rw[xT];omega
 have B:ax (n6 (10*m+(be x-48)) (bh (a+1) s)=n6 0 s):=by{rw[ax,<- V HD,V HC,n6,b7 (by unfold rN;simp;omega)]};have F:ax (10*m+(be x-48)<10 ^ (a+1)):=by{have:=V w;rw[ax,Nat.pow_succ];omega};have g:ax ((10:Int)*(m:Int)+((be x:Int)-48)=((10*m+(be x-48):Nat):Int)):=by rw[ax];omega
 go_wp2;refine⟨⟨a+1,10*m+(be x-48),G,dH,?_,F,B,HX⟩,ee⟩;first|exact fE (Value.int .i64) (V g)|exact fE (Value.int .i64) G|(rw[<- V g])|trace_state};{have L:¬(a:Int)<s.length:=G;have M:a=E s:=G;have i:rL s=ag m:=by{have:=V HD;rw[M,w_]at this;rw[V hf,<- this];rfl};have:=ae i;have c:=V k;rw[i]at c;have r:=V y m i;have n:=ae c;have g:=ae r;clear c r i;go_wp2;all_goals(go_ret2;refine⟨⟨m,by rw[V n];first|rfl|simp[*],λh=>?_⟩,af⟩;have d:=V n;rw[h]at d;exact(g<|by simpa using bZ d).symm)}))
def Z7(s:ap)(a:aQ):bd aK 114 #[aZ s] a λb c=>b=bg (J<|i_ s)/\c=a:=by go_wp2;all_goals(go_ret;refine⟨zW ?_,af⟩;unfold i_;simp only[hZ,r8,jy,kE,ne_eq]at *;simp[*])
def tB(c:Bool)(b:Nat)(a:ap):Bool:=lL a||(b==0&&a==[42]&&c)
def mm(b:Bool):Nat->List ap->Bool
 | _,[]=>aE
 | a,c::d=>tB b a c&&mm b (a+1) d
def TD(b e):∀(c:List ap) (a:Nat),mm b a (c++[e])=(mm b a c&&tB b (a+E c) e)
 | [],a=>by simp[mm]
 | g::d,a=>by rw[g_,mm,TD b e d<|a+1,mm,ey,Bool.and_assoc,show a+1+E d=a+(E d+1) by omega]
def SZ(d):∀(c:List ap) (a b:Nat) (e:b<E c),tB d (a+b) c[b]=ao->mm d a c=ao
 | e::g,a,0,_,h=>by rw[mm];grind
 | e::g,a,b+1,i,h=>by rw[mm,SZ d g (a+1) b (by grind)<|by grind,GB]
def je(a:Bool)(s:ap):Option (List ap):=if E s<=60/\mm a 0 (I 46 s)=aE then ag (I 46 s)else ai
def iy(d:aQ)(b ay:Nat)(c:List ap):Prop:=b<U d.1/\∀a (e:a<E c),aD d (M b<|ay+a)=ag (amz<|O c[a])
def iy.below{ay g}(b:iy m d ay g)(a:cB (U m.1) m u):iy u d ay g :=
 ⟨e8 b.1 a.4,λe i=>(a.cell (p:=⟨d,ay+e,ai⟩) b.1).trans (b.2 e i)⟩
def gG(d:aQ)(v:bm)(a:List ap):Prop:=∃c ay b,v=bC c ay (E a) b/\E a<=b/\iy d c ay a
def gG.below{b}(g:gG m e b)(k:cB (U m.1) m u):gG u e b:=by obtain⟨v,ay,d,h,i,j⟩:=g;exact⟨v,ay,d,h,i,j.below k⟩
def vx{b}(v:nE m d e b)(p:b≠[]):∃a c,e=bC a 0 (E b) c/\E b<=c/\d<=a/\iy m a 0 b:=by have i:=v.1;obtain⟨_,⟨_,q⟩|⟨a,c,o,rfl,j,h,k,_⟩⟩:=v.1;{grind};{refine⟨a,c,af,k,j,(ea.1 h).1,λn l=>?_⟩;rw[g8,nz i n G,vy,gw l];rfl}
def rx(g:aQ)(d:Nat)(v:bm)(e:Option<|List ap):Prop:=match e with
 | none=>v=bY
 | some a=>a≠[]/\∃b c,v=bC b 0 (E a) c/\E a<=c/\d<=b/\iy g b 0 a
def Lk(a):((O a).toList==[42])=(a==[42]):=by rw[hZ];rfl
def B_(s b l)(Y:E s<=2000000):bd aK 63 #[aZ s,aG b] l λA H=>(∃v,A=bg v/\rx H (U l.1) v (je b s))/\cB (U l.1) l H:=by
 have:=de s;by_cases aj:60<(E s:Int);{have Z:ax (je b s=ai):=bJ λk=>G;go_wp2;go_ret;rw[V Z];exact⟨⟨_,af,af⟩,dz _ _⟩};have ac:=ae<|B9 s 46 l Y;have:E (I 46 s)<=61:=cj<|pN 46 s
 have u:∀c∈I 46 s,E c<=60:=λc j=>cj<|qE 46 (E s) s bv c j
 have F:ax (∀t,mm b 0 (I 46 s)=t->je b s=if t then ag (I 46 s)else ai):=λt al=>by{grind[je]};have K:=ae<|pM 46 s;replace u:=ae u;generalize I 46 s=d at *;go_in;go_wp21;refine ac.mono ?_;rintro A ah ⟨⟨v,rfl,aa⟩,S⟩;obtain⟨B,P,rfl,Q,T,D⟩:=vx aa<|V K;have g:=ae<|cv T<|cv D S;have:=D.1;go_wp2;go_loopw [6] (λw wr=>∃a:Nat,a<=E d/\w=J a/\mm b 0 (amA a d)=aE/\wr=ah) λw _=>E d-c7 (intOf w);·exact⟨0,eb _,af,af,af⟩
 ·(
 obtain⟨a,W,rfl,R,rfl⟩:=hrel;have y:=ae R;by_cases o:a<E d;{
 have ab:(a:Int)<E d:=G;have L:=ae<|iH o;have⟨c,j⟩:=bi<|d[a];have:E c<=60:=j▸u _ (eP o)
 have an:co wr B a (aZ c):=by{have:=g.2.1.2 a o;grind};replace j:=ae j;have h:=ae λM=>Z5 c M G;have x:=Lk c;have z:ax (tB b a c=aE->mm b 0 (amA (a+1) d)=aE):=λk=>by{rw[V L,TD,V y,jF,uI W,g8,<- V j,k];rfl};have N:ax (tB b a c=ao->je b s=ai):=λk=>by{have:=SZ b d 0 a o (by rw[g8,<- V j];exact k);rw[V F ao this];rfl};have n:ax (tB b a c=(lL c||(a==0&&c==[42]&&b))):=af;cases q:lL c;{rw[q]at h n;replace q:=ae q;have r:ax ((a==0&&c==[42]&&b)=ao->∃v,bg (bY)=bg v/\rx wr (U l.1) v (je b s)):=λk=>by{rw[V N (by rw[V n,k];rfl)];exact⟨_,af,af⟩};by_cases X:a=0;{subst X;cases e:(c==[42]);{rw[e]at x;replace e:=ae e;go_wp21;refine(h _).m ?_;rintro p rfl;go_wp2;go_ret;exact⟨V r (by rw[V e];rfl),g.2.2⟩};{rw[e]at x;replace e:=ae e;cases b;{go_wp21;refine(h _).m ?_;rintro p rfl;go_wp2;go_ret;exact⟨V r aA,g.2.2⟩};{have i:=V z (by rw[V n,V e];rfl);replace i:=ae i;go_wp21;refine(h _).m ?_;rintro p rfl;go_wp2;exact⟨⟨0+1,G,dS,i,aA⟩,ee⟩}}};{have:0<(a:Int):=G;go_wp21;refine(h _).m ?_;rintro p rfl;go_wp2;go_ret;exact⟨V r<|by simp_all,g.2.2⟩}};{rw[q]at h n;have i:=V z fN;replace i:=ae i;go_wp21;refine(h _).m ?_;rintro p rfl;go_wp2;exact⟨⟨a+1,G,dS,i,aA⟩,ee⟩}};{have ab:¬(a:Int)<E d:=G;have ad:a=E d:=G;have C:=V y;rw[ad,ld]at C;have O:=ae<|F aE C;go_wp2;go_ret;rw[V O];exact⟨⟨_,af,K,B,P,af,Q,g.1,g.2.1⟩,g.2.2⟩})
def S0(a b):((O a).toList==(O b).toList)=(a==b):=by rw[hZ,hZ];rfl
def ZQ{b c:List ap}(e:d<E b)(g:d<E c)(a:amA d b=amA d c)(h:b[d]=c[d]):amA (d+1) b=amA (d+1) c:=by rw[iH e,iH g,a,h]
def up{b c}(A:gG m e b)(B:gG m F c)(R:E b<=1000)(S:E c<=1000):bd aK 117 #[e,F] m (cQ (aG<|dQ<|b=c) m):=by
 obtain⟨M,ay,K,rfl,O,I⟩:=A;obtain⟨N,T,L,rfl,P,r⟩:=B;by_cases C:E b=E c;{
 have t:((E b:Int) != (E c:Int))=ao:=by grind
 have H:=ae I;have q:=ae r;have:=ae C;go_wp2;go_loopw [5] (λl wr=>∃a:Nat,a<=E b/\l=J a/\amA a b=amA a c/\a7 m wr) λl _=>E b-c7 (fJ l);·exact JX
 ·(
 obtain⟨a,Q,rfl,k,g⟩:=hrel;have z:=ae k;have i:=ae g;by_cases o:a<E b;{
 have D:(a:Int)<E b:=G;have p:a<E c:=by grind
 have:(a:Int)<E c:=G;have bA:=(H.below g).2 a o;have w:=(q.below g).2 a p;have⟨x,hx⟩:=bi<|b[a];have⟨y,hy⟩:=bi<|c[a];rw[<- hx]at bA;rw[<- hy]at w;have n:=S0 x y;have h:=ae<|cv hx hy;clear hx hy k g;cases d:(x==y);{rw[d]at n;replace d:=ae d;go_wp2;go_quiet (fail);go_wp2;go_ret;refine⟨fy ?_,kv (V i) nq⟩;rw[gD];rintro rfl;have j:=V d;rw[h.1,h.2]at j;grind};{rw[d]at n;replace d:=ae d;go_wp2;go_quiet (fail);go_wp2;refine⟨⟨a+1,G,dH,ZQ o p (V z) ?_,kv (V i) nq⟩,ee⟩;have j:=V d;rw[h.1,h.2]at j;grind}};{have D:¬(a:Int)<E b:=G;have:a=E b:=G;have u:ax (b=c):=by{grind};clear k g;go_wp2;go_ret;exact⟨fy<|by rw[mL<|V u],i⟩})};{
 have t:((E b:Int) != (E c:Int))=aE:=by grind
 go_wp2;go_ret;exact⟨fy<|by grind,dz _ _⟩}
def ni(a b:List ap):Bool:=dQ (E b<=E a)&&dQ (bh (E a-E b) a=b)
def Ho{ay cap b}(c:iy m d ay b)(i:E b<=cap)(a)(j:a<=E b):gG m (bC d (ay+a) (E b-a)<|cap-a) (bh a b):=by refine⟨d,ay+a,cap-a,aA,by grind,c.1,λh g=>?_⟩;rw[js]at g;rw[rV,c.2 (a+h) G,BT]
def Hp{a b}(p:gG m e a)(i:gG m F b)(z:E a<=1000)(t:E b<=1000)(A:0<E b):bd aK 119 #[e,F] m (cQ (aG<|ni a b) m):=by
 have n:=ae i;obtain⟨w,ay,o,rfl,r,c⟩:=p;obtain⟨x,B,u,rfl,y,_⟩:=i;have:=c.1;by_cases j:E b<=E a;{
 have l:¬(E a:Int)<E b:=G;have g:=ae<|up (Ho c r (E a-E b) G) (V n) (by grind) t;have h:ax (ni a b=dQ (bh (E a-E b) a=b)):=by rw[ni,ax,mL j];rfl
 have⟨d,aR⟩:=bi<|E a-E b;rw[<- aR]at g h;have:(E a:Int)-E b=d:=G;have:d<=E a:=G;clear c aR j;go_in;have:¬o=d:=G;go_wp2_with fail;refine g.m λC q=>?_;go_wp2;go_ret;exact⟨fy<|bZ h,q⟩};{have l:(E a:Int)<E b:=G;go_wp2;go_ret;exact⟨fy<|by grind[ni],dz _ _⟩}
def yd:List ap->ap
 | []=>[]
 | [a]=>a
 | a::c::b=>a++46::yd (c::b)
def GY(a):yd (I 46 a)=a:=by
 have l:∀(e:Nat) (a:ap),E a<=e->yd (I 46 a)=a:=by{
 intro e;induction e with
 | zero=>intro a i;obtain rfl:a=[]:=iM G;rfl
 | succ e k =>{
 intro a i;cases a with
 | nil=>rfl
 | cons p c =>{
 have b:=k c (by grind);unfold I;split;{
 rename_i j;subst j;have o:=pM 46 c;cases d:I 46 c with
 | nil=>grind
 | cons h g =>{rw[d]at b;rw[yd,b];rfl}};{
 cases d:I 46 c with
 | nil=>exact absurd d<|pM 46 c
 | cons h g =>{
 rw[d]at b;cases g with
 | nil=>simp only[yd]at b ⊢; rw[b]
 | cons n g=>simp only[yd]at b ⊢; grind}}}}};exact l (E a) a bv
def S1:∀(b:List ap) (a:Nat),mm aE a b=rY a b
 | [],_=>af
 | d::c,a=>by rw[mm,rY,S1 c<|a+1];unfold tB vM;rw[GC]
def S4:∀(b:List ap) (a:Nat),mm ao a b=b.all lL
 | [],_=>af
 | d::c,a=>by rw[mm,S4 c<|a+1];unfold tB;rw[GB,Li,yo]
def S6:∀(b:List ap) (a:Nat),0<a->rY a b=b.all lL
 | [],_,_=>af
 | d::c,a,aN=>by rw[rY,S6 c (a+1) G,yo];unfold vM;rw[show(a==0)=ao by simp;omega];simp
def EA(s:ap):(je aE s).isSome=kr s:=by rw[je,kr,S1];by_cases a:E s<=60<;>cases b:rY 0 (I 46 s)<;>simp[a]
def GZ{b:List ap}(c:I 46 v=n::b)(d:n≠[]):v.head? = n.head?:=by
 have:=GY v;rw[c]at this;rw[<- this];cases b with
 | nil=>rfl
 | cons e b =>{
 rw[yd];cases n with
 | nil=>exact absurd af d
 | cons h g=>rfl}
def vT(s:ap):(je ao s).isSome=fI s:=by
 rw[je,fI,kr,rd,Lib.hasPrefix,S4];by_cases g:E s<=60;{
 have j:=pM 46 s;cases d:I 46 s with
 | nil=>exact absurd d j
 | cons a i =>{
 rw[rY,S6 i 1 G,yo];unfold vM;cases b:lL a;{
 -- bH lL: a name only where it is the star
 simp only[ym,zG];by_cases e:a=[42];{
 have:=GZ d (by rw[e];simp);rw[e]at this;have c:([42]:ap).isPrefixOf s=aE:=by{
 cases s with
 | nil=>simp at this
 | cons n l=>simp at this;subst this;simp[List.isPrefixOf]};rw[c];simp};{rw[show(a==[42])=ao by simpa using e];simp}};{
 have c:([42]:ap).isPrefixOf s=ao:=by{
 have h:a≠[]:=by rintro rfl;simp[lL]at b
 have:=GZ d h;cases a with
 | nil=>exact absurd af h
 | cons n l =>{
 cases s with
 | nil=>rfl
 | cons o p =>{
 simp at this;subst this;simp only[lL,fx,yo]at b;have k:=b.2.1;have:o≠42:=by rintro rfl;revert k;decide
 simp[List.isPrefixOf,Ne.symm this]}}};rw[c];cases i.all lL<;>simp[g]}}};{simp[g]}
def G0(s:ap)(e:aQ)(n:E s<=1000000):bd aK 63 #[aZ s,aG ao] e λc h=>((fI s=aE/\∃d l i,c=bg (bC d 0 l i))\/(fI s=ao/\c=bg (bY)))/\a7 e h:=by
 refine(B_ s ao e G).mono ?_;rintro c h ⟨⟨v,rfl,b⟩,k⟩;refine⟨?_,k⟩;have a:=vT s;cases g:je ao s with
 | none =>{rw[g]at b a;obtain rfl:v=bY:=b;exact bE ⟨bZ a,af⟩}
 | some o =>{rw[g]at b a;obtain⟨_,d,j,rfl,_⟩:=b;exact bG ⟨bZ a,d,_,j,af⟩}
def G1(f:ap->Bool):List ap->Bool
 | [a]=>f a
 | _=>ao
def S9(f c:ap->Bool):List ap->Bool
 | [a,b]=>f a&&c b
 | _=>ao
def S_(f:ap->ap->ap->ap->Bool):List ap->Bool
 | [a,b,c,d]=>f a b c d
 | _=>ao
def Rr{f:ap->Bool}{b:List ap}(a:E b≠1):G1 f b=ao:=by
 match b,a with
 | [],_=>rfl
 | [c],a=>exact absurd af a
 | c::e::d,_=>rfl
def ZS{f d:ap->Bool}{b:List ap}(a:E b≠2):S9 f d b=ao:=by
 match b,a with
 | [],_=>rfl
 | [c],_=>rfl
 | [c,e],a=>exact absurd af a
 | c::e::h::g,_=>rfl
def ZT{f:ap->ap->ap->ap->Bool}{c:List ap}(b:E c≠4):S_ f c=ao:=by
 match c,b with
 | [],_=>rfl
 | [a],_=>rfl
 | [a,d],_=>rfl
 | [a,d,e],_=>rfl
 | [a,d,e,g],b=>exact absurd af b
 | a::d::e::g::v::h,_=>rfl
def ZU(c:p=2\/p=5)(b:List ap):eG p b=G1 fI b:=by
 rcases c with rfl|rfl;all_goals(
 match b with
 | []=>rfl
 | [d]=>rfl
 | d::g::e=>rfl)
def ZW(a:List ap):eG 1 a=G1 xi a:=by
 match a with
 | []=>rfl
 | [b]=>rfl
 | b::d::c=>rfl
def ZX(a:List ap):eG 16 a=G1 qg a:=by
 match a with
 | []=>rfl
 | [b]=>rfl
 | b::d::c=>rfl
def ZY(a:List ap):eG 15 a=S9 (fY 65535) fI a:=by
 match a with
 | []=>rfl
 | [b]=>rfl
 | [b,c]=>rfl
 | b::c::e::d=>rfl
def ZZ(b:List ap):eG 6 b=S_ (λe g h i=>fI e&&fI g&&fY 4294967295 h&&fY 86400 i) b:=by
 match b with
 | []=>rfl
 | [a]=>rfl
 | [a,c]=>rfl
 | [a,c,d]=>rfl
 | [a,c,d,j]=>rfl
 | a::c::d::j::v::k=>rfl
def tC{ay:Nat}{c:List ap}(g:iy m d ay c)(a:Nat)(i:c[a]? = ag n):aD m (M d<|ay+a)=ag (aZ n):=by obtain⟨h,rfl⟩:=j_.1 i;exact g.2 a h
def Pd{P:Prop}(h:P:=by replace hp:=ae hp;go_wp2;go_ret;exact⟨fy<|(V HD)▸bZ hp,hb1⟩):P:=h
def Ta(e:p=2\/p=5){h ay:Nat}{a:List ap}(g:iy m h ay a)(y:E a<=3001)(q:E a<=d)(t:∀b∈a,E b<=3000):bd aK 116 #[J p,bC h ay (E a) d] m (cQ (aG<|eG p a) m):=by
 have k:=ae g;have l:=ae t;have HD:=ae<|ZU e a;by_cases i:E a=1;{
 obtain⟨b,rfl⟩:∃b,a=[b]:=by{
 match a,i with
 | [b],_=>exact⟨b,af⟩};have o:=tC (V k) 0 af;rw[jn]at o;have n:=ae<|G0 b m<|cj<|V l b aA;have r:E ([b]:List ap)=1:=af;rw[r]at q ⊢;rcases e with rfl|rfl;all_goals(go_in;go_wp21;refine n.mono ?_;rintro w A ⟨⟨hp,x,z,u,rfl⟩|⟨hp,rfl⟩,hb1⟩;{exact Pd};{exact Pd})};{
 have B:((E a:Int)==1)=ao:=kB
 have j:=ae<|c_ HD<|Rr i;rcases e with rfl|rfl;all_goals(go_wp2;go_ret;exact⟨fy<|bZ j,dz _ _⟩)}
def Q8{P:Prop}(h:P:=by replace hp:=ae hp;go_wp2;go_ret;exact⟨fy (by rw[V qx,V hn,V hp];rfl),hb2⟩):P:=h
def Z0{ay:Nat}{b:List ap}(k:iy m d ay b)(A:E b<=3001)(t:E b<=o)(w:∀a∈b,E a<=3000):bd aK 116 #[J 15,bC d ay (E b) o] m (cQ (aG<|eG 15 b) m):=by
 have:=k.1;have e:=ae k;have h:=ae w;have g:=ae<|ZY b;by_cases l:E b=2;{
 obtain⟨a,c,rfl⟩:∃a c,b=[a,c]:=by{
 match b,l with
 | [a,c],_=>exact⟨a,c,af⟩};have p:=tC (V e) 0 af;have:=tC (V e) 1 af;rw[jn]at p;have i:=ae<|G0 c m<|cj<|V h c aA;have q:=ae<|AI a 65535 m (cj<|V h a aA) G;have u:E ([a,c]:List ap)=2:=af;rw[u]at t ⊢;have qx:ax (eG 15 [a,c]=(fY 65535 a&&fI c)):=V g;go_in;go_wp21;refine q.mono ?_;rintro r C ⟨⟨v,rfl,_⟩,x⟩;subst x;cases hn:fY 65535 a;{replace hn:=ae hn;go_wp2;go_ret;exact⟨fy (by rw[V qx,V hn];rfl),dz _ _⟩};{replace hn:=ae hn;go_wp21;refine i.mono ?_;rintro r D ⟨⟨hp,z,B,y,rfl⟩|⟨hp,rfl⟩,hb2⟩;{exact Q8};{exact Q8}}};{
 have F:((E b:Int) != 2)=aE:=FR
 have n:=ae<|c_ g<|ZS l;go_wp2;go_ret;exact⟨fy<|bZ n,dz _ _⟩}
def QI{P:Prop}(h:P:=by replace hp:=ae hp;go_wp2;go_ret;exact⟨fy (by rw[V qx,V amJ,V amK,V tD,V hp];rfl),bN hb2<|bV hb3 hb2.4⟩):P:=h
def Z1{ay:Nat}{a:List ap}(t:iy m d ay a)(Q:E a<=3001)(B:E a<=o)(F:∀b∈a,E b<=3000):bd aK 116 #[J 6,bC d ay (E a) o] m (cQ (aG<|eG 6 a) m):=by
 have C:=t.1;have h:=ae t;have i:=ae F;have q:=ae<|ZZ a;by_cases u:E a=4;{
 obtain⟨b,e,g,c,rfl⟩:∃b e g c,a=[b,e,g,c]:=by{
 match a,u with
 | [b,e,g,c],_=>exact⟨b,e,g,c,af⟩};have A:=tC (V h) 0 af;have bA:=tC (V h) 1 af;have:=tC (V h) 2 af;have:=tC (V h) 3 af;rw[jn]at A;have y:=ae<|G0 b m<|cj<|V i b aA;have w:=ae λz=>G0 e z<|cj<|V i e aA;have H:=ae<|AI g 4294967295 m (cj<|V i g aA) G;have L:=ae<|AI c 86400 m (cj<|V i c aA) G;have D:E ([b,e,g,c]:List ap)=4:=af;rw[D]at B ⊢;have qx:ax (eG 6 [b,e,g,c]=(fI b&&fI e&&fY 4294967295 g&&fY 86400 c)):=V q;go_in;go_wp21;refine H.mono ?_;rintro k K ⟨⟨v,rfl,_⟩,n⟩;subst n;go_wp21;refine L.mono ?_;rintro k K ⟨⟨T,rfl,_⟩,n⟩;subst n;cases j:fY 4294967295 g;{replace j:=ae j;go_wp2;go_ret;exact⟨fy (by rw[V qx,V j];simp),dz _ _⟩};cases r:fY 86400 c;{have I:=ae r;go_wp2;go_ret;exact⟨fy (by rw[V qx,V I];simp),dz _ _⟩};have amJ:=ae j;have amK:=ae r;go_wp21;refine y.mono ?_;rintro k W ⟨⟨hp,O,R,M,rfl⟩|⟨hp,rfl⟩,hb2⟩;{have tD:=ae hp;have:=(hb2.cell (p:=⟨d,ay+1,ai⟩) C).trans bA;go_wp21;refine(w _).mono ?_;rintro k X ⟨⟨hp,P,S,N,rfl⟩|⟨hp,rfl⟩,hb3⟩;{exact QI};{exact QI}};{replace hp:=ae hp;go_wp2;go_ret;exact⟨fy (by rw[V qx,V hp];rfl),hb2⟩}};{
 have Y:((E a:Int) != 4)=aE:=FR
 have x:=ae<|c_ q<|ZT u;go_wp2;go_ret;exact⟨fy<|bZ x,dz _ _⟩}
def aai(a:UInt8):(xf (be a)=aE/\33<=(be a:Int)/\(be a:Int)<=126)\/(xf (be a)=ao/\((be a:Int)<33\/126<(be a:Int))):=by unfold xf;by_cases b:33<=(be a:Int)/\(be a:Int)<=126;{left;exact⟨cx,b⟩};{right;refine⟨?_,G⟩;rw[BQ,Ei,Ei];omega}
def Rf{P:Prop}(h:P:=by
 have bn:ax (qg x=ao):=by rw[qg,ax];simp;omega
 go_wp2;go_ret;exact⟨fy<|by rw[V qx,V bn],dz _ _⟩):P:=h
def Pk{P:Prop}(h:P:=by
 have wu:((E ls:Int) != 1)=aE:=by rw[BF];omega
 have EB:=ae<|c_ HD<|Rr h1;go_wp2;go_ret;exact⟨fy<|bZ EB,dz _ _⟩):P:=h
def aaY{ay:Nat}{ls:List ap}(b:iy m d ay ls)(B:E ls<=3001)(q:E ls<=o)(u:∀x∈ls,E x<=3000):bd aK 116 #[J 16,bC d ay (E ls) o] m (cQ (aG<|eG 16 ls) m):=by
 have:=b.1;have l:=ae b;have n:=ae u;have HD:=ae<|ZX ls;by_cases h1:E ls=1;{
 obtain⟨x,rfl⟩:∃x,ls=[x]:=by{
 match ls,h1 with
 | [x],_=>exact⟨x,af⟩};have p:=tC (V l) 0 af;rw[jn]at p;have:=V n x aA;have:=de x;have r:E ([x]:List ap)=1:=af;rw[r]at q ⊢;have qx:ax (eG 16 [x]=qg x):=V HD;by_cases C:(E x:Int)<1;{
 exact Rf};by_cases D:40<(E x:Int);{
 exact Rf};go_wp2;go_loopw [11] (λh wr=>∃a:Nat,a<=E x/\h=J a/\(amA a x).all (λg=>xf<|be g)=aE/\wr=m) λh _=>E x-c7 (fJ h);·exact⟨0,eb _,af,af,af⟩
 ·(obtain⟨a,A,rfl,e,rfl⟩:=hrel;replace e:=ae e;by_cases k:a<E x;{have w:(a:Int)<E x:=G;have i:=ae<|Tz k;have⟨y,hy⟩:=bi<|x[a];have:∀b:a<cf (O x),(O x)[a]=y:=λb=>bZ hy;replace hy:=ae hy;rcases aai y with⟨c,b⟩|⟨c,b⟩;{replace c:=ae c;go_wp2;exact⟨⟨a+1,G,dH,by rw[V i,zJ,V e,<- V hy];simp[V c],HX⟩,ee⟩};{replace c:=ae c;have bn:ax (qg x=ao):=by{have t:=eP k;rw[ax];unfold qg;have:x.all (λg=>xf<|be g)=ao:=by{rw[DT];exact⟨_,t,by rw[<- V hy,V c];simp⟩};rw[this];rfl};rcases b with b|b;all_goals(go_wp2;go_ret;exact⟨fy<|by rw[V qx,V bn],dz _ _⟩)}};{have w:¬(a:Int)<E x:=G;have z:a=E x:=G;have bn:ax (qg x=aE):=by{have:=V e;rw[z,ld]at this;rw[ax];rw[qg,this];simp;omega};go_wp2;go_ret;exact⟨fy<|by rw[V qx,V bn],dz _ _⟩})};{
 exact Pk}
def aaZ{ay:Nat}{ls:List ap}(L:iy m d ay ls)(ad:E ls<=3001)(N:E ls<=o)(Q:∀a∈ls,E a<=3000):bd aK 116 #[J 1,bC d ay (E ls) o] m (cQ (aG<|eG 1 ls) m):=by
 have x:=ae L;have y:=ae Q;have HD:=ae<|ZW ls;by_cases h1:E ls=1;{
 obtain⟨a,rfl⟩:∃a,ls=[a]:=by{
 match ls,h1 with
 | [a],_=>exact⟨a,af⟩};have F:=tC (V x) 0 af;rw[jn]at F;have:=V y a aA;have T:ax (bd aK 62 #[aZ a,ak ck 46] m λn w=>(∃v,n=bg v/\nE w (U m.1) v (I 46 a))/\a7 m w):=B9 a 46 m G;have:E (I 46 a)<=3001:=cj<|pN 46 a
 have Z:ax (∀e∈I 46 a,E e<=3000):=λe g=>cj<|qE 46 (E a) a bv e g
 have Y:=ae<|pM 46 a;have O:E ([a]:List ap)=1:=af;rw[O]at N ⊢;have u:ax (eG 1 [a]=((I 46 a).all (fY 255)&&E (I 46 a)==4)):=V HD;generalize I 46 a=b at *;go_in;go_wp21;refine T.mono ?_;rintro n X ⟨⟨v,rfl,P⟩,M⟩;obtain⟨K,ab,rfl,aa,_,t⟩:=vx P<|V Y;have A:=ae t;have l:=ae M;have:=t.1;go_wp2;go_loopw [13] (λp wr=>∃c:Nat,c<=E b/\p=J c/\(amA c b).all (fY 255)=aE/\wr=X) λp _=>E b-c7 (fJ p);·exact⟨0,eb _,af,af,af⟩
 ·(
 obtain⟨c,ac,rfl,j,rfl⟩:=hrel;replace j:=ae j;by_cases k:c<E b;{
 have S:(c:Int)<E b:=G;have z:=ae<|iH k;have⟨e,g⟩:=bi<|b[c];have bA:co wr K c (aZ e):=by{have:=A.2 c k;rw[g8]at this;rw[g];exact this};have:E e<=3000:=g▸Z _ (eP k)
 have H:=ae λD=>AI e 255 D G G;replace g:=ae g;go_wp21;refine(H _).mono ?_;rintro n ah ⟨⟨v,rfl,_⟩,R⟩;subst R;cases r:fY 255 e;{have i:ax (eG 1 [a]=ao):=by{rw[ax,V u];have:b.all (fY 255)=ao:=by{rw[DT];exact⟨b[c],eP k,by rw[<- V g,r];simp⟩};rw[this];rfl};go_wp2;go_ret;exact⟨fy<|bZ i,l⟩};{
 have C:ax ((amA (c+1) b).all (fY 255)=aE):=by rw[ax,V z,zJ,V j,<- V g];simp[r]
 go_wp2;exact⟨⟨c+1,G,dH,C,HX⟩,ee⟩}};{
 have S:¬(c:Int)<E b:=G;have W:c=E b:=G;have i:ax (eG 1 [a]=(E b==4)):=by{have:=V j;rw[W,ld]at this;rw[ax,V u,this];rfl};by_cases h:E b=4;{
 have B:((E b:Int)==4)=aE:=BC
 replace h:=ae h;go_wp2;go_ret;exact⟨fy (by rw[V i,V h];rfl),l⟩};{
 have B:((E b:Int)==4)=ao:=kB
 replace h:=ae h;go_wp2;go_ret;exact⟨fy<|(V i)▸bZ (kE.2<|V h),l⟩}})};{
 exact Pk}
def Tb(a:ap):i_ a=0\/i_ a=1\/i_ a=2\/i_ a=5\/i_ a=6\/i_ a=15\/i_ a=16:=by unfold i_;split;{simp};split;{simp};split;{simp};split;{simp};split;{simp};split;{simp};{simp}
def aa0(i:0<i_ n){ay:Nat}(j:Nat){g:List ap}(b:iy m d ay g)(k:E g<=3001)(c:E g<=j)(e:∀l∈g,E l<=3000):bd aK 116 #[J<|i_ n,bC d ay (E g) j] m (cQ (aG<|eG (i_ n) g) m):=by rcases Tb n with a|a|a|a|a|a|a;{omega};{rw[a];exact aaZ b k c e};{rw[a];exact Ta (bG af) b k c e};{rw[a];exact Ta (bE af) b k c e};{rw[a];exact Z1 b k c e};{rw[a];exact Z0 b k c e};{rw[a];exact aaY b k c e}
def aa1{a:List ap}:eG 0 a=ao:=by unfold eG;rw[bJ bL,bJ bL,bJ bL,bJ bL,bJ bL]
def Hg(a:aQ)(b c:Nat)(d:D):Prop:=∃g e,aD a (M b c)=ag g/\aD a (M b<|c+1)=ag (J d.aP)/\aD a (M b<|c+2)=ag (J d.type)/\aD a (M b<|c+3)=ag (aZ d.data)/\aD a (M b<|c+4)=ag e/\gG a g (I 46 d.owner)/\gG a e (I 32 d.data)
def Hg.below{i j}(c:Hg m h i j)(e:a7 m u):Hg u h i j:=by obtain⟨g,k,l,n,o,p,q,r,t⟩:=c;have a:∀(b:Addr) (v:bm),aD m b=ag v->aD u b=ag v:=λb v c=>(e.cell<|i8 m b c).trans c;exact⟨g,k,a _ _ l,a _ _ n,a _ _ o,a _ _ p,a _ _ q,r.below e,t.below e⟩
def yj(d:aQ)(c ay:Nat)(b:List D):Prop:=∀a (e:a<E b),Hg d c (ay+a*5) b[a]
def yj.below{ay}(e:yj m d ay j)(g:a7 m u):yj u d ay j:=λi h=>(e i h).below g
def nS(b:aQ)(h:Nat)(g:ap)(a:List D):Prop:=∃e c ay d,b.1[h]? = ag (aS #[e,aL (ag ⟨c,ay,ai⟩) (E a) d] 117)/\gG b e (I 46 g)/\E a<=d/\yj b c ay a
def nS.below(k:nS m d v j)(a:a7 m u):nS u d v j:=by obtain⟨p,i,ay,e,c,l,n,o⟩:=k;exact⟨p,i,ay,e,(a.5 d (ea.1 c).1).trans c,l.below a,n,o.below a⟩
def wZ(b:ap)(a:List D):Prop:=E b<=900/\E a<=3001/\∀c∈a,E c.owner<=900
def pQ(a:E n<=900):E (I 46 n)<=1000:=cj<|pN 46 n
def yk(s):0<E (I 46 s):=by have:=pM 46 s;grind
def kl(d:List D)(c:List ap)(b:Int):Bool:=d.any λa=>dQ (I 46 a.owner=c)&&(b==255||a.type==b)
def Ul{c}(a:d<E j)(e:(amA d j).any c=ao)(g:c j[d]=ao):(amA (d+1) j).any c=ao:=by rw[iH a,List.any_append,e];grind
def QE{P:Prop}(h:P:=by have bj:=ae (C7<|by simp_all);go_wp2;go_ret;exact⟨fy<|bZ bj,bM⟩):P:=h
def Qa{P:Prop}(h:P:=by have bj:=ae (V tk<|by simp_all);go_wp2;exact⟨⟨k+1,G,dH,bj,bM⟩,ee⟩):P:=h
def Hh{c}(b)(Q:nS m d n j)(q:wZ n j)(P:gG m e c)(H:E c<=1000):bd aK 118 #[N d,e,J b] m (cQ (aG<|kl j c b) m):=by
 have A:=ae P;obtain⟨aa,o,ay,D,w,ac,ad,X⟩:=Q;have R:=(ea.1 w).1;have B:=ae X;have y:=ae w;have:=q.2.1;have C:=ae q;go_wp2;go_loopw [7] (λa wr=>∃k:Nat,k<=E j/\a=J k/\(amA k j).any (λu=>dQ (I 46 u.owner=c)&&(b==255||u.type==b))=ao/\a7 m wr) λa _=>E j-c7 (fJ a);·exact JX
 ·(obtain⟨k,Y,rfl,r,h⟩:=hrel;have W:=ae r;have t:=ae h;have x:aD wr (M d 1)=ag (bC o ay (E j) D):=by{have:=(h.5 d R).trans y;unfold aD; grind};by_cases i:k<E j;{have S:(k:Int)<E j:=G;have⟨ro,rw',c0,bA,c2,c3,cD,fB,gE⟩:=((V B) k i).below h;have K:=C.2.2 j[k]<|eP i;have tk:=ae<|Ul i r;have C7:ax ((dQ (I 46 j[k].owner=c)&&(b==255||j[k].type==b))=aE->kl j c b=aE):=λF=>pr.2 ⟨j[k],eP i,F⟩;have z:=ae<|up fB (A.below h) (pQ K) H;generalize j[k]=u at *;go_wp21;refine z.m λab l=>?_;have bM:=ae<|bN t<|bV l t.4;have:=(l.cell (p:=⟨d,1,ai⟩) (i8 _ _ x)).trans x;have:=(l.cell (p:=⟨o,ay+k*5+2,ai⟩) (i8 _ _ c2)).trans c2;cases L:dQ<|I 46 u.owner=c;{exact Qa};{rw[L]at C7;cases O:(b==255);{rw[O]at C7;cases Z:(u.type==b);{exact Qa};{exact QE}};{exact QE}}};{have S:¬(k:Int)<E j:=G;have T:k=E j:=G;have bj:ax (kl j c b=ao):=by{have:=V W;rw[T,ld]at this;exact this};go_wp2;go_ret;exact⟨fy<|bZ bj,t⟩})
section
variable {P:Program} {ops:Array Oper} {Q:Exit->Act->World->Prop} {S:World->Prop} {l:Nat}
def kx(Q:zw->lJ->aQ->Prop)(b:zw)(a:lJ)(c:aQ):Prop:=b=lV/\Q lV a c
def kx.qC{a b}(c:kx Q a b m)(d:a≠lV):False:=d c.1
def kx.out(a:LetsOut<|kx Q):False:=by obtain⟨b,c,a⟩:=a;cases a.1
def adR{j k}(e:∀b m,j b m->k b m){b}(a:wpOp P ops (kx Q) o j b m):wpOpIn fm 0 P ops Q o k b m:=by
 unfold wpOp at a;unfold wpOpIn;split
 ·grind
 ·rename_i u t;simp only[t]at a;split
  ·rename_i g;simp only[g,pi]at a;rcases a with a|⟨_,a⟩
   ·unfold Oper.wp at a;unfold Oper.wpIn;refine⟨λ_ _=>cE,?_⟩;rw[show fm.4=ai from af,Oper.semAt_none];generalize (execOp b.eval u).run P m=h at *;cases h with
    | ok i w =>
     cases i<;>simp only[Oper.upon]at a
     all_goals first
      | exact e _ _ a
      | exact a.elim
      | (refine⟨λd=>by simp[fm]at d,callsIn_wide.2<|a.mono λr p n=>?_⟩
         cases r with
         | returned v=>grind
         | panicked l=>exact(kx.qC n aA).elim
         | outgrown=>exact(kx.out n).elim)
      | skip
     exact⟨λd=>by simp[fm]at d,λl q _=>let ⟨v,p,h,s⟩:=a l q;⟨v,p,e _ _ h,stepsIn_wide.2 s⟩⟩
    | halt i w =>
     cases i<;>simp only[Oper.upon]at a
     all_goals first
      | exact(kx.qC a aA).elim
      | exact a.elim
   ·exact(kx.out a).elim
  ·rename_i g;simp only[g]at a;exact⟨λ_ _=>cE,e _ _ a⟩
def Vi{e}: ∀(b:Nat) (d:Array Bool) (c:lJ) (g:aQ),wpAnyH P e ops (kx Q) S b d c g->wpAnyIn fm 0 P e ops Q b d c g
 | 0,_,_,_,a=>⟨a.1,a.2.2⟩
 | b+1,_,_,_,a=>⟨λj=>(a.1 j).2,λk aN=>adR (λh l i=>Vi b _ h l i.2)<|a.2 k aN⟩
def Vj{b}(S)(h:P.follows .mixedOrders=aE)(k:∀(i:Nat) (c:Oper),ops[i]? = ag c->∀a,c.2≠.defer a)(g:S<|bq m)(e:S (bq m)->wpAnyH P .any ops (kx Q) S (U ops) (Array.replicate (U ops) ao) b (bq m)):(Code.region d ops aE).wpIn (fm.inRound l) 0 P Q b m :=
 Aa h k (Vi _ _ _ _<|e g)
end
section
open Go.ChangeShapes Go.WideShapes Go.ChangeAt Go.RowKit
section
variable {H:Type} {enc:TypeId×Value->H}
def ajL:ownKnob Tryz.prog.godebug=none:=dS
def ajM(c:m.ShapedOpen aK):d3 m:=by have b:∃a,aD m (M 0 0)=ag (J a) := cell_of_shapedOpen_int (zero:=#[J 0]) (t:=3) c (yu b8) b8 af b8 b8 Tryz.underlying3;refine⟨?_,b⟩;obtain⟨a,e⟩:=b;rcases Nat.eq_zero_or_pos (U m.1) with d|d;{simp[aD,akv<|show U m.1<=0 by omega]at e};omega
end
end
end Go.Proofs.YtkkpahmoljiepaaGreatDoor
