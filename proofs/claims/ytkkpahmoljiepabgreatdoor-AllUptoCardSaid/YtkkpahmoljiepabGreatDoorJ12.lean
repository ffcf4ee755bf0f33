import Derived.Test.YtkkpahmoljiepabGreatDoorJ08
import Derived.Test.YtkkpahmoljiepabGreatDoorJ07
set_option maxRecDepth 1000000
set_option maxHeartbeats 12800000
set_option linter.all false
open Bool renaming false->ak,true->aD
open ByteArray renaming size->b7
open Go renaming Addr->gU,Calls->a_,Value->bk,World->aQ
open Go.Calls renaming mono->eb
open Go.Ending renaming returned->bh
open Go.IntKind renaming i64->ai,u8->ch
open Go.Obj renaming cells->aZ
open Go.Proofs.Tryz renaming prog->aL
open Go.RowKit renaming Hid->ao
open Go.Value renaming int->ag,ownBlock->bA,slice->aE,string->am,tuple->bZ
open Go.World renaming alloc->aN,alloc_heap_new->cW,cell?->aA,drew->bx,setCell->a7
open List renaming drop->bi,length->E,take->be
open Option renaming none->af,some->ae
open UInt8 renaming toNat->bg
namespace Go.Proofs.YtkkpahmoljiepabGreatDoor
open Go.RowKit Go.Proofs.Tryz
variable{a c g n v L:Nat}{b f m:World}{d h o:ap}{e:Value}
abbrev s2:=List<|ap ⊕ ap
def eZ:s2->ap->gH->ap×gH
 |[],a,b=>(a,b)
 |.inl e::c,a,b=>eZ c (a++e) b
 |.inr d::c,a,b=>eZ c (de (I 46 d) a b).1 (de (I 46 d) a b).2
def gI(b:aK)(a:Nat):ap:=(I 32 b.data).getD a []
def iZ(a:ap):Nat:=jF 4294967295 a
def fu(a:aK):s2:=
 if a.type=1 then [.inl<|(I 46 a.data).map λb=>UInt8.ofNat<|iZ b]
 else if a.type=16 then [.inl (UInt8.ofNat (E a.data)::a.data)]
 else if a.type=15 then [.inl [aO<|iZ<|gI a 0,cL<|iZ<|gI a 0],.inr<|gI a 1]
 else if a.type=6 then [.inr<|gI a 0,.inr<|gI a 1,.inl<|gr (iZ<|gI a 2)++gr 3600++gr 600++gr 86400++gr (iZ<|gI a 3)]
 else [.inr<|gI a 0]
def jU(a:aK)(b:ap):ap:=b++[aO a.type.toNat,cL a.type.toNat]++[aO 1,cL 1]++gr a.aP++[aO 0,cL 0]
def lZ(b:aK)(e:List ap)(d:ap)(es:gH):ap×gH:=
 let a:=de e d es
 let c:=eZ (fu b) (jU b a.1) a.2
 (be (E (jU b a.1)-2) c.1++[aO<|E c.1-E (jU b a.1),cL<|E c.1-E (jU b a.1)]++bi (E<|jU b a.1) c.1,c.2)
def KR:∀(d:List ap) (a:ap) (c:gH),(∀b∈d,E b<=255)->E d<=1000->E a+E d*256<=1000000->(∀e∈c,E e.1<=1000/\e.2<=1000000)->E (de d a c).1<=E a+E d*256+2/\E a<=E (de d a c).1/\E (de d a c).2<=E c+E d/\∀e∈(de d a c).2,E e.1<=1000/\e.2<=1000000
 |[],a,c,_,_,_,h=>⟨by simp[de],by simp[de],by simp[de],h⟩
 |b::i,a,c,n,p,o,h=>by
  have u:=n b ax;simp only[dW]at p o;cases k:jA (er (b::i)) c with
  |some t=>rw[vH k];exact⟨ax,ax,ax,h⟩
  |none=>{
  rw[rL k];have l:E (a++(UInt8.ofNat (E b)::b))=E a+E b+1:=ct;have j:=KR i (a++(UInt8.ofNat (E b)::b)) (c++[(er (b::i),E a)]) (λr q=>n r<|by simp[q]) G (by rw[l];omega) (λe g=>by{
  rcases i_.1 g with g|g;{exact h e g};{
  obtain rfl:e=_:=by simpa using g
  exact⟨by show(er (b::i)).length<=1000;rw[qc];simp;omega,by show E a<=1000000;omega⟩}})
  rw[l,dj]at j;simp only[dW,gG]at j⊢;exact⟨G,G,G,j.2.2.2⟩}
def KT{ci:List ap}(b:et 1 ci=aD):∃a,ci=[a]/\(I 46 a).all (ft 255)=aD/\E (I 46 a)=4:=by
 match ci,b with
 |[a],b=>{have c:tP a=aD:=b;unfold tP at c;simp only[e9,iE]at c;exact⟨a,U,c⟩}
def t_{t:Nat}{ci:List ap}(c:t=2\/t=5)(b:et (t:Int) ci=aD):∃a,ci=[a]/\eL a=aD:=by
 rcases c with rfl|rfl;{
 match ci,b with
 |[a],b=>exact⟨a,U,b⟩};{
 match ci,b with
 |[a],b=>exact⟨a,U,b⟩}
def BW{ci:List ap}(g:et 6 ci=aD):∃a b c d,ci=[a,b,c,d]/\eL a=aD/\eL b=aD/\ft 4294967295 c=aD/\ft 86400 d=aD:=by
 match ci,g with
 |[a,b,c,d],g=>{have e:(eL a&&eL b&&ft 4294967295 c&&ft 86400 d)=aD:=g;simp only[e9]at e;exact⟨a,b,c,d,U,e.1.1.1,e.1.1.2,e.1.2,e.2⟩}
def BX{ci:List ap}(c:et 15 ci=aD):∃a b,ci=[a,b]/\ft 65535 a=aD/\eL b=aD:=by
 match ci,c with
 |[a,b],c=>{have d:(ft 65535 a&&eL b)=aD:=c;simp only[e9]at d;exact⟨a,b,U,d⟩}
def Up{ci:List ap}(b:et 16 ci=aD):∃a,ci=[a]/\E a<=40:=by
 match ci,b with
 |[a],b=>{have c:oe a=aD:=b;unfold oe at c;simp only[e9,pZ]at c;exact⟨a,U,c.2⟩}
def vM{m:Nat}(e:m<=4294967295)(a:ft m d=aD):ft 4294967295 d=aD/\iZ d<=m:=by
 rw[Ej m G]at a;rw[Ej 4294967295 G];cases c:pD d with
 |none=>rw[c]at a;cases a
 |some v=>{
 rw[c]at a;let b:v<=m:=by simpa using a
 refine⟨ct,?_⟩;unfold iZ;rw[IQ 4294967295 G d v c G];exact b}
def Ga(b:eL d=aD):hO ak d=ae (I 46 d):=by have:=rp d;rw[b]at this;unfold hO at this⊢;split at this;{rename_i b;rw[b8 b]};{cases this}
def Uq(c:eL d=aD):I 46 d≠[]/\E (I 46 d)<=61/\∀b∈I 46 d,E b<=255:=by let:=(hC c).2;let:=nM 46 d;exact⟨nL 46 d,G,λb a=>cd<|n6 46 (E d) d bo b a⟩
def Gb{i:gH}(x:eL h=aD)(y:fv b a d e)(w:gb b c a e i)(z:gR b g 0<|I 46 h)(t:E (I 46 h)<=n)(l:g≠a)(o:ae g≠bA e)(p:c<=b.1.size)(B:E d<=800000)(u:∀v∈i,E v.1<=1000/\v.2<=1000000)(C:E i<=800000):a_ aL 114 #[bv a,bL g 0 (E<|I 46 h) n] b λv k=>v=bh (bZ #[])/\∃j,fv k a (de (I 46 h) d i).1 j/\gb k c a j (de (I 46 h) d i).2/\fz a b e k j:=by let⟨q,A,r⟩:=Uq x;exact JC y w z t l o p q G r G u G
def Gc(h:eL d=aD)(a:ap){b:gH}(k:E a<=800000)(g:∀c∈b,E c.1<=1000/\c.2<=1000000):E (de (I 46 d) a b).1<=E a+15618/\E a<=E (de (I 46 d) a b).1/\E (de (I 46 d) a b).2<=E b+61/\∀c∈(de (I 46 d) a b).2,E c.1<=1000/\c.2<=1000000:=by let⟨i,j,e⟩:=Uq h;let:=KR (I 46 d) a b e G G g;exact⟨G,this.2.1,G,this.2.2.2⟩
def ye(c:Nat)(s:ap)(b a:aQ):Prop:=aA a (N c 0)=ae (aS s)/\a6 b a
def ye.call(a:ye g d f b)(c:a6 b m):ye g d f m:=
 ⟨(c.cell<|g_ b _ a.1).trans a.1,a.2.trans<|c.mono a.2.4⟩
def yg(d:Nat)(s:ap)(b:gU)(e:ap)(c a:aQ):Prop:=aA a (N d 0)=ae (aS s)/\aA a b=ae (aS e)/\a6 c a
def yg.call{e:gU}(i:yg a d e h f b)(g:a6 b m):yg a d e h f m:=by let k:∀(c:gU) (v:bk),aA b c=ae v->aA m c=ae v:=λc v i=>(g.cell<|g_ b c i).trans i;exact⟨k _ _ i.1,k _ _ i.2.1,i.2.2.trans<|g.mono i.2.2.4⟩
def ld(h d:Nat)(s:ap)(e:bk)(b:gU)(i:ap)(c:gU)(j:ap)(g a:aQ):Prop:=aA a (N h 0)=ae (aS s)/\aA a (N d 4)=ae e/\aA a b=ae (aS i)/\aA a c=ae (aS j)/\a6 g a
def ld.call{g p:gU}(l:ld n a d e g o p h f b)(k:a6 b m):ld n a d e g o p h f m:=by let c:∀(j:gU) (v:bk),aA b j=ae v->aA m j=ae v:=λj v l=>(k.cell<|g_ b j l).trans l;exact⟨c _ _ l.1,c _ _ l.2.1,c _ _ l.2.2.1,c _ _ l.2.2.2.1,l.2.2.2.2.trans<|k.mono l.2.2.2.2.4⟩
def qt(h b:Nat)(s:ap)(d e:Nat)(c:aQ->Prop)(g a:aQ):Prop:=aA a (N h 0)=ae (aS s)/\aA a (N b 1)=ae (M d)/\aA a (N b 2)=ae (M e)/\c a/\a6 g a
def qt.call{s:aQ->Prop}(u:∀m b,s m->a6 m b->s b)(k:qt a c d g n s f m)(l:a6 m b):qt a c d g n s f b:=by let⟨p,q,r,t,j⟩:=k;let h:∀(e:gU) (v:bk),aA m e=ae v->aA b e=ae v:=λe v k=>(l.cell<|g_ m e k).trans k;exact⟨h _ _ p,h _ _ q,h _ _ r,u _ _ t l,j.trans<|l.mono j.4⟩
def V1{P:Prop}(h:P:=by exact qF _ _):P:=h
def VV{P:Prop}(h:P:=by exact V1):P:=h
def pA{P:Prop}(h:P:=by exact VV):P:=h
def acT{bl:gH}{j:aK}{dC wc:Nat}{aH:List ap}(cR:fv b a d e)(cP:gb b c a e bl)(eL:gR b g n aH)(e4:E aH<=dC)(eI:g≠a)(en:ae g≠bA e)(b_:gR b v L<|I 32 j.data)(f5:E (I 32 j.data)<=wc)(dH:v≠a)(eo:ae v≠bA e)(cJ:c<=b.1.size)(eK:aH≠[])(eJ:E aH<=300)(dk:∀q∈aH,E q<=255)(ab:et j.type (I 32 j.data)=aD)(c8:j.aP<4294967296)(c0:E j.data<=3000)(wb:E d<=500000)(dg:∀dD∈bl,E dD.1<=1000/\dD.2<=1000000)(f3:E bl<=500000):a_ aL 117 #[bv a,.agg #[bL g n (E aH) dC,M j.aP,M j.type,aS j.data,bL v L (E<|I 32 j.data) wc]] b λdD au=>dD=bh (bZ #[])/\∃dF,fv au a (lZ j aH d bl).1 dF/\gb au c a dF (lZ j aH d bl).2/\fz a b e au dF:=by
 obtain⟨l,dn⟩:∃l:Nat,j.type=(l:Int):=⟨j.type.toNat,cd<|uB ab⟩;have e5:l<65536:=cd<|uB ab
 rw[dn];have⟨aT,ba⟩:=bm (aZ #[aE (ae ⟨g,n,af⟩) (E aH) dC,ag ai j.aP,ag ai l,am<|D j.data,aE (ae ⟨v,L,af⟩) (E<|I 32 j.data) wc] 98:Obj);have bR:a6 b (aN b aT):=cc.alloc bo _;have f6:=cR.lt;have fR:=cP.ne cR;have d0:=cP.lt;have cw:=JC (cR.below bR) (cP.below bR) (eL.below bR) e4 eI en ct eK eJ dk G dg G;have bW:=KR aH d bl dk G G dg;have⟨bB,df⟩:=bm<|de aH d bl;have dI:ao (∀bD:ap×gH,bD=eZ (fu j) (jU j bB.1) bB.2->lZ j aH d bl=(be (E (jU j bB.1)-2) bD.1++[aO<|E bD.1-E (jU j bB.1),cL<|E bD.1-E (jU j bB.1)]++bi (E<|jU j bB.1) bD.1,bD.2)):=λbD b_=>by rw[b_,df];rfl
 rw[<-df]at cw bW;obtain⟨ac,o⟩:=bB;simp only at cw bW dI;have f8:=O cw;have bP:=O bW.2.2.2;have f2:=bW.1;have fs:=bW.2.2.1;have bw:=O dn;have e_:=O b_;have fw:=O ab;have fx:=b_.1;clear df cR cP eL b_ ab dk dg cw bW dn;go_in;go_wp2_with fail;rw[<-ba];refine eb f8 ?_;rintro dD aa ⟨rfl,y,cg,eM,b3⟩;have cf:=b3.1.4;rw[eE]at cf;obtain⟨ca,bS⟩:=bm b.1.size;have fA:(aN b aT).1.size=ca+1:=by rw[eE,bS]
 have bn:=cW b aT;rw[ba,<-bS]at bn;rw[<-ba]at bn;have a1:ao (gR (aN b aT) v L (I 32 j.data)/\(v≠a/\ae v≠bA e)/\(ca<(aN b aT).1.size/\ca≠a/\ae ca≠bA e)/\aA (aN b aT) (N ca 1)=ae (M j.aP)/\aA (aN b aT) (N ca 2)=ae (M l)/\aA (aN b aT) (N ca 4)=ae (bL v L (E<|I 32 j.data) wc)):=by{refine⟨e_.below bR,⟨dH,eo⟩,⟨G,G,λdD=>cd<|(d0 _ dD.symm).2⟩,?_,?_,?_⟩;all_goals(have bn:=cW b aT;rw[ba]at bn;rw[<-ba]at bn;rw[<-bS,ba]at bn;unfold aA;rw[ba,bn];rfl)};have d1:ao (fz a b e (aN b aT) e):=fz.Du bR;generalize aN b aT=al at*;have cl:ao (fv aa a ac y/\gb aa c a y o/\fz a al e aa y):=⟨cg,eM,b3⟩;have b2:∀(a3:Nat) (A:bk) (S:aQ) (bM:bk),fz a al e S bM->aA al (N ca a3)=ae A->aA S (N ca a3)=ae A:=λa3 A S bM r hu=>(dR (a:=⟨ca,a3,af⟩) (r.1.5 ca a1.2.2.1.1 a1.2.2.1.2)).trans hu;have dE:=b2 1 _ aa y b3 a1.2.2.2.1;have eX:=b2 2 _ aa y b3 a1.2.2.2.2.1;have a2:ao (∀(S:aQ) (bM:bk),fz a al e S bM->gR S v L (I 32 j.data)/\aA S (N ca 2)=ae (M l)/\aA S (N ca 4)=ae (bL v L (E<|I 32 j.data) wc)):=λS bM r=>⟨a1.1.fr r.1 a1.2.1,b2 2 _ S bM r a1.2.2.2.2.1,b2 4 _ S bM r a1.2.2.2.2.2⟩;have⟨cS,fV⟩:=cg.cells;have fB:=cg.lt;have ex:=cg.frozen;rw[<-bS];have:=O bS;have⟨ah,dh⟩:=bm j.aP;rw[<-dh]at dE c8;have ev:qt a ca ac ah l (λ_=>True) aa (bx aa):=⟨cS,dE,eX,cy,cc.drew⟩;have eV:ao (∀S,qt a ca ac ah l (λ_=>True) aa S->a_ aL 57 #[M l] S λdD i=>dD=bh (aS [aO l,cL l])/\qt a ca ac ah l (λ_=>True) aa i):=λS r=>(nW l S e5).mono λdD i k=>⟨k.1,r.call (λ_ _ _ _=>cy) k.2⟩;have eU:ao (∀S,qt a ca ac ah l (λ_=>True) aa S->a_ aL 57 #[M 1] S λdD i=>dD=bh (aS [aO 1,cL 1])/\qt a ca ac ah l (λ_=>True) aa i):=λS r=>(nW 1 S G).mono λdD i k=>⟨k.1,r.call (λ_ _ _ _=>cy) k.2⟩;have e3:ao (∀S,qt a ca ac ah l (λ_=>True) aa S->a_ aL 171 #[M ah] S λdD i=>dD=bh (aS<|gr ah)/\qt a ca ac ah l (λ_=>True) aa i):=λS r=>(y4 ah S c8).mono λdD i k=>⟨k.1,r.call (λ_ _ _ _=>cy) k.2⟩;have dV:ao (∀S,qt a ca ac ah l (λ_=>True) aa S->a_ aL 57 #[M 0] S λdD i=>dD=bh (aS [aO 0,cL 0])/\qt a ca ac ah l (λ_=>True) aa i):=λS r=>(nW 0 S G).mono λdD i k=>⟨k.1,r.call (λ_ _ _ _=>cy) k.2⟩;have⟨aX,dr⟩:=bm<|E ac;have dP:b7 (D ac)=aX:=by rw[cV,dr]
 have gd:b7 (D [aO l,cL l])=2:=U;have ge:b7 (D [aO 1,cL 1])=2:=U;have gf:b7 (D<|gr ah)=4:=U;have gg:b7 (D [aO 0,cL 0])=2:=U;have⟨p,eH⟩:=bm<|aX+10;have⟨cs,cK⟩:=bm<|ac++[aO l,cL l];have⟨cu,cM⟩:=bm<|cs++[aO 1,cL 1];have⟨cv,cx⟩:=bm<|cu++gr ah;have⟨h,cz⟩:=bm<|cv++[aO 0,cL 0];have e6:b7 (D cs)=aX+2:=by rw[cV,cK,dj,dr];rfl
 have e7:b7 (D cu)=aX+4:=by rw[cV,cM,dj,<-cV,e6];rfl
 have e8:b7 (D cv)=aX+8:=by rw[cV,cx,dj,<-cV,e7];rfl
 have ga:b7 (D h)=p:=by rw[cV,cz,dj,<-cV,e8,eH];rfl
 have a4:ao (p=E h):=by rw[ao,<-cV,ga]
 have:10<=p/\p<=600100:=G;have ds:D ac++D [aO l,cL l]=D cs:=by rw[cK];exact pA
 have dt:D cs++D [aO 1,cL 1]=D cu:=by rw[cM];exact pA
 have du:D cu++D (gr ah)=D cv:=by rw[cx];exact pA
 have dw:D cv++D [aO 0,cL 0]=D h:=by rw[cz];exact pA
 have fb:ao (h=jU j ac):=by rw[ao,cz,cx,cM,cK,jU,V bw,dh];rfl
 have:aX<=600000:=G;have cX:¬9223372036854775807<aX+2:=G;have dz:¬9223372036854775807<aX+2+2:=G;have eR:¬9223372036854775807<aX+4+4:=G;have eS:¬9223372036854775807<aX+8+2:=G;have:E o<=600000:=G;have fU:=O<|cj cJ<|cj cf c0;clear cK cM cx cz cg eM b3 cS fV dE eX ba dh bS cJ fx f5 c0 cf fR f6 d0 dr f2 fs e4 eI en dH eo eK eJ wb f3 e5 c8 bR bn b2 fA a1;go_wp2;refine B6 (S:=qt a ca ac ah l (λ_=>True) aa) 19 b6 b6 ev λwb=>?_;simp only[uQ,qW];generalize bx aa=cq at*;refine dZ 0 wb ?_;refine dZ 1 wb ?_;refine dZ 2 wb ?_;refine dZ 3 wb ?_;refine dZ 4 wb ?_;refine dZ 5 wb ?_;refine dZ 6 wb ?_;refine dZ 11 wb ?_;refine dZ 12 wb ?_;refine oI 7 (eV _ wb) λi wb=>?_;refine dZ 8 wb ?_;refine oI 9 (eU _ wb) λi wb=>?_;refine dZ 10 wb ?_;refine oI 13 (e3 _ wb) λi wb=>?_;refine dZ 14 wb ?_;refine oI 15 (dV _ wb) λi wb=>?_;refine dZ 16 wb ?_;refine dZ 17 wb ?_;refine dZ 18 wb ?_;refine su b6 (B5 U U ?_) _;obtain⟨a5,_,_,_,X⟩:=wb;have a8:=(sN<|X.5 a fB).trans<|ex 0;go_simp;have⟨ey,ez,eA⟩:=rM cl.1 cl.2.1 cl.2.2 X h;have F:ao (fv (a7 i ⟨a,0,af⟩<|am<|D h) a h y/\gb (a7 i ⟨a,0,af⟩<|am<|D h) c a y o/\fz a al e (a7 i ⟨a,0,af⟩<|am<|D h) y):=⟨ey,ez,eA⟩;generalize a7 i ⟨a,0,af⟩ (am<|D h)=w at*;clear a5 X a8 ey ez eA ev eV eU e3 dV ds dt du dw e6 e7 e8 cX dz eR eS gd ge gf gg dP cl ex;have⟨aW,bG⟩:=F.1.cells;have cI:=(a2 w y F.2.2).2.1;have:=F.2.2.1.4;have ab:=V fw;rw[V bw]at ab;have ad:(l=2\/l=5)\/l=15\/l=6\/l=16\/l=1:=cd<|uB ab
 have c1:=O fun(q:ap) (S:aQ) (r:E q<=3000)=>yj q ak S G;have⟨cJ,cf,c0⟩:=V fU;have:c<=al.1.size:=cd d1.1.4
 clear eH cJ cf;go_upto_block 0 with fail;go_cut [5,6]from 37 to 159 (λgt gu dG=>∃a9,ao (fv dG a (eZ (fu j) h o).1 a9/\gb dG c a a9 (eZ (fu j) h o).2/\fz a al e dG a9)/\p<=E (eZ (fu j) h o).1/\E (eZ (fu j) h o).1<=p+60000);·(
 rcases ad with ad|ad|ad|ad|ad;{
 have⟨q,J,aw⟩:=t_ ad ab;have cT:=(hC aw).2;have B:ao (eZ (fu j) h o=de (I 46 q) h o):=by{rw[ao,fu,V bw,bV G,bV G,bV G,bV G,gI,J];rfl};have⟨x,_,cB⟩:=V a2 w y F.2.2;rw[J]at x cB;have ew:=x.2 0 ax;simp only[eB,h8,dW,gG,fM]at ew cB;have bH:((l:Int)==1)=ak:=iQ
 have bI:((l:Int)==16)=ak:=iQ
 have u:((l:Int)==15)=ak:=iQ
 have bT:((l:Int)==6)=ak:=iQ
 clear ad x J ab;go_wp2_with fail;refine(c1 q w G).mono ?_;rintro dD aj ⟨⟨c2,rfl,aJ⟩,u⟩;rw[Ga aw]at aJ;obtain⟨_,bF,c_,rfl,bJ,cQ,aU⟩:=aJ;have bU:=u.4;have⟨C,K,t⟩:=V F;have gj:E h<=700000:=by rw[<-V a4];omega
 have dX:=O<|Gb aw (C.below u) (K.below u) aU bJ (cd C.lt) (λdD=>cd<|(K.lt bF dD.symm).2) G G (V bP) G;have ep:=O<|Gc aw h G<|V bP;have aI:=O<|t.trans<|fz.Du (wb:=a) u;clear C K t u aU aW bG cI cB ew;go_wp2_with fail;refine dX.m ?_;rintro aY ⟨a9,aM,aP,aR⟩;have aq:ao (fv aY a (eZ (fu j) h o).1 a9/\gb aY c a a9 (eZ (fu j) h o).2/\fz a al e aY a9):=by rw[ao,V B];exact⟨aM,aP,aI.trans aR⟩
 have az:p<=E (eZ (fu j) h o).1/\E (eZ (fu j) h o).1<=p+60000:=by rw[V B,V a4];have:=V ep;rw[<-V a4]at this⊢;omega
 clear aM aP aR dX ep aI B bH bI u bT;go_wp2;go_meet;·exact⟨a9,aq,az⟩};{
 have an:=ab;rw[ad]at an;have⟨q,z,J,e2,aw⟩:=BX an;have⟨eW,f_⟩:=vM G e2;have dS:=(hC aw).2;have cT:E q<=3000:=by have:=n6 32 (E j.data) j.data bo q (by rw[J];simp);omega
 have B:ao (eZ (fu j) h o=de (I 46 z) (h++[aO<|iZ q,cL<|iZ q]) o):=by{rw[ao,fu,V bw,bV G,bV G,b8 G,gI,gI,J];rfl};have bd:=O λS=>Ek S G eW;have⟨Z,br⟩:=bm<|iZ q;rw[<-br]at B f_;have bt:ao (∀S,a_ aL 172 #[aS q] S λdD au=>dD=bh (M Z)/\au=S):=by rw[br];exact bd
 have aV:=O J;have bH:((l:Int)==1)=ak:=iQ
 have bI:((l:Int)==16)=ak:=iQ
 have u:((l:Int)==15)=aD:=yv
 clear br bd eW e2 ab an J ad;have⟨x,_,cB⟩:=V a2 w y F.2.2;rw[V aV]at x cB;have ar:=x.2 0 ax;simp only[eB,eG,h8,dW,gG,fM,Nat.reduceAdd]at ar cB;clear x;have:=bm<|aE (ae<|N v L) 2 wc;have cb:ld a ca h (bL v L 2 wc) (N v L) q (N v L) q w (bx w):=⟨aW,cB,ar,ar,cc.drew⟩;have b1:ao (∀S,ld a ca h (bL v L 2 wc) (N v L) q (N v L) q w S->a_ aL 172 #[aS q] S λdD i=>dD=bh (M Z)/\ld a ca h (bL v L 2 wc) (N v L) q (N v L) q w i):=λS r=>(bt S).mono λdD i k=>⟨k.1,by rw[k.2];exact r⟩;have dU:ao (∀S,ld a ca h (bL v L 2 wc) (N v L) q (N v L) q w S->a_ aL 57 #[M Z] S λdD i=>dD=bh (aS [aO Z,cL Z])/\ld a ca h (bL v L 2 wc) (N v L) q (N v L) q w i):=λS r=>(nW Z S G).mono λdD i k=>⟨k.1,r.call k.2⟩;have⟨av,a0⟩:=bm<|h++[aO Z,cL Z];rw[<-a0]at B;have dx:D h++D [aO Z,cL Z]=D av:=by rw[a0];exact pA
 have gh:b7 (D [aO Z,cL Z])=2:=U;have eT:¬9223372036854775807<p+2:=G;have gx:E av=p+2:=by rw[a0,dj,<-V a4];rfl
 have cA:=F.1.frozen;have b0:=F.1.lt;clear a0;go_wp2;refine B6 (S:=ld a ca h (bL v L 2 wc) (N v L) q (N v L) q w) 14 b6 b6 cb λwb=>?_;simp only[uQ,qW];generalize bx w=cq at*;refine dZ 0 wb ?_;refine dZ 1 wb ?_;refine dZ 2 wb ?_;refine dZ 3 wb ?_;refine dZ 4 wb ?_;refine dZ 5 wb ?_;refine dZ 6 wb ?_;refine dZ 7 wb ?_;refine dZ 8 wb ?_;refine oI 9 (b1 _ wb) λi wb=>?_;refine oI 10 (dU _ wb) λi wb=>?_;refine dZ 11 wb ?_;refine dZ 12 wb ?_;refine dZ 13 wb ?_;refine su b6 (B5 U U ?_) _;obtain⟨a5,_,_,_,X⟩:=wb;have a8:=(sN<|X.5 a b0).trans<|cA 0;go_simp;have aB:=O<|rM F.1 F.2.1 F.2.2 X av;clear a5 X a8 cb b1 dU bt dx gh eT cA b0 aW bG cI cB ar;generalize a7 i ⟨a,0,af⟩ (am<|D av)=aj at*;have⟨x,_,cB⟩:=V a2 aj y aB.2.2;rw[V aV]at x cB;have b4:=x.2 1 ax;simp only[eB,eG,h8,dW,gG,fM,Nat.reduceAdd]at b4 cB;clear x;go_wp2_with fail;refine(c1 z aj G).mono ?_;rintro dD fC ⟨⟨c2,rfl,aJ⟩,u⟩;rw[Ga aw]at aJ;obtain⟨_,bF,c_,rfl,bJ,cQ,aU⟩:=aJ;have bU:=u.4;have⟨C,K,t⟩:=V aB;have bY:=O<|Gb aw (C.below u) (K.below u) aU bJ (cd C.lt) (λdD=>cd<|(K.lt bF dD.symm).2) (cd t.1.4) G (V bP) G;have b5:=Gc aw av G<|V bP;have aI:=O<|t.trans<|fz.Du (wb:=a) u;clear C K t u aU cB b4;go_wp2_with fail;refine bY.m ?_;rintro aC ⟨aF,aM,aP,aR⟩;have bO:ao (fv aC a (de (I 46 z) av o).1 aF/\gb aC c a aF (de (I 46 z) av o).2/\fz a al e aC aF):=⟨aM,aP,aI.trans aR⟩;clear aM aP aR bY aI bU;generalize de (I 46 z) av o=c7 at*;obtain⟨bz,cr⟩:=c7;simp only at b5 bO B;obtain⟨eq,er,dM,bK⟩:=b5;replace bK:=O bK;have aq:ao (fv aC a (eZ (fu j) h o).1 aF/\gb aC c a aF (eZ (fu j) h o).2/\fz a al e aC aF):=by rw[ao,V B];exact bO
 have az:p<=E (eZ (fu j) h o).1/\E (eZ (fu j) h o).1<=p+60000:=by rw[V B];show p<=E bz/\E bz<=p+60000;omega
 clear B bO;go_wp2;go_meet;·exact⟨aF,aq,az⟩};{
 have an:=ab;rw[ad]at an;have⟨bu,bN,H,P,J,br,cp,dy,dJ⟩:=BW an;have⟨es,fD⟩:=vM (m:=86400) G dJ;have fE:=(vM (m:=4294967295) bo dy).2;have f1:=(hC br).2;have fF:=(hC cp).2;have fQ:E H<=3000:=by have:=n6 32 (E j.data) j.data bo H (by rw[J];simp);omega
 have fG:E P<=3000:=by have:=n6 32 (E j.data) j.data bo P (by rw[J];simp);omega
 have B:ao (eZ (fu j) h o=((de (I 46 bN) (de (I 46 bu) h o).1 (de (I 46 bu) h o).2).1++(gr (iZ H)++gr 3600++gr 600++gr 86400++gr (iZ P)),(de (I 46 bN) (de (I 46 bu) h o).1 (de (I 46 bu) h o).2).2)):=by{rw[ao,fu,V bw,bV G,bV G,bV G,b8 G,gI,gI,gI,gI,J];rfl};have bd:=O λS=>Ek S G dy;have eu:=O λS=>Ek S G es;have⟨fa,c3⟩:=bm<|iZ H;have⟨fy,dA⟩:=bm<|iZ P;rw[<-c3,<-dA]at B;have bt:ao (∀S,a_ aL 172 #[aS H] S λdD au=>dD=bh (M fa)/\au=S):=by rw[c3];exact bd
 have dQ:ao (∀S,a_ aL 172 #[aS P] S λdD au=>dD=bh (M fy)/\au=S):=by rw[dA];exact eu
 have d2:fa<4294967296:=G;have d3:fy<4294967296:=G;have bq:=a4.symm;have aV:=O J;have e9:((l:Int)==1)=ak:=iQ
 have d4:((l:Int)==16)=ak:=iQ
 have d5:((l:Int)==15)=ak:=iQ
 have d6:((l:Int)==6)=aD:=yv
 clear c3 dA bd eu dy dJ es fD fE ab an J ad;have⟨x,_,cB⟩:=V a2 w y F.2.2;rw[V aV]at x cB;have ar:=x.2 0 ax;simp only[eB,eG,h8,dW,gG,fM,Nat.reduceAdd]at ar cB;clear x;go_wp2_with fail;refine(c1 bu w G).mono ?_;rintro dD fC ⟨⟨c2,rfl,aJ⟩,u⟩;rw[Ga br]at aJ;obtain⟨_,bF,c_,rfl,bJ,cQ,aU⟩:=aJ;have bU:=u.4;have⟨C,K,t⟩:=V F;have bY:=O<|Gb br (C.below u) (K.below u) aU bJ (cd C.lt) (λdD=>cd<|(K.lt bF dD.symm).2) (cd t.1.4) G (V bP) G;have b5:=Gc br h G<|V bP;have aI:=O<|t.trans<|fz.Du (wb:=a) u;clear C K t u aU aW bG cI cB ar;go_wp2_with fail;refine bY.m ?_;rintro aC ⟨aF,aM,aP,aR⟩;have bO:ao (fv aC a (de (I 46 bu) h o).1 aF/\gb aC c a aF (de (I 46 bu) h o).2/\fz a al e aC aF):=⟨aM,aP,aI.trans aR⟩;clear aM aP aR bY aI bU;generalize de (I 46 bu) h o=c7 at*;obtain⟨bz,cr⟩:=c7;simp only at b5 bO B;obtain⟨eq,er,dM,bK⟩:=b5;replace bK:=O bK;have⟨x,_,cB⟩:=V a2 aC aF bO.2.2;rw[V aV]at x cB;have b4:=x.2 1 ax;simp only[eB,eG,h8,dW,gG,fM,Nat.reduceAdd]at b4 cB;clear x;go_wp2_with fail;refine(c1 bN aC G).mono ?_;rintro dD gw ⟨⟨c2,rfl,aJ⟩,u⟩;rw[Ga cp]at aJ;obtain⟨_,bF,c_,rfl,bJ,cQ,aU⟩:=aJ;have bU:=u.4;have⟨C,K,t⟩:=V bO;have dY:=O<|Gb cp (C.below u) (K.below u) aU bJ (cd C.lt) (λdD=>cd<|(K.lt bF dD.symm).2) (cd t.1.4) G (V bK) G;have d7:=Gc cp bz G<|V bK;have aI:=O<|t.trans<|fz.Du (wb:=a) u;clear C K t u aU cB b4;go_wp2_with fail;refine dY.m ?_;rintro Y ⟨bf,aM,aP,aR⟩;have bb:ao (fv Y a (de (I 46 bN) bz cr).1 bf/\gb Y c a bf (de (I 46 bN) bz cr).2/\fz a al e Y bf):=⟨aM,aP,aI.trans aR⟩;clear aM aP aR dY aI bU;generalize de (I 46 bN) bz cr=fg at*;obtain⟨Q,gl⟩:=fg;simp only at d7 bb B;obtain⟨fc,fH,fj,d8⟩:=d7;replace d8:=O d8;have⟨x,_,cB⟩:=V a2 Y bf bb.2.2;rw[V aV]at x cB;have da:=x.2 2 ax;have c9:=x.2 3 ax;simp only[eB,eG,h8,dW,gG,fM,Nat.reduceAdd]at da c9 cB;clear x;have d9:=bb.1.cells.1;have dT:ld a ca Q (bL v L 4 wc) (N v<|L+2) H (N v<|L+3) P Y (bx Y):=⟨d9,cB,da,c9,cc.drew⟩;have dO:ao (∀S,ld a ca Q (bL v L 4 wc) (N v<|L+2) H (N v<|L+3) P Y S->a_ aL 172 #[aS H] S λdD i=>dD=bh (M fa)/\ld a ca Q (bL v L 4 wc) (N v<|L+2) H (N v<|L+3) P Y i):=λS r=>(bt S).mono λdD i k=>⟨k.1,by rw[k.2];exact r⟩;have d_:ao (∀S,ld a ca Q (bL v L 4 wc) (N v<|L+2) H (N v<|L+3) P Y S->a_ aL 171 #[M fa] S λdD i=>dD=bh (aS<|gr fa)/\ld a ca Q (bL v L 4 wc) (N v<|L+2) H (N v<|L+3) P Y i):=λS r=>(y4 fa S d2).mono λdD i k=>⟨k.1,r.call k.2⟩;have ea:ao (∀S,ld a ca Q (bL v L 4 wc) (N v<|L+2) H (N v<|L+3) P Y S->a_ aL 171 #[M 3600] S λdD i=>dD=bh (aS<|gr 3600)/\ld a ca Q (bL v L 4 wc) (N v<|L+2) H (N v<|L+3) P Y i):=λS r=>(y4 3600 S G).mono λdD i k=>⟨k.1,r.call k.2⟩;have ec:ao (∀S,ld a ca Q (bL v L 4 wc) (N v<|L+2) H (N v<|L+3) P Y S->a_ aL 171 #[M 600] S λdD i=>dD=bh (aS<|gr 600)/\ld a ca Q (bL v L 4 wc) (N v<|L+2) H (N v<|L+3) P Y i):=λS r=>(y4 600 S G).mono λdD i k=>⟨k.1,r.call k.2⟩;have ed:ao (∀S,ld a ca Q (bL v L 4 wc) (N v<|L+2) H (N v<|L+3) P Y S->a_ aL 171 #[M 86400] S λdD i=>dD=bh (aS<|gr 86400)/\ld a ca Q (bL v L 4 wc) (N v<|L+2) H (N v<|L+3) P Y i):=λS r=>(y4 86400 S G).mono λdD i k=>⟨k.1,r.call k.2⟩;have ee:ao (∀S,ld a ca Q (bL v L 4 wc) (N v<|L+2) H (N v<|L+3) P Y S->a_ aL 172 #[aS P] S λdD i=>dD=bh (M fy)/\ld a ca Q (bL v L 4 wc) (N v<|L+2) H (N v<|L+3) P Y i):=λS r=>(dQ S).mono λdD i k=>⟨k.1,by rw[k.2];exact r⟩;have ef:ao (∀S,ld a ca Q (bL v L 4 wc) (N v<|L+2) H (N v<|L+3) P Y S->a_ aL 171 #[M fy] S λdD i=>dD=bh (aS<|gr fy)/\ld a ca Q (bL v L 4 wc) (N v<|L+2) H (N v<|L+3) P Y i):=λS r=>(y4 fy S d3).mono λdD i k=>⟨k.1,r.call k.2⟩;have⟨ay,dB⟩:=bm<|E Q;have:b7 (D Q)=ay:=by rw[cV,dB]
 have:∀ck,b7 (D<|gr ck)=4:=λck=>U;have⟨cE,bH⟩:=bm<|Q++gr fa;have⟨cF,bI⟩:=bm<|cE++gr 3600;have⟨cG,u⟩:=bm<|cF++gr 600;have⟨cH,bT⟩:=bm<|cG++gr 86400;have⟨bC,cO⟩:=bm<|cH++gr fy;have fX:b7 (D cE)=ay+4:=by rw[cV,bH,dj,<-dB];rfl
 have fY:b7 (D cF)=ay+8:=by rw[cV,bI,dj,<-cV,fX];rfl
 have fZ:b7 (D cG)=ay+12:=by rw[cV,u,dj,<-cV,fY];rfl
 have f0:b7 (D cH)=ay+16:=by rw[cV,bT,dj,<-cV,fZ];rfl
 have gn:E bC=ay+20:=by rw[cO,dj,<-cV,f0];rfl
 have ds:D Q++D (gr fa)=D cE:=by rw[bH];exact pA
 have dt:D cE++D (gr 3600)=D cF:=by rw[bI];exact pA
 have du:D cF++D (gr 600)=D cG:=by rw[u];exact pA
 have dw:D cG++D (gr 86400)=D cH:=by rw[bT];exact pA
 have dx:D cH++D (gr fy)=D bC:=by rw[cO];exact pA
 have eC:ao (Q++(gr fa++gr 3600++gr 600++gr 86400++gr fy)=bC):=by rw[ao,cO,bT,u,bI,bH];simp only[iz]
 have cX:¬9223372036854775807<ay+4:=G;have dz:¬9223372036854775807<ay+4+4:=G;have eR:¬9223372036854775807<ay+8+4:=G;have eS:¬9223372036854775807<ay+12+4:=G;have eT:¬9223372036854775807<ay+16+4:=G;have eg:=bb.1.frozen;have eh:=bb.1.lt;have:p<=ay/\ay<=p+40000:=G;clear bH bI u bT cO dB eq er dM fc fH fj f1 fF fQ fG d2 d3 bq;go_wp2;refine B6 (S:=ld a ca Q (bL v L 4 wc) (N v<|L+2) H (N v<|L+3) P Y) 27 b6 b6 dT λwb=>?_;simp only[uQ,qW];generalize bx Y=cq at*;refine dZ 0 wb ?_;refine dZ 1 wb ?_;refine dZ 2 wb ?_;refine dZ 3 wb ?_;refine dZ 4 wb ?_;refine dZ 5 wb ?_;refine dZ 6 wb ?_;refine dZ 7 wb ?_;refine dZ 8 wb ?_;refine dZ 18 wb ?_;refine dZ 19 wb ?_;refine dZ 20 wb ?_;refine dZ 21 wb ?_;refine oI 9 (dO _ wb) λi wb=>?_;refine oI 10 (d_ _ wb) λi wb=>?_;refine dZ 11 wb ?_;refine oI 12 (ea _ wb) λi wb=>?_;refine dZ 13 wb ?_;refine oI 14 (ec _ wb) λi wb=>?_;refine dZ 15 wb ?_;refine oI 16 (ed _ wb) λi wb=>?_;refine dZ 17 wb ?_;refine oI 22 (ee _ wb) λi wb=>?_;refine oI 23 (ef _ wb) λi wb=>?_;refine dZ 24 wb ?_;refine dZ 25 wb ?_;refine dZ 26 wb ?_;refine su b6 (B5 U U ?_) _;obtain⟨a5,_,_,_,X⟩:=wb;have a8:=(sN<|X.5 a eh).trans<|eg 0;go_simp;have aB:=O<|rM bb.1 bb.2.1 bb.2.2 X bC;clear a5 X a8 dT dO d_ ea ec ed ee ef bt dQ ds dt du dw dx eg eh d9 cB da c9;generalize a7 i ⟨a,0,af⟩ (am<|D bC)=aj at*;have aq:ao (fv aj a (eZ (fu j) h o).1 bf/\gb aj c a bf (eZ (fu j) h o).2/\fz a al e aj bf):=by rw[ao,V B,V eC];exact aB
 have az:p<=E (eZ (fu j) h o).1/\E (eZ (fu j) h o).1<=p+60000:=by rw[V B,V eC];show p<=E bC/\E bC<=p+60000;omega
 clear B aB;go_wp2;go_meet;·exact⟨bf,aq,az⟩};{
 have an:=ab;rw[ad]at an;have⟨q,J,cT⟩:=Up an;have bQ:=rJ J;have B:ao (eZ (fu j) h o=(h++UInt8.ofNat (E q)::q,o)):=by{rw[ao,fu,V bw,bV G,b8 G,bQ];rfl};have aV:=O J;have e9:((l:Int)==1)=ak:=iQ
 have d4:((l:Int)==16)=aD:=yv
 have d5:((l:Int)==15)=ak:=iQ
 have d6:((l:Int)==6)=ak:=iQ
 clear ab an J ad bQ;have⟨x,_,cB⟩:=V a2 w y F.2.2;rw[V aV]at x cB;have ar:=x.2 0 ax;simp only[eB,eG,h8,dW,gG,fM,Nat.reduceAdd]at ar cB;clear x;have b0:=F.1.lt;have cA:=F.1.frozen;have fS:=g_ w (N v L) ar;have fI:=g_ w (N ca 4) cB;have⟨bX,cn⟩:=bm<|E q;have⟨A,hu⟩:=bm<|UInt8.ofNat bX;have:b7 (D q)=bX:=by rw[cV,cn]
 have:bX<=40:=G;have eP:ch.wrap (bX:Int)=(bg A:Int):=CC
 rw[<-cn,<-hu]at B;have fN:aA (bx<|aN w<|aZ #[ag ch<|bg A] 5) (N a 0)=ae (aS h):=(dR (a:=⟨a,0,af⟩) (dv w _ a b0)).trans aW;have fO:aA (bx<|aN w<|aZ #[ag ch<|bg A] 5) (N v L)=ae (aS q):=(dR (a:=⟨v,L,af⟩) (dv w _ v fS)).trans ar;have fJ:aA (bx<|aN w<|aZ #[ag ch<|bg A] 5) (N ca 4)=ae (bL v L 1 wc):=(dR (a:=⟨ca,4,af⟩) (dv w _ ca fI)).trans cB;have fP:∀a3,(bx<|aN w<|aZ #[ag ch<|bg A] 5).frozen? (N a a3)=ak:=λa3=>(sN (a:=⟨a,a3,af⟩) (dv w _ a b0)).trans (cA a3);have fh:(convert 53 9<|bL w.1.size 0 1 1).run aL (bx<|aN w<|aZ #[ag ch<|bg A] 5)=.ok (aS [A]) (bx<|aN w<|aZ #[ag ch<|bg A] 5):=xt (bx w) [A] 1 U (by simp[maxLen]);have fk:b7 (D [A])=1:=U;have⟨av,a0⟩:=bm<|h++[A];have⟨bj,cN⟩:=bm<|av++q;have gm:D h++D [A]=D av:=by rw[a0];exact pA
 have gq:D av++D q=D bj:=by rw[cN];exact pA
 have gi:b7 (D av)=p+1:=by rw[cV,a0,dj,<-V a4];rfl
 have:E bj=p+1+bX:=by rw[cN,dj,<-cV,gi,<-cn]
 have dN:ao (h++A::q=bj):=by rw[ao,cN,a0,iz];rfl
 have cX:¬9223372036854775807<p+1:=G;have dz:¬9223372036854775807<p+1+bX:=G;clear hu cn a0 cN cT;go_wp2;go_region;all_goals(
 have bp:=rM F.1 F.2.1 F.2.2 cc bj;have cY:=((cU _<|a7 w ⟨a,0,af⟩<|am<|D bj).alloc bo<|aZ #[ag ch<|bg A] 5).drew;have aB:=O<|cj (bp.1.below cY)<|cj (bp.2.1.below cY)<|bp.2.2.trans<|fz.Du cY;clear bp cY fN fO fJ fP fh;generalize bx (aN (a7 w ⟨a,0,af⟩<|am<|D bj)<|aZ #[ag ch<|bg A] 5)=aj at*;have aq:ao (fv aj a (eZ (fu j) h o).1 y/\gb aj c a y (eZ (fu j) h o).2/\fz a al e aj y):=by rw[ao,V B,V dN];exact aB
 have az:p<=E (eZ (fu j) h o).1/\E (eZ (fu j) h o).1<=p+60000:=by rw[V B,V dN];show p<=E bj/\E bj<=p+60000;omega
 clear B aB;go_wp2;go_meet;·exact⟨y,aq,az⟩)};{
 have an:=ab;rw[ad]at an;have⟨q,J,eD,bq⟩:=KT an;have bQ:=rJ J;have cT:E q<=3000:=by rw[<-bQ];exact c0
 have B:ao (eZ (fu j) h o=(h++(I 46 q).map λz=>UInt8.ofNat<|iZ z,o)):=by{rw[ao,fu,V bw,b8 G,bQ];rfl};have e0:ao (a_ aL 38 #[aS q,ag ch 46] w λdD au=>(∃e,dD=bh e/\lX au w.1.size e (I 46 q))/\a6 w au):=y6 q 46 w G;have gc:ao (∀z∈I 46 q,E z<=3000/\ft 4294967295 z=aD/\iZ z<=255):=λz eO=>⟨cd<|n6 46 (E q) q bo z eO,vM G<|rX.1 eD z eO⟩;have aV:=O J;have e9:((l:Int)==1)=aD:=yv
 have d4:((l:Int)==16)=ak:=iQ
 have d5:((l:Int)==15)=ak:=iQ
 have d6:((l:Int)==6)=ak:=iQ
 clear ab an J ad bQ eD;have⟨x,_,cB⟩:=V a2 w y F.2.2;rw[V aV]at x cB;have ar:=x.2 0 ax;simp only[eB,eG,h8,dW,gG,fM,Nat.reduceAdd]at ar cB;clear x;generalize I 46 q=bc at*;go_wp2_with fail;refine eb e0 ?_;rintro dD aj ⟨⟨c2,rfl,eN⟩,u⟩;obtain⟨bE,go,rfl,fe,cQ,dp⟩:=sF eN (λr=>by rw[r]at bq;cases bq);have:=F.1.lt;have aB:ao (fv aj a h y/\gb aj c a y o/\fz a al e aj y):=⟨F.1.below u,F.2.1.below u,F.2.2.trans<|fz.Du u⟩;have fK:ao (bE≠a/\ae bE≠bA y):=⟨G,λdD=>cd<|(F.2.1.lt bE dD.symm).2⟩;have fd:=O dp;have:=dp.1;rw[bq];rw[bq]at fe;clear eN u dp e0 aW bG cI cB ar;go_wp2;go_loopw [6] (λdq wr=>∃(k:Nat) (aG:ap),dq=M k/\k<=4/\ao (aG=h++(be k bc).map λz=>UInt8.ofNat<|iZ z)/\ao (fv wr a aG y/\gb wr c a y o/\fz a aj y wr y)) λdq _=>4-(intOf dq).toNat;·exact⟨0,h,U,G,by rw[ao];simp,⟨aB.1,aB.2.1,fz.refl _ _ _⟩⟩
 ·(
 obtain⟨k,aG,rfl,f4,b9,cC⟩:=hrel;have⟨C,K,t⟩:=V cC;have⟨aW,bG⟩:=C.cells;have dm:E aG=p+k:=by rw[V b9,dj,<-V a4,ff,iv,bq];omega
 by_cases di:k<4;{
 have co:k<E bc:=G;have dc:=(fd.fr t.1 fK).2 k co;rw[fM]at dc;have⟨dS,ej,ek⟩:=V gc bc[k]<|ei co;have bd:=O λS=>Ek S G ej;have cm:ao (h++(be (k+1) bc).map (λz=>UInt8.ofNat<|iZ z)=aG++[UInt8.ofNat<|iZ bc[k]]):=by{rw[ao,V b9,g8 co,jg,iz];rfl};generalize bc[k]=z at*;have⟨Z,aw⟩:=bm<|iZ z;rw[<-aw]at ek cm;have bt:ao (∀S,a_ aL 172 #[aS z] S λdD au=>dD=bh (M Z)/\au=S):=by rw[aw];exact bd
 have⟨A,hu⟩:=bm<|UInt8.ofNat Z;rw[<-hu]at cm;have eP:ch.wrap (Z:Int)=(bg A:Int):=CC
 have cb:yg a aG (N bE k) z wr (bx wr):=⟨aW,dc,cc.drew⟩;have b1:ao (∀S,yg a aG (N bE k) z wr S->a_ aL 172 #[aS z] S λdD i=>dD=bh (M Z)/\yg a aG (N bE k) z wr i):=λS r=>(bt S).mono λdD i ck=>⟨ck.1,by rw[ck.2];exact r⟩;have⟨c6,c5⟩:=bm<|aG++[A];rw[<-c5]at cm;have gp:D aG++D [A]=D c6:=by rw[c5];exact pA
 have fk:b7 (D [A])=1:=U;have⟨e1,eQ⟩:=bm<|p+k;have dP:b7 (D aG)=e1:=by rw[cV,dm,eQ]
 have cX:¬9223372036854775807<e1+1:=G;have fL:=C.frozen;have fm:=C.lt;have f9:(k:Int)<4:=G;have eY:=O di;clear hu aw c5 eQ bd dS ej ek bG C K t dm di co f4 aW dc;go_wp2;refine B6 (S:=yg a aG (N bE k) z wr) 16 b6 b6 cb λwb=>?_;simp only[uQ,qW];generalize bx wr=cq at*;refine dZ 0 wb ?_;refine dZ 1 wb ?_;refine dZ 2 wb ?_;refine dZ 3 wb ?_;refine dZ 4 wb ?_;refine dZ 5 wb ?_;refine dZ 6 wb ?_;refine dZ 7 wb ?_;refine dZ 8 wb ?_;refine oI 9 (b1 _ wb) λi wb=>?_;refine dZ 10 wb ?_;refine lw (rs:=[11]) b6 ax (jv U (λc4 ce=>?_) kU);go_simp;have db:=wb.call<|cc.alloc bo<|aZ #[ag ch<|bg A] 5;have f7:(convert 53 9<|bL i.1.size 0 1 1).run aL (aN i<|aZ #[ag ch<|bg A] 5)=.ok (aS [A]) (aN i<|aZ #[ag ch<|bg A] 5):=xt i [A] 1 U (by simp[maxLen]);refine ce.out _ _ db λwb=>?_;clear ce c4;try simp only[Act.put,kB,iR,iy]
 refine lw (rs:=[12]) b6 ax (jv U (λc4 ce=>?_) kU);go_simp;refine ce.out _ _ db λwb=>?_;clear ce c4;try simp only[Act.put,kB,iR,iy]
 refine dZ 13 wb ?_;refine dZ 14 wb ?_;refine dZ 15 wb ?_;refine su b6 (B5 U U ?_) _;obtain⟨a5,_,X⟩:=db;have a8:=(sN<|X.5 a fm).trans<|fL 0;go_simp;have⟨C,K,t⟩:=V cC;have fn:=O<|rM C K t X c6;clear C K t a5 X a8 f7 cb b1 bt cC b9;go_wp2;exact⟨⟨k+1,c6,dd,cd<|V eY,cm.symm,fn⟩,by have:=V eY;exact qD⟩};{obtain rfl:k=4:=G;have aq:ao (fv wr a (eZ (fu j) h o).1 y/\gb wr c a y (eZ (fu j) h o).2/\fz a al e wr y):=by{have dK:=V b9;rw[mS G]at dK;rw[ao,V B,<-dK];exact⟨C,K,aB.2.2.trans t⟩};have az:p<=E (eZ (fu j) h o).1/\E (eZ (fu j) h o).1<=p+60000:=by{rw[V B];show p<=E (h++bc.map λz=>UInt8.ofNat<|iZ z)/\E (h++bc.map λz=>UInt8.ofNat<|iZ z)<=p+60000;rw[dj,ff,bq,<-V a4];omega};have f9:¬(4:Int)<4:=G;clear C K t cC b9 B aB di aW bG dm;go_wp2;go_meet;·exact⟨y,aq,az⟩})})
 ·(
 obtain⟨a9,aq,az⟩:=hcut;generalize wc=aY at*;have ci:=O<|dI _ U;rw[<-V fb]at ci;generalize eZ (fu j) h o=fo at*;obtain⟨W,N_⟩:=fo;simp only at ci aq az;have⟨bs,cD⟩:=bm<|E W;rw[<-cD]at az;have:=az;have⟨t,eF⟩:=bm<|p-2;have⟨T,el⟩:=bm<|bs-p;rw[<-V a4,<-cD,<-eF,<-el]at ci;have bN:ai.wrap ((p:Int)-2)=(t:Int):=by rw[tv];omega
 have H:ai.wrap ((bs:Int)-p)=(T:Int):=fl
 have fT:b7 (D W)=bs:=by rw[cV,cD]
 have:=wS W t G;have gs:(D W).extract p bs=D (bi p W):=by rw[<-fT];exact zc W p U
 have cZ:=aq.1;have fp:=cZ.lt;have fi:ye a W aY (bx aY):=⟨cZ.cells.1,cc.drew⟩;have em:T<65536:=G;have fq:ao (∀S,ye a W aY S->a_ aL 57 #[M T] S λdD i=>dD=bh (aS [aO T,cL T])/\ye a W aY i):=λS r=>(nW T S em).mono λdD i k=>⟨k.1,r.call k.2⟩;have u1:b7 (D<|be t W)=t:=by rw[cV,iv];omega
 have:b7 (D [aO T,cL T])=2:=U;have u3:b7 (D<|bi p W)=T:=by rw[cV,il];omega
 have:D (be t W)++D [aO T,cL T]=D (be t W++[aO T,cL T]):=qF _ _;have⟨dL,bp⟩:=bm<|be t W++[aO T,cL T]++bi p W;rw[<-bp]at ci;have gv:D (be t W++[aO T,cL T])++D (bi p W)=D dL:=by rw[bp];exact pA
 have u4:b7 (D<|be t W++[aO T,cL T])=t+2:=by rw[cV,dj,<-cV,u1];rfl
 have:¬9223372036854775807<t+2:=G;have:¬9223372036854775807<t+2+T:=G;have:(t:Int)<=bs:=G;have eP:(p:Int)<=bs:=G;have:t<=bs:=G;have:p<=bs:=G;have fr:=cZ.frozen;clear cD eF el cZ em bp;go_wp2;refine B6 (S:=ye a W aY) 26 b6 b6 fi λwb=>?_;simp only[uQ,qW];generalize bx aY=cq at*;refine dZ 0 wb ?_;refine dZ 1 wb ?_;refine dZ 2 wb ?_;refine dZ 3 wb ?_;refine dZ 4 wb ?_;refine dZ 5 wb ?_;refine dZ 6 wb ?_;refine dZ 7 wb ?_;refine dZ 8 wb ?_;refine dZ 9 wb ?_;refine dZ 10 wb ?_;refine dZ 11 wb ?_;refine dZ 12 wb ?_;refine dZ 13 wb ?_;refine dZ 14 wb ?_;refine dZ 17 wb ?_;refine dZ 18 wb ?_;refine dZ 19 wb ?_;refine dZ 20 wb ?_;refine dZ 21 wb ?_;refine dZ 22 wb ?_;refine oI 15 (fq _ wb) λi wb=>?_;refine dZ 16 wb ?_;refine dZ 23 wb ?_;refine dZ 24 wb ?_;refine dZ 25 wb ?_;refine su b6 (B5 U U ?_) _;obtain⟨a5,X⟩:=wb;have a8:=(sN<|X.5 a fp).trans<|fr 0;go_simp;have fW:=O<|rM aq.1 aq.2.1 (d1.trans aq.2.2) X dL;clear a5 X a8;go_wp2;refine kh (v:=bZ #[]) (by simp[results,results117]) U ?_;rw[V ci];exact⟨U,_,fW⟩)
end Go.Proofs.YtkkpahmoljiepabGreatDoor
