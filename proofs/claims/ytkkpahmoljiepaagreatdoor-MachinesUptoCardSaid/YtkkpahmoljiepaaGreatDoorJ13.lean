import Derived.Test.YtkkpahmoljiepaaGreatDoorJ10
import Derived.Test.YtkkpahmoljiepaaGreatDoorJ12
set_option maxRecDepth 1000000
set_option maxHeartbeats 12800000
set_option linter.all false
open Array renaming size->U
open Bool renaming false->ao,true->aE
open Eq renaming symm->bZ,trans->c_
open Go renaming Calls->bd,Ending->nO,TypeId->d_,Value->bm,World->aQ,maxLen->hC,results->dr,undef->fv
open Go.Ending renaming returned->bg
open Go.IntKind renaming i64->am,u16->fs,u8->ck,wrap->DC
open Go.Obj renaming cells->aS,deferred->dq
open Go.Proofs.Tryz renaming prog->aK
open Go.RowKit renaming Hid->ax
open Go.RowKit.Below renaming alloc->ct,mono->bV,trans->bN
open Go.Value renaming agg->ci,bool->aG,iface->cV,int->ak,ownBlock->bW,pointer->cM,slice->aL,string->amz,tuple->bX
open Go.World renaming alloc->aO,alloc_heap_new->du,cell?->aD,drew->bq,drewN->ef,putObj->eF,putObj_heap_other->kW,setCell->a_
open Int renaming toNat->c7
open List renaming drop->bh,length->E,map->b9,take->amA,toArray->dl
open Option renaming none->ai,some->ag
namespace Go.Proofs.YtkkpahmoljiepaaGreatDoor
open Go.RowKit Go.Proofs.Tryz
variable{a o P:Nat}{b f m:World}{g n v L:ap}{e k F:Value}{i p x:Int}{j q:List D}{l:Bool}{r:List ap}{z:TypeId}{A:cw}{Z:Nat → Prop}{Q:List UInt8}
def iI(b:ap)(c:Nat):Nat->Int
 | 0=>0
 | a+1=>am.wrap<|iI b c a+am.wrap (((b.getD (c+a) 0).toNat:Int)*2 ^ (8*a))
def jX(b:ap)(c:Nat)(v:Int):Nat->ap
 | 0=>b
 | a+1=>(jX b c v a).set (c+a)<|UInt8.ofNat<|c7<|v/2 ^ (8*a)%256
def sW(b:ap)(c:Nat)(f:ap):Nat->ap
 | 0=>b
 | a+1=>(sW b c f a).set (c+a)<|f.getD a 0
def mx(c:aQ)(cb b:Nat)(a:Nat×Nat×Nat×Nat):Prop:=bk c cb [N b,J a.1,J a.2.1,J a.2.2.1,J a.2.2.2] 90
abbrev yF(a:Nat×Nat×Nat×Nat):Prop:=a.1<65536/\a.2.1<65536/\a.2.2.1<65536/\a.2.2.2<65536
def Nr(b:ap)(a:Nat×Nat×Nat×Nat)(f:ap)(c:Nat)(e:Nat)(d:Int):ap×(Nat×Nat×Nat×Nat)×Bool :=
 (jX (jX (jX (sW b (e+12) f<|E f) (260+8*(a.2.1%8)) c 4) (264+8*(a.2.1%8)) d 4) 258 ((a.2.1+1)%65536:Nat) 2,((a.1+1)%65536,(a.2.1+1)%65536,a.2.2),aE)
def AL(c:ap)(b:Nat×Nat×Nat×Nat)(f:ap)(d:Nat)(a e:Int):ap×(Nat×Nat×Nat×Nat)×Bool :=
 if 0<=a/\a<=24064 then Nr c b f d (c7 a) e else(c,((b.1+1)%65536,b.2),ao)
def uQ(a:ap)(b:Nat×Nat×Nat×Nat)(f:ap)(c:Int):ap×(Nat×Nat×Nat×Nat)×Bool :=
 if iI a 130 2≠b.1/\E f<=1524/\iI a (132+2*(b.1%8)) 2<=7 then
  AL a b f (c7<|iI a (132+2*(b.1%8)) 2) (iI a (16*c7 (iI a (132+2*(b.1%8)) 2)) 8) (am.wrap<|12+E f+c)
 else(a,b,ao)
def Wu(a b):0<=iI a b 2/\iI a b 2<65536:=by have:=gY<|a.getD (b+0) 0;have:=gY<|a.getD (b+1) 0;simp only[iI];generalize (a.getD (b+0) 0).toNat=x,(a.getD (b+1) 0).toNat=c at *;simp only[wL];omega
def Wv(c:o7 b a o e k F A)(B:oM f o g)(r:eL o b f):o7 f a o e k F { A with b:=g }/\cI bH a b f:=by have h:=@tP _ _ _ _ _ _ _ c;obtain⟨n,i,y,p,C⟩:=c;have D:=jj n i.2 bL;have u:=r.5 a (sF n) D;exact⟨⟨pW n u,B,mN y λw l=>r.5 w (pX y l) λj=>lk i.2 y bL<|by grind,mN p λw l=>r.5 w (pX p l) λj=>lk i.2 p bL<|by grind,AR C λx G _ c=>r.5 x c.lt<|jj c i.2 bL⟩, ⟨r.1,r.2,r.3,r.4,λx aN _ z=>r.5 x aN λj=>z<|h.2<|.inr<|.inl j,λx d=>.inl<|oB u d⟩⟩
def AM(b size:Nat){S}(d)(g:dg d a S)(H:size<=8)(F:b+size<=25600):bd aK 93 #[N a,J b,J size] d λq w=>q=bg (J<|iI S.1 b size)/\w=d:=by
 obtain⟨n,I,K,L,g⟩:=g;have:=rH g.1;have l:=ae g.2.1;have:=g.2.1.1;go_wp2;go_loopw [7,8] (λu i wr=>∃k:Nat,u=J (iI S.1 b k)/\i=J k/\k<=size/\wr=d) λ_ i _=>size-c7 (intOf i);·exact⟨0,af,af,eb _,af⟩
 ·(
 obtain⟨k,rfl,rfl,C,t⟩:=hrel;obtain rfl:d=wr:=bZ t;by_cases D:k<size;{
 have⟨c,iE⟩:=bi<|b+k;have⟨h,sM⟩:=bi<|8*k;have r:c<E S.1:=G;have⟨e,hb⟩:=bi<|(S.1.getD c 0).toNat;have:e<256:=hb▸gY _
 have B:co d n c (ak ck e):=by{have:=l.2.cell c (by grind);grind};have j:iI S.1 b (k+1)=am.wrap (iI S.1 b k+am.wrap ((e:Int)*2 ^ h)):=by{rw[iI,sM,hb,<- iE]};have⟨z,hz⟩:=bi<|iI S.1 b<|k+1;have o:=ae hz;rw[j]at hz;generalize iI S.1 b k=M at *;have x:am.wrap ((b:Int)+k)=(c:Int):=fT
 have A:am.wrap (8*(k:Int))=(h:Int):=fT
 have:=jW (e:Int)
 have⟨y,hy⟩:=bi<|am.wrap<|(e:Int)*2 ^ h;rw[<- hy]at hz
 have:=bZ hy;have:=bZ hz;have:c<25600:=G;have:h<64:=G;clear iE sM hb j hz r hy;go_wp2;exact⟨⟨k+1,by rw[V o],dH,G,aA⟩,ee⟩};{have p:k=size:=G;subst p;go_wp2;go_ret;simp})
def wl(h d size:Nat)(v c)(n:dg b h c)(M:size<=8)(L:d+size<=25600):bd aK 46 #[N h,J d,J size,J v] b λy u=>y=bg (bX #[])/\dg u h { c with b:=jX c.1 d v size }/\cI bH h b u:=by
 replace n:=ae n;go_wp2;go_loopw [8] (λp wr=>∃a:Nat,p=J a/\a<=size/\dg wr h { c with b:=jX c.1 d v a }/\cI bH h b wr) λp _=>size-c7 (intOf p);·exact⟨0,af,eb _,n,tl _ _ _⟩
 ·(
 obtain⟨a,rfl,I,g,o⟩:=hrel;by_cases K:a<size;{
 obtain⟨k,A,B,C,g⟩:=g;have⟨e,iE⟩:=bi<|d+a;have⟨q,sM⟩:=bi<|8*a;have⟨x,hx⟩:=bi<|v/2 ^ q;have⟨cb,hcb⟩:=bi<|UInt8.ofNat<|c7<|x%256;have D:am.wrap ((d:Int)+a)=(e:Int):=fT
 have F:am.wrap (8*(a:Int))=(q:Int):=fT
 have H:ck.wrap (v/2 ^ min q 64)=(cb.toNat:Int):=by{rw[uI G,<- hx,hcb,xT,rJ];omega};have:=rH g.1;have j:=g.2.1;have z:e<E (jX c.1 d v a):=by rw[j.1];omega
 obtain⟨t,O⟩:∃t,aD wr ⟨k,e,ai⟩=ag t:=⟨_,j.2.cell e<|by grind⟩;have:=j.2.frozen;have r:oM (a_ (bq wr) ⟨k,e,ai⟩<|ak ck cb.toNat) k (jX c.1 d v<|a+1):=by{have:=EW j e cb;rw[show(jX c.1 d v a).set e cb=jX c.1 d v (a+1) by rw[jX,iE,hcb,hx,sM]]at this;exact this};have⟨q1,q2⟩:=Wv g r<|kI (eL.CD cd.drew) _ _;have i:=ae<|cv (⟨k,A,B,C,q1⟩:dg _ h { c with b:=jX c.1 d v (a+1) }) (dC o q2);have:e<25600:=G;clear g o j iE sM hx hcb z r q1 q2;go_wp2;go_region;all_goals(go_wp2;exact⟨⟨a+1,dH,G,i.1,i.2⟩,ee⟩)};{have w:a=size:=G;subst w;have i:=ae<|cv g o;go_wp2;exact lG (v:=bX #[]) (by simp[dr,results46]) af ⟨af,i.1,i.2⟩})
def AN(h d:Nat)(f:ap)(e:Int)(a:cw)(c:Nat×Nat×Nat×Nat)(k:aQ)(i:nO)(g:aQ):Prop :=
 i=bg (aG (uQ a.1 c f e).2.2)/\dg g d { a with b:=(uQ a.1 c f e).1 }/\mx g h d (uQ a.1 c f e).2.1/\cI (λj=>j=h) d k g
structure gS(w0 w:World)(cb mb:Nat)(S:cw)(c:Nat×Nat×Nat×Nat):Prop where
 m:dg w mb S
 c:mx w cb mb c
 f:cI (λi=>i=cb) mb w0 w
section
variable {w0 w w':World} {cb mb:Nat} {S T:cw} {c c':Nat×Nat×Nat×Nat} (h:gS w0 w cb mb S c)
include h
theorem gS.go(b:dg w' mb T)(a:cI bH mb w w'):gS w0 w' cb mb T c:=⟨b,ix a h.1 h.2 bL id,dC h.3<|jk a λ_ h=>h.elim⟩
theorem gS.set{o:Nat}(a:mx (a_ w ⟨cb,o,ai⟩ e) cb mb c'):gS w0 (a_ w ⟨cb,o,ai⟩ e) cb mb S c' :=
 ⟨yK h.1 h.2 bL λc _ b=>dJ _ _ _ _ b,a,dC h.3<|wy (kI (mT _ _) o e) af (yL h.1 h.2 bL)<|jv h.1⟩
theorem gS.drew:gS w0 (bq w) cb mb S c:=⟨h.1,h.2,dC h.3 l7⟩
theorem gS.c0:aD w (M cb 0)=ag (N mb):=bk.cell h.2 0 aA
end
def FJ{P:Prop}(h:P:=by go_wp2;go_ret;exact bI):P:=h
def Ns(c e:Nat)(f:ap)(P:Int)(d:cw){p q:Nat}(r:dg b e d)(C:mx b c e (a,o,p,q))(b0:a<65536)(b3:o<65536)(bK:E f<=2000000):bd aK 49 #[N c,aZ f,J P] b λB A=>AN c e f P d (a,o,p,q) b B A:=by
 have cS:aD b (M c 0)=ag (N e):=bk.cell C 0 aA;have bB:aD b (M c 1)=ag (J a):=bk.cell C 1 aA;have L:=ae (show gS b b c e d (a,o,p,q)from⟨r,C,tl _ _ _⟩);have⟨D,hD⟩:=dK<|uQ d.1 (a,o,p,q) f P
 have w:ax (∀j az ay c',D=(ay,c',az)->gS b j c e { d with b:=ay } c'->AN c e f P d (a,o,p,q) b (bg<|aG az) j):=λj az ay c' B t=>by
  unfold AN;rw[hD,B];exact⟨af,t.1,t.2,t.3⟩
 have⟨X,hg1⟩:=dK<|iI d.1 130 2
 have T:ax (bd aK 93 #[N e,J 130,J 2] b λB A=>B=bg (J X)/\A=b):=by
  rw[<- hg1];exact AM 130 2 b r G G
 have⟨u,tO⟩:=bi<|a%8
 have⟨ab,df⟩:=bi<|2*u
 have⟨fz,Ar⟩:=bi<|132+ab
 have i1:(a:Int)%8=u:=G;have bw:(a:Int).tmod 8=(u:Int):=FM
 have:=jW (u:Int)
 have b6:am.wrap (2*(u:Int))=(ab:Int):=fT
 have b8:am.wrap (132+(ab:Int))=(fz:Int):=fT
 have:2*(u:Int)=ab:=G;have:132+(ab:Int)=fz:=G;obtain⟨l,aP⟩:∃l:Nat,iI d.1 fz 2=(l:Int):=⟨_,bZ<|GG (Wu _ _).1⟩
 have W:ax (∀k,bd aK 93 #[N e,J fz,J 2] (ef b k) λB A=>B=bg (J l)/\A=ef b k):=λk=>by
  rw[<- aP];exact AM fz 2 (ef b k) r G G
 have⟨ad,had⟩:=dK<|iI d.1 (16*l) 8
 have⟨nn,jQ⟩:=dK<|am.wrap<|12+(E f:Int)+P
 have F:ax (D=if X≠a/\E f<=1524/\(l:Int)<=7 then AL d.1 (a,o,p,q) f l ad nn else(d.1,(a,o,p,q),ao)):=by
  rw[ax,<- hD,uQ];simp only[show 132+2*(a%8)=fz by omega,aP,hg1,vi,had,jQ]
 have S:ax (∀k,gS b (ef b k) c e d (a,o,p,q)):=λk=>⟨r,C,⟨af,af,af,cW _,λ_ _ _ _=>af,λ_ bP=>.inl bP⟩⟩
 have R:ax (∀j K,gS b j c e d K->l<=7->bd aK 93 #[N e,J (16*l:Nat),J 8] j λB A=>B=bg (J ad)/\A=j):=λj K aF aN=>by
  rw[<- had];exact AM (16*l) 8 j aF.1 G G
 have⟨k,hn⟩:=bi<|E f;have b2:(O f).size=k:=by rw[hn];exact de f
 rw[<- hn]at F bK jQ;have a0:=ae hn;have bS:=ae jQ;have:(k:Int)<=2000000:=G;clear r C hD tO df Ar aP had hn jQ hg1;go_in;go_wp2_with fail;refine T.m ?_;rintro b rfl;by_cases x:X=(a:Int)
 ·have g:=V F;rw[bJ λr=>r.1 x]at g;have bI:=ae<|w _ _ _ _ g L;subst x;clear g F w S R T W L;exact FJ
 have bM:(X==(a:Int))=ao:=by rw[kE];exact x
 by_cases al:k<=1524
 case neg =>
  have g:=V F;rw[bJ λr=>al r.2.1]at g;have bI:=ae<|w _ _ _ _ g L;have an:1536<(k:Int)+12:=G;clear g F w S R T W L al;exact FJ
 have an:¬1536<(k:Int)+12:=G;have aV:=gD an;go_wp2;go_quiet (first|(go_at_call 93;exact Calls.quiet_of_same<|W _));have t:=V S nq;generalize ef b nq=bn at *;by_cases aH:l<=7
 case neg =>
  have g:=V F;rw[bJ λr=>aH G]at g;have bI:=ae<|w _ _ _ _ g t;have bL:7<(l:Int):=G;clear g F w S R T W L aH t x;exact FJ
 have bL:¬7<(l:Int):=G;have⟨H,ha1⟩:=bi<|(a+1)%65536;have bc:((a:Int)+1)%65536=H:=G;have bA:((a:Int)+1).tmod 65536=(H:Int):=by rw[qQ G];exact bc
 have aj:=gS.set t (c':=(H,o,p,q)) (bk.set t.2 1<|J H);have⟨z,hq⟩:=bi<|16*l;have:16*(l:Int)=z:=G;have av:=ae<|R _ _ aj aH;rw[<- hq]at av;have Y:=ae aj;have bC:=gS.c0 t;have bD:aD bn (M c 1)=ag (J a):=bk.cell t.2 1 aA;have bE:=gS.c0 aj;have bH:=bk.frozen t.2;have g:=V F;rw[b7 ⟨x,al,G⟩]at g;have ah:=ae g;have bp:=ae ha1;have bR:z<=200:=G;clear S T W R t aj cS bB g F hq ha1 x al bM L;go_wp2_with fail;refine av.m ?_;rintro bT rfl;generalize a_ bn ⟨c,1,ai⟩ (ak am H)=bT at *;clear av bC bD bH bc bA;by_cases Z:0<=ad/\ad<=24064
 case neg =>
  have g:=V ah;unfold AL at g;rw[bJ Z]at g;have bI:=ae<|w _ _ _ _ g (by rw[<- V bp];exact Y);have bO:ad<0\/(¬ad<0/\24064<ad):=G;clear g ah w Y Z;rcases bO with ba|⟨ba,b5⟩
  ·exact FJ
  ·have:=gD ba;exact FJ
 obtain⟨n,bG⟩:∃n:Nat,ad=(n:Int):=⟨_,bZ<|GG Z.1⟩
 subst bG;have:n<=24064:=G;have g:=V ah;unfold AL at g;rw[b7 Z,vi]at g;unfold Nr at g;have aw:¬(n:Int)<0:=G;have aW:=gD aw;have aX:¬24064<(n:Int):=G;have aM:=ae g;clear ah g Z;go_wp2
 go_loopw [10] (λaJ wr=>∃h:Nat,aJ=J h/\h<=k/\gS b wr c e { d with b:=sW d.1 (n+12) f h } (H,o,p,q)) λaJ _=>k-c7 (intOf aJ)
 ·exact⟨0,af,eb _,Y⟩
 ·obtain⟨h,rfl,a4,y⟩:=hrel;by_cases aI:h<k
  ·have a3:h<E f:=cj<|V a0
   have⟨K,C⟩:=dK<|f[h]
   have X:∀r:h<(O f).size,(O f)[h]=K:=λr=>C;have⟨pA,Vp⟩:=bi<|n+12
   have⟨I,iE⟩:=bi<|pA+h
   have b_:am.wrap ((n:Int)+12)=(pA:Int):=fT
   have ca:am.wrap ((pA:Int)+h)=(I:Int):=fT
   have⟨bb,vl,vm,vp,hv⟩:=y.1;have aa:oM wr bb (sW d.1 (n+12) f h):=hv.2.1;have aY:=rH hv.1;have aU:=gS.c0 y;have a9:I<E (sW d.1 (n+12) f h):=by rw[aa.1];omega
   obtain⟨bf,b4⟩:∃bf,aD wr ⟨bb,I,ai⟩=ag bf:=⟨_,aa.2.cell I<|by simpa using a9⟩
   have:=aa.2.frozen;have a2:oM (a_ (bq wr) ⟨bb,I,ai⟩<|ak ck K.toNat) bb (sW d.1 (n+12) f<|h+1):=by
    have:=EW aa I K;rw[show(sW d.1 (n+12) f h).set I K=sW d.1 (n+12) f (h+1) by rw[sW,iE,Vp,jw,gw a3,C];rfl]at this;exact this
   have⟨q1,q2⟩:=Wv hv a2<|kI (eL.CD cd.drew) _ _;have bF:=ae<|gS.go y (⟨bb,vl,vm,vp,q1⟩:dg _ e { d with b:=sW d.1 (n+12) f (h+1) }) q2;have:I<25600:=G;have bu:(h:Int)<k:=G;have be:=ae aI;clear y hv aa iE Vp C a9 a2 q1 q2 a3 aw aW aX an aV a4 aI Y aM w;go_wp2
   go_region
   all_goals
    go_wp2;exact⟨⟨h+1,dH,cj<|V be,bF⟩,by have:=V be;exact t8⟩
  ·obtain rfl:h=k:=G;have⟨b1,x⟩:=bi<|sW d.1 (n+12) f h;rw[<- x]at y;have⟨u,tO⟩:=bi<|o%8
   have⟨aq,vI⟩:=bi<|8*u
   have⟨z,hq⟩:=bi<|260+aq
   have⟨q4,Dx⟩:=bi<|z+4
   have i1:(o:Int)%8=u:=G;have bw:(o:Int).tmod 8=(u:Int):=FM
   have:8*(u:Int)=aq:=G;have:260+(aq:Int)=z:=G;have:(z:Int)+4=q4:=G;have:u<8:=G;have:aq<64:=G;have bR:q4<=400:=G;have⟨u1,hu1⟩:=bi<|(o+1)%65536;have bQ:((o:Int)+1)%65536=u1:=G;have bY:((o:Int)+1).tmod 65536=(u1:Int):=by rw[qQ G];exact bQ
   have:u1<65536:=G;have bI:ax (∀j,gS b j c e { d with b:=jX (jX (jX b1 z l 4) q4 nn 4) 258 u1 2 } (H,u1,p,q)->AN c e f P d (a,o,p,q) b (bg<|aG aE) j):=λj aF=>by
    refine V w j _ _ _ (V aM) ?_;rw[<- V bp,<- hu1,show 260+8*(o%8)=z by omega,show 264+8*(o%8)=q4 by omega,<- V a0,<- x];exact aF
   have aR:ax (bd aK 46 #[N e,J z,J 4,J l] wr _):=wl e z 4 l _ y.1 G G;have aU:=gS.c0 y;have bx:aD wr (M c 2)=ag (J o):=bk.cell y.2 2 aA;have a1:=ae y;have bu:¬(h:Int)<h:=G;clear y x a4 aI aw aW aX an aV Y bE tO vI hq Dx hu1 aM w;go_wp2_with fail;refine aR.m ?_;rintro bU ⟨aC,a5⟩;have aB:=gS.go (V a1) aC a5;have bz:=V bS;have aT:ax (bd aK 46 #[N e,J q4,J 4,J nn] bU _):=wl e q4 4 nn _ aC G G;have aY:=gS.c0 aB;have bj:=ae aB;clear aB aC a5 a1 aR aU bx;go_wp2_with fail;refine aT.m ?_;rintro au ⟨a8,a6⟩;have Q:=gS.go (V bj) a8 a6;have:=gS.c0 Q;have:aD au (M c 2)=ag (J o):=bk.cell Q.2 2 aA;have:=bk.frozen Q.2;have ac:=gS.set Q (c':=(H,u1,p,q)) (bk.set Q.2 2<|J u1);have bv:ax (bd aK 46 #[N e,J 258,J 2,J u1] (bq<|a_ au ⟨c,2,ai⟩<|ak am u1) _):=wl e 258 2 u1 _ (gS.drew ac).1 G G;have:aD (bq<|a_ au ⟨c,2,ai⟩<|ak am u1) (M c 0)=ag (N e)/\aD (bq<|a_ au ⟨c,2,ai⟩<|ak am u1) (M c 2)=ag (J u1):=⟨gS.c0<|gS.drew ac,bk.cell (gS.drew ac).2 2 aA⟩
   have br:=ae<|gS.drew ac;clear a8 a6 Q bj aT aY ac bz;go_wp2
   go_region_held (λA=>aD A (M c 0)=ag (N e)/\aD A (M c 2)=ag (J u1)) (first|assumption|go_keep)
    (first|(go_at_call 46;go_loud (refine bv.m ?_;rintro bo ⟨bl,a7⟩;have ar:=gS.go (V br) bl a7;have bt:aD bo (M c 0)=ag (N e)/\aD bo (M c 2)=ag (J u1):=⟨gS.c0 ar,bk.cell ar.2 2 aA⟩)))
   all_goals
    have bs:=ae<|bI _ ar;clear ar bl a7 bt;go_wp2;go_ret;exact bs
def C_(h:ap->Nat×Nat×Nat×Nat->List ap->ap×(Nat×Nat×Nat×Nat)×List ap)(d:ap)(a:Nat×Nat×Nat×Nat)(e:List ap)(g:Nat)(c b:Int):ap×(Nat×Nat×Nat×Nat)×List ap :=
 if 0<=c/\12<=b/\b<=1536/\c<=25600-b then
  h (jX (jX (jX d (772+8*(a.2.2.2%8)) g 4) (776+8*(a.2.2.2%8)) 0 4) 770 ((a.2.2.2+1)%65536:Nat) 2) (a.1,a.2.1,(a.2.2.1+1)%65536,(a.2.2.2+1)%65536) (e++[amA (c7 b-12)<|bh (c7 c+12) d])
 else(d,(a.1,a.2.1,(a.2.2.1+1)%65536,a.2.2.2),e)
def rl:Nat->ap->Nat×Nat×Nat×Nat->List ap->ap×(Nat×Nat×Nat×Nat)×List ap
 | 0,a,b,c=>(a,b,c)
 | d+1,a,b,c =>
  if iI a 642 2≠b.2.2.1/\iI a (644+2*(b.2.2.1%8)) 2<=7 then
   C_ (rl d) a b c (c7<|iI a (644+2*(b.2.2.1%8)) 2) (iI a (512+16*c7 (iI a (644+2*(b.2.2.1%8)) 2)) 8) (iI a (512+16*c7 (iI a (644+2*(b.2.2.1%8)) 2)+8) 4)
  else(a,b,c)
def sX(c:aQ)(b:Nat)(v:bm)(a:List ap):Prop:=c.ownsRow b 9 1 v (E a)<|a.map λs=>amz<|O s
def Nh(e d:Nat)(h:cw)(c:ap×(Nat×Nat×Nat×Nat)×List ap)(g:aQ)(i:nO)(a:aQ):Prop :=
 ∃v,i=bg v/\sX a (U g.1) v c.2.2/\dg a d { h with b:=c.1 }/\mx a e d c.2.1/\cI (λj=>j=e) d g a
def Ni{p n cp:Nat}(c:oM b a g)(i:p+n<=25600):(convert 58 9<|aL (ag ⟨a,p,ai⟩) n cp).run aK b=.ok (amz<|O<|amA n<|bh p g) b:=by
 have hl:E (amA n<|bh p g)=n:=by rw[jF,js,c.1];omega
 have:=Gm (P:=aK) b 58 9 5 ⟨a,p,ai⟩ cp (amA n<|bh p g) underlying58 underlying5 underlying9 λd h=>by{
 have e:(⟨a,p,ai⟩:Addr).add d=⟨a,p+d,ai⟩:=by unfold Addr.add;by_cases c:d=0<;>simp[c]
 have hl:p+d<E g:=by rw[c.1];omega
 rw[e,c.2.cell (p+d) Ii,rS,List.getElem_take,BT]};rw[hl]at this;exact this
def Nj(i:sX b a e r)(p:dg b o A)(l:cI Z o b f)(n:∀k,bW e=ag k->¬Z k):sX f a e r :=
 mN i λk c=>l.5 k (pX i c) (n k c) λt=>by
  obtain⟨_,u,v⟩:=sG i c;obtain⟨_,w,q,h⟩:=xL p t;have:=(bZ v).trans q;simp at this;obtain⟨_,rfl⟩:=this;rcases h with i|i|i|i|i<;>exact absurd i bL
def age{n:Nat×Nat×Nat×Nat}{x:Obj}(v:gS b f a o A n)(i:sX f (U b.1) e r)(c:(aO f x).grownBy m<|bW e)(q:o<U b.1):gS b m a o A n:=by
 have h:=λw aN u=>(c.5 w cx u).trans<|dT _ _ _ aN;have j:∀w,w<U b.1->ag w≠bW e:=λw aN g=>cj<|(sG i<|bZ g).1
 refine⟨CH v.1 λw l=>h w (sC v.1 l) λg=>?_,(h a (bk.lt v.2)<|lk v.2 i bL).trans v.2,AZ v.3 q c.1 c.2 c.3 (cU aA c.4) λw aN=>h w (e8 aN v.3.4)<|j w aN⟩;have⟨_,cur,hc⟩:=sG i<|bZ g;have⟨_,t,k1,k2⟩:=xL v.1 l;have:=(bZ hc).trans k1;simp at this;obtain⟨_,rfl⟩:=this;rcases k2 with v|v|v|v|v<;>exact absurd v bL
def Zz{P:Prop}(h:P:=by go_wp2;go_ret;exact V bI):P:=h
def Zy{P:Prop}(h:P:=by exact Zz):P:=h
def zt{P:Prop}(h:P:=by exact Zy):P:=h
theorem Nl(c d:Nat)(n:Int)(S:cw){M:Nat×Nat×Nat×Nat}(t:dg b d S)(bG:mx b c d M)(bA:yF M):bd aK 48 #[cM<|ag ⟨c,0,ai⟩,ak am n] b λk y=>Nh c d S (rl (c7<|min n 8) S.1 M []) b k y:=by
 have⟨i0,oI,hz0,hz1,hz2⟩:=jN zF;have cK:=jv t;have b2:=ae (show gS b b c d S M from⟨t,bG,tl _ _ _⟩);have⟨N,hN⟩:=bi<|c7<|min n 8;rw[<- hN];have⟨R,w⟩:=dK<|rl N S.1 M []
 rw[w];have:N<=8:=G;have bz:=ae w;have bD:=ae hN;have bC:=ae bA;clear t bG hN w bA;go_wp2
 go_loopw [5,6] (λv a8 wr=>∃(l:Nat) (i:ap) (j:Nat×Nat×Nat×Nat) (q:List ap) (aq:bm),aq=v/\a8=ak am l/\l<=N/\E q=l/\yF j/\sX wr (U b.1) v q/\rl (N-l) i j q=R/\gS b wr c d { S with b:=i } j) λ_ a8 _=>N-c7 (intOf a8)
 ·exact⟨0,S.1,M,[],_,af,af,eb _,af,V bC,⟨af,.inl ⟨af,af⟩⟩,V bz,V b2⟩
 ·clear b2 bz bC;obtain⟨l,i,⟨W,Y,s,j⟩,q,v,rfl,rfl,bK,aX,⟨cF,cG,c1,c2⟩,ah,w,A⟩:=hrel;have F:ax (∀r aU aW bc,(aU,aW,bc)=R->sX r (U b.1) v bc->gS b r c d { S with b:=aU } aW->Nh c d S R b (bg v) r):=λr aU aW bc k z D=>by
   subst k;exact⟨v,af,z,D.1,D.2,D.3⟩
  by_cases cC:l<N
  case neg =>
   obtain rfl:l=N:=G;rw[sm]at w;have bI:=ae<|V F _ _ _ _ w ah A;have ba:¬(l:Int)<n\/((l:Int)<n/\¬(l:Int)<8):=cj<|V bD
   clear w ah A F cC bK;rcases ba with a9|⟨a9,bR⟩
   ·have:=gD a9;exact zt
   ·have:=gD bR;exact zt
  have a9:(l:Int)<n:=cj<|V bD
  have bR:(l:Int)<8:=G;rw[show N-l=(N-(l+1))+1 by omega]at w;have⟨g1,hg1⟩:=dK<|iI i 642 2
  have au:ax (bd aK 93 #[cM<|ag ⟨d,0,ai⟩,ak am 642,ak am 2] wr λk y=>k=bg (ak am g1)/\y=wr):=by
   rw[<- hg1];exact AM (S:={ S with b:=i }) 642 2 wr A.1 G G
  have⟨x,tO⟩:=bi<|s%8
  have⟨al,df⟩:=bi<|2*x
  have⟨fz,Ar⟩:=bi<|644+al
  have i1:(s:Int)%8=x:=G;have b8:(s:Int).tmod 8=(x:Int):=FM
  have cQ:=jW (x:Int)
  have cX:am.wrap (2*(x:Int))=(al:Int):=fT
  have cY:am.wrap (644+(al:Int))=(fz:Int):=fT
  have cR:2*(x:Int)=al:=G;have cU:644+(al:Int)=fz:=G;obtain⟨e,bf⟩:∃e:Nat,iI i fz 2=(e:Int):=⟨_,bZ<|GG (Wu _ _).1⟩
  have av:ax (∀g,bd aK 93 #[cM<|ag ⟨d,0,ai⟩,ak am fz,ak am 2] (ef wr g) λk y=>k=bg (ak am e)/\y=ef wr g):=λg=>by
   rw[<- bf];exact AM (S:={ S with b:=i }) fz 2 (ef wr g) A.1 G G
  have⟨ad,had⟩:=dK<|iI i (512+16*e) 8
  have⟨sz,hsz⟩:=dK<|iI i (512+16*e+8) 4
  have X:ax ((if g1≠s/\(e:Int)<=7 then C_ (rl<|N-(l+1)) i (W,Y,s,j) q e ad sz else(i,(W,Y,s,j),q))=R):=by
   rw[rl]at w;simp only[show 644+2*(s%8)=fz by omega,bf,hg1,vi,had,hsz]at w;exact w
  have aw:ax (∀g,gS b (ef wr g) c d { S with b:=i } (W,Y,s,j)/\sX (ef wr g) (U b.1) v q):=λg=>⟨⟨A.1,A.2,dC A.3 ⟨af,af,af,cW _,λ_ _ _ _=>af,λ_ q=>.inl q⟩⟩,ah⟩
  have cS:=gS.c0 A;have iZ:aD wr ⟨c,3,ai⟩=ag (ak am s):=bk.cell A.2 3 aA;have aa:=ae<|cv ah A;have ay:ax (∀r c',gS b r c d { S with b:=i } c'->e<=7->bd aK 93 #[cM<|ag ⟨d,0,ai⟩,ak am (512+16*e:Nat),ak am 8] r (λk y=>k=bg (ak am ad)/\y=r)/\bd aK 93 #[cM<|ag ⟨d,0,ai⟩,ak am (512+16*e+8:Nat),ak am 4] r λk y=>k=bg (ak am sz)/\y=r):=λr c' bE aN=>by
   rw[<- had,<- hsz];exact⟨AM (S:={ S with b:=i }) (512+16*e) 8 r bE.1 G G,AM (S:={ S with b:=i }) (512+16*e+8) 4 r bE.1 G G⟩
  clear w hg1 tO df Ar bf had hsz A ah bK;go_wp2_with (fail);refine(V au).m ?_;rintro wr rfl;by_cases Q:g1=(s:Int)
  ·have a:=V X;rw[bJ λt=>t.1 Q]at a;have bI:=ae<|V F _ _ _ _ a (V aa).1 (V aa).2;subst Q;clear a X F aw ay au av aa;exact zt
  have cI:(g1==(s:Int))=ao:=by rw[kE];exact Q
  go_wp2;go_quiet (first|(go_at_call 93;exact Calls.quiet_of_same<|V av _));have⟨z,VP⟩:=V aw nq;generalize ef wr nq=bl at *;by_cases a0:e<=7
  case neg =>
   have a:=V X;rw[bJ λt=>a0 G]at a;have bI:=ae<|V F _ _ _ _ a VP z;have cH:7<(e:Int):=G;clear a X F aw ay au av aa a0 z VP Q;exact zt
  have cH:¬7<(e:Int):=G;have⟨C,hs1⟩:=bi<|(s+1)%65536;have bS:((s:Int)+1)%65536=(C:Int):=G;have co:((s:Int)+1).tmod 65536=(C:Int):=by rw[qQ G];exact bS
  have D:=gS.set z (c':=(W,Y,C,j)) (bk.set z.2 3<|ak am C);have L:sX (a_ bl ⟨c,3,ai⟩<|ak am C) (U b.1) v q:=mN VP λcz a1=>dJ _ _ _ _ λk=>lk z.2 VP bL (by rw[a1,k]);obtain⟨g,a6⟩:=bi<|16*e;obtain⟨an,b5⟩:=bi<|512+g;obtain⟨bj,b6⟩:=bi<|an+8;have cJ:(16:Int)*(e:Int)=(g:Int):=G;have cb:(512:Int)+(g:Int)=(an:Int):=G;have cc:(an:Int)+8=(bj:Int):=G;have aB:=V ay _ _ D a0;rw[show 512+16*e+8=bj by omega,show 512+16*e=an by omega]at aB;have bo:=ae aB.1;have bp:=ae aB.2;have ab:=ae<|cv L D;have cr:=gS.c0 z;have cu:aD bl ⟨c,3,ai⟩=ag (ak am s):=bk.cell z.2 3 aA;have cs:=gS.c0 D;have cm:=bk.frozen z.2;have a:=V X;rw[b7 ⟨Q,G⟩]at a;have aV:=ae a;have aY:=ae hs1;have:bj<=700:=G;have:an<=700:=G;have:g<=200:=G;clear aw au av ay z D VP L aB cS iZ a X a6 b5 b6 hs1 Q cI aa;go_wp2_with (fail);refine(V bo).mono ?_;rintro k I ⟨rfl,rfl⟩;generalize a_ bl ⟨c,3,ai⟩ (ak am C)=I at *;clear bo cr cu cm bS co;go_wp2_with (fail);refine(V bp).mono ?_;rintro k I ⟨rfl,rfl⟩;clear bp cJ cb cc;have a:=V aV;unfold C_ at a;by_cases aj:0<=ad/\12<=sz/\sz<=1536/\ad<=25600-sz
  case neg =>
   rw[bJ aj]at a;simp only at a;rw[<- V aY]at a;have bI:=ae<|V F _ _ _ _ a (V ab).1 (V ab).2;have ba:ad<0\/(¬ad<0/\sz<12)\/(¬ad<0/\¬sz<12/\1536<sz)\/(¬ad<0/\¬sz<12/\¬1536<sz/\25600-sz<ad):=G;clear a aV F ab aj;rcases ba with H|⟨H,T⟩|⟨H,T,aF⟩|⟨H,T,aF,bU⟩
   ·exact zt
   ·have aR:=gD H;exact zt
   ·have aR:=gD H;have bT:=gD T;exact zt
   ·have aR:=gD H;have bT:=gD T;have cd:=gD aF;exact zt
  rw[b7 aj]at a;obtain⟨p,cD⟩:∃p:Nat,ad=(p:Int):=⟨_,bZ<|GG aj.1⟩
  obtain⟨B,a4⟩:∃B:Nat,sz=((B+12:Nat):Int):=⟨c7<|sz-12,G⟩
  subst cD;rw[a4,vi,vi,GR]at a;have bF:p+(B+12)<=25600/\B<=1524:=G;have⟨K,BB⟩:=bi<|B+12
  rw[<- BB]at a4;subst a4;have⟨P,cT⟩:=bi<|amA B<|bh (p+12) i;rw[<- cT]at a;simp only at a;rw[<- V aY]at a;have H:¬(p:Int)<0:=G;have T:¬(K:Int)<12:=G;have aF:¬1536<(K:Int):=G;have bU:¬25600-(K:Int)<p:=G;have aR:=gD H;have bT:=gD T;have cd:=gD aF;have:=gD bU;have bO:=ae a;clear aV a aj;have⟨L,kJ⟩:=V ab;have⟨bb,vl,vm,vp,hv⟩:=kJ.1;have cL:=rH hv.1;have a7:=hv.2.1;have⟨cO,hlo⟩:=bi<|p+12;have⟨aN,as8⟩:=bi<|p+K;have ce:(p:Int)+12=cO:=G;have cf:(p:Int)+K=aN:=G;have cg:cO<=aN:=G;have ch:aN<=25600:=G;have cn:=ae (show cO=p+12/\aN=p+K/\K=B+12/\p+(B+12)<=25600/\B<=1524 from⟨hlo,as8,BB,bF⟩);have bQ:ax ((convert 58 9<|aL (ag ⟨bb,cO,ai⟩) (aN-cO)<|25600-cO).run aK I=.ok (amz<|O P) I):=by
   rw[ax,cT,<- hlo,show aN-cO=B by omega];exact Ni a7 G
  have bP:ax (25600=cO->(convert 58 9<|aL (ag ⟨bb,0,ai⟩) (aN-cO) 0).run aK I=.ok (amz<|O P) I):=λk=>by
   have cB:B=0:=G;have:=Ni (p:=0) (n:=aN-cO) (cp:=0) a7 G;rw[this,cT,cB,show aN-cO=0 by omega];rfl
  have cy:=ae hv;have aZ:=ae<|cv L kJ;have bv:I.ownsRow (U b.1) 9 1 v l (q.map λs=>amz<|O s):=by have:=L;unfold sX at this;rw[aX]at this;exact this
  have bt:=ae bv;have cE:=kJ.3.4;have⟨x,tO⟩:=bi<|j%8
  have⟨aC,vI⟩:=bi<|8*x
  have⟨g,a6⟩:=bi<|772+aC
  have⟨q4,Dx⟩:=bi<|g+4
  have c0:(j:Int)%8=x:=G;have c3:(j:Int).tmod 8=(x:Int):=by rw[qQ G];exact c0
  have:8*(x:Int)=aC:=G;have:772+(aC:Int)=g:=G;have:(g:Int)+4=q4:=G;have:x<8:=G;have:aC<64:=G;have:q4<=900:=G;have⟨o,eZ⟩:=bi<|(j+1)%65536;have cN:((j:Int)+1)%65536=o:=G;have c4:((j:Int)+1).tmod 65536=(o:Int):=by rw[qQ G];exact cN
  have cl:o<65536:=G;have aT:=V bO;rw[<- eZ,show 772+8*(j%8)=g by omega,show 776+8*(j%8)=q4 by omega]at aT;have cP:=ae aT;clear hlo as8 BB bF cT hv L kJ a7 ab tO vI a6 Dx eZ bO aT bv i1 b8 cQ cR cU cX cY;go_wp2
  all_goals
   first|rw[V bQ]|rw[V bP fN]
   go_wp2_with (at_builtin;go_loud (refine vL _ af (.tmp 88) (.tmp 103) 49 af (U b.1) 9 i0 (amz ⟨#[]⟩) 1 16 D1 oI hz0 hz1 hz2 af bL _ l _ af ((V bt).alloc _) ⟨U I.1,0,ai⟩ 1 1 [amz<|O P] af af (En _ _ _) (by exact H0) m9 G cx ?_));intro aq bn bM bH _ cA;have bu:sX bn (U b.1) aq (q++[P]):=by unfold sX;rw[dE,aX,kq];exact bM
   have ac:=age (V aZ).2 (V aZ).1 bH cK;have bw:ax (bd aK 46 #[cM<|ag ⟨d,0,ai⟩,ak am g,ak am 4,ak am e] bn _):=wl d g 4 e _ ac.1 G G;have b_:=gS.c0 ac;have ca:aD bn ⟨c,4,ai⟩=ag (ak am j):=bk.cell ac.2 4 aA;have az:=ae<|cv bu ac;clear bM bH cA bu ac aZ bt bP bQ cy cL cs ce cf cg ch cn cE;go_wp2_with (fail);refine(V bw).m ?_;rintro cZ ⟨a5,a2⟩;have be:=gS.go (V az).2 a5 a2;have bB:=Nj (V az).1 (V az).2.1 a2 λ_ _ t=>t;have bx:ax (bd aK 46 #[cM<|ag ⟨d,0,ai⟩,ak am q4,ak am 4,ak am 0] cZ _):=wl d q4 4 0 _ a5 G G;have cq:=gS.c0 be;have aI:=ae<|cv bB be;clear be bB a5 a2 az bw b_ ca;go_wp2_with (fail);refine(V bx).m ?_;rintro ar ⟨bY,a3⟩;have J:=gS.go (V aI).2 bY a3;have aM:=Nj (V aI).1 (V aI).2.1 a3 λ_ _ t=>t;have:=gS.c0 J;have:aD ar ⟨c,4,ai⟩=ag (ak am j):=bk.cell J.2 4 aA;have:=bk.frozen J.2;have Z:=gS.drew<|gS.set J (c':=(W,Y,C,o)) (bk.set J.2 4<|ak am o);have br:sX (bq<|a_ ar ⟨c,4,ai⟩<|ak am o) (U b.1) aq (q++[P]):=mN aM λcz a1=>dJ _ _ _ _ λk=>lk J.2 aM bL (by rw[a1,k]);have b4:ax (bd aK 46 #[cM<|ag ⟨d,0,ai⟩,ak am 770,ak am 2,ak am o] (bq<|a_ ar ⟨c,4,ai⟩<|ak am o) _):=wl d 770 2 o _ Z.1 G G;have:aD (bq<|a_ ar ⟨c,4,ai⟩<|ak am o) ⟨c,0,ai⟩=ag (cM<|ag ⟨d,0,ai⟩)/\aD (bq<|a_ ar ⟨c,4,ai⟩<|ak am o) ⟨c,4,ai⟩=ag (ak am o):=⟨gS.c0 Z,bk.cell Z.2 4 aA⟩
   have aJ:=ae<|cv br Z;clear bY a3 J aI bx cq Z aM br;go_wp2
   go_region_held (λy=>aD y ⟨c,0,ai⟩=ag (cM<|ag ⟨d,0,ai⟩)/\aD y ⟨c,4,ai⟩=ag (ak am o)) (first|assumption|go_keep)
    (first|(go_at_call 46;go_loud (refine(V b4).m ?_;rintro b0 ⟨b1,aP⟩;have aH:=gS.go (V aJ).2 b1 aP;have b3:aD b0 ⟨c,0,ai⟩=ag (cM<|ag ⟨d,0,ai⟩)/\aD b0 ⟨c,4,ai⟩=ag (ak am o):=⟨gS.c0 aH,bk.cell aH.2 4 aA⟩)))
   all_goals
    have bs:=ae<|cv (Nj (V aJ).1 (V aJ).2.1 aP λ_ _ t=>t) aH;clear aH b1 aP b3;go_wp2;exact⟨⟨l+1,_,(W,Y,C,o),q++[P],aq,af,dH,G,by rw[dE,aX];rfl,⟨cF,cG,by show C<65536;have:=V aY;omega,cl⟩,(V bs).1,V cP,(V bs).2⟩,ee⟩
def xH(c:aQ)(b:Nat)(v:bm)(a:List jK):Prop:=c.ownsRow b 297 1 v (E a)<|a.map λf=>cV f.1 f.2
def Hs{c:Array bm}(g:List jK)(h:c.1=g.map λf=>cV f.1 f.2)(i:a<=U b.1)(k:E g<=hC)(d:Nat)(l:d=E g)(j:o=U b.1):xH (aO b<|aS c 297) a (bC o 0 d d) g:=by
 subst l j;have n:U c=E g:=by rw[<- sy,h,fC]
 exact⟨aA,.inr ⟨U b.1,E g,c,af,i,du b _,cW _,k,by rw[n,uJ],by rw[h,uJ];exact oT aA⟩⟩
def m6(a:D):bm:=ci #[amz<|O a.owner,J a.aP,J a.type,amz<|O a.data]
def y7(a:ap):List jK:=[lj<|nL<|UInt8.ofNat<|E a,lj<|eI a]
def ad6{a:D}(h:d3 b)(i:a.type=16)(k:E a.data<=3000):bd aK 254 #[m6 a] b λg e=>(∃v,g=bg v/\xH e (U b.1) v (y7 a.data))/\a7 b e:=by
 have⟨oc,uq⟩:=bi<|UInt8.ofNat<|E a.data;have l:ck.wrap (E a.data:Int)=(oc.toNat:Int):=by rw[xT,uq,rJ];omega
 replace uq:=ae uq;have d:a7 b (aO b<|aS #[amz<|O a.owner,ak am a.aP,ak am a.type,amz<|O a.data] 47):=ct cd bv _;have c:=ae<|vO (O a.data) 32 (h.below d) m7;have:(O a.data).size=E a.data:=de _;unfold m6;rw[i]at c d ⊢;generalize jl 32 (O a.data)=j at *;go_in;go_wp21;refine c.m ?_;rintro n rfl;go_wp2;go_ret;refine⟨⟨bC (U b.1+1+1) 0 2 2,af,?_⟩,((ct cd bv _).alloc aA _).alloc hV _⟩;rw[show y7 a.data=[lj<|nL oc,lj<|eI a.data] by rw[V uq];rfl];refine Hs [lj<|nL oc,lj<|eI a.data] ?_ ?_ ?_ 2 af ?_;{rfl};{first|omega|(simp only[gd];omega)|(simp;omega)};{simp[hC]};{simp only[gd]}
def UO{a:D}(c:d3 b)(j:a.type=i)(q:(i==6)=ao)(p:(i==1)=ao)(k:(i==16)=ao)(l:(i==15)=ao)(o:E a.data<=3000):bd aK 254 #[m6 a] b λh g=>(∃v,h=bg v/\xH g (U b.1) v [tZ a.data])/\a7 b g:=by have e:a7 b (aO b<|aS #[amz<|O a.owner,ak am a.aP,ak am a.type,amz<|O a.data] 47):=ct cd bv _;have d:=ae<|vO (O a.data) 32 (c.below e) m7;have:(O a.data).size=E a.data:=de _;unfold m6;rw[j]at d e ⊢;generalize jl 32 (O a.data)=n at *;go_in;go_wp21;refine d.m ?_;rintro r rfl;go_wp2;go_ret;refine⟨⟨bC (U b.1+1+1) 0 1 1,af,Hs [tZ a.data] ?_ ?_ ?_ 1 af ?_⟩,?_⟩;{rfl};{first|omega|(simp only[gd];omega)|(simp;omega)};{simp[hC]};{simp only[gd]};exact((ct cd bv _).alloc aA _).alloc hV _
def xI(c d:ap)(a b:Nat):List jK:=[tZ c,tZ d,lj<|uO<|a%4294967296,lj<|uO 3600,lj<|uO 600,lj<|uO 86400,lj<|uO<|b%4294967296]
def xJ(a:Nat)(b:ap):List jK:=[lj<|gs<|a%65536,tZ b]
def J3{P:Prop}(h:P:=by intro w' hb';exact⟨af,Ds W w' hb' h,bN hb<|bV hb' hb.4⟩):P:=h
def ad7{e:D}(y:d3 b)(A:e.type=15)(J:E e.data<=3000)(B:jl 32 (O e.data)=[O g,O n])(F:Lib.parseUintB 64 g=.ok a)(z:E g<=3000):bd aK 254 #[m6 e] b λj w'=>(∃v,j=bg v/\xH w' (U b.1) v (xJ a n))/\a7 b w':=by
 have o:a7 b (aO b<|aS #[amz<|O e.owner,ak am e.aP,ak am e.type,amz<|O e.data] 47):=ct cd bv _;have l:=ae<|vO (O e.data) 32 (y.below o) m7;have:(O e.data).size=E e.data:=de _;unfold m6;rw[A]at l o ⊢;rw[B]at l;go_in;go_wp21;refine l.m ?_;rintro H rfl;simp only[nr,u_,ey,h8];have Ds:∀W d:aQ,a7 W d->(co W (U b.1+1) 0 (amz<|O g)/\co W (U b.1+1) 1 (amz<|O n))->(co d (U b.1+1) 0 (amz<|O g)/\co d (U b.1+1) 1 (amz<|O n)):=λW d hb h=>by
  have q:∀(i:Addr) (v:bm),aD W i=ag v->aD d i=ag v:=λi v h=>(hb.cell<|i8 W i h).trans h;obtain⟨w,x⟩:=h;exact⟨q _ _ w,q _ _ x⟩
 have t:ax (∀(W:aQ) (k:Obj),(co W (U b.1+1) 0 (amz<|O g)/\co W (U b.1+1) 1 (amz<|O n))/\a7 b W->((co (aO W k) (U b.1+1) 0 (amz<|O g)/\co (aO W k) (U b.1+1) 1 (amz<|O n))/\a7 b (aO W k))):=λW k h=>⟨Ds W _ (ct cd bv _) h.1,ct h.2 h.2.4 _⟩
 have C:ax (∀W,(co W (U b.1+1) 0 (amz<|O g)/\co W (U b.1+1) 1 (amz<|O n))->a7 b W->bd aK 280 #[amz<|O g] W λj w'=>j=bg (ak .u64 (a:Int))/\(co w' (U b.1+1) 0 (amz<|O g)/\co w' (U b.1+1) 1 (amz<|O n))/\a7 b w'):=λW h hb=>by
  refine(Hr (O g) W (by rw[de];exact z) F).m ?_;exact J3
 have N:fs.wrap (a:Int)=((a%65536:Nat):Int):=by rw[DF];omega
 have L:co (bq<|aO (aO b<|aS #[amz<|O e.owner,ak am e.aP,ak am 15,amz<|O e.data] 47)<|aS #[amz<|O g,amz<|O n] 9) (U b.1+1) 0 (amz<|O g)/\co (bq<|aO (aO b<|aS #[amz<|O e.owner,ak am e.aP,ak am 15,amz<|O e.data] 47)<|aS #[amz<|O g,amz<|O n] 9) (U b.1+1) 1 (amz<|O n):=by
  have p:=du (aO b<|aS #[amz<|O e.owner,ak am e.aP,ak am 15,amz<|O e.data] 47)<|aS #[amz<|O g,amz<|O n] 9;rw[gd]at p;refine⟨?_,?_⟩<;>(show(aD _ _)=_;unfold aD; simp only[World.drew];rw[p];rfl)
 have:a7 b (bq<|aO (aO b<|aS #[amz<|O e.owner,ak am e.aP,ak am 15,amz<|O e.data] 47)<|aS #[amz<|O g,amz<|O n] 9):=((ct cd bv _).alloc aA _).drew;go_wp2;generalize (aO (aO b<|aS #[amz<|O e.owner,ak am e.aP,ak am 15,amz<|O e.data] 47)<|aS #[amz<|O g,amz<|O n] 9)=H at *
 go_region_held (λw'=>(aD w' (M (U b.1+1) 0)=ag (amz<|O g)/\aD w' (M (U b.1+1) 1)=ag (amz<|O n))/\a7 b w') (first|exact⟨fN,fN⟩|(exact V t _ _ ⟨fN,fN⟩)|go_keep)
  (first
   | (go_at_call_of 280 (amz<|O g);go_loud (refine(C _ ?_ ?_).mono ?_;assumption;assumption;rintro j w' ⟨rfl,K,r⟩)))
 have I:(a:Int)%65536=((a%65536:Nat):Int):=G;rw[I];have c:=r.4;have u:=ae r;go_wp2;go_ret;refine⟨⟨bC (U w'.1) 0 2 2,af,Hs (xJ a n) ?_ ?_ ?_ 2 af af⟩,?_⟩
 ·rfl
 ·exact c
 ·simp[hC,xJ]
 ·exact ct u c _
def adv{j:D}(H:d3 b)(c:j.type=6)(Y:E j.data<=3000)(N:jl 32 (O j.data)=[O n,O g,O v,O L])(x:Lib.parseUintB 64 v=.ok a)(P:Lib.parseUintB 64 L=.ok o)(I:E v<=3000)(J:E L<=3000):bd aK 254 #[m6 j] b λl w'=>(∃d,l=bg d/\xH w' (U b.1) d (xI n g a o))/\a7 b w':=by
 have u:a7 b (aO b<|aS #[amz<|O j.owner,ak am j.aP,ak am j.type,amz<|O j.data] 47):=ct cd bv _;have q:=ae<|vO (O j.data) 32 (H.below u) m7;have:(O j.data).size=E j.data:=de _;unfold m6;rw[c]at q u ⊢;rw[N]at q;go_in;go_wp21;refine q.m ?_;rintro R rfl;simp only[nr,u_,ey,h8];have Ds:∀W k:aQ,a7 W k->(co W (U b.1+1) 0 (amz<|O n)/\co W (U b.1+1) 1 (amz<|O g)/\co W (U b.1+1) 2 (amz<|O v)/\co W (U b.1+1) 3 (amz<|O L))->(co k (U b.1+1) 0 (amz<|O n)/\co k (U b.1+1) 1 (amz<|O g)/\co k (U b.1+1) 2 (amz<|O v)/\co k (U b.1+1) 3 (amz<|O L)):=λW k hb h=>by
  have p:∀(e:Addr) (d:bm),aD W e=ag d->aD k e=ag d:=λe d h=>(hb.cell<|i8 W e h).trans h;obtain⟨A,B,C,F⟩:=h;exact⟨p _ _ A,p _ _ B,p _ _ C,p _ _ F⟩
 have y:ax (∀(W:aQ) (i:Obj),(co W (U b.1+1) 0 (amz<|O n)/\co W (U b.1+1) 1 (amz<|O g)/\co W (U b.1+1) 2 (amz<|O v)/\co W (U b.1+1) 3 (amz<|O L))/\a7 b W->((co (aO W i) (U b.1+1) 0 (amz<|O n)/\co (aO W i) (U b.1+1) 1 (amz<|O g)/\co (aO W i) (U b.1+1) 2 (amz<|O v)/\co (aO W i) (U b.1+1) 3 (amz<|O L))/\a7 b (aO W i))):=λW i h=>⟨Ds W _ (ct cd bv _) h.1,ct h.2 h.2.4 _⟩
 have Q:ax (∀W,(co W (U b.1+1) 0 (amz<|O n)/\co W (U b.1+1) 1 (amz<|O g)/\co W (U b.1+1) 2 (amz<|O v)/\co W (U b.1+1) 3 (amz<|O L))->a7 b W->bd aK 280 #[amz<|O v] W λl w'=>l=bg (ak .u64 (a:Int))/\(co w' (U b.1+1) 0 (amz<|O n)/\co w' (U b.1+1) 1 (amz<|O g)/\co w' (U b.1+1) 2 (amz<|O v)/\co w' (U b.1+1) 3 (amz<|O L))/\a7 b w'):=λW h hb=>by
  refine(Hr (O v) W (by rw[de];exact I) x).m ?_;exact J3
 have aa:DC IntKind.u32 (a:Int)=((a%4294967296:Nat):Int):=by rw[BM];omega
 have X:ax (∀W,(co W (U b.1+1) 0 (amz<|O n)/\co W (U b.1+1) 1 (amz<|O g)/\co W (U b.1+1) 2 (amz<|O v)/\co W (U b.1+1) 3 (amz<|O L))->a7 b W->bd aK 280 #[amz<|O L] W λl w'=>l=bg (ak .u64 (o:Int))/\(co w' (U b.1+1) 0 (amz<|O n)/\co w' (U b.1+1) 1 (amz<|O g)/\co w' (U b.1+1) 2 (amz<|O v)/\co w' (U b.1+1) 3 (amz<|O L))/\a7 b w'):=λW h hb=>by
  refine(Hr (O L) W (by rw[de];exact J) P).m ?_;exact J3
 have ab:DC IntKind.u32 (o:Int)=((o%4294967296:Nat):Int):=by rw[BM];omega
 have Z:co (bq<|aO (aO b<|aS #[amz<|O j.owner,ak am j.aP,ak am 6,amz<|O j.data] 47)<|aS #[amz<|O n,amz<|O g,amz<|O v,amz<|O L] 9) (U b.1+1) 0 (amz<|O n)/\co (bq<|aO (aO b<|aS #[amz<|O j.owner,ak am j.aP,ak am 6,amz<|O j.data] 47)<|aS #[amz<|O n,amz<|O g,amz<|O v,amz<|O L] 9) (U b.1+1) 1 (amz<|O g)/\co (bq<|aO (aO b<|aS #[amz<|O j.owner,ak am j.aP,ak am 6,amz<|O j.data] 47)<|aS #[amz<|O n,amz<|O g,amz<|O v,amz<|O L] 9) (U b.1+1) 2 (amz<|O v)/\co (bq<|aO (aO b<|aS #[amz<|O j.owner,ak am j.aP,ak am 6,amz<|O j.data] 47)<|aS #[amz<|O n,amz<|O g,amz<|O v,amz<|O L] 9) (U b.1+1) 3 (amz<|O L):=by
  have w:=du (aO b<|aS #[amz<|O j.owner,ak am j.aP,ak am 6,amz<|O j.data] 47)<|aS #[amz<|O n,amz<|O g,amz<|O v,amz<|O L] 9;rw[gd]at w;refine⟨?_,?_,?_,?_⟩<;>(show(aD _ _)=_;unfold aD; simp only[World.drew];rw[w];rfl)
 have:a7 b (bq<|aO (aO b<|aS #[amz<|O j.owner,ak am j.aP,ak am 6,amz<|O j.data] 47)<|aS #[amz<|O n,amz<|O g,amz<|O v,amz<|O L] 9):=((ct cd bv _).alloc aA _).drew;go_wp2;generalize (aO (aO b<|aS #[amz<|O j.owner,ak am j.aP,ak am 6,amz<|O j.data] 47)<|aS #[amz<|O n,amz<|O g,amz<|O v,amz<|O L] 9)=R at *
 go_region_held (λw'=>(aD w' (M (U b.1+1) 0)=ag (amz<|O n)/\aD w' (M (U b.1+1) 1)=ag (amz<|O g)/\aD w' (M (U b.1+1) 2)=ag (amz<|O v)/\aD w' (M (U b.1+1) 3)=ag (amz<|O L))/\a7 b w') (first|exact⟨fN,fN⟩|(exact V y _ _ ⟨fN,fN⟩)|go_keep)
  (first
   | (go_at_call_of 280 (amz<|O v);go_loud (refine(Q _ ?_ ?_).mono ?_;assumption;assumption;rintro l w' ⟨rfl,K,r⟩))
   | (go_at_call_of 280 (amz<|O L);go_loud (refine(X _ ?_ ?_).mono ?_;assumption;assumption;rintro l w' ⟨rfl,K,r⟩)))
 have S:(a:Int)%4294967296=((a%4294967296:Nat):Int):=G;have T:(o:Int)%4294967296=((o%4294967296:Nat):Int):=G;rw[S,T];have t:=r.4;have z:=ae r;go_wp2;go_ret;refine⟨⟨bC (U w'.1) 0 7 7,af,Hs (xI n g a o) ?_ ?_ ?_ 7 af af⟩,?_⟩
 ·rfl
 ·exact t
 ·simp[hC,xI]
 ·exact ct z t _
structure pH(r:D)(aV:List jK):Prop where
 own:r.owner.length<=300
 typ:r.type=(r.type.toNat:Int)/\r.type.toNat<65536
 aP:r.aP<4294967296
 data:∀W,d3 W->Calls Tryz.prog 254 #[adw r] W λe w'=>(∃v,e=.returned v/\xH w' W.heap.size v aV)/\a7 W w'
 ok:∀(mb base:Nat) (I:World->Prop),(∀w,I w->d3 w)->0<base->0<mb->∀f∈aV,f.Ok mb base I
 ne:aV≠[]
 few:aV.length<=1000
def zE(a:D)(d c:Nat)(b:List jK):List jK:=[tZ a.owner,lj<|gs<|c7 a.type,lj<|gs 1,lj<|uO a.aP,HI d c b]
def ka(d:D)(a:List jK)(b:ap)(c:hi):ap×hi:=gX (zE d 0 0 a) b c
def eD(b:D->List jK)(e:List D)(c:ap)(d:hi):ap×hi:=e.foldl (λs a=>ka a (b a) s.1 s.2) (c,d)
def UQ(c)(g:a<E j)(d e):eD c (amA (a+1) j) d e=ka j[a] (c j[a]) (eD c (amA a j) d e).1 (eD c (amA a j) d e).2:=by rw[iH g,eD,zL];rfl
def UR{a c}:eD a (j++q) g c=eD a q (eD a j g c).1 (eD a j g c).2:=by rw[eD,zL];rfl
def US{mb v}(d:xH b a e v)(q:v≠[])(p:mb<a):∃c g,e=bC c 0 (E v) g/\E v<=g/\qh mb b c v:=by have i:=d;obtain⟨_,⟨rfl,r⟩|⟨c,g,l,rfl,n,h,j,_⟩⟩:=d;{grind};{refine⟨c,g,af,j,G,⟨_,_,h,bL,bL⟩,λk o=>?_⟩;have:=nz i k G;grind}
def UT{mb base g aV}(d:0<base)(e:0<mb):Cx mb base (λa=>d3 a/\qh mb a g aV):=λa h b c=>⟨b.1.tg c d e,b.2.tg c⟩
def UU{l c}(b:pH l c)(g h j)(d:0<h)(e:0<g)(o:E c<=a):∀f∈zE l j a c,f.Ok g h (λn=>d3 n/\qh g n j c):=by intro f k;simp only[zE,gC,uf,tf]at k;rcases k with rfl|rfl|rfl|rfl|rfl;{exact Cz b.own (λ_ i=>i.1) d e};{exact qt<|nM _ b.2.2};{exact qt<|nM _ G};{exact qt<|B5 b.3};{exact UM (UT d e) (λ_ i=>i.2) (b.5 _ _ _ (λ_ i=>i.1) d e) o<|cj b.7}
def UV{d a}(e:pH d a)(c b):E c<=E (ka d a c b).1/\E b<=E (ka d a c b).2/\(jV b->jV (ka d a c b).2) :=
 Cy (zE d 0 (E a) a) (UU e 1 1 0 G G bv) c b
def CA(d):∀(e:List D),(∀c∈e,pH c<|d c)->∀b a,E b<=E (eD d e b a).1/\E a<=E (eD d e b a).2/\(jV a->jV (eD d e b a).2)
 | [],_,b,a=>⟨cW _,cW _,id⟩
 | c::e,g,b,a=>by have h:=UV (g c aA) b a;have i:=CA d e (λj k=>g j<|by grind) (ka c (d c) b a).1 (ka c (d c) b a).2;exact⟨cU h.1 i.1,cU h.2.1 i.2.1,λg=>i.2.2<|h.2.2 g⟩
def UX{a}(h:∀g∈j,pH g<|a g)(c d e):E (eD a (amA e j) c d).1<=E (eD a j c d).1/\E (eD a (amA e j) c d).2<=E (eD a j c d).2:=by
 have:eD a j c d=eD a (bh e j) (eD a (amA e j) c d).1 (eD a (amA e j) c d).2:=by rw[<- UR,lP]
 have:=CA a (bh e j) (λf i=>h f<|RL i) (eD a (amA e j) c d).1 (eD a (amA e j) c d).2;grind
def UY{mb e d aV}(B:pH d aV)(l:0<o)(base:0<a){c}(y:d3 b)(x:qh a b mb aV)(t:E aV<=e)(n:fX b a o g c)(C:jV c)(D:o<=U b.1)(z:E (ka d aV g c).1<=50000)(A:E (ka d aV g c).2<=20000):bd aK 139 #[N a,bC (U b.1) 0 5 5] (aO b<|aS #[cV 291<|amz<|O d.owner,cV 284<|ak fs<|c7 d.type,cV 284<|ak fs 1,cV 344<|ak .u32 d.aP,cV 293<|aL (ag ⟨mb,0,ai⟩) (E aV) e] 297) λj r=>j=bg (bX #[])/\fX r a o (ka d aV g c).1 (ka d aV g c).2/\dP a o b r:=by
 have hnew:=du b<|aS #[cV 291<|amz<|O d.owner,cV 284<|ak fs<|c7 d.type,cV 284<|ak fs 1,cV 344<|ak .u32 d.aP,cV 293<|aL (ag ⟨mb,0,ai⟩) (E aV) e] 297;have k:a7 b (aO b<|aS #[cV 291<|amz<|O d.owner,cV 284<|ak fs<|c7 d.type,cV 284<|ak fs 1,cV 344<|ak .u32 d.aP,cV 293<|aL (ag ⟨mb,0,ai⟩) (E aV) e] 297):=ct cd bv _;have i:dP a o b _:=dP.vz k;have:=n.lt;have p:=UT (mb:=a) (base:=o) (g:=mb) (aV:=aV) l base;refine(MH 5 g c (p _ _ ⟨y,x⟩ i) p (n.below k) (by grind) C (UU B a o mb l base t) ⟨G,⟨_,_,hnew,bL,bL⟩,?_⟩ (by simp[zE]) (by simp[zE]) z A).mono ?_;{
 intro q h;match q,h with
 | 0,_=>exact m8
 | 1,_=>exact m8
 | 2,_=>exact m8
 | 3,_=>exact m8
 | 4,_=>exact m8
 | q+5,h=>simp[zE]at h;omega};rintro j F ⟨rfl,u,w⟩;exact⟨af,u,i.trans w⟩
def UZ{e}(h:q_ b a e)(j:dP o P b f)(i:a≠o):q_ f a e:=j.box h i bL bL
def QZ{P:Prop}(h:P:=by
 have h1:=mq.2.1;have h2:=mq.2.2;rw[DF];omega):P:=h
def ady{h ay ab}(size){e mb}(al:fX b a h g mb)(av:jV mb)(aj:d3 b)(aX:h<=U b.1)(ad:0<h)(an:0<a)(K:gr b o ay j)(bb:o<h)(aB:o≠a)(bw:E j<=ab)(bF:E j<=3001)(Y:∀i∈j,pH i<|e i)(bE:E (eD e j g mb).1<=50000)(bG:E (eD e j g mb).2<=20000)(bH:(E (eD e j g mb).1:Int)<=size):bd aK 203 #[N a,J size,bC o ay (E j) ab] b λp c=>p=bg (aG aE)/\fX c a h (eD e j g mb).1 (eD e j g mb).2/\dP a h b c:=by
 have aA:=ae al;obtain⟨bL,bO,A,ap,T⟩:=al;obtain⟨W,ar,bA,rfl⟩:=qk ap;obtain⟨X,au,aa,rfl⟩:=qk T;have bJ:=A.cells;have bl:=A.lt;have S:dP a h b (aO b<|aS #[aL W ar bA,aL X au aa] 283):=dP.vz<|ct cd bv _;have aW:=ae (show fX (aO b<|aS #[aL W ar bA,aL X au aa] 283) a h g mb from aA.below<|ct cd bv _);have bc:=ae S;have aF:=ae aj;have aP:=ae K;have D:=ae Y;have bk:=ae av;have aH:=K.1;clear A ap T aj K Y S aA av;go_wp2
 go_loopw [15] (λL wr=>∃(d:Nat),L=J d/\d<=E j/\fX wr a h (eD e (amA d j) g mb).1 (eD e (amA d j) g mb).2/\dP a h b wr) λL _=>E j-c7 (intOf L)
 ·exact⟨0,af,eb _,aW,bc⟩
 ·obtain⟨d,rfl,bD,u,r⟩:=hrel;have aN:=ae u;have aU:=ae r;have bI:=r.4;by_cases I:d<E j
  ·have bK:(d:Int)<E j:=G;have az:=vR (V aP) r.4<|r.5 o aH aB<|.inl bb;have⟨q0,q1,q2,q3⟩:=az.four d I;have mq:=V D j[d]<|eP I;have aI:=ae<|UQ e I g mb;have R:=ae<|UX (V D) g mb<|d+1;have aJ:=ae<|(CA e (amA d j) (λf a6=>V D f<|zP a6) g mb).2.2<|V bk;have H:=(aF.tg r ad an)
   have ac:a7 wr (aO wr<|aS #[amz<|O j[d].owner,ak am j[d].aP,ak am j[d].type,amz<|O j[d].data] 47):=ct cd bv _;have B:q_ (aO wr<|aS #[amz<|O j[d].owner,ak am j[d].aP,ak am j[d].type,amz<|O j[d].data] 47) (U wr.1) j[d]:=du wr _;have⟨i,H3⟩:=bi<|j[d];rw[<- H3]at q0 q1 q2 q3 mq ac B;obtain⟨t,q,aM⟩:∃t q,eD e (amA d j) g mb=(t,q):=⟨_,_,af⟩
   have C:ax (eD e (amA (d+1) j) g mb=ka i (e i) t q):=by
    grind
   have aR:ax (fX wr a h t q):=by grind
   have aT:ax (jV q):=by grind
   clear az u r H3 aI aM aN aJ;have a1:U wr.1≠a:=G;have aC:ax (∀k,a7 wr k->q_ k (U wr.1) i->bd aK 254 #[ci #[aZ i.owner,J i.aP,J i.type,aZ i.data]] (bq k) λp c=>∃n l,p=bg (bC n 0 (E<|e i) l) /\
     (aD c (M (U wr.1) 0)=ag (aZ i.owner)/\aD c (M (U wr.1) 1)=ag (J i.aP)/\aD c (M (U wr.1) 2)=ag (J i.type)/\aD c (M (U wr.1) 3)=ag (aZ i.data)) /\
     ax (E (e i)<=l/\qh a c n (e i)/\q_ c (U wr.1) i/\fX c a h t q/\d3 c/\dP a h b c)):=by
    intro k a5 aq;have x:=a5.drew;refine(mq.4 (bq k)<|H.below x).mono ?_;rintro p c ⟨⟨v,rfl,ba⟩,ah⟩;obtain⟨n,l,rfl,P,Q⟩:=US (mb:=a) ba mq.6 (cj x.4);have z:q_ c (U wr.1) i:=(ah.5 _ (ea.1 aq).1).trans aq;have F:=bN x<|bV ah x.4;have bf:dP a h wr c:=dP.vz F;exact⟨n,l,af,z.cells,P,Q,z,aR.below F,H.below F,aU.trans bf⟩
   have aw:ax (∀n l w,ax (E (e i)<=l/\qh a w n (e i)/\q_ w (U wr.1) i/\fX w a h t q/\d3 w/\dP a h b w) ->
     bd aK 139 #[N a,bC (U w.1) 0 5 5] (aO w<|aS #[cV 291<|amz<|O i.owner,cV 284<|ak fs<|c7 i.type,cV 284<|ak fs 1,cV 344<|ak .u32 i.aP,cV 293<|aL (ag ⟨n,0,ai⟩) (E<|e i) l] 297) λp c =>
      p=bg (bX #[])/\(aD c (M (U wr.1) 0)=ag (aZ i.owner)/\aD c (M (U wr.1) 1)=ag (J i.aP)/\aD c (M (U wr.1) 2)=ag (J i.type)/\aD c (M (U wr.1) 3)=ag (aZ i.data)) /\
      ax (fX c a h (eD e (amA (d+1) j) g mb).1 (eD e (amA (d+1) j) g mb).2/\dP a h b c)):=by
    intro n l w a2;have⟨P,Q,z,df,MC,Bv⟩:=V a2;have a3:=V R;rw[V C]at a3;refine(UY mq ad an MC Q P df (V aT) (cU aX Bv.4) G G).m λc ⟨h2,y⟩=>⟨af,(UZ z y a1).cells,?_,Bv.trans y⟩;rw[V C];exact h2
   have bj:fs.wrap i.type=(c7 i.type:Int):=QZ
   have bR:DC IntKind.u32 (i.aP:Int)=(i.aP:Int):=by
    have h1:=mq.3;rw[BM];omega
   clear mq R H C;have⟨tn,htn⟩:=bi<|c7 i.type;rw[<- htn]at bj aw;clear htn;go_wp2;have be:=ae<|aC _ ac B;have a4:=B.cells;generalize (aO wr<|aS #[amz<|O i.owner,ak am i.aP,ak am i.type,amz<|O i.data] 47)=k at *;have bB:(aD (bq k) (M (U wr.1) 0)=ag (aZ i.owner)/\aD (bq k) (M (U wr.1) 1)=ag (J i.aP)/\aD (bq k) (M (U wr.1) 2)=ag (J i.type)/\aD (bq k) (M (U wr.1) 3)=ag (aZ i.data)):=a4
   go_region_held (λc=>aD c (M (U wr.1) 0)=ag (aZ i.owner)/\aD c (M (U wr.1) 1)=ag (J i.aP)/\aD c (M (U wr.1) 2)=ag (J i.type)/\aD c (M (U wr.1) 3)=ag (aZ i.data)) (first|assumption|go_keep)
    (first
     | (go_at_call 254;go_loud (refine be.mono ?_;rintro p bP ⟨n,l,rfl,bt,aV⟩))
     | (go_at_call 139;go_loud (refine(aw _ _ _ aV).m λbQ ⟨bx,aY⟩=>?_)))
   rename_i bz;go_wp2;have⟨h1,y⟩:=V aY;exact⟨⟨d+1,dH,G,h1,y⟩,ee⟩
  ·have a0:d=E j:=G;subst a0;rw[ld]at u;have Z:=ae<|cv u r;obtain⟨bM,bp,a8,a9,_⟩:=u;obtain⟨br,bu,rfl⟩:=UP a9;have bs:=a8.cells.1;have bn:¬size<(E ((eD e j g mb).1):Int):=G;generalize E (eD e j g mb).1=bo at *;go_wp2;go_ret;exact⟨af,Z.1,Z.2⟩
def ads{h}(k:n_ b a o P g h)(d:a7 b f):n_ f a o P g h:=by obtain⟨q,r,e,l,n,c,p⟩:=k;exact⟨q,r,e.kept<|d.5 a e.lt,jG l d,jG n d,c,p⟩
def I1{h}(d:fX b a o g h):n_ b a o a g h:=by have k:=d;obtain⟨l,n,e,_⟩:=k;exact d.away ⟨λj c=>by rw[e]at c;grind,λj c=>by rw[e]at c;grind⟩
def CC{d p}(t:n_ b a o P g p)(B:(∀k,b.1[d]?≠ag (aS k 5 (0,0)))/\∀k,b.1[d]?≠ag (aS k 343 (0,0)))(y:a≠d)(h:∀i,i≠d->f.1[i]? = b.1[i]?):n_ f a o P g p:=by obtain⟨z,A,u,l,n,w,x⟩:=t;refine⟨z,A,u.kept<|h a y,pR l λe j=>h e λr=>?_,pR n λe j=>h e λr=>?_,w,x⟩;{have k:=y5 l j;grind};{have k:=y6 n j;grind}
def A6(i:cy b P e z)(l:dP a o b f)(k:P≠a)(j:z≠5)(g:z≠343):cy f P e z:=l.box i k j g
def adt{g}(e:t6 a o i g b)(size:dP o P b f)(d:o<a):t6 a o i g f:=by refine⟨A6 e.1 size G bL bL,A6 e.2 size G bL bL,A6 e.3 size G bL bL,?_,A6 e.5 size G bL bL⟩;have:=e.4;exact size.box this G bL bL
structure oa(mb base s lb:Nat)(size:Int)(vs:Array Value)(w:World)(ds:List Nat)(cs:List Int)(d:Nat)(S:ap×hi)(W:World):Prop where
 fb:t6 s mb size cs W
 lists:W.heap[lb]? = some (.cells vs 41)
 msg:n_ W mb base d S.1 S.2
 po:jV S.2
 g:d3 W
 tg:dP mb base w W
 defs:∀x∈ds,W.heap[x]? = some (.deferred (some []))
section
variable {mb base s lb:Nat} {size:Int} {vs:Array Value} {w:World} {ds:List Nat} {cs:List Int} {d:Nat} {S S':ap×hi} {W B:World}
def oa.re(a:oa mb base s lb size vs w ds cs d S W)(c)(e:(∀b,W.1[c]?≠ag (aS b 5 (0,0)))/\∀b,W.1[c]?≠ag (aS b 343 (0,0))):oa mb base s lb size vs w ds cs c S W :=
 ⟨a.1,a.2,a.3.msg.away e,a.4,a.5,a.6,a.7⟩
def oa.keeps(a:oa mb base s lb size vs w ds cs d S W)(b:eL d W B)(j:s+4<d)(k:lb<d)(l:mb<d)(g:U w.1<=d)(h:∀c∈ds,c≠d):oa mb base s lb size vs w ds cs d S B:=by have:=a.1.lt;have⟨g0,agn,gc⟩:=a.5;exact⟨a.1.kept λi n o=>b.5 i G G,(b.5 lb (ea.1 a.2).1 G).trans a.2,a.3.keeps b G,a.4, ⟨e8 g0 b.4,agn,(ev<|b.5 0 g0 G).trans gc⟩,a.6.keeps b g,λc e=>(b.5 c (ea.1<|a.7 c e).1<|h c e).trans<|a.7 c e⟩
def oa.below(a:oa mb base s lb size vs w ds cs d S W)(b:a7 W B):oa mb base s lb size vs w ds cs d S B:=by have:=a.1.lt;exact⟨a.1.kept λg h i=>b.5 g G,(b.5 lb (ea.1 a.2).1).trans a.2,ads a.3 b,a.4,a.5.below b,a.6.trans<|dP.vz b,λc e=>(b.5 c (ea.1<|a.7 c e).1).trans<|a.7 c e⟩
def oa.fit(a:oa mb base s lb size vs w ds cs d S W)(b:dP mb base W B)(p:fX B mb base S'.1 S'.2)(q:jV S'.2)(j:mb<s)(k:lb≠mb)(l:0<base)(n:0<mb)(o:∀c∈ds,c≠mb)(h:(∀e,B.1[d]?≠ag (aS e 5 (0,0)))/\∀e,B.1[d]?≠ag (aS e 343 (0,0))):oa mb base s lb size vs w ds cs d S' B :=
 ⟨adt a.1 b j,b.box a.2 k bL bL,p.away h,q,a.5.tg b l n,a.6.trans b,λc g=>(b.other (a.7 c g) (o c g) λ_ _ _ i=>by cases i).trans<|a.7 c g⟩
def oa.set(a:oa mb base s lb size vs w ds cs d S W)(e h)(q:mb<s)(r:lb<s)(t:U w.1<=s)(k:∀c∈ds,c≠s+3):oa mb base s lb size vs w ds (cs.set e h) d S (a_ W ⟨s+3,e,ai⟩<|ak am h):=by have p:=a.1.4;unfold im at p;have b:∀g,g≠s+3->(a_ W ⟨s+3,e,ai⟩<|ak am h).1[g]? = W.1[g]?:=λg n=>dJ _ _ _ _ n;refine⟨a.1.set e h,(b lb G).trans a.2,CC a.3 ⟨λj l=>?_,λj l=>?_⟩ G b,a.4,?_,a.6.same af af af aA λo aN=>b o G,λc i=>(b c<|k c i).trans<|a.7 c i⟩;{grind};{grind};{have⟨g0,agn,gc⟩:=a.5;exact⟨by simp_all,agn,(ev<|b 0 G).trans gc⟩}
end
def jM(e a b bA c d:Nat):List oz:=[gs e,gs a,gs b,gs bA,gs c,gs d]
def Ht{bA c d}:E (ew<|jM o a P bA c d)=12:=rfl
def adz:aK.underlying 285=ag (.slice 297):=b8
def adA:(aK.info? 5).map (·.size)=ag 1:=b8
def adB{d h a v c q p}(hg:a.6=ai)(j o)(g i:d_)(u:a.2=Op.call { callee:=Callee.builtin Builtin.copy,args:=#[j,o],argTypes:=#[g,i] })(r:v.eval j=e)(y:v.eval o=k)(w:(Builtin.copy_ #[g,i] a.3 #[e,k]).run d b=.ok F f)(t:c (v.put a.1 F) f):if Region.wanted a (yielded h v.1)=aE then Oper.wp d a v b c q else p:=by
 have x:Region.wanted a (yielded h v.1)=aE:=Kn
 rw[b7 x];simp[Oper.wp,execOp,u,resolve,invoke,builtin,r,y,w,Result.andThen];exact t
def adC{h}(u:ib b a (bC o 0 (E g) P) g)(B:E h<=E g):∃e,b.1[o]? = ag (aS e 5 (0,0))/\E h<=U e/\∀d:aQ,d.1[o]? = ag (aS e 5 (0,0))->ib (d.setRow o<|dl<|amA 0 e.1++Lib.byteCells (O h).1.1++bh (0+(O h).size) e.1) a (bC o 0 (E g) P) (h++bh (E h) g):=by
 obtain⟨z,⟨i,D⟩|⟨y,x,e,i,q,n,A,t,C,k⟩⟩:=u;{cases i};{
 cases i;refine⟨e,n,G,λd w=>?_⟩;have r:E (h++bh (E h) g)=E g:=by grind
 have j:=de h;refine⟨aA,.inr ⟨o,P,_,by grind,q,setRow_heap d o e _ 5 (0,0) w,G,t,?_,?_⟩⟩;{
 have:E ((O h).1.1)=E h:=by simp[O]
 simp[Lib.byteCells,j,O]at *;omega};{
 rw[r,uJ];rw[uJ]at k;have c:(O h).1.1=h:=by simp[O]
 have p:bh (E h) e.1=bh (E h) (amA (E g) e.1)++bh (E g) e.1:=by{
 conv=>lhs;rw[<- lP (E g) e.1]
 grind};simp only[tH,jz,c,j,g8];rw[p,k,<- jI,List.take_left' (by simp[Lib.byteCells];omega)];simp[Lib.byteCells]}}
def U0{c mb:Nat}(d bA c2 c3:Nat)(w:eJ b a e k)(Y:ib b o e g)(bo:o<=U b.1)(bw:12<=E g)(bx:E g<=60000)(aI:c<65536)(aJ:mb<65536)(aM:d<65536)(aP:bA<65536)(aR:c2<65536)(aT:c3<65536):bd aK 131 #[N a,ci #[J c,J mb,J d,J bA,J c2,J c3]] b λl F=>l=bg (aZ<|ew (jM c mb d bA c2 c3)++bh 12 g)/\Lp a o b F:=by
 have⟨i0,aN,hz0,hz1,hz2⟩:=jN UN;obtain⟨t,n,bp,rfl,bu,Q,bs,_⟩:=MA Y (by grind);have aW:=w.cells.1;have ad:=w.lt;have aa:=(ea.1 Q).1;have bb:a≠t:=λl=>by
  rw[eJ,l,Q]at w
  grind
 have H:=ae Y;have bf:=qe (c:Int)
 have bj:=qe (mb:Int)
 have ap:=qe (d:Int)
 have aq:=qe (bA:Int)
 have ar:=qe (c2:Int)
 have au:=qe (c3:Int)
 have aj:ax (c<65536/\mb<65536/\d<65536/\bA<65536/\c2<65536/\c3<65536):=⟨aI,aJ,aM,aP,aR,aT⟩
 have aw:ax (∀j:Nat,j<4->∃ba:Nat,amA (2+(j+1)) (jM c mb d bA c2 c3)=amA (2+j) (jM c mb d bA c2 c3)++[gs ba]/\fs.wrap (ba:Int)=(ba:Int)/\∀L:aQ,(Instr.index 131 (ci #[J d,J bA,J c2,J c3])<|J j).run aK L=.ok (J ba) L):=by
  intro j u
  match j,u with
  | 0,_=>exact⟨d,af,ap,λ_=>dS⟩
  | 1,_=>exact⟨bA,af,aq,λ_=>dS⟩
  | 2,_=>exact⟨c2,af,ar,λ_=>dS⟩
  | 3,_=>exact⟨c3,af,au,λ_=>dS⟩
  | j+4,h=>omega
 go_wp2;have av:ax (ts (aO (aO b<|aS #[ak am c,ak am mb,ak am d,ak am bA,ak am c2,ak am c3] 133)<|aS #[cV 284<|ak fs c,cV 284<|ak fs mb] 297) (U b.1+1) (bC (U b.1+1) 0 2 2)<|amA (2+0)<|jM c mb d bA c2 c3):=by
  have X:=du (aO b<|aS #[ak am c,ak am mb,ak am d,ak am bA,ak am c2,ak am c3] 133)<|aS #[cV 284<|ak fs c,cV 284<|ak fs mb] 297;rw[gd]at X;exact⟨af,.inr ⟨U b.1+1,2,_,af,cW _,X,cW _,G,af,af⟩⟩
 have aF:ax (a7 b<|aO (aO b<|aS #[ak am c,ak am mb,ak am d,ak am bA,ak am c2,ak am c3] 133)<|aS #[cV 284<|ak fs c,cV 284<|ak fs mb] 297):=(ct cd bv _).alloc aA _
 go_loopw [19,5] (λC v wr=>∃(j:Nat) (A:Option Addr) (x B:Nat),C=J j/\v=aL A x B/\j<=4/\ts wr (U b.1+1) (aL A x B) (amA (2+j)<|jM c mb d bA c2 c3)/\a7 b wr/\U b.1+1<U wr.1) λC _ _=>4-c7 (intOf C)
 ·exact⟨0,_,_,_,af,af,G,av,aF,aA⟩
 ·obtain⟨j,A,x,B,rfl,rfl,u,a3,q,br⟩:=hrel;have y:=ae a3;have a2:=ae q;have a0:=q.4;by_cases aV:j<4
  ·have⟨ba,ht,hw,aFJ⟩:=V aw j aV;have aB:=ae ht;have bB:(j:Int)<4:=G;have aX:E (amA (2+j)<|jM c mb d bA c2 c3)=2+j:=by simp[jM];omega
   go_wp2_with (at_builtin;go_loud (refine Gk _ af (.tmp 22) (.tmp 26) 285 af (U b.1+1) 297 i0 .nilIface 1 16 adz aN hz0 hz1 hz2 af bL _ (E<|amA (2+j)<|jM c mb d bA c2 c3) _ af (y.alloc _) (M (U wr.1) 0) 1 1 [cV 284<|ak fs ba] af af ?bA ?c2 ?c3 ?cD ?fB ?_))
   case bA =>
    intro D a5 hj
    match D,hj with
    | 0,hj=>exact Dn
    | x+1,hj=>grind
   case c2=>intro a5 K;simp at K;subst K;rfl
   case c3=>omega
   case cD=>omega
   case fB=>simp;omega
   intro bJ z Z T _;obtain⟨a6,a9,a8,rfl⟩:=qk Z;have aH:ax (ts z (U b.1+1) (aL a6 a9 a8)<|amA (2+(j+1))<|jM c mb d bA c2 c3):=by
    rw[ax,ts,V aB,dE,kq,aX,K1];exact Z
   have R:ax (a7 b z/\U b.1+1<U z.1):=⟨(ct a2 G _).grown T cx λa1 aY=>cj<|(y.lt a1 aY).1,by have:=T.4;exact DA⟩
   go_wp2;exact⟨⟨j+1,_,_,_,dH,af,G,aH,R.1,R.2⟩,ee⟩
  ·have aC:j=4:=G;subst aC;have ay:amA (2+4) (jM c mb d bA c2 c3)=jM c mb d bA c2 c3:=af;rw[ay]at y;have⟨fg,aRJ,hv,aFK,xQ⟩:=adx (mb:=a) (V y) (by simp[jM]) G;cases hv;have I:=ae (Ls (bq wr) (λf S=>by
    obtain⟨bD,bE,bF,bG,bH,bI⟩:=V aj;simp only[jM,gC,uf,tf]at S;rcases S with rfl|rfl|rfl|rfl|rfl|rfl<;>exact nM _ fN) xQ.1 (λD hj=>xQ.2.2.2 D hj) aFK (by grind) (by rw[Ht];omega))
   have W:=q.5 a ad;have P:co (bq wr) a 0 (bC t 0 (E g) n):=(ev W).trans aW;have bk:co wr a 0 (bC t 0 (E g) n):=P;have⟨Kq,UC,Jm,hown2⟩:=adC (V H) (h:=ew<|jM c mb d bA c2 c3) fN;have⟨vE,Z6⟩:=bi<|ew<|jM c mb d bA c2 c3
   have be:E vE=12:=by rw[Z6];rfl
   rw[<- Z6]at I hown2 Jm;have al:ax (∀i,Below (U (bq wr).1) (bq wr) i->(Builtin.copy_ #[58,9] 3 #[bC t 0 (E g) n,aZ vE]).run aK i=.ok (goInt (O vE).size) (i.setRow t<|dl<|amA 0 Kq.1++Lib.byteCells (O vE).1.1++bh (0+(O vE).size) Kq.1)):=λi ac=>by
    have l:=((ac.5 t<|show t<U wr.1 by omega).trans<|q.5 t aa).trans UC;exact Lib.run_copy_row_string i _ _ _ _ t 0 (E g) n (O vE) Kq 5 AC adA l m7 m7
   have an:ax (∀i,Below (U (bq wr).1) (bq wr) i->ib (i.setRow t<|dl<|amA 0 Kq.1++Lib.byteCells (O vE).1.1++bh (0+(O vE).size) Kq.1) o (bC t 0 (E g) n) (vE++bh (E vE) g)):=λi ac =>
    hown2 i (((ac.5 t<|show t<U wr.1 by omega).trans<|q.5 t aa).trans UC)
   generalize dl (amA 0 Kq.1++Lib.byteCells (O vE).1.1++bh (0+(O vE).size) Kq.1)=ab at *;have bc:=ae Z6;clear Z6 W;go_wp2
   go_region_held_law (λF=>aD F (M a 0)=ag (bC t 0 (E g) n)) (first|assumption|exact(cell_setRow_other _ _ _ _ bb).trans G)
    (first
     | (refine adB af (.tmp 32) (.tmp 34) 58 9 af af af (al _ ac) ?_)
     | (go_at_call 199;go_loud (refine I.m λi ac=>?_;have bn:=(ac.cell (p:=⟨a,0,ai⟩) (show a<U wr.1 by omega)).trans P)))
   rename_i bt;have ah:=V an i ac;have aU:=yc ah;have r:=bN q<|(bN cd.drew ac).mono a0;have bl:=y5 (V H) af;have a4:ax (Lp a o b<|i.setRow t ab):=⟨r.1,r.2,r.3,by rw[setRow_size];exact r.4,λj u w bz=>by
    by_cases l:j=t
    ·grind
    ·exact(setRow_other _ _ _ _ l).trans<|r.5 j u⟩
   have az:ax (vE++List.drop (List.length vE) g=ew (jM c mb d bA c2 c3)++bh 12 g):=by simp_all
   rw[V az]at aU;generalize i.setRow t ab=z at *;go_wp2;go_ret;exact⟨af,a4⟩
section
attribute [local go_sem] Oper.semAt_some undef
def adu(a:aQ):(Instr.makeSlice 56 (J 3)<|J 3).run aK a=.ok (bC (U a.1) 0 3 3) (aO a<|aS #[ak am 0,ak am 0,ak am 0] 3):=b8
end
section
attribute [local go_sem] Oper.semAt_some undef
end
def aeM{bA i cD fB gE j oH wS BI BJ l iZ n:bm}(H:a7 f b)(h:aD f (M a 0)=ag e/\aD f (M a 1)=ag bA/\aD f (M a 2)=ag F/\aD f (M a 3)=ag i/\aD f (M a 4)=ag cD/\aD f (M a 5)=ag fB/\aD f (M a 6)=ag gE/\aD f (M a 7)=ag j/\aD f (M a 8)=ag oH/\aD f (M a 9)=ag k/\aD f (M a 10)=ag wS/\aD f (M a 11)=ag BI/\aD f (M a 12)=ag BJ/\aD f (M (a+1) 2)=ag l/\aD f (M (a+1) 3)=ag iZ/\aD f (M (a+1) 4)=ag n):aD b (M a 0)=ag e/\aD b (M a 1)=ag bA/\aD b (M a 2)=ag F/\aD b (M a 3)=ag i/\aD b (M a 4)=ag cD/\aD b (M a 5)=ag fB/\aD b (M a 6)=ag gE/\aD b (M a 7)=ag j/\aD b (M a 8)=ag oH/\aD b (M a 9)=ag k/\aD b (M a 10)=ag wS/\aD b (M a 11)=ag BI/\aD b (M a 12)=ag BJ/\aD b (M (a+1) 2)=ag l/\aD b (M (a+1) 3)=ag iZ/\aD b (M (a+1) 4)=ag n:=by have c:∀(d:Addr) (v:bm),aD f d=ag v->aD b d=ag v:=λd v h=>(H.cell<|i8 f d h).trans h;obtain⟨o,p,u,w,x,y,z,A,B,C,q,r,t,D,g,G⟩:=h;exact⟨c _ _ o,c _ _ p,c _ _ u,c _ _ w,c _ _ x,c _ _ y,c _ _ z,c _ _ A,c _ _ B,c _ _ C,c _ _ q,c _ _ r,c _ _ t,c _ _ D,c _ _ g,c _ _ G⟩
def aeN(a:ap)(d:E a<=900):jV (jZ 12 a):=by intro e c;obtain⟨b,_,rfl⟩:=lZ.1 c;show 12+E a-E b<16384;omega
def aeO{g h f:Int}(j:im b a [p,x,g,h,i,f] 133)(e:Int):im (a_ b ⟨a,5,ai⟩<|ak am e) a [p,x,g,h,i,e] 133:=j.set 5 e
structure A7(s hb:Nat)(h0 h1 h2 h3 h4 h5:Int)(q n:ap)(k kc:Int)(op:Bool)(sz cK:Int)(rc:Int)(bR va vb vc:Value)(hs:List Int)(W:World):Prop where
 qu:iB W s h0 h1 h2 h3 h4 h5 q n k kc op sz cK
 an:gB W (s+1) (J rc) bR va vb vc
 hd:im W hb hs 133
 g:d3 W
def A7.keep{base:Nat}{w h A c:Int}{r t:Int}{z:Int}{y:Int}{C:bm}{q:List Int}(d:A7 a o x w h A c p g n r t l z i y e k F C q b)(j:∀B,B<base->f.1[B]? = b.1[B]?)(D:U b.1<=U f.1)(u:a+1<base)(H:o<base):A7 a o x w h A c p g n r t l z i y e k F C q f:=by have⟨g0,m,gc⟩:=d.4;exact⟨d.1.kept<|j _ G,(j _ G).trans d.2,(j _ G).trans d.3,⟨e8 g0 D,m,(ev<|j 0 G).trans gc⟩⟩
def jE.aqe(h:jE b f z a e k):jE b f z a e e:=⟨h.1,λ_ g=>.inl ⟨g,cW _⟩⟩
def aeQ{h ay aI}(size){mb i}(D:fX b a h g i)(a0:jV i)(aP:d3 b)(bu:h<=U b.1)(aM:0<h)(aT:0<a)(al:gr b o ay j)(bK:o<h)(a6:o≠a)(b6:E j<=aI)(cb:E j<=3001)(aB:∀e∈j,pH e<|mb e)(ca:E (eD mb j g i).1<=50000)(aV:E (eD mb j g i).2<=20000)(aX:size<(E (eD mb j g i).1:Int)):bd aK 203 #[N a,J size,bC o ay (E j) aI] b λz c=>z=bg (aG ao)/\fX c a h g i/\dP a h b c:=by
 have a5:=ae D;obtain⟨cg,cl,r,F,B⟩:=D;obtain⟨k,l,bA,rfl⟩:=qk F;obtain⟨n,p,K,rfl⟩:=qk B;have ce:=r.cells;have bS:=r.lt;have au:dP a h b (aO b<|aS #[aL k l bA,aL n p K] 283):=dP.vz<|ct cd bv _;have br:=ae (show fX (aO b<|aS #[aL k l bA,aL n p K] 283) a h g i from a5.below<|ct cd bv _);have bM:=ae au;have a9:=ae<|cv r<|cv F B;have bc:ax (eJ (aO b<|aS #[aL k l bA,aL n p K] 283) (U b.1) (aL k l bA)<|aL n p K):=du b _;have bj:U b.1≠a:=G;have a8:=ae aP;have bl:=ae al;have ab:=ae aB;have bR:=ae a0;have ba:=al.1;clear r F B aP al aB au a5 a0;go_wp2
 go_loopw [15] (λR wr=>∃(d:Nat),R=J d/\d<=E j/\fX wr a h (eD mb (amA d j) g i).1 (eD mb (amA d j) g i).2/\dP a h b wr/\eJ wr (U b.1) (aL k l bA) (aL n p K)) λR _=>E j-c7 (intOf R)
 ·exact⟨0,af,eb _,br,bM,bc⟩
 ·obtain⟨d,rfl,aR,S,y,I⟩:=hrel;have bJ:=ae I;have bk:=I.lt;have az:=ae S;have bp:=ae y;have cc:=y.4;by_cases aj:d<E j
  ·have cf:(d:Int)<E j:=G;have a4:=vR (V bl) y.4<|y.5 o ba a6<|.inl bK;have⟨q0,q1,q2,q3⟩:=a4.four d aj;have mq:=V ab j[d]<|eP aj;have bb:=ae<|UQ mb aj g i;have ar:=ae<|UX (V ab) g i<|d+1;have be:=ae<|(CA mb (amA d j) (λf bH=>V ab f<|zP bH) g i).2.2<|V bR;have ah:=(a8.tg y aM aT)
   have ad:a7 wr (aO wr<|aS #[amz<|O j[d].owner,ak am j[d].aP,ak am j[d].type,amz<|O j[d].data] 47):=ct cd bv _;have T:q_ (aO wr<|aS #[amz<|O j[d].owner,ak am j[d].aP,ak am j[d].type,amz<|O j[d].data] 47) (U wr.1) j[d]:=du wr _;have⟨e,H3⟩:=bi<|j[d];rw[<- H3]at q0 q1 q2 q3 mq ad T;obtain⟨H,A,bf⟩:∃H A,eD mb (amA d j) g i=(H,A):=⟨_,_,af⟩
   have aa:ax (eD mb (amA (d+1) j) g i=ka e (mb e) H A):=by
    grind
   have bn:ax (fX wr a h H A):=by grind
   have bo:ax (jV A):=by grind
   clear a4 S y H3 bb bf az be I;have bz:U wr.1≠a:=G;have av:ax (∀q,a7 wr q->q_ q (U wr.1) e->bd aK 254 #[ci #[aZ e.owner,J e.aP,J e.type,aZ e.data]] (bq q) λz c=>∃x w,z=bg (bC x 0 (E<|mb e) w) /\
     (aD c (M (U wr.1) 0)=ag (aZ e.owner)/\aD c (M (U wr.1) 1)=ag (J e.aP)/\aD c (M (U wr.1) 2)=ag (J e.type)/\aD c (M (U wr.1) 3)=ag (aZ e.data)) /\
     ax (E (mb e)<=w/\qh a c x (mb e)/\q_ c (U wr.1) e/\fX c a h H A/\d3 c/\(dP a h b c/\eJ c (U b.1) (aL k l bA) (aL n p K)))):=by
    intro q bG aW;have W:a7 wr (bq q):=bG.drew;refine(mq.4 (bq q)<|ah.below W).mono ?_;rintro z c ⟨⟨v,rfl,bI⟩,X⟩;obtain⟨x,w,rfl,an,aq⟩:=US (mb:=a) bI mq.6 (cj W.4);have Z:q_ c (U wr.1) e:=(X.5 _ (ea.1 aW).1).trans aW;have Y:a7 wr c:=bN W<|bV X W.4;have bO:dP a h wr c:=dP.vz Y;exact⟨x,w,af,Z.cells,an,aq,Z,bn.below Y,ah.below Y,bp.trans bO,bJ.kept<|Y.5 _ bk⟩
   have ap:ax (∀x w u,ax (E (mb e)<=w/\qh a u x (mb e)/\q_ u (U wr.1) e/\fX u a h H A/\d3 u/\(dP a h b u/\eJ u (U b.1) (aL k l bA) (aL n p K))) ->
     bd aK 139 #[N a,bC (U u.1) 0 5 5] (aO u<|aS #[cV 291<|amz<|O e.owner,cV 284<|ak fs<|c7 e.type,cV 284<|ak fs 1,cV 344<|ak .u32 e.aP,cV 293<|aL (ag ⟨x,0,ai⟩) (E<|mb e) w] 297) λz c =>
      z=bg (bX #[])/\(aD c (M (U wr.1) 0)=ag (aZ e.owner)/\aD c (M (U wr.1) 1)=ag (J e.aP)/\aD c (M (U wr.1) 2)=ag (J e.type)/\aD c (M (U wr.1) 3)=ag (aZ e.data)) /\
      ax (fX c a h (eD mb (amA (d+1) j) g i).1 (eD mb (amA (d+1) j) g i).2/\dP a h b c/\eJ c (U b.1) (aL k l bA) (aL n p K))):=by
    intro x w u ac;have⟨an,aq,Z,df,MC,Bv,X⟩:=V ac;have bE:=V ar;rw[V aa]at bE;refine(UY mq aM aT MC aq an df (V bo) (cU bu Bv.4) G G).m ?_;rintro c ⟨h2,P⟩;refine⟨af,(UZ Z P bz).cells,?_,Bv.trans P,P.box X bj bL bL⟩;rw[V aa];exact h2
   have bQ:fs.wrap e.type=(c7 e.type:Int):=QZ
   have co:DC IntKind.u32 (e.aP:Int)=(e.aP:Int):=by
    have h1:=mq.3;rw[BM];omega
   clear mq ar ah aa;have⟨tn,htn⟩:=bi<|c7 e.type;rw[<- htn]at bQ ap;clear htn;go_wp2;have a1:=ae<|av _ ad T;have aJ:=T.cells;clear ad T av q0 q1 q2 q3;generalize (aO wr<|aS #[amz<|O e.owner,ak am e.aP,ak am e.type,amz<|O e.data] 47)=q at *;have bF:(aD (bq q) (M (U wr.1) 0)=ag (aZ e.owner)/\aD (bq q) (M (U wr.1) 1)=ag (J e.aP)/\aD (bq q) (M (U wr.1) 2)=ag (J e.type)/\aD (bq q) (M (U wr.1) 3)=ag (aZ e.data)):=aJ;clear aJ
   go_region_held (λc=>aD c (M (U wr.1) 0)=ag (aZ e.owner)/\aD c (M (U wr.1) 1)=ag (J e.aP)/\aD c (M (U wr.1) 2)=ag (J e.type)/\aD c (M (U wr.1) 3)=ag (aZ e.data)) (first|assumption|go_keep)
    (first
     | (go_at_call 254;go_loud (refine a1.mono ?_;rintro z cm ⟨x,w,rfl,bs,aF⟩))
     | (go_at_call 139;go_loud (refine(ap _ _ _ aF).m ?_;rintro cn ⟨bB,bw⟩)))
   rename_i bD;clear bD bF bs bB aF a1 ap;go_wp2;have⟨h1,P,h4⟩:=V bw;exact⟨⟨d+1,dH,G,h1,P,h4⟩,ee⟩
  ·have bx:d=E j:=G;subst bx;rw[ld]at S;have aH:=ae y;obtain⟨ch,b0,Q,aU,_⟩:=S;obtain⟨b2,b4,rfl⟩:=UP aU;have b3:=Q.cells;have b7:=I.cells;have bU:=aX;have b_:=Q.frozen;have b1:=λbP=>(Q.set0 bP).frozen 1;have L:=ae Q;clear Q aU y az aX I;generalize E (eD mb j g i).1=bY at *;go_wp2;go_ret;have⟨r,F,B⟩:=V a9;have aR:=aH.6 _ _ r;obtain⟨b5,b8,bT,a2,a3⟩:=aR;have aY:=Ex r F;have aC:=Mz r B;have aw:=(L.set0<|aL k l bA).set1<|aL n p K;have ac:=(ya (V L) (t:=5) bL 0 (aL k l bA) (aL k l bA) 1).trans (ya (L.set0<|aL k l bA) bL 1 (aL n p K) _ 1) aA;have bt:=(ya (V L) (t:=343) bL 0 (aL k l bA) (aL n p K) 2).trans (ya (L.set0<|aL k l bA) bL 1 (aL n p K) _ 2) aA;have C:=V aH;refine⟨af,⟨_,_,aw,sU (sU (a2.alV F) aY _ _) aY _ _,sU (sU (a3.alV B) aC _ _) aC _ _⟩,C.1,C.2,C.3,by simp_all,λR aN D aV=>((dJ _ _ _ _ D).trans<|dJ _ _ _ _ D).trans<|C.5 R aN D aV,lw.of r aw (a2.aqe.trans ac C.4)<|a3.aqe.trans bt C.4⟩
section
attribute [local go_sem] Oper.semAt_some undef
structure AP(mb base s:Nat)(w:World)(ds:List Nat)(cs:List Int)(d:Nat)(S:ap×hi)(W:World):Prop where
 b2:cy W (s+2) (bC (s+3) 0 3 3) 56
 b3:im W (s+3) cs 3
 msg:n_ W mb base d S.1 S.2
 tg:dP mb base w W
 defs:∀x∈ds,W.heap[x]? = some (.deferred (some []))
def AP.keeps{e:List Nat}{cs:List Int}{i:Nat}{k:ap×hi}(j:AP a o P b e cs i k f)(d:eL i f m)(q:P+4<i)(r:a<i)(l:U b.1<=i)(p:∀c∈e,c≠i):AP a o P b e cs i k m :=
 ⟨cy.kept j.1<|d.5 _ (cy.lt j.1) G,(d.5 _ (ea.1 j.2).1 G).trans j.2,j.3.keeps d G,j.4.keeps d l,λc g=>(d.5 c (ea.1<|j.5 c g).1<|p c g).trans<|j.5 c g⟩
end
section
attribute [local go_sem] Oper.semAt_some
structure my where
 S:ap×hi
 cs:List Nat
 full:Bool
def jU(size:Int)(a:D->List jK)(c:Nat):List (List D)->my->my
 | [],aH=>aH
 | b::d,aH=>if aH.3=aE then aH else if size<(E (eD a b aH.1.1 aH.1.2).1:Int)then { aH with full:=aE }
  else jU size a c d { aH with S:=eD a b aH.1.1 aH.1.2,cs:=aH.2.set c (aH.2.getD c 0+E b) }
def mQ(size:Int)(a:D->List jK):Nat->List (List D)->my->my
 | _,[],aH=>aH
 | b,c::d,aH=>mQ size a (b+1) d (jU size a b (b9 (·.2)<|dw dj c) aH)
def Jx{b:D->List jK}{d:List<|List D}{aH:my}(c:aH.3=aE):jU i b a d aH=aH:=by
 cases d with
 | nil=>rfl
 | cons e d=>unfold jU;rw[b7 c]
def XO{d:D->List jK}: ∀ {b:Nat} {c:List<|List D} {aH:my},aH.3=aE->mQ i d b c aH=aH
 | _,[],_,_=>af
 | b,e::c,aH,a=>by unfold mQ;rw[Jx a];exact XO a
def NL{b:D->List jK}{c:List<|List D}{aH:my}(d:aH.3=ao)(e:i<(E (eD b j aH.1.1 aH.1.2).1:Int)):jU i b a (j::c) aH = { aH with full:=aE }:=by unfold jU;rw[bJ (by rw[d];simp),b7 e]
def NO{b:D->List jK}{d:List<|List D}{aH:my}(e:aH.3=ao)(g:¬i<(E (eD b j aH.1.1 aH.1.2).1:Int)):jU i b a (j::d) aH=jU i b a d { aH with S:=eD b j aH.1.1 aH.1.2,cs:=aH.2.set a (aH.2.getD a 0+E j) }:=by
 conv=>lhs;unfold jU
 rw[bJ (by rw[e];simp),bJ g]
def qJ(c:List Nat)(a:aQ):aQ:=c.foldl (λa b=>eF a b<|dq ai) a
def NP:∀(b:List Nat) (c:aQ) (a:Nat),a ∉ b->(qJ b c).1[a]? = c.1[a]?
 | [],_,_,_=>af
 | e::b,c,a,d=>by simp only[gC,not_or]at d;show(qJ b<|eF c e<|dq ai).1[a]? = _;rw[NP b _ a d.2,kW d.1]
def NS:∀(b:List Nat) (a:aQ),(qJ b a).4=a.4/\(qJ b a).2=a.2/\(qJ b a).5=a.5/\U (qJ b a).1=U a.1
 | [],_=>⟨af,af,af,af⟩
 | d::b,a=>by have c:=NS b<|eF a d<|dq ai;exact⟨c.1,c.2.1,c.2.2.1,c_ c.2.2.2<|by simp[World.putObj_size]⟩
def XP(a:Nat):Deferred:={ target:=.collected a,args:=#[] }
def NT{l:Fence}{h:Func}{k:Array bm}{e:nO->aQ->Prop}: ∀(p:List Nat) (b:aQ),p.Nodup->(∀c∈p,b.1[c]? = ag (dq<|ag []))->(∃v,(dr h k).run aK (qJ p b)=.ok v (qJ p b)/\e (bg v) (qJ p b))->LeavesInM l a aK h k e (b9 XP p) .returning b
 | [],_,_,_,d=>d
 | c::p,b,o,g,d=>by have i:=K3.1 o;refine⟨aA,.inl ⟨c,eF b c<|dq ai,af,run_takeDeferred<|g c aA,?_⟩⟩;exact NT p _ i.2 (λq j=>(kW λn=>i.1 (by rw[<- n];exact j)).trans<|g q<|by simp[j]) d
def ku(d:D->List jK)(a:Nat)(c:List D)(aH:my)(b:Nat):my:=⟨eD d (oj c b) aH.1.1 aH.1.2,aH.2.set a<|aH.2.getD a 0+E (oj c b),ao⟩
def NU(c:D->List jK)(a:Nat)(e:List D){aH:my}(aN:a<E aH.2)(b:aH.3=ao):ku c a e aH 0=aH:=by unfold ku;rw[adp];have d:aH.2.set a (aH.2.getD a 0+E ([]:List D))=aH.2:=by{rw[jw,gw aN];simp};rw[d];cases aH;simp only at b;subst b;rfl
def ahH(d:D->List jK)(b:Nat)(aH:my){e:Nat×List D}(h:(dw dj j)[a]? = ag e)(aN:b<E aH.2):ku d b j aH (a+1) = { ku d b j aH a with S:=eD d e.2 (ku d b j aH a).1.1 (ku d b j aH a).1.2,cs:=(ku d b j aH a).2.set b ((ku d b j aH a).2.getD b 0+E e.2) }:=by unfold ku;rw[adr h,UR,dE];have g:(aH.2.set b<|aH.2.getD b 0+E (oj j a)).getD b 0=aH.2.getD b 0+E (oj j a):=by{rw[jw,K0<|by exact aN];rfl};simp only[g,List.set_set,rV]
def ahI{d:Nat×List D}(c:(dw dj j)[a]? = ag d):bh a (b9 (·.2)<|dw dj j)=d.2::bh (a+1) (b9 (·.2)<|dw dj j):=by have g:=(j_.1 c).1;have e:=(j_.1 c).2;rw[lA (by rw[fC];exact g),rS,e]
def Pg{P:Prop}(h:P:=by
 rcases gC.1 aR with rfl|aR
 ·exact dN
 ·exact hX.5 d aR):P:=h
def HP{P:Prop}(h:P:=by rw[Oq]at hc;cases hc):P:=h
def Ij{P:Prop}(h:P:=by rw[gj]at hc;simp at hc):P:=h
def Rj{P:Prop}(h:P:=by
 have aR:=qN.7 x hx;refine⟨λe=>?_,λe=>?_,λe=>?_,(ea.1 aR).1⟩
 ·have⟨vb,vp,h1,_⟩:=qN.3.msg;unfold eJ at h1;rw[e,h1]at aR;cases aR
 ·have h3:=qN.1.4;unfold im at h3;rw[e,h3]at aR;cases aR
 ·have h2:=qN.1.3;unfold cy at h2;rw[e,h2]at aR;cases aR):P:=h
def ahK{lb:Nat}(size:Int)(j:D->List jK){ad:bm}(Y Z aa:List D)(I:ap×hi)(b_:fX b a o I.1 I.2)(dh:jV I.2)(B:d3 b)(b5:o<=U b.1)(bf:0<o)(bk:0<a)(co:b.1[lb]? = ag (aS #[k,F,ad] 41))(cn:lb≠a)(df:∀c,c<3->∃ay n z h K au,[k,F,ad][c]? = ag (aL ay n z)/\[Y,Z,aa].drop c=h::[Y,Z,aa].drop (c+1)/\Cm (aL ay n z) K au h/\gr b K au h/\K<o/\K≠a/\E h<=3001/\(∀x∈h,pH x<|j x)/\n=E h /\
   ∀x∈dw dj h,∀(aI:ap) (aJ:hi),jV aJ->E aI<=1300->E aJ<=E aI+300->E (eD j x.2 aI aJ).1<=50000/\E (eD j x.2 aI aJ).2<=20000/\E (eD j x.2 aI aJ).2<=E (eD j x.2 aI aJ).1+300)(dp:size<=1300)(c2:E I.1<=1300)(cT:E I.2<=E I.1+300):bd aK 137 #[N a,J size,bC lb 0 3 3] b λe W=>e=bg (bC (U b.1+3) 0 3 3)/\im W (U b.1+3) ((mQ size j 0 [Y,Z,aa] ⟨I,[0,0,0],ao⟩).2.map λn:Nat=>(n:Int)) 3/\fX W a o (mQ size j 0 [Y,Z,aa] ⟨I,[0,0,0],ao⟩).1.1 (mQ size j 0 [Y,Z,aa] ⟨I,[0,0,0],ao⟩).1.2/\dP a o b W:=by
 have:=b_.lt;have cH:=(ea.1 co).1;have:=B.1;have cz:=ae df;have cG:ax (∀l,a7 b l->t6 (U b.1) a size [0,0,0] l->oa a o (U b.1) lb size #[k,F,ad] b [] [0,0,0] a I l):=λl bc t=>by
  have c3:dP a o b l:=dP.vz bc;exact⟨t,(bc.5 lb cH).trans co,I1<|b_.below bc,dh,B.below bc,c3,λx hx=>by cases hx⟩
 have⟨FIN,Oh⟩:=dK<|mQ size j 0 [Y,Z,aa] ⟨I,[0,0,0],ao⟩
 rw[Oh];have cX:=ae Oh;refine(ez (n:=0)).1 ?_;refine callsIn_of_wp_marks func137 af cE ?_;simp only[ntmps137,ox,ey,h8,Nat.reduceAdd,Nat.reduceSub,ov,oQ,oS,oR,jz,g_];have:=adu;gi_wp2_with fail;have⟨V0,qd⟩:=bi<|aO (aO (aO (aO (aO b<|aS #[cM<|ag ⟨a,0,ai⟩] 216)<|aS #[ak am size] 3)<|aS #[aL ai 0 0] 56)<|aS #[ak am 0,ak am 0,ak am 0] 3)<|aS #[aL (ag ⟨U b.1+1+1+1,0,ai⟩) 3 3] 56
 have cN:ax (oa a o (U b.1) lb size #[k,F,ad] b [] [0,0,0] a I V0):=by
  rw[qd];refine V cG _ ((((ct cd bv _).alloc aA _).alloc cx _).alloc cx _ |>.alloc cx _) ?_;have dg:=du b<|aS #[cM<|ag ⟨a,0,ai⟩] 216;have cc:=du (aO b<|aS #[cM<|ag ⟨a,0,ai⟩] 216)<|aS #[ak am size] 3;have ce:=du (aO (aO b<|aS #[cM<|ag ⟨a,0,ai⟩] 216)<|aS #[ak am size] 3)<|aS #[aL ai 0 0] 56;have cf:=du (aO (aO (aO b<|aS #[cM<|ag ⟨a,0,ai⟩] 216)<|aS #[ak am size] 3)<|aS #[aL ai 0 0] 56)<|aS #[ak am 0,ak am 0,ak am 0] 3;have cg:=du (aO (aO (aO (aO b<|aS #[cM<|ag ⟨a,0,ai⟩] 216)<|aS #[ak am size] 3)<|aS #[aL ai 0 0] 56)<|aS #[ak am 0,ak am 0,ak am 0] 3)<|aS #[aL (ag ⟨U b.1+1+1+1,0,ai⟩) 3 3] 56;simp only[gd]at cc ce cf cg;refine⟨?_,?_,?_,?_,cg⟩
  ·exact(dT _ _ _ hV).trans<|(dT _ _ _ hV).trans<|(dT _ _ _ hV).trans<|(dT _ _ _ hV).trans dg
  ·exact(dT _ _ _ hV).trans<|(dT _ _ _ hV).trans<|(dT _ _ _ hV).trans cc
  ·exact(dT _ _ _ hV).trans<|(dT _ _ _ hV).trans ce
  ·exact(dT _ _ _ hV).trans cf
 rw[<- qd];refine wpIn_loop (λay g=>∃(c:Nat) (ac:List Nat) (aH:my) (u8 u9 bO bQ bR u20 u21 u22 u38:bm),ay=⟨#[N a,J size,bC lb 0 3 3,N<|U b.1,N<|U b.1+1,fv,N<|U b.1+1+1,N<|U b.1+1+1+1+1,u8,u9,fv,bC lb 0 3 3,J 3,bC (U b.1+1+1+1) 0 3 3,bC lb 0 3 3,J 3,J c,bO,bQ,bR,u20,u21,u22,fv,fv,fv,fv,fv,fv,fv,fv,fv,fv,fv,fv,fv,fv,fv,u38,fv],b9 XP ac⟩/\c<=3/\(ac.Nodup/\∀x∈ac,U b.1<=x)/\E aH.2=3/\aH.3=ao/\(∀z∈aH.2,z<=3001*c)/\E aH.1.1<=1300/\E aH.1.2<=E aH.1.1+300/\ax (oa a o (U b.1) lb size #[k,F,ad] b ac (aH.2.map λn:Nat=>(n:Int)) a aH.1 g)/\ax (mQ size j c ([Y,Z,aa].drop c) aH=FIN)) (λay _=>3-c7 (intOf<|ay.1.getD 16 fv)) ?_ ?_
 ·exact⟨0,[],⟨I,[0,0,0],ao⟩,fv,fv,fv,fv,fv,fv,fv,fv,fv,af,G,⟨List.nodup_nil,λx hx=>by cases hx⟩,af,af,(λz hc=>by simp at hc;omega),c2,cT,cN,cX⟩
 ·rintro _ l ⟨c,ac,aH,u8,u9,bO,bQ,bR,u20,u21,u22,u38,rfl,aN,⟨a0,a4⟩,c4,aU,aY,bD,bE,bw,b4⟩;by_cases bM:c<3
  ·have:(c:Int)<3:=G;obtain⟨bG,ds,bH,h,K,au,T,bx,cO,b7,bl,a5,bB,di,rfl,da⟩:=V cz c bM;have:aD l (M lb c)=ag (aL bG (E h) bH):=by
    have:=bw.2;unfold aD;rw[this]
    match c,bM,T with
    | 0,_,T=>simpa using T
    | 1,_,T=>simpa using T
    | 2,_,T=>simpa using T
   have qN:=V bw;have y:∀x∈ac,x≠a/\x≠U b.1+3/\x≠U b.1+2/\x<U l.1:=λx hx=>Rj
   have:=qN.1.lt;have:=qN.3.msg.lt;have:=qN.6.4;gi_wp2_with fail;refine⟨cE,af,?_⟩;refine(ez.2<|ado _ _ _ _).m ?_;rintro q ⟨cY,ch,b3,bS⟩;have cS:cy q (U l.1) (J c) 3:=(cy.qf _ _ _).below ch aA;have cP:a7 l q:=(ct cd bv _).trans<|bV ch aA;simp only[gd]at cY b3 bS;have:U l.1+3<=U q.1:=G;have bK:=ae<|NU j c h G aU;have a6:ax (oa a o (U b.1) lb size #[k,F,ad] b ac ((ku j c h aH 0).2.map λn:Nat=>(n:Int)) (U q.1+1) (ku j c h aH 0).1 q):=by
    rw[ax,V bK];exact(qN.below cP).re _ ⟨λO hc=>cj<|(ea.1 hc).1,λO hc=>cj<|(ea.1 hc).1⟩
   have ah:=ae<|cv cS<|cv b3 bS;have⟨ST1,Oi⟩:=dK (jU size j c (b9 (·.2)<|dw dj h) aH)
   have cm:ax (mQ size j (c+1) ([Y,Z,aa].drop<|c+1) ST1=FIN):=by
    have:=V b4;rw[bx,mQ,Oi]at this;exact this
   have cZ:ax (jU size j c (bh 0 (b9 (·.2)<|dw dj h)) (ku j c h aH 0)=ST1):=by rw[ax,V bK,sk];exact Oi
   have dd:=ae di;have cw:=ae da;have cu:=ae b7;have cI:=ae cO;have cF:=b7.1;gi_wp2_with fail;have bA:∀aM,a7 q (aO (aO q<|dq<|ag [])<|.loop aM):=λaM=>(ct cd bv _).alloc aA _;have a8:∀g,dP a o b g->gr g K au h:=λg ca=>vR (V cu) ca.4<|ca.5 K cF a5<|.inl bl;refine JN (xs:=dw dj h) (encs:=λx:Nat×List D=>#[bC K (au+x.1*4) (E x.2)<|E x.2]) (St:=λaP aT=>a7 aP aT) (Kp:=lY (U l.1+1) (U l.1+1+1) K) (Kx:=λ_ _=>True)
    (gf:=233) (lb:=#[N<|U l.1+1,N<|U l.1+1+1]) af (enters_of func233 b8 af) (λ_=>af) ?aLC
    [U l.1+1,U l.1+1+1,K] cx (λaP aT i=>i) (λaP aT i c0=>⟨c0,i _ aA,i _ aA,i _ aA⟩) (λ_ _=>cE)
    (λu g=>oa a o (U b.1) lb size #[k,F,ad] b ac ((ku j c h aH u).2.map λn:Nat=>(n:Int)) (U q.1+1) (ku j c h aH u).1 g/\cy g (U l.1) (J c) 3/\cy g (U l.1+1) (aL bG (E h) bH) 41/\cy g (U l.1+1+1) (.func (.func 177) #[] #[]) 261 /\
     ax (jU size j c (bh u (b9 (·.2)<|dw dj h)) (ku j c h aH u)=ST1)/\E (ku j c h aH u).1.1<=1300/\E (ku j c h aH u).1.2<=E (ku j c h aH u).1.1+300)
    (λz g=>z=.ret/\AP a o (U b.1) b ac (FIN.2.map λn:Nat=>(n:Int)) (U q.1+1) FIN.1 g)
    (λu aP aT i c1 r=>⟨i.1.keeps r G G G G λx hx=>cj<|(y x hx).2.2.2,cy.kept i.2.1<|r.5 _ (cy.lt i.2.1) G,cy.kept i.2.2.1<|r.5 _ (cy.lt i.2.2.1) G,cy.kept i.2.2.2.1<|r.5 _ (cy.lt i.2.2.2.1) G,i.2.2.2.2⟩)
    (λz aP aT i c1 r=>⟨i.1,i.2.keeps r G G G λx hx=>cj<|(y x hx).2.2.2⟩)
    ⟨a6,ah.1,ah.2.1,ah.2.2,cZ,by rw[NU j c h G aU];exact bD,by rw[NU j c h G aU];exact bE⟩
    ?round0 ?aLD ?aLE
   case aLC =>
    intro aM;have B:=bA aM;exact LO (V cI) ((B.cell (p:=⟨U l.1+1,0,ai⟩) (by show U l.1+1<U q.1;omega)).trans (cy.cell ah.2.1)) ((B.cell (p:=⟨U l.1+1+1,0,ai⟩) (by show U l.1+1+1<U q.1;omega)).trans (cy.cell ah.2.2)) ((a8 q a6.6).below B) (cj B.4) (cj B.4) bB
   case aLE =>
    intro z g aW dN bT;obtain⟨rfl,hX⟩:=aW;have:=cy.lt hX.1;have:=hX.3.msg.lt;have cQ:U q.1 ∉ ac:=λi=>cj<|(y _ i).2.2.2
    have C:∀x,x ∉ U q.1::ac->(qJ (U q.1::ac) g).1[x]? = g.1[x]?:=λx bz=>NP _ g x bz;have av:∀x,x<U q.1->(∀X∈ac,x≠X)->x ∉ U q.1::ac:=λx h1 h2 i=>by
     rcases gC.1 i with i|i
     ·omega
     ·exact h2 x i af
    have bu:aD (qJ (U q.1::ac) g) (M (U b.1+1+1) 0)=ag (bC (U b.1+3) 0 3 3):=(ev<|C (U b.1+2)<|av _ G λX aq e=>(y X aq).2.2.1<|bZ e).trans<|cy.cell hX.1;have cR:=ae hX;have cJ:=ae cQ;have cK:=ae av;have dk:=ae C;gi_wp2_with fail;have hX:=V cR;have C:=V dk;have av:=V cK;refine NT (U q.1::ac) g (K3.2 ⟨cJ,a0⟩) (λd aR=>?_) ⟨bC (U b.1+3) 0 3 3,by simp[dr,results137,go_sem,bu],af,?_,?_,?_⟩
    ·exact Pg
    ·exact(C _<|av _ G λX aq e=>(y X aq).2.1<|bZ e).trans hX.2
    ·have⟨dW,fG,vF,rj,sK⟩:=hX.3.msg;have bU:∀d∈U q.1::ac,g.1[d]? = ag (dq<|ag []):=λd aR=>by
      exact Pg
     refine⟨dW,fG,vF.kept<|C a<|av a G λX aq e=>(y X aq).1<|bZ e,pR rj λP B=>?_,pR sK λP B=>?_⟩
     ·have⟨O,bP⟩:=y5 rj B;exact C P (λe=>by rw[bU P e]at bP;cases bP)
     ·have⟨O,bP⟩:=y6 sK B;exact C P (λe=>by rw[bU P e]at bP;cases bP)
    ·have⟨aB,aC,aF,k4⟩:=NS (U q.1::ac) g;exact hX.4.same aB aC aF (by rw[k4];exact cW _) λx hx=>C x<|av x G λX aq e=>cj<|a4 X aq
   case round0 =>
    intro cb u x dn g hx aW bT an dm;obtain⟨t,br,a2,a3,aw,aV,aZ⟩:=aW;have az:=rM hx;have dc:=yB az;have bb:=Av (a8 g t.6) az;have be:=V cw x az _ _ t.4 aV aZ;have aj:=ahH j c aH hx G;have bj:=ahI hx;have cl:=cU (Nf h u) bB;have aX:c<E (ku j c h aH u).2:=by unfold ku;simp;omega
    have b0:(ku j c h aH u).2.getD c 0<=3001*c+3001:=by
     have h1:(ku j c h aH u).2.getD c 0=aH.2.getD c 0+E (oj h u):=by
      unfold ku;rw[jw,K0 G];rfl
     have h2:aH.2.getD c 0<=3001*c:=by
      rw[jw,gw G];exact aY _<|eP _
     omega
    have a9:(ku j c h aH u).3=ao:=af;have a1:=λaM c6=>V dd aM<|Ng az c6;have ba:=(CA j x.2 a1 (ku j c h aH u).1.1 (ku j c h aH u).1.2).2.2 t.4;generalize ku j c h aH (u+1)=S at *;generalize ku j c h aH u=R at *;have⟨Om,rC⟩:=dK<|eD j x.2 R.1.1 R.1.2
    rw[rC]at be aj ba;have⟨L,hcc⟩:=bi<|R.2.getD c 0;rw[<- hcc]at aj b0;have:=cy.cell t.1.1;have:=cy.cell t.1.2;obtain⟨de,al⟩:=dm;have bn:∀ab,dP a o g ab->ab.1[U q.1+1]? = ag (.loop de)/\ab.1[U q.1]? = ag (dq<|ag []):=λab A =>
     ⟨(A.5 (U q.1+1) G G<|.inr ⟨λz hc=>(by rw[al]at hc;cases hc),λz hc=>by rw[al]at hc;cases hc⟩).trans al,(A.5 (U q.1) G G<|.inr ⟨λz hc=>(by rw[an]at hc;cases hc),λz hc=>by rw[an]at hc;cases hc⟩).trans an⟩
    by_cases bo:size<(E Om.1:Int)
    ·have bs:ax (bd aK 203 #[N a,J size,bC K (au+x.1*4) (E x.2)<|E x.2] g λe W =>
       e=bg (aG ao)/\fX W a o R.1.1 R.1.2/\dP a o g W) :=
      aeQ size t.3.msg t.4 t.5 (cU b5 t.6.4) bf bk bb bl a5 bv G a1 (by rw[rC];omega) (by rw[rC];omega) (by rw[rC];exact bo)
     have cA:ax (FIN = { R with full:=aE }):=by
      have h1:=V aw;rw[bj,NL a9 (by rw[rC];exact bo)]at h1;have h2:=V cm;rw[<- h1,XO af]at h2;exact bZ h2
     have bI:ax (∀ab,fX ab a o R.1.1 R.1.2->dP a o g ab ->
       aD ab (M (U b.1+1+1+1+1) 0)=ag (bC (U b.1+1+1+1) 0 3 3)/\aD ab (M (U b.1+1+1) 0)=ag (bY)/\ab.frozen? (M (U b.1+1+1) 0)=ao /\
       ax (ju (U q.1) g (a_ ab ⟨U b.1+1+1,0,ai⟩<|aL (ag ⟨U b.1+1+1+1,0,ai⟩) 3 3)/\AP a o (U b.1) b ac (FIN.2.map λn:Nat=>(n:Int)) (U q.1+1) FIN.1 (a_ ab ⟨U b.1+1+1,0,ai⟩<|aL (ag ⟨U b.1+1+1+1,0,ai⟩) 3 3))):=by
      intro ab ar A;have⟨Oq,aiK⟩:=bn ab A;have Q:=t.fit A ar t.4 G cn bf bk (λx hx=>(y x hx).1) ⟨λO hc=>HP,λO hc=>HP⟩;have w:∀H,H≠U b.1+2->(a_ ab ⟨U b.1+1+1,0,ai⟩<|aL (ag ⟨U b.1+1+1+1,0,ai⟩) 3 3).1[H]? = ab.1[H]?:=λH r=>dJ _ _ _ _ r;have gj:=Q.1.3;rw[V cA];refine⟨cy.cell Q.1.5,cy.cell gj,cy.frozen gj,⟨cU A.4 oF,(w _ G).trans<|c_ aiK<|bZ an,(w _ G).trans<|c_ Oq<|bZ al⟩,cy.set gj _,(w _ G).trans Q.1.4,CC Q.3 ⟨λz hc=>Ij,λz hc=>Ij⟩ G w,Q.6.same af af af oF λc aN=>w c G,λx hx=>(w x (y x hx).2.2.1).trans<|Q.7 x hx⟩
     clear t br a2 a3 az bb an al hx a6 ah bA a8 be aj bj ba bn aw rC hcc a9 cl aX b0 a1 dc aV aZ aY bD bE aU a0 a4 y;gi_wp2_with fail;refine⟨cE,?_⟩;gi_wp2_with fail;refine⟨cE,af,?_⟩;refine(CallsIn.inRound cb<|ez.2<|V bs).m ?_;rintro ab ⟨ar,A⟩;have⟨aB,aC,aF,bt⟩:=V bI ab ar A;gi_wp2_with fail;exact⟨bt.1,af,bt.2⟩
    ·have b1:(E Om.1:Int)<=size:=G;have bs:ax (bd aK 203 #[N a,J size,bC K (au+x.1*4) (E x.2)<|E x.2] g λe W =>
       e=bg (aG aE)/\fX W a o Om.1 Om.2/\dP a o g W):=by
      have:=ady size t.3.msg t.4 t.5 (cU b5 t.6.4) bf bk bb bl a5 bv G a1 (by rw[rC];omega) (by rw[rC];omega) (by rw[rC];exact b1);rw[rC]at this;exact this
     have b6:ax (jU size j c (bh (u+1) (b9 (·.2)<|dw dj h)) S=ST1):=by
      have h1:=V aw;rw[bj,NO a9 (by rw[rC];exact bo),rC,<- hcc]at h1;rw[ax,aj];exact h1
     have bp:S.1=Om:=by rw[aj]
     have cp:(S.2.map λn:Nat=>(n:Int))=(R.2.map λn:Nat=>(n:Int)).set c (L+E x.2:Int):=by rw[aj,GK];simp
     have bJ:(R.2.map λn:Nat=>(n:Int))[c]? = ag (L:Int):=by rw[vy,gw aX,hcc,jw,gw aX];rfl
     have bI:ax (∀ab,fX ab a o Om.1 Om.2->dP a o g ab ->
       aD ab (M (U b.1+1+1+1+1) 0)=ag (bC (U b.1+1+1+1) 0 3 3)/\aD ab (M (U l.1) 0)=ag (J c)/\aD ab (M (U b.1+1+1+1) c)=ag (J L)/\ab.frozen? (M (U b.1+1+1+1) c)=ao /\
       ax (ju (U q.1) g (a_ ab ⟨U b.1+1+1+1,c,ai⟩<|ak am (L+E x.2:Int))/\(∀bF∈[U l.1+1,U l.1+1+1,K],(a_ ab ⟨U b.1+1+1+1,c,ai⟩<|ak am (L+E x.2:Int)).1[bF]? = g.1[bF]?) /\
        (oa a o (U b.1) lb size #[k,F,ad] b ac (S.2.map λn:Nat=>(n:Int)) (U q.1+1) S.1 (a_ ab ⟨U b.1+1+1+1,c,ai⟩<|ak am (L+E x.2:Int))/\cy (a_ ab ⟨U b.1+1+1+1,c,ai⟩<|ak am (L+E x.2:Int)) (U l.1) (J c) 3/\cy (a_ ab ⟨U b.1+1+1+1,c,ai⟩<|ak am (L+E x.2:Int)) (U l.1+1) (aL bG (E h) bH) 41/\cy (a_ ab ⟨U b.1+1+1+1,c,ai⟩<|ak am (L+E x.2:Int)) (U l.1+1+1) (.func (.func 177) #[] #[]) 261 /\
         ax (jU size j c (bh (u+1) (b9 (·.2)<|dw dj h)) S=ST1)/\E S.1.1<=1300/\E S.1.2<=E S.1.1+300))):=by
      intro ab ar A;have⟨Oq,aiK⟩:=bn ab A;have Q:=t.fit A ar ba G cn bf bk (λx hx=>(y x hx).1) ⟨λO hc=>HP,λO hc=>HP⟩;have cq:=A6 br A G bL bL;have cr:=A6 a2 A G bL bL;have cs:=A6 a3 A G bL bL;have db:=Q.set c (L+E x.2:Int) G G bv λx hx=>(y x hx).2.1;have w:∀H,H≠U b.1+3->(a_ ab ⟨U b.1+1+1+1,c,ai⟩<|ak am (L+E x.2:Int)).1[H]? = ab.1[H]?:=λH r=>dJ _ _ _ _ r;refine⟨cy.cell Q.1.5,cy.cell cq,(Q.1.4.cell c (by rw[fC];exact aX)).trans<|by rw[(j_.1 bJ).2],Q.1.4.frozen c,⟨cU A.4 oF,(w _ G).trans<|c_ aiK<|bZ an,(w _ G).trans<|c_ Oq<|bZ al⟩,λbF r=>?_,?_,cy.kept cq<|w _ G,cy.kept cr<|w _ G,cy.kept cs<|w _ G,b6,by rw[bp];omega,by rw[bp];exact be.2.2⟩
      ·simp only[gC,uf,tf]at r;rcases r with rfl|rfl|rfl
       ·exact(w _ G).trans<|c_ cr<|bZ a2
       ·exact(w _ G).trans<|c_ cs<|bZ a3
       ·exact(w _ G).trans<|A.5 _ (cj t.6.4) a5<|.inl bl
      ·rw[bp,cp];exact db
     clear t br a2 a3 az bb an al hx a6 ah bA a8 be aj bj ba bn aw rC hcc a9 cl aX a1 aV aZ aY bD bE aU a0 a4 y bp cp bJ b6 bo b1;gi_wp2_with fail;refine⟨cE,?_⟩;gi_wp2_with fail;refine⟨cE,af,?_⟩;refine(CallsIn.inRound cb<|ez.2<|V bs).m ?_;rintro ab ⟨ar,A⟩;have⟨aB,aC,aF,k4,bt⟩:=V bI ab ar A;gi_wp2_with fail;exact⟨bt.1,bt.2.1,bt.2.2⟩
   case aLD =>
    intro g aW dN bT;obtain⟨t,br,a2,a3,aw,aV,aZ⟩:=aW;have c5:ku j c h aH (E<|dw dj h)=ST1:=by
     have:=V aw;rw[D8 (by rw[fC];exact cW _)]at this;exact this
    have b2:=ae t;have c9:=ae c5;gi_wp2_with fail;refine⟨⟨c+1,U q.1::ac,ku j c h aH<|E<|dw dj h,_,_,_,_,_,_,_,_,_,af,G,⟨K3.2 ⟨λi=>cj<|(y _ i).2.2.2,a0⟩,λx hx=>?_⟩,?_,af,λz hc=>?_,aV,aZ,?_,?_⟩,ee⟩
    ·rcases gC.1 hx with rfl|hx
     ·omega
     ·exact a4 x hx
    ·unfold ku;simp;exact c4
    ·unfold ku at hc;rcases K2 hc with hc|hc
     ·have:=aY z hc;omega
     ·have h2:aH.2.getD c 0<=3001*c:=by
       rw[jw,gw G];exact aY _<|eP _
      have:=cU (Nf h<|E<|dw dj h) bB;omega
    ·have i:=b2.re a (by
      have⟨vb,vp,h1,_⟩:=b2.3.msg;unfold eJ at h1;exact⟨λO hc=>(by rw[h1]at hc;simp at hc),λO hc=>by rw[h1]at hc;simp at hc⟩)
     exact⟨i.1,i.2,i.3,i.4,i.5,i.6,λx hx=>by
      rcases gC.1 hx with rfl|hx
      ·exact dN
      ·exact i.7 x hx⟩
    ·rw[ax,V c9];exact cm
  ·obtain rfl:c=3:=G;have qN:=V bw;have y:∀x∈ac,x≠a/\x≠U b.1+3/\x≠U b.1+2/\x<U l.1:=λx hx=>Rj
   have c8:aH=FIN:=V b4;have aB:=cy.cell qN.1.5;have aC:=cy.cell qN.1.3;have aF:=cy.frozen qN.1.3;have hX:ax (AP a o (U b.1) b ac (FIN.2.map λn:Nat=>(n:Int)) a FIN.1<|a_ l ⟨U b.1+1+1,0,ai⟩<|aL (ag ⟨U b.1+1+1+1,0,ai⟩) 3 3):=by
    rw[<- c8];have w:∀H,H≠U b.1+2->(a_ l ⟨U b.1+1+1,0,ai⟩<|aL (ag ⟨U b.1+1+1+1,0,ai⟩) 3 3).1[H]? = l.1[H]?:=λH r=>dJ _ _ _ _ r;have gj:=qN.1.3;exact⟨cy.set gj _,(w _ G).trans qN.1.4,CC qN.3 ⟨λz hc=>Ij,λz hc=>Ij⟩ G w,qN.6.same af af af oF λc aN=>w c G,λx hx=>(w x (y x hx).2.2.1).trans<|qN.7 x hx⟩
   have cL:=ae y;have cC:=ae a0;have cD:=ae a4;have cB:ax (∀g,AP a o (U b.1) b ac (FIN.2.map λn:Nat=>(n:Int)) a FIN.1 g->aD (qJ ac g) (M (U b.1+1+1) 0)=ag (bC (U b.1+3) 0 3 3)/\im (qJ ac g) (U b.1+3) (FIN.2.map λn:Nat=>(n:Int)) 3/\fX (qJ ac g) a o FIN.1.1 FIN.1.2/\dP a o b (qJ ac g)):=λg hX=>by
    have y:=V cL;have C:∀x,x ∉ ac->(qJ ac g).1[x]? = g.1[x]?:=λx bz=>NP _ g x bz;refine⟨(ev<|C (U b.1+2) λi=>(y _ i).2.2.1 af).trans<|cy.cell hX.1,(C _ λi=>(y _ i).2.1 af).trans hX.2,?_,?_⟩
    ·have⟨dW,fG,vF,rj,sK⟩:=hX.3.msg;refine⟨dW,fG,vF.kept<|C a λi=>(y _ i).1 af,pR rj λP B=>?_,pR sK λP B=>?_⟩
     ·have⟨O,bP⟩:=y5 rj B;exact C P (λe=>by rw[hX.5 P e]at bP;cases bP)
     ·have⟨O,bP⟩:=y6 sK B;exact C P (λe=>by rw[hX.5 P e]at bP;cases bP)
    ·have⟨aB,aC,aF,k4⟩:=NS ac g;exact hX.4.same aB aC aF (by rw[k4];exact cW _) λx hx=>C x λi=>cj<|V cD x i
   gi_wp2_with fail;generalize a_ l ⟨U b.1+1+1,0,ai⟩ (aL (ag ⟨U b.1+1+1+1,0,ai⟩) 3 3)=g at *;have hX:=V hX;have⟨bu,T,bx,e3⟩:=V cB g hX;exact NT ac g (V cC) (λd aR=>hX.5 d aR) ⟨bC (U b.1+3) 0 3 3,by simp[dr,results137,go_sem,bu],af,T,bx,e3⟩
end
def Kz{P:Prop}(h:P:=by subst hr';clear hr h0 h1;go_wp2;go_ret;simp):P:=h
def adD(a c):bd aK 140 #[J a] c λd g=>d=bg (aG<|vr a)/\g=c:=by
 have⟨r,hr⟩:=bi<|vr a;rw[<- hr];unfold vr at hr;by_cases h0:a=0;{subst h0;have hr':r=ao:=hr;subst hr';clear hr;go_wp2;go_ret;simp};{
 have b:(a != 0)=aE:=by grind
 by_cases h1:a=41;{subst h1;have hr':r=ao:=hr;subst hr';clear hr h0 b;go_wp2;go_ret;simp};{
 have e:(a != 41)=aE:=by grind
 rw[b,e]at hr;by_cases h:a<249;{
 have hr':r=aE:=by grind
 exact Kz};{
 by_cases i:254<a;{
 have hr':r=aE:=by grind
 exact Kz};{
 have hr':r=ao:=by grind
 exact Kz}}}}
def ET(a:aQ)(d c:Nat):Prop:=d<=c/\∃e b,d<=b/\b<=U a.1/\eJ a c e (bY)/\ib a b e (List.replicate 12 0)
def ET.below{n}(h:ET b n a)(d:a7 b f):ET f n a:=by obtain⟨i,o,g,j,k,e,l⟩:=h;exact⟨i,o,g,j,cU k d.4,(d.5 a (ea.1 e).1).trans e,jG l d⟩
def adE(e)(j:e<=U b.1):bd aK 130 #[] b λg a=>∃d,g=bg (N d)/\ET a e d/\a7 b a:=by refine(Va).m ?_;rintro a ⟨⟨k,h,i⟩,c⟩;exact⟨_,af,⟨G,k,U b.1,j,c.4,h,i⟩,c⟩
def U1(j:ET b a o)(w:a<=U b.1){e:Nat}(aN:P<65536)(g:e<65536):bd aK 131 #[N o,ci #[J P,J e,J 0,J 0,J 0,J 0]] b λi h=>i=bg (aZ<|ew<|jM P e 0 0 0 0)/\Below a b h:=by obtain⟨r,x,q,t,k,l,n⟩:=j;refine(U0 0 0 0 0 l n k aA aA aN g G G G G).m ?_;intro h c;exact⟨aA,c.1,c.2,c.3,c.4,λp u=>c.5 p G G<|.inl G⟩
def U2{d:Nat}(n:Nat)(e bA g h b)(aN:a<65536)(B:o<65536)(F:sT d n=(o:Int)):bd aK 71 #[ci #[J a,J d,J e,J bA,J g,J h],J n] b (cQ (aZ<|ew<|jM a o 0 0 0 0) b):=by
 have⟨W0,hW0⟩:=bi<|aO b<|aS #[ak am a,ak am d,ak am e,ak am bA,ak am g,ak am h] 133;have r:im W0 (U b.1) [(a:Int),(d:Int),e,bA,g,h] 133:=by rw[hW0];exact du b _
 have p:a7 b W0:=by rw[hW0];exact Bt
 have q:∀c,a7 W0 c->aD c (M (U b.1) 0)=ag (J a)/\aD c (M (U b.1) 1)=ag (J d)/\aD c (M (U b.1) 2)=ag (J e)/\aD c (M (U b.1) 3)=ag (J bA)/\aD c (M (U b.1) 4)=ag (J g)/\aD c (M (U b.1) 5)=ag (J h):=λc K=>by
  have i:im c (U b.1) [(a:Int),(d:Int),e,bA,g,h] 133:=(K.5 _ r.lt).trans r;exact⟨i.cell 0 aA,i.cell 1 aA,i.cell 2 aA,i.cell 3 aA,i.cell 4 aA,i.cell 5 aA⟩
 have y:=ae q;have H:=ae p;have L:=p.4;have G:ax (∀c,bd aK 132 #[ci #[J a,J d,J e,J bA,J g,J h],J n] c<|cQ (ci #[J a,J o,J 0,J 0,J 0,J 0]) c):=λc=>by
  have:=Sx a d e bA g h n c
  rwa [F]at this
 have O:=q (bq W0) cd.drew;have l:a7 W0 (bq W0):=cd.drew;clear r p q F;go_wp2;rw[<- hW0];clear hW0;have:=O;go_region_with
  (first
   | (go_at_call 130;(refine(adE (U W0.1) aA).mono ?_;rintro Q C ⟨R,rfl,z,A⟩;have j:a7 W0 C:=(by first|exact k.trans (A.mono k.size)|exact bN l<|bV A l.4);have P:=V y C j))
   | (go_at_call 132;(refine(G _).m ?_;intro D t;have k:a7 W0 D:=(by first|exact bN j (bV t j.4)|exact l.trans<|t.mono l.size);have P:=V y D k;try have N:=z.below t))
   | (go_at_call 131;(first|(refine(U1 N k.4 aN B).m ?_;intro w u;have x:a7 W0 w:=bN k u)|(refine(U1 z j.size aN B).m ?_;intro w u;have x:a7 W0 w:=j.trans u))))
 all_goals
  have I:=ae<|bN H<|bV x L;go_wp2;go_ret;exact⟨af,I⟩
def YP{bA g h}(k:l=ao\/(l=aE/\(bits .and am p 32768 != 0)=aE))(c:bd aK 70 #[aZ Q] b<|cQ (bX #[ci #[J i,J p,J x,J bA,J g,J h],aG l]) b):bd aK 27 #[e,aZ Q] b (cQ (amz ⟨#[]⟩) b):=by replace c:=ae c;go_in;go_wp21;refine c.m λn a=>?_;have aT:=ae<|ct a a.4<|aS #[ak am i,ak am p,ak am x,ak am bA,ak am g,ak am h] 133;rcases k with rfl|⟨rfl,o⟩;{go_wp2;go_ret;exact BD};{go_wp2;go_ret;exact BD}
def aiw{c:Nat}{bA h}(aN:a<65536)(r:c<65536)(t:sT o 4=(c:Int))(w:(bits .and am o 32768 != 0)=ao)(x:(bits .and am o 30720 != 0)=aE)(q:bd aK 70 #[aZ Q] b<|cQ (bX #[ci #[J a,J o,J i,J bA,J p,J h],aG aE]) b):bd aK 27 #[e,aZ Q] b (cQ (aZ<|ew<|jM a c 0 0 0 0) b):=by have l:=ae q;have n:ax (∀d,bd aK 71 #[ci #[J a,J o,J i,J bA,J p,J h],J 4] d<|cQ (aZ<|ew<|jM a c 0 0 0 0) d):=λd=>U2 4 i bA p h d aN r t;generalize O (ew<|jM a c 0 0 0 0)=y at *;go_in;go_wp21;refine l.m λz k=>?_;have g:=ct k k.4<|aS #[ak am a,ak am o,ak am i,ak am bA,ak am p,ak am h] 133;have j:=ae g;go_wp21;refine(n _).m λA m=>?_;have bU:=ae<|bN j<|bV m j.4;go_wp2;go_ret;exact FK
def aiy{bA}(aN:a<65536)(G:P<65536)(S:sT o 1=(P:Int))(ap:(bits .and am o 32768 != 0)=ao)(aq:(bits .and am o 30720 != 0)=ao)(D:bd aK 70 #[aZ Q] b<|cQ (bX #[ci #[J a,J o,J i,J bA,J p,J x],aG aE]) b)(F:∀g,bd aK 72 #[ci #[J a,J o,J i,J bA,J p,J x],aZ Q] g λd j=>(∃t,NV t/\d=bg (bX #[t,aG ao]))/\a7 g j):bd aK 27 #[e,aZ Q] b (cQ (aZ<|ew<|jM a P 0 0 0 0) b):=by have w:=ae D;have T:=ae F;have y:ax (∀g,bd aK 71 #[ci #[J a,J o,J i,J bA,J p,J x],J 1] g<|cQ (aZ<|ew<|jM a P 0 0 0 0) g):=λg=>U2 1 i bA p x g aN G S;generalize O (ew<|jM a P 0 0 0 0)=ar at *;go_in;go_wp21;refine w.m λk q=>?_;have A:=ct q q.4<|aS #[ak am a,ak am o,ak am i,ak am bA,ak am p,ak am x] 133;have B:im (aO k<|aS #[ak am a,ak am o,ak am i,ak am bA,ak am p,ak am x] 133) (U k.1) [(a:Int),(o:Int),i,bA,p,x] 133:=du k _;have l:=ae A;have n:=ae B;go_wp21;refine(T _).mono ?_;rintro d R ⟨⟨_,⟨V,W,aa,ab,ac,ad,al,an,Y,Z,ah,aj,X,rfl⟩,rfl⟩,r⟩;unfold ir;have h:im R (U k.1) [(a:Int),(o:Int),i,bA,p,x] 133:=(r.5 _ n.lt).trans n;have m:=bN l<|bV r l.4;have I:=h.cell 0 aA;have K:=h.cell 1 aA;have L:=h.cell 2 aA;have M:=h.cell 3 aA;have N:=h.cell 4 aA;have c:=h.cell 5 aA;simp only[e9,fw]at I K L M N c;have:=h.lt;have u:=ae λH=>ct m m.4 H;go_wp2_with fail;refine(y _).m ?_;intro au C;have z:=ae<|(u _).trans<|bV C (u _).4;go_wp2;go_ret;exact⟨af,z⟩
end Go.Proofs.YtkkpahmoljiepaaGreatDoor
