import Derived.Test.YtkkpahmoljiepaaGreatDoorJ14
import Derived.Test.YtkkpahmoljiepaaGreatDoorJ16
import Derived.Deep.DeepHandedRow
import Derived.Deep.SlicePairs
set_option maxRecDepth 1000000
set_option maxHeartbeats 12800000
set_option linter.all false
open Array renaming size->U
open Bool renaming false->ao,true->aE
open Go renaming Calls->bd,Value->bm,World->aQ,bytesRow->ii
open Go.Ending renaming returned->bg
open Go.IntKind renaming i64->am
open Go.Obj renaming cells->aS
open Go.Proofs.Tryz renaming prog->aK
open Go.RowKit renaming Below->cB,Hid->ax
open Go.RowKit.Below renaming alloc->ct,mono->bV,trans->bN
open Go.Value renaming agg->ci,bool->aG,int->ak,pointer->cM,slice->aL,string->amz,tuple->bX
open Go.World renaming alloc->aO,cell?->aD
open List renaming drop->bh,length->E
open Option renaming none->ai,some->ag
open Or renaming inl->bG,inr->bE
namespace Go.Proofs.YtkkpahmoljiepaaGreatDoor
open Go.RowKit Go.Proofs.Tryz
variable{a d h o P:Nat}{b f m u K:World}{c g n:ap}{e:Value}{i:Int}{j:List D}{z X:TypeId}{B:Nat → Prop}{Q:List UInt8}
def cw.sS(a:ap):cw:=⟨a,[],[],0,[],ao,ao,ao,0⟩
def zr(e:rt b a d c):dg b a (cw.sS c)/\∀g,eO b a g->g=a\/g=d:=by have h:o7 b a d (bY) (bY) (bY) (cw.sS c):=⟨e.1,e.2,⟨af,bG ⟨af,af⟩⟩,⟨af,bG ⟨af,af⟩⟩,ai,0,af,cW _,bG ⟨af,af⟩⟩;refine⟨⟨_,_,_,_,h⟩,λg i=>?_⟩;rcases(tP h).1 i with e|e|e|e|e;{omega};{omega};{cases e};{cases e};{cases e}
def JI(a):(cw.sS a).Ok 0:=⟨cW _,cW _,cW _,cW _⟩
def Yn{ρ}(i:∀m,E (ρ m)<=1232)(h:E c=6)(d:E g=4)(f):E (tF ρ c g f)<=1524:=by
 have a:∀(b:Nat) (e:ap),E (e.take b)<=b:=λb e=>by grind
 unfold tF;split;{simp};split;{unfold xB;split;{simp};{have:=a 6<|bh 8<|bh 14 f;have:=a 7<|bh 14 f;have:=a 10<|bh 8<|bh 14 f;simp only[dE,h,d,ey,h8];omega}};split;{simp};split;{simp};{rename_i m j _;split;{simp};{have:=a 6<|bh 6 f;have:=a 4<|bh 26 f;have:=i m;simp only[dE,h,d,ey,h8,qT,rq,pJ,qz];omega}}
def Yo{p ρ h}(x:∀m,oP c j m<|ρ m)(A:E Q=6)(z:E h=4)(n:jJ c j)(g:iL b a c d 0 o<|cq j)(u:d3 b)(q:p 0)(r:p a)(t:p d){e}(B:E e<=1524)(k:cL p b f):bd aK 37 #[N a,ci #[aZ Q,aZ h],aZ e] f (cQ (aZ<|tF ρ Q h e) f):=by refine ahG A z G<|aj7 x n (IZ g k.4 (k.5 a g.1 r)<|k.5 d (IY g) t) ?_;obtain⟨l,y,w⟩:=u;exact⟨e8 l k.4,y,(ev<|k.5 0 l q).trans w⟩
def aj9{ρ g cO}(u:∀h,oP c j h<|ρ h)(x:E Q=6)(w:E g=4)(p:jJ c j)(r:uP f cO o c j)(i:cL (λa=>cO<=a) f b)(q:∀a,cO<=a->a<U f.1->B a){e}(y:E e<=1524)(d:cL B b m):bd aK 38 #[N o,ci #[aZ Q,aZ g],aZ e] m (cQ (aZ<|tF ρ Q g e) m):=by have t:=r m ⟨d.1.trans i.1,d.2.trans i.2,d.3.trans i.3,cU i.4 d.4,λa aN k=>(d.5 a (e8 aN i.4)<|q a k aN).trans<|i.5 a aN k⟩;exact agZ G x w<|aj8 u p t cd
def aj_(ρ):tF ρ nR oJ qI=Dd:=by rfl
def aka:(List.range 42).map (λa=>su qI<|1036+a)=qI:=dS
def JJ:wm (su qI) 770 2=0/\wm (su qI) 258 2=1/\wm (su qI) 260 4=0/\wm (su qI) 264 4=54:=by decide +kernel
def FC:sY (Db qI Dd) 642 2=1/\sY (Db qI Dd) 644 2=0/\sY (Db qI Dd) 512 8=13312/\sY (Db qI Dd) 520 4=54/\sY (oE (oE (oE (Db qI Dd) 772 0 4) 776 0 4) 770 1 2) 642 2=1:=by decide +kernel
def akb(a):(binOp .eql 101 (ci #[J 1,J 1,J 0,aG ao])<|ci #[J 1,J 1,J 0,aG ao]).run aK a=.ok (aG aE) a:=b8
def akc:(mP FB).isSome=aE:=by rw[aj5];rfl
def akd:pC nR oJ=aE:=bL
def ake(d:sX b a e [c]):∃v s,e=bC v 0 1 s/\aD b (M v 0)=ag (aZ c):=by have g:=d;obtain⟨l,⟨_,j⟩|⟨v,s,i,rfl,k,h,o,n,p,q⟩⟩:=d;{grind};{exact⟨v,s,af,by rw[nz g 0 aA];rfl⟩}
def C6(c:cI B h f m)(k:cB a b f)(n:a<=U f.1)(j:∀e,e<a->¬B e)(l:∀e,e<a->¬eO f h e):cB a b m :=
 bN k ⟨c.1,c.2,c.3,c.4,λe aN=>c.5 e G (j e aN)<|l e aN⟩
def akf(K:d3 b):bd aK 41 #[] b (cQ (aG aE) b):=by
 have bp:=ae<|Xx ai 0 b;have:=K.1;replace K:=ae K;go_in;go_wp21;refine bp.m λaj ⟨bH,bf⟩=>?_;have aY:ax (bd aK 36 #[amz ⟨#[]⟩,amz ⟨#[]⟩] aj<|cQ (l8 nR oJ) aj):=Yl [] [] aj bL bL;have bw:=ae bH;have ay:=ae bf;go_wp21;refine aY.m λy aH=>?_;have bz:=wj (V bw) aH;have B:=bN ay<|bV aH ay.4;have⟨W2,hW2⟩:=bi<|aO y<|aS #[amz<|O nR,amz<|O oJ] 62;have az:a7 y W2:=hW2▸ct cd bv _
 have⟨gp,oK⟩:=zr<|wj bz az;have R:bk W2 (U y.1) [aZ nR,aZ oJ] 62:=hW2▸bk.fF y _ _
 have h:=bN B<|bV az B.4;have aV:=K.below h;have Z:=ae<|WW FB nR oJ aV gp (JI _) G;rw[hW2]at Z;have an:=ae hW2;have aP:=ae (show dg W2 (U b.1+1) (cw.sS<|List.replicate 25600 0)/\(∀a,eO W2 (U b.1+1) a->a=U b.1+1\/a=U b.1)/\a7 b W2/\bk W2 (U y.1) [aZ nR,aZ oJ] 62 from⟨gp,oK,h,R⟩);go_wp21;refine Z.mono ?_;rw[<- V an];rintro c d aF;rw[wk,b7 akc,b7 akd]at aF;obtain⟨g,n,k,l,p,I,bc,rfl,Q,i,⟨bs,bt,bu⟩,bn,F,C,W⟩:=aF;have⟨df,ho2,B,R⟩:=V aP;have aJ:=B.4;have⟨mb,mX⟩:=bi<|U b.1+1;rw[<- mX]at Q i W df ho2 ⊢;have h:=C6 i B aJ (λ_ _ be=>be) λa aN j=>by grind
 have ac:=ix i df R bL id;have⟨W3,hW3⟩:=bi<|aO d<|aS #[cM<|ag ⟨mb,0,ai⟩,ak am 0,ak am 0,ak am 0,ak am 0] 90;have A:a7 d W3:=hW3▸ct cd bv _
 have u:mx W3 (U d.1) mb (0,0,0,0):=hW3▸bk.fF d _ _
 have t:=yE Q A;have o:=ac.below A ac.lt;have r:=bN h<|bV A h.4;have av:h7 (cw.sS<|List.replicate 25600 0).1 λ_=>0:=⟨akR,λa aN=>by show(List.replicate 25600 (0:UInt8)).getD a 0=0;grind⟩
 have⟨b',nA,WX⟩:=ag0 (h7.aKi av) qI af;have⟨T0,acn⟩:=bi<|(cw.sS<|List.replicate 25600 0).AE;have P:T0.3=[]:=by rw[acn];rfl
 rw[<- acn]at nA;have aa:hJ W3 g n k l mb nR oJ ⟨T0,8,0,0,0,oi,0,0,0,ao⟩ (0+276):=acn▸t
 have a8:ax (bd aK 49 #[N<|U d.1,aZ qI,J 0] W3 λc w=>c=bg (aG aE)/\dg w mb { T0 with b:=b' }/\mx w (U d.1) mb (1,1,0,0)/\cI (λa=>a=U d.1) mb W3 w):=by
  have:=Ns (U d.1) mb qI 0 T0 aa.1 u G G bL;unfold AN at this;rw[nA]at this;exact this
 have bC:co W3 (U y.1) 0 (aZ nR):=o.cell 0 aA;have bD:co W3 (U y.1) 1 (aZ oJ):=o.cell 1 aA;have⟨x1,hx1⟩:=bi<|nR++[2,111,116,104,101,114,8,6,0,1,8,0,6,4,0,1,2,111,116,104,101,114,10,0,0,2,110,111,98,111,100,121]
 have bP:O nR++⟨#[2,111,116,104,101,114,8,6,0,1,8,0,6,4,0,1,2,111,116,104,101,114,10,0,0,2,110,111,98,111,100,121]⟩=O x1:=by rw[hx1];rfl
 have bQ:O x1++O oJ=O qI:=by rw[hx1];rfl
 have bK:(O x1).size=38:=by rw[hx1];rfl
 have:(O nR).size=6:=af;have:(O oJ).size=4:=af;have⟨ρ,hρ⟩:=Ym p.1 p.2;have a6:∀a,a<U W2.1->eO d mb a->a=mb\/a=U b.1:=λa aN j=>by
  rcases i.6 a j with j|j
  ·grind
  ·omega
 have bF:=C.1;have bx:=IY C;have br:=ae (show hJ W3 g n k l mb nR oJ ⟨T0,8,0,0,0,oi,0,0,0,ao⟩ (0+276)/\mx W3 (U d.1) mb (0,0,0,0)/\a7 b W3/\iL W3 n p.1 I 0 bc (cq p.2)/\(∀a,a=0\/a=n\/a=I->¬gm g k l a/\¬eO W3 mb a/\a<U d.1)/\(∀a,a<U b.1->¬eO W3 mb a/\¬gm g k l a/\a≠U d.1)from by
  have:∀a,eO W3 mb a->eO d mb a:=λa j=>oB (A.5 mb<|jv Q.1) j;refine⟨aa,u,r,C.below A,λa aN=>?_,λa aN=>⟨λj=>?_,λbR=>?_,cj h.4⟩⟩
  ·grind
  ·grind
  omega)
 have aU:=ae<|cv WX<|cv P F;have:=ae (show mb=U b.1+1/\U b.1+1<U W2.1 from⟨mX,mX▸jv df⟩);have ar:=ae hρ;clear hx1 Q i bs bt bu bn F C W df ho2 B R aJ mX h ac A u t o r av nA WX acn P aa hρ a6 bF bx Z aP an;rw[hW3]at bC bD;replace hW3:=ae hW3;go_wp2_with fail;rw[<- V hW3];refine a8.m λq ⟨bl,o,L⟩=>?_;have⟨t,u,h,C,mY,py⟩:=V br;have a9:({ T0 with b:=b' } : cw).Ok (0+276):=t.6.1;have x:=Nt t bl L (λa aN c=>by
  subst c;rcases aN with c|c|c
  ·exact jj u t.4 bL c
  ·exact jj u t.2 bL c
  ·exact jj u t.3 bL c) a9
 have r:=C6 L h h.4 (λa aN c=>(py a aN).2.2 c) λa aN=>(py a aN).1;have aM:∀a,a<U W3.1->¬eO W3 mb a->¬eO q mb a:=λa aN W j=>(L.6 a j).elim W λbo=>by omega
 have:=h.4;have Y:∀a,a=0\/a=n\/a=I->a<U W3.1/\q.1[a]? = W3.1[a]?/\¬gm g k l a/\¬eO q mb a:=λa aN=>by
  have⟨q1,q2,q3⟩:=mY a aN;have ad:=Nat.lt_trans q3<|bk.lt u;exact⟨ad,L.5 a ad G q2,q1,aM a ad q2⟩
 have a0:=IZ C L.4 (Y n<|bE<|bG af).2.1 (Y I<|bE<|bE af).2.1;have a3:=K.below r;have⟨WX,P,F⟩:=V aU;have a_:=λm=>JH F<|ar m;have⟨T1,px,hR1⟩:=ag2 (S:={ T0 with b:=b' }) (H:=tF ρ nR oJ) WX P aka af (aj_ ρ) JJ.1 JJ.2.1 JJ.2.2.1 JJ.2.2.2;have bB:ax (bd aK 54 #[N g] q λc w=>c=bg (J 0)/\hJ w g n k l mb nR oJ ⟨T1,9,1,1,0,oi.set 0 aE,1,1,0,ao⟩ (0+276+30100)/\cI (gm g k l) mb q w):=by
  have:=Xi x G (Yn a_ af af) λf bM bj i=>Yo (p:=λa=>a=0\/a=n\/a=I) (V ar) af af F a0 a3 (bG af) (bE<|bG af) (bE<|bE af) bj ⟨i.1,i.2,i.3,i.4,λa aN aI=>i.5 a aN (Y a aI).2.2.1 (Y a aI).2.2.2⟩;rw[px]at this;exact this
 have a2:=ae (show hJ q g n k l mb nR oJ ⟨{ T0 with b:=b' },8,0,0,0,oi,0,0,0,ao⟩ (0+276)/\mx q (U d.1) mb (1,1,0,0)/\a7 b q/\∀a,a<U b.1->¬eO q mb a/\¬gm g k l a/\a≠U d.1 from⟨x,o,r,λa aN=>⟨aM a G (py a aN).1,(py a aN).2⟩⟩);have⟨b2,s2,nP,hs2⟩:=ag3 hR1 FC.1 FC.2.1 FC.2.2.1 FC.2.2.2.1 FC.2.2.2.2;have aq:=ae<|cv nP hs2;go_wp21;refine bB.m λz ⟨D,ah⟩=>?_;have⟨x,o,r,py⟩:=V a2;have T:mx z (U d.1) mb (1,1,0,0):=ix ah x.1 o bL (λaN=>by
  rcases aN with c|c|c
  ·exact jj o x.4 bL c
  ·exact jj o x.2 bL c
  ·exact jj o x.3 bL c)
 have a4:=r.4;have X:=C6 ah r a4 (λa aN=>(py a aN).2.1) λa aN=>(py a aN).1;have bq:=λa aN j=>(ah.6 a j).elim (py a aN).1 λbo=>by omega
 have bA:ax (bd aK 48 #[N<|U d.1,J 8] z λc w=>Nh (U d.1) mb T1 (b2,(1,1,1,1),[s2]) z c w):=by
  have:=Nl (U d.1) mb 8 T1 D.1 T ⟨bL,bL,bL,bL⟩;rw[show(min (8:Int) 8).toNat=8 from af,aq.1]at this;exact this
 have aW:=ae (show hJ z g n k l mb nR oJ ⟨T1,9,1,1,0,oi.set 0 aE,1,1,0,ao⟩ (0+276+30100)/\mx z (U d.1) mb (1,1,0,0)/\a7 b z/\∀a,a<U b.1->¬eO z mb a/\a≠U d.1 from⟨D,T,X,λa aN=>⟨bq a aN,(py a aN).2.2⟩⟩);go_wp21;refine bA.mono ?_;rintro c aR ⟨v,rfl,aX,bJ,bI,ap⟩;have⟨D,T,X,py⟩:=V aW;have ba:qj aR g n k l nR oJ 1 1 0 ao:=ix ap D.1 D.4 bL<|jj D.4 T bL;obtain⟨ab,bO,rfl,a1⟩:=ake aX;have bb:=ae<|WP ba;have aC:=ae<|C6 ap X X.4 (λa aN=>(py a aN).2) λa aN=>(py a aN).1;have au:=ae a1;go_wp21;refine bb.m λaT aB=>?_;have aw:=(aB.cell<|i8 aR (M ab 0)<|V au).trans au;have:co (aO aT<|aS #[ak am 1,ak am 1,ak am 0,aG ao] 101) ab 0 (aZ s2):=(ev<|dT _ _ _<|i8 aT (M ab 0) aw).trans aw;have al:=bN aC<|bV aB aC.4;have a5:=ae<|ct al al.4<|aS #[ak am 1,ak am 1,ak am 0,aG ao] 101;have bS:(O s2).size=42:=by rw[de];exact aq.2
 have:=akb;go_wp2;go_ret;exact⟨af,a5⟩
structure Fv where
 Cn:Int
 fr:List ap
 Co:List Int
 p_:List kb
def O0(i:aQ)(v:bm)(d:List ap):Prop:=∃a h,v=aL a (E d) h/\∀c g,d[c]? = ag g->∃b e,a=ag (M b e)/\aD i (M b<|e+c)=ag (aZ g)
def O1(i:aQ)(v:bm)(d:List Int):Prop:=∃a h,v=aL a (E d) h/\∀c g,d[c]? = ag g->∃b e,a=ag (M b e)/\aD i (M b<|e+c)=ag (J g)
def aki(a:aQ)(b c:Nat)(d:Fv):Prop:=∃e g h,aD a (M b c)=ag (J d.1)/\aD a (M b<|c+1)=ag e/\aD a (M b<|c+2)=ag g/\aD a (M b<|c+3)=ag h/\O0 a e d.2/\O1 a g d.3/\wC a h d.4
def Zd(i:aQ)(v:bm)(d:List Fv):Prop:=∃a h,v=aL a (E d) h/\∀c g,d[c]? = ag g->∃b e,a=ag (M b e)/\aki i b (e+c*4) g
section
variable {w W:World} (hb:a7 w W)
include hb
theorem wI{a}(b:aD w a=ag e):aD W a=ag e:=(hb.cell<|i8 w a b).trans b
theorem Ze{h}(n:wC w e h):wC W e h:=by obtain⟨i,j,k,l⟩:=n;refine⟨i,j,k,l.imp id ?_⟩;rintro⟨q,ay,o,p,g⟩;exact⟨q,ay,o,e8 p hb.4,λv a b c d=>⟨wI hb (g v a b c d).1,wI hb (g v a b c d).2.1,wI hb (g v a b c d).2.2⟩⟩
end
def Zf{h}(g:wC b e h)(o:U b.1<=d):∀v ay a c,e=bC v ay a c->0<a->v≠d:=λv ay a c k p=>by
 obtain⟨i,j,l,n⟩:=g
 grind
def akj(a):(cw.sS a).AE.6=ao:=b8
def ajD:(cw.sS c).AE.2=[]:=b8
def ajE(m a):pC (zq m) (Bj a)=aE:=by rw[pC,YO,Yk,show(zq m).getD 0 0=2 from af];rfl
def ajG{a}(f:yF a):yF (uQ c a g i).2.1:=by obtain⟨h,b,d,e⟩:=f;unfold uQ;split;{unfold AL;split;{exact⟨tI _ G,tI _ G,d,e⟩};grind};grind
def Zg:∀(c:Nat) (d:ap) (b:Nat×Nat×Nat×Nat) (e:List ap),yF b->yF (rl c d b e).2.1
 | 0,_,_,_,a=>a
 | c+1,d,b,e,a=>by rw[rl];split;{unfold C_;split;{exact Zg c _ _ _ ⟨a.1,a.2.1,tI _ G,tI _ G⟩};grind};omega
def Zh(c d b cO aN:Nat)(a:Nat):Prop:=a<c\/a=d\/a=b\/(cO<=a/\a<aN)
def ajH{s:ap}{i k l p N w R}{z:ap×List D}(O:a7 f m)(az:U f.1<=a)(aA:a<d)(aB:d<o)(aC:o<h)(W:h<U m.1)(T:rt m d a n)(V:rt m h o n)(I:hJ b P i k l d c g (cw.sS n).x0 276)(H:cI bH d m b)(aw:U m.1<=P/\U m.1<=k/\U m.1<=l)(J:iL b i z.1 p 0 N<|cq z.2)(Q:∀r,r=i\/r=p->¬gm P k l r/\¬eO b d r/\U m.1<=r)(B:iA K w R h c g (cw.sS n).x0 276)(x:cI bH h b K)(ay:U u.1<=w)(av:U b.1<U u.1)(ar:cL (λr=>U b.1<r) u K)(ad:∀r,eO K h r->eO b h r\/U u.1<=r):rm K K (Zh (U f.1) i p (U b.1+1)<|U u.1) (gm P k l) (λr=>r=w) ⟨P,i,k,l,d,0,w,R,h,0,c,g⟩ (cw.sS n).x0 (cw.sS n).x0 276/\a7 f K/\iL K i z.1 p 0 N (cq z.2):=by
 have:=zr T;have⟨ft,hno⟩:=zr V;have aa:=O.4;have ab:=x.4;have A0:=A0 I;have ac:=J.1;have Y:=IY J;have S:=H.5 h W id λe=>by grind
 have:=λr e=>hno r<|oB S e;have:∀r,eO b d r->r=d\/r=a\/U m.1<=r:=λr e=>(H.6 r e).elim (λe=>by grind) λj=>bE<|bE j;have y:∀r,r<U b.1->r≠h->r≠o->K.1[r]? = b.1[r]?:=λr aN ah aj=>x.5 r aN id λe=>by grind
 have L:∀r,gm P k l r\/eO b d r->r<U b.1/\r≠h/\r≠o:=λr aN=>by{rcases aN with M|e;{omega};{have:=sC I.1 e;grind}};have:∀r,eO K d r->eO b d r:=λr e=>oB (y d A0.2.2.2 G G) e;have:∀r,eO K h r->r=h\/r=o\/U b.1<=r:=λr e=>(x.6 r e).elim (λe=>by grind) λj=>bE<|bE j;have X:=C6 H O aa (λ_ _ F=>F) λr aN e=>by grind
 have Z:=C6 x X G (λ_ _ F=>F) λr aN e=>by grind
 have aF:∀r,eO K d r\/gm P k l r->(r=d\/r=a\/U m.1<=r)/\r<U b.1:=λr aN=>by{grind};have:=bk.lt B.2;refine⟨⟨Cu I λr aN=>y r (L r aN).1 (L r aN).2.1 (L r aN).2.2,B,λr M=>G,λr ae=>G,λr M=>M,af,λr al an=>?_,λr t=>?_,cL.refl _ _⟩,Z,IZ J ab (y i ac (cj<|(Q i<|bG af).2.2)<|by grind)<|y p Y (cj<|(Q p<|bE af).2.2)<|by grind⟩;{grind};{have aq:∀q,eO K h q\/q=w->q=h\/q=o\/U b.1<=q:=λq au=>by{grind};rcases t with t|t|t|t;{exact⟨G,λe=>by grind,λe=>by grind⟩};{grind};{grind};grind}
def C9(g:aQ)(e:Nat->Prop)(d:uS)(c:Nat)(wr:aQ):Prop:=∃(a:cz) (b:Nat×Nat×Nat×Nat),a.1.6=ao/\yF b/\oe g wr e d a a b b c
def ajK(s a5 a8 j:ap)(L:List Fv)(d5:bm)(w:aQ)(cD:d3 w)(dX:E a5<=10000000)(dW:E a8<=10000000)(eH:E j<=9223372036854775807)(ew:Zd w d5 L)(e0:E L<=2000000)(ay:∀a∈L,E a.4<=2000000/\∀f∈a.2,E f<=2000000):bd aK 12 #[amz<|O s,amz<|O a5,amz<|O a8,amz<|O j,d5] w λk n=>k=bg (aG aE)/\cB (U w.1) w n:=by
 obtain⟨eV,eY,rfl,d0⟩:=ew;have eu:=ae d0;have eg:=ae ay;have bR:=ae cD;have bF:=ae<|akf cD;have b9:=ae λd=>Yl a5 a8 d dX dW;have⟨M,aw⟩:=dK<|zq a5;have⟨I,hI⟩:=dK<|Bj a8;have cV:=ajE a5 a8;have bj:=YO a5;have bl:=Yk a8;rw[aw,hI]at b9 cV;rw[aw]at bj;rw[hI]at bl;have ch:=ae cV;have cG:=λd=>Gl (P:=aK) d 9 58 5 (O j) underlying9 underlying58 underlying5;have dL:=de j;have ce:ax (∀d:aQ,∀u,bd aK 42 #[aL (ag ⟨U d.1,0,ai⟩) (E j) u] (aO d.drew<|aS (ii (O j) u) 5 (U<|ii (O j) u,U (ii (O j) u)+1)) λk n=>k=bg (cM<|ag ⟨U d.1+2,0,ai⟩)/\rt n (U d.1+2) (U d.1+1) (Fg j)/\cB (U d.1) d n):=λd u=>by{have b4:U (aO d.drew<|aS (ii (O j) u) 5 (U<|ii (O j) u,U (ii (O j) u)+1)).1=U d.1+1:=gd _ _;have ez:cB (U d.1) d (aO d.drew<|aS (ii (O j) u) 5 (U<|ii (O j) u,U (ii (O j) u)+1)):=(dz (U d.1) d).drew.alloc (cW _) _;have:=agP u af eH<|F_ d j u;rw[b4]at this;refine this.mono ?_;rintro k n ⟨Y,av,bu⟩;exact⟨Y,av,bN ez<|bV bu G⟩};rw[dL]at cG;have cc:=ae cG;clear cD dL cG d0 ay aw hI cV dX dW;generalize Fg j=S at *;go_in;go_wp2_with (fail);refine(V bF).m ?_;intro a2 bx;have em:=V cc a2;have dw:=ae<|V ce a2<|grownCap a2 (E j) 0 5;have bZ:=ae bx;generalize grownCap a2 (E j) 0 5=cr at *;generalize aO a2.drew (aS (ii (O j) cr) 5 (U<|ii (O j) cr,U (ii (O j) cr)+1))=eM at *;clear bx bF;go_wp2_with (fail);refine(V dw).m ?_;rintro x ⟨a3,a6⟩;have eE:=V cc x;have dF:=ae<|V ce x<|grownCap x (E j) 0 5;have co:=ae<|(V bZ).trans<|bV a6 (V bZ).4;have dY:=ae a3;have cX:=ae<|cv (V bZ).4 a6.4;generalize grownCap x (E j) 0 5=cs at *;generalize aO x.drew (aS (ii (O j) cs) 5 (U<|ii (O j) cs,U (ii (O j) cs)+1))=eN at *;clear a6 a3 dw bZ em cc ce;go_wp2_with (fail);refine(V dF).m ?_;rintro ac ⟨cN,cC⟩;have⟨mb,mX⟩:=bi<|U a2.1+2;have⟨bb,mS⟩:=bi<|U a2.1+1;have⟨nb,oL⟩:=bi<|U x.1+2;have⟨b2,a6⟩:=bi<|U x.1+1;have a3:=V dY;rw[<- mX,<- mS]at a3;rw[<- oL,<- a6]at cN;rw[<- mX,<- oL];have eG:=sF a3.1;have eo:=V cX;have b0:ax (U w.1<=bb/\bb<mb/\mb<b2/\b2<nb):=Iq
 have br:=ae (show rt ac mb bb S/\rt ac nb b2 S/\cB (U w.1) w ac from⟨wj a3 cC,cN,(V co).trans<|bV cC (V co).4⟩);clear mX mS oL a6 a3 cN eG eo cC dF dY co cX eE;dsimp only;go_wp2_with (fail);refine(V b9 _).m ?_;intro ad bz;have⟨W4,Xb⟩:=bi<|aO ad<|aS #[amz<|O M,amz<|O I] 62;have aX:cB (U ad.1) ad W4:=by rw[Xb];exact Io
 have aa:bk W4 (U ad.1) [amz<|O M,amz<|O I] 62:=by rw[Xb];exact bk.fF ad _ _
 have q:=wj (wj (V br).1 bz) aX;have o:=wj (wj (V br).2.1 bz) aX;have D:=(V br).2.2.trans<|(bN bz<|bV aX bz.4).mono (V br).2.2.4;have bP:=ae<|WW s M I ((V bR).below D) (zr q).1 (JI _) G;rw[Xb]at bP;have cd:=ae Xb;have b6:=ae (show rt W4 mb bb S/\rt W4 nb b2 S/\cB (U w.1) w W4/\bk W4 (U ad.1) [amz<|O M,amz<|O I] 62 from⟨q,o,D,aa⟩);clear bz aX aa q o D Xb b9 br;go_wp2_with (fail);refine(V bP).mono ?_;rw[<- V cd];rintro k ah A;have⟨q,o,D,aa⟩:=V b6;have bn:=V b0;have⟨hm4,y8⟩:=zr q;unfold wk at A;cases a4:mP s with
 | none =>{rw[a4,bJ bL]at A;obtain⟨rfl,a7⟩:=A;have cS:aD ah ⟨U ad.1,0,ai⟩=ag (amz<|O M):=(aa.below a7 aa.lt).cell 0 aA;have bs:aD ah ⟨U ad.1,1,ai⟩=ag (amz<|O I):=(aa.below a7 aa.lt).cell 1 aA;have bo:=ae<|WL s M I (zr<|wj o a7).1 (JI _) G;have dC:=ae<|cv (wj q a7)<|bN D<|bV a7 D.4;have bp:=ae a4;clear q o D aa bn hm4 y8 a7 bP cd b6 b0 a4;go_wp2_with (fail);refine(V bo).mono ?_;rintro k t A;unfold wh at A;rw[V bp,bJ bL]at A;obtain⟨rfl,cu⟩:=A;have⟨k1,k2⟩:=V dC;have⟨bb',vl,vm,cl,cm,hR⟩:=Dc (zr<|wj k1 cu).1;have eX:aD t ⟨mb,9,ai⟩=ag (ak am 0):=hR.7;have bA:aD t ⟨mb,1,ai⟩=ag (aL vl 0 cl):=hR.3;have F:=ae<|bN k2<|bV cu k2.4;have bQ:=ae fun(d:aQ) (cR:Int)=>Ob cR d;clear cu k1 k2 hR bo dC bp cS bs;go_wp2_with (go_at_call 45;refine(V bQ _ _).m ?_;rintro t rfl);go_ret;exact⟨af,V F⟩}
 | some aC =>{
 rw[a4,b7 dS,b7<|V ch]at A;obtain⟨aT,aj,aP,aR,p,au,u,rfl,aw,h,bD,b4,Q,bw,bq⟩:=A;obtain rfl:aC=p:=ih b4;have ck:=ix h hm4 aa bL id;have cS:aD ah ⟨U ad.1,0,ai⟩=ag (amz<|O M):=ck.cell 0 aA;have bs:aD ah ⟨U ad.1,1,ai⟩=ag (amz<|O I):=ck.cell 1 aA;have a_:=sF o.1;have dc:=o.2.2.lt;have dj:rt ah nb b2 S:=⟨pW o.1<|h.5 nb a_ id λab=>cj<|y8 nb ab,t7 o.2<|h.5 b2 dc id λab=>cj<|y8 b2 ab⟩;have bo:=ae<|WL s M I (zr dj).1 (JI _) G;have db:=ae (show hJ ah aT aj aP aR mb M I (cw.sS S).x0 276/\cI bH mb W4 ah/\(U W4.1<=aT/\U W4.1<=aP/\U W4.1<=aR)/\jJ aC.1 aC.2/\iL ah aj aC.1 au 0 u (cq aC.2)/\(∀g,g=aj\/g=au->¬gm aT aP aR g/\¬eO ah mb g/\U W4.1<=g)/\nb<U W4.1 from⟨aw,h,bD,Q,bw,bq,a_⟩);have bp:=ae a4;clear q o D aa bn hm4 y8 aw h bD b4 Q bw bq ck a_ dc dj bP cd a4;go_wp2_with (fail);refine(V bo).mono ?_;rintro k t A;unfold wh at A;rw[V bp,b7 dS,b7<|V ch]at A;obtain⟨bO,bc,el,eI,rfl,dI,c5,dP,da,dO,dN,aY,di⟩:=A;obtain rfl:aC=eI:=ih dP;obtain⟨q,o,D,-⟩:=V b6;have⟨bn,hL2,hL3,hL4⟩:=V b0;have⟨aw,h,bD,Q,bw,bq,a_⟩:=V db;have⟨h0,qA,UB⟩:=ajH (s:=s) D bn hL2 hL3 hL4 a_ q o aw h bD bw bq dI c5 dO dN aY di;have⟨ρ,hρ⟩:=Ym aC.1 aC.2;have dk:=(V bR).below qA;have⟨H,hH⟩:=bi<|tF ρ M I;have ef:∀f,E (H f)<=1524:=by rw[hH];exact Yn (λm=>JH Q<|hρ m) bj bl
 have⟨He,Xg⟩:=bi<|Zh (U w.1) aj au (U ah.1+1)<|U el.1;have dM:=(V bR).1;have er:ax (∀(f:ap) (d:aQ),E f<=1524->cL He t d->bd aK 37 #[cM<|ag ⟨aj,0,ai⟩,ci #[amz<|O M,amz<|O I],amz<|O f] d λk n=>k=bg (amz<|O<|H f)/\cB (U d.1) d n):=by{rw[hH,Xg];exact λf d aM h=>Yo hρ bj bl Q UB dk (bG dM) (bE<|bG af) (bE<|bE<|bG af) aM h};have eh:ax (∀(f:ap) (d:aQ),E f<=1524->cL He t d->bd aK 38 #[cM<|ag ⟨bc,0,ai⟩,ci #[amz<|O M,amz<|O I],amz<|O f] d λk n=>k=bg (amz<|O<|H f)/\cB (U d.1) d n):=by{rw[hH,Xg];exact λf d aM h=>aj9 hρ bj bl Q da ⟨aY.1,aY.2,aY.3,aY.4,λg aN eZ=>aY.5 g aN G⟩ (λg Y av=>bE<|bE<|bE ⟨Y,av⟩) aM h};have bT:ax (∀g,g<U w.1->He g):=λg aN=>by rw[Xg];exact bG aN
 rw[<- Xg]at h0;have⟨ba,vl,vm,cl,cm,hA⟩:=Dc h0.x.1;have⟨ba',Fi,pV,cl',Fj,hB⟩:=Dc h0.y.1;have bY:=akj S;have cg:E (cw.sS S).AE.2=0:=by rw[ajD];rfl
 have⟨T,QP⟩:=bi<|(cw.sS S).AE;have ea:(cw.sS S).x0=⟨T,8,0,0,0,oi,0,0,0,ao⟩:=by rw[QP];rfl
 rw[ea]at h0 hA hB;rw[<- QP]at bY cg;have aq:aD t ⟨mb,1,ai⟩=ag (aL vl 0 cl):=by have:=hA.3;simp only at this;rw[cg]at this;exact this
 have N:=hA.4;have ek:aD t ⟨mb,6,ai⟩=ag (aG ao):=by have:=hA.6;simp only at this;rw[bY]at this;exact this
 have ej:=hA.2;have eq:=hB.2;have en:=λcJ=>Jt (w:=t.drewN cJ) hA.1;have ep:=λcJ=>Jt (w:=t.drewN cJ) hB.1;have bQ:=ae fun(d:aQ) (cR:Int)=>Ob cR d;have ec:=ae h0;have F:=ae qA;have dl:=ae bY;have c4:ax (U w.1<=mb/\U w.1<=nb):=Iq
 clear dI c5 dP da dO dN aY di q o D bn hL2 hL3 hL4 aw h bD Q bw bq a_ h0 qA UB hρ dk hH Xg dM hA hB cg QP ea bo db bp b6 b0 cS bs bj bl bY bR ch;generalize T.1=e2 at *;go_wp2_with (go_at_call 45;refine(V bQ _ _).m ?_;rintro t rfl);go_quiet (fail);have Y:=Xm (V ec)<|kv (dz _ _) nq;have eQ:=ae<|kv (V F) nq;generalize t.drewN nq=e5 at *;have Q:=Y.x.6.1;have c7:=ae<|wl mb 258 2 0 T Y.x.1 G G;have c0:=ae Y;clear Y ec en ep ej aq N ek eq bQ;go_wp2_with (fail);refine(V c7).m ?_;rintro d7 ⟨l,h⟩;have⟨T1,EY⟩:=bi ({ T with b:=jX T.1 258 0 2 }:cw);have bW:T1.Ok 276:=by rw[EY];exact Q
 rw[<- EY]at l;have av:=N3 (V c0) l h bW;have c8:ax (bd aK 46 #[cM<|ag ⟨nb,0,ai⟩,ak am 258,ak am 2,ak am 0] d7 λk n=>k=bg (bX #[])/\dg n nb T1/\cI bH nb d7 n):=by{rw[EY];exact wl nb 258 2 0 T av.y.1 G G};have d_:ax (T1.6=ao):=by rw[ax,EY];exact V dl
 have dB:=ae av;clear av l h EY Q c7 c0;go_wp2_with (fail);refine(V c8).m ?_;rintro d8 ⟨l,h⟩;have bu:=N4 (V dB) l h bW;have c9:=ae<|wl mb 770 2 0 T1 bu.x.1 G G;have dZ:=ae bu;clear bu l h c8 dB;go_wp2_with (fail);refine(V c9).m ?_;rintro d6 ⟨l,h⟩;have⟨T2,tj⟩:=bi ({ T1 with b:=jX T1.1 770 0 2 }:cw);have bS:T2.Ok 276:=by rw[tj];exact bW
 rw[<- tj]at l;have cx:=N3 (V dZ) l h bS;have c_:ax (bd aK 46 #[cM<|ag ⟨nb,0,ai⟩,ak am 770,ak am 2,ak am 0] d6 λk n=>k=bg (bX #[])/\dg n nb T2/\cI bH nb d6 n):=by{rw[tj];exact wl nb 770 2 0 T1 cx.y.1 G G};have dQ:ax (T2.rest.6=ao):=by rw[ax,tj];exact V d_
 have bF:=ae cx;clear cx l h tj bW c9 dZ d_;go_wp2_with (fail);refine(V c_).m ?_;rintro eT ⟨l,h⟩;have cy:=N4 (V bF) l h bS;have dm:=ae<|I5 mb T2 cy.x.1;have c3:=ae cy;clear cy l h c_ bF;go_wp2_with (fail);refine(V dm).m ?_;rintro e4 ⟨l,h⟩;have cf:T2.rest.Ok 276:=bS;have cz:=N3 (V c3) l h cf;have dn:=ae<|I5 nb T2 cz.y.1;have cZ:=ae cz;clear cz l h dm c3;go_wp2_with (fail);refine(V dn).m ?_;rintro al ⟨l,h⟩;have dE:=N4 (V cZ) l h cf;have⟨d,hW⟩:=bi<|aO (aO al<|aS #[cM<|ag ⟨mb,0,ai⟩,ak am 0,ak am 0,ak am 0,ak am 0] 90)<|aS #[cM<|ag ⟨nb,0,ai⟩,ak am 0,ak am 0,ak am 0,ak am 0] 90;have aX:cB (U al.1) al d:=by rw[hW];exact((dz _ _).alloc (cW _) _).alloc aA _
 have aB:mx d (U al.1) mb (0,0,0,0):=by rw[hW];exact(bk.fF al [cM<|ag ⟨mb,0,ai⟩,ak am 0,ak am 0,ak am 0,ak am 0] _).alloc _
 have a1:mx d (U al.1+1) nb (0,0,0,0):=by{have:=bk.fF (aO al<|aS #[cM<|ag ⟨mb,0,ai⟩,ak am 0,ak am 0,ak am 0,ak am 0] 90) [cM<|ag ⟨nb,0,ai⟩,ak am 0,ak am 0,ak am 0,ak am 0] 90;rw[gd]at this;rw[hW];exact this};have cA:=ag9 dE (λ_ eF=>eF) (λ_ k=>k) aX aB a1 (cW _) G G;have⟨ca,Ga⟩:=bi<|U al.1;have⟨cb,hcb⟩:=bi<|U al.1+1;rw[<- hcb,<- Ga]at cA;have cn:=ae<|cv Ga hcb;have c1:=ae hW;have⟨J,bv⟩:=bi (⟨aT,aj,aP,aR,mb,ca,bO,bc,nb,cb,M,I⟩:uS);have cY:ax (C9 t He J (276+60200*0) d):=⟨⟨T2.rest,8,0,0,0,oi,0,0,0,ao⟩,(0,0,0,0),V dQ,⟨bL,bL,bL,bL⟩,by rw[bv];exact cA⟩;have dU:=ae bv;clear dE l h aX aB a1 cA Ga hcb hW bv bS cf dn cZ dQ dl;go_wp2;rw[<- V c1,<- (V cn).2,<- (V cn).1];go_loopw [21] (λcF wr=>∃g:Nat,cF=ak am g/\g<=E L/\ax (C9 t He J (276+60200*g) wr)) λcF _=>E L-(intOf cF).toNat;·exact⟨0,af,eb _,cY⟩
 ·(
 obtain⟨g,rfl,aN,cp⟩:=hrel;clear cY c1 cn eQ;have⟨X,c,he,lq,hS⟩:=V cp;have aU:=(V F).trans<|hS.fr.below (λe aZ=>V bT e aZ) (V F).4;by_cases dJ:g<E L;case neg =>(obtain rfl:g=E L:=G;have eL:=ae aU;have eD:¬(E L:Int)<(E L:Int):=G;clear he lq hS aU dJ aN cp;go_wp2_with (fail);go_ret;exact⟨af,V eL⟩)
 obtain⟨a,cE⟩:∃a,L[g]? = ag a:=⟨_,gw dJ⟩;obtain⟨b,ab,ex,eS⟩:=V eu g a cE;obtain⟨b5,ay⟩:=V eg a<|rM cE;obtain⟨eM,eN,eP,dp,bA,dq,dr,⟨aq,q,rfl,dx⟩,⟨N,o,rfl,dy⟩,az⟩:=eS;obtain⟨z,B,eA⟩:∃z B,eP=aL z (E a.4) B:=by obtain⟨z,B,k,_⟩:=az;exact⟨z,B,k⟩
 subst ex eA;have eD:(g:Int)<E L:=G;have cS:=wI aU dp;have bs:=wI aU bA;have es:=wI aU dq;have iZ:=wI aU dr;have⟨ob,BZ⟩:=bi<|U wr.1;have⟨W1,hW1⟩:=bi<|aO wr<|aS #[ak am a.1,aL aq (E a.2) q,aL N (E a.3) o,aL z (E a.4) B] 92;have bx:cB (U wr.1) wr W1:=by rw[hW1];exact Io
 have a0:bk W1 ob [ak am a.1,aL aq (E a.2) q,aL N (E a.3) o,aL z (E a.4) B] 92:=by rw[hW1,BZ];exact bk.fF wr _ _
 have bv:=V dU;subst bv;have Z:=Js hS bx;have⟨R,hR⟩:=dK<|rl (min a.1 8).toNat X.1.1 c [];have C:=ae<|Nl ca mb a.1 X.1 Z.x.1 Z.2 lq;rw[hR]at C;have d1:aD W1 ⟨ob,0,ai⟩=ag (ak am a.1):=a0.cell 0 aA;have dA:=ae<|cv Z a0;have aV:=ae hR;have b8:=ae<|cv hW1 BZ;have aW:=ae (show(∀e bM,a.2[e]? = ag bM->∃au ab,aq=ag ⟨au,ab,ai⟩/\aD w ⟨au,ab+e,ai⟩=ag (amz<|O bM))/\(∀e bM,a.3[e]? = ag bM->∃au ab,N=ag ⟨au,ab,ai⟩/\aD w ⟨au,ab+e,ai⟩=ag (ak am bM))/\wC w (aL z (E a.4) B) a.4/\E a.4<=2000000/\∀f∈a.2,E f<=2000000 from⟨dx,dy,az,b5,ay⟩);have aF:=ae<|cv he lq;rw[hW1,BZ]at d1;clear hS aU cE b5 ay dp bA dq dr dx dy az bx a0 Z hR hW1 BZ he lq cp dU;go_wp2_with (fail);rw[<- (V b8).1,<- (V b8).2];refine(V C).mono ?_;rintro k x ⟨v,rfl,-,aH,bB,K⟩;obtain⟨Z,a0⟩:=V dA;have r:=ix K Z.x.1 a0 bL<|jj a0 Z.2 bL;have i:=N6 Z aH bB K Z.x.6.1;have an:=ae<|Nl cb nb a.1 X.1 i.y.1 i.3 (V aF).2;rw[V aV]at an;have eJ:aD x ⟨ob,0,ai⟩=ag (ak am a.1):=r.cell 0 aA;have ar:=ae<|cv i r;clear Z a0 r i aH bB K C dA b8 d1 cS bs es iZ;go_wp2_with (fail);refine(V an).mono ?_;rintro k ac ⟨e3,rfl,-,aI,bC,W⟩;obtain⟨i,r⟩:=V ar;have a9:=ix W i.y.1 r bL<|jj r i.3 bL;have aJ:=N7 i aI bC W i.y.4.1;have b3:ax (C9 t He ⟨aT,aj,aP,aR,mb,ca,bO,bc,nb,cb,M,I⟩ (276+60200*g) ac/\bk ac ob [ak am a.1,aL aq (E a.2) q,aL N (E a.3) o,aL z (E a.4) B] 92):=⟨⟨{ X with s:={ X.1 with b:=R.1 } },R.2.1,(V aF).1,by rw[<- V aV];exact Zg _ _ _ _ (V aF).2,aJ⟩,a9⟩;have aB:=a9.cell 1 aA;clear i r a9 aJ aI bC W an ar eJ aF aV;go_wp2_with (fail);clear aB;go_loopw [23] (λcH d9=>∃e:Nat,cH=ak am e/\e<=8/\ax (C9 t He ⟨aT,aj,aP,aR,mb,ca,bO,bc,nb,cb,M,I⟩ (276+60200*g) d9/\bk d9 ob [ak am a.1,aL aq (E a.2) q,aL N (E a.3) o,aL z (E a.4) B] 92)) λcH _=>8-(intOf cH).toNat;case atStart=>exact⟨0,af,G,b3⟩
 ·(
 clear b3;obtain⟨e,rfl,d4,b_⟩:=hrel;have⟨⟨X,c,he,lq,hS⟩,ho⟩:=V b_;have bK:=(V F).trans<|hS.fr.below (λe aZ=>V bT e aZ) (V F).4;have aB:=ho.cell 1 aA;have a1:=ho.cell 2 aA;have cO:=ho.cell 3 aA;simp only[e9,fw]at aB a1 cO;by_cases bU:e<E a.2/\e<8;{
 obtain⟨f,aM⟩:∃f,a.2[e]? = ag f:=⟨_,gw bU.1⟩;have⟨g1,o1,e1,cP⟩:=(V aW).1 e f aM;have cP:=wI bK cP;have ay:=(V aW).2.2.2.2 f<|rM aM;rw[e1]at aB;have dR:(e:Int)<E a.2:=G;have eB:(e:Int)<8:=G;have⟨mo,y8⟩:=bi<|a.3.getD e 0;obtain⟨ds,df,dt,du⟩:=c;have⟨R,hR⟩:=dK<|uQ X.1.1 (ds,df,dt,du) f mo;have C:=ae<|Ns ca mb f mo X.1 hS.x.1 hS.2 lq.1 lq.2.1 ay;unfold AN at C;rw[hR]at C;have be:ax (∀d,dg d nb X.1->mx d cb nb (ds,df,dt,du)->bd aK 49 #[cM<|ag ⟨cb,0,ai⟩,amz<|O f,ak am mo] d λk n=>k=bg (aG R.2.2)/\dg n nb { X.1 with b:=R.1 }/\mx n cb nb R.2.1/\cI (λg=>g=cb) nb d n):=λd Y av=>by{have:=Ns cb nb f mo X.1 Y av lq.1 lq.2.1 ay;unfold AN at this;rw[hR]at this;exact this};have bf:=ae<|cv hS ho;have aV:=ae (show yF R.2.1/\X.1.6=ao from⟨by rw[<- hR];exact ajG lq,he⟩);have cK:(∃bt bI,N=ag ⟨bt,bI,ai⟩/\aD wr ⟨bt,bI+e,ai⟩=ag (ak am mo)/\(e:Int)<E a.3)\/(¬(e:Int)<E a.3/\mo=0):=by{by_cases l:e<E a.3;{have⟨bt,bI,b1,ed⟩:=(V aW).2.1 e _<|gw l;refine bG ⟨bt,bI,b1,?_,G⟩;rw[y8,jw,gw l];exact wI bK ed};{exact bE ⟨G,by rw[y8,jw,Sb G];rfl⟩}};have dv:ax (∀d,bk d ob [ak am a.1,aL aq (E a.2) q,aL N (E a.3) o,aL z (E a.4) B] 92->aD d ⟨ob,1,ai⟩=ag (aL (ag ⟨g1,o1,ai⟩) (E a.2) q)):=λd dD=>by have:=dD.cell 1 aA;rw[<- e1];exact this
 have dT:=ae (show aD w ⟨g1,o1+e,ai⟩=ag (amz<|O f)from by have⟨g1',aUT,e1',y⟩:=(V aW).1 e f aM;rw[e1]at e1';cases e1';exact y);clear hS ho bK aM e1 he lq hR y8 d4 b_ ay;have dd:=ae bU.2;clear bU;rcases cK with⟨bt,bI,b1,ed,eC⟩|⟨eC,rfl⟩;all_goals try (rw[b1]at a1;clear b1)
 all_goals(go_wp2_with (fail);refine(V C).m ?_;rintro x ⟨aH,bB,K⟩;have⟨hS,ho⟩:=V bf;have r:=ix K hS.x.1 ho bL<|jj ho hS.2 bL;have i:=N6 hS aH bB K hS.x.6.1;have dG:=(V F).trans<|i.fr.below (λe aZ=>V bT e aZ) (V F).4;have eR:=wI dG<|V dT;have eK:=V dv x r;have an:=ae<|V be x i.y.1 i.3;have ar:=ae<|cv i r;clear hS ho r i dG aH bB K C be bf cP aB a1 cO;go_wp2_with (fail);refine(V an).m ?_;rintro ac ⟨aI,bC,W⟩;have⟨i,r⟩:=V ar;have a9:=ix W i.y.1 r bL<|jj r i.3 bL;have aJ:=N7 i aI bC W i.y.4.1;have b3:ax (C9 t He ⟨aT,aj,aP,aR,mb,ca,bO,bc,nb,cb,M,I⟩ (276+60200*g) ac/\bk ac ob [ak am a.1,aL aq (E a.2) q,aL N (E a.3) o,aL z (E a.4) B] 92):=⟨⟨{ X with s:={ X.1 with b:=R.1 } },R.2.1,(V aV).2,(V aV).1,aJ⟩,a9⟩;clear i r a9 aJ aI bC W an ar eR eK aV dv dT;go_wp2;exact⟨⟨e+1,dH,cj<|V dd,b3⟩,by have:=V dd;exact t8⟩)};{obtain⟨az,b5⟩:wC w (aL z (E a.4) B) a.4/\E a.4<=2000000:=⟨(V aW).2.2.1,(V aW).2.2.2.1⟩;have⟨P,cT⟩:=dK<|tW X.1.4 [] a.4;have cQ:X.1.4<=1000000000000:=cU hS.x.6.1.2.1 G;have C:=ae<|Zc mb hS.x.1 (Ze bK az) (Zf az (V c4).1) G cQ;have be:ax (∀d,cB (U w.1) w d->dg d nb X.1->bd aK 50 #[cM<|ag ⟨nb,0,ai⟩,aL z (E a.4) B] d λk n=>k=bg (bX #[])/\dg n nb { X.1 with p:=P }/\cI bH nb d n):=λd ey l=>by{rw[<- cT];exact Zc nb l (Ze ey az) (Zf az (V c4).2) G cQ};rw[cT]at C;have cK:(¬(e:Int)<E a.2/\decide ((e:Int)<E a.2)=ao)\/((e:Int)<E a.2/\¬(e:Int)<8/\decide ((e:Int)<8)=ao):=by{by_cases dD:e<E a.2;{exact bE ⟨G,G,gD G⟩};{exact bG ⟨G,gD G⟩}};have bf:=ae<|cv hS ho;have aF:=ae<|cv he lq;have ev:276+60200*g<=500000000000:=G;clear hS ho bK he lq az b5 cT cQ bU d4 b_ aW;rcases cK with⟨dR,eW⟩|⟨dR,eB,eU⟩;all_goals(go_wp2_with (fail);refine(V C).m ?_;rintro x ⟨aH,K⟩;have⟨hS,ho⟩:=V bf;have r:=ix K hS.x.1 ho bL id;have i:=Xo hS aH K hS.x.6.1;have an:=ae<|V be x ((V F).trans<|i.fr.below (λe aZ=>V bT e aZ) (V F).4) i.y.1;have d2:=r.cell 3 aA;simp only[e9,fw]at d2;have ar:=ae i;clear hS ho r i aH K C be bf aB a1 cO;go_wp2_with (fail);refine(V an).m ?_;rintro ac ⟨aI,W⟩;have aJ:=Xp (V ar) aI W (V ar).y.4.1;have c2:=ae<|agN { X with s:={ X.1 with p:=P } } aJ ev ef (V aF).1 (V er) (V eh);have dh:=ae (V aF).2;clear aJ aI W an ar d2 aF;go_wp2_with (fail);refine(V c2).m ?_;rintro d8 ⟨ei,c6,dV⟩;have et:ax (C9 t He ⟨aT,aj,aP,aR,mb,ca,bO,bc,nb,cb,M,I⟩ (276+60200*(g+1)) d8):=⟨ei,c,c6,V dh,by rw[show 276+60200*(g+1)=276+60200*g+60200 by omega];exact dV⟩;clear c6 dV c2 dh;go_wp2;exact⟨⟨g+1,dH,G,et⟩,ee⟩)}))}
section
open Go.ChangeShapes Go.WideShapes Go.ChangeAt Go.RowKit
section
open Go.ChangeMaps (open_string shut_string)
variable {H:Type} {enc:TypeId×Value->H}
def BE{P:Prop}(h:P:=by simp[Rows.uptoBulk]):P:=h
def ajX(a:DataW H):1<=Rows.uptoBulk a:=by
 cases a with
 | lit b=>cases b<;>simp[Rows.uptoBulk]
 | nil=>exact BE
 | ptr a=>exact BE
 | slice c d=>exact BE
 | agg b=>exact BE
 | iface g a=>exact BE
 | map b=>exact BE
 | held e=>exact BE
def Zj:∀a:List<|DataW H,E a<=Rows.uptoBulkAll a
 | []=>eb _
 | b::a=>by have:=ajX b;have:=Zj a;simp only[Rows.uptoBulkAll,ey];omega
def Zk:∀(c:List<|DataW H) (b:DataW H),b∈c->Rows.uptoBulk b<=Rows.uptoBulkAll c
 | [],_,a=>by cases a
 | d::c,b,a=>by simp only[Rows.uptoBulkAll];rcases gC.1 a with rfl|a;{omega};{have:=Zk c b a;omega}
def ajY:aK.underlying 49=ag (.slice 9):=b8
def ajZ:aK.underlying 56=ag (.slice 3):=b8
def aj0:aK.underlying 80=ag (.slice 174):=b8
def Zl:aK.underlying 86=ag (.slice 92):=b8
def Zm:aK.cellsOf 9=1:=b8
def aj1:aK.cellsOf 5=1:=b8
def JK:aK.cellsOf 3=1:=b8
def Y6:aK.cellsOf 174=3:=b8
def Y7:aK.cellsOf 92=4:=b8
def ajr:aK.cellsOf 49=1:=b8
def ajs:aK.cellsOf 56=1:=b8
def aju:aK.cellsOf 80=1:=b8
def ajv:laidOutB aK=aE:=b8
def ajw:aK.readableRec 86=aE:=b8
def ajy(c:(Lit.int .u8 i).wf=aE):∃b:UInt8,i=(b.toNat:Int):=by simp[Lit.wf,IntKind.min,IntKind.max,IntKind.signed,IntKind.bits]at c;refine⟨UInt8.ofNat i.toNat,?_⟩;rw[rJ];omega
def JM{α:Type}[Inhabited α]{r:DataW H}{O:List MemPlace}{q:Addr->α->DataW H->Prop}(L:aK.underlying z=ag (.slice X))(h:DataW.trod enc aK b 0 (λ_=>aE) aE a z [e]=ag (r,O))(J:∀N y n j P,b.cells? 0 n (aK.cellsOf X)=ag y->DataW.trod enc aK b 0 (λ_=>aE) aE N X y=ag (j,P)->∃c,q n c j)(K:∀n c j,q n c j->n.3=ai):∃x o,∃w:List α,e=aL x (E w) o/\E w<=Rows.uptoBulk r/\∀C c,w[C]? = ag c->∃v B j,x=ag (M v B)/\q (M v<|B+C*aK.cellsOf X) c j/\Rows.uptoBulk j<=Rows.uptoBulk r:=by
 rcases Deep.open_slice L h with⟨t,g⟩|⟨n,d,o,m,T,i,hi,t,_,R,S,A,g,I⟩;{
 obtain rfl:e=bY:=by simpa using t
 exact⟨ai,0,[],af,eb _,λC c h=>BA⟩};{
 obtain rfl:e=aL (ag n) d o:=by simpa using t
 simp only[pi]at A;subst A;simp only[Ge]at g;obtain⟨rfl,rfl⟩:=g;have⟨f,k⟩:=Deep.choose_lt (α:=α) (p:=λC c=>q (n.add<|C*aK.cellsOf X) c<|i C) (n:=d) (λC aN=>by{have⟨cs',h1,h2⟩:=I C G;exact J _ _ _ _ _ h1 h2});have u:E ((List.range d).map f)=d:=aA;refine⟨ag n,m,(List.range d).map f,by rw[u],?_,λC c g=>?_⟩;{have:=Zj<|(List.range d).map i;simp only[fC,akQ]at this;rw[u];simp only[Rows.uptoBulk];omega};{
 have aN:C<d:=by have:=(j_.1 g).1;rwa [u]at this
 rw[vy,List.getElem?_range aN]at g;obtain rfl:=ih g;obtain⟨D,ay,Q⟩:=n;have F:=K _ _ _<|k 0 G;obtain rfl:Q=ai:=by simpa [Addr.add]using F
 have k:=k C aN;rw[add_plain]at k;refine⟨D,ay,i C,af,k,?_⟩;have:=Zk ((List.range d).map i) (i C)<|lZ.2 ⟨C,GN.2 aN,af⟩;simp only[Rows.uptoBulk];omega}}
def Y_{c:Addr}{a:List bm}(d:b.cells? 0 c 1=ag a):∃v,a=[v]/\aD b c=ag v:=by
 have⟨_,h3,h4⟩:=KQ d;match a,h3 with
 | [v],_=>exact⟨v,af,by simpa [Addr.add]using h4 0 G⟩
def ajz{k:DataW H}{x:List MemPlace}(g:DataW.trod enc aK b 0 (λ_=>aE) aE a 49 [e]=ag (k,x)):∃u,O0 b e u/\∀f∈u,E f<=Rows.uptoBulk k:=by
 have⟨ad,cap,u,v,_,hl⟩:=JM (α:=ap) (q:=λj c d=>aD b j=ag (aZ c)/\E c<=Rows.uptoBulk d) ajY g (λA z j d B l p=>by{
 rw[Zm]at l;obtain⟨y,rfl,t⟩:=Y_ l;have⟨s,hs,h,_⟩:=DataW.trod_string Tryz.underlying9 p;obtain rfl:y=amz s:=by simpa using hs
 obtain rfl:d=.lit (.string s.1.1):=fE Prod.fst h;exact⟨s.1.1,t,by simp only[Rows.uptoBulk];omega⟩}) λ_ _ _ g=>GF g.1
 rw[Zm]at hl;refine⟨u,⟨ad,cap,v,λi c h=>?_⟩,λf r=>?_⟩;{obtain⟨o,w,d,rfl,⟨n,_⟩,_⟩:=hl i c h;rw[uJ]at n;exact⟨o,w,af,n⟩};{have⟨i,aN⟩:=List.getElem?_of_mem r;have⟨_,_,d,_,⟨_,k2⟩,k3⟩:=hl i f aN;omega}
def ajA{j:DataW H}{w:List MemPlace}(c:DataW.trod enc aK b 0 (λ_=>aE) aE a 56 [e]=ag (j,w)):∃d,O1 b e d:=by
 have⟨ad,cap,d,t,_,hl⟩:=JM (α:=Int) (q:=λg v _=>aD b g=ag (J v)) ajZ c (λz y g k A h n=>by{
 rw[JK]at h;obtain⟨x,rfl,o⟩:=Y_ h;have⟨v,hs,_⟩:=Ek Tryz.underlying3 n;obtain rfl:x=J v:=by simpa using hs
 exact⟨v,o⟩}) λ_ _ _ c=>GF c
 rw[JK]at hl;refine⟨d,ad,cap,t,λr v p=>?_⟩;obtain⟨l,u,k,rfl,i,_⟩:=hl r v p;rw[uJ]at i;exact⟨l,u,af,i⟩
def ajB{k:DataW H}{C:List MemPlace}(h:DataW.trod enc aK b 0 (λ_=>aE) aE a 80 [e]=ag (k,C)):∃c,wC b e c/\E c<=Rows.uptoBulk k:=by
 have⟨ad,cap,c,v,hb,hl⟩:=JM (α:=kb) (q:=λB d _=>aD b (B.add 0)=ag (J d.1)/\aD b (B.add 1)=ag (J d.2.1)/\aD b (B.add 2)=ag (ak .u8 d.2.2.toNat)) aj0 h (λA u B F I t w=>by{
 rw[Y6]at t;have⟨_,h3,h4⟩:=KQ t;have⟨xs,A,hk,Af,_,jc,hf⟩:=DataW.trod_struct Tryz.underlying174 w;match xs,jc,u,h3 with
 | [N,O,P],_,[K,L,M],_ =>{have l:=hf 0 _ af;have n:=hf 1 _ af;have p:=hf 2 _ af;simp[JK,aj1]at l n p;have⟨d,q0,_⟩:=Ek Tryz.underlying3 l;have⟨y,q1,_⟩:=Ek Tryz.underlying3 n;have⟨z,q2,_,q3⟩:=Ek Tryz.underlying5 p;obtain⟨j,rfl⟩:=ajy q3;simp only[List.cons.injEq,and_true]at q0 q1 q2;subst q0 q1 q2;exact⟨(d,y,j),h4 0 G,h4 1 G,h4 2 G⟩}}) (λB _ _ h=>by have:=GF h.1;simpa [Addr.add]using this)
 rw[Y6]at hl;refine⟨c,⟨ad,cap,v,?_⟩,hb⟩;by_cases r:c=[];{exact bG r};{obtain⟨d,i⟩:∃d,c[0]? = ag d:=⟨_,gw<|yq.2 r⟩;have⟨g,o,_,e0,⟨k1,_⟩,_⟩:=hl 0 d i;rw[add_plain]at k1;refine bE ⟨g,o,e0,i8 _ _ k1,λx B D j i=>?_⟩;have⟨g',o',_,e1,⟨k0,k1,k2⟩,_⟩:=hl x _ i;rw[e0]at e1;cases e1;rw[add_plain]at k0 k1 k2;exact⟨k0,k1,k2⟩}
instance:Inhabited Fv:=⟨⟨0,[],[],[]⟩⟩
def ajC{l:DataW H}{N:List MemPlace}(S:∃c Y o,e=aL c Y o)(g:DataW.Trod enc aK b 0 (λ_=>aE) aE 86 e l N):∃n,Zd b e n/\E n<=Rows.uptoBulk l/\∀a∈n,E a.4<=Rows.uptoBulk l/\∀f∈a.2,E f<=Rows.uptoBulk l:=by
 obtain⟨aa,ab,ac,rfl⟩:=S;obtain⟨P,g⟩:=g;have g:DataW.trod enc aK b 0 (λ_=>aE) aE P 86 [aL aa ab ac]=ag (l,N):=by simpa [Value.cells]using g
 have⟨ad,o,n,v,hb,hl⟩:=JM (α:=Fv) (q:=λc a k=>∃h i j,aD b (c.add 0)=ag (J a.1)/\aD b (c.add 1)=ag h/\aD b (c.add 2)=ag i/\aD b (c.add 3)=ag j/\O0 b h a.2/\O1 b i a.3/\wC b j a.4/\E a.4<=Rows.uptoBulk k/\∀f∈a.2,E f<=Rows.uptoBulk k) Zl g (λT O c k ae D R=>by{
 rw[Y7]at D;have⟨_,h3,h4⟩:=KQ D;have⟨xs,T,hk,Af,_,jc,d⟩:=DataW.trod_struct Tryz.underlying92 R;match xs,jc,O,h3 with
 | [t,u,w,y],_,[ah,h,i,j],_ =>{
 have z:=d 0 _ af;have A:=d 1 _ af;have B:=d 2 _ af;have C:=d 3 _ af;simp[JK,ajr,ajs,aju]at z A B C;have⟨x,q0,_⟩:=Ek Tryz.underlying3 z;simp only[List.cons.injEq,and_true]at q0;subst q0;have⟨l1,p1,b1⟩:=ajz A;have⟨l2,fz⟩:=ajA B;have⟨l3,gg,b3⟩:=ajB C;obtain rfl:k=.agg [t.1,u.1,w.1,y.1]:=by simpa using fE Prod.fst Af
 have M:Rows.uptoBulk (.agg [t.1,u.1,w.1,y.1]:DataW H)=Rows.uptoBulk t.1+(Rows.uptoBulk u.1+(Rows.uptoBulk w.1+(Rows.uptoBulk y.1+0)))+1:=af;exact⟨⟨x,l1,l2,l3⟩,h,i,j,h4 0 G,h4 1 G,h4 2 G,h4 3 G,p1,fz,gg,by rw[M];show E l3<=_;omega,λf d=>by rw[M];have:=b1 f d;omega⟩}}) (λc _ _ ⟨_,_,_,g,_⟩=>by have:=GF g;simpa [Addr.add]using this)
 rw[Y7]at hl;refine⟨n,⟨ad,o,v,λr a p=>?_⟩,hb,λa p=>?_⟩;{obtain⟨Q,Z,k,rfl,⟨h,i,j,F,I,K,L,V,W,X,_⟩,_⟩:=hl r a p;rw[add_plain]at F I K L;exact⟨Q,Z,af,h,i,j,F,I,K,L,V,W,X⟩};{have⟨r,aN⟩:=List.getElem?_of_mem p;have⟨_,_,k,_,⟨h,i,j,_,_,_,_,_,_,_,k7,k8⟩,k9⟩:=hl r a aN;exact⟨G,λf d=>cj<|k8 f d⟩}
def aj2(I:Stop.Interp)(a:aQ)(L:Nat)(b:Array bm)(i k:List<|DataW H)(M:List MemPlace)(K:∀(r:Nat) z v,Tryz.f12.4[r]? = ag z->b[r]? = ag v->Value.okWide aK a .any L z v)(o:DataW.Whole enc aK Tryz.f12.4.1 (Rows.OpenSpec.upto Rows.machinesSpec).2 ao a b.1 i k M)(X:Rows.uptoSmall H (i++k)=aE) (J:a.ShapedOpen aK):bd aK 12 b a λj h=>∃v,j=bg v/\((Rows.OpenSpec.upto Rows.machinesSpec).at I).post enc aK Tryz.f12 ao aE ao ao a b v h:=by
 have c:=K;have d:=o;obtain⟨aM,aR,F,T,rfl,aI,aJ⟩:=o;have n:=F;rw[Tryz.params12]at n c;obtain⟨A,ar,cS,aA,aN,aT,au,rfl,rfl,P,ab⟩:=Ej n;obtain⟨B,aY,ay,aB,aP,aU,rfl,rfl,rfl,Q,ac⟩:=Ej ab;obtain⟨C,aZ,az,aC,fz,aV,rfl,rfl,rfl,R,ad⟩:=Ej ac;obtain⟨D,a0,iZ,aF,gg,aW,rfl,rfl,rfl,S,ae⟩:=Ej ad;obtain⟨e,av,N,aw,t,aX,rfl,rfl,rfl,l,ah⟩:=Ej ae;obtain⟨rfl,rfl,rfl⟩:=trodAll_nil ah;obtain rfl:b=#[A,B,C,D,e]:=by cases b;simp_all
 obtain⟨rfl,rfl⟩:=trodVars_none T;obtain⟨aj,rfl,rfl,rfl,al⟩:=open_string Tryz.underlying9 (c 0 9 A af af) P;obtain⟨w,rfl,rfl,rfl,an⟩:=open_string Tryz.underlying9 (c 1 9 B af af) Q;obtain⟨x,rfl,rfl,rfl,ap⟩:=open_string Tryz.underlying9 (c 2 9 C af af) R;obtain⟨y,rfl,rfl,rfl,aq⟩:=open_string Tryz.underlying9 (c 3 9 D af af) S;have aH:Rows.uptoBulk N<=1048576/\E w.1.1<=1048576/\E x.1.1<=1048576/\E y.1.1<=1048576:=by{have:=yu X;simp only[g_,jz,Rows.uptoBulkAll,Rows.uptoBulk]at this ⊢;omega};have⟨rs,ha,hl,hn⟩:=ajC (okWide_slice Zl<|c 4 86 e af af) l;have Y:∀g∈t,g.block<U a.1:=λg Z=>d.lt g (by simp[Z]);simp only[mw]at d;have aa:=ajK aj.1.1 w.1.1 x.1.1 y.1.1 rs e a (ajM J) G G G ha G λu q=>⟨cj<|(hn u q).1,λf W=>cj<|(hn u q).2 f W⟩;refine aa.mono λj h ⟨V,p⟩=>?_;subst V;exact⟨_,af,_,_,_,[],[]++([]++([]++([]++(t++[])))),[],d,(trodAll_cons_mk (shut_bool Tryz.underlying4 _) trodAll_mk0),(trodAll_cons_mk (shut_string Tryz.underlying9 al)<|trodAll_cons_mk (shut_string Tryz.underlying9 an)<|trodAll_cons_mk (shut_string Tryz.underlying9 ap)<|trodAll_cons_mk (shut_string Tryz.underlying9 aq)<|trodAll_cons_mk (Below.trod ajv ajw (yu b8) l p Y) trodAll_mk0),af,p.frame _,λO=>by cases O⟩
def akk(a:Os)(q:a.Started)(H:Type)(enc:TypeId×bm->H)(b:Stop.Interp):ReturnsInHanded {} Tryz.checked a 12 .any ((Rows.OpenSpec.upto Rows.machinesSpec).preRow enc aK Tryz.f12 Rows.machinesUptoRow.15 ao Rows.machinesUptoRow.16) (((Rows.OpenSpec.upto Rows.machinesSpec).at b).post enc aK Tryz.f12 ao aE ao ao):=by have p:DataW.whole enc aK ((World.laidAll aK a Rows.machinesUptoRow.16).forCall (λ_ _=>0) ⟨#[],#[amz ⟨#[]⟩,amz ⟨#[]⟩,amz ⟨#[]⟩,amz ⟨#[]⟩,bY],[]⟩).memory Tryz.f12.4.1 (Rows.OpenSpec.upto Rows.machinesSpec).2 ao (#[amz ⟨#[]⟩,amz ⟨#[]⟩,amz ⟨#[]⟩,amz ⟨#[]⟩,bY]:Array bm).1 8=ag ([.lit<|.string [],.lit<|.string [],.lit<|.string [],.lit<|.string [],.nil],[],[]):=b8;exact returnsInHanded_of_row (C:=Tryz.checked) (s:=Rows.OpenSpec.upto Rows.machinesSpec) ajL q b8 Tryz.func12 ⟨World.laidAll aK a Rows.machinesUptoRow.16,λ_ _=>0,⟨#[],#[amz ⟨#[]⟩,amz ⟨#[]⟩,amz ⟨#[]⟩,amz ⟨#[]⟩,bY],[]⟩,World.laidAll_os _ _ _,World.shaped_of_ZipB b8 b8,af,(Input.okWide_of_okWideB b8).2, OpenSpec.preRow_of_cond 8 p b8 (λr n=>by cases n;kernel_rfl) b8 (by rw[MakeChecks.laidMetH_plain _ _ _ b8];exact laidMet_laidAll _ b8 b8),by{simp only[Assume.holds];exact⟨aA,aA,λ_=>Modest.zero,aA,aA⟩}⟩ λe h g j k i o l _ d _ _ c _=>aj2 b e h g j k i o l (d _ af) c
def akl:Tryz.f12.isInstance aK Rows.machinesUptoRow.5 Rows.machinesUptoRow.6:=yu b8
def akm:Tryz.f12.isWrapper aK Rows.machinesUptoRow.7 Rows.machinesUptoRow.8:=by unfold Func.isWrapper;first|(rw[b7<|by decide +kernel];kernel_rfl)|(rw[bJ<|by decide +kernel];exact⟨af,af⟩)
def akn:Rows.MachinesUptoSaid :=
 OpenClaim.holds_of_cond 12 Tryz.f12 af af af af af af af ⟨af,af,af,af,af⟩ af af af af af Zi Tryz.func12 ajW akl akm
  (λb c H enc _ a=>by rw[OpenClaim.pre_eq_preRow];exact akk b c H enc a)
end
end
end Go.Proofs.YtkkpahmoljiepaaGreatDoor
