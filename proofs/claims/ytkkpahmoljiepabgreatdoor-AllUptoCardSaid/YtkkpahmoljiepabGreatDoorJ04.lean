import Derived.Test.YtkkpahmoljiepabGreatDoorJ02
import Derived.Lib.SmallJoins
import Derived.Test.YtkkpahmoljiepabGreatDoorJ03
import Derived.Conc.LoneSelect
import Derived.Deep.AppendLies
set_option maxRecDepth 1000000
set_option maxHeartbeats 12800000
set_option linter.all false
open Array renaming size->J
open Bool renaming false->ak,true->aD
open ByteArray renaming size->b7
open Decidable renaming decide->dC
open Eq renaming symm->b5,trans->cQ
open Go renaming Addr->gU,Calls->a_,TypeId->dP,Value->bk,World->aQ,bytesRow->gW,callsIn_of_wp_marks->sm,maxLen->fk,results->c_,run_takeDeferred->lf,undef->e8
open Go.CallsIn renaming inRound->ij
open Go.Ending renaming returned->bh
open Go.IntKind renaming i64->ai,u16->eO,u8->ch
open Go.Obj renaming cells->aZ,deferred->df,loop->dq
open Go.Op renaming bytesLess->mr
open Go.Proofs renaming holdsK_sortWorldK_c->wi,intOf->fj,sortWorldK->e7
open Go.Proofs.Tryz renaming prog->aL
open Go.RowKit renaming Below->cv,Hid->ao
open Go.RowKit.Below renaming alloc->cf,mono->bN,setCell->fc,trans->bC
open Go.Value renaming agg->ce,bool->aG,func->ez,iface->cP,int->ag,ownBlock->bA,pointer->cz,slice->aE,string->am,tuple->bZ
open Go.World renaming alloc->aN,alloc_heap_new->cW,cell?->aA,drew->bx,drewN->dS,frozen?->gd,putObj_heap_other->jB,setCell->a7
open Int renaming toNat->cM
open List renaming drop->bi,dropWhile->kT,filter->dT,flatMap->ex,length->E,map->b9,take->be,takeWhile->he,toArray->c7
open Option renaming none->af,some->ae
open Or renaming inl->bJ,inr->bE
open UInt8 renaming toNat->bg
namespace Go.Proofs.YtkkpahmoljiepabGreatDoor
variable{φ:Prop}
open Go.RowKit Go.Proofs.Tryz
variable{a:Nat}{f m u:World}{h o:ap}{e r C:Value}{i p x:List aK}{j y:Int}{H:Bool}{F:List ap}{z X:TypeId}{A Y:Nat->Prop}{Q:List UInt8}{T:ByteArray}
section
attribute [local go_sem] Oper.semAt_some
def iH(a:ap):ap:=(Lib.cut a [46]).2.1
def xj:Nat->ap->List ap
 |0,_=>[]
 |f+1,a=>if a=[]then []else a::xj f (iH a)
def dU(a:ap):List ap:=xj (E a) a
def uX(b)(c:(46:UInt8)∉Q):iH (Q++46::b)=b:=by rw[iH,Lib.cut,Lib.index_one,Dt 46 Q b c,b8 G];simp
def xk(b:(46:UInt8)∉h):iH h=[]:=by rw[iH,Lib.cut,Lib.index_one,Dr 46 h b,bV bW]
def wt(g:Q≠[]):E (iH Q)<E Q:=by
 by_cases b:(46:UInt8)∈Q;{obtain⟨e,c,rfl,d⟩:=A9 b;rw[uX c d];grind};{
 rw[xk b];cases Q with
 |nil=>grind
 |cons i h=>simp}
def I5:∀(f:Nat) (a:ap),E a<=f->xj f a=xj (E a) a
 |0,a,d=>by grind
 |f+1,a,d=>by by_cases b:a=[];{subst b;rfl};{have g:=wt b;obtain⟨c,e⟩:∃c,E a=c+1:=⟨E a-1,G⟩;rw[e,xj,xj,bV b,bV b,I5 f _ G,I5 c _ G]}
def o2:dU []=[]:=rfl
def oB(c:Q≠[]):dU Q=Q::dU (iH Q):=by let:=wt c;unfold dU;obtain⟨b,d⟩:∃b,E Q=b+1:=⟨E Q-1,G⟩;rw[d,xj,bV c,I5 b _ G]
def PV:∀(f:Nat) (a:ap),E a<=f->∀c∈dU a,E c<=E a
 |0,a,e,c,b=>by obtain rfl:a=[]:=hq G;simp[o2]at b
 |f+1,a,e,c,b=>by by_cases d:a=[];{subst d;simp[o2]at b};{rw[oB d,fw]at b;have g:=wt d;rcases b with rfl|b;{omega};{have:=PV f (iH a) G c b;omega}}
def GS(c:o∈dU h):E o<=E h:=PV _ _ bo o c
def ag1:bk->Nat
 |.string s=>b7 s
 |_=>0
def Db(c a):a_ aL 167 #[aS c] a λd b=>d=bh (ez (.func 212) #[] #[bv<|J a.1])/\J b.1=J a.1+1/\a6 a b/\aA b (N (J a.1) 0)=ae (aS c):=by go_wp2;go_ret;exact⟨U,ax,cf cc bo _,by go_simp⟩
def PW(b)(g:dx f)(k:E b<=3000):a_ aL 213 #[aS b,am ⟨#[46]⟩] f λj c=>(∃d e,j=bh (bZ #[aS d,aS<|iH b,aG e]))/\a6 f c:=by let⟨_,m,h⟩:=g;refine(Tryz.strings_Cut (D b) ⟨#[46]⟩ m f lv h).m ?_;rintro c ⟨i,rfl⟩;exact⟨⟨_,_,U⟩,jn (cU _ f) i⟩
def ag2(a)(k:dx f)(l:E a<=3000):a_ aL 254 #[aS a] f λh g=>∃b,h=bh (ez (.func 212) #[] #[bv b])/\b<J g.1/\J f.1<=b/\a6 f g/\aA g (N b 0)=ae (aS<|iH a):=by let i:=O<|PW a k l;go_in;go_wp21;refine i.mono ?_;rintro h n ⟨⟨o,p,rfl⟩,e⟩;go_wp21;refine(Db (iH a) n).m λr ⟨q,j,d⟩=>?_;replace d:=O d;go_wp2;go_ret;let:=e.4;exact⟨_,U,G,G,bC e<|bN j e.4,d⟩
def Dc(c:aA f (N a 0)=ae (aS Q))(T:dx f)(aw:E Q<=3000):uq aL 212 #[bv a] (λd:ap=>#[aS d]) (dU Q)
   (λg h=>a6 g h) (λg h=>J g.1<=J h.1/\h.1[0]? = g.1[0]?) (λ_ _=>True) f:=by
 intro w C aj L ah P av;have t:=O P;have u:=O L;have o:=O T;refine OW func212 U cy ?_;simp only[ntmps212,mA,dW,gG,Nat.reduceAdd,Nat.reduceSub,mx,mP,mR,mQ,iF,fN];gi_wp2;gi_loopw [3] (λs wr=>∃(b:Nat) (d:ap),s=aS d/\E d<=E Q/\b<=E (dU Q)/\bi b (dU Q)=dU d/\C b wr/\(J f.1<=J wr.1/\wr.1[0]? = f.1[0]?)) λs _=>ag1 s;·grind
 ·(
 obtain⟨b,d,rfl,S,aO,R,ad,l⟩:=hrel;have i:=O R;let A:=O ad;by_cases e:d=[];{
 have W:((D d).toList==[])=aD:=by rw[e,gC];rfl
 have H:ao (b=E (dU Q)):=by{have:=eQ List.length i;rw[il,e,o2,gG]at this;rw[ao];omega};clear c t u o i S aO l e;gi_wp2;go_end0;exact⟨eR _ U,bJ (by rw[<-H];assumption)⟩};{have W:((D d).toList==[])=ak:=by{rw[ju,gC];exact e};have y:ao ((dU Q)[b]? = ae d):=by{have:=eQ (λw:List ap=>w[0]?) i;rw[oB e]at this;rw[ao];grind};have X:ao (bi (b+1) (dU Q)=dU (iH d)):=by{rw[ao,<-my,i,oB e];rfl};let z:ao (b+1<=E (dU Q)):=(iW.1 y).1;have:=wt e;have aa:=t b d wr y A;let⟨au,ay,al,aq,ax,M⟩:=aa;gi_wp2_with fail;refine bd U<|M.mono ?_;rintro ab k (⟨rfl,Z,r⟩|⟨rfl,az,_⟩);{let ac:=O Z;have j:J f.1<=J k.1/\k.1[0]? = f.1[0]?:=bd (cJ l.1 r.1)<|cQ r.2 l.2;have p:dx k:=by{let⟨K,m,V⟩:=o;exact⟨eA K j.1,m,(dR j.2).trans V⟩};let B:=O<|PW d p G;let F:=p.1;gi_wp2_with fail;refine⟨cy,U,(ec.2 B).mono ?_⟩;rintro ab q ⟨⟨an,ar,rfl⟩,n⟩;have I:=O<|u _ _ _ ac n;let Y:J f.1<=J q.1/\q.1[0]? = f.1[0]?:=bd (cJ j.1 n.4)<|(n.5 0 F).trans j.2;gi_wp2_with fail;exact⟨⟨b+1,iH d,U,G,z,X,I,Y⟩,fi⟩};{gi_wp2;refine dQ (wq U _ _ _) U ?_;grind}})
end
def sX(d:aQ)(b:Nat)(c:ap):Prop:=b<J d.1/\(∀a (e:a<E c),aA d (N b a)=ae (ag ch c[a].toNat))/\∀a,a<E c->gd d (N b a)=ak
def sX.set{b}(k:sX f b h)(a g)(p:a<E h):sX (a7 f ⟨b,a,af⟩<|ag ch<|bg g) b (h.set a g):=by let⟨n,i,o⟩:=k;refine⟨by simp_all,λd c=>?_,λd c=>?_⟩;{rw[o4]at c;by_cases e:a=d;{subst e;rw[World.cell?_setCell_same _ _ _<|i a c];simp};{rw[zM _ _ _ _ λl=>e<|eQ Addr.off l,i d c];grind}};simp_all
def Dd(c:aQ)(a b):sX (aN (bx c)<|aZ (gW (D a) b) 5 (J<|gW (D a) b,J (gW (D a) b)+1)) (J c.1) a:=by
 let d:(aN (bx c)<|aZ (gW (D a) b) 5 (J<|gW (D a) b,J (gW (D a) b)+1)).1[J c.1]? = ae (aZ (gW (D a) b) 5 (J<|gW (D a) b,J (gW (D a) b)+1)):=cW (bx c) _;let:E a<=J (gW (D a) b):=by simp[gW,D]
 refine⟨ax,λe g=>?_,λe g=>?_⟩;{let:=bytesRow_at (D a) b e fi;simp only[aA,d];assumption};{simp only[World.frozen?,d];grind}
def kt(a:UInt8):UInt8:=if 65<=bg a/\bg a<=90 then UInt8.ofNat (bg a+32)else if bg a=46 then 80 else a
def ag3(e:UInt8)(c:a<E h):(b9 kt (be a h)++bi a h).set a (kt h[a])=b9 kt (be (a+1) h)++bi (a+1) h:=by
 let d:E (b9 kt<|be a h)=a:=by grind
 rw[jM c,g8 c,Im,bV G,d,pX,jg,iz,iR];rfl
def ag4(c:a<E h)(d:kt h[a]=h[a]):b9 kt (be (a+1) h)++bi (a+1) h=b9 kt (be a h)++bi a h:=by rw[jM c,g8 c,jg,iz];grind
def Ml(h:φ:=by rw[xz]at kc;subst dn;go_wp2;go_ret;exact bd U mg):φ:=h
def G4(h:φ:=by go_wp2;exact bd (⟨k+1,dd,G,bn,mg⟩) dz):φ:=h
def NH(h:φ:=by rw[hv]at HS;let⟨h1,h2⟩:=h1;go_wp2;exact bd (⟨k+1,dd,G,HS,fc mg bo _⟩) dz):φ:=h
def MJ(h:φ:=by{
 have e:((N (J w.1) 0):gU).add j=(N (J w.1) j):=by unfold Addr.add;simp_all
 rw[e];exact eC.2.1 j hj}):φ:=h
def ag5(w)(F:E Q<=1000):a_ aL 210 #[aS Q] w (cI (aS<|b9 kt Q) w):=by
 have:=Dn (P:=aL) w 9 53 5 (D Q) underlying9 underlying53 underlying5;have:=O<|Dd w Q<|grownCap w (b7<|D Q) 0 5;have o:=O<|(cU (J w.1) w).drew.alloc (cO<|J w.1)<|aZ (gW (D Q)<|grownCap w (b7<|D Q) 0 5) 5 (J<|gW (D Q)<|grownCap w (b7<|D Q) 0 5,J (gW (D Q)<|grownCap w (b7<|D Q) 0 5)+1);have z:E Q<=grownCap w (b7<|D Q) 0 5:=by{have:=Dk w (b7<|D Q) 0 5;assumption};generalize grownCap w (b7<|D Q) 0 5=d at*;generalize aN (bx w) (aZ (gW (D Q) d) 5 (J<|gW (D Q) d,J (gW (D Q) d)+1))=y at*;have:=cV Q;go_wp2;go_loopw [10] (λh wr=>∃k:Nat,h=M k/\k<=E Q/\sX wr (J w.1) (b9 kt (be k Q)++bi k Q)/\a6 w wr) λh _=>E Q-cM (fj h);·exact⟨0,U,dJ _,fi,o⟩
 ·(
 obtain⟨k,rfl,C,eC,u⟩:=hrel;have g:=O eC;have mg:=O u;by_cases l:k<E Q;{
 have:E (b9 kt (be k Q)++bi k Q)=E Q:=by grind
 have B:aA wr (N (J w.1) k)=ae (ag ch Q[k].toNat):=by{rw[g.2.1 k G];grind};have:=g.2.2 k G;have q:=O<|ag3 0 l;have HS:=O<|g.set k (kt Q[k]) G;have p:=O<|ag4 l;generalize Q[k]=b at*;have:=gp b;have i:ao ((bg (kt b):Int)=if 65<=bg b/\bg b<=90 then(bg b:Int)+32 else if bg b=46 then 80 else bg b):=by{unfold ao kt;split;{simp;omega};{split<;>rfl}};have n:ao (kt b=b->sX wr (J w.1) (b9 kt (be (k+1) Q)++bi (k+1) Q)):=λt=>by rw[p t];assumption
 rw[q]at HS;have r:ao (¬(65<=bg b/\bg b<=90)->¬bg b=46->kt b=b):=λh1 h2=>by grind[kt]
 generalize H:bg b=c at*;by_cases h1:65<=c/\c<=90;{
 have hv:(bg (kt b):Int)=(c:Int)-65+97:=by rw[i,b8 h1];omega
 exact NH};{
 by_cases h2:c=46;{
 have hv:(bg (kt b):Int)=80:=by rw[i,bV h1,b8 h2]
 rw[hv]at HS;subst h2;go_wp2;exact bd (⟨k+1,dd,G,HS,fc mg bo _⟩) dz};{
 have bn:=O<|n<|r h1 h2;let:((c:Int)==46)=ak:=by grind
 by_cases A:65<=c;{let:¬c<=90:=G;go_wp2;exact bd (⟨k+1,dd,G,bn,mg⟩) dz};{exact G4}}}};{
 have dn:k=E Q:=G;have x:ao (b9 kt (be k Q)++bi k Q=b9 kt Q):=by rw[ao,dn];simp
 have eC:=g;rw[x]at eC;let xz:E (b9 kt Q)=E Q:=ax;have kc:=Do (P:=aL) wr 53 9 5 (N (J w.1) 0) d (b9 kt Q) underlying53 underlying5 underlying9 λj hj=>MJ
 exact Ml})
def ag6(b)(d:dx f)(h:E b<=3000):a_ aL 317 #[aS b] f (cI (aS (Lib.cut b [46]).1) f):=by let⟨_,m,e⟩:=d;let c:=O<|Tryz.strings_Cut (D b) ⟨#[46]⟩ m f lv e;go_in;go_wp21;refine c.m ?_;rintro i ⟨g,rfl⟩;go_wp2;go_ret;exact bd U<|jn (cU _ f) g
def nk(c:aQ)(a:Nat)(b:List ap):Prop:=c.1[a]? = ae (aZ (c7<|b.map λd=>am<|D d) 9)
section
variable {w:World} {g:Nat}{l:List ap}
def nk.lt(a:nk w g l):g<J w.1:=(dK.1 a).1
def nk.cell(a:nk w g l)(i)(aO:i<E l):aA w (N g i)=ae (am<|D l[i]):=by unfold nk at a;simp[aA,a,aO]
def nk.frozen(h:nk w g l)(a):gd w (N g a)=ak:=by unfold nk at h;exact qE
def nk.set(c:nk w g l)(a b):nk (a7 w ⟨g,a,af⟩<|am<|D b) g (l.set a b):=by unfold nk at*;simp only[a7];rw[ru,b8 U,c];simp
def nk.below(a:nk w g l)(c:a6 w f):nk f g l:=(c.5 g a.lt).trans a
end
def PX(e:aQ)(v:bk)(a:List ap):Prop:=(v=bX/\a=[])\/∃b d,v=bL b 0 (E a) d/\E a<=d/\b<J e.1/\∀c (g:c<E a),aA e (N b c)=ae (am<|D a[c])
def k_(a:ap):ap:=b9 kt a
def A5:E (k_ h)=E h:=by simp[k_]
def cT(a:List ap):ap:=Lib.join (b9 k_ a) [46]
def ag7(b:aQ)(a):nk (aN b<|aZ (madeCells (am ⟨#[]⟩).cells a) 9) (J b.1) (List.replicate a []):=by let c:madeCells (am ⟨#[]⟩).cells a=c7 ((List.replicate a ([]:ap)).map λd=>am<|D d):=by{apply Array.ext';simp only[madeCells,Value.cells,Array.toList_map,Array.toList_range];apply List.ext_getElem;{simp};{intro h e g;simp[D,Nat.mod_one]}};rw[c];exact cW b _
def ag8(d:a<E F):((b9 k_<|be a F)++List.replicate (E F-a) []).set a (k_ F[a])=(b9 k_<|be (a+1) F)++List.replicate (E F-(a+1)) []:=by
 let c:E (b9 k_<|be a F)=a:=by grind
 rw[Im,bV G,c,pX,g8 d,show E F-a=(E F-(a+1))+1 from G,List.replicate_succ,iR,jg,iz];rfl
def PY:b9 (·.data.1) (b9 D F)=F:=by rw[lV];exact List.map_id' F
def PZ(c):∀d:List ap,(∀a∈d,E a<=c)->E (Lib.join d [46])<=E d*(c+1)
 |[],_=>by simp[Lib.join,List.intercalate]
 |[a],b=>by have:=b a ax;simp[Lib.join,List.intercalate];omega
 |a::i::h,b=>by have e:=PZ c (i::h) λj g=>b j<|l8 _ g;have k:=b a ax;simp only[Lib.join,List.intercalate]at e⊢;rw[List.intersperse];simp only[List.flatten_cons,dj,dW,gG]at e⊢;{grind};simp
def ag9(x:PX f e F)(aq:E F<=1000)(Y:∀ah∈F,E ah<=1000):a_ aL 165 #[e] f (cI (aS<|cT F) f):=by
 let⟨ab,aO,Z,aa,ar⟩:=im wx;have k:=run_make (P:=aL) f 23 9 ab (am ⟨#[]⟩) A2 aO Z ai ai (E F) (E F) G (Int.le_refl _) (by grind) G;rw[aa]at k;simp only[sA,r5]at k;have Q:=O<|ag7 f<|E F;have l:=O<|(cU (J f.1) f).alloc bo<|aZ (madeCells (am ⟨#[]⟩).cells<|E F) 9;have ad:=O<|Any.strings_Join Tryz.lays156 Tryz.Builder_Extra_156;have:=O x;have w:=O Y;generalize aN f (aZ (madeCells (am ⟨#[]⟩).cells<|E F) 9)=h at*;rcases x with⟨rfl,rfl⟩|⟨T,al,rfl,an,W,q⟩;{
 have L:=O λh:aQ=>Any.strings_Join_none Tryz.lays156 Tryz.Builder_Extra_156 (ae<|N (J f.1) 0) 0 ⟨#[46]⟩ h;simp only[gG]at k Q l;have:(Instr.makeSlice 23 (M 0)<|M 0).run aL f=.ok (bL (J f.1) 0 0 0) h:=k;go_wp2;go_loopw [11] (λc wr=>c=M 0/\wr=h) λ_ _=>0;·simp
 ·(obtain⟨rfl,rfl⟩:=hrel;go_wp21;refine(L _).m ?_;rintro z rfl;go_wp2;go_ret;exact bd U l)};{
 replace q:=O q;go_wp2;go_loopw [11] (λc wr=>∃b:Nat,c=M b/\b<=E F/\nk wr (J f.1) ((b9 k_<|be b F)++List.replicate (E F-b) [])/\a6 f wr) λc _=>E F-cM (fj c);·exact⟨0,U,dJ _,fi,l⟩
 ·(
 obtain⟨b,rfl,ap,C,V⟩:=hrel;have a:=O C;have g:=O V;by_cases n:b<E F;{
 have:=(g.cell (p:=⟨T,b,af⟩) W).trans (q b n);have B:=O<|ag8 n;have H:=w F[b]<|ei n;have:E ((b9 k_<|be b F)++List.replicate (E F-b) [])=E F:=by grind
 generalize F[b]=d at*;let K:=O (show a_ aL 210 #[aS d] wr λS aj=>S=bh (aS<|k_ d)/\a6 wr aj from ag5 wr H);go_wp21;refine K.m λz i=>?_;let r:=a.below i;let:=r.cell b G;let:=r.frozen b;have y:=O<|r.set b<|k_ d;let I:=O<|(bC g<|bN i g.4).setCell (p:=⟨J f.1,b,af⟩) bo (aS<|k_ d);rw[B]at y;go_wp2;exact bd (⟨b+1,dd,G,y,I⟩) dz};{
 have R:b=E F:=G;subst R;let u:ao (nk wr (J f.1)<|b9 k_ F):=by{grind};have t:=O<|ad (J f.1) 0 (E F) (b9 D<|b9 k_ F) ⟨#[46]⟩ wr ?bG u.lt ?c2 ?c3 ?cB;case bG=>(intro ac d j;rw[fM];rw[sG,Option.map_eq_some_iff]at j;obtain⟨A,o,rfl⟩:=j;obtain⟨X,rfl⟩:=iW.1 o;exact u.cell ac X)
 case c2=>grind
 case c3=>simp
 case cB=>(rw[PY];refine cJ (PZ 1000 _ ?_) ?_;{intro d j;obtain⟨A,o,rfl⟩:=kE.1 j;rw[A5];exact w A o};grind)
 rw[PY,ff,ff]at t;go_wp21;refine t.m λz i=>?_;go_wp2;go_ret;exact bd U<|bC g (bN i g.4)})}
section
attribute [local go_sem] Oper.semAt_some undef
def nn(b:List aK)(c:List aK)(a:ap):List aK:=if(jb (dF b a) 2).length=0 then c else jb (dF b a) 2
def fm(c:ap)(d:List aK)(b:ap):List aK:=(he (λa=>!(a==c))<|dU b).foldl (nn d) []
def P0{α:Type}(c):∀(b:List α),b.all c=aD->he c b=b
 |[],_=>U
 |e::d,a=>by rw[uO,e9]at a;rw[DQ a.1,P0 c d a.2]
def I6{α:Type}(d):∀(c:List α) (a:Nat) (b:α),c[a]? = ae b->(be a c).all d=aD->d b=ak->he d c=be a c
 |[],a,b,g,_,_=>by simp
 |j::i,0,b,g,_,h=>by simp_all
 |j::i,a+1,b,g,e,h=>by rw[uQ,uO,e9]at e;rw[DQ e.1,uQ,I6 d i a b (by grind) e.2 h]
def A6{α:Type}{b:List α}{c}(d:b[a]? = ae c):be (a+1) b=be a b++[c]:=by obtain⟨aO,rfl⟩:=iW.1 d;simp
def DB{z ay aB}(n)(aW:gJ f a h z ay aB i)(C:dx f)(aT:E i<=3001)(aU:E n<=3000)(a3:E h<=3000):a_ aL 135 #[bv a,aS n] f λk a0=>(∃v,k=bh v/\mc z ay i v (fm h i n))/\a6 f a0:=by
 refine(ec (n:=0)).1 (sm func135 U cy ?_);simp only[ntmps135,mA,dW,gG,Nat.reduceAdd,Nat.reduceSub,mx,mP,mR,mQ,iF,fN];have aF:=O aW;have ar:=O C;gi_wp2_with fail;refine⟨cy,U,(ec.2<|Db _ _).m λq ⟨aJ,Q,V⟩=>?_⟩;have aH:=((cx.qf _ _ _).alloc _).below Q gB;have aI:cx q (J f.1+1) (bX) 77:=by{have:=(cx.qf (aN f<|aZ #[cz<|ae ⟨a,0,af⟩] 89) (bX) 77).below Q ax;simp_all};have W:=((cf cc bo _).alloc ax _).trans<|bN Q gB;simp only[eE]at aJ V;gi_wp2_with fail;have aP:∀F,a6 q (aN (aN q<|df<|ae [])<|dq F):=λF=>(cf cc bo _).alloc ax _;refine wR (xs:=dU n) (encs:=λk:ap=>#[aS k]) (St:=λe j=>a6 e j) (Kp:=λe j=>J e.1<=J j.1/\j.1[0]? = e.1[0]?) (Kx:=λ_ _=>True) (gf:=212) (lb:=#[bv<|J f.1+1+1]) U (enters_of func212 dl U) (λ_=>U) ?seq [0] (by grind) (λe j aO b=>bN b aO) (λe j b aM=>bd aM.1<|b _ ax) (λ_ _ _=>cy) (λc d=>(be c<|dU n).all (λk=>!(k==h))=aD/\a6 f d/\cx d (J f.1) (bv a) 89/\∃v,mc z ay i v ((be c<|dU n).foldl (nn i) [])/\cx d (J f.1+1) v 77) (λM d=>M=.exit 0/\a6 f d/\∃v,mc z ay i v (fm h i n)/\cx d (J f.1+1) v 77) (λc e j b t=>⟨b.1,bC b.2.1<|bN t G,b.2.2.1.below t G,by let⟨v,N,P⟩:=b.2.2.2;exact⟨v,N,P.below t G⟩⟩) (λM e j b t=>⟨b.1,bC b.2.1<|bN t G,by let⟨v,N,P⟩:=b.2.2;exact⟨v,N,P.below t G⟩⟩) ⟨U,W,aH,_,bJ<|bd U U,aI⟩ ?round ?done ?stop;case seq=>(intro F;have C:=aP F;exact Dc ((C.cell (p:=⟨J f.1+1+1,0,af⟩) (by grind)).trans V) ((ar.below W).below C) aU)
 ·(
 intro aY c w a1 d aV y aa;gi_wp2_with fail;refine bd cy ?_;let⟨B,g,A,v,o,u⟩:=y;have I:=aF.below g;have:=I.2.1;have az:=O I;have:=A.cell;have ad:((D w).toList==(D h).toList)=(w==h):=uV;have aX:=O A;have ah:=O u;have L:=O aV;have T:=O B;have aK:=O o;have an:=u.lt;have aw:=A.lt;have:=I.1;cases Z:w==h;{
 rw[Z]at ad;have aj:ao ((be (c+1)<|dU n).all (λk=>!(k==h))=aD):=by{rw[ao,A6 L,wC,T];grind};have X:ao ((be (c+1)<|dU n).foldl (nn i) []=nn i ((be c<|dU n).foldl (nn i) []) w):=by{rw[ao,A6 L,wE];rfl};have au:=O<|I4 w 2 az aT;gi_wp2_with fail;refine⟨cy,U,(ij aY<|ec.2 au).mono ?_⟩;rintro k av ⟨⟨a4,rfl,ab⟩,l⟩;obtain⟨a2,cB,rfl⟩:=ab.slice;have:=O ab;have K:=ah.below l an;have:=K.cell;have:=K.frozen;have ac:=O K;have al:=O<|aX.below l aw;by_cases Y:E (jb (dF i w) 2)=0;{
 have r:ao ((be (c+1)<|dU n).foldl (nn i) []=(be c<|dU n).foldl (nn i) []):=by rw[ao,X,nn,b8 Y]
 have aq:¬(0:Int)<(E (jb (dF i w) 2):Int):=G;gi_wp2_with fail;exact⟨ea.Em l,λR aR=>l.5 R<|by grind,aj,bC g<|bN l g.4,al,v,by rw[r];assumption,ac⟩};{
 have r:ao ((be (c+1)<|dU n).foldl (nn i) []=jb (dF i w) 2):=by rw[ao,X,nn,bV Y]
 have aq:(0:Int)<(E (jb (dF i w) 2):Int):=G;gi_wp2_with fail;refine⟨(ea.Em l).trans<|ea.setCell av _ G,λR aR=>?_,aj,(bC g<|bN l g.4).setCell ax _,?_,_,by rw[r];assumption,ac.set _⟩;{
 obtain rfl:R=0:=by grind
 exact(dr _ _ _ _ ax).trans<|l.5 0 G};{exact(dr _ _ _ _ ax).trans al}}};{rw[Z]at ad;have r:ao (fm h i n=(be c<|dU n).foldl (nn i) []):=by{rw[ao,fm,I6 _ _ c w L T<|by grind]};gi_wp2_with fail;exact⟨ea.refl _ _,U,g,v,by rw[r];assumption,ah⟩})
 case done=>(
 intro d y x aa;let⟨B,g,A,v,o,u⟩:=y;rw[jc]at B o;have r:ao (fm h i n=(dU n).foldl (nn i) []):=by rw[ao,fm,P0 _ _ B]
 have aK:=O o;have aC:=u.cell;gi_wp2_with fail;refine bd ax<|bJ ⟨_,_,U,lf x,?_⟩;have S:=bC g<|belowK_b (w:=q) (show J f.1<=J q.1 by omega) d _ _ (df af) bo x U U;refine⟨v,by simp[c_,results135,go_sem],⟨v,U,?_⟩,S⟩;rw[r];assumption)
 case stop=>(intro M d y x aa;obtain⟨rfl,g,v,o,u⟩:=y;replace o:=O o;let aC:=u.cell;gi_wp2_with fail;refine bd ax<|bJ ⟨_,_,U,lf x,?_⟩;let S:=bC g<|belowK_b (w:=q) (show J f.1<=J q.1 by omega) d _ _ (df af) bo x U U;exact⟨v,by simp[c_,results135,go_sem],⟨v,U,o⟩,S⟩)
end
def dH(c:aQ)(b:Nat)(v:bk)(a:List aK):Prop:=c.ownsRow b 83 4 v (E a)<|gz a
def gw(b:ap)(a:aK):aK:=(b,a.aP,a.type,a.data)
def ib(a:ap):ap:=bi (cM<|Lib.lastIndexByte (D a) 32+1) a
def IC(a:aK):Nat:=cM<|(Lib.atoi<|ib a.data).getD 0
def xm(a:aK):Prop:=E (ib a.data)<=18/\∃m:Nat,Lib.atoi (ib a.data)=ae (m:Int)/\m<=1000000000
def r_(a:aK):aK:=(a.owner,min a.aP<|IC a,a.type,a.data)
def jw(a:ap)(b:List aK):List aK:=b9 r_<|jb (dF b a) 6
section
def dH.below(b:dH f a e i)(g:a6 f m):dH m a e i:=g6 b g
def dH.base{base'}(d:dH f a e i)(b:base'<=a):dH f base' e i:=wT d b
def dH.keeps{c}(n:dH f a e i)(q:ey c f m)(t:c<a):dH m a e i:=by let⟨o,g⟩:=n;refine bd o ?_;rcases g with g|⟨d,j,k,l,p,b,r⟩;{grind};{exact bE ⟨d,j,k,l,p,(q.5 d (dK.1 b).1 G).trans b,r⟩}
def dH.alz{k}(b:dH f a e i)(g:k<a)(c):dH (a7 f ⟨k,0,af⟩ c) a e i:=ownsRow_setCell_below b g c
def dH.ri{k i}(b:dH f a e p)(g:k<a)(c):dH (a7 f ⟨k,i,af⟩ c) a e p:=ownsRow_setCell_below b g c
def dH.Ya(d:dH f a e i):∀v,bA e=ae v->a<=v/\v<J f.1:=fS d
def dH.slice(v:dH f a e i):∃b d,e=aE b (E i) d:=by rcases v.2 with⟨rfl,k⟩|⟨j,h,c,rfl,_⟩;{grind};simp
def dH.rv(b:dH f a e i):jy f e i:=by rcases b.2 with⟨rfl,v⟩|⟨h,g,l,rfl,n,d,j,o,p,r⟩;{exact .inl<|bd rfl<|hq v};{refine .inr ⟨h,0,g,rfl,j,OJ ((dK.1 d).1) λk t q=>?_⟩;let:=lG b k (by grind);grind}
end
def Pn{ay}(j:fA f a ay i):∀b c,(gz i)[b]? = ae c->aA f (N a<|ay+b)=ae c:=by
 intro b c d;let k:b<E i*4:=by have:=(iW.1 d).1;rwa [H8]at this
 let e:b/4<E i:=G;let g:b=b/4*4+b%4:=G;rw[g,OI (b/4) (b%4) e G]at d;have:=j.2 (b/4) e (b%4) c d;grind
def ID:∀b∈gz i,b.oneCell'=aD:=by intro b c;let⟨e,_,a⟩:=tI.1 c;simp[aK.bz]at a;rcases a with rfl|rfl|rfl|rfl<;>rfl
def GU(l:jy f e i)(t:E i<=3001):a_ aL 227 #[e] f λb d=>∃c,b=bh c/\dH d (J f.1) c i/\a6 f d:=by rcases l with⟨rfl,rfl⟩|⟨g,ay,h,rfl,r,k⟩;{refine(AnyE.slices_Clone_nil Tryz.akY 0 0 f).m ?_;rintro d rfl;exact⟨_,U,ih _ _ _ _,cU _ _⟩};{let⟨q,aO,n,o,p⟩:=im vY;refine(AnyE.slices_Clone Tryz.akY q _ 4 48 aO n o p U G Tryz.sizeOf83 g ay (E i) h (gz i) f (H8 i) up G (Pn k) ID).mono ?_;rintro b d ⟨c,rfl,a,_,j⟩;exact⟨c,U,a,j⟩}
def Po(c):∀(b:List aK) (a:Nat) (d:a<E b),(gz b).set (a*4) (aS c)=gz (b.set a<|gw c b[a])
 |[],a,d=>by rfl
 |i::g,0,_=>by rfl
 |i::g,a+1,d=>by have e:=Po c g a (by grind);have h:(a+1)*4=a*4+1+1+1+1:=G;simp only[gz,kj,iy,eG]at e⊢;rw[<-e,h];rfl
def Pp{f}(c:a<E i):∃e:a<E (b9 f (be a i)++bi a i),(b9 f (be a i)++bi a i)[a]=i[a]/\(b9 f (be a i)++bi a i).set a (f i[a])=b9 f (be (a+1) i)++bi (a+1) i:=by
 let d:E (b9 f<|be a i)=a:=by grind
 refine⟨by grind,?_,?_⟩;{grind};{rw[sK _ _ G,d,pX,jM c,iR,g8 c,jg];simp}
def Pq{f}(c:a<=E i):E (b9 f (be a i)++bi a i)=E i:=by grind
def aic(c)(L:jy f e i)(I:E i<=3001):a_ aL 255 #[aS c,e] f λn x=>∃j,n=bh j/\dH x (J f.1) j (b9 (gw c) i)/\a6 f x:=by
 have y:=O<|GU L I;go_in;go_wp2_with fail;refine y.mono ?_;rintro n aa ⟨j,rfl,d,B⟩;obtain⟨k,l,rfl⟩:=d.slice;have:=O d;go_wp2;go_loopw [10] (λb wr=>∃a:Nat,b=M a/\a<=E i/\dH wr (J f.1) (aE k (E i) l) (b9 (gw c) (be a i)++bi a i)/\a6 f wr) λb _=>E i-cM (fj b);·exact⟨0,U,dJ _,fi,B⟩
 ·(
 obtain⟨a,rfl,H,d,t⟩:=hrel;by_cases K:a<E i;{
 let⟨P,u,r⟩:=Pp (f:=gw c) K;have:=Pq (f:=gw c) H;have g:wr.ownsRow (J f.1) 83 4 (aE k (E i) l) (E i) (gz<|b9 (gw c) (be a i)++bi a i):=by{have:=d;unfold dH at this;grind};rcases g.2 with⟨o,W⟩|⟨q,S,T,o,C,A,X,Y,R,Q⟩;{omega};{
 cases o;have h:=g.stored (a*4)<|aS c;have:=g.frozenAt<|a*4;have D:=g.cellAt (a*4) G;rw[Po c _ a P,u,r]at h;have F:∃w,aA wr (N q<|a*4)=ae w:=by{grind};let⟨w,Z⟩:=F;have z:=O h;have:=O<|fc t (p:=⟨q,a*4,af⟩) C (aS c);clear h d g D A Q u r;go_wp2_with fail;go_roundw;case rel=>(refine⟨a+1,dd,G,?_,fi⟩;have:=z.1;grind[dH])
 ·exact v7}};{obtain rfl:a=E i:=G;replace d:=O d;go_wp2;go_ret;refine⟨_,U,?_,t⟩;have:=V d;simp_all})
def aid(s): -1<=Lib.lastIndexByte s 32/\Lib.lastIndexByte s 32<b7 s:=by unfold Lib.lastIndexByte;rcases Lib.lastIdx_spec s 32 (b7 s) with⟨a,_⟩|⟨d,b,c,_⟩;{omega};{omega}
def Pr(b)(k:E Q<=3000):a_ aL 190 #[aS Q] b λh j=>h=bh (aS<|ib Q)/\j=b:=by
 have:=aid<|D Q;have:b7 (D Q)<=3000:=fi
 have g:ao (ib Q=bi (cM<|Lib.lastIndexByte (D Q) 32+1) (D Q).1.1):=U;have e:=O<|Tryz.strings_LastIndexByte (D Q) 32 G b;generalize Lib.lastIndexByte (D Q) 32=c at*;obtain⟨d,i⟩:∃d:Nat,c+1=d:=⟨cM<|c+1,G⟩;go_in;go_wp21;refine e.m ?_;rintro b rfl;go_wp2;go_ret;refine⟨O2 ?_,U⟩;rw[o8,g,i,sA,VN,Array.toList_extract];simp;exact mS ax
def Ps(m:Nat):∀(b:List aK) (a:Nat) (c:a<E b),(gz b).set (a*4+1) (M m)=gz (b.set a (b[a].owner,m,b[a].type,b[a].data))
 |[],a,c=>by rfl
 |h::e,0,_=>by rfl
 |h::e,a+1,c=>by have d:=Ps m e a (by grind);have g:(a+1)*4+1=(a*4+1)+1+1+1+1:=G;simp only[gz,kj,iy,eG]at d⊢;rw[<-d,g];rfl
def aie(b)(d:E Q<=18)(c:Lib.atoi Q=ae (a:Int)):a_ aL 257 #[aS Q] b (cI (bZ #[M a,.nilIface]) b):=by refine(Tryz.strconv_Atoi (D Q) a fi c b).m ?_;rintro g ⟨e,rfl⟩;exact bd U<|Go.Joins.below_bytesWorld _ _ _ _ bo
def GV{aj ay A}(u:gJ f a o aj ay A i)(F:E i<=3001)(ad:∀e∈jb (dF i o) 6,xm e/\E e.data<=3000/\e.aP<=1000000000):a_ aL 229 #[bv a] f λj Q=>∃x,j=bh x/\dH Q (J f.1) x (jw o i)/\a6 f Q:=by
 have W:=O<|I4 o 6 u F;have:=u.2.1;have ac:=O u.2.2.2.2;have aI:E (jb (dF i o) 6)<=3001:=cJ (Da _ _)<|cJ (A4 _ _) F;have al:ao (jw o i=b9 r_ (jb (dF i o) 6)):=U;have ap:=O ad;generalize jb (dF i o) 6=b at*;go_in;go_wp2_with fail;refine W.mono ?_;rintro j a9 ⟨⟨a8,rfl,aP⟩,q⟩;have V:=O<|GU (aP.rv<|ac.below q) aI;go_wp21;refine V.mono ?_;rintro j ba ⟨x,rfl,c,az⟩;obtain⟨y,z,rfl⟩:=c.slice;have I:=q.4;have:=O<|c.base I;have aw:=bC q<|bN az I;go_wp2;go_loopw [17] (λw wr=>∃g:Nat,w=M g/\g<=E b/\dH wr (J f.1) (aE y (E b) z) (b9 r_ (be g b)++bi g b)/\a6 f wr) λw _=>E b-cM (fj w);·exact⟨0,U,dJ _,fi,aw⟩
 ·(
 obtain⟨g,rfl,aH,c,d⟩:=hrel;by_cases H:g<E b;{
 let⟨L,P,ax⟩:=Pp (f:=r_) H;have:=Pq (f:=r_) aH;have r:wr.ownsRow (J f.1) 83 4 (aE y (E b) z) (E b) (gz<|b9 r_ (be g b)++bi g b):=by{have:=c;unfold dH at this;grind};have aS:=c.rv;let⟨⟨aa,m,Z,aT⟩,aO,aU⟩:=ap b[g]<|ei H;rcases r.2 with⟨B,a0⟩|⟨l,A,aY,B,aB,an,a1,a2,aV,a4⟩;{omega};{
 cases B;have ah:fA wr l 0 (b9 r_ (be g b)++bi g b):=by{rcases aS with⟨j,_⟩|⟨aW,a5,aX,j,_,a3⟩;{cases j};grind};let⟨aq,bG,ar,au⟩:=ah.four g L;rw[P,fM]at aq bG ar au;have t:=fun(h:aQ) (n:a6 wr h)=>(g6 r n).stored (g*4+1)<|M ((min b[g].aP m:Nat):Int);have aF:=fun(h:aQ) (n:a6 wr h)=>(g6 r n).frozenAt<|g*4+1;rw[Ps _ _ g L,P]at t;have aC:r_ b[g]=(b[g].owner,min b[g].aP m,b[g].type,b[g].data):=by{grind[r_,IC]};rw[<-aC,ax]at t;have X:=O t;have aJ:=O aF;have aM:=(dK.1 an).1;have Y:=O λh=>Pr h aO;have aR:=O λh=>aie h aa Z;generalize b[g]=e at*;go_wp21;refine(Y _).m λR K=>?_;have C:=K▸cf cc bo _
 have av:aA R (N (J wr.1) 1)=ae (M e.aP):=by simp_all
 have aK:J wr.1<J R.1:=by simp_all
 clear K;go_wp2_with fail;refine(aR _).m ?_;intro S D;have:=(D.cell (p:=⟨J wr.1,1,af⟩) aK).trans av;have k:=bC C<|bN D C.4;have:=(k.cell (p:=⟨l,g*4+1,af⟩) aM).trans bG;have:=aJ S k;have ab:=O<|X S k;have:=O<|((bC d<|bN k d.4)).setCell (p:=⟨l,g*4+1,af⟩) aB (M ((min e.aP m:Nat):Int));have:(min (e.aP:Int) (m:Int))=((min e.aP m:Nat):Int):=G;go_wp2;go_roundw;·(refine⟨g+1,dd,G,?_,fi⟩;have:=ab.1;unfold dH;grind)
 ·exact v7}};{obtain rfl:g=E b:=G;replace c:=O c;go_wp2;go_ret;refine⟨_,U,?_,d⟩;have:=c;rw[jc,tl,kW]at this;rw[al];exact this})
section
attribute [local go_sem] Oper.semAt_some undef
def d3(a:List aK)(b:ap):List aK×Bool:=
 if jI a b then(dF a b,aD)
 else match (dU<|iH b).find? (jI a)with
  |some c=>(b9 (gw b)<|dF a (42::46::c),dC<|0<E (dF a (42::46::c)))
  |none=>([],ak)
def zh(g:aQ)(v:bk)(d e:Nat)(b:List aK):Prop:=∃a c,zg v a c b/\fA g a c b/\(a=d\/e<=a)
def zh.rv{g:Nat}(d:zh f e a g i):jy f e i:=by let⟨b,n,k,l,_⟩:=d;rcases k with d|⟨h,v,j⟩;{exact bJ d};{exact bE ⟨b,n,h,v,j,l⟩}
def zh.own{d v:Nat}{h:List aK}(g:dH f v e h)(j:a<J f.1)(l:d<=v):zh f e a d h:=by have p:=g.rv;rcases p with⟨rfl,rfl⟩|⟨c,o,i,rfl,k,n⟩;{exact⟨a,0,.inl<|bd rfl rfl,bd j<|λq hj=>AF,bJ U⟩};{exact⟨c,o,bE ⟨i,U,k⟩,n,bE<|cJ l (g.Ya c U).1⟩}
def aif{p:ap->Bool}(d:F[a]? = ae h):(bi a F).find? p=if p h then ae h else(bi (a+1) F).find? p:=by obtain⟨aO,rfl⟩:=iW.1 d;rw[jM aO,Id];cases p F[a]<;>rfl
def LU(h:φ:=by
 by_cases h:n=[]
 ·subst h;decide
 ·have:=wt h;omega):φ:=h
def Hf(h:φ:=by show J w.1<=J w.1+1+1+1;omega):φ:=h
def G5(h:φ:=by show J w.1+1+1+1≠J w.1+1+1;omega):φ:=h
def G_(h:φ:=by show J w.1+1+1≠J w.1+1+1+1;omega):φ:=h
def Ax(h:φ:=by show J w.1<=J w.1+1+1;omega):φ:=h
def VY(h:φ:=by go_simp;refine⟨cy,U,(ec.2 nN).mono ?_⟩;rintro e W4 ⟨⟨v4,rfl,hv4⟩,hb4⟩;let⟨hN,tq,qm⟩:=pI W4 v4 hv4 hb4;refine hK _ _<|kA 0 λK hK=>?_;go_simp;refine hK _ _<|kA 5 λK hK=>?_;go_simp;refine⟨cy,U,(ec.2 tq).mono ?_⟩;rintro e W5 ⟨v5,rfl,kD,hb5⟩;obtain⟨a5,fe,rfl⟩:=kD.slice;have mG:=qm W5 _ kD hb5;rw[ff]at mG;let k1:=mG.1;refine hK _ _<|kA 6 λK hK=>?_;go_simp;refine hK _ _<|wn b6 ?_ _;gi_wp2_with fail;exact mG.2):φ:=h
def GY(h:φ:=by refine hK _ _<|kA 4 λK hK=>?_;go_simp;refine⟨cy,U,(ec.2 nN).mono ?_⟩;rintro e W4 ⟨⟨v4,rfl,hv4⟩,hb4⟩;let⟨hN,tq,qm⟩:=pI W4 v4 hv4 hb4;refine hK _ _<|kA 5 λK hK=>?_;go_simp;refine⟨cy,U,(ec.2 tq).mono ?_⟩;rintro e W5 ⟨v5,rfl,kD,hb5⟩;obtain⟨a5,fe,rfl⟩:=kD.slice;have mG:=qm W5 _ kD hb5;rw[ff]at mG;let k1:=mG.1;refine hK _ _<|kA 6 λK hK=>?_;go_simp;refine hK _ _<|wn b6 ?_ _;gi_wp2_with fail;exact mG.2):φ:=h
def M5(h:φ:=by refine hK _ _<|kA 1 λK hK=>?_;go_simp;exact GY):φ:=h
def M8(h:φ:=by go_simp;refine hK _ _<|kA 3 λK hK=>?_;go_simp;refine⟨cy,U,(ec.2<|SY _).m λD3 nB=>?_⟩;subst nB;exact GY):φ:=h
def NL(h:φ:=by
 refine hK _ _<|rI (rs:=[0,4]) b6 ax (ly U (λK hK=>?_)<|ly U (λK hK=>?_) rH)
 ·go_simp;exact GY
 ·exact VY):φ:=h
def IE{P ay bF:Nat}{n:ap}{rs:List aK}{w:aQ}(bj:gJ w a o P ay bF rs)(al:dx w)(X:E rs<=3001)(b3:E n<=2900)(bO:∀I∈rs,E I.owner<=3000):a_ aL 228 #[bv a,aS n] w λe z=>(∃v,e=bh (bZ #[v,aG (d3 rs n).2])/\zh z v P (J w.1) (d3 rs n).1)/\a6 w z:=by
 refine(ec (n:=0)).1 (Dp func228 U cy ?_);simp only[ntmps228,mA,dW,gG,Nat.reduceAdd,Nat.reduceSub,mx,mP,mR,mQ,iF,fN];let A:=O bj;let aV:=O al;let aW:=O bO;let a1:=bj.2.2.2.2.1;let bM:aL.follows .mixedOrders=aD:=b6;let a4:a6 w (aN (aN (aN (aN w<|aZ #[cz<|ae ⟨a,0,af⟩] 89)<|aZ #[am<|D n] 9)<|aZ #[aE af 0 0] 77)<|aZ #[aG ak] 4):=
  (((cf cc bo _).alloc ax _).alloc ct _).alloc ct _
 let aa:=O<|PU n (A.below a4) X G aW;gi_wp2_with fail;refine⟨cy,U,(ec.2 aa).m λad W=>?_⟩;let az:=((((cx.qf _ _ _).alloc _).alloc _).alloc _).below W gB;let aB:cx ad (J w.1+1) (aS n) 9:=by
  have:=(((cx.qf (aN w<|aZ #[cz<|ae ⟨a,0,af⟩] 89) (aS n) 9).alloc<|aZ #[aE af 0 0] 77).alloc<|aZ #[aG ak] 4).below W gB
  rwa [eE]at this
 let aj:cx ad (J w.1+1+1) (bX) 77:=by
  have:=((cx.qf (aN (aN w<|aZ #[cz<|ae ⟨a,0,af⟩] 89)<|aZ #[am<|D n] 9) (bX) 77).alloc<|aZ #[aG ak] 4).below W gB
  rwa [eE,eE]at this
 let S:cx ad (J w.1+1+1+1) (aG ak) 4:=by
  have:=(cx.qf (aN (aN (aN w<|aZ #[cz<|ae ⟨a,0,af⟩] 89)<|aZ #[am<|D n] 9)<|aZ #[aE af 0 0] 77) (aG ak) 4).below W gB
  rwa [eE,eE,eE]at this
 let B:=bC a4<|bN W gB;let bP:J w.1+4<=J ad.1:=cd S.lt
 have:=az.cell;have:=aB.cell;cases aU:jI rs n
 ·let a3:ao (d3 rs n=match (dU<|iH n).find? (jI rs)with
    |some a2=>(b9 (gw n)<|dF rs (42::46::a2),dC<|0<E (dF rs (42::46::a2)))
    |none=>([],ak)):=by rw[d3,aU];rfl
  let bs:=O<|ag2 n (aV.below B) G;gi_wp2_with fail;refine⟨cy,U,(ec.2 bs).mono ?_⟩;rintro e b ⟨aR,rfl,b8,b2,C,bt⟩;let bu:=O bt;let bR:=az.below C az.lt;let bS:=aB.below C aB.lt;let bT:=aj.below C aj.lt;let bU:=S.below C S.lt;let a8:=bC B<|bN C B.4;have:=cJ bP C.4;gi_wp2_with fail;let bL:∀I,a6 b (aN (aN b<|df<|ae [])<|dq I):=λI=>(cf cc bo _).alloc ax _;refine ahw (xs:=dU<|iH n) (encs:=λe:ap=>#[aS e]) (St:=λq r=>a6 q r) (Kp:=λq r=>J q.1<=J r.1/\r.1[0]? = q.1[0]?) (Kx:=λ_ _=>True)
   (gf:=212) (lb:=#[bv aR]) U (enters_of func212 b6 U) (λ_=>U) ?seq
   [0] ct (λq r h=>h) (λq r h bI=>bd bI.1<|h _ ax) (λ_ _ _=>cy)
   (λF l=>(bi F<|dU<|iH n).find? (jI rs)=(dU<|iH n).find? (jI rs)/\a6 w l/\cx l (J w.1) (bv a) 89/\cx l (J w.1+1) (aS n) 9/\cx l (J w.1+1+1) (bX) 77/\cx l (J w.1+1+1+1) (aG ak) 4)
   (λQ l=>Q=.ret/\a6 w l/\∃v,dH l (J b.1+2) v (d3 rs n).1/\cx l (J w.1+1+1) v 77/\cx l (J w.1+1+1+1) (aG (d3 rs n).2) 4)
   (λF q r h T hk=>⟨h.1,bC h.2.1<|hk.below G G,h.2.2.1.below (hk.below (n:=J b.1) G T) G,h.2.2.2.1.below (hk.below (n:=J b.1) G T) G,h.2.2.2.2.1.below (hk.below (n:=J b.1) G T) G,h.2.2.2.2.2.below (hk.below (n:=J b.1) G T) G⟩)
   (λQ q r h T hk=>⟨h.1,bC h.2.1<|hk.below G G,by
    let⟨v,aF,aH,bK⟩:=h.2.2;exact⟨v,aF.keeps hk G,aH.below (hk.below (n:=J b.1) G G) G,bK.below (hk.below (n:=J b.1) G G) G⟩⟩)
   ⟨U,a8,bR,bS,bT,bU⟩
   ?round ?done ?stop
  case seq=>
   intro I;let al:=bL I;exact Dc ((al.cell (p:=⟨aR,0,af⟩) (by show aR<J b.1;omega)).trans bu) ((aV.below a8).below al) LU
  ·intro bm F c b1 l bf V bb;gi_wp2_with fail;refine bd cy ?_;let⟨aI,j,aJ,bl,Y,H⟩:=V;have:E (iH n)<=E n:=LU
   have:=GS<|pE bf;let bp:=A.below j;have:=aJ.cell;have ba:=aif (p:=jI rs) bf;rw[aI]at ba;let aX:=O ba;let aY:=O aJ;let a0:=O bl;let Z:=O Y;let ab:=O H;have:=H.lt;let aa:=O<|PU c bp X G aW;cases bc:jI rs c
   ·let bB:ao ((bi (F+1)<|dU<|iH n).find? (jI rs)=(dU<|iH n).find? (jI rs)):=by rw[ao,aX,bc];rfl
    gi_wp2_with fail;refine⟨cy,U,(ij bm<|ec.2 aa).m λW4 hb4=>?_⟩;let bD:ao (ea (J b.1) l W4/\(∀k∈[0],W4.1[k]? = l.1[k]?)/\((bi (F+1)<|dU<|iH n).find? (jI rs)=(dU<|iH n).find? (jI rs)/\a6 w W4/\cx W4 (J w.1) (bv a) 89/\cx W4 (J w.1+1) (aS n) 9/\cx W4 (J w.1+1+1) (bX) 77/\cx W4 (J w.1+1+1+1) (aG ak) 4)):=
     ⟨ea.Em hb4,λk hk=>hb4.5 k E_,bB,bC j<|bN hb4 j.4,aY.below hb4 G,a0.below hb4 G,Z.below hb4 G,ab.below hb4 G⟩
    gi_wp2_with fail;exact bD
   ·let t:ao (d3 rs n=(b9 (gw n)<|dF rs (42::46::c),dC<|0<E (dF rs (42::46::c)))):=by
     rw[ao,a3,aX,bc];rfl
    gi_wp2_with fail;refine⟨cy,U,(ij bm<|ec.2 aa).m λar y=>?_⟩;let aC:=bC j<|bN y j.4;let bV:=aY.below y G;let aM:=a0.below y G;let aO:=Z.below y G;let aP:=ab.below y G;have:=bV.cell;have:=aM.cell;let bQ:=y.4;let bw:b7 (D c)<=1000000:=lv
    let SY:ao (∀ac,a_ aL 256 #[aS c] ac λe z=>e=bh (aS (42::46::c))/\z=ac):=λac=>agW ac bw;have nN:=O (PT (42::46::c) ((A.below aC).below cc.drew) X)
    let pI:ao (∀(W4:aQ) (v4:bk),mc P ay rs v4 (dF rs (42::46::c))->cv (J (bx ar).1) (bx ar) W4 ->
      bY W4 (J w.1+1) 0 (aS n) /\
      ao (a_ aL 255 #[aS n,v4] W4 λe z=>∃bn,e=bh bn/\dH z (J W4.1) bn (b9 (gw n)<|dF rs (42::46::c))/\a6 W4 z) /\
      (∀(W5:aQ) (v5:bk),dH W5 (J W4.1) v5 (b9 (gw n)<|dF rs (42::46::c))->a6 W4 W5 ->
       ao ((bY W5 (J w.1+1+1) 0 (bX)/\gd W5 (N (J w.1+1+1) 0)=ak/\bY W5 (J w.1+1+1+1) 0 (aG ak)/\gd W5 (N (J w.1+1+1+1) 0)=ak) /\
        (Gx (J b.1) [0] (λl=>(bi (F+1)<|dU<|iH n).find? (jI rs)=(dU<|iH n).find? (jI rs)/\a6 w l/\cx l (J w.1) (bv a) 89/\cx l (J w.1+1) (aS n) 9/\cx l (J w.1+1+1) (bX) 77/\cx l (J w.1+1+1+1) (aG ak) 4)
         (λQ l=>Q=.ret/\a6 w l/\∃v,dH l (J b.1+2) v (d3 rs n).1/\cx l (J w.1+1+1) v 77/\cx l (J w.1+1+1+1) (aG (d3 rs n).2) 4) l .ret {tmps:=#[],defers:=[]}
         (a7 (a7 W5 ⟨J w.1+1+1,0,af⟩ v5) ⟨J w.1+1+1+1,0,af⟩<|aG<|dC<|0<E (dF rs (42::46::c))))))):=by
     intro W4 v4 hv4 hb4;let x:a6 ar W4:=(cc.drew).trans hb4;let aw:=bC aC<|bN x aC.4;have:=x.4;refine⟨(aM.below x aM.lt).cell,aic n (hv4.rv (A.below aw).2.2.2.2)<|cJ hv4.len X,λW5 v5 kD hb5=>?_⟩;let bW:=bC aw<|bN hb5 aw.4;let g:=(aO.below x aO.lt).below hb5<|cd aO.lt;let i:=(aP.below x aP.lt).below hb5<|cd aP.lt;refine bd (⟨g.cell,g.frozen,i.cell,i.frozen⟩) ?_;let bz:=bC x<|bN hb5 x.4;refine⟨?_,U,(fc bW Ax _).setCell Hf _,v5,?_,?_,?_⟩
     ·exact((ea.Em<|bC y<|bN bz bQ).trans<|ea.setCell W5 _ G).trans<|ea.setCell _ _ G
     ·rw[t];exact((kD.alz (k:=J w.1+1+1) G _).alz (k:=J w.1+1+1+1) G _).base G
     ·exact(dr _ _ _ _ G_).trans<|g.set _
     ·rw[t];exact(show cx (a7 W5 ⟨J w.1+1+1,0,af⟩ v5) (J w.1+1+1+1) (aG ak) 4 from(dr _ _ _ _ G5).trans i).set _
    gi_wp2_with fail;refine wU bM (tQ b6)<|lh 2<|rI (rs:=[0,1,3]) b6 ax (ly U (λK hK=>?_)<|ly U (λK hK=>?_)<|ly U (λK hK=>?_) rH)
    ·go_simp;refine hK _ _<|rI (rs:=[1,3]) b6 ax (ly U (λK hK=>?_)<|ly U (λK hK=>?_) rH)
     ·exact M8
     ·go_simp;refine⟨cy,U,(ec.2<|SY _).m λD3 nB=>?_⟩;subst nB;exact M5
    ·go_simp;refine hK _ _<|rI (rs:=[0,3]) b6 ax (ly U (λK hK=>?_)<|ly U (λK hK=>?_) rH)
     ·exact M8
     ·go_simp;refine⟨cy,U,(ec.2<|SY _).m λD3 nB=>?_⟩;subst nB;exact NL
    ·go_simp;refine⟨cy,U,(ec.2<|SY _).m λD3 nB=>?_⟩;subst nB;refine hK _ _<|rI (rs:=[0,1]) b6 ax (ly U (λK hK=>?_)<|ly U (λK hK=>?_) rH)
     ·go_simp;exact M5
     ·go_simp;exact NL
  case done=>
   intro l V ah bb;let⟨aI,j,aJ,bl,Y,H⟩:=V;let t:ao (d3 rs n=([],ak)):=by
    rw[ao,a3,<-aI,pT bo];rfl
   let g:=Y.cell;let bG:=Y.frozen;let i:=H.cell;let bH:=H.frozen;let Z:=O Y;let ab:=O H;gi_wp2_with fail;let aT:=(dr (a7 l ⟨J w.1+1+1,0,af⟩<|aE af 0 0) (N (J w.1+1+1+1) 0) (aG ak) (J b.1) (by show J b.1≠J w.1+1+1+1;omega)).trans<|(dr l (N (J w.1+1+1) 0) (bX) (J b.1) (by show J b.1≠J w.1+1+1;omega)).trans ah;refine bd ax<|bJ ⟨_,_,U,wM aT,?_⟩;let au:cx (a7 (a7 l ⟨J w.1+1+1,0,af⟩<|aE af 0 0) ⟨J w.1+1+1+1,0,af⟩<|aG ak) (J w.1+1+1) (bX) 77:=(dr _ _ _ _ G_).trans<|Z.set _;let av:cx (a7 (a7 l ⟨J w.1+1+1,0,af⟩<|aE af 0 0) ⟨J w.1+1+1+1,0,af⟩<|aG ak) (J w.1+1+1+1) (aG ak) 4:=
    (show cx (a7 l ⟨J w.1+1+1,0,af⟩<|aE af 0 0) (J w.1+1+1+1) (aG ak) 4 from(dr _ _ _ _ G5).trans ab).set _
   let L:=(au.put (d:=J b.1) (o:=df af) G).cell;let R:=(av.put (d:=J b.1) (o:=df af) G).cell;let u:=((fc j (p:=⟨J w.1+1+1,0,af⟩) Ax (bX)).setCell (p:=⟨J w.1+1+1+1,0,af⟩) Hf (aG ak)).trans (uT (w:=b) (show J w.1<=J b.1 by omega) _ _ _ (df af) bo aT U U);refine⟨bZ #[bX,aG ak],by simp[c_,results228,go_sem,L,R],⟨_,by rw[t],?_⟩,u⟩;rw[t];exact⟨P,ay,bJ<|bd U U,bd (eA a1 u.4)<|λb4 hj=>AF,bJ U⟩
  case stop=>
   intro Q l V ah bb;obtain⟨rfl,j,v,a9,g,i⟩:=V;let bq:=O a9;obtain⟨b_,ca,rfl⟩:=a9.slice;let an:=O g;let aq:=O i;gi_wp2_with fail;refine bd ax<|bJ ⟨_,_,U,wM ah,?_⟩;let L:=(an.put (d:=J b.1) (o:=df af) G).cell;let R:=(aq.put (d:=J b.1) (o:=df af) G).cell;let u:=bC j<|uT (w:=b) (show J w.1<=J b.1 by omega) l _ _ (df af) bo ah U U;refine⟨bZ #[_,aG (d3 rs n).2],by simp[c_,results228,go_sem,L,R];rfl,⟨_,U,?_⟩,u⟩;exact zh.own (dH.keeps bq (ey.put (d:=J b.1) l (J b.1) (df af)) G) (eA a1 u.4) G
 ·let t:ao (d3 rs n=(dF rs n,aD)):=by rw[d3,ao,aU];rfl
  let nN:=O<|PT n (A.below B) X;gi_wp2_with fail;refine⟨cy,U,(ec.2 nN).mono ?_⟩;rintro e W4 ⟨⟨v4,rfl,hv4⟩,hb4⟩;obtain⟨M,cB,rfl⟩:=hv4.slice;let br:=O hv4;let g:=aj.below hb4 aj.lt;let i:=S.below hb4 S.lt;have:=g.cell;let bG:=g.frozen;have:=i.cell;let bH:=i.frozen;let an:=O g;let aq:=O i;gi_wp2_with fail;let au:cx (a7 (a7 W4 ⟨J w.1+1+1,0,af⟩<|aE M (E<|dF rs n) cB) ⟨J w.1+1+1+1,0,af⟩<|aG aD) (J w.1+1+1) (aE M (E<|dF rs n) cB) 77:=(dr _ _ _ _ G_).trans<|an.set _;let av:cx (a7 (a7 W4 ⟨J w.1+1+1,0,af⟩<|aE M (E<|dF rs n) cB) ⟨J w.1+1+1+1,0,af⟩<|aG aD) (J w.1+1+1+1) (aG aD) 4:=
   (show cx (a7 W4 ⟨J w.1+1+1,0,af⟩<|aE M (E<|dF rs n) cB) (J w.1+1+1+1) (aG ak) 4 from(dr _ _ _ _ G5).trans aq).set _
  let L:=au.cell;let R:=av.cell;let u:=(((bC B<|bN hb4 B.4).setCell (p:=⟨J w.1+1+1,0,af⟩) Ax (aE M (E<|dF rs n) cB)).setCell (p:=⟨J w.1+1+1+1,0,af⟩) Hf (aG aD))
  refine⟨bZ #[_,aG aD],by simp[c_,results228,go_sem,L,R];rfl,⟨_,by rw[t],?_⟩,u⟩;rw[t];let⟨b0,aF,aH,_⟩:=br.at (A.below u).2.2.2.2;exact⟨P,b0,aH,aF,bJ U⟩
end
section
attribute [local go_sem] Oper.semAt_some
def fV(j:aQ)(e k:Nat)(c d:Int)(a:Bool)(g h i:bk)(b:Nat):Prop:=
 j.1[e]? = ae (aZ #[cz<|ae ⟨k,0,af⟩,ag ai c,ag ai d,aG a,g,h,i,cz<|ae ⟨b,0,af⟩] 233)
structure co(p:Nat->Prop)(A B:World):Prop where
 os:B.os=A.os
 tape:B.tape=A.tape
 output:B.output=A.output
 size:A.heap.size<=B.heap.size
 block:∀k,k<A.heap.size->p k->B.heap[k]? = A.heap[k]?
def co.refl(p:Nat->Prop)(a:aQ):co p a a:=⟨U,U,U,cO _,λ_ _ _=>U⟩
def co.trans(a:co A f m)(b:co A m u):co A f u:=
 ⟨cQ b.1 a.1,cQ b.2 a.2,cQ b.3 a.3,cJ a.4 b.4,λi aO h=>(b.5 i (eA aO a.4) h).trans<|a.5 i aO h⟩
def co.mono{q:Nat->Prop}(b:co A f m)(i:∀a,a<J f.1->q a->A a):co q f m:=⟨b.1,b.2,b.3,b.4,λa e h=>b.5 a e<|i a e h⟩
def co.zY(a:a6 f m):co A f m:=⟨a.1,a.2,a.3,a.4,λe d _=>a.5 e d⟩
def co.Yg{g:Option Nat}(a:f.grownBy m g)(i:∀b,A b->ae b≠g):co A f m:=⟨a.1,a.2,a.3,a.4,λb h j=>a.5 b h<|i b j⟩
def co.j9{A:aQ}{a:gU}(g:bk)(e:∀b,Y b->b≠a.1):co Y A (a7 A a g):=⟨U,U,U,by simp[a7],λb _ d=>dr _ _ _ _<|e b d⟩
def co.below{n:Nat}(a:co A f m)(g:∀k,k<n->A k)(h:n<=J f.1):cv n f m:=⟨a.1,a.2,a.3,a.4,λk e=>a.5 k G<|g k e⟩
def co.CO(c:ey a f m):co (λe=>e≠a) f m:=⟨c.1,c.2,c.3,c.4,c.5⟩
section
variable {w:World} {sb zb cb:Nat} {k rc:Int} {bR:Bool}{va vb vc:Value}
def fV.lt(a:fV w sb zb k rc bR va vb vc cb):sb<J w.1:=(dK.1 a).1
def fV.cells(a:fV w sb zb k rc bR va vb vc cb):aA w (N sb 0)=ae (bv zb)/\aA w (N sb 1)=ae (M k)/\aA w (N sb 2)=ae (M rc)/\aA w (N sb 3)=ae (aG bR)/\aA w (N sb 4)=ae va/\aA w (N sb 5)=ae vb/\aA w (N sb 6)=ae vc/\aA w (N sb 7)=ae (bv cb):=by unfold fV at a;refine⟨?_,?_,?_,?_,?_,?_,?_,?_⟩<;>simp[aA,a]
def fV.frozen(h:fV w sb zb k rc bR va vb vc cb)(a:Nat):gd w (N sb a)=ak:=by unfold fV at h;exact qE
def fV.kept{w':aQ}(a:fV w sb zb k rc bR va vb vc cb)(b:w'.1[sb]? = w.1[sb]?):fV w' sb zb k rc bR va vb vc cb:=cQ b a
def NI(h:φ:=by  simp only[a7];rw[ru,b8 U,h];rfl):φ:=h
def Cv(h:φ:=by unfold fV at*;exact NI):φ:=h
def fV.set2(h:fV w sb zb k rc bR va vb vc cb)(a:Int):fV (a7 w ⟨sb,2,af⟩<|ag ai a) sb zb k a bR va vb vc cb:=by exact Cv
def fV.lM(h:fV w sb zb k rc bR va vb vc cb)(a:Bool):fV (a7 w ⟨sb,3,af⟩<|aG a) sb zb k rc a va vb vc cb:=by exact Cv
def fV.o6(h:fV w sb zb k rc bR va vb vc cb)(a:bk):fV (a7 w ⟨sb,4,af⟩ a) sb zb k rc bR a vb vc cb:=by exact Cv
def fV.ub(h:fV w sb zb k rc bR va vb vc cb)(a:bk):fV (a7 w ⟨sb,5,af⟩ a) sb zb k rc bR va a vc cb:=by exact Cv
def fV.yA(h:fV w sb zb k rc bR va vb vc cb)(a:bk):fV (a7 w ⟨sb,6,af⟩ a) sb zb k rc bR va vb a cb:=by exact Cv
end
def dH.kept{w':aQ}(h:dH f a e i)(hg:∀g,bA e=ae g->w'.1[g]? = f.1[g]?):dH w' a e i:=by exact No
def dH.ue(d:dH f a e i):∀v,bA e=ae v->a<=v/\v<J f.1:=fS d
def kV(a:Int)(b:Nat×List aK):Bool:=a==255||a==l1 b
def mU(a:Int)(b:List<|Nat×List aK):List aK:=ex (·.2)<|dT (kV a) b
def kZ(a:Int)(b:List aK):List aK:=mU a<|dg c8 b
def tw(a:Int)(b:List aK):Bool:=(dg c8 b).any<|kV a
def aij{c:List<|Nat×List aK}{d:Nat×List aK}(e:c[a]? = ae d)(g:kV j d=ak):mU j (be (a+1) c)=mU j (be a c)/\(be (a+1) c).any (kV j)=(be a c).any (kV j):=by rw[A6 e];simp[mU,qV,g]
def aik{c:List<|Nat×List aK}{d:Nat×List aK}(e:c[a]? = ae d)(g:kV j d=aD):mU j (be (a+1) c)=mU j (be a c)++d.2/\(be (a+1) c).any (kV j)=aD:=by rw[A6 e];simp[mU,qV,g]
def AY(dA:aK->aK->Bool):∀(f a:Nat) (l:List aK),E l<=f->ex (·.2) (jH dA f a l)=l
 |0,a,l,b=>by obtain rfl:l=[]:=hq G;rfl
 |f+1,a,[],b=>U
 |f+1,a,d::c,b=>by have e:E (kT (dA d) c)<=E c:=by{have:=eQ List.length<|rY (p:=dA d) (l:=c);rw[dj]at this;omega};rw[jH,kj,AY dA f _ _ (by simp at b;omega)];simp[rY]
def Pw(a:Int):∀(b:List<|Nat×List aK),E (mU a b)<=E (ex (·.2) b)
 |[]=>by simp[mU]
 |e::c=>by have d:=Pw a c;unfold mU at*;rw[List.filter_cons];split;{simp only[kj,dj];omega};{simp only[kj,dj];omega}
def ail(c:Int)(a:List aK)(b:Nat):E (mU c<|be b<|dg c8 a)<=E a:=by
 let:=Pw c<|be b<|dg c8 a;have d:E (ex (·.2)<|be b<|dg c8 a)<=E (ex (·.2)<|dg c8 a):=by{
 conv=>rhs;rw[<-ku b (dg c8 a),o3,dj]
 omega};let e:ex (·.2) (dg c8 a)=a:=AY c8 _ _ _ bo;rw[e]at d;omega
def Px:gz (i++p)=gz i++gz p:=by simp[gz]
def IF{h:Nat}{ay:Nat}(j:Nat)(q:dH f h e i)(r:fA f a ay p)(b:h<=J f.1)(B:E i+E p<=100000):∃c g,(Builtin.append_ #[77,77] 77 #[e,bL a ay (E p) j]).run aL f=.ok c g/\dH g h c (i++p)/\f.grownBy g (bA e)/\(bA c=bA e\/bA c=ae (J f.1)):=by let⟨y,aO,u,w,x⟩:=im vY;let⟨c,g,k,l,n,_,o⟩:=run_append_own_at (P:=aL) f h 77 77 83 y _ 4 48 ym aO u w x U G e (E i) (gz i) q (N a ay) (E p) j (gz p) (H8 p) (λz A t=>by rw[yl];exact Pn r z A t) ID up G b;refine⟨c,g,k,?_,n,o⟩;rw[dH,dj,Px];exact l
def LS{g:Program}{b:Oper}{a:Act}{d:Act->aQ->Prop}{l:Exit->Act->aQ->Prop}(s j:Operand)(c:dP)(o:b.2=.call {callee:=.builtin .append,args:=#[s,j],argTypes:=#[c,c]})(q:a.eval s=e)(k:a.eval j=r)(p:(Builtin.append_ #[c,c] b.3 #[e,r]).run g f=.ok C m)(n:d (a.put b.1 C) m):b.wpIn Fence.wide 0 g a f d l:=by refine⟨λ_ _=>cy,?_⟩;rw[show Fence.wide.4=af from U,Oper.semAt_none];simp only[execOp,o,resolve,invoke,builtin,Sem.run_bind,AV,wB,Bd,lU,sv,q,k,p];exact n
def zi(e w l:Nat)(o q:Int)(j:Bool)(g r t:bk)(i:List aK)(k h mt:Nat)(u:aQ)(p:List aK)(n:Bool)(b:aQ):Prop:=
 ∃c,fV b e w o q j c r t l/\dH b (e+1) c (i++p)/\(bA c=bA g\/∃a,bA c=ae a/\h+2<=a)/\(∀a,bA g=ae a->a<k)/\cx b mt (aG n) 4/\co (λd=>d≠e/\ae d≠bA g/\d≠mt/\d<h) u b
def zi.keeps{d D o:Nat}{g mt:Nat}{p:Bool}(k:zi d D o j y H e r C i g a mt f x p m)(c:ey (a+1) m u)(O:d<a)(P:g<=a)(I:mt<a)(K:a<=J m.1):zi d D o j y H e r C i g a mt f x p u:=by let⟨F,t,B,b,q,M,L⟩:=k;refine⟨F,t.kept<|c.5 d t.lt G,B.kept λh A=>c.5 h (B.ue h A).2 ?_,b,q,M.below (c.below (n:=a) G K) I,L.trans<|(co.CO c).mono λS _ R=>G⟩;rcases b with b|⟨N,w,Q⟩;{let:=q h<|b▸A;omega};{rw[A]at w;cases w;omega}
def Ho(h:φ:=by go_simp;refine hK _ _<|kA 7 λK hK=>?_;rw[b8 dl];refine LS (.tmp 31) (.tmp 32) 77 U U U hrun ?_;refine hK _ _ ?_;refine lh 8 ?_;refine lh 9 ?_;refine lh 10<|kA 11 λK hK=>?_;go_simp;refine hK _ _<|wn b6 ?_ _;gi_wp2_with fail;exact jD):φ:=h
def Py{Y S q ay:Nat}{v:bk}{I:List aK}{w:aQ}(ba:fV w a Y j y H e r C S)(a8:dH w (a+1) e I)(a1:zg v q ay i)(aB:fA w q ay i)(a2:q≠a)(a3:bA e≠ae q)(bV:E i<=3001)(cg:E I<=90000):a_ aL 232 #[bv a,v] w λT h=>T=bh (aG<|tw j i)/\(∃t,fV h a Y j y H t r C S/\dH h (a+1) t (I++kZ j i))/\co (λc=>c≠a/\ae c≠bA e) w h:=by
 refine(ec (n:=0)).1 (Dp func232 U cy ?_);simp only[ntmps232,mA,dW,gG,Nat.reduceAdd,Nat.reduceSub,mx,mP,mR,mQ,iF,fN];let b3:=ba.lt;have:=aB.1;let bW:=a8.ue;let bp:=O ba;let bn:=O a8;let br:=O aB;let bF:=O a1;let b2:=O bW;let aw:aL.follows .mixedOrders=aD:=b6;let bl:jy w v i:=by{rcases a1 with g|⟨bG,L,l⟩;{exact .inl g};{exact .inr ⟨q,ay,bG,L,l,aB⟩}};let aY:a6 w ((w.alloc<|.cells #[.pointer<|some ⟨a,0,none⟩] 229).alloc<|.cells #[.bool false] 4):=(cf cc bo _).alloc ax _;let bP:=O<|bl.below aY;obtain⟨ca,cb,rfl⟩:=xi bl;gi_wp2_with fail;refine⟨cy,U,(ec.2<|I2 bP).m λW2 ⟨bO,aP,aW,aX⟩=>?_⟩;let bK:=((cx.qf _ _ _).alloc _).below aP gB;let bM:cx W2 (J w.1+1) (aG ak) 4:=by{have:=(cx.qf (aN w<|aZ #[cz<|ae ⟨a,0,af⟩] 229) (aG ak) 4).below aP gB;rwa [eE]at this};let A:=bC aY<|bN aP gB;simp only[eE]at bO aW aX;gi_wp2_with fail;let bU:∀ah,a6 W2 (aN (aN W2<|df<|ae [])<|dq ah):=λah=>(cf cc bo _).alloc ax _;let bc:=O<|br.below A;let bH:=O<|bp.kept<|A.5 a b3;let bQ:=O<|bn.below A;refine ahx (xs:=dg c8 i) (encs:=λx:Nat×List aK=>#[bL q (ay+x.1*4) (E x.2)<|E x.2]) (St:=λP Q=>a6 P Q) (Kp:=kC (J w.1+1+1) (J w.1+1+1+1) q) (Kx:=λ_ _=>True) (gf:=203) (lb:=#[bv<|J w.1+1+1,bv<|J w.1+1+1+1]) U (enters_of func203 b6 U) (λ_=>U) ?seq [J w.1+1+1,J w.1+1+1+1,q] ct (λP Q g=>g) (λP Q g bS=>⟨bS,g _ ax,g _ ax,g _ ax⟩) (λ_ _=>cy) (λu R=>zi a Y S j y H e r C I (J w.1) (J W2.1) (J w.1+1) W2 (mU j<|be u<|dg c8 i) ((be u<|dg c8 i).any<|kV j) R) (λ_ _=>False) (λu P Q g a0 a4=>g.keeps a4 G G G a0) (λbD P Q g a0 a4=>g) ⟨e,bH,by simpa [mU]using V bQ,bJ U,λk o=>(b2 k o).2,bM,co.refl _ _⟩ ?round ?done ?stop;case seq=>(intro ah;let o:=bU ah;exact I3 bF ((o.cell (p:=⟨J w.1+1+1,0,af⟩) Hy).trans aW) ((o.cell (p:=⟨J w.1+1+1+1,0,af⟩) Hl).trans aX) (bc.below o) (cd o.4) (cd o.4) bV)
 ·(
 intro ci u x b_ R bb D aF;gi_wp2_with fail;refine bd cy ?_;let bI:=O D;let⟨t,Z,aI,al,ad,aR,M⟩:=D;let av:=pE bb;let bj:=(qP av).2.1;have:=uW av;let bY:=M.5 q G ⟨a2,λg=>a3<|b5 g,G,G⟩;let aU:=xh (sW bc M.4 bY) av;let⟨cm,cn,b0,cp⟩:=aU.four 0 bj;rw[o7,h8,PR bj]at b0;have:0<(E x.2:Int):=G;let aS:=(dR<|M.5 (J w.1) G ⟨G,λg=>cd<|ad _<|b5 g,G,G⟩).trans bK.cell;let⟨cq,cr,cs,cu,b1,cw,cA,cB⟩:=Z.cells;let aT:=O bb;let bz:=O aU;let aj:=O Z;let aa:=O aI;let z:=O al;let aO:=O ad;let bs:=O aR;let d:=O M;have:=ail j i u;have:E (mU j<|be u<|dg c8 i)<=3001:=G;cases W:kV j x;{
 let bB:ao (∀nq,DA (J W2.1) [J w.1+1+1,J w.1+1+1+1,q] (λR=>zi a Y S j y H e r C I (J w.1) (J W2.1) (J w.1+1) W2 (mU j<|be (u+1)<|dg c8 i) ((be (u+1)<|dg c8 i).any<|kV j) R) (λ_ _=>False) R .normal {tmps:=#[],defers:=[]} (dS R nq)):=λnq=>by{let⟨aJ,aM⟩:=aij aT W;refine⟨⟨cO _,U,U⟩,λ_ _=>U,?_⟩;rw[aJ,aM];exact bI.keeps (ey.CD<|jn (cU _ R) nq) G G G G};let bX:(j==255)=ak:=by rw[kV,AU]at W;exact W.1
 let bt:(j==l1 x)=ak:=by rw[kV,AU]at W;exact W.2
 gi_wp2_with fail;refine Pv aw (tQ b6) b6 ?_;repeat (go_big_quiet_step (fail))
 refine wpQuiet_nil λ_ aH=>?_;obtain⟨nq,rfl⟩:=aH;gi_wp2_with fail;exact bB nq};{
 have bu:j=255\/((j==255)=ak/\(j==l1 x)=aD):=by{unfold kV at W;cases g:j==255;{rw[g]at W;exact bE<|bd U W};{exact bJ<|by simpa using g}};let bm:ao (∀nq,∃X h,(∃ab bf ac,X=aE ab bf ac)/\(Builtin.append_ #[77,77] 77 #[t,bL q (ay+x.1*4) (E x.2)<|E x.2]).run aL (bx<|dS R nq)=.ok X h/\aA h (N (J w.1) 0)=ae (bv a)/\aA h (N a 4)=ae t/\gd h (N a 4)=ak/\aA (a7 h ⟨a,4,af⟩ X) (N (J w.1+1) 0)=ae (aG<|(be u<|dg c8 i).any<|kV j)/\gd (a7 h ⟨a,4,af⟩ X) (N (J w.1+1) 0)=ak/\ao (DA (J W2.1) [J w.1+1+1,J w.1+1+1+1,q] (λR=>zi a Y S j y H e r C I (J w.1) (J W2.1) (J w.1+1) W2 (mU j<|be (u+1)<|dg c8 i) ((be (u+1)<|dg c8 i).any<|kV j) R) (λ_ _=>False) R .normal {tmps:=#[],defers:=[]} (a7 (a7 h ⟨a,4,af⟩ X) ⟨J w.1+1,0,af⟩<|aG aD))):=λnq=>by{let aq:a6 R (bx<|dS R nq):=(jn (cU _ R) nq).drew;have:J (bx<|dS R nq).1=J R.1:=U;let⟨aJ,aM⟩:=aik aT W;let⟨X,h,hrun,az,au,bT⟩:=IF (E x.2) (aa.below aq) (bz.below aq) G (by rw[dj];omega);let bw:=aj.lt;let B:∀c,(c<=a\/(J w.1<=c/\c<J W2.1+2))->ae c≠bA t:=by{intro c b T;have L:=aa.ue c<|b5 T;rcases z with g|⟨k,l,ap⟩;{have:=aO c<|g▸b5 T;omega};{rw[<-T]at l;cases l;omega}};let b4:ae q≠bA t:=by{intro T;rcases z with g|⟨k,l,ap⟩;{rw[g]at T;exact a3 T.symm};{rw[<-T]at l;cases l;omega}};let ar:∀c,c<R.heap.size->some c≠t.ownBlock->h.heap[c]? = R.1[c]?:=λc b g=>(au.5 c b g).trans U;let aC:=aj.kept<|ar a bw<|B a G;have:J R.1<=J h.1:=au.4;let an:cx (a7 h ⟨a,4,af⟩ X) (J w.1+1) (aG<|(be u<|dg c8 i).any<|kV j) 4:=(dr _ _ _ _ (by show J w.1+1≠a;omega)).trans<|(ar (J w.1+1) G<|B _ G).trans bs;let F:co (λc=>c≠a/\ae c≠bA t/\c≠J w.1+1) R (a7 (a7 h ⟨a,4,af⟩ X) ⟨J w.1+1,0,af⟩<|aG aD):=(((co.zY aq).trans<|co.Yg au λc b=>b.2.1).trans<|co.j9 X λc b=>b.1).trans<|co.j9 (aG aD) λc b=>b.2.2;have a5:bA X=bA e\/∃k,bA X=ae k/\J W2.1+2<=k:=by{rcases bT with g|g;{rw[g];exact z};{exact .inr ⟨_,g,aF⟩}};refine⟨X,h,by let⟨ab,ac,g⟩:=az.slice;exact⟨ab,_,ac,g⟩,hrun,(dR<|ar (J w.1) G<|B _ G).trans aS,aC.cells.2.2.2.2.1,aC.frozen 4,an.cell,an.frozen,⟨⟨F.4,F.5 _ G ⟨G,B _ G,G⟩,F.5 _ G ⟨G,B _ G,G⟩⟩,?_,?_⟩⟩;{intro c b;simp only[fw,rF,n_]at b;rcases b with rfl|rfl|rfl;{exact F.block _ G ⟨G,B _ G,G⟩};{exact F.block _ G ⟨G,B _ G,G⟩};{exact F.block _ G ⟨a2,b4,G⟩}};{rw[aJ,aM];refine⟨X,?_,?_,a5,aO,an.set _,d.trans<|F.mono ?_⟩;{exact(aC.o6 X).kept<|dr _ _ _ _ (by show a≠w.heap.size+1;omega)};{rw[<-iz];refine(az.kept ?_);intro k o;have L:=az.ue k o;let bq:k≠J w.1+1:=by{rcases a5 with g|⟨bR,l,ap⟩;{have:=aO k<|g▸o;omega};{rw[o]at l;cases l;omega}};exact(dr _ _ _ _ bq).trans<|dr _ _ _ _ (by show k≠a;omega)};{intro c _ b;refine⟨b.1,λT=>?_,b.2.2.1⟩;rcases z with g|⟨k,l,ap⟩;{rw[g]at T;exact b.2.1 T};{rw[<-T]at l;cases l;omega}}}};rcases bu with rfl|⟨bX,bt⟩;all_goals(
 gi_wp2_with fail;refine Pv aw (tQ b6) b6 ?_;repeat (go_big_quiet_step (fail))
 refine wpQuiet_nil λ_ aH=>?_;obtain⟨nq,rfl⟩:=aH;obtain⟨X,h,⟨ab,bf,ac,rfl⟩,hrun,cj,fa,fy,ck,cl,jD⟩:=bm nq;have:aA (bx<|dS R nq) (N (J w.1) 0)=ae (bv a):=aS;have:aA (bx<|dS R nq) (N a 4)=ae t:=b1;gi_wp2_with fail;refine wU aw (tQ b6)<|lh 6<|rI (rs:=[0,1]) b6 ax (ly U (λK hK=>?_)<|ly U (λK hK=>?_) rH);{go_simp;refine hK _ _<|kA 1 λK hK=>?_;go_simp;refine hK _ _ ?_;refine lh 2 ?_;refine lh 3 ?_;refine lh 4 ?_;refine kA 5 λK hK=>?_;exact Ho};{go_simp;refine hK _ _ ?_;refine lh 2 ?_;refine lh 3 ?_;refine lh 4 ?_;refine rI (rs:=[0,5]) b6 ax (ly U (λK hK=>?_)<|ly U (λK hK=>?_) rH);{go_simp;refine hK _ _<|kA 5 λK hK=>?_;exact Ho};{go_simp;refine hK _ _<|rI (rs:=[0,7]) b6 ax (ly U (λK hK=>?_)<|ly U (λK hK=>?_) rH);{exact Ho};{rw[b8 dl];refine LS (.tmp 31) (.tmp 32) 77 U U U hrun<|hK _ _<|kA 0 λK hK=>?_;go_simp;refine hK _ _ ?_;refine lh 8 ?_;refine lh 9 ?_;refine lh 10 ?_;refine kA 11 λK hK=>?_;go_simp;refine hK _ _<|wn b6 ?_ _;gi_wp2_with fail;exact jD}}})})
 case done=>(intro R D aV aF;rw[jc]at D;let⟨t,Z,aI,al,ad,aR,M⟩:=D;have:=aR.cell;let aj:=O Z;let aa:=O aI;let z:=O al;let d:=O M;gi_wp2_with fail;refine bd ax<|.inl ⟨_,_,rfl,wM aV,⟨.bool<|tw j i,by simp[results,results232,go_sem];rfl,rfl,⟨t,?_,?_⟩,?_⟩⟩;{exact aj.kept<|r6 G};{refine aa.kept λk o=>r6 ?_;rcases z with g|⟨bR,L,l⟩;{have:=ad k<|g▸o;omega};{rw[o]at L;cases L;omega}};{refine⟨cQ d.1 A.1,cQ d.2 A.2,cQ d.3 A.3,by rw[wL];exact cJ A.4 d.4,λc b a9=>?_⟩;rw[r6 G,d.5 c G ⟨a9.1,a9.2,G,G⟩];exact A.5 c b})
 case stop=>(intro bD R D aV aF;exact D.elim)
end
def g9(q:aQ)(a:Nat)(d e g h i j:Int)(o l:ap)(k b:Int)(n:Bool)(p c:Int):Prop:=
 q.1[a]? = ae (aZ #[ag ai d,ag ai e,ag ai g,ag ai h,ag ai i,ag ai j,am<|D o,am<|D l,ag ai k,ag ai b,aG n,ag ai p,ag ai c] 115)
section
variable {w:World} {b:Nat} {h0 h1 h2 h3 h4 h5:Int} {q n:ap} {k c:Int} {opt:Bool}{sz cK:Int}
def g9.lt(a:g9 w b h0 h1 h2 h3 h4 h5 q n k c opt sz cK):b<J w.1:=(dK.1 a).1
def g9.frozen(h:g9 w b h0 h1 h2 h3 h4 h5 q n k c opt sz cK)(a):gd w (N b a)=ak:=by unfold g9 at h;exact qE
def g9.cells(a:g9 w b h0 h1 h2 h3 h4 h5 q n k c opt sz cK):aA w (N b 0)=ae (M h0)/\aA w (N b 1)=ae (M h1)/\aA w (N b 2)=ae (M h2)/\aA w (N b 3)=ae (M h3)/\aA w (N b 4)=ae (M h4)/\aA w (N b 5)=ae (M h5)/\aA w (N b 6)=ae (aS q)/\aA w (N b 7)=ae (aS n)/\aA w (N b 8)=ae (M k)/\aA w (N b 9)=ae (M c)/\aA w (N b 10)=ae (aG opt)/\aA w (N b 11)=ae (M sz)/\aA w (N b 12)=ae (M cK):=by unfold g9 at a;refine⟨?_,?_,?_,?_,?_,?_,?_,?_,?_,?_,?_,?_,?_⟩<;>simp[aA,a]
def Au(h:φ:=by unfold g9 at*;exact NI):φ:=h
def g9.yA(h:g9 w b h0 h1 h2 h3 h4 h5 q n k c opt sz cK)(a):g9 (a7 w ⟨b,6,af⟩<|am<|D a) b h0 h1 h2 h3 h4 h5 a n k c opt sz cK:=by exact Au
def g9.azw(h:g9 w b h0 h1 h2 h3 h4 h5 q n k c opt sz cK)(a):g9 (a7 w ⟨b,7,af⟩<|am<|D a) b h0 h1 h2 h3 h4 h5 q a k c opt sz cK:=by exact Au
def g9.azx(h:g9 w b h0 h1 h2 h3 h4 h5 q n k c opt sz cK)(a):g9 (a7 w ⟨b,8,af⟩<|ag ai a) b h0 h1 h2 h3 h4 h5 q n a c opt sz cK:=by exact Au
def g9.azy(h:g9 w b h0 h1 h2 h3 h4 h5 q n k c opt sz cK)(a):g9 (a7 w ⟨b,9,af⟩<|ag ai a) b h0 h1 h2 h3 h4 h5 q n k a opt sz cK:=by exact Au
def g9.kept{w'}(a:g9 w b h0 h1 h2 h3 h4 h5 q n k c opt sz cK)(d:w'.1[b]? = w.1[b]?):g9 w' b h0 h1 h2 h3 h4 h5 q n k c opt sz cK:=cQ d a
end
def aio(k:lX f a e F):PX f e F:=by let⟨⟨r,l⟩,n⟩:=k;rcases l with⟨b,_⟩|⟨j,h,i,b,t,c,o,w,x,y⟩;{exact .inl ⟨b,n.1 b⟩};{refine .inr ⟨j,h,b,o,(dK.1 c).1,λd u=>?_⟩;let q:i.1[d]? = (F.map λp=>am<|D p)[d]?:=by{grind};simp only[aA,c];grind}
def ahV(s b a):E (eP s b a).1<=a:=by grind[eP]
def Pz:∀(f a:Nat) (s:ap) (b:Bool) (size:Nat) (c:List ap),(∀e∈c,E e<=63)->E c<=size->size<=255->(∀e∈(mT f a s b size c).1,E e<=63)/\E (mT f a s b size c).1<=255/\E (mT f a s b size c).2.1<=E s
 |0,a,s,b,size,c,g,h,i=>⟨g,by simp only[mT];omega,cO _⟩
 |f+1,a,s,b,size,c,g,h,i=>by rw[mT];split;{grind};{split;{simp};{rename_i k j;have:=Pz f (eY (eP s b a).2.1 (eP s b a).2.2).1 (eY (eP s b a).2.1 (eP s b a).2.2).2.1 (eY (eP s b a).2.1 (eP s b a).2.2).2.2 (size+1+a) (c++[(eP s b a).1]) ?_ (by grind) G;{exact⟨this.1,this.2.1,cJ this.2.2<|cJ (sU _ _)<|uU _ _ _⟩};{intro e d;rcases i_.1 d with d|d;{grind};{rw[yR.1 d];have:=ahV s b a;omega}}}}
def PA(s a):(∀b∈(pP s a).1,E b<=63)/\E (pP s a).1<=255/\E (pP s a).2.1<=E s:=by let:=Pz 256 (eY s a).1 (eY s a).2.1 (eY s a).2.2 1 [] ax ax G;exact⟨this.1,this.2.1,cJ this.2.2<|sU _ _⟩
def PB{d}{M N P R a2 aX aT ay ah al C}(W:g9 f a j M N P y R a2 aX aT ay ah al C)(X:ed f d o H)(l:a≠d)(r:E o<=1000000000){Z B i w e h Q an}(s:pP o H=(F,i,h))(L:e4 i h=(Z,w,Q))(I:e4 w Q=(B,e,an)):a_ aL 103 #[bv a,bv d] f λk x=>k=bh (bZ #[])/\g9 x a j M N P y R (be (E o-E e) o) (cT F) Z B ah al C/\ed x d e an/\co (λg=>g≠a/\g≠d) f x:=by have t:=O<|ahc X r;have A:=PA o H;rw[s]at A;rw[ao,s]at t;let⟨pC,a1,av⟩:=A;simp only at t pC a1 av;have aa:=sc i h;have ab:=sc w Q;rw[L]at aa;rw[I]at ab;simp only at aa ab;have:=X.cells.1;have aB:=O W;have aP:=O L;have a3:=O I;have ax:=O pC;have aJ:=W.lt;go_in;go_wp21;refine t.mono ?_;rintro k a4 ⟨v,rfl,aO,aK,K⟩;have a0:=O<|ag9 (aio aO) G λaU r=>cd<|V ax aU r;have ac:=O<|aB.kept<|K.5 a aJ l;have Y:=O aK;have aC:ao (co (λg=>g≠a/\g≠d) f a4):=(co.CO K).mono λg _ c=>c.2;go_wp21;refine a0.m λn q=>?_;have u:=O<|ac.kept<|q.5 a ac.lt;have aS:ao (ed n d i h):=(q.5 d Y.lt).trans Y;have aF:=O<|aC.trans<|co.zY q;have aH:=u.frozen;have:=u.cells.2.2.2.2.2.2.2.1;go_wp21;have ad:=O<|u.azw<|cT F;have aV:ao (ed (a7 n ⟨a,7,af⟩<|am<|D<|cT F) d i h):=(dr _ _ _ _<|by grind).trans aS;have aR:ao (co (λg=>g≠a/\g≠d) f<|a7 n ⟨a,7,af⟩<|am<|D<|cT F):=aF.trans<|co.j9 _ λg c=>c.1;generalize a7 n ⟨a,7,af⟩ (am<|D<|cT F)=bc at*;have ap:=lW h aV G;rw[aP]at ap;refine ap.m λbd ⟨aM,S,bb⟩=>?_;have aq:=O<|ad.kept<|S.5 a ad.lt l;have ar:=O aM;have aY:=O<|aR.trans<|(co.CO S).mono λg _ c=>c.2;go_wp21;have z:=lW Q ar G;rw[a3]at z;refine z.m λbf ⟨au,T,ba⟩=>?_;have p:=O<|aq.kept<|T.5 a aq.lt l;have aj:=O au;have aW:=O<|aY.trans<|(co.CO T).mono λg _ c=>c.2;have aH:=p.frozen;obtain⟨-,-,-,-,-,-,a5,-,a6,a8,-,-,-⟩:=p.cells;have:=aj.cells.1;have:=cV o;have:=cV e;have:(E o:Int)-E e=((E o-E e:Nat):Int):=G;have aI:E o-E e<=E o:=G;have az:=O<|wS o (E o-E e) aI;have:d≠a:=λk=>l<|b5 k;generalize aw:E o-E e=a9 at*;go_wp2;refine kh (v:=bZ #[]) (by simp[c_,results103]) U ?_;rw[az,aw];exact⟨U,((p.azx _).azy _).yA _,(dr _ _ _ _ fi).trans<|(dr _ _ _ _ fi).trans<|(dr _ _ _ _ fi).trans aj,((aW.trans<|co.j9 _ λg c=>c.1).trans<|co.j9 _ λg c=>c.1).trans<|co.j9 _ λg c=>c.1⟩
def hD(c d e g h i:Int)(n k:ap)(j a:Int)(l:Bool)(o b:Int):bk:=
 ce #[M c,M d,M e,M g,M h,M i,am<|D n,am<|D k,M j,M a,aG l,M o,M b]
def ahW(a):(Op.equalIn 10000 108 (ce #[M 1,M 0,M 0,M 0])<|ce #[M 1,M 0,M 0,M 0]).run aL a=.ok aD a:=b6
def AP(c:aQ)(b a:Int)(s:ap):aQ:=
 (((aN c<|aZ #[ag ai b,ag ai a,ag ai 1,ag ai 0,ag ai 0,ag ai 0] 110).alloc
   (aZ #[ag ai 0,ag ai 0,ag ai 0,ag ai 0,ag ai 0,ag ai 0,am ⟨#[]⟩,am ⟨#[]⟩,ag ai 0,ag ai 0,aG ak,ag ai 0,ag ai 0] 115)).alloc
   (aZ #[ag ai b,ag ai a,ag ai 1,ag ai 0,ag ai 0,ag ai 0,am ⟨#[]⟩,am ⟨#[]⟩,ag ai 0,ag ai 0,aG ak,ag ai 0,ag ai 0] 115)).alloc
   (aZ #[am<|D s,aG ak] 195)
def ahX(a c b s):g9 (AP a c b s) (J a.1+1+1) c b 1 0 0 0 [] [] 0 0 ak 0 0/\g9 (AP a c b s) (J a.1+1) 0 0 0 0 0 0 [] [] 0 0 ak 0 0/\ed (AP a c b s) (J a.1+1+1+1) s ak/\a6 a (AP a c b s):=by refine⟨?_,?_,?_,?_⟩;{refine(dv _ _ _ ax).trans ?_;let:=cW (aN (aN a<|aZ #[ag ai c,ag ai b,ag ai 1,ag ai 0,ag ai 0,ag ai 0] 110)<|aZ #[ag ai 0,ag ai 0,ag ai 0,ag ai 0,ag ai 0,ag ai 0,am ⟨#[]⟩,am ⟨#[]⟩,ag ai 0,ag ai 0,aG ak,ag ai 0,ag ai 0] 115)<|aZ #[ag ai c,ag ai b,ag ai 1,ag ai 0,ag ai 0,ag ai 0,am ⟨#[]⟩,am ⟨#[]⟩,ag ai 0,ag ai 0,aG ak,ag ai 0,ag ai 0] 115;simpa [D]using this};{refine(dv _ _ _ ax).trans<|(dv _ _ _ ax).trans ?_;let:=cW (aN a<|aZ #[ag ai c,ag ai b,ag ai 1,ag ai 0,ag ai 0,ag ai 0] 110)<|aZ #[ag ai 0,ag ai 0,ag ai 0,ag ai 0,ag ai 0,ag ai 0,am ⟨#[]⟩,am ⟨#[]⟩,ag ai 0,ag ai 0,aG ak,ag ai 0,ag ai 0] 115;simpa [D]using this};{let:=cW (aN (aN (aN a<|aZ #[ag ai c,ag ai b,ag ai 1,ag ai 0,ag ai 0,ag ai 0] 110)<|aZ #[ag ai 0,ag ai 0,ag ai 0,ag ai 0,ag ai 0,ag ai 0,am ⟨#[]⟩,am ⟨#[]⟩,ag ai 0,ag ai 0,aG ak,ag ai 0,ag ai 0] 115)<|aZ #[ag ai c,ag ai b,ag ai 1,ag ai 0,ag ai 0,ag ai 0,am ⟨#[]⟩,am ⟨#[]⟩,ag ai 0,ag ai 0,aG ak,ag ai 0,ag ai 0] 115)<|aZ #[am<|D s,aG ak] 195;simpa [ed,AP]using this};{exact NU}
def Mx(h:φ:=by go_region;all_goals(go_wp2;refine dQ (v:=bZ #[hD id bits 1 0 0 0 q nm k' c' ak 0 0,aG ak]) (by simp[c_,results46,go_sem,hD,cS,d1,d2,hN,d4,d5,d6,d7,d8,d9,d10,d11,d12]) U ⟨Mn ak U,?_⟩;first|exact(aW _ (aW _ (aW _ (aW _ (aW _ (aW _ (aW _ (aW _ (aW _ (aW _ (aW _ (aW _ (aW _ bM _ _) _ _) _ _) _ _) _ _) _ _) _ _) _ _) _ _) _ _) _ _) _ _) _ _).drew|exact(aW _ (aW _ (aW _ (aW _ (aW _ (aW _ (aW _ (aW _ (aW _ (aW _ (aW _ (aW _ (aW _ bM.drew _ _) _ _) _ _) _ _) _ _) _ _) _ _) _ _) _ _) _ _) _ _) _ _) _ _))):φ:=h
def OC{id bits}(ah:12<=E o)(ad:E o<=1000000000){k' c' t u a x b}(d:pP (bi 12 o) ak=(F,t,H))(k:e4 t H=(k',u,x))(l:e4 u x=(c',a,b)):a_ aL 46 #[ce #[M id,M bits,M 1,M 0,M 0,M 0],am<|D o] f λI aa=>I=bh (bZ #[hD id bits 1 0 0 0 (be (E (bi 12 o)-E a)<|bi 12 o) (cT F) k' c' ak 0 0,aG<|!b&&a.isEmpty])/\a6 f aa:=by
 have:=cV o;have z:=O<|zc o 12 U;have:=ahW;have ab:=O d;have Q:=O k;have Z:=O l;let⟨B,A,V,N⟩:=ahX f id bits<|bi 12 o;have y:=O<|PB B V G (by grind) ab Q Z;have j:=O A;have n:=O N;go_in;go_wp21;rw[z];refine y.m λan ⟨ac,P,r⟩=>?_;have w:=O<|j.kept<|r.5 _ j.lt ⟨G,G⟩;have bM:=O<|bC n<|r.below (λaj aO=>⟨G,G⟩) n.4;have S:=O ac;have R:=O P;generalize C:be (E (bi 12 o)-E a) (bi 12 o)=q,iN:cT F=nm at*;have e:=O C;have T:=O iN;have:=S.cells;let⟨cS,d1,d2,hN,d4,d5,d6,d7,d8,d9,d10,d11,d12⟩:=w.cells;have:=w.frozen;let⟨X,al⟩:=R.cells;go_wp2;have Y:∀i:Bool,(!b&&a.isEmpty)=i->bh (bZ #[hD id bits 1 0 0 0 q nm k' c' ak 0 0,aG i])=bh (bZ #[hD id bits 1 0 0 0 (be (E (bi 12 o)-E a)<|bi 12 o) (cT F) k' c' ak 0 0,aG<|!b&&a.isEmpty]):=λi L=>by{rw[e,T,L]};have Mn:=O Y;have aW:=O fun(c:aQ) (K:a6 f c) (W:Nat) (v:bk)=>fc K (p:=⟨J f.1+1,W,af⟩) ax v;cases b;{
 cases a with
 |nil=>{have d:D []=⟨#[]⟩:=U;rw[d]at X;go_region;all_goals(go_wp2;refine dQ (v:=bZ #[hD id bits 1 0 0 0 q nm k' c' ak 0 0,aG aD]) (by simp[c_,results46,go_sem,hD,cS,d1,d2,hN,d4,d5,d6,d7,d8,d9,d10,d11,d12]) U ⟨Mn aD U,?_⟩;first|exact(aW _ (aW _ (aW _ (aW _ (aW _ (aW _ (aW _ (aW _ (aW _ (aW _ (aW _ (aW _ (aW _ bM _ _) _ _) _ _) _ _) _ _) _ _) _ _) _ _) _ _) _ _) _ _) _ _) _ _).drew|exact(aW _ (aW _ (aW _ (aW _ (aW _ (aW _ (aW _ (aW _ (aW _ (aW _ (aW _ (aW _ (aW _ bM.drew _ _) _ _) _ _) _ _) _ _) _ _) _ _) _ _) _ _) _ _) _ _) _ _) _ _))}
 |cons h g=>{
 have d:((D (h::g)).toList==(⟨#[]⟩:ByteArray).toList)=ak:=by rw[yV];rfl
 have k:(D (h::g)).toList.isEmpty=ak:=by simp_all
 have l:¬b7 (D (h::g))=0:=by rw[cV];simp
 generalize D (h::g)=gF at*;exact Mx}};{exact Mx}
def sB(a:Int):Bool:=a != 0&&a != 41&&(dC (a<249)||dC (254<a))
def qo(a b:Int):Int:=bits .or ai (bits .or ai 32768<|bits .and ai a 30976)<|bits .and ai b 15
def Aw(h:φ:=by show w.heap.size<=w.heap.size+1;omega):φ:=h
def PC(b a d bG e g c w):a_ aL 102 #[ce #[M b,M a,M d,M bG,M e,M g],M c] w λh i=>h=bh (ce #[M b,M<|qo a c,M 0,M 0,M 0,M 0])/\a6 w i:=by go_wp2;refine dQ (v:=ce #[ag ai b,ag ai<|qo a c,ag ai 0,ag ai 0,ag ai 0,ag ai 0]) (by simp[c_,results102,go_sem,qo]) U (bd U ?_);first|exact(cf cc bo _).alloc ax _|exact(((((((((Below.refl _ _).alloc (Nat.le_refl _) _).alloc ax _).setCell Aw _).setCell Aw _).setCell Aw _).setCell Aw _).setCell Aw _).setCell Aw _)
section
open Go
def yM:bk->Nat
 |.slice _ a _=>a
 |_=>0
structure iL(w w':World)(t:TypeId)(sz:Nat)(v v':Value):Prop where
 row:∀(i:Nat) (cur:Array Value),w.heap[i]? = some (.cells cur t (0,0))->∃cur',w'.heap[i]? = some (.cells cur' t (0,0))/\cur'.size=cur.size/\∀j,(v.ownBlock=some i->j<yM v*sz)->cur'[j]? = cur[j]?
 own:∀g,v'.ownBlock=some g->(v.ownBlock=some g/\yM v<=yM v')\/w.heap.size<=g
section
variable {w w' w1:World} {t:TypeId} {sz:Nat}{v v' v1:Value}
def iL.same(v sz)(d:∀(a:Nat) (b:Array bk),w.1[a]? = ae (aZ b t (0,0))->w'.1[a]? = w.1[a]?):iL w w' t sz v v:=
 ⟨λa b c=>⟨b,(d a b c).trans c,U,λ_ _=>U⟩,λ_ e=>bJ ⟨e,cO _⟩⟩
def iL.refl(w)(t:dP)(sz v):iL w w t sz v v:=iL.same v sz λ_ _ _=>U
def iL.trans(b:iL w w1 t sz v v1)(j:iL w1 w' t sz v1 v')(B:J w.1<=J w1.1):iL w w' t sz v v':=by refine⟨λc n g=>?_,λe u=>?_⟩;{let⟨bG,p,q,r⟩:=b.1 c n g;let⟨l,x,y,z⟩:=j.1 c bG p;let:=(dK.1 g).1;refine⟨l,x,cQ y q,λi h=>(z i λo=>?_).trans<|r i h⟩;rcases b.2 c o with⟨a,d⟩|a;{exact eA (h a)<|tp _ d};{omega}};{rcases j.2 e u with⟨a,d⟩|a;{rcases b.2 e a with⟨k,A⟩|k;{grind};omega};omega}
def iL.alV(j:iL w w' t sz v v'){d e}(c:w.ownsRow a t sz v d e):w'.ownsRow a t sz v d e:=by refine bd c.1 ?_;rcases c.2 with A|⟨b,g,h,rfl,p,q,k,l,n,o⟩;{grind};{let⟨i,x,y,z⟩:=j.1 b h q;refine bE ⟨b,g,i,U,p,x,k,l,cQ y n,?_⟩;rw[<-o];apply List.ext_getElem?;intro u;rw[yG,yG];split;{rename_i r;let:=z u λ_=>r;grind};{rfl}}
end
def ahY{c}(aO:a<J f.1):(aN (bx f) c).1[a]? = f.1[a]?:=dv (bx f) c a aO
def Ef{c}(k:bA r=ae (J f.1)):iL f (aN (bx f) c) z a e r:=
 ⟨λl d b=>⟨d,(ahY (dK.1 b).1).trans b,U,λ_ _=>U⟩,λi j=>bE<|by grind⟩
def PD{sz n k cap b news}(j:f.1[a]? = ae (aZ b z (0,0)))(t:n*sz+E news<=J b)(o:n<=k):iL f (f.setRow a<|c7<|be (n*sz) b.1++news++bi (n*sz+E news) b.1) z sz (bL a 0 n cap) (bL a 0 k cap):=by
 refine⟨λd g i=>?_,λr q=>bJ<|bd q o⟩;by_cases h:d=a;{
 subst h;rw[j]at i;obtain rfl:b=g:=by grind
 refine⟨_,setRow_heap f d b _ z _ j,by grind,λp l=>?_⟩;let:p<n*sz:=l U;grind};{exact⟨g,(setRow_other f a d _ h).trans i,U,λ_ _=>U⟩}
section
variable {P:Program} (w:World)
theorem VL{h:dP}{H:TypeInfo}{size x}(t:P.underlying h=ae (.slice X))(aO:P.info? X=ae H)(B:H.8=ae e)(T:H.3=size)(M:H.4=x)(Z:0<size){b I}(c:w.ownsRow a X size r b I){i m k}{d:List bk}(l:E d=m*size)(q:∀n o,d[n]? = ae o->aA w (i.add n)=ae o)(L:∀o∈d,o.oneCell'=aD)(W:b+m<=fk)(O:(b+m)*x<=140737488355328)(u:(Builtin.append_ #[h,h] z #[r,aE (ae i) m k]).run P w=.ok C f)(R:0<m):iL w f X size r C:=by
 subst T;subst M;let:b+m<=9223372036854775807:=fi
 rcases c.2 with⟨rfl,rfl⟩|⟨g,p,y,rfl,v,F,aa,Y,Q,V⟩;{let j:=run_append_nil (P:=P) w h z X H e t aO B i m k d l q R G (by grind);rw[j]at u;cases u;exact Ef U};{
 by_cases A:b+m<=p;{
 let D:b*H.3+E d<=J y:=by rw[l,Q,<-C2];exact tp _ A
 let j:=run_append_room (P:=P) w h z X H t aO g b p y F i m k d l q L A D;rw[j]at u;cases u;exact PD F D G};{let S:=c.cells (g:=g) U;let j:=run_append_grow (P:=P) w h z X H e t aO B (N g 0) b p I c.1 S i m k d l q G G (growslice_fits G O);rw[j]at u;cases u;exact Ef U}}
theorem ahZ{h b:dP}{c:TypeInfo}(j:P.underlying z=ae (.slice b))(l:P.underlying h=ae .string)(aO:P.info? b=ae c)(y:c.8=ae (ag ch 0))(x:c.3=1)(C:c.4=1){n p}(o:w.ownsRow a b 1 e n p)(I:n+b7 T<=fk)(L:n+b7 T<=140737488355328)(A:(Builtin.append_ #[z,h] X #[e,am T]).run P w=.ok r f):iL w f b 1 e r:=by
 have:n+b7 T<=9223372036854775807:=fi
 have:E p=n:=by simpa using o.1
 rcases o.2 with⟨rfl,rfl⟩|⟨g,cap,q,rfl,K,t,Q,M,O,H⟩;{by_cases u:b7 T=0;{have s:=Lib.run_firstCells_string (P:=P) w 1 T;rw[u]at s;let d:(Builtin.append_ #[z,h] X #[bX,am T]).run P w=.ok (bX) w:=by{simp[Builtin.append_,Ia j,Ia l,sizeOf,typeInfo,aO,x,Builtin.lenOf,u,s]};rw[d]at A;cases A;exact iL.refl _ _ _ _};{let d:=run_append_nil_string (P:=P) w z h X b c (ag ch 0) j l aO y T G G (by grind);rw[d]at A;cases A;exact Ef U}};{have:J q=cap:=G;by_cases F:n+b7 T<=cap;{let d:=Lib.run_append_room_string (P:=P) w z h X b c j l aO x g n cap q t T F G;rw[d]at A;cases A;have:=PD (sz:=1) (n:=n) (k:=n+b7 T) (cap:=cap) (news:=Lib.strCells T) t (by rw[Lib.strCells_length];omega) G;rw[r5,Lib.strCells_length]at this;omega};{let D:=o.cells (g:=g) U;let d:=Lib.run_append_grow_string (P:=P) w z h X b c (ag ch 0) j l aO y (N g 0) n cap p (by grind) D T G G (C▸growslice_fits G G);rw[d]at A;cases A;exact Ef U}}
theorem PE{L rest h i b}(V:h.6=af)(s M)(v:h.2=.call {callee:=.builtin .append,args:=#[s,M],argTypes:=#[z,z]})(j){d:TypeInfo}{o}(H:P.underlying z=ae (.slice X))(aO:P.info? X=ae d)(I:d.8=ae e)(F:d.3=a)(y:d.4=o)(aa:J e.cells=a)(G:0<a)(q){p}(Y:i.eval s=r)(C:w.ownsRow j X a r q p)(n){m}(t g)(W:0<m)(Z:i.eval M=aE (ae n) m t)(A:E g=m*a)(B:∀K l,g[K]? = ae l->aA w (n.add K)=ae l)(u:∀l∈g,l.oneCell'=aD)(x:q+m<=fk)(size:(q+m)*o<=140737488355328)(U:j<=J w.1)(N:∀k c,c.ownsRow j X a k (q+m) (p++g)->w.grownBy c (bA r)->iL w c X a r k->(bA k=bA r\/bA k=ae (J w.1))->wpList P L b rest (i.put h.1 k) c):wpList P L b (h::rest) i w:=by refine wpList_plain V λab T=>?_;let⟨k,c,D,O,Q,_,S⟩:=run_append_own_at (P:=P) w j z h.3 X d e a o H aO I F y aa G r q p C n m t g A B u x size U;let R:=VL (P:=P) w H aO I F y G C A B u x size D W;simp only[Oper.wp,execOp,v,resolve,invoke,builtin,Sem.run_bind,AV,wB,Bd,lU,sv,Y,Z,D];exact T _ _<|N k c O Q R S
theorem ah0{A rest v h n}(L:v.6=af)(B C)(j k:dP)(M:v.2=.call {callee:=.builtin .append,args:=#[B,C],argTypes:=#[j,k]})(i)(a:dP)(c:TypeInfo)(x:P.underlying j=ae (.slice a))(y:P.underlying k=ae .string)(aO:P.info? a=ae c)(z:c.8=ae (ag ch 0))(u:c.3=1)(p:c.4=1)(d){l}(N:h.eval B=e)(r:w.ownsRow i a 1 e d l)(s)(O:h.eval C=am s)(o:d+b7 s<=fk)(q:d+b7 s<=140737488355328)(K:i<=J w.1)(D:∀g b,b.ownsRow i a 1 g (d+b7 s) (l++Lib.strCells s)->w.grownBy b (bA e)->iL w b a 1 e g->wpList P A n rest (h.put v.1 g) b):wpList P A n (v::rest) h w:=by refine wpList_plain L λQ I=>?_;let⟨g,b,t,F,G,_⟩:=Lib.run_append_own_string (P:=P) w i j k v.3 a c x y aO z u p e d l r s o q K;let H:=ahZ (P:=P) w x y aO z u p r o q t;simp only[Oper.wp,execOp,M,resolve,invoke,builtin,Sem.run_bind,AV,wB,Bd,lU,sv,N,O,t];exact I _ _<|D g b F G H
end
end
def ew(d:aQ)(a:Nat)(b c:bk):Prop:=d.1[a]? = ae (aZ #[b,c] 258)
section
variable {w:World} {b:Nat}{vb vp:Value}
def ew.lt(a:ew w b vb vp):b<J w.1:=(dK.1 a).1
def ew.cells(a:ew w b vb vp):aA w (N b 0)=ae vb/\aA w (N b 1)=ae vp:=by unfold ew at a;constructor<;>simp[aA,a]
def ew.frozen(h:ew w b vb vp)(a):gd w (N b a)=ak:=by unfold ew at h;exact qE
def ew.set0(a:ew w b vb vp)(v):ew (a7 w ⟨b,0,af⟩ v) b v vp:=by unfold ew at*;exact AG
def ew.set1(a:ew w b vb vp)(v):ew (a7 w ⟨b,1,af⟩ v) b vb v:=by unfold ew at*;exact AG
def ew.kept{w'}(a:ew w b vb vp)(c:w'.1[b]? = w.1[b]?):ew w' b vb vp:=cQ c a
end
def uC{t:dP}(h:ew f a e r)(p:t≠258)(j k v c):iL f (a7 f ⟨a,j,af⟩ k) t c v v:=
 iL.same v c λi o g=>dr _ _ _ _ λd=>by
  have n:i=a:=d;rw[n,h]at g
  grind
def PF(b d)(e:dP)(a v):iL b (aN b d) e a v v:=
 iL.same v a λ_ _ c=>dv _ _ _ (dK.1 c).1
def gO(d:aQ)(b:Nat)(v:bk)(a:ap):Prop:=d.ownsRow b 5 1 v (E a)<|a.map λc=>ag ch<|bg c
def zj:(aL.info? 5).map (λa=>(a.8,a.3,a.4))=ae (ae<|ag ch 0,1,1):=b6
def xp:aL.underlying 53=ae (.slice 5):=b6
def qp{b}{g v j}(q:f.ownsRow b z g e v j)(k:ae a≠bA e)(w x):(a7 f ⟨a,w,af⟩ x).ownsRow b z g e v j:=by let⟨r,d⟩:=q;refine bd r ?_;rcases d with d|⟨c,n,o,rfl,t,l,u⟩;{grind};{exact bE ⟨c,n,o,U,t,(dr _ _ _ _ (by show c≠a;intro p;subst p;exact k U)).trans l,u⟩}
def Bv{v}(g:ew f a e r)(k:gO f v C h):ae a≠bA C:=λi=>by
 obtain⟨_,⟨rfl,_⟩|⟨o,l,n,rfl,_,d,_⟩⟩:=k
 ·simp[bA]at i
 ·simp only[bA,rG]at i;subst i;rw[g]at d
  grind
def oj{g h j}(d:f.ownsRow a z g e h j):∃v m c,e=aE v m c:=by obtain⟨_,⟨rfl,_⟩|⟨n,k,l,rfl,_⟩⟩:=d;{simp};simp
def ah1{l n}(p:ew f a e C)(M:gO f l e o)(W:l<=J f.1)(X:E o<=1000000):a_ aL 318 #[ag ch<|bg n,bv a] f λI c=>I=bh (bZ #[])/\∃g,ew c a g C/\gO c l g (o++[n])/\(bA g=bA e\/∃h,bA g=ae h/\J f.1<=h)/\iL f c 5 1 e g/\co (λb=>b≠a/\ae b≠bA e) f c:=by
 let⟨Y,aO,R,S,T⟩:=im zj;let:=p.cells.1;let y:=O p;let x:=O M;let L:=p.lt;go_in;go_wp2_with (at_builtin;go_loud (refine PE _ U (.tmp 8) (.tmp 10) U l xp aO R S T U bW (E o) U (x.alloc _) (N (J f.1) 0) 1 [ag ch<|bg n] bW U U ?bG ?c2 ?c3 ?cB ?fe ?_))
 case bG=>
  intro V u hj
  match V,hj with
  |0,hj=>exact Cz
  |Z+1,hj=>grind
 case c2=>exact E5
 case c3=>unfold fk;omega
 case cB=>omega
 case fe=>simp;omega
 intro aa D P k F K;obtain⟨r,w,t,rfl⟩:=oj P;let z:ao (gO D l (aE r w t)<|o++[n]):=by
  unfold ao gO
  grind
 let A:=λb aO q=>
  (k.5 b ct q).trans (dv _ _ _ aO)
 let q:=Bv y x;let i:=O<|y.kept<|A a L q;let B:ao (co (λb=>b≠a/\ae b≠bA e) f D):=
  ⟨k.1,k.2,k.3,cJ ax k.4,λb aO Q=>A b aO Q.2⟩
 let H:ao (bA (aE r w t)=bA e\/∃h,bA (aE r w t)=ae h/\J f.1<=h):=by
  rcases K with j|j
  ·exact bJ j
  ·exact bE ⟨_,j,ax⟩
 let G:=O<|(PF f _ _ _ _).trans F ax;let:=i.frozen;let:=i.cells.1;go_wp2;exact kh (v:=bZ #[]) (by simp[c_,results318]) U ⟨U,_,i.set0 _,qp z (Bv i z) _ _,H,G.trans (uC i bW _ _ _ _) B.4,B.trans<|co.j9 _ λb j=>j.1⟩
def jS(e:Nat)(a b:aQ):Prop:=∀g h,ew a e g h->∃c d,ew b e c d/\iL a b 5 1 g c/\iL a b 315 2 h d
def jS.of{d}(i:ew f a r C)(k:ew m a d e)(l:iL f m 5 1 r d)(n:iL f m 315 2 C e):jS a f m:=λo p j=>by
 unfold ew at i j
 grind
def jS.trans{b}(i:jS a b f)(k:jS a f m)(d:J b.1<=J f.1):jS a b m:=λp q j=>by
 obtain⟨g,o,l,r,u⟩:=i p q j;obtain⟨h,fa,n,t,w⟩:=k g o l;exact⟨h,fa,n,r.trans t d,u.trans w d⟩
def jS.same(o:jS a f m)(p:∀h,h<J f.1->u.1[h]? = m.1[h]?):jS a f u:=λx y g=>by
 obtain⟨l,w,i,j,k⟩:=o x y g;have q:=g.lt;refine⟨l,w,i.kept<|p a q,⟨λh b c=>?_,j.2⟩,⟨λh b c=>?_,k.2⟩⟩
 ·obtain⟨n,r,t⟩:=j.1 h b c
  grind
 ·obtain⟨n,r,t⟩:=k.1 h b c
  grind
def jS.refl(c a):jS c a a:=λd e b=>⟨d,e,b,iL.refl _ _ _ _,iL.refl _ _ _ _⟩
def jS.below(d:a6 f m):jS a f m:=(jS.refl a f).same λe aO=>d.5 e aO
def jS.azN{t}(d:jS a f m)(n:ew f a e r)(F:ew m a C t){b u}(D:bA C=ae b)(O:yM e<=u){B}(A:m.1[b]? = ae (aZ B 5 (0,0)))(k):jS a f (a7 m ⟨b,u,af⟩ k):=by
 let⟨z,I,j,p,w⟩:=d e r n;obtain⟨rfl,rfl⟩:z=C/\I=t:=by{unfold ew at j F;grind};have G:∀l,l≠b->(a7 m ⟨b,u,af⟩ k).1[l]? = m.1[l]?:=λl aO=>dr _ _ _ _ aO;have y:a≠b:=λh=>by rw[<-h,j]at A;grind
 refine jS.of n (j.kept<|G a y) ⟨λl g i=>?_,p.2⟩ ⟨λl g i=>?_,w.2⟩;{let⟨q,P,Q,R⟩:=p.1 l g i;by_cases h:l=b;{subst h;refine⟨q.setIfInBounds u k,?_,by grind,λH M=>?_⟩;{simp only[a7];grind};{let N:u≠H:=λL=>by{rcases p.2 l D with⟨x,K⟩|x;{grind};grind};grind}};grind};{let q:=w.1 l g i;grind}
structure IG(mb base:Nat)(w w':World):Prop where
 os:w'.os=w.os
 tape:w'.tape=w.tape
 output:w'.output=w.output
 size:w.heap.size<=w'.heap.size
 block:∀i,i<w.heap.size->i≠mb->(i<base\/∀cur,w.heap[i]?≠some (.cells cur 5 (0,0)))->w'.heap[i]? = w.heap[i]?
structure lc(mb base:Nat)(w w':World):Prop where
 os:w'.os=w.os
 tape:w'.tape=w.tape
 output:w'.output=w.output
 size:w.heap.size<=w'.heap.size
 block:∀i,i<w.heap.size->i≠mb->(i<base\/∀cur,w.heap[i]?≠some (.cells cur 5 (0,0)))->w'.heap[i]? = w.heap[i]?
 kp:jS mb w w'
def lc.refl(c b a):lc c b a a:=⟨U,U,U,cO _,λ_ _ _ _=>U,jS.refl _ _⟩
def lc.trans{c}(h:lc a c f m)(b:lc a c m u):lc a c f u:=
 ⟨cQ b.1 h.1,cQ b.2 h.2,cQ b.3 h.3,cJ h.4 b.4,λj aO i l=>by
  have k:=h.5 j aO i l;refine(b.5 j (eA aO h.4) i ?_).trans k
  grind,h.6.trans b.6 h.4⟩
def lc.adJ{d}(c:a6 f m):lc a d f m:=⟨c.1,c.2,c.3,c.4,λe aO _ _=>c.5 e aO,jS.below c⟩
def lc.alZ{i}(k:gO f i e h)(b:co (λc=>c≠a/\ae c≠bA e) f m)(g:ew f a e r)(o:ew m a C r)(w:iL f m 5 1 e C):lc a i f m:=
 ⟨b.1,b.2,b.3,b.4,λc aO g z=>b.5 c aO ⟨g,λx=>by
  obtain⟨_,⟨rfl,_⟩|⟨t,q,l,rfl,u,p,_⟩⟩:=k
  ·simp[bA]at x
  ·simp only[bA,rG]at x
   grind⟩,jS.of g o w (iL.same _ _ λc l j=>b.5 c (dK.1 j).1 ⟨λx=>by rw[x,g]at j;grind,λx=>by
  obtain⟨_,⟨rfl,_⟩|⟨t,q,y,rfl,u,p,_⟩⟩:=k
  ·simp[bA]at x
  ·simp only[bA,rG]at x
   grind⟩)⟩
def ah2{b}(l)(j:ew f a e r)(k:gO f b e h)(o:b<=J f.1)(u:E h<=1000000):a_ aL 318 #[ag ch<|bg l,bv a] f λp g=>p=bh (bZ #[])/\(∃c,ew g a c r/\gO g b c (h++[l]))/\lc a b f g:=by exact(ah1 j k o u).m λg ⟨c,i,q,_,n,t⟩=>⟨U,⟨c,i,q⟩,lc.alZ k t j i n⟩
def ah3{b}(s)(j:ew f a e r)(B:gO f b e h)(w:b<=J f.1)(R:E h<=1000000)(S:E s<=1000000000):a_ aL 313 #[aS s,bv a] f λx k=>x=bh (bZ #[])/\(∃l,ew k a l r/\gO k b l (h++s))/\lc a b f k:=by
 let⟨K,aO,G,H,I⟩:=im zj;have:=j.cells.1;have i:=O j;have d:=O B;have z:=j.lt;have F:=cV s;have t:ao (aL.underlying 204=ae .string):=dl;go_in;go_wp2_with (at_builtin;go_loud (refine ah0 _ U (.tmp 8) (.tmp 9) 53 204 U b 5 K xp t aO G H I (E h) U d (D s) U ?c3 ?cB w ?_));case c3=>unfold fk;omega
 case cB=>omega
 intro T Q o g u;obtain⟨M,P,N,rfl⟩:=oj o;have n:ao (gO Q b (aE M P N)<|h++s):=by{rw[ao,gO,dj,jg,<-F];exact o};have A:=Bv i d;have c:=O<|i.kept<|g.5 a z A;have L:=O<|lc.alZ d (co.trans ⟨g.1,g.2,g.3,g.4,λp aO C=>g.5 p aO C.2⟩<|co.j9 _ λp y=>y.1) (V i) (c.set0 _)<|u.trans (uC c bW _ _ _ _) g.4;have:=c.frozen;have:=c.cells.1;go_wp2;refine kh (v:=bZ #[]) (by simp[c_,results313]) U ⟨U,⟨_,c.set0 _,qp n (Bv c n) _ _⟩,L⟩
def IH(l:FuncId)(n:bk)(h:ap):Prop:=∀(c b:Nat) (i j:bk) (d:ap) (a:aQ),ew a c i j->gO a b i d->b<=J a.1->E d+E h<=1000000 ->
 a_ aL l #[n,bv c] a λk e=>k=bh (bZ #[])/\(∃g,ew e c g j/\gO e b g (d++h))/\lc c b a e
structure mC where
 t:TypeId
 x:Value
 fn:FuncId
 out:ap
def mC.Ok (f:mC):Prop:=(∀a:aQ,(method 509 f.1 f.2 "beacon/wire.writeTo").run aL a = .ok (f.3,f.2) a)/\(∀(b:Array bk) (a:aQ),(callFunc f.3 b).run aL a = .ok (.enter f.3 b) a)/\IH f.3 f.2 f.4
def d_(a:List mC):ap:=ex (·.out) a
def Pk{b:List mC}(c:a<E b):d_ (be (a+1) b)=d_ (be a b)++b[a].4:=by rw[d_,g8 c,o3];simp[d_]
def ah4(a b):E (d_<|be b a)<=E (d_ a):=by
 let:d_ a=d_ (be b a)++d_ (bi b a):=by rw[d_,d_,d_,<-o3,ku]
 grind
def Bw(c g z l)(k w)(p:ew w a e r)(q:gO w c e k)(ah:c<=J w.1)(Q:∀f∈l,f.Ok)(ab:g<J w.1)(ad:g≠a)(P:g<c\/∀W,w.1[g]?≠ae (aZ W 5 (0,0)))(ac:∀j (aj:j<E l),aA w (N g j)=ae (cP l[j].1 l[j].2))(aq:E l<=z)(al:E l<=1000000)(ap:E k+E (d_ l)<=1000000):a_ aL 109 #[bv a,bL g 0 (E l) z] w λY x=>Y=bh (bZ #[])/\(∃d,ew x a d r/\gO x c d (k++d_ l))/\lc a c w x:=by
 have T:=O p;have I:=O q;have R:=O Q;have F:=O ac;have H:=O P;go_wp2;go_loopw [8] (λu wr=>∃(b:Nat) (d:bk),u=M b/\b<=E l/\ew wr a d r/\gO wr c d (k++d_ (be b l))/\lc a c w wr) λu _=>E l-cM (fj u);·exact⟨0,e,U,dJ _,T,by simpa [d_]using V I,lc.refl _ _ _⟩
 ·(obtain⟨b,d,rfl,an,p,q,C⟩:=hrel;have A:=O p;have D:=O q;have t:=O C;have:=C.4;by_cases i:b<E l;{have:=(dR (w:=w) (t.5 g ab ad H)).trans (F b i);have n:=R l[b]<|ei i;have S:=O<|Pk i;have y:=O<|ah4 l<|b+1;rw[Pk i,dj]at y;generalize l[b]=f at*;have:=n.1;have:=n.2.1;have K:=O<|n.2.2 a c d r _ wr A D G (by rw[dj];have:=V y;omega);go_wp21;refine K.m λar ⟨⟨L,Z,B⟩,aa⟩=>?_;rw[iz,<-S]at B;have o:=O<|cj Z<|cj B<|t.trans aa;go_wp2;exact⟨⟨b+1,L,dd,G,o.1,o.2.1,o.2.2⟩,dz⟩};{have X:b=E l:=G;subst X;have h:=D;rw[jc]at h;replace h:=O h;go_wp2;exact kh (v:=bZ #[]) (by simp[c_,results109]) U ⟨U,⟨d,A,h⟩,t⟩})
def l2(a:UInt8):mC:=⟨270,ag ch<|bg a,318,[a]⟩
def ev(s:ap):mC:=⟨204,aS s,313,s⟩
theorem ah5 (b a):(method 509 270 (ag ch b) "beacon/wire.writeTo").run aL a = .ok (318,ag ch b) a:=by kernel_rfl
theorem ah6 (s a):(method 509 204 (am s) "beacon/wire.writeTo").run aL a = .ok (313,am s) a:=by kernel_rfl
def ah7(b a):(callFunc 318 b).run aL a=.ok (.enter 318 b) a:=b6
def ah9(b a):(callFunc 313 b).run aL a=.ok (.enter 313 b) a:=b6
def sC(a):(l2 a).Ok:=
 ⟨ah5 _,ah7,λi e j k h l c d b g=>ah2 a c d b G⟩
def ka(s):(ev s).Ok:=
 ⟨ah6 _,ah9,λh e i j g k c d a b=>ah3 s c d a G (by simp[ev]at b;omega)⟩
def aO(a:Nat):UInt8:=UInt8.ofNat<|a/256
def cL(a:Nat):UInt8:=UInt8.ofNat a
def fB(a:Nat):mC:=⟨259,ag eO a,314,[aO a,cL a]⟩
theorem ah_ (b a):(method 509 259 (ag eO b) "beacon/wire.writeTo").run aL a = .ok (314,ag eO b) a:=by kernel_rfl
def aia(b a):(callFunc 314 b).run aL a=.ok (.enter 314 b) a:=b6
def aib(F:a<65536):IH 314 (ag eO a) [aO a,cL a]:=by
 intro l b H A k c i z B D;let q:=O i;let n:=O z;let y:=i.lt;go_in;go_wp21;let r:(a:Int)/256=(bg (aO a):Int):=by rw[aO,pB];omega
 let t:(a:Int)%256=(bg (cL a):Int):=dl;rw[r,t];let hnew:=cW c<|aZ #[cP 270<|ag ch<|bg<|aO a,cP 270<|ag ch<|bg<|cL a] 275;refine(Bw b (J c.1) 2 [l2<|aO a,l2<|cL a] k _ ((dv _ _ _ y).trans q) (n.alloc _) (by grind) ?_ ax G (bE ?_) ?_ ax ax ?_).mono ?_;{intro f g;simp at g;rcases g with rfl|rfl<;>exact sC _};{grind};{
 intro j h;match j,h with
 |0,_=>exact lL
 |1,_=>exact lL
 |j+2,h=>grind};{assumption};rintro C d ⟨rfl,⟨o,u,w⟩,x⟩;let p:ao ((∃e,ew d l e A/\gO d b e (k++[aO a,cL a]))/\lc l b c d):=⟨⟨o,u,w⟩,(lc.adJ<|cf cc bo _).trans x⟩;go_wp2;exact kh (v:=bZ #[]) (by simp[c_,results314]) U ⟨U,p⟩
def l3(a)(b:a<65536):(fB a).Ok:=⟨ah_ _,aia,aib b⟩
def se(a:Nat):mC:=⟨317,ag .u32 a,320,[aO<|a/65536,cL<|a/65536,aO<|a%65536,cL<|a%65536]⟩
theorem ahM (b a):(method 509 317 (ag .u32 b) "beacon/wire.writeTo").run aL a = .ok (320,ag .u32 b) a:=by kernel_rfl
def ahN(b a):(callFunc 320 b).run aL a=.ok (.enter 320 b) a:=b6
def ahO(F:a<4294967296):IH 320 (ag .u32 a) [aO<|a/65536,cL<|a/65536,aO<|a%65536,cL<|a%65536]:=by
 intro l b H A k c i z B D;let q:=O i;let n:=O z;let y:=i.lt;go_in;go_wp21;let r:(a:Int)/65536=((a/65536:Nat):Int):=G;let t:eO.wrap (a:Int)=((a%65536:Nat):Int):=dl;rw[r,t];let hnew:=cW c<|aZ #[cP 259<|ag eO (a/65536:Nat),cP 259<|ag eO (a%65536:Nat)] 275;refine(Bw b (J c.1) 2 [fB<|a/65536,fB<|a%65536] k _ ((dv _ _ _ y).trans q) (n.alloc _) (by grind) ?_ ax G (bE ?_) ?_ ax ax ?_).mono ?_;{intro f g;simp at g;rcases g with rfl|rfl<;>exact l3 _ G};{grind};{
 intro j h;match j,h with
 |0,_=>exact lL
 |1,_=>exact lL
 |j+2,h=>grind};{assumption};rintro C d ⟨rfl,⟨o,u,w⟩,x⟩;let p:ao ((∃e,ew d l e A/\gO d b e (k++[aO<|a/65536,cL<|a/65536,aO<|a%65536,cL<|a%65536]))/\lc l b c d):=⟨⟨o,u,w⟩,(lc.adJ<|cf cc bo _).trans x⟩;go_wp2;exact kh (v:=bZ #[]) (by simp[c_,results320]) U ⟨U,p⟩
def y1(b:a<4294967296):(se a).Ok:=⟨ahM _,ahN,ahO b⟩
def uD{base}(k:gO f base e h):(convert 53 9 e).run aL f=.ok (aS h) f:=by
 obtain⟨o,⟨rfl,l⟩|⟨d,v,i,rfl,p,a,t,r,u,w⟩⟩:=k;{obtain rfl:h=[]:=hq l;kernel_rfl};{
 refine Do (P:=aL) f 53 9 5 (N d 0) v h underlying53 underlying5 underlying9 λb q=>?_;let j:((N d 0):gU).add b=(N d b):=by grind[Addr.add]
 rw[j];let n:i.1[b]? = (h.map λg=>ag ch (bg g:Int))[b]?:=by{grind};simp only[aA,a];grind}
def IK{e d}(w)(i:∀f∈d,f.Ok)(p:a<J w.1)(u:∀b (x:b<E d),aA w (N a b)=ae (cP d[b].1 d[b].2))(q:E d<=e)(l:E d<=1000000)(z:E (d_ d)<=1000000):a_ aL 164 #[bL a 0 (E d) e] w (cI (aS<|d_ d) w):=by let r:=cW w<|aZ #[aE af 0 0,aE af 0 0] 258;let j:=O<|Bw (J w.1+1) a e d [] (aN w<|aZ #[aE af 0 0,aE af 0 0] 258) r (ih _ _ _ _) ax i (by grind) G (bJ G) (λb o=>(dR (w:=w) (dv _ _ _ p)).trans (u b o)) q l (by grind);go_in;go_wp21;refine j.m λF ⟨⟨B,k,g⟩,c⟩=>?_;let:=k.cells.1;have n:=uD g;let h:=O<|(cf cc bo _).trans ⟨c.1,c.2,c.3,c.4,λt y=>c.5 t ct G<|bJ G⟩;rw[iF]at n;obtain⟨A,D,C,rfl⟩:=oj g;go_wp2;go_ret;exact bd U h
def ci:Bool->ap->Nat
 |_,[]=>0
 |true,a::s=>bg a*256+ci ak s
 |false,a::s=>bg a+ci aD s
def ve(a:Bool)(b:Nat):Bool:=if b%2=0 then a else !a
def J1(b):ci b (h++o)=ci b h+ci (ve b<|E h) o:=by
 induction h generalizing b with
 |nil=>simp[ci,ve]
 |cons c h g=>{let e:ve b (E (c::h))=ve (!b) (E h):=by{grind[ve]};rw[e];cases b;{show bg c+ci aD (h++o)=bg c+ci aD h+_;grind};{show bg c*256+ci ak (h++o)=bg c*256+ci ak h+_;grind}}
def SA(a)(c)(d:E h%2=0):ci a (h++c)=ci a h+ci a c:=by rw[J1,ve,b8 d]
def hJ(a:Nat):Nat:=if a=0 then 0 else(a-1)%65535+1
def vf(a):hJ a<=65535:=by grind[hJ]
def SB(b a)(c:a<=65535):(hJ b+a)%65536+(hJ b+a)/65536=hJ (b+a):=by grind[hJ]
def J2(s:ap)(a)(b:a<E s):ci aD (be (a+1) s)=ci aD (be a s)+(if a%2=0 then s[a].toNat*256 else s[a].toNat):=by rw[g8 b,J1,iv,ro G,ve];split<;>simp[ci]
def aaL(b:a+1<E h)(c:a%2=0):ci aD (be (a+2) h)=ci aD (be a h)+(256*h[a].toNat+h[a+1].toNat):=by rw[J2 h (a+1) b,J2 h a G,b8 c,bV G];omega
section
attribute [local go_sem] Oper.semAt_some undef
def lK(c:ap)(d:List aK)(b:ap)(a:List aK):Bool:=
 fx b c && !(a.any (lJ 5)&&dC (1<E a))&&(b==c || !a.any (lJ 2)||nV d b)
def ln(c:ap)(a:List aK):Bool:=
 (dg c8 a).all (λb=>oL b.2)&&((dg eS a).all (λb=>lK c a (eF b) b.2)&&dC (0<E (jb (dF a c) 2)))
def ahT{ay:Nat}(e:fA f a ay i)(g:0<E i)(d:E i<=3001):a_ aL 84 #[bL a ay (E i)<|E i] f (cI (aG<|oL i) f):=by
 cases i with
 |nil=>simp at g
 |cons h b=>exact ahj e d bo
def ahU(c:Option gU)(e d:Nat)(a:aQ):a_ aL 85 #[aE c e d] a λg b=>g=bh (ez (.func 153) #[] #[bv<|J a.1])/\J b.1=J a.1+1/\a6 a b/\aA b (N (J a.1) 0)=ae (aE c e d):=by refine(I0 _ _ _ _).m ?_;rintro b rfl;exact⟨U,ax,cf cc bo _,by go_simp⟩
def Pm{ay:Nat}(A:Nat){w:aQ}(a9:fA w a ay i)(aB:E i<=A)(aR:E i<=3001)(cG:E o<=3000)(cn:∀r∈i,E r.owner<=3000):a_ aL 36 #[aS o,bL a ay (E i) A] w (cI (aG<|ln o i) w):=by
 refine(ec (n:=0)).1 (sm func36 U cy ?_);simp only[ntmps36,mA,dW,gG,Nat.reduceAdd,Nat.reduceSub,mx,mP,mR,mQ,iF,fN];let ah:=O a9;let bj:=O cn;let l:=a9.1;let bD:a6 w (aN (aN (aN w<|aZ #[am<|D o] 9)<|aZ #[aE (ae ⟨a,ay,af⟩) (E i) A] 77)<|aZ #[aG ak] 4):=((cf cc bo _).alloc ax _).alloc ct _;let cb:=O (show jy _ (bL a ay (E i) A) i from bE ⟨a,ay,A,U,aB,a9.below bD⟩);gi_wp2_with fail;refine⟨cy,U,(ec.2<|I2 cb).m λW2 ⟨bw,aP,bt,bu⟩=>?_⟩;let b8:=(((cx.qf _ _ _).alloc _).alloc _).below aP gB;let b_:cx W2 (J w.1+1) (bL a ay (E i) A) 77:=by
  have:=((cx.qf (aN w<|aZ #[am<|D o] 9) (bL a ay (E i) A) 77).alloc<|aZ #[aG ak] 4).below aP gB
  rwa [eE]at this
 let b0:cx W2 (J w.1+1+1) (aG ak) 4:=by
  have:=(cx.qf (aN (aN w<|aZ #[am<|D o] 9)<|aZ #[aE (ae ⟨a,ay,af⟩) (E i) A] 77) (aG ak) 4).below aP gB
  rwa [eE,eE]at this
 let bz:=bC bD<|bN aP gB;simp only[eE]at bw bt bu;gi_wp2_with fail;let cl:∀r,a6 W2 (aN (aN W2<|df<|ae [])<|dq r):=λr=>(cf cc bo _).alloc ax _;let cr:=O<|ah.below bz;refine wR (xs:=dg c8 i) (encs:=λb:Nat×List aK=>#[bL a (ay+b.1*4) (E b.2)<|E b.2]) (St:=λt u=>a6 t u) (Kp:=kC (J w.1+1+1+1) (J w.1+1+1+1+1) a) (Kx:=λ_ _=>True)
  (gf:=203) (lb:=#[bv<|J w.1+1+1+1,bv<|J w.1+1+1+1+1]) U (enters_of func203 b6 U) (λ_=>U) ?zf
  [J w.1+1+1+1,J w.1+1+1+1+1,a] ct (λt u cj g=>bN g cj) (λt u g a2=>⟨a2.1,g _ ax,g _ ax,g _ ax⟩) (λ_ _ _=>cy)
  (λR j=>(bi R<|dg c8 i).all (λb=>oL b.2)=(dg c8 i).all (λb=>oL b.2)/\a6 w j/\cx j (J w.1) (aS o) 9/\cx j (J w.1+1) (bL a ay (E i) A) 77/\cx j (J w.1+1+1) (aG ak) 4)
  (λX j=>X=.ret/\ln o i=ak/\a6 w j/\cx j (J w.1+1+1) (aG ak) 4)
  (λR t u g l=>⟨g.1,bC g.2.1<|bN l G,g.2.2.1.below l G,g.2.2.2.1.below l G,g.2.2.2.2.below l G⟩)
  (λX t u g l=>⟨g.1,g.2.1,bC g.2.2.1<|bN l G,g.2.2.2.below l G⟩)
  ⟨U,bz,b8,b_,b0⟩
  ?round ?done ?stop
 case zf=>
  intro r;let Q:=cl r;exact zf a ay A _ _ i _ ((Q.cell (p:=⟨J w.1+1+1+1,0,af⟩) Hl).trans bt) ((Q.cell (p:=⟨J w.1+1+1+1+1,0,af⟩) (by show J w.1+1+1+1+1<J W2.1;omega)).trans bu) (cr.below Q) (cd Q.4) (cd Q.4) aR aB
 ·intro k R b h j aI H ba;gi_wp2_with fail;refine bd cy ?_;let⟨Y,F,T,V,I⟩:=H;let Z:=pE aI;let a0:=xh (ah.below F) Z;let cA:=(qP Z).2.1;let co:=uW Z;have aH:=IL (p:=λb=>oL b.2) aI;rw[Y]at aH;let aq:=O aH;let bf:=O<|ahT a0 cA G;let K:=O T;let L:=O V;let aa:=O I;cases q:oL b.2
  ·let W:ao (ln o i=ak):=by rw[ln,ao,aq,q];rfl
   gi_wp2_with fail;refine⟨cy,U,(ij k<|ec.2 bf).m λe c=>?_⟩;have P:=aa.below c aa.lt;let b3:=P.cell;let b4:=P.frozen;replace P:=O P;gi_wp2_with fail;exact⟨(ea.Em c).trans<|ea.setCell e _ G,U,W,(bC F<|bN c F.4).setCell Ax _,P.set _⟩
  ·let W:ao ((bi (R+1)<|dg c8 i).all (λb=>oL b.2)=(dg c8 i).all λb=>oL b.2):=by rw[ao,aq,q];rfl
   gi_wp2_with fail;refine⟨cy,U,(ij k<|ec.2 bf).m λe c=>?_⟩;let b1:=O<|K.below c K.lt;let bP:=O<|L.below c L.lt;let bQ:=O<|aa.below c aa.lt;gi_wp2_with fail;exact⟨ea.Em c,λan hk=>c.5 an E_,W,bC F<|bN c F.4,b1,bP,bQ⟩
 case stop=>
  intro X j H az ba;obtain⟨rfl,ab,F,I⟩:=H;replace ab:=O ab;gi_wp2_with fail;refine bd ax<|bJ ⟨_,_,U,lf az,?_⟩;let aw:=(I.put (d:=J W2.1) (o:=df af) G).cell;let cu:=bC F<|belowK_b (w:=W2) (show J w.1<=J W2.1 by omega) j _ _ (df af) bo az U U;exact⟨aG ak,by simp[c_,results36,go_sem,aw],by rw[ab],cu⟩
 case done=>
  intro j H az ba;let⟨Y,F,T,V,I⟩:=H;let a8:(dg c8 i).all (λb=>oL b.2)=aD:=by
   rw[<-Y,pT bo];rfl
  let bm:ao (ln o i=((dg eS i).all (λb=>lK o i (eF b) b.2)&&dC (0<E (jb (dF i o) 2)))):=by rw[ln,ao,a8];rfl
  let bV:=V.cell;let K:=O T;let L:=O V;let aa:=O I;gi_wp2_with fail;refine⟨cy,U,(ec.2<|ahU _ _ _ _).m λx ⟨bB,aj,ca⟩=>?_⟩;rw[bw]at az ba;let bR:=F.4;let cw:=O<|(ah.below F).below aj;let bH:=O<|K.below aj K.lt;let bI:=O<|L.below aj L.lt;let bK:=O<|aa.below aj aa.lt;gi_wp2_with fail;let bW:∀r,a6 x (aN (aN x<|df<|ae [])<|dq r):=λr=>(cf cc bo _).alloc ax _;let bX:∀r,J (aN (aN x<|df<|ae [])<|dq r).1=J x.1+2:=λr=>by simp
  refine wR (xs:=dg eS i) (encs:=λb:Nat×List aK=>#[aS<|eF b,bL a (ay+b.1*4) (E b.2)<|E b.2]) (St:=λt u=>cv (J x.1+2) t u) (Kp:=λt u=>u.1[a]? = t.1[a]?/\ea (J x.1+2) t u) (Kx:=λt u=>ea (J x.1+2) t u)
   (gf:=153) (lb:=#[bv<|J j.1]) U (enters_of func153 b6 U) (λ_=>U) ?seq2
   [a] ct (λ_ _ _ g=>g) (λt u g a2=>bd (g _ ax) a2) (λ_ _ g=>g)
   (λR h=>(bi R<|dg eS i).all (λb=>lK o i (eF b) b.2)=(dg eS i).all (λb=>lK o i (eF b) b.2)/\a6 w h/\cx h (J w.1) (aS o) 9/\cx h (J w.1+1) (bL a ay (E i) A) 77/\cx h (J w.1+1+1) (aG ak) 4/\h.1[J w.1+5]? = ae (df<|ae []))
   (λX h=>X=.ret/\ln o i=ak/\a6 w h/\cx h (J w.1+1+1) (aG ak) 4/\h.1[J w.1+5]? = ae (df<|ae []))
   (λR t u g l=>⟨g.1,bC g.2.1<|bN l G,g.2.2.1.below l G,g.2.2.2.1.below l G,g.2.2.2.2.1.below l G,(l.5 _ G).trans g.2.2.2.2.2⟩)
   (λX t u g l=>⟨g.1,g.2.1,bC g.2.2.1<|bN l G,g.2.2.2.1.below l G,(l.5 _ G).trans g.2.2.2.2⟩)
   ⟨U,bC F<|bN aj bR,bH,bI,bK,(aj.5 _ G).trans az⟩
   ?aAd ?done2 ?stop2
  case seq2=>
   intro r;let Q:=bW r;have:=I1 ((Q.cell (p:=⟨J j.1,0,af⟩) (by show J j.1<J x.1;omega)).trans ca) (cw.below Q) (cd Q.4) aR aB;rw[bX r]at this;exact this
  case aAd=>
   intro k R b cD h aI H aX;gi_wp2_with fail;refine bd cy ?_;let⟨Y,B,T,V,I,aC⟩:=H;let Z:=pE aI;let a0:=xh (ah.below B) Z;let co:=uW Z;let⟨r,bO,cp⟩:=PM Z;let cs:=cp▸bj r bO
   have aH:=IL (p:=λb=>lK o i (eF b) b.2) aI;rw[Y]at aH;let aq:=O aH;let bS:=T.cell;let K:=O T;let L:=O V;let C:=O I;let aU:=O aC;let b2:=O a0;let ad:ao (a_ aL 86 #[aS<|eF b,aS o] h λbs cC=>bs=bh (aG<|fx (eF b) o)/\cC=h):=
    AZ (D<|eF b) (D o) h lv lv
   let aW:ao (lK o i (eF b) b.2=ak->∀e,a6 h e->ea (J x.1) h (a7 e ⟨J w.1+1+1,0,af⟩<|aG ak)/\ln o i=ak/\a6 w (a7 e ⟨J w.1+1+1,0,af⟩<|aG ak)/\cx (a7 e ⟨J w.1+1+1,0,af⟩<|aG ak) (J w.1+1+1) (aG ak) 4/\(a7 e ⟨J w.1+1+1,0,af⟩<|aG ak).1[J w.1+5]? = ae (df<|ae [])):=by
    intro q e c;let W:ln o i=ak:=by rw[bm,aq,q];rfl
    exact⟨(ea.Em c).trans<|ea.setCell e _ G,W,(bC B<|bN c B.4).setCell Ax _,(C.below c C.lt).set _,(dr _ _ _ _ (by show J w.1+5≠J w.1+1+1;omega)).trans<|(c.5 _ G).trans aU⟩
   let aV:ao (lK o i (eF b) b.2=aD->∀e,a6 h e->ea (J x.1) h e/\(∀an∈[a],e.1[an]? = h.1[an]?)/\((bi (R+1)<|dg eS i).all (λb=>lK o i (eF b) b.2)=(dg eS i).all (λb=>lK o i (eF b) b.2)/\a6 w e/\cx e (J w.1) (aS o) 9/\cx e (J w.1+1) (bL a ay (E i) A) 77/\cx e (J w.1+1+1) (aG ak) 4/\e.1[J w.1+5]? = ae (df<|ae []))):=by
    intro q e c;exact⟨ea.Em c,λan hk=>c.5 an E_,by rw[aq,q];rfl,bC B<|bN c B.4,K.below c K.lt,L.below c L.lt,C.below c C.lt,(c.5 _ G).trans aU⟩
   let S:ao (∀e,a6 h e->bY e (J w.1) 0 (aS o)/\bY e (J w.1+1) 0 (bL a ay (E i) A)/\bY e (J w.1+1+1) 0 (aG ak)/\gd e (N (J w.1+1+1) 0)=ak):=λe c=>
    ⟨(K.below c K.lt).cell,(L.below c L.lt).cell,(C.below c C.lt).cell,(C.below c C.lt).frozen⟩
   let aY:ao (∀e,a6 h e->jy e (bL a (ay+b.1*4) (E b.2)<|E b.2) b.2):=λe c=>bE ⟨a,ay+b.1*4,E b.2,U,cO _,b2.below c⟩;let bT:ao (∀e,a6 h e->fA e a ay i):=λe c=>(ah.below B).below c;have bF:((D<|eF b).toList==(D o).toList)=(eF b==o):=uV;cases bb:fx (eF b) o
   ·have q:lK o i (eF b) b.2=ak:=by rw[lK,bb];rfl
    let y:=O<|aW q h cc;let⟨_,_,b3,b4⟩:=S h cc;gi_wp2_with fail;refine⟨cy,U,(ij k<|ec.2 ad).m ?_⟩;rintro h rfl;gi_wp2_with fail;refine bd cy ?_;gi_wp2_with fail;exact⟨y.1,U,y.2⟩
   cases z:b.2.any (lJ 5)&&dC (1<E b.2)
   ·let aT:ao (lK o i (eF b) b.2=(eF b==o || !b.2.any (lJ 2)||nV i (eF b))):=by rw[lK,bb,z];rfl
    have aM:(b.2.any (lJ 5)=ak)\/(b.2.any (lJ 5)=aD/\(E b.2:Int)<=1):=by
     cases cm:b.2.any<|lJ 5
     ·exact yu
     ·rw[cm]at z;simp at z;exact bE<|bd U G
    let ac:=O λe (g:a6 h e)=>IU 5 (aY e g) G;let bc:=O λe (g:a6 h e)=>IU 2 (aY e g) G;let bl:=O λe (g:a6 h e)=>ahS (bT e g) aB aR cs bj;cases al:eF b==o
    ·rw[al]at bF;cases a3:b.2.any<|lJ 2
     ·have q:=O (show lK o i (eF b) b.2=aD by rw[aT,al,a3];rfl);rcases aM with z|⟨z,aO⟩
      all_goals
       gi_wp2_with fail;refine⟨cy,U,(ij k<|ec.2 ad).m ?_⟩;rintro h rfl;gi_wp2_with fail;refine⟨cy,U,(ij k<|ec.2<|ac _ cc).m λe c=>?_⟩;let cS:=S e c;gi_wp2_with fail;refine⟨cy,U,(ij k<|ec.2<|bc _ c).m λav aF=>?_⟩;let y:=O<|aV q av<|bC c<|bN aF c.4;gi_wp2_with fail;refine bd cy ?_;gi_wp2_with fail;exact y
     ·cases bp:nV i<|eF b
      ·have q:=O (show lK o i (eF b) b.2=ak by rw[aT,al,a3,bp];rfl);rcases aM with z|⟨z,aO⟩
       all_goals
        gi_wp2_with fail;refine⟨cy,U,(ij k<|ec.2 ad).m ?_⟩;rintro h rfl;gi_wp2_with fail;refine⟨cy,U,(ij k<|ec.2<|ac _ cc).m λe c=>?_⟩;let cS:=S e c;gi_wp2_with fail;refine⟨cy,U,(ij k<|ec.2<|bc _ c).m λav aF=>?_⟩;let M:=bC c<|bN aF c.4;let cg:=S av M;gi_wp2_with fail;refine⟨cy,U,(ij k<|ec.2<|bl _ M).m λaJ a1=>?_⟩;let bq:=bC M<|bN a1 M.4;have:=S aJ bq;let y:=O<|aW q aJ bq;gi_wp2_with fail;exact⟨y.1,U,y.2⟩
      ·have q:=O (show lK o i (eF b) b.2=aD by rw[aT,al,a3,bp];rfl);rcases aM with z|⟨z,aO⟩
       all_goals
        gi_wp2_with fail;refine⟨cy,U,(ij k<|ec.2 ad).m ?_⟩;rintro h rfl;gi_wp2_with fail;refine⟨cy,U,(ij k<|ec.2<|ac _ cc).m λe c=>?_⟩;let cS:=S e c;gi_wp2_with fail;refine⟨cy,U,(ij k<|ec.2<|bc _ c).m λav aF=>?_⟩;let M:=bC c<|bN aF c.4;let cg:=S av M;gi_wp2_with fail;refine⟨cy,U,(ij k<|ec.2<|bl _ M).m λaJ a1=>?_⟩;let y:=O<|aV q aJ<|bC M<|bN a1 M.4;gi_wp2_with fail;exact y
    ·rw[al]at bF;have q:=O (show lK o i (eF b) b.2=aD by rw[aT,al];rfl);rcases aM with z|⟨z,aO⟩
     all_goals
      gi_wp2_with fail;refine⟨cy,U,(ij k<|ec.2 ad).m ?_⟩;rintro h rfl;gi_wp2_with fail;refine⟨cy,U,(ij k<|ec.2<|ac _ cc).m λe c=>?_⟩;let cS:=S e c;let y:=O<|aV q e c;gi_wp2_with fail;refine bd cy ?_;gi_wp2_with fail;refine bd cy ?_;gi_wp2_with fail;exact y
   ·have q:=O (show lK o i (eF b) b.2=ak by rw[lK,bb,z];rfl);rw[e9]at z;let⟨cF,bM⟩:=z;let aO:1<(E b.2:Int):=by simp at bM;omega
    let ac:=O<|IU 5 (aY h cc) G;gi_wp2_with fail;refine⟨cy,U,(ij k<|ec.2 ad).m ?_⟩;rintro h rfl;gi_wp2_with fail;refine⟨cy,U,(ij k<|ec.2 ac).m λe c=>?_⟩;let cS:=S e c;let y:=O<|aW q e c;gi_wp2_with fail;exact⟨y.1,U,y.2⟩
  case stop2=>
   intro X h H ar aX;obtain⟨rfl,ab,B,I,aC⟩:=H;replace ab:=O ab;gi_wp2_with fail;refine bd ax<|bJ ⟨_,_,U,lf ar,?_⟩;let au:=(jB (w:=h) (o:=df af) (show J w.1+5≠J x.1 by omega)).trans aC;refine bd ax<|bJ ⟨_,_,U,lf au,?_⟩;let aw:=((I.put (d:=J x.1) (o:=df af) G).put (d:=J w.1+5) (o:=df af) G).cell;let a4:=bC B<|belowK_b (w:=x) (show J w.1<=J x.1 by omega) h _ _ (df af) bo ar U U;let a5:=bC a4<|belowK_b (w:=w) bo _ (J w.1+5) _ (df af) G au U U;exact⟨aG ak,by simp[c_,results36,go_sem,aw],by rw[ab],a5⟩
  case done2=>
   intro h H ar aX;rw[bB]at ar aX;let⟨Y,B,T,V,I,aC⟩:=H;let a8:(dg eS i).all (λb=>lK o i (eF b) b.2)=aD:=by
    rw[<-Y,pT bo];rfl
   let W:ao (ln o i=dC (0<E (jb (dF i o) 2))):=by rw[ao,bm,a8];rfl
   let bS:=T.cell;let bV:=V.cell;let bU:=O<|ah.below B;let C:=O I;let aU:=O aC;gi_wp2_with fail;refine⟨cy,U,(ec.2<|PS o 2 bU aB aR).mono ?_⟩;rintro bs bn ⟨⟨v,rfl,cq⟩,c⟩;obtain⟨cE,cB,rfl⟩:=cq.slice;have P:=C.below c C.lt;let ci:=O P;let bG:=O c;have:=P.cell;have:=P.frozen;gi_wp2_with fail;let c:=bG
   first|rw[bB]|skip
   let br:(a7 bn ⟨J w.1+1+1,0,af⟩<|aG<|dC<|0<E (jb (dF i o) 2)).1[(J j.1+1)]? = ae (df<|ae []):=
    (dr _ _ _ _ (by show(J j.1+1)≠J w.1+1+1;omega)).trans ((c.5 _ (by show(J j.1+1)<J h.1;omega)).trans ar)
   refine bd ax<|bJ ⟨_,_,U,lf br,?_⟩;let au:((a7 bn ⟨J w.1+1+1,0,af⟩<|aG<|dC<|0<E (jb (dF i o) 2)).putObj (J j.1+1)<|df af).1[J w.1+5]? = ae (df<|ae []):=
    (jB G).trans ((dr _ _ _ _ (by show J w.1+5≠J w.1+1+1;omega)).trans<|(c.5 _ (by show J w.1+5<J h.1;omega)).trans aU)
   refine bd ax<|bJ ⟨_,_,U,lf au,?_⟩;let aw:=(((ci.set<|aG<|dC<|0<E (jb (dF i o) 2)).put (d:=(J j.1+1)) (o:=df af) G).put (d:=J w.1+5) (o:=df af) G).cell;let ck:=(bC B<|bN c B.4).setCell (p:=⟨J w.1+1+1,0,af⟩) Ax (aG<|dC<|0<E (jb (dF i o) 2));let a4:=bC ck<|belowK_b (w:=j) (show J w.1<=J j.1 by omega) _ _ _ (df af) (Nat.le_succ _) br U U;let a5:=bC a4<|belowK_b (w:=w) bo _ (J w.1+5) _ (df af) G au U U;refine⟨_,by simp[c_,results36,go_sem,aw];rfl,e_ ?_,a5⟩;rw[W]
end
section
open Go.RowKit Go.Sort
def ck(a:List aK):List aK:=(Sort.insertionSort (ltOf mf) (c7 a) 0<|E a).1
def PG{h:Array bk}(k:f.1[a]? = ae (aZ h z))(n:fA f a 0 i):HoldsK aK.bz 4 f a 0 (c7 i):=by
 intro b hj;rw[size_flatK]at hj;simp only[mA]at hj;rw[get_flatK _ _ _ _ AA];refine⟨?_,by simp[World.frozen?,k]⟩;let g:b/4<E i:=G;let l:E (aK.bz i[b/4]!)=4:=U;let j:(aK.bz i[b/4]!)[b%4]? = ae (aK.bz i[b/4]!)[b%4]!:=by{
 let e:b%4<E (aK.bz i[b/4]!):=by rw[l];omega
 rw[fs e,yT (aK.bz i[b/4]!) (b%4) e]};have:=n.2 (b/4) g (b%4) _ j;rw[show 0+b/4*4+b%4=0+b from G]at this;rw[this];simp
def WG(o:a<J f.1)(j:HoldsK aK.bz 4 f a 0<|c7 i):fA f a 0 i:=by
 refine bd o<|λb hj d p e=>?_;let aO:d<4:=by let:=(iW.1 e).1;exact this
 let n:=(j.cell (i:=b) (c:=d) AA aO).1;rw[n];let h:(c7 i)[b]! = i[b]!:=ax;rw[h];rw[iW]at e;let⟨k,l⟩:=e;rw[yT (aK.bz i[b]!) d k,l]
def WH(gX ay size:Nat)(a:aQ):CmpLays aL 79 #[] aK.bz 4 mf gX ay size a:=
 λ_ _ _ _ b c=>Eg b c _
def IM(d:aK->aK->Bool)(c:Nat):∀(b:Nat) (a:Array aK),J (insInner d c b a)=J a
 |0,a=>U
 |b+1,a=>by rw[insInner];split;{rw[IM d c b,size_swp]};{rfl}
def Qm(e:aK->aK->Bool)(d c:Nat):∀(f b:Nat) (a:Array aK),c-b<=f->J (insOuter e d c b a)=J a
 |0,b,a,g=>by rw[insOuter,bV G]
 |f+1,b,a,g=>by rw[insOuter];split;{rw[Qm e d c f _ _ G,IM]};{rfl}
def Eh(d:aK->aK->Bool)(a:Array aK)(b c:Nat):J (Sort.insertionSort d a b c)=J a:=Qm d b c _ _ a bo
def Qo(a:List aK):E (ck a)=E a:=by rw[ck,p6,Eh];simp
def WI{g:aK->Prop}{c:Array aK}(e:∀b,b<J c->g c[b]!){d:Nat}(aO:a<J c)(i:d<J c):∀b,b<J (swp c a d)->g (swp c a d)[b]!:=by
 intro b hk;rw[size_swp]at hk;unfold swp;let h:b<J (c.setIfInBounds a c[d]!):=Cx
 let j:b<J ((c.setIfInBounds a c[d]!).setIfInBounds d c[a]!):=Cx
 rw[yT _ b j,O_ h];split;{exact e a aO};{rw[O_ hk];split;{exact e d i};{rw[<-yT c b hk];exact e b hk}}
def Qp{h:aK->Prop}(g:aK->aK->Bool)(e:Nat):∀(b:Nat) (a:Array aK),b<J a->(∀c,c<J a->h a[c]!)->∀c,c<J (insInner g e b a)->h (insInner g e b a)[c]!
 |0,a,_,d=>d
 |b+1,a,i,d=>by rw[insInner];split;{exact Qp g e b _ (by rw[size_swp];omega)<|WI d i G};{exact d}
def Qs{p:aK->Prop}(h:aK->aK->Bool)(e c:Nat):∀(f b:Nat) (a:Array aK),c-b<=f->c<=J a->(∀d,d<J a->p a[d]!)->∀d,d<J (insOuter h e c b a)->p (insOuter h e c b a)[d]!
 |0,b,a,j,i,g=>by rw[insOuter,bV G];exact g
 |f+1,b,a,j,i,g=>by rw[insOuter];split;{exact Qs h e c f _ _ G (by rw[IM];exact i)<|Qp h e b a G g};{exact g}
def WJ{p:aK->Prop}(g:∀c∈i,p c):∀c∈ck i,p c:=by
 intro c a;obtain⟨b,hk,rfl⟩:=List.getElem_of_mem a;let e:b<J (Sort.insertionSort (ltOf mf) (c7 i) 0<|E i):=by unfold ck at hk;simpa using hk
 let:=Qs (p:=p) (ltOf mf) 0 (E i) _ 1 (c7 i) bo ax (λb hk=>by{
 let h:b<E i:=Cx
 let d:(c7 i)[b]! = i[b]:=by simp[h]
 rw[d];exact g _<|ei _}) b e
 let d:(ck i)[b]=(Sort.insertionSort (ltOf mf) (c7 i) 0<|E i)[b]!:=by{unfold ck;rw[yT _ b e];simp};exact d▸this
def WK{c i:Nat}{g:Array aK}{d:Array Obj}(j:cv a f m)(l:a<=c)(k:a<=J m.1):cv a f (e7 aK.bz 4 m c 0 i g d):=by refine bC j ⟨U,U,U,?_,λh n=>?_⟩;{exact size_sortWorldK_c aK.bz 4 m c 0 i g d};{show((m.1.modify c _)++d)[h]? = m.1[h]?;rw[Array.getElem?_append_left (by rw[Array.size_modify];omega),ru,bV G]}
end
def jE(b:ap):Option (ap×List aK):=
 (jm b).bind λa=>if lO a.1 a.2&&ln a.1 (ck a.2)then ae (a.1,ck a.2)else af
def WL(a:Option<|ap×List aK)(c:Nat)(d:Ending)(i:aQ):Prop:=
 match a with
 |none=>d=bh (bZ #[cz af,M 1])
 |some (a,h)=>∃b e g,d=bh (bZ #[bv b,M 0])/\c<=b/\c<=e/\gJ i b a e 0 g h
def LK(s:ByteArray)(a:aQ)(c:b7 s<=281474976710656):a_ aL 33 #[am s] a (cI (am s) a):=by go_in;go_wp21;refine(Tryz.stringslite_Clone s a c).m λd b=>?_;go_wp2;go_ret;exact bd U b
def WM{ay e d:Nat}:a_ aL 37 #[aS h,bL a ay e d] f λc b=>c=bh (bv<|J f.1)/\a6 f b/\J f.1<J b.1/\aA b (N (J f.1) 0)=ae (aS h)/\aA b (N (J f.1) 1)=ae (bL a ay e d):=by go_wp2;go_ret;exact⟨U,cf cc bo _,ax,by go_simp,by go_simp⟩
def Qt(h:qO f a e i)(n:i≠[]):∃b c d,e=bL b 0 (E i) c/\a<=b/\f.1[b]? = ae (aZ d 83)/\E i<=c/\fA f b 0 i:=by have r:=h.rv;let⟨⟨x,q⟩,o⟩:=h;rcases q with⟨rfl,w⟩|⟨b,c,d,rfl,k,j,l,y,z,A⟩;{exact absurd (o.1 U) n};{refine⟨b,c,d,U,k,j,l,?_⟩;rcases r with⟨v,_⟩|⟨t,B,u,v,_,p⟩;{cases v};{cases v;exact p}}
def oM(a:List aK):Bool:=E a==1&&(a.headD aK.zero).type==5
def lP(c:ap)(b:List aK)(a:ap):Int:=if(fm c b a).length=0 then(if(d3 b a).2 then 0 else 3)else 0
def mv(d:ap)(b:List aK)(c:Int)(a:ap):List aK:=if(fm d b a).length=0 then(if(d3 b a).2 then kZ c (d3 b a).1 else [])else []
def nf(c:ap)(a:List aK)(d:Int)(b:ap):List aK:=
 if(fm c a b).length=0 then(if(d3 a b).2 then(if tw d (d3 a b).1 then []else jw c a)else jw c a)else fm c a b
def Qu(k:jy f e i)(r:E i<=3001):a_ aL 230 #[e] f λh l=>h=bh (aG<|oM i)/\l=f:=by
 rcases k with⟨rfl,rfl⟩|⟨n,ay,q,rfl,a,j⟩;{go_wp2;go_ret;exact oa};{
 by_cases d:E i=1;{
 obtain⟨c,rfl⟩:=DI.1 d;let⟨o,bG,g,p⟩:=j.four 0 ax;simp only[o7,h8,eB]at g;let b:ao (oM [c]=(c.type==5)):=by rw[oM,ao];simp
 simp only[dW,gG]at a⊢;go_wp2;go_ret;exact bd (e_<|b5 b) U};{
 let b:ao (oM i=ak):=by rw[oM,ao,ju.2 d];rfl
 let t:((E i:Int)==1)=ak:=iQ
 go_wp2;go_ret;exact bd (e_<|b5 b) U}}
def Qv(h:ap)(b:List aK)(g:ap):E (fm h b g)<=E b:=by
 unfold fm;generalize he (λe=>!(e==h)) (dU g)=a;let:∀(a:List ap) (c:List aK),E c<=E b->E (a.foldl (nn b) c)<=E b:=by{
 intro a;induction a with
 |nil=>intro c d;exact d
 |cons e j i=>{intro c d;rw[DH];refine i _ ?_;unfold nn;split;{exact d};{exact cJ (Da _ _)<|A4 _ _}}};exact this a [] ax
def WN(b:Nat)(a)(n:b<=10000):a_ aL 233 #[bX,M b] a λd c=>∃v,d=bh v/\dH c (J a.1) v []/\a6 a c:=by let⟨k,aO,j,o,p⟩:=im vY;by_cases h:b=0;{subst h;refine(Any8.slices_Grow_room Tryz.al1 af 0 0 0 a bo G G G).m ?_;rintro c rfl;exact⟨_,U,ih _ _ _ _,cU _ _⟩};{refine(Any8.slices_Grow_grow Tryz.al1 k _ aO j G af 0 0 b [] a bo G (by grind) G ax (λ_=>U) λl g=>by cases g).m ?_;rintro c rfl;let:=Dk a (0+b) 0<|Tryz.adL.2 25;let i:=grownCap_le_maxLen a (0+b) 0 (Tryz.adL.2 25) up;refine⟨_,U,bd U<|bE ⟨J a.1,_,_,U,cO _,Dl (bx a) _,dJ _,i,?_,U⟩,(cc.drew).alloc bo _⟩;let e:J (Value.cells<|ce #[am ⟨#[]⟩,ag ai 0,ag ai 0,am ⟨#[]⟩])=4:=U;rw[Array.size_append,Array.size_append,size_zeroCells,size_zeroCells,e];grind}
def Qw(g:dH f a e i)(t:jy f r p)(h:a<=J f.1)(q:E i+E p<=100000):∃c b,(Builtin.append_ #[77,77] 77 #[e,r]).run aL f=.ok c b/\dH b a c (i++p)/\cv a f b:=by rcases t with⟨rfl,rfl⟩|⟨y,ay,k,rfl,z,w⟩;{let⟨u,aO,A,B,C⟩:=im vY;exact⟨e,f,run_append_owned_none (P:=aL) (w:=f) a 77 77 83 u 4 ym aO e _ _ g,by grind,cU _ _⟩};{let⟨c,b,l,n,o,_⟩:=IF k g w h q;exact⟨c,b,l,n,(cU _ f).grown o h λx j=>(g.Ya x j).1⟩}
def uw{d g rest a b i}(hgd:a.6=af)(s l)(c:dP)(ho:a.2=.call {callee:=.builtin .append,args:=#[s,l],argTypes:=#[c,c]})(hs:b.eval s=e)(hx:b.eval l=r)(hr:(Builtin.append_ #[c,c] a.3 #[e,r]).run d f=.ok C m)(h:wpList d g i rest (b.put a.1 C) m):wpList d g i (a::rest) b f:=by exact MK
def WO(d)(x:d<J f.1)(H:aA f (N d 0)=ae e)(I:aA f (N d 1)=ae r)(u:jy f e i)(w:jy f r p)(L:E i<=4000)(W:E p<=4000):a_ aL 189 #[bL d 0 2 2] f λt g=>∃v,t=bh v/\dH g (J f.1) v (i++p)/\a6 f g:=by
 let F:=O u;let A:=O w;obtain⟨P,R,rfl⟩:=xi u;obtain⟨Q,S,rfl⟩:=xi w;let B:=O<|WN (E i+E p) f G;go_wp2;go_loop [3,11] (λq c=>(q=M 0/\c=M 0)\/(q=M (E i)/\c=M 1)\/(q=M ((E i+E p:Nat):Int)/\c=M 2)) λ_ c=>2-cM (fj c);·simp
 ·(
 rcases hrel with⟨rfl,rfl⟩|⟨rfl,rfl⟩|⟨rfl,rfl⟩;{
 go_wp2;go_round;·simp
 ·simp[fj]};{
 go_wp2;go_round;·simp
 ·simp[fj]};{
 go_wp21;refine B.mono ?_;rintro t V ⟨T,rfl,n,K⟩;replace n:=O n;go_wp2;go_loopw [6,27] (λv c wr=>(c=M 0/\dH wr (J f.1) v []/\a6 f wr)\/(c=M 1/\dH wr (J f.1) v i/\a6 f wr)\/(c=M 2/\dH wr (J f.1) v (i++p)/\a6 f wr)) λ_ c _=>2-cM (fj c);·exact bJ ⟨U,n,K⟩
 ·(
 rcases hrel with⟨rfl,a,b⟩|⟨rfl,a,b⟩|⟨rfl,a,b⟩;{
 let⟨h,g,o,j,l⟩:=Qw a (F.below b) b.4 (by grind);obtain⟨C,D,rfl⟩:=a.slice;let:=(b.cell (p:=⟨d,0,af⟩) x).trans H;let k:ao (dH g (J f.1) h i/\a6 f g):=bd j<|bC b l;go_wp2_with (at_builtin;refine uw U _ _ 77 U U U o ?_);go_roundw;·exact bE<|bJ ⟨dd,k⟩
 ·simp[fj]};{
 let⟨h,g,o,j,l⟩:=Qw a (A.below b) b.4 G;obtain⟨C,D,rfl⟩:=a.slice;let:=(b.cell (p:=⟨d,1,af⟩) x).trans I;let k:ao (dH g (J f.1) h (i++p)/\a6 f g):=bd j<|bC b l;go_wp2_with (at_builtin;refine uw U _ _ 77 U U U o ?_);go_roundw;·exact bE<|bE ⟨dd,k⟩
 ·simp[fj]};{replace a:=O a;go_wp2;go_ret;exact⟨_,U,a,b⟩})})
section
open Go.RowKit Go.Conc
def np(a:aQ)(c b:Nat)(e:Bool):Prop:=
 c<J a.1/\aA a (N c 0)=ae (.chan<|ae b)/\∃s d g,a.1[b]? = ae (.chan 0 #[] e s d g)
def np.below{b n}(k:np f b a H)(c:cv n f m)(l:b<n)(o:a<n):np m b a H:=by let⟨h,i,s,q,r,j⟩:=k;exact⟨eA h c.4,(c.cell (p:=⟨b,0,af⟩) l).trans i,s,q,r,(c.5 a o).trans j⟩
def np.lt{d}(b:np f d a H):a<J f.1:=by let⟨_,_,_,_,_,b⟩:=b;grind
def WP:∃a,aL.info? 332=ae a/\a.4=0:=by have:(aL.info? 332).map (·.bytes)=ae 0:=b6;simp_all
def WQ(w):(Instr.makeChan 294<|M 0).run aL w=.ok (.chan<|ae<|J w.1) (aN w<|.chan 0 #[] ak 0 0 ak):=by let⟨b,aO,a⟩:=WP;simpa using run_makeChan (P:=aL) (w:=w) Tryz.underlying294 aO ai 0 G (by rw[a];omega)
def WR:a_ aL 134 #[] f λe d=>∃b c,e=bh (bv b)/\np d b c ak/\J f.1<=b/\J f.1<=c/\b≠c/\a6 f d:=by let:=WQ;go_wp2;go_ret;exact⟨_,J f.1,U,⟨ax,by go_simp,0,0,ak,(dv _ _ _ ax).trans<|cW f _⟩,G,cO _,G,(cf cc bo _).alloc ax _⟩
def WS{c}(e:np f a c ak):a_ aL 187 #[bv a] f λd w'=>d=bh (aG ak)/\w'=f:=by let⟨j,i,s,k,l,g⟩:=e;refine calls_of_loneTo λh=>?_;have d:Frame.enter aL 187 #[bv a] .normal=(base 187).at ⟨#[bv a,e8,e8,e8,e8,e8,e8,e8,e8,e8],[]⟩ [.code<|Tryz.f187.9.getD .skip]:=by{rfl};rw[d];refine LoneTo.goes (n:=13) ?_;simp only[Tryz.f187,Dg];s_c stepG_seq;s_reg;s_op;s_c stepG_region_end;s_c stepG_seq;s_reg;s_op;s_op;s_op;s_op;s_c stepG_region_end;s_c stepG_seq;s_reg;s_stop;refine LoneTo.step (step_lone_select_default (c:=c) (z:=ce #[]) (stepG_comm (cases:=#[rcase c<|ce #[]]) (blocking:=ak) (shape:=.select) (w':=f) U U bW (by simp[go_sem,execOp,rcase,Act.eval])) g) ?_;rw[Frame.finish_at];walk_nrm;refine LoneTo.goes (n:=10) ?_;s_op;s_op;s_c stepG_region_end;s_c stepG_block;s_cond ak;s_c stepG_seq;s_reg;s_op;s_c stepG_region_end;s_c stepG_ret';s_stop;refine LoneTo.done ⟨bh<|aG ak,_,U,bd U U,U,U,U,U,_,Tryz.func187,by simp[c_,Tryz.f187,Frame.at]⟩
def WT{c}(e:np f a c aD):a_ aL 187 #[bv a] f λd w'=>d=bh (aG aD)/\w'=f:=by let⟨j,i,s,k,l,g⟩:=e;refine calls_of_loneTo λh=>?_;have d:Frame.enter aL 187 #[bv a] .normal=(base 187).at ⟨#[bv a,e8,e8,e8,e8,e8,e8,e8,e8,e8],[]⟩ [.code<|Tryz.f187.9.getD .skip]:=by{rfl};rw[d];refine LoneTo.goes (n:=13) ?_;simp only[Tryz.f187,Dg];s_c stepG_seq;s_reg;s_op;s_c stepG_region_end;s_c stepG_seq;s_reg;s_op;s_op;s_op;s_op;s_c stepG_region_end;s_c stepG_seq;s_reg;s_stop;refine LoneTo.step (step_lone_select_recv_shut (c:=c) (z:=ce #[]) (stepG_comm (cases:=#[rcase c<|ce #[]]) (blocking:=ak) (shape:=.select) (w':=f) U U bW (by simp[go_sem,execOp,rcase,Act.eval])) g) ?_;rw[Frame.finish_at];walk_nrm;refine LoneTo.goes (n:=10) ?_;s_op;s_op;s_c stepG_region_end;s_c stepG_block;s_cond aD;s_c stepG_seq;s_reg;s_op;s_c stepG_region_end;s_c stepG_ret';s_stop;refine LoneTo.done ⟨bh<|aG aD,_,U,bd U U,U,U,U,U,_,Tryz.func187,by simp[c_,Tryz.f187,Frame.at]⟩
def Ei{e}(d:np f a e H):a_ aL 187 #[bv a] f λg h=>g=bh (aG H)/\h=f:=by cases H;{exact WS d};{exact WT d}
def WV{b}(d:np f a b ak)(r:a≠b):a_ aL 258 #[bv a] f λo e=>(∃v,o=bh v)/\np e a b aD/\(∀w,w≠b->e.1[w]? = f.1[w]?)/\J e.1=J f.1/\∀g,g<=b->cv g f e:=by have n:=O<|Ei d;have p:=d.2.1;have:=d.1;let⟨s,j,k,i⟩:=d.2.2;have:=λl t=>run_close_open (P:=aL) (w:=f) l t i;go_in;go_wp21;refine n.m ?_;rintro f rfl;go_wp2;go_end0;have h:∀w,w≠b->(f.1.setIfInBounds b<|.chan 0 #[] aD s j k)[w]? = f.1[w]?:=λw q=>Array.getElem?_setIfInBounds_ne G;have:=(dK.1 i).1;refine⟨eR _ U,⟨by grind,(dR<|h a r).trans p,s,j,k,?_⟩,h,ax,λg u=>⟨U,U,U,ax,λw q=>h w G⟩⟩;grind
end
def Qx:bk->Nat
 |.bool true=>1
 |_=>0
def fd(e:aQ)(d:Nat)(a bG b c cB:bk):Prop:=e.1[d]? = ae (aZ #[a,bG,b,c,cB] 79)
def fd.cells{bG cB}(h:fd f a r bG C e cB):aA f (N a 0)=ae r/\aA f (N a 1)=ae bG/\aA f (N a 2)=ae C/\aA f (N a 3)=ae e/\aA f (N a 4)=ae cB:=by unfold fd at h;exact Hk
def fd.frozen{bG cB}(h:fd f a r bG C e cB)(g):gd f (N a g)=ak:=by unfold fd at h;exact qE
def CH(h:φ:=by unfold fd at*;exact AG):φ:=h
def fd.set0{bG cB}(h:fd f a e bG r C cB)(c):fd (a7 f ⟨a,0,af⟩ c) a c bG r C cB:=by exact CH
def fd.set1{bG cB}(h:fd f a e bG r C cB)(g):fd (a7 f ⟨a,1,af⟩ g) a e g r C cB:=by exact CH
def fd.set2{bG cB}(h:fd f a e bG r C cB)(c):fd (a7 f ⟨a,2,af⟩ c) a e bG c C cB:=by exact CH
def fd.lM{bG cB}(h:fd f a e bG r C cB)(g):fd (a7 f ⟨a,3,af⟩ g) a e bG r g cB:=by exact CH
def fd.o6{bG cB}(h:fd f a e bG r C cB)(g):fd (a7 f ⟨a,4,af⟩ g) a e bG r C g:=by exact CH
def SC(a:Nat)(c:a<9223372036854775808):bits .and ai (a:Int) 65535=(a:Int)%65536:=by let b:bits .and ai (a:Int) 65535=((a%65536:Nat):Int):=by{show ai.wrap ((BitVec.ofInt 64 (a:Int) &&& BitVec.ofInt 64 65535).toNat:Int)=_;rw[Iw,uS a G,show(65535:Int)=((65535:Nat):Int)from U,uS 65535 G,show(65535:Nat)=2^16-1 from U,OU,tv];omega};omega
def aae{w d}(t:∀n∈d,n.Ok)(R:a<J f.1)(A:∀i (Z:i<E d),aA f (N a i)=ae (cP d[i].1 d[i].2))(S:E d<=w)(x:E d<=1000000)(Q:E (d_ d)<=1000000):a_ aL 216 #[bL a 0 (E d) w] f (cI (M<|hJ<|ci aD<|d_ d) f):=by
 have r:=O<|IK f t R A S x Q;clear t A;generalize d_ d=l at*;go_in;go_wp2_with fail;refine r.m λc o=>?_;have:=Dn (P:=aL) c 9 53 5 (D l) underlying9 underlying53 underlying5;have I:=O<|Dd c l<|grownCap c (b7<|D l) 0 5;have F:ao (a6 f _):=bC o<|(((cU (J c.1) c).drew.alloc (cO<|J c.1)<|aZ (gW (D l)<|grownCap c (b7<|D l) 0 5) 5 (J<|gW (D l)<|grownCap c (b7<|D l) 0 5,J (gW (D l)<|grownCap c (b7<|D l) 0 5)+1)).mono o.4);have Y:E l<=grownCap c (b7<|D l) 0 5:=by{have:=Dk c (b7<|D l) 0 5;assumption};generalize grownCap c (b7<|D l) 0 5=k at*;generalize aN (bx c) (aZ (gW (D l) k) 5 (J<|gW (D l) k,J (gW (D l) k)+1))=B at*;generalize W:J c.1=X at*;have:=cV l;clear o r W;go_wp2;go_loopw [3,10] (λV p wr=>∃g:Nat,V=M (hJ (ci aD<|be g l):Nat)/\p=M g/\g<=E l/\wr=B) λ_ p _=>E l-cM (fj p);·exact⟨0,U,U,dJ _,U⟩
 ·(obtain⟨g,rfl,rfl,aa,rfl⟩:=hrel;by_cases z:g<E l;{have:=I.2.1 g z;have e:=O<|J2 l g z;generalize l[g]=u at*;have x:=gp u;generalize bg u=b at*;have h:=O λq T=>SB (ci aD<|be g l) q T;have:=vf<|ci aD<|be g l;generalize ci aD (be g l)=C at*;generalize hJ C=n at*;by_cases y:g%2=0;{have L:(g:Int)%2=0:=G;rw[b8 y]at e;have K:bits .and ai ((n:Int)+b*256) 65535=((n:Int)+b*256)%65536:=by{rw[show(n:Int)+(b:Int)*256=((n+b*256:Nat):Int) by omega,SC _ G]};have j:ao (((n:Int)+(b:Int)*256)%65536+((n:Int)+(b:Int)*256)/65536=((hJ (ci aD<|be (g+1) l):Nat):Int)):=by{have:=h (b*256) G;rw[<-e]at this;rw[ao];omega};clear e h;go_wp2;rw[j];exact bd (⟨g+1,U,dd,G,cy⟩) dz};{have L:¬(g:Int)%2=0:=G;rw[bV y]at e;have K:bits .and ai ((n:Int)+b) 65535=((n:Int)+b)%65536:=by{rw[show(n:Int)+(b:Int)=((n+b:Nat):Int) by omega,SC _ G]};have j:ao (((n:Int)+(b:Int))%65536+((n:Int)+(b:Int))/65536=((hJ (ci aD<|be (g+1) l):Nat):Int)):=by{have:=h b G;rw[<-e]at this;rw[ao];omega};clear e h;go_wp2;rw[j];exact bd (⟨g+1,U,dd,G,cy⟩) dz}};{have H:g=E l:=G;subst H;have e:=O<|eQ (λq=>hJ<|ci aD q)<|jc (l:=l);generalize hJ (ci aD<|be (E l) l)=n at*;go_wp2;go_ret;refine bd ?_ F;rw[e];rfl})
def bq(c:aQ)(b:Nat)(a:List bk)(t:dP):Prop:=c.1[b]? = ae (aZ (c7 a) t)
section
variable {w w':World} {b d:Nat} {cs:List Value}{t:TypeId}
def bq.lt(a:bq w b cs t):b<J w.1:=(dK.1 a).1
def bq.cell(a:bq w b cs t)(i)(aO:i<E cs):aA w (N b i)=ae cs[i]:=by unfold bq at a;simp[aA,a,aO]
def bq.frozen(h:bq w b cs t)(a):gd w (N b a)=ak:=by unfold bq at h;exact qE
def bq.set(c:bq w b cs t)(a v):bq (a7 w ⟨b,a,af⟩ v) b (cs.set a v) t:=by unfold bq at*;exact AG
def bq.kept(a:bq w b cs t)(e:ey d w w')(c:b≠d):bq w' b cs t:=(e.5 b a.lt c).trans a
def bq.below(c:bq w b cs t)(e:cv d w w')(a:b<d):bq w' b cs t:=(e.5 b a).trans c
def bq.alloc(a:bq w b cs t)(c):bq (aN w c) b cs t:=(dv _ _ _ a.lt).trans a
def bq.fF(w:aQ)(cs)(t:dP):bq (aN w<|aZ (c7 cs) t) (J w.1) cs t:=cW _ _
end
def zx(a:List mC):List bk:=a.map λf=>cP f.1 f.2
def SD(a)(c:aQ)(b)(d:b<E a):aA (aN c<|aZ (c7<|zx a) 275) (N (J c.1) b)=ae (cP a[b].1 a[b].2):=by let:=(bq.fF c (zx a) 275).cell b (by simpa [zx]using d);rw[this];simp[zx]
def xD(a b)(c:∀f∈a,f.Ok)(e:E a<=1000000)(g:E (d_ a)<=1000000):a_ aL 164 #[bL (J b.1) 0 (E a)<|E a] (aN b<|aZ (c7<|zx a) 275) (cI (aS<|d_ a) b):=by exact(IK _ c ax (SD a b) bo e g).m λh d=>bd U<|(cf cc bo _).trans (bN d ax)
def J3(a b)(c:∀f∈a,f.Ok)(e:E a<=1000000)(g:E (d_ a)<=1000000):a_ aL 216 #[bL (J b.1) 0 (E a)<|E a] (aN b<|aZ (c7<|zx a) 275) (cI (M<|hJ<|ci aD<|d_ a) b):=by exact(aae c ax (SD a b) bo e g).m λh d=>bd U<|(cf cc bo _).trans (bN d ax)
def SE(b)(aa:E h<=1000000000){q d P j l i}(z:eP h ak 6=(o,q,H))(A:eP q H 6=(d,P,l))(X:e4 P l=(a,j,i)):a_ aL 53 #[aS h] b (cI (bZ #[ce #[aS o,aS d,M a,aS j],aG<|!i]) b):=by
 have K:=uU h ak 6;have L:=uU q H 6;rw[z]at K;rw[A]at L;simp only at K L;have aj:bq (aN (aN b<|aZ #[am ⟨#[]⟩,am ⟨#[]⟩,ag ai 0,am ⟨#[]⟩] 128)<|aZ #[am<|D h,aG ak] 195) (J b.1) [am ⟨#[]⟩,am ⟨#[]⟩,M 0,am ⟨#[]⟩] 128:=(bq.fF b _ _).alloc _;have aq:ed (aN (aN b<|aZ #[am ⟨#[]⟩,am ⟨#[]⟩,ag ai 0,am ⟨#[]⟩] 128)<|aZ #[am<|D h,aG ak] 195) (J b.1+1) h ak:=by{have:=cW (aN b<|aZ #[am ⟨#[]⟩,am ⟨#[]⟩,ag ai 0,am ⟨#[]⟩] 128)<|aZ #[am<|D h,aG ak] 195;simpa [ed]using this};have Y:=O<|((cU (J b.1) b).alloc bo<|aZ #[am ⟨#[]⟩,am ⟨#[]⟩,ag ai 0,am ⟨#[]⟩] 128).alloc ax<|aZ #[am<|D h,aG ak] 195;have s:=O<|pO 6 aq G aa;rw[z]at s;have ay:=O aj;have an:=O A;have ar:=O X;go_in;go_wp21;refine s.m λav ⟨ab,B,ah⟩=>?_;have I:=O<|pO 6 ab G G;rw[an]at I;have au:=O<|ay.kept B G;have W:=O<|bC Y<|B.below G ct;have Z:ao (J av.1=J b.1+2):=by rw[ao,ah];simp
 go_wp2_with fail;refine I.m λaw ⟨ac,C,az⟩=>?_;have p:=O<|lW l ac G;rw[ar]at p;have t:=O<|au.kept C G;have w:=O<|bC W<|C.below G<|cd<|V Z;have y:ao (J aw.1=J b.1+2):=by grind
 go_wp2_with fail;refine p.m ?_;rintro g ⟨e,n,F⟩;have u:=O<|t.kept n G;have x:=O<|bC w<|n.below G<|cd<|V y;have ad:J g.1=J b.1+2:=by rw[F];assumption
 have r:∀c,ed (aN g<|aZ #[am<|D o,am<|D d,ag ai a,c] 128) (J b.1+1) j i:=λc=>(dv _ _ _ e.lt).trans e;have k:=λc=>u.alloc<|aZ #[am<|D o,am<|D d,ag ai a,c] 128;have ap:=O λc=>cf x G<|aZ #[am<|D o,am<|D d,ag ai a,c] 128;have:=λc=>(r c).cells.1;have:=λc=>(r c).cells.2;have Q:∀c,aA (aN g<|aZ #[am<|D o,am<|D d,ag ai a,c] 128) (N (J b.1) 0)=_:=λc=>(k c).cell 0 ax;have R:∀c,aA (aN g<|aZ #[am<|D o,am<|D d,ag ai a,c] 128) (N (J b.1) 1)=_:=λc=>(k c).cell 1 ax;have S:∀c,aA (aN g<|aZ #[am<|D o,am<|D d,ag ai a,c] 128) (N (J b.1) 2)=_:=λc=>(k c).cell 2 ax;have T:∀c,aA (aN g<|aZ #[am<|D o,am<|D d,ag ai a,c] 128) (N (J b.1) 3)=_:=λc=>(k c).cell 3 ax;simp only[eB,eG]at Q R S T;have:=λc al=>(k c).frozen al;have:J b.1≠J g.1:=G;have:J b.1+1≠J g.1:=G;have:J b.1<=J g.1:=G;clear e n F p t w y u ad x r k;go_wp2;go_region;all_goals(go_wp2;exact dQ (v:=bZ #[ce #[am<|D o,am<|D d,ag ai a,am<|D j],aG<|!i]) (by simp[c_,results53,go_sem,Q,R,S,T]) U (bd U<|(((((ap _).drew).setCell bo _).setCell bo _).setCell bo _).setCell bo _))
structure J4 where
 b:Bool
 vp:Value
 ns:List Int->Prop
instance:Coe Bool J4:=⟨λb=>⟨b,bX,λ_=>True⟩⟩
def hQ(i:aQ)(e b:Nat)(g h:bk)(a:J4)(iG:Nat)(d cS c:Bool)(aH:Nat):Prop:=
 bq i e [bL b 0 25600 25600,g,aG a.1,a.2,M iG,h,aG d,aG cS,aG c,M aH] 66
def m_(d:aQ)(b:Nat)(a:ap):Prop:=E a=25600/\bq d b (a.map λc=>ag ch<|bg c) 5
def FW(c:aQ)(b:Nat)(v:bk)(a:List Int):Prop:=c.ownsRow b 3 1 v (E a)<|b9 (ag ai) a
def uh(d:aQ)(c:Nat)(v:bk)(a:List<|Int×Int):Prop:=d.ownsRow c 161 2 v (E a)<|a.flatMap λb=>[M b.1,M b.2]
section
variable {w w':World} {mb bb:Nat} {vl vm:Value} {kL:J4} {early cS d1:Bool}{iG aH:Nat}
def pu(a:hQ w mb bb vl vm kL iG early cS d1 aH):aA w (N mb 0)=ae (bL bb 0 25600 25600):=bq.cell a 0 ax
def FX(a:hQ w mb bb vl vm kL iG early cS d1 aH):aA w (N mb 1)=ae vl:=bq.cell a 1 ax
def aaf(a:hQ w mb bb vl vm kL iG early cS d1 aH):aA w (N mb 2)=ae (aG kL.1):=bq.cell a 2 ax
def rN(a:hQ w mb bb vl vm kL iG early cS d1 aH):aA w (N mb 3)=ae kL.2:=bq.cell a 3 ax
def zy(a:hQ w mb bb vl vm kL iG early cS d1 aH):aA w (N mb 4)=ae (M iG):=bq.cell a 4 ax
def zz(a:hQ w mb bb vl vm kL iG early cS d1 aH):aA w (N mb 5)=ae vm:=bq.cell a 5 ax
def SF(a:hQ w mb bb vl vm kL iG early cS d1 aH):aA w (N mb 6)=ae (aG early):=bq.cell a 6 ax
def SG(a:hQ w mb bb vl vm kL iG early cS d1 aH):aA w (N mb 7)=ae (aG cS):=bq.cell a 7 ax
def SH(a:hQ w mb bb vl vm kL iG early cS d1 aH):aA w (N mb 8)=ae (aG d1):=bq.cell a 8 ax
def SI(a:hQ w mb bb vl vm kL iG early cS d1 aH):aA w (N mb 9)=ae (M aH):=bq.cell a 9 ax
def aag(a:hQ w mb bb vl vm kL iG early cS d1 aH)(v):hQ (a7 w ⟨mb,1,af⟩ v) mb bb v vm kL iG early cS d1 aH:=bq.set a 1 v
def aah(b:hQ w mb bb vl vm kL iG early cS d1 aH)(a:Nat):hQ (a7 w ⟨mb,4,af⟩<|ag ai a) mb bb vl vm kL a early cS d1 aH:=bq.set b 4<|M a
def aai(a:hQ w mb bb vl vm kL iG early cS d1 aH)(v):hQ (a7 w ⟨mb,5,af⟩ v) mb bb vl v kL iG early cS d1 aH:=bq.set a 5 v
def aaj(a:hQ w mb bb vl vm kL iG early cS d1 aH)(v):hQ (a7 w ⟨mb,6,af⟩<|aG v) mb bb vl vm kL iG v cS d1 aH:=bq.set a 6<|aG v
def SJ(a:hQ w mb bb vl vm kL iG early cS d1 aH)(v):hQ (a7 w ⟨mb,7,af⟩<|aG v) mb bb vl vm kL iG early v d1 aH:=bq.set a 7<|aG v
def SK(a:hQ w mb bb vl vm kL iG early cS d1 aH)(v):hQ (a7 w ⟨mb,8,af⟩<|aG v) mb bb vl vm kL iG early cS v aH:=bq.set a 8<|aG v
def aak(b:hQ w mb bb vl vm kL iG early cS d1 aH)(a:Nat):hQ (a7 w ⟨mb,9,af⟩<|ag ai a) mb bb vl vm kL iG early cS d1 a:=bq.set b 9<|M a
def ph(b:hQ w mb bb vl vm kL iG early cS d1 aH)(a):gd w (N mb a)=ak:=bq.frozen b a
def qg(a:hQ w mb bb vl vm kL iG early cS d1 aH):mb<J w.1:=bq.lt a
def nS(a:hQ w mb bb vl vm kL iG early cS d1 aH)(b:w'.1[mb]? = w.1[mb]?):hQ w' mb bb vl vm kL iG early cS d1 aH:=cQ b a
end
def aal:(aL.info? 3).map (λa=>(a.8,a.3,a.4))=ae (ae<|M 0,1,8):=b6
def aam:aL.underlying 61=ae (.slice 3):=b6
def jK{b}{l k n h}(i:bq f b h X)(j:f.ownsRow a z l e k n)(t:X≠z):ae b≠bA e:=λv=>by
 obtain⟨_,⟨rfl,_⟩|⟨r,p,q,rfl,_,o,_⟩⟩:=j
 ·simp[bA]at v
 ·simp only[bA,rG]at v;subst v;unfold bq at i
  grind
def h6{b g h}(j:bq f a g z)(k:bq f b h X)(l:z≠X):a≠b:=λi=>by
 subst i;unfold bq at j k
 grind
def SL{g h cS k iG aH}(c:hQ f a g e r h iG H cS k aH):a_ aL 26 #[bv a] f λl d=>l=bh (bZ #[])/\hQ d a g e r h iG H ak ak aH/\ey a f d/\J d.1=J f.1:=by let:=SG c;let:=SH c;let:=ph c;replace c:=O c;go_wp2;exact kh (v:=bZ #[]) (by simp[c_,results26]) U ⟨U,SK (SJ c ak) ak,jx (jx (lI _ _) _ _) _ _,ax⟩
def qh{b}{j i k}(h:f.ownsRow b z j e i k)(d:bA e=ae a):b<=a/\∃c,f.1[a]? = ae (aZ c z (0,0)):=by obtain⟨_,⟨rfl,_⟩|⟨o,n,c,rfl,p,l,_⟩⟩:=h;{simp[bA]at d};{simp only[bA,rG]at d;grind}
def lA{g d j}(o:f.ownsRow a z g e d j)(q:∀v,bA e=ae v->m.1[v]? = f.1[v]?):m.ownsRow a z g e d j:=by let⟨p,c⟩:=o;refine bd p ?_;rcases c with c|⟨v,l,n,rfl,t,k,r⟩;{grind};{exact bE ⟨v,l,n,U,t,(q v U).trans k,r⟩}
def nT{c}{h g j}(d:f.ownsRow c z h e g j)(v:bA e=ae a):a<J f.1:=by let⟨_,k,l⟩:=qh d v;grind
def SM{o p l n b q v}(i:f.ownsRow a z o r l q)(j:f.ownsRow a X p e n v)(y:z≠X)(k:bA r=ae b):ae b≠bA e:=λh=>by
 obtain⟨_,t,w⟩:=qh i k;obtain⟨_,u,x⟩:=qh j<|b5 h
 grind
def BM(e:m_ f a h)(c b):m_ (a7 f ⟨a,c,af⟩<|ag ch<|bg b) a (h.set c b):=
 ⟨by rw[o4];exact e.1,by have:=e.2.set c<|ag ch<|bg b;simp_all⟩
def rm(c:m_ f a h)(g:m.1[a]? = f.1[a]?):m_ m a h:=⟨c.1,cQ g c.2⟩
def aan:aL.underlying 62=ae (.slice 158):=b6
abbrev iY:=Int×Int×UInt8
structure cq where
 b:ap
 l:List Int
 p:List iY
 c:Nat
 m:List (Int×Int)
 e:Bool
 d0:Bool
 d1:Bool
 s:Nat
def ov(c:Nat):ap->List iY->ap×List iY
 |b,[]=>(b,[])
 |b,a::d=>if a.1<=(c:Int)then ov c (if 0<=a.2.1/\a.2.1<25600 then b.set (cM a.2.1) a.2.2 else b) d else(b,a::d)
def cq.rest(a:cq):cq:={a with d0:=ak,d1:=ak}
def cq.uA(a:cq)(b:Nat):cq:=⟨(ov a.4 a.1 a.3).1,a.2++[(b:Int)],(ov a.4 a.1 a.3).2,a.4+1,a.5,a.6,ak,ak,a.9⟩
def cq.tL(a:cq)(b:Nat):UInt8:=(ov a.4 a.1 a.3).1.getD b 0
def J5(m:List<|Int×Int)(a:Int×Int):List (Int×Int):=if m.getLast? = ae a then m else m++[a]
def ng(a:Nat):Nat:=if a<512\/(1024<=a/\a<13312)then 0 else 1
def nU(a:Nat):Bool:=a=130+512*ng a\/a=131+512*ng a
def cq.qH(a:cq)(b:Nat):Bool:=if b=0 then a.7 else a.8
def cq.st(a:cq)(b:Nat)(c:UInt8):cq:=
 ⟨a.1.set b c,a.2,a.3,a.4,if nU b then J5 a.5 ((ng b:Int),(a.4:Int))else a.5,a.6||(!nU b&&a.qH (ng b)),a.7||(nU b&&ng b==0),a.8||(nU b&&ng b==1),a.9+1⟩
def ut(h:aQ)(v:bk)(b:List iY):Prop:=∃d e,v=aE d (E b) e/\E b<=e/\((d=af/\b=[])\/∃g ay c,d=ae (N g ay)/\bq h g c 158/\∀a (i:a<E b),c[ay+3*a]? = ae (M b[a].1)/\c[ay+3*a+1]? = ae (M b[a].2.1)/\c[ay+3*a+2]? = ae (ag ch b[a].2.2.toNat))
def mW(b:aQ)(h c:Nat)(d e g:bk)(a:cq):Prop:=hQ b h c d e ⟨ak,g,λ_=>True⟩ a.4 a.6 a.7 a.8 a.9/\m_ b c a.1/\FW b 0 d a.2/\uh b 0 e a.5/\ut b g a.3
def cZ(h:aQ)(c:Nat)(a:cq):Prop:=∃b d e g,mW h c b d e g a
def eD(d:aQ)(b a:Nat):Prop:=a=b\/∃c v,aA d (N b c)=ae v/\bA v=ae a
structure cG(L:Nat->Prop)(mb:Nat)(A B:World):Prop where
 os:B.os=A.os
 tape:B.tape=A.tape
 output:B.output=A.output
 size:A.heap.size<=B.heap.size
 block:∀i,i<A.heap.size->¬L i->¬eD A mb i->B.heap[i]? = A.heap[i]?
 own:∀i,eD B mb i->eD A mb i\/A.heap.size<=i
abbrev bH:Nat->Prop:=λ_=>False
def qJ(b d a):cG b d a a:=⟨U,U,U,cO _,λ_ _ _ _=>U,λ_ c=>bJ c⟩
def dm(j:cG A a f m)(c:cG A a m u):cG A a f u:=
 ⟨cQ c.1 j.1,cQ c.2 j.2,cQ c.3 j.3,cJ j.4 c.4,λb aO k l=>(c.5 b (eA aO j.4) k λd=>(j.6 b d).elim l λn=>G).trans<|j.5 b aO k l,λb d=>(c.6 b d).elim (λd=>j.6 b d) λn=>bE<|cJ j.4 n⟩
def h7{K}(d:cG A a f m)(h:∀b,A b->K b):cG K a f m:=⟨d.1,d.2,d.3,d.4,λb aO i j=>d.5 b aO (λk=>i<|h b k) j,d.6⟩
def mH(h:m.1[a]? = f.1[a]?){b}(j:eD m a b):eD f a b:=j.imp id λ⟨i,v,e,g⟩=>⟨i,v,(dR<|b5 h).trans e,g⟩
def n5{L b}(d:a6 b f)(e:a<J b.1):cG L a b f:=⟨d.1,d.2,d.3,d.4,λg aO _ _=>d.5 g aO,λ_ h=>bJ<|mH (d.5 a e) h⟩
def kH:cG A a f (bx f):=⟨U,U,U,cO _,λ_ _ _ _=>U,λ_ d=>bJ d⟩
def tf{L d}(e:ey d f m)(i:L d)(g:a≠d)(k:a<J f.1):cG L a f m:=⟨e.1,e.2,e.3,e.4,λl aO j _=>e.5 l aO λh=>j<|h▸i,λ_ n=>bJ<|mH (e.5 a k g) n⟩
def xE{g}(k:ut f e g)(q:∀b a,bA e=ae b->bq f b a 158->m.1[b]? = f.1[b]?):ut m e g:=by let⟨i,j,l,n,o⟩:=k;subst l;refine⟨i,j,U,n,o.imp id ?_⟩;rintro⟨v,ay,a,rfl,d,p⟩;exact⟨v,ay,a,U,(q v a U d).trans d,p⟩
section
variable {w w':World} {mb bb:Nat} {vl vm vp:Value}{S:cq}
def q8(b:mW w mb bb vl vm vp S){i}:eD w mb i↔i=mb\/i=bb\/bA vl=ae i\/bA vm=ae i\/bA vp=ae i:=by
 obtain⟨b,-⟩:=b;refine⟨?_,?_⟩;{
 rintro(rfl|⟨e,v,d,a⟩);{omega};{
 have g:e<10:=Nat.lt_of_not_le λh=>by{have:=d;unfold hQ bq at b;simp only[aA,b]at this;simp_all};obtain rfl:=gm<|(b5 d).trans<|bq.cell b e fi;clear d;match e,g,a with
 |0,_,a=>exact bE<|bJ<|b5<|gm a
 |1,_,a=>grind
 |3,_,a=>grind
 |5,_,a=>grind
 |2,_,a|4,_,a|6,_,a|7,_,a|8,_,a|9,_,a=>cases a}};{rintro(c|c|c|c|c);{exact bJ c};{exact bE ⟨0,_,pu b,by rw[c];rfl⟩};{exact bE ⟨1,_,FX b,c⟩};{exact bE ⟨5,_,zz b,c⟩};{exact bE ⟨3,_,rN b,c⟩}}
def SN(g:mW w mb bb vl vm vp S)(a:∀b,eD w mb b->w'.1[b]? = w.1[b]?):mW w' mb bb vl vm vp S:=by let c:=@q8 _ _ _ _ _ _ _ g;let⟨h,i,j,k,l⟩:=g;exact⟨nS h<|a mb<|bJ U,rm i<|a bb<|c.2<|bE<|bJ U,lA j λd e=>a d<|c.2<|bE<|bE<|bJ e,lA k λd e=>a d<|c.2<|bE<|bE<|bE<|bJ e,xE l λb _ aO _=>a b<|c.2<|bE<|bE<|bE<|bE aO⟩
def zA(a:cZ w mb S)(c:∀b,eD w mb b->w'.1[b]? = w.1[b]?):cZ w' mb S:=by let⟨bb,vl,vm,vp,a⟩:=a;exact⟨bb,vl,vm,vp,SN a c⟩
def ui(e:cZ w mb S)(d:eD w mb a):∃c b,w.1[a]? = ae (aZ c b (0,0))/\(b=66\/b=5\/b=3\/b=161\/b=158):=by let⟨bb,vl,vm,vp,e⟩:=e;have d:=(q8 e).1 d;obtain⟨g,h,i,j,p,q,k,-,l⟩:=e;rcases d with rfl|rfl|e|e|e;{exact⟨_,_,g,bJ U⟩};{exact⟨_,_,h.2,bE<|bJ U⟩};{let⟨_,c,o⟩:=qh i e;grind};{let⟨_,c,o⟩:=qh j e;grind};{subst k;rcases l with⟨rfl,-⟩|⟨t,ay,r,rfl,n,-⟩;{cases e};{cases e;exact⟨_,_,n,bE<|bE<|bE<|bE U⟩}}
end
def xt(c:aQ)(a d)(g:d=E a)(e:E a<=fk):(convert 53 9<|bL (J c.1) 0 d d).run aL (aN c<|aZ (c7<|a.map λb=>ag ch<|bg b) 5)=.ok (aS a) (aN c<|aZ (c7<|a.map λb=>ag ch<|bg b) 5):=by subst g;refine uD (base:=0) (bd ax<|.inr ⟨c.heap.size,a.length,c7<|a.map λb=>ag ch<|bg b,U,dJ _,cW c _,cO _,e,ax,by rw[r5];exact mS ax⟩)
def nW(a:Nat)(b)(g:a<65536):a_ aL 57 #[M a] b (cI (aS [aO a,cL a]) b):=by
 have e:=xt b [aO a,cL a] 2 U yp;let c:(bg (aO a):Int)=(a:Int)/256:=by rw[aO,pB];omega
 let d:(bg (cL a):Int)=(a:Int)%256:=dl;simp only[lU,sv,c,d]at e;go_wp2;go_ret;exact bd U<|cf cc bo _
def gr(a:Nat):ap:=[aO<|a/65536,cL<|a/65536,aO<|a%65536,cL<|a%65536]
def y4(a:Nat)(d)(q:a<4294967296):a_ aL 171 #[M a] d (cI (aS<|gr a) d):=by
 let⟨b,g⟩:=bm<|a/65536;let⟨c,h⟩:=bm<|a%65536;have:(a:Int)/65536=(b:Int):=G;have:(a:Int)%65536=c:=G;have i:=O<|nW b d G;have l:=O λj=>nW c j G;have:b7 (D [aO b,cL b])=2:=U;have:b7 (D [aO c,cL c])=2:=U;have r:D [aO b,cL b]++D [aO c,cL c]=D (gr a):=by rw[gr,<-g,<-h];rfl
 clear g h;go_in;go_wp2_with fail;refine i.m ?_;intro p n;let e:=O n;go_wp21;refine(l p).m λt o=>?_;let k:=O<|bC e<|bN o e.4;go_wp2;go_ret;exact bd U k
def cD(s:ap)(a:Nat):Nat:=256*bg (s.getD a 0)+bg (s.getD (a+1) 0)
def xu(s:ap)(a p)(aO:a+1<E s)(x:E s<=1000000000):a_ aL 111 #[aS s,M a] p λr u=>r=bh (M<|cD s a)/\∃t,u=dS p t:=by
 let⟨c,k⟩:=bm<|s[a];let⟨d,l⟩:=bm<|s[a+1];have o:ao (cD s a=256*bg c+bg d):=by{rw[ao,cD,iA,iA,fs aO,fs G,k,l];rfl};let⟨i,n⟩:=bm<|a+1;have:∀j:a<b7 (D s),(D s)[a]=c:=λj=>b5 k;have w:∀j:i<b7 (D s),(D s)[i]=d:=λj=>by subst n;exact b5 l
 have:=cV s;have y:ai.wrap ((a:Int)+1)=(i:Int):=fl
 have:(a:Int)<E s:=G;have:(i:Int)<E s:=G;let⟨b,e⟩:=bm<|bg c;let⟨h,g⟩:=bm<|bg d;have:b<256:=e▸gp c
 have:h<256:=g▸gp d
 have:=iV (b:Int)
 have:=iV (h:Int)
 have:=iV<|256*(b:Int)
 have:=iV<|256*(b:Int)+h
 have q:ao ((cD s a:Int)=256*(b:Int)+(h:Int)):=by rw[ao,o,e,g];simp
 rw[<-e,<-g]at o;have:(bg c:Int)=b:=by rw[e]
 have:(bg d:Int)=h:=by rw[g]
 clear k l n e g aO;go_wp2;go_quiet (fail);go_wp2;go_ret;exact⟨by rw[q];rfl,_,U⟩
def Qy(b)(aO:a+1<E h)(g:E h<=1000000000):a_ aL 111 #[aS h,M a] b λc e=>c=bh (M<|cD h a)/\a6 b e:=
 (xu h a b aO g).mono λc e d=>⟨d.1,d.2.elim λi s=>s▸jn cc i⟩
def gq(a:UInt8):UInt8:=if 65<=bg a/\bg a<=90 then UInt8.ofNat (bg a+32)else a
def WW(e:UInt8)(c:a<E h):(b9 gq (be a h)++bi a h).set a (gq h[a])=b9 gq (be (a+1) h)++bi (a+1) h:=by
 let d:E (b9 gq<|be a h)=a:=by grind
 rw[jM c,g8 c,Im,bV G,d,pX,jg,iz,iR];rfl
def WX(c:a<E h)(d:gq h[a]=h[a]):b9 gq (be (a+1) h)++bi (a+1) h=b9 gq (be a h)++bi a h:=by rw[jM c,g8 c,jg,iz];grind
def Qz(a w)(F:E a<=1000000):a_ aL 112 #[aS a] w (cI (aS<|b9 gq a) w):=by
 have:=Dn (P:=aL) w 9 53 5 (D a) underlying9 underlying53 underlying5;have:=O<|Dd w a<|grownCap w (b7<|D a) 0 5;have n:=O<|(cU (J w.1) w).drew.alloc (cO<|J w.1)<|aZ (gW (D a)<|grownCap w (b7<|D a) 0 5) 5 (J<|gW (D a)<|grownCap w (b7<|D a) 0 5,J (gW (D a)<|grownCap w (b7<|D a) 0 5)+1);have z:E a<=grownCap w (b7<|D a) 0 5:=by{have:=Dk w (b7<|D a) 0 5;assumption};generalize grownCap w (b7<|D a) 0 5=d at*;generalize aN (bx w) (aZ (gW (D a) d) 5 (J<|gW (D a) d,J (gW (D a) d)+1))=y at*;have:=cV a;go_wp2;go_loopw [4] (λh wr=>∃k:Nat,h=M k/\k<=E a/\sX wr (J w.1) (b9 gq (be k a)++bi k a)/\a6 w wr) λh _=>E a-cM (fj h);·exact⟨0,U,dJ _,fi,n⟩
 ·(
 obtain⟨k,rfl,C,eC,u⟩:=hrel;have g:=O eC;have mg:=O u;by_cases i:k<E a;{
 have:E (b9 gq (be k a)++bi k a)=E a:=by grind
 have B:aA wr (N (J w.1) k)=ae (ag ch a[k].toNat):=by{rw[g.2.1 k G];grind};have:=g.2.2 k G;have p:=O<|WW 0 i;have HS:=O<|g.set k (gq a[k]) G;have o:=O<|WX i;generalize a[k]=b at*;have:=gp b;have r:ao ((bg (gq b):Int)=if 65<=bg b/\bg b<=90 then(bg b:Int)+32 else bg b):=by{unfold ao gq;split;{simp;omega};{rfl}};have l:ao (gq b=b->sX wr (J w.1) (b9 gq (be (k+1) a)++bi (k+1) a)):=λt=>by rw[o t];assumption
 rw[p]at HS;have q:ao (¬(65<=bg b/\bg b<=90)->gq b=b):=λh1=>by grind[gq]
 generalize H:bg b=c at*;by_cases h1:65<=c/\c<=90;{
 have hv:(bg (gq b):Int)=(c:Int)+32:=by rw[r,b8 h1]
 exact NH};{have bn:=O<|l<|q h1;by_cases A:65<=c;{have:¬c<=90:=G;exact G4};{exact G4}}};{
 have dn:k=E a:=G;have x:ao (b9 gq (be k a)++bi k a=b9 gq a):=by rw[ao,dn];simp
 have eC:=g;rw[x]at eC;have xz:E (b9 gq a)=E a:=ax;have kc:=Do (P:=aL) wr 53 9 5 (N (J w.1) 0) d (b9 gq a) underlying53 underlying5 underlying9 λj hj=>MJ
 exact Ml})
def qF(a b):D a++D b=D (a++b):=by rfl
def Ek(a)(d:E h<=1000000)(e:ft 4294967295 h=aD):a_ aL 172 #[am<|D h] a λb i=>b=bh (M<|jF 4294967295 h)/\i=a:=by have c:=O<|xv h 4294967295 a d G;go_in;go_wp21;refine c.mono ?_;rintro b j ⟨⟨v,rfl,g⟩,rfl⟩;have s:=g e;subst s;go_wp2;go_ret;simp
def rA(a:Nat)(b c:Bool):Nat:=128+a/8%16*8+a%2+(if b=aD then 4 else 0)+(if c=aD then 2 else 0)
def nO(b:List Nat):ap:=b.flatMap λa=>[aO a,cL a]
def IR:∀a:List Nat,E (nO a)=2*E a
 |[]=>U
 |b::a=>by have:=IR a;unfold nO at this⊢;grind
def oh(s:ap)(a d:Bool)(c:Nat)(b:List Nat):ap:=be 2 s++[UInt8.ofNat<|rA (bg<|s.getD 2 0) a d,UInt8.ofNat<|c%16]++nO b
def QC(h i){x:Nat}(aM:Nat){q}(bc:12<=E o)(bb:E o<=1000000000)(bs:a<4096)(al:E q=4)(w:∀n∈q,n<65536)(aR:x<J f.1)(aj:∀K (ab:K<E q),aA f (N x K)=ae (M (q[K]:Nat))):a_ aL 49 #[am<|D o,aG h,aG i,M a,bL x 0 4 aM] f (cI (am<|D<|oh o h i a q) f):=by
 let⟨n,F⟩:=bm<|o[2];have:=cV o;have aP:∀ab:2<b7 (D o),(D o)[2]=n:=λab=>b5 F;let⟨d,z⟩:=bm<|bg n;have:d<256:=z▸gp n
 have R:ao (bg (o.getD 2 0)=d):=by rw[ao,iA,fs G,z,F];rfl
 have a8:(bg n:Int)=d:=by rw[z]
 let⟨k,W⟩:=bm<|d/8;let⟨r,X⟩:=bm<|k%16;let⟨B,ap⟩:=bm<|d%2;let⟨t,ac⟩:=bm<|128+r*8+B;have aT:=iV (d:Int)
 have aU:(d:Int).tdiv 8=(k:Int):=by grind
 have az:(d:Int)/8=(k:Int):=G;have aB:=iV (k:Int)
 have aV:(k:Int).tmod 16=(r:Int):=by grind
 have aC:(k:Int)%16=r:=G;have aW:=iV<|(r:Int)*8
 have aX:=iV<|128+(r:Int)*8
 have aY:(d:Int).tmod 2=(B:Int):=by grind
 have aF:(d:Int)%2=B:=G;have a0:ai.wrap (128+(r:Int)*8+B)=(t:Int):=fl
 have:2<(E o:Int):=G;have au:=O λe=>jn (cU (J f.1) f) e;let⟨l,ah⟩:=bm<|t+(if h=aD then 4 else 0);let⟨gF,ar⟩:=bm<|l+(if i=aD then 2 else 0);have Y:ao (gF=rA (bg<|o.getD 2 0) h i):=by rw[ao,rA,R,ar,ah,ac,X,W,ap]
 have:t<256:=G;have:l<256+8:=by grind
 let⟨L,Z⟩:=bm<|a%16;have:(a:Int).tmod 16=(L:Int):=by grind
 let⟨c,hu⟩:=bm<|UInt8.ofNat gF;let⟨v,H⟩:=bm<|UInt8.ofNat L;have bf:ch.wrap (gF:Int)=(bg c:Int):=CC
 have bj:ch.wrap (L:Int)=(bg v:Int):=by rw[ur,H,pB];omega
 have S:ao (oh o h i a q=be 2 o++[c,v]++nO q):=by rw[ao,oh,<-Y,hu,H,Z]
 have av:=O aj;have a4:=O w;have Q:=O al;have P:ao ((h=aD/\(t:Int)+4=l)\/(h=ak/\l=t)):=by{grind[ao]};have aq:ao ((i=aD/\(l:Int)+2=gF)\/(i=ak/\gF=l)):=by{grind[ao]};clear F z W X ap ac ah ar R Y Z hu H aj w al;go_wp2;go_quiet (fail);have aa:=O<|au nq;generalize dS f nq=j at*;have a3:=wS o 2 G;have aI:b7 (D<|be 2 o)=2:=by rw[cV,iv];omega
 have a2:=xt j [c,v] 2 U yp;have ax:(convert 53 9<|bL (J j.1) 0 2 2).run aL (bx<|aN j<|aZ #[ag ch<|bg c,ag ch<|bg v] 5)=.ok (am<|D [c,v]) (bx<|aN j<|aZ #[ag ch<|bg c,ag ch<|bg v] 5):=xt (bx j) [c,v] 2 U yp;have ay:b7 (D [c,v])=2:=U;have ba:D (be 2 o)++D [c,v]=D (be 2 o++[c,v]):=qF _ _;have aJ:ao (a6 f<|bx<|aN j<|aZ #[ag ch<|bg c,ag ch<|bg v] 5):=(cf aa aa.4 _).drew;clear a2 aP a8 aT aU az aB aV aC aW aX aY aF a0;rcases V P with⟨rfl,bo⟩|⟨rfl,rfl⟩<;>rcases V aq with⟨rfl,bp⟩|⟨rfl,rfl⟩;all_goals(clear P aq;go_wp2;go_region)
 all_goals(
 generalize bx (aN j<|aZ #[ag ch<|bg c,ag ch<|bg v] 5)=bq at*;let⟨g,A⟩:=bm<|be 2 o++[c,v];have aH:ao (E g=4):=by rw[ao,A,dj,iv];grind
 rw[<-A]at S;rw[<-A];clear A ba a3 ax aI ay;go_wp2;go_loopw [12,13] (λa5 I wr=>∃b:Nat,a5=am (D<|g++nO (be b q))/\I=M b/\b<=4/\a6 f wr) λ_ I _=>4-cM (fj I);·exact⟨0,by simp[nO],U,G,aJ⟩
 ·(
 obtain⟨b,rfl,rfl,aS,y⟩:=hrel;by_cases an:b<4;{
 have C:b<E q:=by rw[Q];omega
 have:=(y.cell (p:=⟨x,b,af⟩) aR).trans (av b C);have w:=a4 q[b]<|ei C;have T:=O<|nW q[b] wr w;have aw:ao (nO (be (b+1) q)=nO (be b q)++[aO q[b],cL q[b]]):=by{rw[ao,g8 C,nO,nO,o3];simp};have bd:b7 (D<|g++nO (be b q))<=100:=by{rw[cV,dj,aH];rw[IR,iv];omega};generalize q[b]=e at*;have:b7 (D [aO e,cL e])=2:=U;have bl:D (g++nO (be b q))++D [aO e,cL e]=D (g++nO (be (b+1) q)):=by rw[aw,<-iz];rfl
 generalize D (g++nO (be b q))=bn at*;have u:=O y;have:(b:Int)<4:=G;have a9:=O an;clear y aS an w;go_wp2_with fail;refine T.m ?_;intro br ad;have a1:=O<|bC u<|bN ad u.4;clear ad T u;go_wp2;exact⟨⟨b+1,U,dd,fi,a1⟩,by let:=a9;simp[fj];omega⟩};{
 obtain rfl:b=4:=G;let aK:ao (g++nO (be 4 q)=g++nO q):=by rw[ao,mS (by rw[Q];omega)]
 have u:=O y;go_wp2;go_ret;exact⟨eQ (λd=>bh<|am<|D d)<|cQ aK<|b5 S,u⟩}))
def m7(a):∀(g:ap),(a∉g/\I a g=[g])\/∃b d,g=b++a::d/\a∉b/\I a g=b::I a d
 |[]=>bJ ⟨ax,U⟩
 |c::h=>by
  by_cases j:c=a;{subst j;exact bE ⟨[],h,U,ax,tO c [] h ax⟩};{
  rcases m7 a h with⟨i,_⟩|⟨b,d,i,k,_⟩;{
  have e:a∉c::h:=by grind
  exact bJ ⟨e,tM a _ e⟩};{
  have e:a∉c::b:=by grind
  refine bE ⟨c::b,d,by grind,e,?_⟩;rw[i];exact tO a (c::b) d e}}
def gZ(b:UInt8):List ap->ap
 |[]=>[]
 |[a]=>a
 |a::d::c=>a++b::gZ b (d::c)
def uG(a s):gZ a (I a s)=s:=by
 let k:∀(b:Nat) (s:ap),E s<=b->gZ a (I a s)=s:=by{
 intro b;induction b with
 |zero=>intro s i;obtain rfl:s=[]:=hq G;rfl
 |succ b j=>{
 intro s i;rcases m7 a s with⟨_,d⟩|⟨l,c,h,_,d⟩;{rw[d];rfl};{
 have e:=j c (by grind);rw[d];cases g:I a c with
 |nil=>exact absurd g<|nL a c
 |cons o n=>{rw[g]at e;rw[gZ,e,h]}}}};exact k (E s) s bo
def Jq(a c):∀(b:List ap),b≠[]->gZ a (b++[c])=gZ a b++a::c
 |[],d=>absurd U d
 |[g],_=>U
 |g::h::e,_=>by rw[fN,fN,gZ,<-fN,Jq a c (h::e) ax,gZ];simp
def C9:List ap->Option aK
 |b::c::d::e::a=>if jh b&&ft 86400 c&&et (ii d) (e::a)then ae (b,jF 86400 c,ii d,gZ 32 (e::a))else af
 |_=>af
def Xq(s):iB s=C9 (I 32 s):=by
 unfold iB Lib.splitN;rcases m7 32 s with⟨k,h⟩|⟨b,e,x,k,h⟩;{rw[Dv _ k,h];rfl};let:E s=E b+1+E e:=by grind
 obtain⟨q,w⟩:∃p,min 4 (E s+1)-1=p+1:=⟨min 4 (E s+1)-2,G⟩;rw[w,h];conv=>lhs;rw[x]
 rw[Dx q e k];rcases m7 32 e with⟨l,i⟩|⟨c,g,y,l,i⟩;{rw[Dv _ l,i];rfl};let:E e=E c+1+E g:=by grind
 obtain⟨t,u⟩:∃p,q=p+1:=⟨q-1,G⟩;rw[u,i];conv=>lhs;rw[y]
 rw[Dx t g l];rcases m7 32 g with⟨n,j⟩|⟨d,a,z,n,j⟩;{rw[Dv _ n,j];rfl};let:E g=E d+1+E a:=by grind
 obtain rfl:t=1:=G;rw[j];conv=>lhs;rw[z]
 rw[Dx 0 a n];have r:=uG 32 a;cases o:I 32 a with
 |nil=>exact absurd o<|nL 32 a
 |cons B A=>{rw[o]at r;show(if jh b&&ft 86400 c&&et (ii d) (I 32 a)then ae (b,jF 86400 c,ii d,a)else af)=C9 (b::c::d::B::A);rw[o,C9,r]}
def Qa{b}:∀(a:ap),I b (a++b::Q)=I b a++I b Q:=by
 intro a;let k:∀(d:Nat) (a:ap),E a<=d->I b (a++b::Q)=I b a++I b Q:=by{
 intro d;induction d with
 |zero=>intro a i;obtain rfl:a=[]:=hq G;exact tO b [] Q ax
 |succ d j=>{intro a i;rcases m7 b a with⟨g,e⟩|⟨l,n,h,g,e⟩;{rw[e,tO b a Q g];rfl};{rw[e,h,iz,fN,tO b l _ g,j n<|by grind];rfl}}};exact k (E a) a bo
def y7{b}(d:I b h=I b o):h=o:=by rw[<-uG b h,d,uG]
def Qb(b):∀(c a:List ap),c≠[]->a≠[]->gZ b (c++a)=gZ b c++b::gZ b a
 |[],_,h,_=>absurd U h
 |[i],a,_,d=>by
  cases a with
  |nil=>grind
  |cons g e=>rfl
 |i::g::e,a,_,d=>by rw[fN,fN,gZ,<-fN,Qb b (g::e) a ax d,gZ];simp
def By:lR (I 46 h) (I 46 o)=fx h o:=by
 let j:=nL 46 o;rw[lR,fx,Lib.hasSuffix,pR];simp only[e9,pZ,sZ,iE,OP];constructor;{
 rintro⟨k,b⟩;have c:=ku (E (I 46 h)-E (I 46 o))<|I 46 h;rw[b]at c;cases e:be (E (I 46 h)-E (I 46 o)) (I 46 h) with
 |nil=>{rw[e,iF]at c;exact bJ<|y7<|b5 c}
 |cons d g=>{rw[e]at c;refine bE ⟨gZ 46 (d::g),?_⟩;have:=Qb 46 (d::g) (I 46 o) ax j;rw[c,uG,uG]at this;grind}};{rintro(rfl|⟨d,i⟩);{simp};{rw[<-i,Qa];simp}}
section
variable {κ:Type}
def qT(a:aK->κ):List aK->Prop
 |[]=>True
 |d::e=>(∀b c,e=b++c->(∃g∈b,a g≠a d)->∀h∈c,a h≠a d)/\qT a e
def qT.drop{c:aK->κ}:∀(d:List aK) (b:Nat),qT c d->qT c (bi b d)
 |[],b,a=>by grind
 |g::e,0,a=>a
 |g::e,b+1,a=>by rw[List.drop_succ_cons];exact qT.drop e b a.2
def Xr(d:i++p=x):p=bi (E i) x:=by grind
def Qc(e:i++p=x)(a):dT a x=dT a i++dT a p:=by grind
def Xs{b:aK->κ}{a}(o:qT b (a::i)){dA:aK->aK->Bool}(r:∀h c,dA h c=aD↔b h=b c):∀g∈kT (dA a) i,b g≠b a:=by
 intro g d;cases n:kT (dA a) i with
 |nil=>grind
 |cons e q=>{let t:dA a e=ak:=by{let:=List.head?_dropWhile_not (dA a) i;grind};let k:b e≠b a:=λj=>by{grind};rw[n]at d;rcases fw.1 d with rfl|d;{omega};{let j:i=(he (dA a) i++[e])++q:=by{let:=b5<|rY (p:=dA a) (l:=i);grind};exact o.1 _ _ j ⟨e,ax,k⟩ g d}}
def Jr{k:aK->κ}(dA)(e:∀t w,dA t w=aD↔k t=k w):∀(f i:Nat) (l:List aK),E l<=f->qT k l->(∀d∈jH dA f i l,∃a∈l,d.2.head? = ae a/\d.2=dT (dA a) l)/\(∀a∈l,∃d∈jH dA f i l,d.2=dT (dA a) l)
 |0,i,l,C,_=>by obtain rfl:l=[]:=hq G;exact⟨λd c=>(by cases c),λa q=>(by cases q)⟩
 |f+1,i,[],_,_=>⟨λd c=>(by cases c),λa q=>(by cases q)⟩
 |f+1,i,a::b,C,y=>by
  have I:dA a a=aD:=(e a a).2 U;have z:=Xs y e;have j:=rY (p:=dA a) (l:=b);have A:qT k (kT (dA a) b):=by{have n:kT (dA a) b=bi (E<|he (dA a) b) b:=Xr j;rw[n];exact qT.drop b _ y.2};have D:E (kT (dA a) b)<=f:=by{grind};obtain⟨F,H⟩:=Jr dA e f (i+1+E (he (dA a) b)) (kT (dA a) b) D A;have u:∀h∈he (dA a) b,dA a h=aD:=λh r=>by{have:=List.all_takeWhile (p:=dA a) (l:=b);grind};have Q:dT (dA a) (a::b)=a::he (dA a) b:=by{rw[wD I];congr 1;rw[Qc j,uP.2 u,pU.2 λh r x=>z h r<|b5<|(e a h).1 x,kW]};have K:∀s∈kT (dA a) b,dT (dA s) (a::b)=dT (dA s) (kT (dA a) b):=λs g=>by{have R:=z s g;have P:dA s a=ak:=by{grind};rw[yP<|by grind];rw[Qc j,pU.2 λh r x=>?_,iF];grind};have O:∀s∈kT (dA a) b,s∈b:=λs g=>by grind
  refine⟨λd c=>?_,λs g=>?_⟩;{rw[jH]at c;rcases fw.1 c with rfl|c;{grind};{obtain⟨s,L,M,N⟩:=F d c;grind}};{rw[jH];rcases fw.1 g with rfl|g;{simp_all};{rw[<-j]at g;rcases i_.1 g with o|o;{refine⟨_,List.mem_cons_self,?_⟩;have n:dA s=dA a:=by{funext h;have B:=(e a s).1<|u s o;rw[pR,e,e,B]};grind};{obtain⟨d,c,n⟩:=H s o;grind}}}
end
section
open Go.RowKit Go.Sort
section
variable {α:Type} (lt:α->α->Bool)
def eh:List α->List α->List α
 |[],b=>b
 |c::a,[]=>c::a
 |c::a,d::b=>if lt d c then d::eh (c::a) b else c::eh a (d::b)
termination_by a b=>E a+E b
structure me:Prop where
 tr:∀x y z,lt x y=true->lt y z=true->lt x z=true
 nt:∀x y z,lt x y=false->lt y z=false->lt x z=false
def gP(a:List α):Prop:=a.Pairwise λb c=>lt c b=ak
@[simp] theorem Js {a:List α}:eh lt [] a=a:=by unfold eh;rfl
@[simp] theorem D0 {a:List α}:eh lt a []=a:=by cases a<;>simp[eh]
theorem D1{a b c d}:eh lt (a::c) (b::d)=if lt b a then b::eh lt (a::c) d else a::eh lt c (b::d):=by conv=>lhs;unfold eh
theorem nP{a b}(c d)(e:lt b a=aD):eh lt (a::c) (b::d)=b::eh lt (a::c) d:=by rw[D1,b8 e]
theorem oS{a b}(c d)(e:lt b a=ak):eh lt (a::c) (b::d)=a::eh lt c (b::d):=by rw[D1,bV<|by simp[e]]
theorem tG(g h):∀(d e:List α),(∀b∈e,∀a∈g,lt b a=aD)->(∀a∈d,∀b∈h,lt b a=ak)->eh lt (d++g) (e++h)=eh lt d e++eh lt g h
 |[],[],_,_=>by simp
 |[],b::e,i,j=>by
  have c:=tG g h [] e (λb n=>i b<|by grind) j;cases g with
  |nil=>simp
  |cons a g=>{simp only[iF,Js,fN]at c⊢;rw[nP lt _ _<|i b ax a ax,c]}
 |a::d,[],i,j=>by
  have c:=tG g h d [] i (λa l=>j a<|by grind);cases h with
  |nil=>simp
  |cons b h=>{simp only[iF,D0,fN]at c⊢;rw[oS lt _ _<|j a ax b ax,c]}
 |a::d,b::e,i,j=>by cases k:lt b a;{have c:=tG g h d (b::e) i (λa l=>j a<|by grind);simp only[fN]at c⊢;rw[oS lt _ _ k,oS lt _ _ k,c,fN]};{have c:=tG g h (a::d) e (λb n=>i b<|by grind) j;simp only[fN]at c⊢;rw[nP lt _ _ k,nP lt _ _ k,c,fN]}
termination_by d e=>E d+E e
theorem Bz(l:me lt):∀(a b c:List α),eh lt (eh lt a b) c=eh lt a (eh lt b c)
 |[],b,c=>by simp
 |h::a,[],c=>by simp
 |h::a,e::b,[]=>by simp
 |h::a,e::b,i::c=>by cases g:lt e h;{cases k:lt i h;{have j:=Bz l a (e::b) (i::c);rw[oS lt _ _ g,oS lt _ _ k,j];cases d:lt i e;{rw[oS lt _ _ d,oS lt _ _ g]};{rw[nP lt _ _ d,oS lt _ _ k]}};{have d:lt i e=aD:=by{cases n:lt i e;{have:=l.2 _ _ _ n g;grind};{rfl}};have j:=Bz l (h::a) (e::b) c;rw[nP lt _ _ d,nP lt _ _ k,<-j,oS lt _ _ g,nP lt _ _ k]}};{cases d:lt i e;{have j:=Bz l (h::a) b (i::c);rw[nP lt _ _ g,oS lt _ _ d,oS lt _ _ d,nP lt _ _ g,j]};{have k:=l.1 _ _ _ d g;have j:=Bz l (h::a) (e::b) c;rw[nP lt _ _ d,nP lt _ _ k,<-j,nP lt _ _ g,nP lt _ _ d]}}
termination_by a b c=>E a+E b+E c
def jz(a:List α):List α:=a.foldl (λs b=>eh lt s [b]) []
theorem wY{a b}:jz lt (a++[b])=eh lt (jz lt a) [b]:=by simp[jz]
theorem Xt(g:me lt)(b a):jz lt (b++a)=eh lt (jz lt b) (jz lt a):=by
 let⟨d,c⟩:=bm<|E a;induction d generalizing a with
 |zero=>have:a=[]:=pJ.1<|b5 c;subst this;simp[jz]
 |succ d h=>{rcases pf a with rfl|⟨e,i,rfl⟩;{grind};{rw[pe]at c⊢;rw[<-iz,wY,wY,h e<|by grind,Bz lt g]}}
theorem BA:∀(a b:List α),E (eh lt a b)=E a+E b
 |[],b=>by simp
 |c::a,[]=>by simp
 |c::a,d::b=>by cases e:lt d c;{rw[oS lt _ _ e,dW,BA a (d::b)];grind};{rw[nP lt _ _ e,dW,BA (c::a) b];rfl}
termination_by a b=>E a+E b
theorem BB(a):E (jz lt a)=E a:=by
 let⟨c,b⟩:=bm<|E a;induction c generalizing a with
 |zero=>have:a=[]:=pJ.1<|b5 b;subst this;rfl
 |succ c d=>{rcases pf a with rfl|⟨e,g,rfl⟩;{rfl};{rw[pe]at b⊢;rw[wY,BA,d e<|by grind];simp}}
theorem D2(d):∀(b c:List α),d∈eh lt b c->d∈b\/d∈c
 |[],c,a=>by simp_all
 |e::b,[],a=>by simp_all
 |e::b,g::c,a=>by cases h:lt g e;{rw[oS lt _ _ h]at a;rcases fw.1 a with a|a;{grind};{exact(D2 d b (g::c) a).imp (λa=>l8 _ a) id}};{rw[nP lt _ _ h]at a;rcases fw.1 a with a|a;{grind};{exact(D2 d (e::b) c a).imp id λa=>l8 _ a}}
termination_by b c=>E b+E c
theorem Xu(e:me lt){a b}(d:lt a b=aD)(g:lt a a=ak):lt b a=ak:=by cases c:lt b a;{rfl};{let:=e.1 _ _ _ d c;grind}
theorem Jt(e:me lt)(k:∀q,lt q q=ak):∀(b c:List α),gP lt b->gP lt c->gP lt (eh lt b c)
 |[],c,_,a=>by simp_all
 |h::b,[],a,_=>by simp_all
 |h::b,i::c,l,o=>by have n:=sI.1 l;have p:=sI.1 o;cases d:lt i h;{rw[oS lt _ _ d];refine sI.2 ⟨λg j=>?_,Jt e k b (i::c) n.2 o⟩;rcases D2 lt g _ _ j with a|a;{grind};{rcases fw.1 a with rfl|a;{exact d};{exact e.nt _ _ _ (p.1 g a) d}}};{rw[nP lt _ _ d];refine sI.2 ⟨λg j=>?_,Jt e k (h::b) c l p.2⟩;have r:=Xu lt e d<|k i;rcases D2 lt g _ _ j with a|a;{rcases fw.1 a with rfl|a;{omega};{exact e.2 _ _ _ (n.1 g a) r}};grind}
termination_by b c=>E b+E c
theorem BC(e:me lt)(h:∀b,lt b b=ak)(a):gP lt (jz lt a):=by
 let⟨d,c⟩:=bm<|E a;induction d generalizing a with
 |zero=>have:a=[]:=pJ.1<|b5 c;subst this;simp[jz,gP]
 |succ d g=>{rcases pf a with rfl|⟨i,b,rfl⟩;{grind};{rw[pe]at c⊢;rw[wY];exact Jt lt e h _ _ (g i<|by grind)<|by simp[gP]}}
theorem Xv(j:me lt){c b a}(i:gP lt<|c++[a])(h:lt b a=ak):eh lt (c++[a]) [b]=c++[a]++[b]:=by
 have:=tG lt [] [b] (c++[a]) [] ax (λe d g k=>by{
 obtain rfl:g=b:=by grind
 rcases i_.1 d with d|d;{exact j.2 _ _ _ h<|(nK.1 i).2.2 e d a ax};grind})
 simp_all
theorem Xw{c a b}(g:lt a b=aD):eh lt (c++[b]) [a]=eh lt c [a]++[b]:=by have:=tG lt [b] [] c [a] (λe i d h=>by{grind}) ax;simp_all
end
section
variable {α:Type} [Inhabited α] (lt:α->α->Bool)
theorem y8{d:Array α}{X Z u}(a:d.1=X++u::Z):d[E X]! = u:=by
 obtain rfl:d=c7 (X++u::Z):=by rw[<-a]
 simp
theorem D4{d X Y Z}{u v:α}(a:d.1=X++u::(Y++v::Z)):(swp d (E X)<|E X+1+E Y).1=X++v::(Y++u::Z):=by have:=y8 a;have b:d[E X+1+E Y]! = v:=by{have:=y8 (d:=d) (X:=X++u::Y) (u:=v) (Z:=Z) (by grind);grind};unfold swp;grind
theorem Qd(c:Array α){b}(d:a≠b):swp c a b=swp c b a:=by unfold swp;rw[Array.setIfInBounds_comm _ _ d]
def oT:Nat->Nat->Nat->Array α->Array α
 |_,_,0,a=>a
 |b,c,d+1,a=>oT (b+1) (c+1) d<|swp a b c
theorem D6:∀(b d:List α) (g:Array α) (a c e:List α),E b=E d->g.1=a++(b++(c++(d++e)))->(oT (E a) (E a+E b+E c) (E b) g).1=a++(d++(c++(b++e)))
 |[],[],g,a,c,e,_,j=>by assumption
 |[],h::d,_,_,_,_,j,_=>by grind
 |i::b,[],_,_,_,_,j,_=>by grind
 |i::b,h::d,g,a,c,e,o,j=>by
  have k:g.1=a++i::((b++c)++h::(d++e)):=by grind
  have n:=D4 k;have p:=D6 b d (swp g (E a)<|E a+1+E (b++c)) (a++[h]) (c++[i]) e (by grind) (by grind);rw[dW,oT];rw[show E a+(E b+1)+E c=E a+1+E (b++c) from by grind];have l:E (a++[h])=E a+1:=ax;grind
theorem Qe(p:me lt):∀(b:Nat) (g:List α) (d:Array α) (a e:List α) (c:α),E g=b->gP lt g->d.1=a++(g++c::e)->(insInner lt (E a) (E a+b) d).1=a++(eh lt g [c]++e)
 |0,g,d,a,e,c,n,_,k=>by
  obtain rfl:g=[]:=pJ.1 n;have:insInner lt (E a) (E a+0) d=d:=by{
  cases j:E a with
  |zero=>rfl
  |succ w=>rw[h8,insInner,bV ax]};simp_all
 |b+1,g,d,a,e,c,n,o,k=>by
  rcases pf g with rfl|⟨h,i,rfl⟩;{grind};{
  rw[pe]at*;have q:E h=b:=by grind
  have t:d[E a+b]! = i:=by{have:=y8 (d:=d) (X:=a++h) (u:=i) (Z:=c::e) (by grind);grind};have r:d[E a+b+1]! = c:=by{have:=y8 (d:=d) (X:=a++h++[i]) (u:=c) (Z:=e) (by grind);grind};rw[<-pL,insInner,r,t];cases j:lt c i;{rw[bV ax,Xv lt p o j,k];simp};{rw[b8<|by grind,Xw lt j,Qd _ G];have l:=D4 (d:=d) (X:=a++h) (Y:=[]) (Z:=e) (u:=i) (v:=c) (by grind);rw[show(a++h).length=E a+b from by grind,show E a+b+1+E ([]:List α)=E a+b+1 from U]at l;have:=Qe p b h _ a (i::e) c q (nK.1 o).1 (by rw[l];simp);grind}}
theorem Qf(j:me lt)(l:∀e,lt e e=ak)(c g):∀(f:Nat) (a b:List α) (d:Array α),E b=f->d.1=c++(jz lt a++(b++g))->(insOuter lt (E c) (E c+E a+E b) (E c+E a) d).1=c++(jz lt (a++b)++g)
 |0,a,b,d,i,h=>by obtain rfl:b=[]:=pJ.1 i;rw[insOuter,bV ax,h];simp
 |f+1,a,[],d,i,h=>by grind
 |f+1,a,e::b,d,i,h=>by rw[insOuter,b8 ax];have k:=Qe lt j (E a) (jz lt a) d c (b++g) e (BB lt _) (BC lt j l _) (by grind);rw[<-wY]at k;have n:=Qf j l c g f (a++[e]) b _ (by grind) k;grind
theorem Qg(h:me lt)(i:∀c,lt c c=ak)(b a d e)(g:e.1=b++(a++d)):(insertionSort lt e (E b)<|E b+E a).1=b++(jz lt a++d):=by
 unfold insertionSort;cases a with
 |nil=>rw[insOuter,bV ax,g];rfl
 |cons c a=>{let:=Qf lt h i b d (E a) [c] a e U (by rw[g];simp[jz]);grind}
end
end
section
open Go.RowKit Go.Sort Go.Shelf
def D7:∀(b c d:Nat) (a:Array aK),J (oT c d b a)=J a
 |0,_,_,_=>U
 |b+1,c,d,a=>by rw[oT,D7 b,size_swp]
def BD(b):∀v∈aK.bz b,v.oneCell'=aD:=λv a=>by simp[aK.bz]at a;rcases a with rfl|rfl|rfl|rfl<;>rfl
def Xx{ay b:Nat}(av:Nat){n k i:Nat}(aB:∀r,E (aK.bz r)=a)(aP:∀f,Sem.run aL (Go.sizeOf 83) f=.ok a f){e}(B:HoldsK aK.bz a f b ay e)(P:b<J f.1)(K:n+i<=k)(L:k+i<=J e)(H:J e<=3001):a_ aL 265 #[bL b ay (J e) av,M n,M k,M i,ez (.func 79) #[] #[]] f λaw aM=>aw=bh (bZ #[])/\∃o,aM=e7 aK.bz a f b ay o (oT n k i e) #[]:=by
 have aF:aL.follows Departure.mixedOrders=aD:=dl;have Aq:=Tryz.isAgg83;have l:=O aB;have al:ao (f=e7 aK.bz a f b ay 0 e #[]):=by show f=_;rw[e7,grow_empty];exact(putRowK_self aK.bz a f b ay e B).symm
 have aj:=O P;replace B:=O B;go_wp2;go_loopg [10] i (λaa aJ wr=>∃(d o:Nat) (c:Array aK),aJ=M d/\d+aa=i/\J c=J e/\wr=e7 aK.bz a f b ay o c #[]/\ao (oT (n+d) (k+d) aa c=oT n k i e));·exact⟨0,0,e,U,G,U,al,U⟩
 ·(
 obtain⟨d,o,c,rfl,aO,F,rfl,S⟩:=hrel;by_cases Q:d<i;{
 have T:(d:Int)<i:=G;obtain⟨A,rfl⟩:∃A,gk=A+1:=⟨gk-1,G⟩;let⟨g,C⟩:=bm<|n+d;let⟨j,D⟩:=bm<|k+d;have ax:(n:Int)+d=g:=G;have az:(k:Int)+d=j:=G;have an:(g:Int)<J e:=G;have ap:(j:Int)<J e:=G;let⟨u,w⟩:=du<|c[g]!;let⟨q,x⟩:=du<|c[j]!;have t:HoldsK aK.bz a (bx<|e7 aK.bz a f b ay o c #[]) b ay c:=wi aK.bz a f b ay e c _ _ B P F;let⟨p,I⟩:=bm<|e7 aK.bz a f b ay o c #[];rw[<-I]at t⊢;have ab:Sem.run aL (loadCellsFrom (N b<|ay+g*a) 0 a #[]) (bx p)=.ok (c7<|aK.bz u) (bx p):=by rw[<-w];exact run_loadCellsFrom_list _ _ _ _ a (l.out _)<|HoldsK.cells t l.out G
 have ac:Sem.run aL (loadCellsFrom (N b<|ay+j*a) 0 a #[]) (bx p)=.ok (c7<|aK.bz q) (bx p):=x▸run_loadCellsFrom_list _ _ _ _ a (l.out _) (HoldsK.cells t l.out G)
 have W:∀r,r<J c->r*a+a<=J c*a:=λr aC=>by{have:=tp a (show r+1<=J c from aC);grind};have ad:Sem.run aL (storeCells (N b<|ay+g*a) (aK.bz q) 0) (bx p)=.ok () ((bx p).setCells b (ay+g*a)<|aK.bz q):=stores_of_holds _ t (g*a) _ (by rw[l.out,size_flatK];grind)<|BD _;have ah:Sem.run aL (storeCells (N b<|ay+j*a) (aK.bz u) 0) ((bx p).setCells b (ay+g*a)<|aK.bz q)=.ok () (((bx p).setCells b (ay+g*a)<|aK.bz q).setCells b (ay+j*a)<|aK.bz u):=stores_of_holds _ (holds_setCells_c t (g*a) _ (by rw[l.out,size_flatK];grind)) (j*a) _ (by rw[l.out,size_setMany,size_flatK];exact W j G)<|BD _;have au:=O I;clear t I W;let⟨Y,y⟩:=bm<|aK.bz u;let⟨Z,z⟩:=bm<|aK.bz q;have:E Y=a:=y▸l.out _
 have:E Z=a:=z▸l.out _
 rw[<-z]at ad ac;rw[<-y]at ab;rw[<-y,<-z]at ah;have R:ao (Y=aK.bz u/\Z=aK.bz q):=⟨y,z⟩;clear y z;have aq:=iV (g:Int)
 have ar:=iV (j:Int)
 have aH:0<=(g:Int):=G;have aI:0<=(j:Int):=G;have X:ao (d+(A+1)=i/\g=n+d/\j=k+d/\c[g]! = u/\c[j]! = q/\J c=J e/\d<i/\n+i<=k/\k+i<=J e/\J e<=3001):=⟨aO,C,D,w,x,F,Q,K,L,H⟩;go_wp2;clear aO C D w x F Q K L H T P;go_big_region_o;all_goals(
 clear ab ac ad ah Aq aP aF aq ar aH aI ax az an ap;have aR:d<=3001:=by have aO:=V X;omega
 go_wp2;go_roundg A;case measure=>omega
 ·(let⟨aO,C,D,w,x,F,Q,K,L,H⟩:=X;refine⟨d+1,o+1,swp c g j,dd,G,by rw[size_swp];omega,?_,(show ao _ from ?_)⟩;{rw[R.out.1,R.out.2,au,<-w,<-x];exact sortWorldK_swp_c aK.bz a f b ay l.out o c #[] aj g j G G};{show _=_;rw[<-S,C,D,oT];rfl}))};{have T:¬(d:Int)<i:=G;obtain rfl:gk=0:=G;go_wp2;go_end0;exact⟨U,o,by rw[<-S];rfl⟩})
def Xy(h:Nat){g b d:Nat}{e}(k:HoldsK aK.bz 4 f a 0 e)(o:a<J f.1)(l:g+d<=b)(n:b+d<=J e)(i:J e<=3001):a_ aL 265 #[bL a 0 (J e) h,M g,M b,M d,ez (.func 79) #[] #[]] f λj q=>j=bh (bZ #[])/\∃p,q=e7 aK.bz 4 f a 0 p (oT g b d e) #[]:=
 Xx h (λ_=>U) Tryz.sizeOf83 k o l n i
end
section
open Go.RowKit Go.Sort Go.Shelf
def Xz{b}(d:HoldsK aK.bz 4 f a 0 b):f=e7 aK.bz 4 f a 0 0 b #[]:=by unfold e7;rw[grow_empty];exact(putRowK_self aK.bz 4 f a 0 b d).symm
def Qi(e m){d}(b g h)(j:a<J f.1)(i:J b=J d):e7 aK.bz 4 (e7 aK.bz 4 f a 0 e d g) a 0 m b h=e7 aK.bz 4 f a 0 (e+m) b (g++h):=grow_step_growK aK.bz 4 f g h e m a 0 d b j i
def XA(a n j e g i:Nat)(b c h d)(u:HoldsK aK.bz 4 d a 0 b)(l:a<J d.1)(p:J c=J b)(w:j+g<=e)(y:e+g<=J b)(x:J b<=3001):a_ aL 265 #[bL a 0 (J b) n,M j,M e,M g,ez (.func 79) #[] #[]] (e7 aK.bz 4 d a 0 i c h) λt q=>t=bh (bZ #[])/\∃k,q=e7 aK.bz 4 d a 0 k (oT j e g c) h:=by have r:=wi aK.bz 4 d a 0 b c i h u l p;have o:=Xy n r (eA l<|size_sortWorldK_c aK.bz 4 d a 0 i c h) w G G;rw[p]at o;refine o.m ?_;rintro q ⟨k,rfl⟩;refine⟨U,i+k,?_⟩;rw[Qi i k (oT j e g c) h #[] l<|D7 _ _ _ _];simp
def XB(aH:Nat){B m C:Nat}(u:Nat){q h}(t w)(A)(aI:HoldsK aK.bz 4 f a 0 q)(a1:a<J f.1)(D:J h=J q)(aF:J q<=3001)(T:h.1=w++(i++(p++A)))(aj:E w=B)(an:B+E i=m)(al:m+E p=C)(ap:0<E i)(aq:0<E p):a_ aL 240 #[bL a 0 (J q) aH,M B,M m,M C,ez (.func 79) #[] #[]] (e7 aK.bz 4 f a 0 u h t) λaW a9=>aW=bh (bZ #[])/\∃l R,a9=e7 aK.bz 4 f a 0 l R t/\R.1=w++(p++(i++A)):=by
 have au:J q=E w+(E i+(E p+E A)):=by rw[<-D,<-p6,T];simp
 have P:=O λu h D B C ax (aY:B+ax<=C) (a0:C+ax<=J q)=>XA a aH B C ax u q h t f aI a1 D aY a0 aF;have aS:(m:Int)-B=E i:=G;have aM:(C:Int)-m=E p:=G;let⟨av,aa⟩:=bm<|E i;let⟨aw,Z⟩:=bm<|E p;rw[<-aa]at aS;rw[<-Z]at aM;have aP:=O<|cj au<|cj D<|cj T<|cj aj<|cj an<|cj al<|cj ap<|cj aq<|cj aa Z;have:m<=3001:=G;have:av<=3001:=G;have:aw<=3001:=G;clear aI au D T aj an al ap aq aF aa Z;let⟨bl,F⟩:=bm<|e7 aK.bz 4 f a 0 u h t;rw[<-F];replace F:=O F;go_wp2;go_loopg [10,11] (av+aw) (λaX a6 a8 wr=>∃(n b:Nat),a6=M n/\a8=M b/\0<n/\0<b/\n+b<=aX/\n<=m/\n<=3001/\b<=3001/\ao (∃(u:Nat) (h:Array aK) (e c d o:List aK),E e+n=m/\E c=n/\E d=b/\J h=J q/\h.1=e++(c++(d++o))/\e++(d++(c++o))=w++(p++(i++A))/\wr=e7 aK.bz 4 f a 0 u h t));·(let⟨au,D,T,aj,an,al,ap,aq,aa,Z⟩:=aP;exact⟨av,aw,dl,dl,G,G,cO _,G,G,G,u,h,w,i,p,A,G,G,G,D,T,U,F⟩)
 ·(
 obtain⟨n,b,rfl,rfl,aO,a2,ba,bd,aR,aU,X⟩:=hrel;let⟨ay,x,e,c,d,o,Y,S,ah,y,H,I,K⟩:=X;have ad:J q=E e+(E c+(E d+E o)):=by rw[<-y,<-p6,H];simp
 obtain⟨j,bf⟩:∃j:Nat,j+n=m:=⟨E e,Y⟩;have:(m:Int)-n=j:=G;by_cases a3:n=b;{subst a3;have z:=O<|P ay x y j m n G G;have Q:ao (∀l,∃a5 R,e7 aK.bz 4 f a 0 l (oT j m n x) t=e7 aK.bz 4 f a 0 a5 R t/\R.1=w++(p++(i++A))):=λl=>by{refine⟨l,_,U,?_⟩;have:=D6 c d x e [] o G fi;rw[S,show E e=j from G,show j+n+E ([]:List aK)=m from G]at this;rw[this,<-I];rfl};rw[<-K]at z;clear X Y S ah y H I K ad P F;go_wp2_with fail;refine z.m λaJ ⟨W,r⟩=>?_;replace r:=O r;go_wp2;go_end0;refine⟨U,?_⟩;rw[r];exact Q W};{
 have bc:((n:Int) != (b:Int))=aD:=CE
 by_cases bb:b<n;{
 have aV:(b:Int)<n:=G;obtain⟨g,a4⟩:∃g:Nat,g+b=n:=⟨n-b,G⟩;have aT:(n:Int)-b=g:=G;have z:=O<|P ay x y j m b G G;have Q:ao (∀l,∃(u:Nat) (h:Array aK) (e c d o:List aK),E e+g=m/\E c=g/\E d=b/\J h=J q/\h.1=e++(c++(d++o))/\e++(d++(c++o))=w++(p++(i++A))/\e7 aK.bz 4 f a 0 l (oT j m b x) t=e7 aK.bz 4 f a 0 u h t):=λl=>by{have az:c=be b c++bi b c:=b5<|ku _ _;have L:E (be b c)=b:=ct;have V:E (bi b c)=g:=ct;generalize be b c=aB at az L;generalize bi b c=ab at az V;subst az;have:=D6 aB d x e ab o G (by rw[H];simp);rw[L,show E e=j from G,show j+b+E ab=m from G]at this;refine⟨l,_,e++d,ab,aB,o,ct,V,L,by rw[D7];exact y,by rw[this];simp,?_,U⟩;rw[<-I];simp};rw[<-K]at z;clear X Y S ah y H I K ad P F;go_wp2_with fail;refine z.m λaJ ⟨W,r⟩=>?_;replace r:=O r;go_wp2;go_roundg (g+b);case measure=>omega
 ·(refine⟨g,b,dl,dl,G,a2,cO _,G,G,aU,?_⟩;rw[r];exact Q W)};{
 have aV:¬(b:Int)<n:=G;obtain⟨g,a4⟩:∃g:Nat,g+n=b:=⟨b-n,G⟩;have aT:(b:Int)-n=g:=G;obtain⟨N,bj⟩:∃N:Nat,N+n=m+b:=⟨m+b-n,G⟩;have:(m:Int)+b-n=N:=G;have z:=O<|P ay x y j N n G G;have Q:ao (∀l,∃(u:Nat) (h:Array aK) (e c d o:List aK),E e+n=m/\E c=n/\E d=g/\J h=J q/\h.1=e++(c++(d++o))/\e++(d++(c++o))=w++(p++(i++A))/\e7 aK.bz 4 f a 0 l (oT j N n x) t=e7 aK.bz 4 f a 0 u h t):=λl=>by{have ar:d=be g d++bi g d:=b5<|ku _ _;have L:E (be g d)=g:=ct;have V:E (bi g d)=n:=ct;generalize be g d=ac at ar L;generalize bi g d=aC at ar V;subst ar;have:=D6 c aC x e ac o G (by rw[H];simp);rw[S,show E e=j from G,show j+n+E ac=N from G]at this;refine⟨l,_,e,aC,ac,c++o,G,V,L,by rw[D7];exact y,G,?_,U⟩;rw[<-I];simp};rw[<-K]at z;clear X Y S ah y H I K ad P F;go_wp2_with fail;refine z.m λaJ ⟨W,r⟩=>?_;replace r:=O r;go_wp2;go_roundg (n+g);case measure=>omega
 ·(refine⟨n,g,dl,dl,aO,G,cO _,G,aR,G,?_⟩;rw[r];exact Q W)}})
end
section
open Go.RowKit Go.Sort
section
variable {α:Type} (lt:α->α->Bool)
theorem Qj(i:me lt){e d c}(h:gP lt<|e++[c])(j:lt c d=aD):∀b∈e++[c],lt b d=aD:=λb a=>by
 rcases i_.1 a with a|a
 ·cases g:lt b d
  ·have:=i.2 _ _ _ ((nK.1 h).2.2 b a c ax) g
   grind
  ·rfl
 grind
theorem XC(i:me lt){b c d}(h:gP lt<|b++c)(e:∀a,b.getLast? = ae a->lt a d=aD)(g:∀a,c.head? = ae a->lt a d=ak):eh lt [d] (b++c)=b++d::c:=by
 let p:∀a∈b,lt a d=aD:=by{rcases pf b with rfl|⟨k,j,rfl⟩;{simp};{rw[pe]at*;exact Qj lt i (nK.1 h).1<|e j ax}};have:=tG lt [d] c [] b (λn q l o=>by grind) ax;rw[iF,Js]at this;rw[this];congr 1;cases c with
 |nil=>simp
 |cons a c=>rw[oS lt _ _<|g a U,Js]
theorem XD(k:me lt){b c d}(j:gP lt<|b++c)(h:∀a,b.getLast? = ae a->lt d a=ak)(i:∀a,c.head? = ae a->lt d a=aD):eh lt (b++c) [d]=b++d::c:=by
 let r:∀a∈b,lt d a=ak:=by{rcases pf b with rfl|⟨n,g,rfl⟩;{simp};{rw[pe]at*;intro a e;let l:=h g ax;rcases i_.1 e with e|e;{exact k.nt _ _ _ l<|(nK.1 (nK.1 j).1).2.2 a e g ax};grind}};have:=tG lt c [d] b [] ax (λo q p t=>by grind);rw[iF,D0]at this;rw[this];congr 1;cases c with
 |nil=>simp
 |cons a c=>rw[nP lt _ _<|i a U,D0]
theorem XE(l:me lt){g c h d}(o:gP lt<|g++c)(p:gP lt<|h++d)(w:∀e b,g.getLast? = ae e->d.head? = ae b->lt b e=ak)(x:∀e b,c.head? = ae e->h.getLast? = ae b->lt b e=aD):eh lt (g++c) (h++d)=eh lt g h++eh lt c d:=by
 refine tG lt c d g h (λk j i a=>?_) λi a k j=>?_;{
 rcases pf h with rfl|⟨A,n,rfl⟩;{grind};rw[pe]at*;cases c with
 |nil=>grind
 |cons e c=>{let y:=x e n U ax;let:=Qj lt l (nK.1 p).1 y k j;rcases fw.1 a with rfl|a;{omega};{let t:=(sI.1 (nK.1 o).2.1).1 i a;cases u:lt k i;{let:=l.2 _ _ _ u t;grind};{rfl}}}};{
 rcases pf g with rfl|⟨z,n,rfl⟩;{grind};rw[pe]at*;cases d with
 |nil=>grind
 |cons b d=>{let q:=w n b ax U;let r:lt b i=ak:=by{rcases i_.1 a with a|a;{exact l.2 _ _ _ q<|(nK.1 (nK.1 o).1).2.2 i a n ax};grind};rcases fw.1 j with rfl|j;{omega};{exact l.2 _ _ _ ((sI.1 (nK.1 p).2.1).1 k j) r}}}
end
section
variable {α:Type} [Inhabited α]
def D8{d:Array α}{X B Z}(b:d.1=X++(B++Z))(c:a<E B):d[E X+a]! = B[a]:=by
 obtain rfl:d=c7 (X++(B++Z)):=by rw[<-b]
 grind
omit [Inhabited α]in
def D9{b:List α}{c}(g:a<=E b)(d:(be a b).getLast? = ae c):∃(e:a-1<E b),0<a/\b[a-1]=c:=by grind
omit [Inhabited α]in
def D_{b:List α}{c}(d:(bi a b).head? = ae c):∃(e:a<E b),b[a]=c:=by rw[List.head?_drop]at d;grind
end
end
section
open Go.RowKit Go.Sort Go.Shelf
abbrev cR:aK->aK->Bool:=ltOf mf
section
variable {ay k g:Nat} {dk:Array aK}{W:World}
def uH(b:∀e,E (aK.bz e)=k)(c:HoldsK aK.bz k W g ay dk)(a)(d:a<J dk):Sem.run aL (loadCellsFrom (N g<|ay+a*k) 0 k #[]) W=.ok (c7<|aK.bz dk[a]!) W:=
 run_loadCellsFrom_list _ _ _ _ k (b _) (HoldsK.cells c b d)
def Ju(b:a<J dk):a*k+k<=J dk*k:=by let:=tp k (show a+1<=J dk from b);grind
def Qk(c:∀i,E (aK.bz i)=k)(d:HoldsK aK.bz k W g ay dk)(a b)(e:a<J dk)(h:b<J dk):Sem.run aL (storeCells (N g<|ay+a*k) (aK.bz dk[b]!) 0) W=.ok () (W.setCells g (ay+a*k)<|aK.bz dk[b]!)/\Sem.run aL (storeCells (N g<|ay+b*k) (aK.bz dk[a]!) 0) (W.setCells g (ay+a*k)<|aK.bz dk[b]!)=.ok () ((W.setCells g (ay+a*k)<|aK.bz dk[b]!).setCells g (ay+b*k)<|aK.bz dk[a]!):=
 ⟨stores_of_holds _ d (a*k) _ (by rw[c,size_flatK];exact Ju e)<|BD _,
  stores_of_holds _ (holds_setCells_c d (a*k) _ (by rw[c,size_flatK];exact Ju e)) (b*k) _ (by rw[c,size_setMany,size_flatK];exact Ju h) (BD _)⟩
end
def MY(h:φ:=by rw[EE];exact wi aK.bz k w g ay d dk _ _ HH HG hs):φ:=h
def NE(h:φ:=by rw[hwr];exact sortWorldK_swp_c aK.bz k w g ay HK q1 dk1 os1 HG p r G G):φ:=h
def ML(h:φ:=by rw[hwr];exact sortWorldK_grown_c aK.bz k w g ay q1 n' dk os1 os'):φ:=h
def Xa{ay k g X m n o}(a3:∀e,E (aK.bz e)=k)(bQ:∀w,Sem.run aL (Go.sizeOf 83) w=.ok k w){d dk q e Z w}(aW:HoldsK aK.bz k w g ay d)(a0:g<J w.1)(hs:J dk=J d)(bS:J d<=3001)(t:dk.1=i++e::(x++Z))(A:E i=X)(bU:X+1=m)(bT:m+E x=n)(bv:0<E x)(F:me cR)(P:gP cR x):a_ aL 202 #[bL g ay (J d) a,M X,M m,M n,ez (.func 79) #[] #[]] (e7 aK.bz k w g ay o dk q) λav aO=>av=bh (bZ #[])/\∃bG os' aV,aO=e7 aK.bz k w g ay bG aV os'/\aV.1=i++(eh cR [e] x++Z):=by
 have bD:aL.follows Departure.mixedOrders=aD:=dl;have Aq:=Tryz.isAgg83;have D:J d=E i+(1+(E x+E Z)):=by rw[<-hs,<-p6,t];grind
 have aF:dk[X]! = e:=A▸y8 t
 have HK:=O a3;have HH:=O aW;have HG:=O a0;have ac:=O<|cj D<|cj hs<|cj t<|cj A<|cj F P;have:n<=3001:=G;have ar:n<=J d:=G;have a8:m<=n:=G;have:((m:Int)-X==1)=aD:=by grind
 clear a3 aW a0 D t A F P;let⟨bY,L⟩:=bm<|e7 aK.bz k w g ay o dk q;rw[<-L];replace L:=O L;go_wp2;go_loopg [10,11] (n-m) (λaw bK bM wr=>∃(c l:Nat),bK=M c/\bM=M l/\m<=c/\c<=l/\l<=n/\l-c<=aw/\ao (∃o q,wr=e7 aK.bz k w g ay o dk q)/\ao ((c=m\/cR dk[c-1]! e=aD)/\(l=n\/cR dk[l]! e=ak)));·exact⟨m,n,U,U,cO _,a8,cO _,cO _,⟨o,q,L⟩,bJ U,bJ U⟩
 ·(
 obtain⟨c,l,rfl,rfl,aR,bb,a2,bc,aS,ap⟩:=hrel;by_cases bz:c<l;{
 have bd:(c:Int)<l:=G;let⟨j,a1⟩:=du<|(c+l)/2;have:((c:Int)+l)/2=(j:Int):=G;have:c<=j:=G;have:j<l:=G;let⟨q1,os1,hwr⟩:=aS;have EE:∀n' os',grow (dS wr n') os'=e7 aK.bz k w g ay (q1+n') dk (os1++os'):=λn' os'=>ML
 have aa:∀n' os',HoldsK aK.bz k (grow (dS wr n') os') g ay dk:=λn' os'=>MY
 let⟨z,y⟩:=du<|dk[j]!;have bR:∀n' os',Sem.run aL (loadCellsFrom (N g<|ay+j*k) 0 k #[]) (grow (dS wr n') os')=.ok (c7<|aK.bz z) (grow (dS wr n') os'):=λn' os'=>by rw[<-y];exact uH HK (aa n' os') j G
 have bX:∀n' os',Sem.run aL (loadCellsFrom (N g<|ay+X*k) 0 k #[]) (grow (dS wr n') os')=.ok (c7<|aK.bz e) (grow (dS wr n') os'):=λn' os'=>by rw[<-aF];exact uH HK (aa n' os') X G
 have aT:∀H,a_ aL 79 #[ce<|c7<|aK.bz z,ce<|c7<|aK.bz e] H λav aO=>av=bh (M<|mf z e)/\∃o os',aO=grow (dS H o) os':=λH=>Eg z e H;have ab:=O aT;have aP:=O EE;have:(j:Int)<J d:=G;have:(X:Int)<J d:=G;have a6:=O y;have:=O a1;have:=O aF;clear EE aa hwr a1 y aT aF;generalize K:mf z e=bs at ab;replace K:=O K;by_cases bW:bs<0;{
 go_wp2;go_quiet_grown (first|(go_at_call 79;refine Calls.grown_of<|ab _));go_wp2;go_roundg (l-(j+1));case measure=>omega
 ·(refine⟨j+1,l,dl,U,G,G,a2,cO _,⟨_,_,aP _ _⟩,bE ?_,ap.2⟩;show ltOf mf dk[j]! e=aD;rw[a6];unfold ltOf;rw[K];simp_all)};{
 go_wp2;go_quiet_grown (first|(go_at_call 79;refine Calls.grown_of<|ab _));go_wp2;go_roundg (j-c);case measure=>omega
 case rel=>(refine⟨c,j,U,dl,aR,G,G,cO _,⟨_,_,aP _ _⟩,ap.1,bE ?_⟩;show ltOf mf dk[j]! e=ak;rw[a6];rw[ltOf,K];simp_all)}};{
 have bd:¬(c:Int)<l:=G;obtain rfl:c=l:=G;obtain⟨h,aX⟩:∃h,c=m+h:=⟨c-m,G⟩;have bt:ao (eh cR [e] x=be h x++e::bi h x):=by{
 let⟨D,bB,t,A,F,P⟩:=ac;let⟨B,C⟩:=ap;have bw:dk.1=(i++[e])++(x++Z):=by rw[t];simp
 have ba:E (i++[e])=m:=ct;have aY:∀b (j:b<E x),dk[m+b]! = x[b]:=λb j=>ba▸D8 bw j
 rw[ao];conv=>lhs;rw[<-ku h x]
 refine XC cR F (by rw[ku];omega) (λz y=>?_) λz y=>?_;{let⟨ax,bV,az⟩:=D9 G y;rcases B with B|B;{omega};{rw[show c-1=m+(h-1)from G,aY _ ax,az]at B;exact B}};{let⟨ax,az⟩:=D_ y;rcases C with C|C;{omega};{rw[aX,aY _ ax,az]at C;exact C}}};have al:h<=E x:=G;have:(c:Int)-1=X+h:=G;have:=O aX;have aB:X+h+1<=n:=G;have:(c:Int)<=3001:=G;have:1<=(c:Int):=G;go_wp2;go_loopg [13] h (λaw bI wr=>∃(b:Nat),bI=M (X+b:Nat)/\b+aw=h/\ao (∃o q dk1,wr=e7 aK.bz k w g ay o dk1 q/\J dk1=J d/\dk1.1=i++(be b x++e::(bi b x++Z))));·(let⟨q1,os1,hwr⟩:=aS;let⟨D,bB,t,A,F,P⟩:=ac;exact⟨0,U,G,q1,os1,dk,hwr,hs,fi⟩)
 ·(
 obtain⟨b,rfl,ah,ad⟩:=hrel;by_cases aj:b<h;{
 let⟨p,br⟩:=du<|X+b;rw[br];have bf:(p:Int)<X+h:=G;have a9:p<=3001:=G;let⟨q1,os1,dk1,hwr,aC,I⟩:=ad;have Q:HoldsK aK.bz k (bx wr) g ay dk1:=hwr▸wi aK.bz k w g ay d dk1 _ _ HH HG aC
 have aH:=uH HK Q p G;let⟨r,a4⟩:=du<|p+1;have aI:=uH HK Q r G;let⟨aJ,aM⟩:=Qk HK Q p r G G;have an:ao (∃o q au,(((bx wr).setCells g (ay+p*k)<|aK.bz dk1[r]!).setCells g (ay+r*k)<|aK.bz dk1[p]!)=e7 aK.bz k w g ay o au q/\J au=J d/\au.1=i++(be (b+1) x++e::(bi (b+1) x++Z))):=by{refine⟨q1+1,os1,swp dk1 p r,?_,by rw[size_swp];omega,?_⟩;{exact NE};{have D:=V ac;have aU:b<E x:=G;have a5:=D4 (d:=dk1) (X:=i++be b x) (Y:=[]) (Z:=bi (b+1) x++Z) (u:=e) (v:=x[b]) (by rw[I,jM aU];exact CL);rw[show(i++be b x).length=p from ct,show p+1+E ([]:List aK)=r from a4]at a5;rw[a5,g8 aU];exact CL}};let⟨bP,W⟩:=du<|dk1[r]!;let⟨bO,T⟩:=du<|dk1[p]!;rw[W]at aI aJ;rw[T]at aH;rw[T,W]at aM an;let⟨bp,R⟩:=du<|aK.bz bO;let⟨bq,S⟩:=du<|aK.bz bP;have:E bp=k:=R▸HK _
 have:E bq=k:=S▸HK _
 rw[R,S]at an aM;rw[S]at aI aJ;rw[R]at aH;have bn:(p:Int)<J d:=G;have bo:(r:Int)<J d:=G;have bu:(p:Int)+1=r:=G;have bj:=iV (p:Int)
 have bl:=iV (r:Int)
 have bF:0<=(p:Int):=G;have bH:0<=(r:Int):=G;have aq:ao (b+gk=h/\b<h/\X+b=p/\h<=E x/\X+h+1<=n/\n<=J d):=⟨ah,aj,br,al,aB,ar⟩;clear Q hwr aC I ad R S W T a4 ah aj br al aB hs bb aR bc a2 bz bv a8 ar;go_wp2;clear a9 bf;go_big_region_o;all_goals(
 clear aH aI aJ aM Aq bQ bD bj bl bF bH bu bn bo;have a9:p<=3001:=cd<|V aq
 go_wp2;go_roundg (h-(b+1));case measure=>let:=V aq;omega
 ·(let⟨ah,aj,br,al,aB,ar⟩:=aq;exact⟨b+1,by rw[<-br];rfl,G,an⟩))};{let:¬((X+b:Nat):Int)<(X:Int)+h:=G;obtain rfl:b=h:=G;let⟨p,br⟩:=du<|X+b;let:¬(p:Int)<X+b:=G;rw[br];go_wp2;refine dQ (v:=bZ #[]) (by simp[c_,Tryz.results202]) U ?_;let⟨q1,os1,dk1,hwr,aC,I⟩:=ad;exact⟨U,q1,os1,dk1,hwr,by rw[I,bt];simp⟩})})
end
section
open Go.RowKit Go.Sort Go.Shelf
def Xb{ay k g e m t n}(a8:∀q,E (aK.bz q)=k)(bY:∀w,Sem.run aL (Go.sizeOf 83) w=.ok k w){d dk o h Z w}(a1:HoldsK aK.bz k w g ay d)(a4:g<J w.1)(hs:J dk=J d)(bS:J d<=3001)(bw:dk.1=i++(x++h::Z))(C:E i=e)(a0:e+E x=m)(aY:m+1=t)(bD:2<=E x)(K:me cR)(T:gP cR x):a_ aL 202 #[bL g ay (J d) a,M e,M m,M t,ez (.func 79) #[] #[]] (e7 aK.bz k w g ay n dk o) λav aJ=>av=bh (bZ #[])/\∃bI os' aW,aJ=e7 aK.bz k w g ay bI aW os'/\aW.1=i++(eh cR x [h]++Z):=by
 have:aL.follows Departure.mixedOrders=aD:=dl;have:=Tryz.isAgg83;have I:J d=E i+(E x+(1+E Z)):=by rw[<-hs,<-p6,bw];grind
 have y:dk[m]! = h:=by{have:=y8 (d:=dk) (X:=i++x) (u:=h) (Z:=Z) (by grind);grind};have HK:=O a8;have HH:=O a1;have HG:=O a4;have al:=O<|cj I<|cj hs<|cj bw<|cj C<|cj K T;have bH:t<=3001:=G;have bv:t<=J d:=G;have bs:e<=m:=G;have bd:m<t:=G;have:((m:Int)-e==1)=ak:=by grind
 have:((t:Int)-m==1)=aD:=by grind
 clear a8 a1 a4 I bw C K T;let⟨bX,S⟩:=bm<|e7 aK.bz k w g ay n dk o;rw[<-S];replace S:=O S;go_wp2;go_loopg [14,15] (m-e) (λaw bM bO wr=>∃(c j:Nat),bM=M c/\bO=M j/\e<=c/\c<=j/\j<=m/\j-c<=aw/\ao (∃n o,wr=e7 aK.bz k w g ay n dk o)/\ao ((c=e\/cR h dk[c-1]! = ak)/\(j=m\/cR h dk[j]! = aD)));·exact⟨e,m,U,U,cO _,bs,cO _,cO _,⟨n,o,S⟩,bJ U,bJ U⟩
 ·(
 obtain⟨c,j,rfl,rfl,aO,bn,a6,bo,aP,P⟩:=hrel;by_cases bF:c<j;{
 have bp:(c:Int)<j:=G;let⟨X,a5⟩:=du<|(c+j)/2;have:((c:Int)+j)/2=(X:Int):=G;have:c<=X:=G;have:X<j:=G;let⟨q1,os1,hwr⟩:=aP;have EE:∀n' os',grow (dS wr n') os'=e7 aK.bz k w g ay (q1+n') dk (os1++os'):=λn' os'=>ML
 have ah:∀n' os',HoldsK aK.bz k (grow (dS wr n') os') g ay dk:=λn' os'=>MY
 let⟨q,aI⟩:=du<|dk[X]!;have bR:∀n' os',Sem.run aL (loadCellsFrom (N g<|ay+X*k) 0 k #[]) (grow (dS wr n') os')=.ok (c7<|aK.bz q) (grow (dS wr n') os'):=λn' os'=>by rw[<-aI];exact uH HK (ah n' os') X G
 have bW:∀n' os',Sem.run aL (loadCellsFrom (N g<|ay+m*k) 0 k #[]) (grow (dS wr n') os')=.ok (c7<|aK.bz h) (grow (dS wr n') os'):=λn' os'=>by rw[<-y];exact uH HK (ah n' os') m G
 have aR:∀L,a_ aL 79 #[ce<|c7<|aK.bz h,ce<|c7<|aK.bz q] L λav aJ=>av=bh (M<|mf h q)/\∃n os',aJ=grow (dS L n) os':=λL=>Eg h q L;have aj:=O aR;have aM:=O EE;have:(X:Int)<J d:=G;have:(m:Int)<J d:=G;have ba:=O aI;have:=O a5;have:=O y;clear EE ah hwr a5 aI aR y;generalize R:mf h q=bz at aj;replace R:=O R;by_cases aC:bz<0;{
 go_wp2;go_quiet_grown (first|(go_at_call 79;refine Calls.grown_of<|aj _));go_wp2;go_roundg (X-c);case measure=>omega
 ·(refine⟨c,X,U,dl,aO,G,G,cO _,⟨_,_,aM _ _⟩,P.1,bE ?_⟩;show ltOf mf h dk[X]! = aD;rw[ba];unfold ltOf;rw[R];simp_all)};{
 have:=fI aC;replace aC:=O aC;go_wp2;go_quiet_grown (first|(go_at_call 79;refine Calls.grown_of<|aj _));go_wp2;go_roundg (j-(X+1));case measure=>omega
 ·(refine⟨X+1,j,dl,U,G,G,a6,cO _,⟨_,_,aM _ _⟩,bE ?_,P.2⟩;show ltOf mf h dk[X]! = ak;rw[ba];rw[ltOf,R];assumption)}};{
 have bp:¬(c:Int)<j:=G;obtain rfl:c=j:=G;obtain⟨l,aB⟩:∃l,c=e+l:=⟨c-e,G⟩;have bB:ao (eh cR x [h]=be l x++h::bi l x):=by{
 let⟨I,bG,bw,C,K,T⟩:=al;let⟨D,F⟩:=P;have a3:∀b (X:b<E x),dk[e+b]! = x[b]:=λb X=>C▸D8 bw X
 rw[ao];conv=>lhs;rw[<-ku l x]
 refine XD cR K (by rw[ku];omega) (λq y=>?_) λq y=>?_;{let⟨ax,bV,az⟩:=D9 G y;rcases D with D|D;{omega};{rw[show c-1=e+(l-1)from G,a3 _ ax,az]at D;exact D}};{let⟨ax,az⟩:=D_ y;rcases F with F|F;{omega};{rw[aB,a3 _ ax,az]at F;exact F}}};have br:l<=E x:=G;have aT:(c:Int)=e+l:=G;have aX:=O<|cj aB aT;have:=O<|cj a0 aY;have:(c:Int)<=3001:=G;let⟨A,a2⟩:=du<|E x;have aq:e+A=m:=G;clear aB aT aY P a0;go_wp2;go_loopg [17] (A-l) (λaw bK wr=>∃(b:Nat),bK=M (e+b:Nat)/\l+aw=b/\b<=A/\ao (∃n o dk1,wr=e7 aK.bz k w g ay n dk1 o/\J dk1=J d/\dk1.1=i++(be b x++h::(bi b x++Z))));·(let⟨q1,os1,hwr⟩:=aP;let⟨I,bG,bw,C,K,T⟩:=al;refine⟨A,by first|(rw[aq])|go_num,G,cO _,q1,os1,dk,hwr,hs,?_⟩;rw[<-a2,jc,tl,iF];exact bw)
 ·(
 obtain⟨b,rfl,ap,aV,an⟩:=hrel;by_cases aS:l<b;{
 let⟨p,H⟩:=du<|e+b;rw[H];have bq:(c:Int)<p:=cd aX.2
 have bf:p<=3001:=G;let⟨q1,os1,dk1,hwr,aH,B⟩:=an;have W:HoldsK aK.bz k (bx wr) g ay dk1:=by rw[hwr];exact wi aK.bz k w g ay d dk1 _ _ HH HG aH
 obtain⟨r,aF⟩:∃r,r+1=p:=⟨p-1,G⟩;have bb:=uH HK W p G;have bc:=uH HK W r G;let⟨bj,bl⟩:=Qk HK W p r G G;have ar:ao (∃n o au,(((bx wr).setCells g (ay+p*k)<|aK.bz dk1[r]!).setCells g (ay+r*k)<|aK.bz dk1[p]!)=e7 aK.bz k w g ay n au o/\J au=J d/\au.1=i++(be (b-1) x++h::(bi (b-1) x++Z))):=by{refine⟨q1+1,os1,swp dk1 p r,?_,by rw[size_swp];omega,?_⟩;{exact NE};{have I:=V al;obtain⟨z,rfl⟩:∃z,b=z+1:=⟨b-1,G⟩;have aU:z<E x:=G;rw[g8 aU]at B;have a9:=D4 (d:=dk1) (X:=i++be z x) (Y:=[]) (Z:=bi (z+1) x++Z) (u:=x[z]) (v:=h) (by rw[B];exact CL);rw[show(i++be z x).length=r from ct,show r+1+E ([]:List aK)=p from aF]at a9;rw[Qd _ G,a9,DS,jM aU];exact CL}};let⟨bQ,ad⟩:=du<|dk1[r]!;let⟨bP,ac⟩:=du<|dk1[p]!;rw[ad]at bc bj;rw[ac]at bb;rw[ac,ad]at bl ar;let⟨bt,aa⟩:=du<|aK.bz bP;let⟨bu,ab⟩:=du<|aK.bz bQ;have bT:E bt=k:=by rw[<-aa];exact HK _
 have bU:E bu=k:=by rw[<-ab];exact HK _
 rw[aa,ab]at ar bl;rw[ab]at bc bj;rw[aa]at bb;have:(p:Int)<J d:=G;have:(r:Int)<J d:=G;have:(p:Int)-1=r:=G;have:=iV (p:Int)
 have:=iV (r:Int)
 have:0<=(p:Int):=G;have:0<=(r:Int):=G;have Q:ao (l+gk=b/\l<b/\e+b=p/\r+1=p/\b<=A/\e+A=m/\m<t/\t<=3001):=⟨ap,aS,H,aF,aV,aq,bd,bH⟩;clear W hwr aH B an aa ab ad ac aF ap aS H br hs bn aO bo a6 bF bD bd bv a2 aq aV;go_wp2;clear bf bq;go_big_region_o;all_goals(
 have bf:p<=3001:=cd<|V Q
 let:1<=p:=cd<|V Q
 go_wp2;go_roundg (b-1-l);case measure=>let:=V Q;omega
 ·(have ap:=V Q;exact⟨b-1,by rw[show e+(b-1)=p-1 from G];first|rfl|go_num,G,G,ar⟩))};{
 obtain rfl:b=l:=G;let⟨p,H⟩:=du<|e+b;let:¬(c:Int)<p:=cd aX.2
 rw[H];go_wp2;refine dQ (v:=bZ #[]) (by simp[c_,Tryz.results202]) U ?_;let⟨q1,os1,dk1,hwr,aH,B⟩:=an;exact⟨U,q1,os1,dk1,hwr,by rw[B,bB];simp⟩})})
end
section
open Go.RowKit Go.Sort Go.Shelf
def P1{d:Array aK}(g:HoldsK aK.bz 4 f a 0 d){j:Nat}(k:j<J d):aA f (N a<|j*4)=ae (am<|D d[j]!.owner)/\aA f (N a<|j*4+1)=ae (M d[j]!.aP)/\aA f (N a<|j*4+2)=ae (M d[j]!.type)/\aA f (N a<|j*4+3)=ae (am<|D d[j]!.data):=by let e:=λc h=>by{have:=(g.cell (i:=j) (c:=c) k h).1;rwa [fM]at this};exact⟨e 0 G,e 1 G,e 2 G,e 3 G⟩
def Jv(h n:Nat)(j:Array aK)(l:aQ)(f:Nat):Prop:=
 ∀(c m e r:Nat) (g:Array aK) (p:Array Obj) (d a b i:List aK),J g=J j->g.1=d++(a++(b++i))->E d=c->c+E a=m->m+E b=e->0<E a->0<E b->gP cR a->gP cR b->e-c<=f ->
  a_ aL 202 #[bL h 0 (J j) n,M c,M m,M e,ez (.func 79) #[] #[]] (e7 aK.bz 4 l h 0 r g p) λo u=>
   o=bh (bZ #[])/\∃t q k,u=e7 aK.bz 4 l h 0 t k q/\k.1=d++(eh cR a b++i)
def Xc(I:me cR){g:Array aK}{Z:List aK}{m c h s s0 r0 e2:Nat}(z:g.1=i++(p++(x++Z)))(D:E i=a)(U:a+E p=m)(T:m+E x=c)(F:gP cR p)(H:gP cR x)(S:(a+c)/2=h)(Y:s0<=s)(aa:s<=r0)(W:e2+s=h+m)(V:(h<m/\s0+c=h+m/\r0=h)\/(m<=h/\s0=a/\r0=m))(k:s=s0\/cR g[e2]! g[s-1]! = ak)(l:s=r0\/cR g[e2-1]! g[s]! = aD):∃n u o w,p=n++u/\x=o++w/\a+E n=s/\m+E o=e2/\eh cR p x=eh cR n o++eh cR u w/\a<=s/\s<=m/\m<=e2/\e2<=c:=by
 let K:a<=s:=G;let L:s<=m:=G;let M:m<=e2:=G;let N:e2<=c:=G;let X:∀e (j:e<E p),g[a+e]! = p[e]:=λe j=>by rw[<-D];exact D8 z j
 let y:∀e (j:e<E x),g[m+e]! = x[e]:=λe j=>by{have:=D8 (d:=g) (X:=i++p) (B:=x) (Z:=Z) (by rw[z];simp) j;rw[show(i++p).length=m from ct]at this;exact this};refine⟨be (s-a) p,bi (s-a) p,be (e2-m) x,bi (e2-m) x,b5<|ku _ _,b5<|ku _ _,ct,ct,?_,K,L,M,N⟩;conv=>lhs;rw[<-ku (s-a) p,<-ku (e2-m) x]
 refine XE cR I (by rw[ku];exact F) (by rw[ku];exact H) (λO Q b q=>?_) λO Q b q=>?_;{let⟨r,A,P⟩:=D9 G b;let⟨t,C⟩:=D_ q;rcases k with k|k;{omega};{rw[show s-1=a+(s-a-1)from G,X _ r,P,show e2=m+(e2-m)from G,y _ t,C]at k;exact k}};{let⟨r,A⟩:=D_ b;let⟨t,C,R⟩:=D9 G q;rcases l with l|l;{omega};{rw[show e2-1=m+(e2-m-1)from G,y _ t,R,show s=a+(s-a)from G,X _ r,A]at l;exact l}}
def Xd{bc h m k t f:Nat}{q l:Array aK}{r:Array Obj}{I:List aK}(bR:HoldsK aK.bz 4 u a 0 q)(bT:a<J u.1)(aI:J l=J q)(cl:J q<=3001)(ad:l.1=p++(I++(i++x)))(L:E p=h)(ar:h+E I=m)(aq:m+E i=k)(cI:2<=E I)(cu:2<=E i)(aM:me cR)(ab:gP cR I)(ac:gP cR i)(S:k-h<=f+1)(bD:Jv a bc q u f):a_ aL 202 #[bL a 0 (J q) bc,M h,M m,M k,ez (.func 79) #[] #[]] (e7 aK.bz 4 u a 0 t l r) λco cD=>co=bh (bZ #[])/\∃aP d aa,cD=e7 aK.bz 4 u a 0 aP aa d/\aa.1=p++(eh cR I i++x):=by
 have:aL.follows Departure.mixedOrders=aD:=b6;have aJ:J q=E p+(E I+(E i+E x)):=by rw[<-aI,<-p6,ad];simp
 let⟨e,ay⟩:=du<|(h+k)/2;let⟨T,aY⟩:=du<|e+m;obtain⟨o,aW⟩:∃o,o+1=T:=⟨T-1,G⟩;obtain⟨s0,r0,bS⟩:∃s0 r0,(e<m/\s0+k=e+m/\r0=e)\/(m<=e/\s0=h/\r0=m):=by{by_cases b:e<m;{exact⟨e+m-k,e,bJ ⟨b,G,U⟩⟩};{exact⟨h,m,bE ⟨G,U,U⟩⟩}};have bK:s0<=r0:=G;have ca:r0<=m:=G;have cb:h<=s0:=G;have cw:o<s0+k:=G;have cc:m+r0<=o+1:=G;have:((h:Int)+k)/2=(e:Int):=G;have:(e:Int)+m=T:=G;have:(T:Int)-1=o:=G;have:k<=3001:=G;have:k<=J q:=G;have:h<m:=G;have:m<k:=G;have:h<e:=G;have:e<k:=G;have cK:((m:Int)-h==1)=ak:=iQ
 have cJ:((k:Int)-m==1)=ak:=iQ
 have:T<=6002:=G;have:o<=6002:=G;have bB:=O bR;have bz:=O bT;have bM:=O bD;have a6:ao (J q=E p+(E I+(E i+E x))/\J l=J q/\l.1=p++(I++(i++x))/\E p=h/\h+E I=m/\m+E i=k/\me cR/\gP cR I/\gP cR i/\(h+k)/2=e/\e+m=T/\o+1=T/\k-h<=f+1):=⟨aJ,aI,ad,L,ar,aq,aM,ab,ac,ay,aY,aW,S⟩;have bY:=O bS;clear bR bT aJ ad L ar aq ab ac aM ay aY aW cI cu bD S bS;let⟨cE,aX⟩:=bm<|e7 aK.bz 4 u a 0 t l r;rw[<-aX];replace aX:=O aX;go_in;go_upto_if 140 with fail;go_cut [20,21]from 138 λcy cA W=>cy=M s0/\cA=M r0/\W=cE;·(rcases bY with⟨P,Q,X⟩|⟨P,Q,X⟩;{have cH:(e:Int)<m:=G;have:(T:Int)-k=s0:=G;clear P Q;go_wp2;go_meet;·exact⟨by first|rfl|go_num,by rw[X],U⟩};{have cH:¬(e:Int)<m:=G;clear P;go_wp2;go_meet;·exact⟨by rw[Q],by rw[X],U⟩})
 ·(
 obtain⟨rfl,rfl,rfl⟩:=hcut;go_wp2;go_loopg [20,21] (r0-s0) (λcr cB cC wr=>∃(K j:Nat),cB=M K/\cC=M j/\s0<=K/\K<=j/\j<=r0/\j-K<=cr/\ao (∃t r,wr=e7 aK.bz 4 u a 0 t l r)/\ao ((K=s0\/cR l[o-(K-1)]! l[K-1]! = ak)/\(j=r0\/cR l[o-j]! l[j]! = aD)));·exact⟨s0,r0,U,U,cO _,bK,cO _,cO _,⟨t,r,aX⟩,bJ U,bJ U⟩
 ·(
 obtain⟨K,j,rfl,rfl,a1,b3,bl,b4,a5,aT⟩:=hrel;by_cases cN:K<j;{
 have b8:(K:Int)<j:=G;let⟨b,bU⟩:=du<|(K+j)/2;have:((K:Int)+j)/2=(b:Int):=G;have:K<=b:=G;have:b<j:=G;obtain⟨N,bW⟩:∃N,N+b=o:=⟨o-b,G⟩;have:(o:Int)-b=N:=G;have:N<J q:=G;have:=iV (N:Int)
 have cL:ai.wrap ((o:Int)-b)=(N:Int):=fl
 have:b<=o:=G;have:(N:Int)<J q:=G;let⟨C,z,n⟩:=a5;have a2:∀g d,grow (dS wr g) d=e7 aK.bz 4 u a 0 (C+g) l (z++d):=λg d=>by rw[n];exact sortWorldK_grown_c aK.bz 4 u a 0 C g l z d
 have a3:∀g d,HoldsK aK.bz 4 (grow (dS wr g) d) a 0 l:=λg d=>by rw[a2];exact wi aK.bz 4 u a 0 q l _ _ bB bz aI
 let⟨bt,bn⟩:=du<|l[b]!;let⟨bu,bo⟩:=du<|l[N]!;have au:∀g d,_:=λg d=>P1 (a3 g d) (j:=b) G;have av:∀g d,_:=λg d=>P1 (a3 g d) (j:=N) G;rw[bn]at au;rw[bo]at av;have:=λg d=>(au g d).1;have:=λg d=>(au g d).2.1;have:=λg d=>(au g d).2.2.1;have:=λg d=>(au g d).2.2.2;have:=λg d=>(av g d).1;have:=λg d=>(av g d).2.1;have:=λg d=>(av g d).2.2.1;have:=λg d=>(av g d).2.2.2;have bF:=λb_=>Eg bu bt b_;have a4:=O bF;have bw:=O a2;have:(b:Int)<J q:=G;have bX:ao (l[b]! = bt/\l[N]! = bu/\(K+j)/2=b/\N+b=o):=⟨bn,bo,bU,bW⟩;clear a2 a3 n bU bo bF bn au av bW;generalize aU:mf bu bt=cn at a4;replace aU:=O aU;by_cases aV:cn<0;{
 go_wp2;go_quiet_grown (first|(go_at_call 79;refine Calls.grown_of<|a4 _));go_wp2;go_roundg (b-K);case measure=>omega
 case rel=>(refine⟨K,b,U,by first|rfl|go_num,a1,G,G,cO _,⟨_,_,bw _ _⟩,aT.1,bE ?_⟩;show ltOf mf l[o-b]! l[b]! = aD;let⟨bf,e2,cp,cq⟩:=bX;rw[show o-b=N from G,bf,e2];unfold ltOf;rw[aU];exact lx aV)};{
 have:=fI aV;have cm:=O aV;clear aV;go_wp2;go_quiet_grown (first|(go_at_call 79;refine Calls.grown_of<|a4 _));go_wp2;go_roundg (j-(b+1));case measure=>omega
 ·(refine⟨b+1,j,by first|rfl|go_num,U,G,G,bl,cO _,⟨_,_,bw _ _⟩,bE ?_,aT.2⟩;show ltOf mf l[o-b]! l[b]! = ak;let⟨bf,e2,cp,cq⟩:=bX;rw[show o-b=N from G,bf,e2];unfold ltOf;rw[aU];exact fI<|cd<|V cm)}};{
 have b8:¬(K:Int)<j:=G;obtain rfl:K=j:=G;obtain⟨e2,bO⟩:∃e2,e2+K=T:=⟨T-K,G⟩;have:(T:Int)-K=e2:=G;have bQ:=by{let⟨aJ,bV,ad,L,ar,aq,aM,ab,ac,ay,aY,aW,S⟩:=a6;let⟨P,Q⟩:=aT;have cs:K=s0\/cR l[e2]! l[K-1]! = ak:=by{rcases P with b|b;{exact .inl b};{by_cases cS:K=0;{exact bJ G};{right;rw[show e2=o-(K-1)from G];exact b}}};exact O<|Xc aM (s:=K) (s0:=s0) (r0:=r0) (e2:=e2) ad L ar aq ab ac ay a1 bl G bY cs (Q.imp id λb=>by rw[show e2-1=o-K from G];exact b)};let⟨A,D,B,F,bq,br,b0,b1,b2,cT,cU,cV,cX⟩:=bQ;have bj:ao (∃t r c,wr=e7 aK.bz 4 u a 0 t c r/\J c=J q/\c.1=p++(A++(D++(B++(F++x))))):=by{let⟨aJ,bV,ad,_⟩:=a6;let⟨C,z,n⟩:=a5;exact⟨C,z,l,n,aI,by rw[ad,bq,br];simp⟩};have aj:ao (gP cR A/\gP cR D/\gP cR B/\gP cR F/\E p=h/\h+E A=K/\K+E D=m/\m+E B=e2/\e2+E F=k/\h+E A+E B=e/\k-h<=f+1/\eh cR I i=eh cR A B++eh cR D F):=by{let⟨aJ,bV,ad,L,ar,aq,aM,ab,ac,ay,aY,aW,S⟩:=a6;rw[bq]at ab ar;rw[br]at ac aq;rw[dj]at ar aq;exact⟨(nK.1 ab).1,(nK.1 ab).2.1,(nK.1 ac).1,(nK.1 ac).2.1,L,b0,G,b1,G,G,S,b2⟩};have:=O bO;clear bq br b0 b1 b2 bQ aT a1 b3 bl b4 bO a5 aI cw cc cb bK ca;obtain⟨a8,al⟩:∃aC:Bool,aC=dC (K<m/\m<e2):=⟨_,U⟩;replace al:=O al;go_upto_region 39 with fail;go_cut [185]from 178 λv W=>v=aG a8/\W=wr;·(by_cases bG:K<m;{have az:(K:Int)<m:=G;by_cases Z:m<e2;{have aB:(m:Int)<e2:=G;go_wp2;go_meet;·exact⟨eQ aG<|b5<|cQ al<|lx<|cj bG Z,U⟩};{have aB:¬(m:Int)<e2:=G;go_wp2;go_meet;·exact⟨eQ aG<|b5<|cQ al<|fI λb=>Z b.2,U⟩}};{have az:¬(K:Int)<m:=G;go_wp2;go_meet;·exact⟨eQ aG<|b5<|cQ al<|fI λb=>bG b.1,U⟩})
 ·(
 obtain⟨rfl,rfl⟩:=hcut;go_upto_if 185 with fail;go_cut [24]from 178 λbs W=>bs=M e2/\ao (∃t r c,W=e7 aK.bz 4 u a 0 t c r/\J c=J q/\c.1=p++(A++(B++(D++(F++x)))));·(let⟨C,z,c,n,y,w⟩:=bj;by_cases H:K<m/\m<e2;{obtain rfl:a8=aD:=cQ al<|lx H;have bP:=by{let⟨_,_,_,_,L,P,Q,X,aw,aH,S,_⟩:=aj;exact O<|XB bc C z (p++A) (F++x) bB bz y cl (by rw[w];simp) ct Q X G G};rw[<-n]at bP;clear n y w H;go_wp2_with fail;refine bP.m ?_;rintro aS ⟨aR,aF,ah,Y⟩;have R:ao (∃t r c,aS=e7 aK.bz 4 u a 0 t c r/\J c=J q/\c.1=p++(A++(B++(D++(F++x))))):=by{refine⟨aR,z,aF,ah,?_,by rw[Y];simp⟩;let⟨C,z,c,n,y,w⟩:=bj;rw[<-y,<-p6,<-p6,w,Y];simp;omega};clear ah Y;go_wp2;go_meet;·exact bd U R};{obtain rfl:a8=ak:=cQ al<|fI H;have R:ao (∃t r c,wc=e7 aK.bz 4 u a 0 t c r/\J c=J q/\c.1=p++(A++(B++(D++(F++x))))):=by{refine⟨C,z,c,n,y,?_⟩;let⟨_,_,_,_,L,P,Q,X,aw,aH,S,_⟩:=aj;rw[w];by_cases aO:K<m;{have:B=[]:=pJ.1 G;rw[this];simp};{have:D=[]:=pJ.1 G;rw[this];simp}};clear n y w H;go_wp2;go_meet;·exact bd U R})
 ·(
 obtain⟨rfl,a0⟩:=hcut;let⟨cF,bI⟩:=du wc;rw[bI]at a0⊢;clear bI bj;obtain⟨a9,an⟩:∃aC:Bool,aC=dC (h<K/\K<e):=eR _ U;replace an:=O an;go_upto_region 41 with fail;go_cut [199]from 192 λv W=>v=aG a9/\W=cF;·(by_cases bG:h<K;{have az:(h:Int)<K:=G;by_cases Z:K<e;{have aB:(K:Int)<e:=G;go_wp2;go_meet;·exact bd (eQ aG<|b5<|cQ an<|lx<|cj bG Z) U};{have aB:¬(K:Int)<e:=G;go_wp2;go_meet;·exact⟨eQ aG<|b5<|cQ an<|fI λb=>Z b.2,U⟩}};{have az:¬(h:Int)<K:=G;go_wp2;go_meet;·exact⟨eQ aG<|b5<|cQ an<|fI λb=>bG b.1,U⟩})
 ·(
 obtain⟨rfl,rfl⟩:=hcut;go_upto_if 199 with fail;go_cut [24]from 192 λbs W=>bs=M e2/\ao (∃t r c,W=e7 aK.bz 4 u a 0 t c r/\J c=J q/\c.1=p++(eh cR A B++(D++(F++x))));·(let⟨C,z,c,n,y,w⟩:=a0;by_cases H:h<K/\K<e;{obtain rfl:a9=aD:=cQ an<|lx H;have ax:=by{let⟨cg,_,ci,_,L,P,Q,X,aw,aH,S,_⟩:=aj;exact O<|bM h K e C c z p A B (D++(F++x)) y w L P G G G cg ci G};rw[<-n]at ax;clear n y w H;go_wp2_with fail;refine ax.m ?_;rintro aS ⟨aR,bp,aF,ah,Y⟩;have R:ao (∃t r c,aS=e7 aK.bz 4 u a 0 t c r/\J c=J q/\c.1=p++(eh cR A B++(D++(F++x)))):=by{refine⟨aR,bp,aF,ah,?_,Y⟩;let⟨C,z,c,n,y,w⟩:=a0;rw[<-y,<-p6,<-p6,w,Y];simp[BA];omega};clear ah Y;go_wp2;go_meet;·exact bd U R};{obtain rfl:a9=ak:=cQ an<|fI H;have R:ao (∃t r c,wc=e7 aK.bz 4 u a 0 t c r/\J c=J q/\c.1=p++(eh cR A B++(D++(F++x)))):=by{refine⟨C,z,c,n,y,?_⟩;let⟨_,_,_,_,L,P,Q,X,aw,aH,S,_⟩:=aj;rw[w];by_cases aO:h<K;{have:B=[]:=pJ.1 G;rw[this];simp};{have:A=[]:=pJ.1 G;rw[this];simp}};clear n y w H;go_wp2;go_meet;·exact bd U R})
 ·(
 obtain⟨rfl,bv⟩:=hcut;let⟨cG,bH⟩:=du wc;rw[bH]at bv⊢;clear bH a0;obtain⟨ba,ap⟩:∃aC:Bool,aC=dC (e<e2/\e2<k):=eR _ U;replace ap:=O ap;go_upto_region 43 with fail;go_cut [213]from 206 λv W=>v=aG ba/\W=cG;·(by_cases bG:e<e2;{have az:(e:Int)<e2:=G;by_cases Z:e2<k;{have aB:(e2:Int)<k:=G;go_wp2;go_meet;·exact bd (eQ aG<|b5<|cQ ap<|lx<|cj bG Z) U};{have aB:¬(e2:Int)<k:=G;go_wp2;go_meet;·exact⟨eQ aG<|b5<|cQ ap<|fI λb=>Z b.2,U⟩}};{have az:¬(e:Int)<e2:=G;go_wp2;go_meet;·exact⟨eQ aG<|b5<|cQ ap<|fI λb=>bG b.1,U⟩})
 ·(obtain⟨rfl,rfl⟩:=hcut;let⟨C,z,c,n,y,w⟩:=bv;by_cases H:e<e2/\e2<k;{obtain rfl:ba=aD:=cQ ap<|lx H;have ax:=by{let⟨_,ck,_,cx,L,P,Q,X,aw,aH,S,_⟩:=aj;exact O<|bM e e2 k C c z (p++eh cR A B) D F x y (by rw[w];simp) (by simp[BA];omega) G aw G G ck cx G};rw[<-n]at ax;clear n y w H;go_wp2_with fail;refine ax.m ?_;rintro aS ⟨aR,bp,aF,ah,Y⟩;have R:ao (∃aP d aa,aS=e7 aK.bz 4 u a 0 aP aa d/\aa.1=p++(eh cR I i++x)):=by{let⟨_,_,_,_,_,_,_,_,_,_,_,bb⟩:=aj;exact⟨aR,bp,aF,ah,by rw[Y,bb];simp⟩};clear ah Y;go_wp2;go_end0;exact bd U R};{obtain rfl:ba=ak:=cQ ap<|fI H;have R:ao (∃aP d aa,wc=e7 aK.bz 4 u a 0 aP aa d/\aa.1=p++(eh cR I i++x)):=by{let⟨_,_,_,_,L,P,Q,X,aw,aH,S,bb⟩:=aj;refine⟨C,z,c,n,?_⟩;rw[w,bb];by_cases aO:e<e2;{have:F=[]:=pJ.1 G;rw[this];simp};{have:D=[]:=pJ.1 G;rw[this];simp}};clear n y w H;go_wp2;go_end0;exact bd U R})))))}))
end
section
open Go.RowKit Go.Sort Go.Shelf
section
variable {α:Type} (lt:α->α->Bool)
def hT(s:Nat)(a:List α):List α:=if E a<=s\/s=0 then jz lt a else jz lt (be s a)++hT s (bi s a)
termination_by (E a)
decreasing_by grind
theorem ta{s l}(a:E l<=s):hT lt s l=jz lt l:=by rw[hT,b8<|bJ a]
theorem wZ(s):hT lt s ([]:List α)=[]:=by rw[ta lt ax];rfl
theorem Q_(s):∀(f:Nat) (a:List α),E a<=f->E (hT lt s a)=E a
 |0,a,b=>by obtain rfl:a=[]:=pJ.1 G;rw[wZ]
 |f+1,a,b=>by rw[hT];split;{exact BB lt a};{rw[dj,BB,Q_ s f _<|by grind];grind}
theorem yX(g:0<a)(b):∀(d:Nat) (s:List α),E s=a*d->hT lt a (s++b)=hT lt a s++hT lt a b
 |0,s,e=>by obtain rfl:s=[]:=pJ.1 G;rw[wZ];rfl
 |d+1,s,e=>by
  have j:a<=E s:=by grind
  have l:=yX g b d (bi a s) (by grind);have h:hT lt a s=jz lt (be a s)++hT lt a (bi a s):=by{by_cases c:E s<=a;{rw[ta lt c,mS c,pT c,wZ,kW]};{conv=>lhs;rw[hT,bV G]}};by_cases k:E (s++b)<=a;{have i:b=[]:=pJ.1 (by grind);grind};{
  conv=>lhs;rw[hT,bV G]
  grind}
theorem Xe(d:0<a){s b c}(e:E s=a):hT lt a (s++(b++c))=jz lt s++hT lt a (b++c):=by rw[yX lt d _ 1 s G,ta lt G]
end
def Ea:∀a,mr a a=ak
 |[]=>U
 |b::a=>by rw[mr,Ea a];simp
def Jw:∀c d e,mr c d=aD->mr d e=aD->mr c e=aD
 |_,_,[],_,a=>by cases ‹List UInt8›<;>simp[mr]at a
 |_,[],_::_,a,_=>by cases ‹List UInt8›<;>simp[mr]at a
 |[],_::_,_::_,_,_=>U
 |g::c,h::d,i::e,a,b=>by simp only[mr,sZ,e9,pZ,iE]at a b⊢;rcases a with a|⟨rfl,a⟩;{grind};{rcases b with b|⟨rfl,b⟩;{grind};{exact bE ⟨U,Jw _ _ _ a b⟩}}
def Jx:∀a b,mr a b=ak->mr b a=ak->a=b
 |[],[],_,_=>U
 |[],_::_,c,_=>by simp[mr]at c
 |_::_,[],_,c=>by simp[mr]at c
 |g::a,h::b,c,e=>by simp only[mr,AU,yN,Bl,ju]at c e;have k:g=h:=by{grind};subst k;have i:mr a b=ak:=c.2.elim (λd=>absurd U d) id;have j:mr b a=ak:=e.2.elim (λd=>absurd U d) id;rw[Jx a b i j]
def w9(a s):cR a s=aD↔(mr a.owner s.owner=aD\/(a.owner=s.owner/\a.type<s.type)):=by unfold cR ltOf mf y3 xr Lib.compareInt;grind
def tb:me cR:=by
 refine⟨λg k l d e=>?_,λg k l d e=>?_⟩;{rw[w9]at*;rcases d with d|⟨i,n⟩;{rcases e with e|⟨p,t⟩;{exact bJ<|Jw _ _ _ d e};grind};grind};{
 let j:∀a b:aK,cR a b=ak->mr a.owner b.owner=ak/\(a.owner=b.owner->¬a.type<b.type):=λa b c=>by{
 have o:¬cR a b=aD:=by grind
 rw[w9]at o;grind};let⟨i,n⟩:=j _ _ d;let p:=j _ _ e;cases c:cR g l;{rfl};{exfalso;rw[w9]at c;cases h:mr k.owner g.owner;{let:=Jx _ _ i h;grind};{rcases c with c|⟨q,r⟩;{let:=Jw _ _ _ h c;grind};grind}}}
def yY(b):cR b b=ak:=by cases a:cR b b;{rfl};{rw[w9]at a;rcases a with a|⟨_,a⟩;{rw[Ea]at a;cases a};{omega}}
def Ra(g q b k)(h:HoldsK aK.bz 4 k g 0 b)(i:g<J k.1)(a:J b<=3001):∀f,Jv g q b k f
 |0=>λz m A I B H x o p y j u c e d F r l n t=>by omega
 |f+1=>λz m A I B H x o p y j u c e d F r l n t=>by have w:=Ra g q b k h i a f;by_cases C:E o=1;{obtain⟨K,rfl⟩:=DI.1 C;exact Xa (λ_=>U) Tryz.sizeOf83 h i j a (by grind) c e d r tb n};{by_cases D:E p=1;{obtain⟨L,rfl⟩:=DI.1 D;exact Xb (λ_=>U) Tryz.sizeOf83 h i j a (by grind) c e d G tb l};{exact Xd h i j a u c e d G G tb l n t w}}
def Xf(a n g d i e b h c)(u:HoldsK aK.bz 4 c a 0 e)(j:a<J c.1)(q:J b=J e)(x:J e<=3001)(w:g<=d)(y:d<=J e):a_ aL 201 #[bL a 0 (J e) n,M g,M d,ez (.func 79) #[] #[]] (e7 aK.bz 4 c a 0 i b h) λo r=>o=bh (bZ #[])/\∃l k,r=e7 aK.bz 4 c a 0 l (Sort.insertionSort cR b g d) k:=by let t:=wi aK.bz 4 c a 0 e b i h u j q;have p:=AnyQ.insertionSortCmpFunc Tryz.ayk 4 Tryz.isAgg83 Tryz.sizeOf83 aK.bz (λ_=>U) BD mf 79 #[] a 0 n g d b (e7 aK.bz 4 c a 0 i b h) (enters_of Tryz.func79 dl U) (WH _ _ _ _) t (eA j<|size_sortWorldK_c aK.bz 4 c a 0 i b h) w G G;rw[q]at p;refine Calls.mono p ?_;rintro o r ⟨rfl,l,k,rfl⟩;exact⟨U,_,_,Qi i l (Sort.insertionSort cR b g d) h k j<|Eh _ _ _ _⟩
end
section
open Go.RowKit Go.Sort Go.Shelf
def Br:E (hT cR a i)=E i:=Q_ cR a _ i bo
def Rb{rs:List aK}{dk t c}(d:dk.1=hT cR 20 (be (20*t) rs)++bi (20*t) rs)(e:20*t<=E rs)(g:c<=20)(h:20*t+c<=E rs)(i:c=20\/20*t+c=E rs):(Sort.insertionSort cR dk (20*t)<|20*t+c).1=hT cR 20 (be (20*t+c) rs)++bi (20*t+c) rs:=by
 let a:E (hT cR 20<|be (20*t) rs)=20*t:=by rw[Br,iv];omega
 let b:E (be c<|bi (20*t) rs)=c:=by grind
 have:=Qg cR tb yY (hT cR 20<|be (20*t) rs) (be c<|bi (20*t) rs) (bi c<|bi (20*t) rs) dk (by rw[d,ku]);rw[a,b]at this;rw[this,my,<-iz];congr 1;rw[DR,yX cR G _ t _<|by grind,ta cR (l:=be c<|bi (20*t) rs) G]
def Rc{rs:List aK}{dk:Array aK}{s t a c}(k:0<s)(x:a=2*s*t)(q:dk.1=hT cR (2*s) (be a rs)++hT cR s (bi a rs))(y:c<=s)(w:0<c)(z:a+s+c<=E rs)(h:c=s\/a+s+c=E rs):∃g b d j,dk.1=g++(b++(d++j))/\E g=a/\E b=s/\E d=c/\gP cR b/\gP cR d/\g++(eh cR b d++j)=hT cR (2*s) (be (a+s+c) rs)++hT cR s (bi (a+s+c) rs):=by
 have o:bi a rs=be s (bi a rs)++(be c (bi (a+s) rs)++bi (a+s+c) rs):=by{rw[<-my (i:=c),ku,<-my (i:=s),ku]};have n:E (be s<|bi a rs)=s:=by grind
 have r:E (be c<|bi (a+s) rs)=c:=by grind
 have p:be (a+s+c) rs=be a rs++(be s (bi a rs)++be c (bi (a+s) rs)):=by{rw[DR,DR,iz]};generalize be s (bi a rs)=C1,be c (bi (a+s) rs)=e at*;let u:E (hT cR (2*s)<|be a rs)=a:=by rw[Br,iv];omega
 refine⟨hT cR (2*s)<|be a rs,jz cR C1,jz cR e,hT cR s<|bi (a+s+c) rs,?_,u,by rw[BB,n],by rw[BB,r],BC cR tb yY _,BC cR tb yY _,?_⟩;{rw[q,o,Xe cR k n];congr 2;rcases h with h|h;{rw[yX cR k _ 1 e G,ta cR (l:=e) G]};{rw[show bi (a+s+c) rs=[]from pT G,wZ,kW,kW,ta cR G]}};{rw[p,yX cR G _ t (be a rs)<|by grind,ta cR (l:=C1++e) (by grind),Xt cR tb,iz]}
def Xg(av)(aq:HoldsK aK.bz 4 u a 0<|c7 i)(ay:a<J u.1)(aR:E i<=3001):a_ aL 147 #[bL a 0 (E i) av,M<|E i,ez (.func 79) #[] #[]] u λH a3=>H=bh (bZ #[])/\∃p h x,a3=e7 aK.bz 4 u a 0 p x h/\x.1=jz cR i:=by
 let⟨b,az⟩:=bm<|E i;have ar:J (c7 i)=b:=by grind
 have al:=O λp dk h rs d (a1:J dk=J (c7 i)) (aY:rs<=d) (n:d<=J (c7 i))=>Xf a av rs d p (c7 i) dk h u aq ay a1 G aY n;have an:=O λf=>Ra a av (c7 i) u aq ay G f;have aT:=O<|Xz aq;rw[ar]at al;unfold Jv at an;rw[ar]at an;rw[<-az];have:b<=3001:=G;have D:=O<|cj az<|cj ar aR;clear aq ay aR az ar;go_wp2;go_loopg [7,8] (b+20) (λaw aH aI wr=>∃(rs t:Nat),aH=M rs/\aI=M (rs+20:Nat)/\ao (rs=20*t)/\rs<=b/\b+20<=aw+rs/\ao (∃p h dk,wr=e7 aK.bz 4 u a 0 p dk h/\J dk=b/\dk.1=hT cR 20 (be rs i)++bi rs i));·(refine⟨0,0,U,U,U,G,G,0,#[],c7 i,aT,D.2.1,?_⟩;rw[qW,wZ];simp)
 ·(
 obtain⟨rs,t,rfl,rfl,A,aO,a8,C⟩:=hrel;let⟨d,n⟩:=du<|rs+20;rw[n];by_cases aF:d<=b;{
 have au:(d:Int)<=b:=G;let⟨r,q,e,g,j,k⟩:=C;have w:=O<|al r e q rs d j G G;rw[<-g]at w;have y:ao ((Sort.insertionSort cR e rs d).1=hT cR 20 (be d i)++bi d i):=by{have H:=V A;have B:=D.1;have:=Rb (rs:=i) (dk:=e) (t:=t) (c:=20) (by grind) G G G (bJ U);grind};have aj:ao (J (Sort.insertionSort cR e rs d)=b):=by rw[ao,Eh];omega
 have ap:=O n;have a0:d<=3001:=G;clear g j k n;go_wp2_with fail;refine w.m ?_;rintro aS ⟨N,L,Q⟩;replace Q:=O Q;go_wp2;go_roundg (gk-20);case measure=>omega
 ·(have n:=V ap;have H:=V A;refine⟨d,t+1,dl,dl,by grind,aF,G,N,L,_,Q,aj,y⟩)};{
 have au:¬(d:Int)<=b:=G;let⟨r,q,e,g,j,k⟩:=C;have w:=O<|al r e q rs b j aO bo;rw[<-g]at w;have y:ao ((Sort.insertionSort cR e rs b).1=hT cR 20 i):=by{have H:=V A;have B:=D.1;have:=Rb (rs:=i) (dk:=e) (t:=t) (c:=b-rs) (by grind) G G G (bE G);rw[<-H,show rs+(b-rs)=b from G]at this;grind};have aj:ao (J (Sort.insertionSort cR e rs b)=b):=by rw[ao,Eh];omega
 clear g j k n;go_wp2_with fail;refine w.m ?_;rintro aS ⟨N,L,Q⟩;have:ao (∃p h dk,aS=e7 aK.bz 4 u a 0 p dk h/\J dk=b/\dk.1=hT cR 20 i):=⟨N,L,_,Q,aj,y⟩;clear Q w y aj al;go_wp2;go_loopg [6] b (λaw a2 wr=>∃(s:Nat),a2=M s/\20<=s/\s<=6002/\b<=s+aw/\ao (∃p h dk,wr=e7 aK.bz 4 u a 0 p dk h/\J dk=b/\dk.1=hT cR s i));·grind
 ·(
 obtain⟨s,rfl,a9,bb,a5,aM⟩:=hrel;by_cases a4:s<b;{
 have aU:(s:Int)<b:=G;let⟨o,P⟩:=bm<|2*s;have:2*s=(o:Int):=G;have:(s:Int)*2=o:=G;have aP:o<=6002:=G;have:s<o:=G;replace P:=O P;go_wp2;go_loopg [7,8] b (λaX aH aI wr=>∃(rs t:Nat),aH=M rs/\aI=M (rs+o:Nat)/\ao (rs=2*s*t)/\rs<=b/\b<=aX+rs/\ao (∃p h dk,wr=e7 aK.bz 4 u a 0 p dk h/\J dk=b/\dk.1=hT cR (2*s) (be rs i)++hT cR s (bi rs i)));·(let⟨r,q,e,g,j,k⟩:=aM;refine⟨0,0,U,ax,U,G,G,r,q,e,g,j,?_⟩;rw[qW,wZ,pW];exact k)
 ·(
 obtain⟨rs,t,rfl,rfl,A,aO,a6,C⟩:=hrel;let⟨d,n⟩:=du<|rs+o;rw[n];let⟨m,X⟩:=du<|rs+s;have:(rs:Int)+s=m:=G;have:m<=6002:=G;by_cases aF:d<=b;{
 have au:(d:Int)<=b:=G;let⟨r,q,e,g,j,k⟩:=C;have B:=D.1;have z:=P;let⟨T,R,S,W,Z,aa,aB,aC,ab,ac,ad⟩:=Rc (rs:=i) (dk:=e) (s:=s) (t:=t) (a:=rs) (c:=s) G A k bo G G (bJ U);have w:=O<|an (d-rs) rs m d r e q T R S W j Z aa G G G G ab ac bo;rw[<-g]at w;have y:ao (∀x:Array aK,x.1=T++(eh cR R S++W)->J x=b/\x.1=hT cR (2*s) (be d i)++hT cR s (bi d i)):=λx I=>by{rw[ad,show rs+s+s=d from G]at I;refine bd ?_ I;rw[<-p6,I,dj,Br,Br,iv,il];omega};have ap:ao (rs+o=d/\rs+s=m):=bd n X;have a0:d<=3001:=G;clear g j k n X Z aa aB aC ab ac ad B z;go_wp2_with fail;refine w.m ?_;rintro aJ ⟨N,L,F,Y,K⟩;have ah:ao (∃p h dk,aJ=e7 aK.bz 4 u a 0 p dk h/\J dk=b/\dk.1=hT cR (2*s) (be d i)++hT cR s (bi d i)):=⟨N,L,F,Y,(y F K).1,(y F K).2⟩;clear Y K;go_wp2;go_roundg (gk-o);case measure=>have:=V ap;omega
 ·(let⟨n,X⟩:=ap;have z:=P;have H:=A;refine⟨d,t+1,dl,dl,by rw[ao,<-n,H,z,Nat.mul_succ],aF,G,ah⟩)};{
 have au:¬(d:Int)<=b:=G;by_cases ba:m<b;{
 have aV:(m:Int)<b:=G;let⟨r,q,e,g,j,k⟩:=C;have B:=D.1;have z:=P;let⟨T,R,S,W,Z,aa,aB,aC,ab,ac,ad⟩:=Rc (rs:=i) (dk:=e) (s:=s) (t:=t) (a:=rs) (c:=b-m) G A k G G G (bE G);have w:=O<|an (b-rs) rs m b r e q T R S W j Z aa G G G G ab ac bo;rw[<-g]at w;have y:ao (∀x:Array aK,x.1=T++(eh cR R S++W)->J x=b/\x.1=hT cR o i):=λx I=>by{rw[ad,show rs+s+(b-m)=b from G,B,jc,tl,wZ,kW,<-z]at I;refine bd ?_ I;rw[<-p6,I,Br];omega};clear g j k n X Z aa aB aC ab ac ad B z;go_wp2_with fail;refine w.m ?_;rintro aJ ⟨N,L,F,Y,K⟩;have ah:ao (∃p h dk,aJ=e7 aK.bz 4 u a 0 p dk h/\J dk=b/\dk.1=hT cR o i):=⟨N,L,F,Y,(y F K).1,(y F K).2⟩;clear Y K;go_wp2;go_roundg (b-o);case measure=>omega
 ·exact⟨o,dl,G,aP,G,ah⟩};{
 have aV:¬(m:Int)<b:=G;have ah:ao (∃p h dk,wr=e7 aK.bz 4 u a 0 p dk h/\J dk=b/\dk.1=hT cR o i):=by{
 let⟨r,q,e,g,j,k⟩:=C;have B:=D.1;have z:=P;refine⟨r,q,e,g,j,?_⟩;have aW:E (bi rs i)<=s:=by rw[il];omega
 rw[k,ta cR aW,<-ta cR (s:=2*s) (l:=bi rs i) G,<-yX cR G _ t (be rs i) (by rw[iv];have:=V A;omega),ku,<-z]};clear n X C;go_wp2;go_roundg (b-o);case measure=>omega
 ·exact⟨o,dl,G,aP,G,ah⟩}})};{let aU:¬(s:Int)<b:=G;go_wp2;go_end0;let⟨r,q,e,g,j,k⟩:=aM;have B:=D.1;exact⟨U,r,q,e,g,by rw[k,ta cR G]⟩})})
end
section
open Go.RowKit Go.Sort Go.Shelf
def Eb:ck i=jz cR i:=by have:=Qg cR tb yY [] i [] (c7 i) ax;simp only[gG,fM,iF,kW]at this;exact this
def Xh(e)(j:HoldsK aK.bz 4 f a 0<|c7 i)(k:a<J f.1)(l:E i<=3001):a_ aL 78 #[bL a 0 (E i) e,ez (.func 79) #[] #[]] f λc p=>c=bh (bZ #[])/\∃o n g,p=e7 aK.bz 4 f a 0 o g n/\g.1=jz cR i:=by let h:=O<|Xg e j k l;go_in;go_wp21;refine h.m λq d=>?_;replace d:=O d;go_wp2;go_end0;exact bd U d
def Xi{e}(j:HoldsK aK.bz 4 f a 0<|c7 i)(k:a<J f.1)(l:E i<=3001):a_ aL 35 #[bL a 0 (E i) e] f λc p=>c=bh (bZ #[])/\∃o n g,p=e7 aK.bz 4 f a 0 o g n/\g.1=jz cR i:=by let h:=O<|Xh e j k l;go_in;go_wp21;refine h.m λq d=>?_;replace d:=O d;go_wp2;go_end0;exact bd U d
def Rd{o p}(j:f.1[a]? = ae (aZ p z))(e:fA f a 0 i)(w:E i<=3001):a_ aL 35 #[bL a 0 (E i) o] f λz h=>z=bh (bZ #[])/\fA h a 0 (ck i)/\∀d g,d<=a->d<=J f.1->cv d g f->cv d g h:=by
 refine(Xi (PG j e) e.1 w).m ?_;rintro h ⟨k,l,q,rfl,n⟩;obtain rfl:q=c7 (ck i):=by rw[Eb,<-n]
 let x:J (c7<|ck i)=J (c7 i):=by simp[Qo]
 exact⟨U,WG (eA e.1<|size_sortWorldK_c aK.bz 4 f a 0 k _ l)<|wi aK.bz 4 f a 0 (c7 i) _ k l (PG j e) e.1 x,λd g r t u=>WK u r t⟩
end
theorem Jy{α:Type}(d):∀(a b:List α),(eh d a b).Perm<|a++b
 |[],b=>by simp
 |c::a,[]=>by simp
 |c::a,e::b=>by rw[D1];split;{exact((Jy d (c::a) b).cons e).trans<|List.perm_middle.symm};{exact(Jy d a (e::b)).cons c}
termination_by a b=>E a+E b
def Xj{α:Type}{c}{a:List α}:(jz c a).Perm a:=by
 let:∀(b:Nat) (a:List α),E a=b->(jz c a).Perm a:=by{
 intro b;induction b with
 |zero=>intro a d;obtain rfl:a=[]:=hq d;rfl
 |succ b i=>{
 intro a d;let e:a≠[]:=by grind
 let g:=Ib e;let h:E a.dropLast=b:=by grind
 conv=>lhs;rw[<-g]
 rw[wY];let:=(Jy c (jz c a.dropLast) [a.getLast e]).trans<|(i _ h).append_right _;grind}};grind
def td(a):(ck a).Perm a:=Eb▸Xj
def w_(a):gP cR (ck a):=Eb▸BC cR tb yY a
def Ec{a s}(b:cR a s=ak):mr a.owner s.owner=ak/\(a.owner=s.owner->¬a.type<s.type):=by
 let d:¬(mr a.owner s.owner=aD\/(a.owner=s.owner/\a.type<s.type)):=λc=>by rw[(w9 a s).2 c]at b;cases b
 grind
def Re{a b c}(g:cR b a=ak)(h:cR c b=ak)(i:c.owner=a.owner):b.owner=a.owner/\(c.type=a.type->b.type=a.type):=by let⟨e,j⟩:=Ec g;let⟨d,k⟩:=Ec h;let l:b.owner=a.owner:=by{rw[i]at d;exact Jx _ _ e d};grind
def Jz{κ:Type}(a:aK->κ)(h:∀b c d:aK,cR c b=ak->cR d c=ak->a d=a b->a c=a b):∀(e:List aK),gP cR e->qT a e
 |[],_=>cy
 |b::j,g=>by have i:=sI.1 g;refine⟨λk l n o d p=>?_,Jz a h j i.2⟩;grind
def Xk(c:gP cR i):qT (λb:aK=>b.owner) i:=Jz _ (λb h a d e g=>(Re d e g).1) i c
def Xl(d:gP cR i):qT (λb:aK=>(b.owner,b.type)) i:=Jz _ (λb l n e g h=>by
 obtain⟨c,k⟩:=kv h;obtain⟨a,j⟩:=Re e g c
 grind) i d
def qL(a b):eS a b=aD↔a.owner=b.owner:=by simp[eS]
def rR(a b):c8 a b=aD↔(a.owner,a.type)=(b.owner,b.type):=by simp[c8]
def uI{a}(e:a∈i){c}(g:c.2=dT (eS a) i):eF c=a.owner:=by
 rw[eF,g];let:=ig.2<|bd e<|(qL a a).2 U;cases h:dT (eS a) i with
 |nil=>grind
 |cons d b=>{
 let:d∈dT (eS a) i:=by grind
 exact((qL a d).1 (ig.1 this).2).symm}
section
variable {L:List aK} (hL:gP cR L)
include hL
theorem uJ:(∀b∈dg eS L,∃a∈L,b.2.head? = ae a/\b.2=dT (eS a) L)/\(∀a∈L,∃b∈dg eS L,b.2=dT (eS a) L):=
 Jr eS qL (E L) 0 L bo (Xk hL)
theorem xe:(∀b∈dg c8 L,∃a∈L,b.2.head? = ae a/\b.2=dT (c8 a) L)/\(∀a∈L,∃b∈dg c8 L,b.2=dT (c8 a) L):=
 Jr c8 rR (E L) 0 L bo (Xl hL)
theorem WZ(d:List aK->Bool):(dg c8 L).all (λb=>d b.2)=aD↔∀a∈L,d (dT (c8 a) L)=aD:=by rw[rX];constructor;{intro e a c;let b:=(xe hL).2 a c;grind};{intro e b g;let⟨a,c,_,h⟩:=(xe hL).1 b g;grind}
theorem W0(g:ap->List aK->Bool):(dg eS L).all (λc=>g (eF c) c.2)=aD↔∀b∈L,g b.owner (dT (eS b) L)=aD:=by rw[rX];constructor;{intro h b d;let⟨c,e,a⟩:=(uJ hL).2 b d;rw[<-a,<-uI d a];grind};{intro h c e;let⟨b,d,_,a⟩:=(uJ hL).1 c e;rw[uI d a,a];grind}
theorem Rf(e):dF L e=dT (λb=>b.owner==e) L:=by
 unfold dF;cases g:(dg eS L).find? (λa=>eF a==e)with
 |some a=>{
 have:=List.find?_some g;let⟨b,d,_,c⟩:=(uJ hL).1 a<|Bf g;let h:b.owner=e:=by rw[<-uI d c];grind
 show a.2=_;rw[c];congr 1;funext y;rw[pR,qL,h,iE];grind}
 |none=>{show []=_;symm;rw[pU];intro b d j;let⟨a,i,c⟩:=(uJ hL).2 b d;have:=Pd.1 g a i;rw[uI d c]at this;grind}
theorem GT(g):nV L g=aD↔∀a∈L,fx a.owner g=aD->oZ a.owner=ak/\∀s∈L,s.owner=a.owner->s.type=(if a.owner=g then 2 else 1):=by
 rw[nV,r9,rX];constructor;{
 intro i a c w;let⟨h,k,b⟩:=(uJ hL).2 a c;let d:=uI c b;have:=i h<|ig.2 ⟨k,by grind⟩;rw[qQ,e9,d]at this;refine⟨by grind,λs e t=>?_⟩;have j:=this.2;rw[wA,<-sY,ni]at j;have:s∈h.2:=b▸ig.2 (bd e<|(qL a s).2 (b5 t))
 have l:oR (if a.owner==g then 2 else 1) s=ak:=by{grind};unfold oR at l;grind};{intro i h k;let⟨r,n⟩:=ig.1 k;let⟨a,c,_,b⟩:=(uJ hL).1 h r;let d:=uI c b;rw[d]at n;let⟨u,j⟩:=i a c n;rw[qQ,e9,d];refine⟨by grind,?_⟩;rw[wA,<-sY,ni];rintro⟨s,e,o⟩;rw[b]at e;let⟨p,q⟩:=ig.1 e;have l:=j s p<|b5<|(qL a s).1 q;unfold oR at o;grind}
end
def rT(a:UInt8):UInt8:=if a=80 then 46 else a
def EI(a:UInt8):UInt8:=if a=46 then 80 else a
def cE(a:ap):List ap:=b9 (List.map rT)<|I 46 a
def EJ:∀(f:Nat) (a:ap),E a<=f->∀c∈I 46 a,(46:UInt8)∉c/\∀h∈c,h∈a
 |f,a,d,c,b=>by
  rcases m7 46 a with⟨i,e⟩|⟨j,g,k,i,e⟩;{grind};{
  rw[e]at b;rcases fw.1 b with rfl|b;{grind};{
  match f,d with
  |0,d=>grind
  |f+1,d=>{have l:=EJ f g (by grind) c b;grind}}}
def Je:∀(f:Nat) (c:ap) (b:UInt8),E c<=f->b∈c->b=46\/∃g∈I 46 c,b∈g
 |f,c,b,d,e=>by
  rcases m7 46 c with⟨_,i⟩|⟨k,h,j,_,i⟩;{grind};{
  rw[j]at e;rcases i_.1 e with a|a;{grind};{
  rcases fw.1 a with a|a;{grind};{
  match f,d with
  |0,d=>grind
  |f+1,d=>{rcases Je f h b (by grind) a with a|⟨g,l,n⟩;{grind};grind}}}}
def rU(a):E (cE a)=E (I 46 a):=by simp[cE]
def Fl(a):cE a≠[]:=λb=>nL 46 a (by simpa [cE]using b)
def Bs(a):b9 (List.map EI) (cE a)=I 46 a:=by
 rw[cE,lV];conv=>rhs;rw[<-wF (I 46 a)]
 refine nj λb i=>?_;let g:=(EJ _ a bo b i).1;show(b9 rT b).map EI=b;rw[lV];conv=>rhs;rw[<-wF b]
 refine nj λc h=>?_;show EI (rT c)=c;let j:c≠46:=λd=>g<|d▸h;unfold rT;split;{rename_i e;subst e;rfl};{grind[EI]}
def zF(c:cE h=cE o):h=o:=y7 (by rw[<-Bs h,<-Bs o,c])
def QY:cE h=cE o↔h=o:=⟨zF,λc=>by rw[c]⟩
def rn(e:(80:UInt8)∉h):cE h=I 46 h:=by
 conv=>rhs;rw[<-wF (I 46 h)]
 refine nj λb a=>?_;show b9 rT b=b;conv=>rhs;rw[<-wF b]
 refine nj λc g=>?_;let:c≠80:=λd=>e<|d▸(EJ _ h bo b a).2 c g;grind[rT]
def dA(c:(80:UInt8)∉h):I 46 h=cE o↔h=o:=(rn c)▸QY
def Yc:bi a (cE h)=cE o↔bi a (I 46 h)=I 46 o:=by constructor;{intro d;rw[<-Bs h,<-Bs o,<-d,Bc]};{intro d;unfold cE;rw[<-d,Bc]}
def uL(a b):lR (cE a) (cE b)=fx a b:=by rw[<-By];unfold lR;rw[rU,rU,pR];simp only[e9,pZ,Yc]
def Jf(c:(80:UInt8)∉h)(b):lR (I 46 h) (cE b)=fx h b:=(rn c)▸uL h b
def Yd(c:(80:UInt8)∉h)(b):lR (cE b) (I 46 h)=fx b h:=(rn c)▸uL b h
def Ye:cE (42::46::Q)=[42]::cE Q:=by rfl
def X3(s)(o:dx f)(ar:b7 s<=3000)(au:∀b c,jm s.1.1=ae (b,c)->tR b c):a_ aL 9 #[am s] f λn Y=>WL (jE s.1.1) (J f.1) n Y/\a6 f Y:=by
 let y:=O<|LK s f G;let:¬3000<(b7 s:Int):=G;let x:=O λh (I:a6 f h)=>ahL (o.below I) ar;cases l:jm s.1.1 with
 |none=>{
 let j:ao (jE s.1.1=af):=by rw[jE,ao,l];rfl
 go_in;go_wp21;refine y.m λh a=>?_;go_wp21;refine(x h a).mono λn P ⟨d,i⟩=>?_;rw[l]at d;obtain rfl:n=bh A1:=d;unfold A1;go_wp2;go_ret2;rw[j];exact bd U<|bC a (bN i a.4)}
 |some ay=>{
 let⟨b,c⟩:=ay;let⟨T,R,aq⟩:=au b c l;let ah:=O aq;let aB:ao (jE s.1.1=if lO b c&&ln b (ck c)then ae (b,ck c)else af):=by rw[jE,ao,l];rfl
 cases W:lO b c;{
 let j:ao (jE s.1.1=af):=by grind
 go_in;go_wp21;refine y.m λh a=>?_;go_wp21;refine(x h a).mono λn P ⟨d,i⟩=>?_;rw[l]at d;obtain⟨v,rfl,k⟩:=d;let p:=O<|IV b k.rv G;go_wp21;refine p.m λZ g=>?_;go_wp2;go_ret2;rw[j];exact bd U<|(bC a<|bN i a.4).trans (bN g<|cJ a.4 i.4)};{
 let V:c≠[]:=by intro I;rw[I]at W;cases W
 let ab:=O<|WJ ah;let X:=Qo c;cases aC:ln b<|ck c;{
 let j:ao (jE s.1.1=af):=by grind
 go_in;go_wp21;refine y.m λh a=>?_;go_wp21;refine(x h a).mono λn P ⟨d,i⟩=>?_;rw[l]at d;obtain⟨v,rfl,k⟩:=d;let p:=O<|IV b k.rv G;obtain⟨A,z,al,rfl,o,H,ap,Q⟩:=Qt k V;let F:=O H;let w:=O Q;let t:=bC a<|bN i a.4;go_wp21;refine p.m λZ g=>?_;let q:=bC t<|bN g t.4;let M:=w.1;go_wp21;refine(Rd ((g.5 A M).trans F) (w.below g) T).m λaw ⟨C,K⟩=>?_;let u:=K (J f.1) f (cJ a.4 o) q.4 q;have r:=O<|Pm z C G G R λN L=>(ab N L).1;rw[X]at r;go_wp21;refine r.m λaa B=>?_;go_wp2;go_ret2;rw[j];exact bd U<|bC u (bN B u.4)};{
 let j:ao (jE s.1.1=ae (b,ck c)):=by grind
 go_in;go_wp21;refine y.m λh a=>?_;go_wp21;refine(x h a).mono λn P ⟨d,i⟩=>?_;rw[l]at d;obtain⟨v,rfl,k⟩:=d;let p:=O<|IV b k.rv G;obtain⟨A,z,al,rfl,o,H,ap,Q⟩:=Qt k V;let F:=O H;let w:=O Q;let t:=bC a<|bN i a.4;go_wp21;refine p.m λZ g=>?_;let q:=bC t<|bN g t.4;let M:=w.1;go_wp21;refine(Rd ((g.5 A M).trans F) (w.below g) T).m λaw ⟨C,K⟩=>?_;let u:=K (J f.1) f (cJ a.4 o) q.4 q;have r:=O<|Pm z C G G R λN L=>(ab N L).1;rw[X]at r;let ac:=O C;go_wp21;refine r.m λaa B=>?_;let D:=bC u<|bN B u.4;let av:=O<|ac.below B;go_wp21;refine(WM).m λax ⟨S,ad,aj,az⟩=>?_;let an:ao (gJ ax (J aa.1) b A 0 z<|ck c):=⟨ad,aj,by grind,G,av.below S⟩;go_wp2;go_ret2;rw[j];exact⟨⟨_,_,_,U,D.4,cJ a.4 o,an⟩,bC D<|bN S D.4⟩}}}
abbrev gH:=List<|List ap×Nat
def BL(d:aQ)(v:bk)(a:gH):Prop:=(v=bX/\a=[])\/∃c e,v=bL c 0 (E a) e/\E a<=e/\c<J d.1/\∀b (h:b<E a),∃g,aA d (N c<|2*b)=ae g/\fG d g a[b].1/\aA d (N c<|2*b+1)=ae (M (a[b].2:Nat))
def BL.below{es}(c:BL f e es)(a:a6 f m):BL m e es:=by rcases c with c|⟨b,i,j,k,d,l⟩;{exact .inl c};{refine .inr ⟨b,i,j,k,eA d a.size,λv n=>?_⟩;let⟨t,o,q,r⟩:=l v n;exact⟨t,(a.cell (p:=⟨b,2*v,af⟩) d).trans o,q.below a,(a.cell (p:=⟨b,2*v+1,af⟩) d).trans r⟩}
def fv(a:aQ)(b:Nat)(s:ap)(v:bk):Prop:=a.1[b]? = ae (aZ #[am<|D s,v] 210)
section
variable {w:World} {wb:Nat} {s:ap}{v:Value}
def fv.lt(a:fv w wb s v):wb<J w.1:=(dK.1 a).1
def fv.cells(a:fv w wb s v):aA w (N wb 0)=ae (aS s)/\aA w (N wb 1)=ae v:=by unfold fv at a;exact⟨by simp[aA,a],by simp[aA,a]⟩
def fv.below(a:fv w wb s v)(c:a6 w f):fv f wb s v:=(c.5 wb a.lt).trans a
end
def jA(b:List ap):gH->Option Nat
 |[]=>af
 |a::c=>if a.1=b/\a.2<16384 then ae a.2 else jA b c
def xP(b:Option Nat):Int:=match b with
 |some a=>a
 |none=>-1
def ZO{b}(R:fv f a o e)(x:BL f e b)(P:fG f r F)(au:E F<=1000)(K:∀I∈b,E I.1<=1000/\I.2<=1000000)(an:E b<=1000000):a_ aL 170 #[bv a,r] f (cI (M<|xP<|jA F b) f):=by
 let⟨h,u⟩:=bm<|xP<|jA F b;rw[<-u];have aw:=O u;obtain⟨A,d,B,Q,q⟩:∃A d B,e=aE A d B/\ao (d=E b):=by{rcases x with⟨rfl,rfl⟩|⟨i,H,rfl,_⟩;{grind};grind};have ab:=O x;have D:=O R;have Y:=O P;have Z:=O K;have aB:d<=1000000:=by rw[q];omega
 subst Q;clear x R P K u an;go_wp2;go_loopw [5] (λy wr=>∃j:Nat,y=M j/\j<=d/\xP (jA F<|bi j b)=h/\a6 f wr) λy _=>d-cM (fj y);·exact⟨0,U,dJ _,b5 aw,cU _ _⟩
 ·(
 obtain⟨j,rfl,aF,ap,l⟩:=hrel;have:=(D.below l).cells.2;have k:=O l;have s:=O ap;by_cases ar:j<d;{
 have c:j<E b:=by rw[<-q];omega
 let⟨i,H,Q,ad,aq,al⟩:=((ab.below l)).resolve_left (λaC=>by grind);let⟨aa,aH,av,aI⟩:=al j c;have L:=Z b[j]<|ei c;have ay:=O<|rQ av (Y.below l) L.1 au;have W:ao (xP (if b[j].1=F/\b[j].2<16384 then ae b[j].2 else jA F (bi (j+1) b))=h):=by{have:=s;rw[jM c,jA]at this;grind};obtain⟨rfl,rfl,rfl⟩:A=ae ⟨i,0,af⟩/\d=E b/\B=H:=by grind
 generalize b[j].1=ah at*;generalize b[j].2=g at*;have:=L.2;have:=O ad;have:(j:Int)<E b:=G;have:aA wr (N i<|j*2)=ae aa:=by grind
 let ax:aA wr (N i<|j*2+1)=ae (M g):=by grind
 let X:=O aq;go_wp2_with fail;refine ay.m ?_;intro az w;have:=((D.below k).below w).cells.2;have:aA az (N i<|j*2+1)=ae (M g):=(w.cell (p:=⟨i,j*2+1,af⟩) X).trans ax;let z:=O<|bC k<|bN w k.4;let n:=O ar;by_cases t:ah=F;{let v:=lx t;rw[v];by_cases aj:g<16384;{let S:ao ((g:Int)=h):=by{have:=W;rw[b8 ⟨t,aj⟩]at this;exact this};let V:(g:Int)<16384:=G;go_wp2;go_ret;exact⟨eQ (λC=>bh<|M C) S,z⟩};{let S:ao (xP (jA F<|bi (j+1) b)=h):=wg;let V:¬(g:Int)<16384:=G;go_wp2;exact⟨⟨j+1,dd,n,S,z⟩,by have:=n;exact v7⟩}};{let v:=fI t;rw[v];have S:ao (xP (jA F<|bi (j+1) b)=h):=wg;go_wp2;exact⟨⟨j+1,dd,n,S,z⟩,by have:=n;exact v7⟩}};{have ac:j=d:=G;subst ac;let S:ao ((-1:Int)=h):=by{have:=s;rw[q,tl]at this;exact this};have:¬(j:Int)<j:=G;go_wp2;go_ret;exact⟨eQ (λC=>bh<|M C) S,k⟩})
def nz(a:Nat)(s:ap)(b:Bool):ap×Bool:=if a<=E s then(bi a s,b)else([],aD)
def adY(b s a):E (nz b s a).1<=E s:=by grind[nz]
def Vd(c:Nat)(g:ed f a h H)(k:c<=100000)(i:E h<=1000000000):a_ aL 118 #[bv a,M c] f λd e=>(∃j,d=bh (am j))/\ed e a (nz c h H).1 (nz c h H).2/\ey a f e/\J e.1=J f.1:=by unfold nz;split;{refine(H5 c g G i).mono ?_;grind};{refine(H6 c g G G).mono ?_;grind}
section
variable {w:World} {b:Nat} {h0 h1 h2 h3 h4 h5:Int} {q n:ap} {k c:Int} {opt:Bool}{sz cK:Int}
def px(h:g9 w b h0 h1 h2 h3 h4 h5 q n k c opt sz cK)(a):g9 (a7 w ⟨b,11,af⟩<|ag ai a) b h0 h1 h2 h3 h4 h5 q n k c opt a cK:=by exact Au
def l5(h:g9 w b h0 h1 h2 h3 h4 h5 q n k c opt sz cK)(a):g9 (a7 w ⟨b,12,af⟩<|ag ai a) b h0 h1 h2 h3 h4 h5 q n k c opt sz a:=by exact Au
end
def LV(h:φ:=by go_wp2;refine kh (v:=bZ #[]) (by simp[c_,results104]) U ?_;exact⟨U,kg.1,q3▸kg.2.1,kg.2.2⟩):φ:=h
def adZ{g D}{r t u w x A p B bW aS}(a1:g9 f a j r t u w x o A y p B bW aS)(e:ed f g D H)(h:a≠g)(ca:E D<=1000000000){I n b6 q k T aC aF F W X aH a9 aI M N i P Q R aR S}(aT:eY D H=(I,aC,M))(aU:e4 aC M=(n,aF,N))(aV:e4 aF N=(q,F,i))(aW:eY F i=(b6,W,P))(aX:eY W P=(k,X,Q))(aY:nz 2 X Q=(aH,R))(a0:e4 aH R=(T,a9,aR))(bF:nz T a9 aR=(aI,S))(cb:T<=65535):a_ aL 104 #[bv a,bv g] f λal aK=>al=bh (bZ #[])/\g9 aK a j r t u w x o A y p B q k/\ed aK g aI (S || !(I==0&&n==41))/\co (λb=>b≠a/\b≠g) f aK:=by
 have a2:=sU D H;have a3:=sc aC M;have a4:=sc aF N;have a5:=sU F i;have a6:=sU W P;have a8:=adY 2 X Q;have aP:=sc aH R;rw[aT]at a2;rw[aU]at a3;rw[aV]at a4;rw[aW]at a5;rw[aX]at a6;rw[aY]at a8;rw[a0]at aP;simp only at a2 a3 a4 a5 a6 a8 aP;let b4:=O aT;let bM:=O aU;let bX:=O aV;let bn:=O aW;let bo:=O aX;let bs:=O aY;let bt:=O a0;let bz:=O bF;let b_:=O a1;let bS:=O e;let bd:=a1.lt;let bl:ao (co (λb=>b≠a/\b≠g) f f):=⟨U,U,U,cO _,λ_ _ _=>U⟩;have av:=O<|o0 D H bS G;rw[ao,b4]at av;simp only at av;go_in;go_wp21;refine av.m λbY ⟨e,c,l⟩=>?_;let bP:=O e;let bG:=O<|bl.trans<|(co.CO c).mono λb _ d=>d.2;let bR:=O<|b_.kept<|c.5 a bd h;let bf:a<J bY.1:=G;have aw:=O<|lW M bP G;rw[ao,bM]at aw;simp only at aw;go_wp21;refine aw.m λb0 ⟨e,c,l⟩=>?_;let bO:=O e;let bH:=O<|bG.trans<|(co.CO c).mono λb _ d=>d.2;let bQ:=O<|bR.kept<|c.5 a bf h;let bK:a<J b0.1:=G;have az:=O<|lW N bO G;rw[ao,bX]at az;simp only at az;go_wp21;refine az.m λY ⟨e,c,l⟩=>?_;let ax:=O e;let au:=O<|bH.trans<|(co.CO c).mono λb _ d=>d.2;let z:=O<|bQ.kept<|c.5 a bK h;let bI:=z.frozen;have ar:=z.cells;let aj:ao (g9 (a7 Y ⟨a,11,af⟩<|ag ai q) a j r t u w x o A y p B q aS/\ed (a7 Y ⟨a,11,af⟩<|ag ai q) g F i/\co (λb=>b≠a/\b≠g) f (a7 Y ⟨a,11,af⟩<|ag ai q)/\a<J (a7 Y ⟨a,11,af⟩<|ag ai q).1):=⟨px z _,(dr _ _ _ _<|Ne.symm h).trans ax,au.trans<|co.j9 _ λb d=>d.1,by simp_all⟩;let⟨_,_,_,_,_,_,_,_,_,_,_,yE,yF⟩:=ar;let⟨ap,aq,an,bL⟩:=aj;let z:=O ap;let ax:=O aq;let au:=O an;have aJ:=O<|o0 F i ax G;rw[ao,bn]at aJ;simp only at aJ;go_wp21;refine aJ.m λb1 ⟨e,c,l⟩=>?_;let ba:=O e;let bT:=O<|au.trans<|(co.CO c).mono λb _ d=>d.2;let b3:=O<|z.kept<|c.5 a bL h;let bw:a<J b1.1:=G;have aa:=O<|o0 W P ba G;rw[ao,bo]at aa;simp only at aa;go_wp21;refine aa.m λZ ⟨e,c,l⟩=>?_;let aB:=O e;let ay:=O<|bT.trans<|(co.CO c).mono λb _ d=>d.2;let C:=O<|b3.kept<|c.5 a bw h;let bI:=C.frozen;have ar:=C.cells;let aj:ao (g9 (a7 Z ⟨a,12,af⟩<|ag ai k) a j r t u w x o A y p B q k/\ed (a7 Z ⟨a,12,af⟩<|ag ai k) g X Q/\co (λb=>b≠a/\b≠g) f (a7 Z ⟨a,12,af⟩<|ag ai k)/\a<J (a7 Z ⟨a,12,af⟩<|ag ai k).1):=⟨l5 C _,(dr _ _ _ _<|Ne.symm h).trans aB,ay.trans<|co.j9 _ λb d=>d.1,by simp_all⟩;let⟨_,_,_,_,_,_,_,_,_,_,_,yE,yF⟩:=ar;let⟨ap,aq,an,bB⟩:=aj;let C:=O ap;let aB:=O aq;let ay:=O an;have ab:=O<|Vd 2 aB G G;rw[ao,bs]at ab;simp only at ab;go_wp21;refine ab.mono ?_;rintro al br ⟨⟨_,rfl⟩,e,c,l⟩;let bD:=O e;let b8:=O<|ay.trans<|(co.CO c).mono λb _ d=>d.2;let bj:=O<|C.kept<|c.5 a bB h;let bu:a<J br.1:=G;have ad:=O<|lW R bD G;rw[ao,bt]at ad;simp only at ad;go_wp21;refine ad.m λb2 ⟨e,c,l⟩=>?_;let bb:=O e;let bm:=O<|b8.trans<|(co.CO c).mono λb _ d=>d.2;let bc:=O<|bj.kept<|c.5 a bu h;let bp:a<J b2.1:=G;have ac:=O<|Vd T bb G G;rw[ao,bz]at ac;simp only at ac;go_wp21;refine ac.mono ?_;rintro al ah ⟨⟨_,rfl⟩,e,c,l⟩;let K:=O e;let aM:=O<|bm.trans<|(co.CO c).mono λb _ d=>d.2;let aO:=O<|bc.kept<|c.5 a bp h;let:=K.frozen;let:=K.cells;let kg:ao (g9 (a7 ah ⟨g,1,af⟩<|aG aD) a j r t u w x o A y p B q k/\ed (a7 ah ⟨g,1,af⟩<|aG aD) g aI aD/\co (λb=>b≠a/\b≠g) f (a7 ah ⟨g,1,af⟩<|aG aD)):=⟨aO.kept<|dr _ _ _ _ h,K.set1 _,aM.trans<|co.j9 _ λb d=>d.2⟩;by_cases bU:I=0;{
 subst bU;by_cases bV:n=41;{subst bV;go_wp2;exact kh (v:=bZ #[]) (by simp[c_,results104]) U ⟨U,aO,by simpa using V K,aM⟩};{
 let bq:((n:Int) != 41)=aD:=by grind
 let q3:(S || !((0:Nat)==0&&n==41))=aD:=by grind
 exact LV}};{
 let bq:((I:Int) != 0)=aD:=by grind
 let q3:(S || !(I==0&&n==41))=aD:=by grind
 exact LV}
def aao(k:a=J f.1)(d e:Int)(g:UInt8)(h:dP):∀(c:Nat) (i:bk),[ag ai d,ag ai e,ag ch<|bg g][c]? = ae i->aA (aN f<|aZ #[ag ai d,ag ai e,ag ch<|bg g] h) (((N a 0):gU).add c)=ae i:=λc i j=>by
 subst k
 match c,j with
 |0,j=>simp at j;subst j;simp[Addr.add]
 |1,j=>simp at j;subst j;exact(bq.fF f [ag ai d,ag ai e,ag ch<|bg g] h).cell 1 ax
 |2,j=>simp at j;subst j;exact(bq.fF f [ag ai d,ag ai e,ag ch<|bg g] h).cell 2 ax
 |l+3,j=>simp at j
def aap(c d:Int)(e:UInt8):∀b∈[ag ai c,ag ai d,ag ch<|bg e],b.oneCell'=aD:=by intro b a;simp at a;rcases a with rfl|rfl|rfl<;>rfl
def aaq:(aL.info? 158).map (λa=>(a.8,a.3,a.4))=ae (ae<|ce #[M 0,M 0,ag ch 0],3,24):=b6
end Go.Proofs.YtkkpahmoljiepabGreatDoor
