import Derived.Test.YtkkpahmoljiepabGreatDoorJ13
set_option maxRecDepth 1000000
set_option maxHeartbeats 12800000
set_option linter.all false
open Array renaming size->J
open Bool renaming false->ak,true->aD
open ByteArray renaming size->b7
open Decidable renaming decide->dC
open Eq renaming symm->b5,trans->cQ
open Go renaming Calls->a_,Obj->g7,Value->bk,World->aQ,maxLen->fk
open Go.Calls renaming mono->eb
open Go.Ending renaming returned->bh
open Go.IntKind renaming i64->ai,u8->ch
open Go.Obj renaming cells->aZ
open Go.Proofs.Tryz renaming prog->aL
open Go.RowKit renaming Below->cv,Hid->ao
open Go.RowKit.Below renaming alloc->cf,mono->bN,trans->bC
open Go.Value renaming agg->ce,bool->aG,int->ag,ownBlock->bA,pointer->cz,slice->aE,string->am,tuple->bZ
open Go.World renaming alloc->aN,alloc_heap_new->cW,cell?->aA,drew->bx,drewN->dS,frozen?->gd,setCell->a7
open Int renaming toNat->cM
open List renaming drop->bi,dropWhile->kT,flatMap->ex,length->E,map->b9,take->be,takeWhile->he,toArray->c7
open Option renaming none->af,some->ae
open Or renaming inl->bJ,inr->bE
open UInt8 renaming toNat->bg
namespace Go.Proofs.YtkkpahmoljiepabGreatDoor
variable{φ:Prop}
open Go.RowKit Go.Proofs.Tryz
variable{a c g v L:Nat}{b f m:World}{d o P:ap}{e k r C:Value}{i:List aK}{j q y:Int}{l t:Bool}{s F:List ap}{A Y:Nat->Prop}{Q:List UInt8}{R:List eJ}
def k8(a:List ap):Nat:=(a.map λb=>E b+1).sum
def vN:k8 (d::s)=E d+1+k8 s:=dl
def vO:∀a:List ap,E a<=k8 a
 |[]=>cO _
 |c::b=>by have:=vO b;rw[vN,dW];omega
def Gf:∀(f:Nat) (a:ap),E a<=f->k8 (I 46 a)=E a+1
 |f,a,c=>by
  rcases m7 46 a with⟨g,b⟩|⟨h,d,e,g,b⟩;{rw[b];rfl};{
  match f,c with
  |0,c=>grind
  |f+1,c=>{rw[b,vN,Gf f d<|by grind,e];grind}}
def vP:∀(b:List ap) (a:ap) (es:gH),E a<=E (de b a es).1/\E (de b a es).1<=E a+k8 b+2/\E es<=E (de b a es).2/\E (de b a es).2<=E es+E b
 |[],a,es=>by simp[de];omega
 |c::d,a,es=>by
  cases e:jA (er (c::d)) es with
  |some g=>rw[vH e];simp
  |none=>{rw[rL e,vN];have:=vP d (a++(UInt8.ofNat (E c)::c))<|es++[(er (c::d),E a)];grind}
def Gg:∀(g:List ap) (d:ap) (b:gH),E d+k8 g<=1000000->E g<=1000->(∀a∈b,E a.1<=1000/\a.2<=1000000)->∀a∈(de g d b).2,E a.1<=1000/\a.2<=1000000
 |[],d,b,_,_,e=>e
 |l::j,d,b,k,h,e=>by
  cases i:jA (er (l::j)) b with
  |some n=>rw[vH i];exact e
  |none=>{rw[rL i];rw[vN]at k;rw[dW]at h;refine Gg j _ _ (by grind) G λa c=>?_;rcases i_.1 c with c|c;{grind};{simp only[yR]at c;subst c;exact⟨by rw[qc,dW];exact h,G⟩}}
def mL:s2->Nat
 |[]=>0
 |.inl b::a=>E b+mL a
 |.inr c::a=>E c+3+mL a
def Gh:∀(g:s2) (a:ap) (b:gH),E a<=E (eZ g a b).1/\E (eZ g a b).1<=E a+mL g/\E (eZ g a b).2<=E b+mL g
 |[],a,b=>by simp[eZ,mL]
 |.inl e::c,a,b=>by have:=Gh c (a++e) b;rw[dj]at this;show _<=E (eZ c (a++e) b).1/\E (eZ c (a++e) b).1<=E a+(E e+mL c)/\E (eZ c (a++e) b).2<=E b+(E e+mL c);omega
 |.inr d::c,a,b=>by have h:=vP (I 46 d) a b;have i:=Gh c (de (I 46 d) a b).1 (de (I 46 d) a b).2;have j:=Gf _ d bo;have k:=vO<|I 46 d;show _<=E (eZ c (de (I 46 d) a b).1 (de (I 46 d) a b).2).1/\E (eZ c (de (I 46 d) a b).1 (de (I 46 d) a b).2).1<=E a+(E d+3+mL c)/\E (eZ c (de (I 46 d) a b).1 (de (I 46 d) a b).2).2<=E b+(E d+3+mL c);omega
def KA:∀(h:s2) (a:ap) (b:gH),E a+mL h<=900000->mL h<=900->(∀c∈b,E c.1<=1000/\c.2<=1000000)->∀c∈(eZ h a b).2,E c.1<=1000/\c.2<=1000000
 |[],a,b,_,_,d=>d
 |.inl k::i,a,b,e,g,d=>by simp only[mL]at e g;exact KA i (a++k) b (by grind) G d
 |.inr j::i,a,b,e,g,d=>by simp only[mL]at e g;have l:=Gf _ j bo;have n:=vO<|I 46 j;have o:=vP (I 46 j) a b;exact KA i _ _ G G<|Gg _ a b G G d
structure AX(x:eJ):Prop where
 dat:et x.2.2.1.type (I 32 x.2.2.1.data)=true
 aP:x.2.2.1.aP<4294967296
 len:x.2.2.1.data.length<=3000
 ne:x.2.2.2≠[]
 lab:∀y∈x.2.2.2,y.length<=255
 sum:k8 x.2.2.2<=300
def Ul{h}(c:et h.type (I 32 h.data)=aD):mL (fu h)<=300:=by
 have a:=uB c;rcases a with a|a|a|a|a|a;all_goals rw[a]at c
 all_goals unfold fu
 {let⟨d,b,o,k⟩:=KT c;rw[b8 a,rJ b];simp[mL,k]};{let⟨d,b,e⟩:=t_ (t:=2) (bJ U) c;let:=(hC e).2;rw[bV G,bV G,bV G,bV G];simp[mL,gI,b];omega};{let⟨d,b,e⟩:=t_ (t:=5) (bE U) c;let:=(hC e).2;rw[bV G,bV G,bV G,bV G];simp[mL,gI,b];omega};{let⟨d,j,l,n,b,i,g,_,_⟩:=BW c;let:=(hC i).2;let:=(hC g).2;rw[bV G,bV G,bV G,b8 a];simp[mL,gI,b,gr];omega};{let⟨d,j,b,_,g⟩:=BX c;let:=(hC g).2;rw[bV G,bV G,b8 a];simp[mL,gI,b];omega};{let⟨d,b,p⟩:=Up c;rw[bV G,b8 a,rJ b];simp[mL];omega}
def adz{a}(e:AX a)(b c):E b<=E (lZ a.2.2.1 a.2.2.2 b c).1/\E (lZ a.2.2.1 a.2.2.2 b c).1<=E b+700/\E (lZ a.2.2.1 a.2.2.2 b c).2<=E c+700/\(E b<=500000->(∀d∈c,E d.1<=1000/\d.2<=1000000)->∀d∈(lZ a.2.2.1 a.2.2.2 b c).2,E d.1<=1000/\d.2<=1000000):=by
 let:=vP a.2.2.2 b c;let:=e.6;let:=vO a.2.2.2;let:=Ul e.1;let:=Gh (fu a.2.2.1) (jU a.2.2.1 (de a.2.2.2 b c).1) (de a.2.2.2 b c).2;let:E (jU a.2.2.1 (de a.2.2.2 b c).1)=E (de a.2.2.2 b c).1+10:=by simp[jU,gr]
 let g:E (lZ a.2.2.1 a.2.2.2 b c).1=E (eZ (fu a.2.2.1) (jU a.2.2.1 (de a.2.2.2 b c).1) (de a.2.2.2 b c).2).1:=by{show(_++_++_:ap).length=_;grind};let h:(lZ a.2.2.1 a.2.2.2 b c).2=(eZ (fu a.2.2.1) (jU a.2.2.1 (de a.2.2.2 b c).1) (de a.2.2.2 b c).2).2:=U;rw[g,h];exact⟨G,G,G,λj i=>KA _ _ _ G G<|Gg _ b c G G i⟩
def jG(d:List eJ)(c:ap)(es:gH):ap×gH:=d.foldl (λa b=>lZ b.2.2.1 b.2.2.2 a.1 a.2) (c,es)
def adA(e:a<E R)(c d):jG (be (a+1) R) c d=lZ R[a].2.2.1 R[a].2.2.2 (jG (be a R) c d).1 (jG (be a R) c d).2:=by rw[jG,g8 e,wE];rfl
def UC:∀(c:List eJ),(∀d∈c,AX d)->∀(a:ap) (b:gH),E a<=E (jG c a b).1/\E (jG c a b).1<=E a+700*E c/\E (jG c a b).2<=E b+700*E c/\(E a+700*E c<=500000->(∀e∈b,E e.1<=1000/\e.2<=1000000)->∀e∈(jG c a b).2,E e.1<=1000/\e.2<=1000000)
 |[],_,a,b=>⟨cO _,cO _,cO _,λ_ g=>g⟩
 |d::c,g,a,b=>by have i:=adz (g d ax) a b;have j:=UC c (λh l=>g h<|by grind) (lZ d.2.2.1 d.2.2.2 a b).1 (lZ d.2.2.1 d.2.2.2 a b).2;have k:jG (d::c) a b=jG c (lZ d.2.2.1 d.2.2.2 a b).1 (lZ d.2.2.1 d.2.2.2 a b).2:=U;grind
def adB{a b}:(m5 a b).flatten=a.flatten++[b]:=by
 unfold m5;split;{
 rename_i e d j;split;{
 let i:a=a.dropLast++[e::d]:=by{
 let c:a≠[]:=λg=>by grind
 let h:=Ib c;grind};grind};{simp}};{simp}
def UD:∀(b:List eJ) (a:List<|List eJ),(b.foldl m5 a).flatten=a.flatten++b
 |[],a=>by simp
 |c::b,a=>by rw[DH,UD b,adB,iz];rfl
def LR(a):(hV a).flatten=a:=by rw[hV,UD];rfl
def adC(a b):E (m5 a b)<=E a+1:=by grind[m5]
def UE:∀(b:List eJ) (a:List<|List eJ),E (b.foldl m5 a)<=E a+E b
 |[],a=>cO _
 |c::b,a=>by have d:=UE b<|m5 a c;have e:=adC a c;grind
def adD(a):E (hV a)<=E a:=by let:=UE a [];simpa [hV]using this
def KB:∀(d:s2) (a:ap) (es:gH),E es<=E (eZ d a es).2
 |[],a,es=>cO _
 |.inl c::b,a,es=>KB b (a++c) es
 |.inr e::b,a,es=>cJ (vP (I 46 e) a es).2.2.1<|KB b _ _
def UF:∀(c:List eJ) (a:ap) (es:gH),E es<=E (jG c a es).2
 |[],a,es=>cO _
 |b::c,a,es=>cJ (cJ (vP b.2.2.2 a es).2.2.1<|KB (fu b.2.2.1) _ _)<|UF c (lZ b.2.2.1 b.2.2.2 a es).1 (lZ b.2.2.1 b.2.2.2 a es).2
structure qw where
 S:ap
 es:gH
 cs:List Nat
 tc:Bool
 full:Bool
def m6(c d b:Nat):List (List eJ)->qw->qw
 |[],aH=>aH
 |a::e,aH=>if aH.5=aD then aH else if c<E (jG a aH.1 aH.2).1+d then {aH with tc:=dC<|b<2,full:=aD}
  else m6 c d b e {aH with S:=(jG a aH.1 aH.2).1,es:=(jG a aH.1 aH.2).2,cs:=aH.3.set (b+1) (aH.3.getD (b+1) 0+E a)}
def KC{b aH}(d:aH.5=aD):m6 c a g b aH=aH:=by
 cases b with
 |nil=>rfl
 |cons e b=>grind[m6]
def UG{e aH}(b:aH.5=ak)(h:c<E (jG R aH.1 aH.2).1+a):m6 c a g (R::e) aH = {aH with tc:=dC<|g<2,full:=aD}:=by grind[m6]
def UH{e aH}(b:aH.5=ak)(h:¬c<E (jG R aH.1 aH.2).1+a):m6 c a g (R::e) aH=m6 c a g e {aH with S:=(jG R aH.1 aH.2).1,es:=(jG R aH.1 aH.2).2,cs:=aH.3.set (g+1) (aH.3.getD (g+1) 0+E R)}:=by
 conv=>lhs;unfold m6
 grind
def rh(b c:Nat):Nat->List (List eJ)->qw->qw
 |_,[],aH=>aH
 |a,d::e,aH=>rh b c (a+1) e<|m6 b c a (hV d) aH
def fX:ap:=[116,119,101,108,118,101,32,98,121,116,101,115]
def KD(a:Nat):ap:=[0,0,41]++[aO 1232,cL 1232]++[UInt8.ofNat<|a/16,0,0,0,0,0]
def vQ(a:Bool)(b:Nat):Nat:=if a=aD then max 512 (min b 1232)else 512
def oF(a:Bool)(b:Nat):ap:=if a=aD then KD b else []
def Ah(e:ap)(d:List ap)(a:Bool)(g b:Nat)(c:List<|List eJ):qw:=
 rh (vQ a g) (E<|oF a b) 0 c ⟨fX++e,(de d fX []).2,[1,0,0,E (oF a b)/11],ak,ak⟩
def yi(s e:ap)(d:List ap)(b:Bool)(g a:Nat)(h:Bool)(c:List<|List eJ):ap:=
 oh s h (Ah e d b g a c).4 a (Ah e d b g a c).3++bi 12 (Ah e d b g a c).1++oF b a
def adE{l}(g:fv b c d e)(p:gb b a c e l)(t:E d<=900000):a_ aL 114 #[bv c,bX] b λo k=>o=bh (bZ #[])/\∃j,fv k c (de [] d l).1 j/\gb k a c j (de [] d l).2/\fz c b e k j:=by
 let n:=O<|rM g p (fz.refl _ _ _) cc<|d++[0];let:=g.cells;let:=g.frozen;let:D d++⟨#[0]⟩=D (d++[0]):=qF d [0];have r:b7 (D d)<=1000000:=lv
 let:ByteArray.size ⟨#[0]⟩=1:=U;go_wp2;go_loopw [4,5] (λq i wr=>q=bX/\i=M 0/\wr=b) λ_ _ _=>0;·simp
 ·(
 obtain⟨rfl,rfl,h⟩:=hrel;have v:=b5 h;subst v;go_wp2;go_loopw [6] (λi wr=>i=M 0/\wr=b) λ_ _=>0;·simp
 ·(obtain⟨rfl,h⟩:=hrel;have v:=b5 h;subst v;go_wp2;exact kh (v:=bZ #[]) (by simp[results,results114]) U ⟨U,_,n⟩))
def Cm(e:aQ)(d:bk)(a:List ap):Prop:=(a=[]/\d=bX)\/(a≠[]/\∃c b,d=bL c 0 (E a) b/\E a<=b/\gR e c 0 a)
def adF(i){h}(C:Cm f r s)(u:a6 f b)(F:J f.1<=a)(K:∀q,bA e=ae q->J f.1<=q)(o:fv b a d e)(n:gb b i a e h)(t:i<=J b.1)(z:E s<=300)(B:∀D∈s,E D<=255)(l:E d<=900000)(y:∀c∈h,E c.1<=1000/\c.2<=1000000)(x:E h<=900000):a_ aL 114 #[bv a,r] b λc k=>c=bh (bZ #[])/\∃j,fv k a (de s d h).1 j/\gb k i a j (de s d h).2/\fz a b e k j:=by rcases C with⟨rfl,rfl⟩|⟨A,I,H,rfl,w,p⟩;{exact adE o n l};{let:=p.1;exact JC o n (p.below u) w G (λc=>by grind) t A z B l y x}
def adG{es cs}(x:gb b a c e es)(p:gS b g cs 3)(d)(aO:d<E cs)(G):gb (a7 b ⟨g,d,af⟩<|ag ai G) a c e es:=by
 let⟨H,y,l,z⟩:=x;let C:bA e≠ae g:=λi=>by{
 rcases l.2 with⟨rfl,_⟩|⟨q,j,K,rfl,_,r,_⟩;{cases i};{
 let:q=g:=by simpa [bA]using i
 rw[this,p]at r;grind}};refine⟨H,y,An l (row:=ae g) ⟨U,U,U,ax,λF _ B=>qZ b (N g d) F _ λi=>B<|by rw[i]⟩ (bE C),λI D=>?_⟩;let⟨q,ay,j,t,u,k,w⟩:=z I D;refine⟨q,ay,j,t,u,⟨eA k.1 ax,λh A=>?_⟩,w⟩;let n:=k.2 h A;let:=p.cell d aO;by_cases o:q=g;{
 subst o;let:ay+h≠d:=λi=>by grind
 refine Eq.trans ?_ n;grind[aA,a7]};{exact(dR (a:=⟨q,ay+h,af⟩) (qZ b (N g d) q _ o)).trans n}
def UI(a d)(i:d=E a)(h:E a<=fk)(g:b.1[c]? = ae (aZ (c7<|a.map λe=>ag ch<|bg e) 5)):(convert 53 9<|bL c 0 d d).run aL b=.ok (aS a) b:=by subst i;exact uD (base:=0) ⟨ax,bE ⟨c,E a,c7<|a.map λe=>ag ch<|bg e,U,dJ _,g,cO _,h,ax,by rw[r5];exact mS ax⟩⟩
def Hj(h:φ:=by exact⟨af,0,by rw[h,h0];rfl⟩):φ:=h
def AB(h:φ:=by rw[h0]at hlt;simp at hlt):φ:=h
def adH(aF:ik b e R)(bV:∀aq∈R,fG b aq.1 aq.2.2.2/\fG b aq.2.1 (I 32 aq.2.2.1.data)/\E aq.2.2.2<=1000)(c9:E R<=1000):a_ aL 115 #[e] b λL cl=>∃aI,L=bh aI/\Ag cl (J b.1) aI (hV R)/\a6 b cl:=by
 have⟨cP,c0,cK,cL,cN⟩:=im Jd;have⟨b3,bT,bK,b1,b2⟩:=im adx;obtain⟨db,dc,y⟩:∃a ac,e=aE a (E R) ac:=by
  rcases aF with⟨h,h0⟩|⟨g,ay,cap,h,_⟩
  ·exact Hj
  ·exact⟨_,_,h⟩
 have bn:=O aF;have bp:=O bV;clear aF bV;subst y;go_wp2
 go_loopw [3,4] (λcg bs wr=>∃(c:Nat) (al:List<|bk×List eJ),bs=ag ai c/\c<=E R/\E al<=c/\(∃a ac,cg=aE a (E al) ac)/\ao (oA wr (J b.1) cg al)/\ao (b9 (·.2) al=hV (be c R))/\ao (a6 b wr)) λ_ bs _=>E R-cM (intOf bs)
 ·exact⟨0,[],U,G,ax,⟨af,0,U⟩,oA.nil _ _,U,cU _ _⟩
 ·obtain⟨c,al,rfl,aO,cG,⟨ca,aW,rfl⟩,z,W,K⟩:=hrel;by_cases hlt:c<E R
  ·have cT:(c:Int)<E R:=G;rcases V bn with⟨_,h0⟩|⟨g,ay,cap,y,c6,c_,ci⟩
   ·exact AB
   obtain⟨rfl,-,rfl⟩:=js y;have⟨A,bG,B,C,cB⟩:=ci c hlt;have⟨a4,bv,bw⟩:=V bp R[c]<|ei hlt;have au:=O<|adt hlt;have⟨aq,aF⟩:=du<|R[c]
   rw[aF]at A bG B C cB a4 bv bw au;obtain⟨de,c8,v,d⟩:=aq;simp only at A bG B C cB a4 bv bw;have cX:=O a4;obtain⟨r,bH,q,rfl,_,_⟩:=a4;obtain⟨eh,p,kx,rfl,_,_⟩:=bv;generalize b_:E (I 32 v.data)=o at*;have aV:ao (∀u,a6 b u->bY u g (ay+c*5) (aE (ae ⟨r,bH,af⟩) (E d) q)/\bY u g (ay+c*5+1) (ag ai v.aP)/\bY u g (ay+c*5+2) (ag ai v.type)/\bY u g (ay+c*5+3) (am<|D v.data)/\bY u g (ay+c*5+4) (aE (ae ⟨eh,p,af⟩) o kx)):=λu aB=>
    have w:∀(a:Addr) (e:bk),aA b a=ae e->aA u a=ae e:=λa e h=>(aB.cell<|g_ b a h).trans h
    ⟨w _ _ A,w _ _ bG,w _ _ B,w _ _ C,w _ _ cB⟩
   clear A bG B C cB aF ci y bn;have cx:=K.4;rcases pf al with rfl|⟨an,⟨bB,l⟩,b4⟩
   ·have A:=V aV wr<|V K;have ab:ao (hV (be (c+1) R)=[[(aE (ae ⟨r,bH,af⟩) (E d) q,aE (ae ⟨eh,p,af⟩) o kx,v,d)]]):=by
     rw[ao,V au,<-V W];rfl
    clear aV au b_;have T:=z.1;have:E ([]:List<|bk×List eJ)<=1000:=by first|omega|simp
    go_wp2_with (at_builtin;go_loud (refine sQ _ U (.tmp 60) (.tmp 66) 212 U (J b.1) 94 b3 (aE af 0 0) 1 24 Ue bT bK b1 b2 U bW _ (E ([]:List<|bk×List eJ)) _ U (g6 T<|(cf cc bo _).alloc ax _) ⟨J wr.1+1,0,af⟩ 1 1 [aE (ae ⟨J wr.1,0,af⟩) 1 1] U U (Uf ax _) (λa9 hu=>yn) lN G ct ?_));intro aI aX S j br n;have aT:(aN (aN wr<|aZ #[aE (ae ⟨r,bH,af⟩) (E d) q,ag ai v.aP,ag ai v.type,am<|D v.data,aE (ae ⟨eh,p,af⟩) o kx] 98)<|aZ #[aE (ae ⟨J wr.1,0,af⟩) 1 1] 94).ownsRow (J b.1) 98 5 (aE (ae ⟨J wr.1,0,af⟩) 1 1) 1 (jq (aE (ae ⟨r,bH,af⟩) (E d) q,aE (ae ⟨eh,p,af⟩) o kx,v,d)):=
     (World.ownsRow_lit wr #[aE (ae ⟨r,bH,af⟩) (E d) q,ag ai v.aP,ag ai v.type,am<|D v.data,aE (ae ⟨eh,p,af⟩) o kx] 1 G lN U).alloc _
    have M:=(((cU (J wr.1) wr).alloc bo<|aZ #[aE (ae ⟨r,bH,af⟩) (E d) q,ag ai v.aP,ag ai v.type,am<|D v.data,aE (ae ⟨eh,p,af⟩) o kx] 98).alloc ax<|aZ #[aE (ae ⟨J wr.1,0,af⟩) 1 1] 94)
    have aJ:=fS T;have aR:=O (z.au7 M aT U j S<|by simpa using n);have aP:=O<|bC K<|(bN M cx).trans ⟨j.1,j.2,j.3,j.4,λw bU=>j.5 w (cd M.4) λL=>cd<|(aJ w<|b5 L).1⟩;obtain⟨bF,aY,rfl⟩:∃a ac,aI=aE a (E ([]:List<|bk×List eJ)+1) ac:=by
     rcases S.2 with⟨_,h0⟩|⟨g,ad,aM,y,_⟩
     ·omega
     ·exact⟨_,_,y⟩
    clear S j br n aT M aJ T;go_wp2;exact⟨⟨c+1,_,dd,G,ax,⟨bF,aY,ax⟩,aR,by rw[V ab];rfl,aP⟩,dz⟩
   ·rw[pe]at b4;subst b4;have H:(bB,l)∈an++[(bB,l)]:=ax;obtain⟨go,cn⟩:∃go,ca=ae ⟨go,0,af⟩:=by
     rcases z.1.2 with⟨_,h0⟩|⟨g,ad,aM,y,_⟩
     ·simp at h0
     ·exact⟨g,(js y).1⟩
    subst cn;obtain⟨x,F,cm⟩:∃x F,bB=aE (ae ⟨x,0,af⟩) (E l) F:=by
     rcases(z.2 _ H).1.2 with⟨_,h0⟩|⟨g,ad,aM,y,_⟩
     ·exact absurd (hq h0) (z.2 _ H).2
     ·exact⟨g,ad,y⟩
    subst cm;have⟨i,aS⟩:=bm<|E an;have ah:E (an++[(aE (ae ⟨x,0,af⟩) (E l) F,l)])=i+1:=by rw[dj,aS];rfl
    have da:i+1<=aW:=by
     rcases z.1.2 with⟨_,h0⟩|⟨g,ad,aM,y,_,_,bz,_⟩
     ·simp at h0
     ·have:=(js y).2.2;rw[ah]at bz;omega
    rw[ah]at cG;have:E l<=F:=by
     rcases(z.2 _ H).1.2 with⟨_,h0⟩|⟨g,ad,aM,y,_,_,bz,_⟩
     ·exact absurd (hq h0) (z.2 _ H).2
     ·have:=(js y).2.2;have:E l<=ad:=bz;omega
    have Z:ao (oA wr (J b.1) (aE (ae ⟨go,0,af⟩) (i+1) aW)<|an++[(aE (ae ⟨x,0,af⟩) (E l) F,l)]):=by rw[ao,<-ah];exact z
    rw[ah];obtain⟨ar,a8,X⟩:∃ar a8,l=ar::a8:=by
     cases l with
     |nil=>exact absurd U (z.2 _ H).2
     |cons ar a8=>exact⟨ar,a8,U⟩
    have c4:0<E l:=by rw[X];simp
    have a0:l∈hV (be c R):=by rw[<-V W];simp
    have bc:=vL<|Ck _ a0 ar (by rw[X];simp);have:E l<=c:=cJ (adw a0) (by rw[iv];omega);obtain⟨bu,-,b8⟩:=V bp ar bc;have bO:=O bu;obtain⟨df,c5,av,Y⟩:=ar;simp only at bu b8 bO;obtain⟨co,c1,aY,rfl,-,-⟩:=bu;have bf:ao (∀u,a6 wr u->bY u go i (aE (ae ⟨x,0,af⟩) (E l) F)/\bY u x 0 (aE (ae ⟨co,c1,af⟩) (E Y) aY)/\bY u x 2 (ag ai av.type)):=λu aB=>by
     have w:∀(a:Addr) (e:bk),aA wr a=ae e->aA u a=ae e:=λa e h=>(aB.cell<|g_ wr a h).trans h;have bX:=Z.1;rw[ah]at bX;have az:=lG bX i G;have bQ:=lG (Z.2 _ H).1 0 (by show 0<E l*5;omega);have bR:=lG (Z.2 _ H).1 2 (by show 2<E l*5;omega);rw[jg,pv (by rw[ff,aS];exact cO _),ff,<-aS,pX]at az;simp only[X,kj]at bQ bR;exact⟨w _ _ az,w _ _ bQ,w _ _ bR⟩
    have ck:=O λu (aB:a6 b u)=>rQ (bO.below aB) (cX.below aB) b8 bw;have ba:ao (Y=d/\av.type=v.type->hV (be (c+1) R)=b9 (·.2) an++[l++[(aE (ae ⟨r,bH,af⟩) (E d) q,aE (ae ⟨eh,p,af⟩) o kx,v,d)]]):=λh=>by
     rw[V au,<-V W,jg,X];exact Uc _ _ h
    have bj:ao (¬(Y=d/\av.type=v.type)->hV (be (c+1) R)=b9 (·.2) (an++[(aE (ae ⟨x,0,af⟩) (E l) F,l)])++[[(aE (ae ⟨r,bH,af⟩) (E d) q,aE (ae ⟨eh,p,af⟩) o kx,v,d)]]):=λh=>by
     rw[V au,<-V W,X,jg];exact Ud _ _ h
    have:=(Z.1.lt go U).2;have:=((Z.2 _ H).1.lt x U).2;have⟨aj,aU,a3⟩:=V bf wr cc;have⟨A,bG,B,C,cB⟩:=V aV wr<|V K;have cS:aA (bx wr) ⟨go,i,af⟩=_:=aj;have cy:aA (bx wr) ⟨x,0,af⟩=_:=aU;have cA:aA (bx wr) ⟨g,ay+c*5,af⟩=_:=A;have c2:ai.wrap (((i+1:Nat):Int)-1)=(i:Int):=fl
    have c3:ai.wrap ((i:Int)+1-1)=(i:Int):=fl
    have:0<=(i:Int):=G;have:(i:Int)<((i+1:Nat):Int):=G;have:0<(E l:Int):=G;have:=O<|cj X<|cj a0 bc;have aH:=O<|cj aS ah;clear X a0 bc aS ah z au W aj aU a3 A bG B C cB b_;go_wp2;go_region_with (go_at_call 93;refine(ck _ K.drew).m λk bS=>?_)
    all_goals
     have aK:a6 wr k:=(cc.drew).trans bS;have aa:=O<|bC K<|bN aK K.4;have:=aK.4;have a5:=O<|Z.below aK;have⟨aj,aU,a3⟩:=V bf k aK;have⟨A,bG,B,C,cB⟩:=V aV k<|V aa;clear bS aK Z ck cS cy cA bf aV K;simp only[List.getElem_toArray,eG,eB,Act.put,kB,iR,iy];by_cases ap:Y=d/\av.type=v.type
     ·have ab:=O<|ba ap;have cI:(av.type==v.type)=aD:=by simp[ap.2]
      rw[lx ap.1];clear ba bj ap;go_wp2;go_quiet (fail);have N:=jn (cU (J k.1) k) nq;have Q:=O<|a5.below N;have a1:=O<|bC aa<|bN N aa.4;have bt:bY (dS k nq) go i (aE (ae ⟨x,0,af⟩) (E l) F):=aj;have cr:bY (dS k nq) g (ay+c*5) (aE (ae ⟨r,bH,af⟩) (E d) q):=A;have cs:bY (dS k nq) g (ay+c*5+1) (ag ai v.aP):=bG;have cu:bY (dS k nq) g (ay+c*5+2) (ag ai v.type):=B;have cw:bY (dS k nq) g (ay+c*5+3) (am<|D v.data):=C;have cp:bY (dS k nq) g (ay+c*5+4) (aE (ae ⟨eh,p,af⟩) o kx):=cB;have cH:=N.4;clear N A bG B C cB aj aU a3 a5 aa;generalize dS k nq=t at*;go_wp2;have bI:=Q.4 _ H;have bL:=(Q.2 _ H).1;have aw:=aH.2;have P:=Q.1;rw[aw]at P;have cb:=Dj P i;have bq:ae go≠bA (aE (ae ⟨x,0,af⟩) (E l) F):=λL=>bI<|b5 L;have cq:bY (bx<|aN t<|aZ #[aE (ae ⟨r,bH,af⟩) (E d) q,ag ai v.aP,ag ai v.type,am<|D v.data,aE (ae ⟨eh,p,af⟩) o kx] 98) go i (aE (ae ⟨x,0,af⟩) (E l) F):=(dR (a:=⟨go,i,af⟩) (dv t _ go G)).trans bt;have bl:=O bL;have bD:=O λcZ=>dv t cZ go G;clear P bL bI
      go_region_law (first|(refine step_append_lies _ rfl (.tmp 52) (.tmp 57) 94 rfl b.heap.size 98 cP _ 5 80 EG c0 cK cL cN rfl bW _ l.length (l.flatMap jq) rfl (g6 (V bl) (cc.alloc bo _).drew) _ 1 1 (jq (.slice (some ⟨r,bH,none⟩) d.length q,.slice (some ⟨eh,p,none⟩) o kx,v,d)) rfl rfl (λcR a9 cE=>ady t U _ cR a9 cE) (λa9 hu=>by simp[jq]at hu;rcases hu with rfl|rfl|rfl|rfl|rfl<;>rfl) bW lN G ct (J t.1+1) ax ?_;intro bP bM aX b0 j n cF;have cC:=(sN (a:=⟨go,i,af⟩) ((j.5 go ct bq).trans<|bD _)).trans cb;have cV:=(dR (a:=⟨go,i,af⟩) ((j.5 go ct bq).trans<|bD _)).trans bt))
      all_goals
       have a2:=(Q.below ((cU (J t.1) t).alloc bo _).drew).aMg (go:=go) (cap:=aW) (by rw[<-aH.1]) j b0 (n.imp (λh=>b5 h) (λh=>by rw[h];simp;rfl));rw[<-aH.1]at a2;have bb:=(cf a1 G<|aZ #[aE (ae ⟨r,bH,af⟩) (E d) q,ag ai v.aP,ag ai v.type,am<|D v.data,aE (ae ⟨eh,p,af⟩) o kx] 98).drew;have cD:=(bl.lt x U).1;have aC:World.grownBy _ aX (ae x):=j;have b6:cv (J b.1) (bx<|aN t<|aZ #[aE (ae ⟨r,bH,af⟩) (E d) q,ag ai v.aP,ag ai v.type,am<|D v.data,aE (ae ⟨eh,p,af⟩) o kx] 98) aX:=⟨aC.1,aC.2,aC.3,aC.4,λw bU=>aC.5 w (cd bb.4) λL=>absurd (gm L) G⟩
       have aR:=O a2.1;have aP:=O<|bC bb<|a2.2 _ bo b6;clear a2 bb b6 cD b0 aC j n cF cC cV Q a1 bl bD cq cb bq;generalize a7 aX ⟨go,i,af⟩ (aE (ae ⟨bP,0,af⟩) (E l+1) bM)=dg at*;go_wp2;exact⟨⟨c+1,an++[(aE (ae ⟨bP,0,af⟩) (E l+1) bM,l++[(aE (ae ⟨r,bH,af⟩) (E d) q,aE (ae ⟨eh,p,af⟩) o kx,v,d)])],dd,G,by rw[dj,<-aH.1];simp;omega,⟨ae ⟨go,0,af⟩,aW,by rw[dj,<-aH.1];rfl⟩,aR,by rw[V ab,jg];rfl,aP⟩,dz⟩
     ·have ab:=O<|bj ap;have cY:dC (Y=d)=ak\/(dC (Y=d)=aD/\(av.type==v.type)=ak):=by
       by_cases az:Y=d
       ·right;exact⟨lx az,by simpa using λh=>ap ⟨az,h⟩⟩
       ·exact bJ<|fI az
      clear ba bj ap;have aw:=aH.2;rcases cY with bd|⟨bd,cI⟩
      all_goals
       rw[bd];clear bd;go_wp2;go_quiet (fail);have N:=jn (cU (J k.1) k) nq;have Q:=O<|a5.below N;have a1:=O<|bC aa<|bN N aa.4;have bt:bY (dS k nq) go i (aE (ae ⟨x,0,af⟩) (E l) F):=aj;have cr:bY (dS k nq) g (ay+c*5) (aE (ae ⟨r,bH,af⟩) (E d) q):=A;have cs:bY (dS k nq) g (ay+c*5+1) (ag ai v.aP):=bG;have cu:bY (dS k nq) g (ay+c*5+2) (ag ai v.type):=B;have cw:bY (dS k nq) g (ay+c*5+3) (am<|D v.data):=C;have cp:bY (dS k nq) g (ay+c*5+4) (aE (ae ⟨eh,p,af⟩) o kx):=cB;have cH:=N.4;clear N A bG B C cB aj aU a3 a5 aa;generalize dS k nq=t at*;have P:=Q.1;rw[aw]at P;replace P:=O P;have T:=V P;go_wp2_with (at_builtin;go_loud (refine sQ _ U (.tmp 60) (.tmp 66) 212 U (J b.1) 94 b3 (aE af 0 0) 1 24 Ue bT bK b1 b2 U bW _ (i+1) _ U (g6 T<|(cf cc bo _).alloc ax _) ⟨J t.1+1,0,af⟩ 1 1 [aE (ae ⟨J t.1,0,af⟩) 1 1] U U (Uf ax _) (λa9 hu=>yn) lN G ct ?_));intro aI aX S j br n;have aT:(aN (aN t<|aZ #[aE (ae ⟨r,bH,af⟩) (E d) q,ag ai v.aP,ag ai v.type,am<|D v.data,aE (ae ⟨eh,p,af⟩) o kx] 98)<|aZ #[aE (ae ⟨J t.1,0,af⟩) 1 1] 94).ownsRow (J b.1) 98 5 (aE (ae ⟨J t.1,0,af⟩) 1 1) 1 (jq (aE (ae ⟨r,bH,af⟩) (E d) q,aE (ae ⟨eh,p,af⟩) o kx,v,d)):=
        (World.ownsRow_lit t #[aE (ae ⟨r,bH,af⟩) (E d) q,ag ai v.aP,ag ai v.type,am<|D v.data,aE (ae ⟨eh,p,af⟩) o kx] 1 G lN U).alloc _
       have M:=(((cU (J t.1) t).alloc bo<|aZ #[aE (ae ⟨r,bH,af⟩) (E d) q,ag ai v.aP,ag ai v.type,am<|D v.data,aE (ae ⟨eh,p,af⟩) o kx] 98).alloc ax<|aZ #[aE (ae ⟨J t.1,0,af⟩) 1 1] 94)
       have aJ:=fS T;have aR:=O (Q.au7 M aT U j (by rw[aw];simpa using S)<|by simpa using n);have aP:=O<|bC a1<|(bN M G).trans ⟨j.1,j.2,j.3,j.4,λw bU=>j.5 w (cd M.4) λL=>cd<|(aJ w<|b5 L).1⟩;obtain⟨bF,aY,rfl⟩:∃a ac,aI=aE a (i+1+1) ac:=by
        rcases S.2 with⟨_,h0⟩|⟨g,ad,aM,y,_⟩
        ·omega
        ·exact⟨_,_,y⟩
       clear S j br n aT M aJ T;go_wp2;exact⟨⟨c+1,_,dd,G,by rw[dj,aw];simp;omega,⟨bF,aY,by rw[dj,aw];rfl⟩,aR,by rw[V ab,jg];rfl,aP⟩,dz⟩
  ·obtain rfl:c=E R:=G;have cT:¬(E R:Int)<E R:=G;have ab:ao (Ag wr (J b.1) (aE ca (E al) aW)<|hV R):=by
    have:=z.at
    rw[V W,jc]at this;exact this
   clear hlt z W bp bn;go_wp2;go_ret;exact⟨_,U,ab,K⟩
structure Aj(w0 W:World)(cb lb ab:Nat)(rc:Int)(aa:Bool)(va vu vd:Value)(cs:List Nat):Prop where
 c:gS W cb (cs.map λn:Nat=>(n:Int)) 3
 l:W.heap[lb]? = some (.cells #[va,vu,vd] 94)
 a:fC W ab rc aa va vu vd
 b:a6 w0 W
 hc:w0.heap.size<=cb
 hl:w0.heap.size<=lb
 ha:w0.heap.size<=ab
 ne:lb≠cb/\ab≠cb
section
variable {w0 W:World} {cb lb ab:Nat} {rc:Int} {aa:Bool} {va vu vd:Value}{cs:List Nat} (h:Aj w0 W cb lb ab rc aa va vu vd cs)
include h
theorem Aj.below(a:a6 W b):Aj w0 b cb lb ab rc aa va vu vd cs:=
 ⟨(a.5 cb h.1.lt).trans h.1,(a.5 lb (dK.1 h.2).1).trans h.2,h.3.kept<|a.5 ab h.3.lt,bC h.4<|bN a h.4.4,h.5,h.6,h.7,h.8⟩
theorem Aj.set(d n:Nat)(aO:d<E cs):Aj w0 (a7 W ⟨cb,d,af⟩<|ag ai (n:Int)) cb lb ab rc aa va vu vd (cs.set d n) where
 c:=DK▸h.1.set d n
 l:=(qZ W (N cb d) lb _ h.8.1).trans h.2
 a:=h.3.kept (qZ W (N cb d) ab _ h.8.2)
 b:=h.4.setCell (p:=⟨cb,d,af⟩) h.5 _
 hc:=h.5
 hl:=h.6
 ha:=h.7
 ne:=h.8
end
structure s3(w0 W:World)(cb lb ab wb:Nat)(rc:Int)(aa:Bool)(va vu vd:Value)(v:Value)(aH:qw)(n:Nat):Prop where
 wr:fv W wb aH.S v
 ow:gb W w0.heap.size wb v aH.es
 aw:Aj w0 W cb lb ab rc aa va vu vd aH.cs
 ajb:w0.heap.size<=wb
 sl:aH.S.length<=1300
 el:aH.es.length<=300+700*n
 Wp:∀e∈aH.es,e.1.length<=1000/\e.2<=1000000
 cl:aH.cs.length=4
 cn:∀c∈aH.cs,c<=2+n
 lo:12<=aH.S.length
def s3.below{i:Nat}{k:bk}{aH:qw}{n:Nat}(o:s3 b f a i g c j l k e r C aH n)(v:a6 f m):s3 b m a i g c j l k e r C aH n:=
 ⟨o.1.below v,o.2.below v,o.3.below v,o.4,o.5,o.6,o.7,o.8,o.9,o.10⟩
def s3.mono{aH:qw}{m:Nat}(i:s3 f b a g c v j l e r k C aH L)(h:L<=m):s3 f b a g c v j l e r k C aH m:=
 ⟨i.1,i.2,i.3,i.4,i.5,cJ i.6 G,i.7,i.8,λp q=>cJ (i.9 p q) G,i.10⟩
def ado{d:gH}(v:gb b c g e d)(p:a<=c):gb b a g e d:=by let⟨t,n,h,o⟩:=v;refine⟨t,n,bd h.1 ?_,o⟩;rcases h.2 with v|⟨l,i,j,k,q,r⟩;{exact bJ v};{exact bE ⟨l,i,j,k,cJ p q,r⟩}
def adp(v:a6 b f)(c:fz a f e m k)(n:J b.1<=a)(i:∀l,bA e=ae l->J b.1<=l):a6 b m:=
 ⟨cQ c.1.1 v.1,cQ c.1.2 v.2,cQ c.1.3 v.3,cJ v.4 c.1.4,λl h=>(c.1.5 l (eA h v.4) ⟨G,λj=>by have:=i l<|b5 j;omega⟩).trans<|v.5 l h⟩
def Gi(a:List<|List eJ)(b:Nat):E (be b a).flatten<=E a.flatten:=by
 conv=>rhs;rw[<-ku b a]
 rw[List.flatten_append,dj];omega
def adq{b:List<|List eJ}(c:a<E b):E (be (a+1) b).flatten=E (be a b).flatten+b[a].length:=by rw[g8 c,List.flatten_append,dj];simp
def adr:a_ aL 57 #[M 1232] b (cI (aS [aO 1232,cL 1232]) b):=nW 1232 b G
def Mz(h:φ:=by
 cases hf:aH.5
 ·exact absurd (bd h1 hf) hc
 ·rfl):φ:=h
def L1(h:φ:=by simp only[fw,rF,n_]at hc;rcases hc with rfl|rfl|rfl|rfl<;>omega):φ:=h
def E3(h:φ:=by rw[<-V WA];exact LR iw):φ:=h
def ads{dq:bk}{P:Bool}{dH:bk}{u c3:List eJ}{w:aQ}(gv:12<=E d)(hm:E d<=2000000)(T:Cm w dq s)(ga:E o<=1000)(ej:k8 s<=300)(dV:∀n∈s,E n<=255)(gZ:c<4096)(b_:a<65536)(dt:ik w k R)(c9:ik w r u)(dw:ik w dH c3)(e3:∀n∈R++(u++c3),fG w n.1 n.2.2.2/\fG w n.2.1 (I 32 n.2.2.1.data))(d5:∀n∈R++(u++c3),AX n)(fp:E R<=100)(gg:E u<=100)(f_:E c3<=100)(bw:R++(u++c3)≠[]->s≠[]):a_ aL 52 #[aS d,ce #[aS o,dq,M j,M q,aG l,M a,M y],ce #[M c,aG P,k,r,dH]] w λe w'=>e=bh (aS<|yi d o s l a c P [R,u,c3])/\a6 w w':=by
 obtain⟨al,aq,fg⟩:∃c4 C,k=aE c4 (E R) C:=by rcases dt with⟨h,e⟩|⟨_,_,_,h,_⟩;exact⟨af,0,by rw[h,e];rfl⟩;exact⟨_,_,h⟩
 obtain⟨ah,av,gc⟩:∃c4 C,r=aE c4 (E u) C:=by rcases c9 with⟨h,e⟩|⟨_,_,_,h,_⟩;exact⟨af,0,by rw[h,e];rfl⟩;exact⟨_,_,h⟩
 obtain⟨an,ar,fi⟩:∃c4 C,dH=aE c4 (E c3) C:=by rcases dw with⟨h,e⟩|⟨_,_,_,h,_⟩;exact⟨af,0,by rw[h,e];rfl⟩;exact⟨_,_,h⟩
 obtain⟨b2,ci,cg,gW⟩:∃c4 bB C,dq=aE c4 bB C:=by rcases T with⟨_,h⟩|⟨_,_,_,h,_⟩<;>exact⟨_,_,_,h⟩
 have fx:=O T;have g3:=O dt;have ge:=O c9;have fe:=O dw;have dm:=O e3;have ez:=O d5;have f8:=O dV;have g1:=O bw;clear T dt c9 dw e3 d5 dV bw;subst fg gc fi gW;have⟨fO,dx⟩:=bm (aZ #[am<|D o,aE b2 ci cg,ag ai j,ag ai q,aG l,ag ai a,ag ai y] 122:g7)
 have⟨eV,ds⟩:=bm (aZ #[ag ai c,aG P,aE al (E R) aq,aE ah (E u) av,aE an (E c3) ar] 102:g7)
 have c8:ao (a6 w<|aN (aN w fO) eV):=(cf cc bo _).alloc ax _;have eZ:J (aN (aN w fO) eV).1=J w.1+2:=ax;have dQ:(aN (aN w fO) eV).1[J w.1]? = ae (aZ #[am<|D o,aE b2 ci cg,ag ai j,ag ai q,aG l,ag ai a,ag ai y] 122):=by
  rw[<-dx];exact G9
 have dT:fC (aN (aN w fO) eV) (J w.1+1) c P (aE al (E R) aq) (aE ah (E u) av) (aE an (E c3) ar):=by
  have:=cW (aN w fO) eV;rw[eE]at this;rw[fC,this,ds]
 have cp:=O dQ;have bK:=O dT;clear dQ dT;have⟨K,ek⟩:=bm<|vQ l a;have⟨aj,el⟩:=bm<|oF l c;have az:=O<|cj ek el;clear ek el;go_in
 go_upto_if 20 with fail
 rw[<-dx,<-ds];have⟨W,e1⟩:=du<|aN (aN w fO) eV
 rw[e1]at c8 eZ cp bK⊢;have:J w.1+2<=J W.1:=G;clear e1 dx ds eZ
 go_cut [7,8]from 21 to 33 λba gV g0=>ba=M K/\gV=aS aj/\ao (a6 W g0)
 ·have da:=V cp;have gM:aA W (N (J w.1) 5)=ae (M a):=by simp[aA,da]
  have aV:=bK.cells.1;cases l with
  |false=>
   have a4:K=512/\aj=[]:=by rw[az.1,az.2];exact oa
   clear da gM aV;go_wp2;go_meet
   ·exact⟨by rw[a4.1];rfl,by rw[a4.2];rfl,cU _ _⟩
  | true=>
   have a4:((K:Nat):Int)=max 512 (min (a:Int) 1232)/\aj=KD c:=by
    rw[az.1,az.2];refine bd ?_ U;show((max 512 (min a 1232):Nat):Int)=_;omega
   have em:aA (bx W) (N (J w.1+1) 0)=ae (M c):=aV;have⟨F,hu⟩:=bm<|UInt8.ofNat<|c/16
   have⟨dk,fh⟩:=bm<|c/16;have:(c:Int)/16=(dk:Int):=G;have hn:ch.wrap (dk:Int)=(bg F:Int):=CC
   have:=iV (dk:Int)
   have cG:aj=[0,0,41]++[aO 1232,cL 1232]++[F,0,0,0,0,0]:=by rw[a4.2,hu];rfl
   have:=O cG;have eL:=a4.1;have fL:=O eL;have:(convert 53 9<|bL (J W.1) 0 6 6).run aL (bx<|aN W<|aZ #[ag ch<|bg F,ag ch 0,ag ch 0,ag ch 0,ag ch 0,ag ch 0] 5)=.ok (aS [F,0,0,0,0,0]) (bx<|aN W<|aZ #[ag ch<|bg F,ag ch 0,ag ch 0,ag ch 0,ag ch 0,ag ch 0] 5):=UI [F,0,0,0,0,0] 6 U yp<|cW W _;have fM:aA (bx<|aN W<|aZ #[ag ch<|bg F,ag ch 0,ag ch 0,ag ch 0,ag ch 0,ag ch 0] 5) (N (J w.1+1) 0)=ae (M c):=(dR (a:=⟨J w.1+1,0,af⟩) (dv W _ (J w.1+1) G)).trans aV;have:b7 (D [F,0,0,0,0,0])=6:=U;have:b7 (D [aO 1232,cL 1232])=2:=U;have:ByteArray.size ⟨#[0,0,41]⟩=3:=U;have ca:(⟨#[0,0,41]⟩:ByteArray)++D [aO 1232,cL 1232]=D [0,0,41,aO 1232,cL 1232]:=U;have:b7 (D [0,0,41,aO 1232,cL 1232])=5:=U;have cb:D [0,0,41,aO 1232,cL 1232]++D [F,0,0,0,0,0]=D aj:=cG▸qF _ _
   clear da hu fh a4 cG eL;go_wp2;go_region_with (go_at_call 57;refine(adr).m λi aa=>?_;have:=(aa.cell (p:=⟨J w.1+1,0,af⟩) (by show J w.1+1<_;simp;omega)).trans (by first|exact em|exact fM);have:(convert 53 9<|bL (J i.1) 0 6 6).run aL (aN i<|aZ #[ag ch<|bg F,ag ch 0,ag ch 0,ag ch 0,ag ch 0,ag ch 0] 5)=.ok (aS [F,0,0,0,0,0]) (aN i<|aZ #[ag ch<|bg F,ag ch 0,ag ch 0,ag ch 0,ag ch 0,ag ch 0] 5):=xt i [F,0,0,0,0,0] 6 U yp;try have:=UI [F,0,0,0,0,0] 6 U yp<|(aa.5 (J W.1) ax).trans<|cW W _)
   all_goals
    go_wp2;go_meet
    ·refine⟨eQ (ag ai)<|b5 fL,U,?_⟩
     first
      |exact(cc.drew).trans<|cf aa aa.4 _
      |exact((cf cc bo _).drew).trans<|bN aa ax
 ·obtain⟨rfl,rfl,eC⟩:=hcut;generalize wc=i at*;have aa:=V eC;have:=aa.4;have cq:i.1[J w.1]? = _:=(aa.5 (J w.1) G).trans<|V cp;have e8:aA i (N (J w.1) 1)=ae (aE b2 ci cg):=by simp[aA,cq]
  have fc:=bK.kept<|aa.5 (J w.1+1) G;have e5:=O cq;have fb:=O fc;have bG:=bC c8<|bN aa G;have cH:=O bG;have⟨A,b0⟩:=bm<|E aj;have:b7 (D aj)=A:=by rw[cV,b0]
  have g_:A<=11:=by
   rw[b0,az.2];unfold oF;split
   ·exact cO _
   ·simp
  have ha:512<=K/\K<=1232:=by
   rw[az.1];unfold vQ;split<;>omega
  have⟨cD,cu⟩:=bm (aZ #[am<|D fX,aE af 0 0] 210:g7)
  have fN:=ej;have fr:=cJ (vO s) ej;have eN:fv (aN i cD) (J i.1) fX (bX):=by unfold fv;rw[cW,cu]
  have bb:a6 i (aN i cD):=cf cc bo _;have en:=O<|adF (J w.1) (V fx) (bC bG<|bN bb bG.4) G (λdD aX=>by cases aX) eN (gb.nil _ _ _) ct fr (V f8) bW (λe bt=>by cases bt) ax;have gX:=O b0;have fP:aA (aN i<|aZ #[am ⟨#[116,119,101,108,118,101,32,98,121,116,101,115]⟩,aE af 0 0] 210) (N (J w.1) 1)=ae (aE b2 ci cg):=(dR (a:=⟨J w.1,1,af⟩) (dv i _ (J w.1) G)).trans e8;clear aa fc cq bG b0 fN eC c8 cp bK;go_wp2_with fail;have eo:aZ #[am ⟨#[116,119,101,108,118,101,32,98,121,116,101,115]⟩,aE af 0 0] 210=cD:=b5 cu;rw[eo];refine en.m ?_;rintro t ⟨dF,bQ,ep,aU⟩;have gw:=aU.1.4;rw[eE]at gw;have cn:=λdD aX=>(aU.1.5 dD ct ⟨G,λe=>by cases e⟩).trans<|bb.5 dD aX;have eq:=(cn (J w.1) G).trans<|V e5;have gL:aA t (N (J w.1) 0)=ae (aS o):=by simp[aA,eq]
  have dP:=fb.kept<|cn (J w.1+1) G;have eK:=bC cH ⟨cQ aU.1.1 bb.1,cQ aU.1.2 bb.2,cQ aU.1.3 bb.3,G,λdD aX=>cn dD<|cd cH.4⟩;have cK:=rM bQ ep (fz.refl _ _ _) cc<|fX++o;have gx:∀dD,bA dF=ae dD->J w.1+2<=dD:=λdD aX=>by
   rcases aU.2 dD aX with h|h
   ·cases h
   ·rw[eE]at h;omega
  have cE:=dP.kept (w':=a7 t ⟨J i.1,0,af⟩<|am<|D<|fX++o) (qZ t (N (J i.1) 0) (J w.1+1) _ (by show J w.1+1≠J i.1;omega));have c5:=eK.setCell (p:=⟨J i.1,0,af⟩) (by show J w.1<=J i.1;omega) (aS<|fX++o);have gE:(⟨#[116,119,101,108,118,101,32,98,121,116,101,115]⟩:ByteArray)++D o=D (fX++o):=qF fX o;have f9:ByteArray.size ⟨#[116,119,101,108,118,101,32,98,121,116,101,115]⟩=12:=U;have fQ:b7 (D o)<=1000:=by rw[cV];exact ga
  have gt:=bQ.frozen;have LE:=bQ.cells;have⟨aV,cF,d2,d3,d4⟩:=cE.cells;have⟨Z,c1⟩:=bm<|A/11
  have e4:(A:Int)/11=(Z:Int):=G;have gB:=iV (Z:Int)
  have gC:(A:Int).tdiv 11=(Z:Int):=by rw[Int.tdiv_eq_ediv_of_nonneg G];exact e4
  have dE:ao (E ((de s fX []).2)<=300/\∀e∈(de s fX []).2,E e.1<=1000/\e.2<=1000000):=by
   have h1:=vP s fX [];refine⟨by simp at h1;omega,Gg s fX [] (by show 12+k8 s<=1000000;omega) G λe bt=>by cases bt⟩
  have d7:ao (∀(H Y:g7),H=aZ #[ag ai 1,ag ai 0,ag ai 0,ag ai Z] 3->Y=aZ #[aE al (E R) aq,aE ah (E u) av,aE an (E c3) ar] 94 ->
    s3 w (aN (aN (a7 t ⟨J i.1,0,af⟩<|am<|D<|fX++o) H) Y) (J t.1) (J t.1+1) (J w.1+1) (J i.1) c P (aE al (E R) aq) (aE ah (E u) av) (aE an (E c3) ar) dF ⟨fX++o,(de s fX []).2,[1,0,0,Z],ak,ak⟩ 0):=λH Y bj bl=>by
   have b_:J (a7 t ⟨J i.1,0,af⟩<|am<|D<|fX++o).1=J t.1:=ax;have aP:cv (J (a7 t ⟨J i.1,0,af⟩<|am<|D<|fX++o).1) (a7 t ⟨J i.1,0,af⟩<|am<|D<|fX++o) (aN (aN (a7 t ⟨J i.1,0,af⟩<|am<|D<|fX++o) H) Y):=(cf cc bo _).alloc ax _;refine⟨cK.1.below aP,cK.2.1.below aP,⟨?_,?_,cE.kept<|aP.5 _ (by rw[b_];omega),bC c5<|bN aP c5.4,G,G,G,G,G⟩,G,by show(fX++o).length<=1300;rw[dj];show 12+E o<=1300;omega,dE.1,dE.2,U,λC hc=>?_,by show 12<=E (fX++o);rw[dj];show 12<=12+E o;omega⟩
   ·have h1:(aN (aN (a7 t ⟨J i.1,0,af⟩<|am<|D<|fX++o) H) Y).1[J t.1]? = ae H:=by
     have h0:=cW (a7 t ⟨J i.1,0,af⟩<|am<|D<|fX++o) H;rw[b_]at h0;exact(dv (aN (a7 t ⟨J i.1,0,af⟩<|am<|D<|fX++o) H) Y (J t.1) ax).trans h0
    rw[gS,h1,bj];rfl
   ·have:=cW (aN (a7 t ⟨J i.1,0,af⟩<|am<|D<|fX++o) H) Y;rw[eE,b_]at this;rw[this,bl]
   ·exact L1
  clear bQ ep aU cn eq dP cK cE eK c5 eN bb en e5 fb cH dE eo cu gC;have:Z<=1:=G;replace c1:=O c1;have bR:∀(H:g7) (b:Nat),aA (aN (a7 t ⟨J i.1,0,af⟩<|am<|D<|fX++o) H) (N (J w.1+1) b)=aA (a7 t ⟨J i.1,0,af⟩<|am<|D<|fX++o) (N (J w.1+1) b):=λH b=>dR (a:=⟨J w.1+1,b,af⟩) (dv _ _ (J w.1+1) ct);have gh:=(bR (aZ #[ag ai 1,ag ai 0,ag ai 0,ag ai Z] 3) 2).trans d2;have gi:=(bR (aZ #[ag ai 1,ag ai 0,ag ai 0,ag ai Z] 3) 3).trans d3;have gj:=(bR (aZ #[ag ai 1,ag ai 0,ag ai 0,ag ai Z] 3) 4).trans d4;clear bR aV cF d2 d3 d4;go_wp2;have⟨H,bj⟩:=bm (aZ #[ag ai 1,ag ai 0,ag ai 0,ag ai Z] 3:g7)
  have⟨Y,bl⟩:=bm (aZ #[aE al (E R) aq,aE ah (E u) av,aE an (E c3) ar] 94:g7)
  rw[<-bj,<-bl];have et:=O<|d7 H Y bj bl;have:J t.1+2<=J (aN (aN (a7 t ⟨J i.1,0,af⟩<|am<|D<|fX++o) H) Y).1:=ax;clear d7 gh gi gj bj bl;generalize aN (aN (a7 t ⟨J i.1,0,af⟩<|am<|D<|fX++o) H) Y=gY at*;have⟨dG,dc⟩:=bm<|J t.1;have⟨a2,bn⟩:=bm (⟨fX++o,(de s fX []).2,[1,0,0,Z],ak,ak⟩:qw)
  have⟨aW,db⟩:=bm<|J w.1+1;rw[<-dc,<-db,<-bn]at et;have eI:ao (Ah o s l a c [R,u,c3]=rh K A 0 [R,u,c3] a2):=by
   rw[Ah,ao,<-az.1,<-az.2,<-V gX,<-V c1,<-bn]
  have⟨bI,cA⟩:=du<|rh K A 0 [R,u,c3] a2
  have gp:=O cA;rw[cA]at eI;rw[<-dc,<-db];have dW:(aG ak)=aG a2.4/\(aG ak)=aG a2.5:=by rw[bn];exact oa
  have dM:=O dW;have:J w.1+3<=dG/\dG+2<=J gY.1:=G;have:J w.1<=aW/\aW<dG:=G;have fu:ao (R++(u++c3)≠[]->a2.2≠[]):=λh=>by
   have T:=V g1 h;rw[bn];show(de s fX []).2≠[];cases s with
   |nil=>exact absurd U T
   |cons n dy=>
    rw[rL dl];intro bt;have:=(vP dy (fX++(UInt8.ofNat (E n)::n))<|[]++[(er (n::dy),E fX)]).2.2.1;rw[bt]at this;simp at this
  clear bn dc db cA dW LE gL e8 fP gt gE f9 fQ e4 gB gx;have c2:∀b,b<3->∃(c4:Option Addr) (bB dD:Nat) (n:List eJ),[aE al (E R) aq,aE ah (E u) av,aE an (E c3) ar][b]? = ae (aE c4 bB dD)/\[R,u,c3].drop b=n::[R,u,c3].drop (b+1)/\ik w (aE c4 bB dD) n/\E n<=100/\(∀Q∈n,Q∈R++(u++c3))/\bB=E n:=λb aO=>by
   match b,aO with
   |0,_=>exact⟨al,_,aq,R,U,U,g3,fp,λQ ab=>by simp[ab],U⟩
   |1,_=>exact⟨ah,_,av,u,U,U,ge,gg,λQ ab=>by simp[ab],U⟩
   |2,_=>exact⟨an,_,ar,c3,U,U,fe,f_,λQ ab=>by simp[ab],U⟩
  replace c2:=O c2
  go_loopw [9,11,12,14] (λdK dB c_ ac wr=>∃(b X:Nat) (v:bk) (aH:qw),dK=bv X/\dB=aG aH.4/\c_=aG aH.5/\ac=M b/\b<=3/\ao (s3 w wr dG (dG+1) aW X c P (aE al (E R) aq) (aE ah (E u) av) (aE an (E c3) ar) v aH<|100*b)/\ao (rh K A b ([R,u,c3].drop b) aH=bI)/\ao (R++(u++c3)≠[]->aH.2≠[])/\dG+2<=J wr.1) λ_ _ _ ac _=>3-cM (intOf ac)
  ·exact⟨0,J i.1,dF,a2,U,dM.1,dM.2,U,G,et,gp,fu,G⟩
  ·obtain⟨b,X,v,aH,rfl,rfl,rfl,rfl,aO,x,bV,aM,hl⟩:=hrel;by_cases dU:b<3
   ·have fq:(b:Int)<3:=G;obtain⟨gF,hb,gG,iw,aB,c6,eX,gD,bp,rfl⟩:=V c2 b dU;have B:=V x;have eT:aA wr (N (dG+1) b)=ae (aE gF (E iw) gG):=by
     have:=B.3.2;unfold aA;rw[this]
     match b,dU,aB with
     |0,_,aB=>simpa using aB
     |1,_,aB=>simpa using aB
     |2,_,aB=>simpa using aB
    have eY:=eX.below B.3.4;have d1:=O (adH eY (λn aR=>⟨(dm n<|bp n aR).1.below B.3.4,(dm n<|bp n aR).2.below B.3.4,by
     have h1:=(ez n<|bp n aR).6;have b3:=vO n.2.2.2;omega⟩) G)
    have fR:=O bp;have e2:=O c6;clear B eX eY aB c6 bp;go_wp21;refine eb d1 ?_;rintro e fa ⟨gJ,rfl,bS,aP⟩;have:=aP.4;have eu:=O<|x.below aP;have⟨ad,bq⟩:=du<|hV iw
    rw[bq]at bS;obtain⟨hd,fS,b8⟩:∃c4 C,gJ=aE c4 (E ad) C:=by
     rcases bS with⟨h,h0⟩|⟨dI,hg,h,_⟩
     ·exact Hj
     ·exact⟨_,_,h⟩
    subst b8;have e9:=O bS;have WA:=O bq;have g6:E ad<=100:=bq▸cJ (adD iw) gD
    have⟨bc,cB⟩:=du<|m6 K A b ad aH
    have ev:=O cB;have gO:ao (rh K A (b+1) ([R,u,c3].drop<|b+1) bc=bI):=by
     have:=V bV;rw[V e2,rh,bq,cB]at this;exact this
    have⟨e_,dN⟩:=bm<|J wr.1;rw[<-dN]at e9;have:dG+2<=e_/\e_<=J fa.1:=G;clear bS aP d1 x bV e2 bq cB eT dN;generalize wr=g8 at*;go_wp2
    go_loopw [9,11,12,16] (λdK dB c_ ac wr=>∃(dD X:Nat) (v:bk) (aH:qw),dK=bv X/\dB=aG aH.4/\c_=aG aH.5/\ac=M dD/\dD<=E ad/\ao (s3 w wr dG (dG+1) aW X c P (aE al (E R) aq) (aE ah (E u) av) (aE an (E c3) ar) v aH<|100*b+E (be dD ad).flatten)/\ao (m6 K A b (bi dD ad) aH=bc)/\ao (R++(u++c3)≠[]->aH.2≠[])/\ao (co (λau=>au≠dG) fa wr)) λ_ _ _ ac _=>E ad-cM (intOf ac)
    ·exact⟨0,X,v,aH,U,U,U,U,G,eu.mono G,ev,aM,co.refl _ _⟩
    ·clear eu aM ev;obtain⟨dD,X,v,aH,rfl,rfl,rfl,rfl,aX,x,ck,aM,a5⟩:=hrel;have:=a5.4;by_cases hc:dD<E ad/\aH.5=ak
     ·obtain⟨a3,cx⟩:=hc;have:(dD:Int)<E ad:=G;have fT:=e9.fr a5 λau T=>G;rcases fT with⟨_,h0⟩|⟨d9,hp,b8,eT,fU,g9,e7⟩
      ·rw[h0]at a3;simp at a3
      obtain⟨rfl,-,rfl⟩:=js b8;have⟨ew,F,hu,bM,dY⟩:=e7 dD a3;have df:=jM a3;have cN:=adq a3;have dr:=Gi ad<|dD+1;rw[show ad.flatten=iw from E3]at dr;have dh:=Gi ad dD;rw[show ad.flatten=iw from E3]at dh;have cm:=λQ ab=>V fR Q<|Ck iw (by rw[V WA];exact ei a3) Q ab;have⟨dI,eR⟩:=du<|ad[dD]
      rw[eR]at ew bM df cN cm;obtain⟨gR,gT,bT⟩:∃c4 C,F=aE c4 (E dI) C:=by
       rcases bM with⟨h,h0⟩|⟨_,_,_,h,_⟩
       ·exact Hj
       ·exact⟨_,_,h⟩
      subst bT;have bw:=V aM (λh=>by
       cases dI with
       |nil=>exact ew U
       |cons Q dy=>have:=cm Q ax;rw[h]at this;cases this)
      have B:=V x;have gs:=B.6;have d0:=O<|abK B.1 B.2 bw G;have d6:=O<|cj hu<|cj bM dY;have ey:=O cm;have dZ:=O df;have cP:=O<|cj cN dr;have:E dI<=100:=G;clear e7 hu bM dY cm df cN dr B b8 gs bw eR;go_wp21;refine eb d0 ?_;rintro e cl ⟨g,bD,rfl,gA,bz,cR,b1⟩;have fy:=x.below b1;have d_:ao (fv cl g aH.1 bD/\gb cl (J w.1) g bD aH.2):=bd bz<|ado cR x.3.4.4
      have ea:=O λau T=>(cR.lt au T).1;have gq:=O b1;have:=b1.4;have fd:=x.3.4.4;have ec:=O λQ ab=>V ez Q<|ey Q ab;clear bz cR b1 fy d0;generalize wr=fA at*;go_wp2
      go_loopw [18] (λac wr=>∃(aC:Nat) (aT:bk),ac=M aC/\aC<=E dI/\ao (fv wr g (jG (be aC dI) aH.1 aH.2).1 aT/\gb wr (J w.1) g aT (jG (be aC dI) aH.1 aH.2).2/\fz g cl bD wr aT)) λac _=>E dI-cM (intOf ac)
      ·exact⟨0,bD,U,G,qW▸d_.1,qW▸d_.2,fz.refl _ _ _⟩
      ·obtain⟨aC,aT,rfl,eS,aY⟩:=hrel;have aI:=adp (V gq) aY.2.2 gA<|V ea;have:=aI.4;have fB:=(aI.cell (p:=⟨d9,dD,af⟩) fU).trans d6.1;have:dD<fS:=G;have bf:=O aI;have:=cJ x.3.4.4 aI.4;have e0:∀au,bA aT=ae au->J fA.1<=au:=λau T=>by
        rcases aY.2.2.2 au T with h|h
        ·exact ea au h
        ·omega
       have aJ:=UC (be aC dI) (λQ ab=>V ec Q<|vL ab) aH.1 aH.2;have fo:E (be aC dI)<=100:=by rw[iv];omega
       have fD:=x.5;have fE:=x.6;by_cases a9:aC<E dI
       ·have fF:(aC:Int)<E dI:=G;have fH:=d6.2.1.below aI;rcases fH with⟨_,h0⟩|⟨hk,ay,hj,bT,g4,g5,ed⟩
        ·rw[h0]at a9;simp at a9
        obtain⟨rfl,-,rfl⟩:=js bT;have⟨cS,eD,eF,hN,eH⟩:=ed aC a9;have⟨dn,dp⟩:=V dm dI[aC]<|ey dI[aC]<|ei a9;have aK:=V ec dI[aC]<|ei a9;have d8:=O<|adA a9 aH.1 aH.2;have⟨n,aR⟩:=du<|dI[aC]
        rw[aR]at cS eD eF hN eH dn dp aK d8;obtain⟨hw,hi,gN,gI⟩:=n;simp only at cS eD eF hN eH dn dp;obtain⟨gn,ht,hs,rfl,gU,cy⟩:=dn;obtain⟨go,hv,hz,rfl,gy,cT⟩:=dp;have:=cy.1;have:=cT.1;have di:=bC x.3.4<|bN aI fd;have dO:=O<|acT aY.1 aY.2.1 (cy.below di) gU G (λe=>cd<|e0 gn<|b5 e) (cT.below di) gy G (λe=>cd<|e0 go<|b5 e) G aK.4 (cJ (vO gI) aK.6) aK.5 aK.1 aK.2 aK.3 G (aJ.2.2.2 G x.7) G;have ee:=O aY.2.2;generalize hr:E (I 32 gN.data)=hh at*;clear ed aR aK aJ cy cT di aI bT;go_wp2_with fail;refine dO.m ?_;rintro dJ ⟨ba,ca,cb,e6⟩;have fI:ao (fv dJ g (jG (be (aC+1) dI) aH.1 aH.2).1 ba/\gb dJ (J w.1) g ba (jG (be (aC+1) dI) aH.1 aH.2).2/\fz g cl bD dJ ba):=by rw[ao,V d8];exact⟨ca,cb,ee.trans e6⟩
        clear ca cb e6 dO ee;go_wp2;exact bd (⟨aC+1,ba,dd,G,fI⟩) dz
       ·obtain rfl:aC=E dI:=G;have fF:¬(E dI:Int)<E dI:=G;have br:=V aY;rw[mS bo]at br aJ fo;have⟨L,bU⟩:=du<|jG dI aH.1 aH.2
        rw[bU]at br aJ;have:=br.1.cells;have cX:=O br;have⟨a8,dg⟩:=bm<|E L.1;have:b7 (D L.1)=a8:=by rw[cV,dg]
        have:a8<=80000:=G;have:=iV<|(a8:Int)+A
        have fJ:=O<|aJ.2.2.2 G x.7;have ft:=O aJ.2.2.1;have fK:=O aJ.1;have fV:ao (E aH.2<=E L.2):=by rw[ao,<-bU];exact UF dI aH.1 aH.2
        have cC:=O dg;have cY:=O bU;clear br dg bU aJ aI;by_cases eO:K<a8+A
        ·have fj:(K:Int)<a8+A:=G;have gl:ao (bc = {aH with tc:=dC<|b<2,full:=aD}):=by
          have:=V ck;rw[V dZ,UG cx (by rw[V cY,<-V cC];exact eO)]at this;exact b5 this
         have fW:=O<|(x.below bf).mono (m:=100*b+E (be (dD+1) ad).flatten) (cd cP.1);have cr:=O<|a5.trans<|co.zY<|V bf;have fY:ai.wrap ((dD:Int)+1)=((dD+1:Nat):Int):=fl
         go_wp2;refine bd (⟨dD+1,X,v,{aH with tc:=dC<|b<2,full:=aD},U,eQ aG<|decide_eq_decide.2 G,U,dd,G,?_,?_,aM,cr⟩) dz
         ·have h:=V fW;exact⟨h.1,h.2,h.3,h.4,h.5,h.6,h.7,h.8,h.9,h.10⟩
         ·rw[ao,KC U];exact b5 gl
        ·have fj:¬(K:Int)<a8+A:=G;have a1:=x.below bf;have b6:=a1.8;have a0:b+1<E aH.3:=G;have⟨z,bs⟩:=bm<|aH.3[b+1];have:z<=1000:=by
          have:=a1.9 z<|bs▸ei a0;have:=cP.2;have:=Gi ad dD;rw[show ad.flatten=iw from E3]at this;omega
         have eP:bY wr dG (b+1) (M z):=by
          have:=a1.3.1.cell (b+1) (by rw[ff];exact a0);rw[pH]at this;rw[bs];exact this
         have ef:=a1.3.1.frozen<|b+1;have gm:ao (m6 K A b (bi (dD+1) ad) {aH with S:=L.1,es:=L.2,cs:=aH.3.set (b+1) (z+E dI)}=bc):=by
          have:=V ck;rw[V dZ,UH cx (by rw[V cY,<-V cC];exact eO),V cY]at this;rw[ao,<-this,bs,iA,fs a0];rfl
         have fY:ai.wrap ((dD:Int)+1)=((dD+1:Nat):Int):=fl
         have fZ:=iV<|(b:Int)+1
         have:0<=(b:Int)+1:=G;have:(b:Int)+1<4:=G;have:cM ((b:Int)+1)=b+1:=G;have:b+1<4:=G;have:=iV<|(z:Int)+E dI
         have eg:=O a1;have fn:=O bs;have gH:bY (bx wr) dG (b+1) (M z):=eP;have f0:bY (bx wr) d9 dD (aE gR (E dI) gT):=fB;have g2:gd (bx wr) (N dG<|b+1)=ak:=ef;clear a1 bs fD fE;go_wp2
         go_region
         all_goals
          have h:=V eg;have gr:((z+E dI:Nat):Int)=(z:Int)+(E dI:Int):=G;have cZ:=h.3.set (b+1) (z+E dI) a0;rw[gr]at cZ;have bF:cv (J (a7 wr ⟨dG,b+1,af⟩<|ag ai<|(z:Int)+E dI).1) (a7 wr ⟨dG,b+1,af⟩<|ag ai<|(z:Int)+E dI) (bx<|a7 wr ⟨dG,b+1,af⟩<|ag ai<|(z:Int)+E dI):=cc.drew;have bz:fv (a7 wr ⟨dG,b+1,af⟩<|ag ai<|(z:Int)+E dI) g L.1 aT:=(qZ wr (N dG<|b+1) g _ (by show g≠dG;omega)).trans cX.1;have eU:=adG cX.2.1 h.3.1 (b+1) (by rw[ff];exact a0)<|(z:Int)+E dI;have f1:ao (s3 w (bx<|a7 wr ⟨dG,b+1,af⟩<|ag ai<|(z:Int)+E dI) dG (dG+1) aW g c P (aE al (E R) aq) (aE ah (E u) av) (aE an (E c3) ar) aT {aH with S:=L.1,es:=L.2,cs:=aH.3.set (b+1) (z+E dI)} (100*b+E (be (dD+1) ad).flatten)):=by
           have aB:=V ft;have c6:=cP.1;have:=h.6;refine⟨bz.below bF,eU.below bF,cZ.below bF,G,by show E L.1<=1300;rw[<-V cC];omega,by show E L.2<=_;omega,fJ,by show(aH.3.set _ _).length=4;rw[o4];exact b6,λC hc=>?_,by show 12<=E L.1;have:=h.10;have:=V fK;omega⟩;have b4:=hc;rcases Ij b4 with b4|b4
           ·have:=h.9 C b4;omega
           ·have:=h.9 z<|(V fn)▸ei a0;omega
          have cr:=O<|((a5.trans<|co.zY<|V bf).trans<|co.j9 (a:=⟨dG,b+1,af⟩) _ λ_ T=>T).trans (co.zY bF);have gf:ao (R++(u++c3)≠[]->L.2≠[]):=λaR gu=>by
           have:=V aM aR;have dX:=(V fV)
           rw[gu]at dX;exact this (hq<|by simpa using dX)
          clear h cZ bF bz eU eg x a5 bf aY cX eP ef gH f0 g2;generalize bx (a7 wr ⟨dG,b+1,af⟩<|ag ai<|(z:Int)+E dI)=hx at*;go_wp2;exact⟨⟨dD+1,g,aT,{aH with S:=L.1,es:=L.2,cs:=aH.3.set (b+1) (z+E dI)},U,U,by rw[cx],dd,G,f1,gm,gf,cr⟩,dz⟩
     ·have bu:bc=aH:=by
       have h:=V ck;by_cases h1:dD<E ad
       ·have b3:aH.5=aD:=by
         exact Mz
        rw[KC b3]at h;exact b5 h
       ·rw[A8 G]at h;exact b5 h
      have gK:¬(dD:Int)<E ad\/((dD:Int)<E ad/\aH.5=aD):=by
       by_cases h1:dD<E ad
       ·right;refine bd G ?_;exact Mz
       ·left;omega
      have dh:=Gi ad dD;rw[show ad.flatten=iw from E3]at dh;have f2:=O<|x.mono (m:=100*(b+1)) G;have f3:ao (rh K A (b+1) ([R,u,c3].drop<|b+1) aH=bI):=by rw[ao,<-bu];exact gO
      have fZ:ai.wrap ((b:Int)+1)=((b+1:Nat):Int):=fl
      clear bu hc x ck a5;rcases gK with h1|⟨h1,b3⟩
      all_goals
       go_wp2;exact⟨⟨b+1,X,v,aH,U,U,by first|rfl|rw[b3],dd,G,f2,f3,aM,G⟩,dz⟩
   ·obtain rfl:b=3:=G;have fq:¬(3:Int)<3:=G;have bu:aH=bI:=V bV;have B:=V x;have b6:=B.8;have f4:=B.10;have f5:=B.5;have⟨aV,cF,_,_,_⟩:=B.3.3.cells;have gP:=B.1.cells.1;have gz:=B.1.lt;have:=B.3.3.lt;have eh:=B.3.1.lt;have cw:ao (∀bO,a6 wr bO->a_ aL 49 #[aS d,aG P,aG aH.4,M c,bL dG 0 4 4] bO (cI (aS<|oh d P aH.4 c aH.3) bO)):=λbO eM=>
     QC P aH.4 4 gv G gZ b6 (λC hc=>cd<|B.9 C hc) (eA eh eM.4) (λaC eS=>(eM.cell (p:=⟨dG,aC,af⟩) eh).trans (by
      have:=B.3.1.cell aC (by rw[ff];exact eS);rw[pH]at this;exact this))
    have⟨aF,bP⟩:=bm<|oh d P aH.4 c aH.3
    rw[<-bP]at cw;have dL:E aF=12:=by
     rw[bP];rw[oh,dj,dj,iv,IR,b6];simp;omega
    have fm:ao (yi d o s l a c P [R,u,c3]=aF++bi 12 aH.1++aj):=by
     rw[yi,ao,V eI,<-bu,<-az.2,<-bP]
    have:b7 (D aF)=12:=by rw[cV,dL]
    have⟨aw,bH⟩:=bm<|E aH.1;have:b7 (D aH.1)=aw:=by rw[cV,bH]
    have ho:(D aH.1).extract 12 aw=D (bi 12 aH.1):=by
     have:=y5 aH.1 12 aw;rw[this,bH,mS<|il▸cO _]
    have:b7 (D<|bi 12 aH.1)=aw-12:=by rw[cV,il,bH]
    have ca:D aF++D (bi 12 aH.1)=D (aF++bi 12 aH.1):=qF _ _;have hA:b7 (D<|aF++bi 12 aH.1)=aw:=by rw[cV,dj,il,dL];omega
    have cb:D (aF++bi 12 aH.1)++D aj=D (aF++bi 12 aH.1++aj):=qF _ _;have:12<=(aw:Int):=G;have:12<=aw:=G;have:aw<=1300:=G;have:¬9223372036854775807<12+(aw-12):=G;have:¬9223372036854775807<aw+A:=G;have f6:bY (bx wr) X 0 (aS aH.1):=gP;have em:bY (bx wr) aW 0 (M c):=aV;have:aA (bx wr) (N aW 1)=ae (aG P):=cF;have c0:=O B.3.4;clear B bu bP bH x bV aM f4 f5;go_wp2;go_region_with (go_at_call 49;refine(cw _ cc.drew).m λhy dA=>?_;have gQ:=(dA.cell (p:=⟨X,0,af⟩) gz).trans f6)
    all_goals
     have f7:=bC c0<|((cU (J wr.1) wr).drew.trans dA).mono c0.4;have eW:=V fm;rw[iz]at eW;clear cw c0 dA gQ;simp only[List.getElem_toArray,eG,eB,Act.put,kB,iR,iy];go_wp2;go_ret;rw[eW];exact bd U f7
structure xU(q:(Int×Bool×List aK×List aK)×List aK)(qn:List ap)(t:Bool)(xa cH xd:List eJ):Prop where
 ma:xa.map (·.2.2.1)=q.1.2.2.1
 mu:cH.map (·.2.2.1)=q.1.2.2.2
 md:xd.map (·.2.2.1)=q.2
 la:∀x∈xa,x.2.2.2=if t=false/\cE x.2.2.1.owner=er qn then qn else cE x.2.2.1.owner
 Fp:∀x∈cH++xd,x.2.2.2=cE x.2.2.1.owner
def sj(g:ap)(h:List aK)(m b:ap):Prop:=
 if E m<12\/128<=bg (m.getD 2 0) then b=[]
 else if(m.getD 2 0).toNat/8%16≠0 then b=oh m ak ak 4 [0,0,0,0]
 else match gg m with
  |none=>b=oh m ak ak 1 [0,0,0,0]
  |some (n,a,i,e,c,o,d)=>∃p k j l,xU (fg g h (cT a) i e c d) a p k j l/\b=yi m n a c o (cM (fg g h (cT a) i e c d).1.1) (fg g h (cT a) i e c d).1.2.1 [k,j,l]
def Uy:∀{f:Nat} {s:ap} {b e:List ap} {g:ap},l0 f s b=ae (e,g)->k8 e+E g+1=k8 b+E s/\((∀c∈b,c≠[]/\E c<=63)->∀c∈e,c≠[]/\E c<=63)
 |0,_,_,_,_,a=>by cases a
 |f+1,[],_,_,_,a=>by cases a
 |f+1,d::s,b,e,g,a=>by unfold l0 at a;split at a;{grind};{rename_i h;split at a;{cases a};{rename_i n;have o:bg d≠0:=λa=>h<|sM a;obtain⟨i,j⟩:=Uy a;have k:k8 (b++[be (bg d) s])=k8 b+(bg d+1):=by{have l:bg d<=E s:=G;unfold k8;grind};grind}}
def zP(n:gg d=ae (o,s,a,c,l,g,v)):k8 s<=254/\(∀b∈s,b≠[]/\E b<=63)/\E o<=259/\a<65536/\c<65536/\g<65536/\v<256/\o=o:=by
 let j:∀(i:ap) (r:Nat),cD i r<65536:=λi r=>by{let t:=gp<|i.getD r 0;let u:=gp<|i.getD (r+1) 0;unfold cD;omega};unfold gg at n;split at n;{cases n};{
 cases k:l0 (E d+1) (bi 12 d) []with
 |none=>grind
 |some b=>{let x:=b;rw[k]at n;let⟨p,e⟩:=Uy k;let q:k8 ([]:List ap)=0:=U;rw[q,il]at p;simp only at n;split at n;{cases n};{rename_i w;split at n;{split at n;{have:=gm n;simp only[Dh]at this;obtain⟨rfl,rfl,rfl,rfl,rfl,rfl,rfl⟩:=this;exact⟨G,e (λb h=>by cases h),by grind,j _ _,j _ _,G,G,U⟩};grind};{split at n;{cases n};{have:=gm n;simp only[Dh]at this;obtain⟨rfl,rfl,rfl,rfl,rfl,rfl,rfl⟩:=this;exact⟨G,e (λb h=>by cases h),by grind,j _ _,j _ _,j _ _,gp _,U⟩}}}}}
def Gj(b c a):Lib.join (b::c::a) [46]=b++46::Lib.join (c::a) [46]:=by rfl
def Uz:∀(a:List ap),Lib.join a [46]=gZ 46 a
 |[]=>U
 |[c]=>by rw[Lib.join_one];rfl
 |c::d::b=>by rw[Gj,Uz (d::b)];rfl
def LZ(h:φ:=by intro hc;let⟨c,_,hcc⟩:=kE.1 hc;unfold kt at hcc;split at hcc;{have:=eQ UInt8.toNat hcc;rw[pB]at this;grind};{split at hcc;{grind};simp_all}):φ:=h
def zQ(j:s≠[]):cE (cT s)=er s:=by let h:I 46 (cT s)=b9 k_ s:=by{rw[cT,Uz,JY 46 _ (by simp_all) λe i=>?_];obtain⟨k,_,rfl⟩:=kE.1 i;exact LZ};rw[cE,h,lV];refine nj λe _=>?_;show(k_ e).map rT=b9 gq e;rw[k_,lV];refine nj λc _=>?_;show rT (kt c)=gq c;unfold kt gq;by_cases b:65<=bg c/\bg c<=90;{rw[b8 b,b8 b];rw[rT,bV];intro g;have:=eQ UInt8.toNat g;rw[pB]at this;grind};{rw[bV b,bV b];by_cases d:bg c=46;{rw[b8 d];exact(sM<|show bg c=bg (46:UInt8) from d).symm▸U};{rw[bV d];rw[rT,bV];intro g;simp_all}}
def xV:∀(b:List ap),b≠[]->E (cT b)+1=k8 b
 |[a],_=>by have:cT [a]=k_ a:=Lib.join_one _ _;rw[this,A5];rfl
 |a::d::c,_=>by have g:=xV (d::c) ax;have e:cT (a::d::c)=k_ a++46::cT (d::c):=Gj _ _ _;rw[e,vN,<-g,dj,dW,A5];omega
def Cb{a}(e:a≠[])(h:∀d∈a,d≠[]):gD (cT a):=λd c=>by
 have b:=Bs<|cT a;rw[zQ e]at b;rw[<-b]at c;obtain⟨j,g,rfl⟩:=kE.1 c;obtain⟨k,i,rfl⟩:=kE.1 g
 simp_all
def adU:k8 (cE d)=E d+1:=by have b:=Gf _ d bo;unfold cE k8;unfold k8 at b;rw[lV,<-b];congr 1;refine nj λc _=>?_;show(b9 rT c).length+1=_;rw[ff]
def zR(a:hW o i)(B:k8 s<=254)(y:∀z∈s,z≠[])(c g:Int)(h:Bool)(e:Int):(∃q:Nat,q<=16/\(fg o i (cT s) c g h e).1.1=(q:Int))/\(∀d∈(fg o i (cT s) c g h e).1.2.2.1++((fg o i (cT s) c g h e).1.2.2.2++(fg o i (cT s) c g h e).2),lk (cT s) d/\s≠[])/\E (fg o i (cT s) c g h e).1.2.2.1<=100/\E (fg o i (cT s) c g h e).1.2.2.2<=100/\E (fg o i (cT s) c g h e).2<=100:=by
 unfold fg;split;{exact⟨⟨16,G,U⟩,λd b=>(by cases b),ax,ax,ax⟩};{
 split;{exact⟨⟨5,G,U⟩,λd b=>(by cases b),ax,ax,ax⟩};{
 rename_i w;have x:=λj=>w<|bE<|bE j;have k:s≠[]:=λj=>by subst j;exact x U
 have l:=Cb k y;have C:=xV s k;have n:=GL a (T:=cT s) c 9 aD ak [] (cT s) l G (bJ U) (λd b=>by cases b);have r:=Uw (o:=o) (rs:=i) c 9 aD ak [] (cT s);have p:=vU a c 9 aD ak [] (cT s) l G (λd b=>by cases b)<|dJ _;have t:=Ux a (T:=cT s) (gn o i c<|cT s).2.2.1 ((gn o i c<|cT s).2.2.1++(gn o i c<|cT s).2.2.2) ([],[]) (λd b=>by cases b);have u:=Lh (rs:=i) (gn o i c<|cT s).2.2.1 ((gn o i c<|cT s).2.2.1++(gn o i c<|cT s).2.2.2) ([],[]) ax;have A:=vT a;refine⟨r,λd b=>(bd ?_ k),cJ p.2.2.1 G,cJ p.2.2.2 G,cJ u G⟩;rcases i_.1 b with b|b;{exact n.1 d b};{rcases i_.1 b with b|b;{exact(n.2.1 d b).1};{exact t d b}}}}
def UA(F:hW d i)(D:k8 s<=254)(o:∀a∈s,a≠[]/\E a<=63){g K:List eJ}(c:xU (fg d i (cT s) j q t y) s l R g K):(∀a∈R++(g++K),AX a)/\(R++(g++K)≠[]->s≠[])/\E R<=100/\E g<=100/\E K<=100:=by obtain⟨_,I,u,w,x⟩:=zR F D (λa c=>(o a c).1) j q t y;have p:∀a∈R++(g++K),lk (cT s) a.2.2.1/\s≠[]:=λa h=>I _ (by{rw[<-c.1,<-c.2,<-c.3,<-jg,<-jg];exact Be h});have k:∀a∈R++(g++K),a.2.2.2=s\/a.2.2.2=cE a.2.2.1.owner:=λa h=>by{rcases i_.1 h with b|b;{rw[c.la a b];split;{exact .inl rfl};{exact .inr rfl}};{exact .inr<|c.Fp a b}};refine⟨λa h=>?_,λb=>?_,by rw[<-c.1,ff]at u;exact u,by rw[<-c.2,ff]at w;exact w,by rw[<-c.3,ff]at x;exact x⟩;{obtain⟨n,B⟩:=p a h;have C:=n.2;refine⟨n.5,wH n.4 G,n.6,?_,?_,?_⟩;{rcases k a h with b|b;{rw[b];exact B};{rw[b];exact Fl _}};{rcases k a h with b|b;{rw[b];exact λA z=>cJ (o A z).2 G};{rw[b];intro A z;obtain⟨L,H,rfl⟩:=kE.1 z;rw[ff];exact cJ (n6 46 _ _ bo L H) C}};{rcases k a h with b|b;{rw[b];omega};{rw[b,adU];omega}}};{obtain⟨a,h⟩:=List.exists_mem_of_ne_nil _ b;exact(p a h).2}
def adV(w:hW d i)(H:gg o=ae (P,s,g,a,l,c,v))(F:12<=E o)(D:E o<=2000000){A n:List eJ}(U:Cm b e s)(y:xU (fg d i (cT s) g a l v) s t R A n)(T:ik b k R)(B:ik b r A)(S:ik b C n)(K:∀h∈R++(A++n),fG b h.1 h.2.2.2/\fG b h.2.1 (I 32 h.2.2.1.data)):a_ aL 52 #[aS o,ce #[aS P,e,M (g:Int),M (a:Int),aG l,M (c:Int),M (v:Int)],ce #[M (fg d i (cT s) g a l v).1.1,aG (fg d i (cT s) g a l v).1.2.1,k,r,C]] b λp V=>p=bh (aS<|yi o P s l c (cM (fg d i (cT s) g a l v).1.1) (fg d i (cT s) g a l v).1.2.1 [R,A,n])/\a6 b V:=by obtain⟨u,q,W,_,_,x,_,_⟩:=zP H;obtain⟨L,N,O,z,Q⟩:=UA w u q y;obtain⟨Y,X,p⟩:=(zR w u (λh y=>(q h y).1) g a l v).1;rw[p,sA];exact ads F D U G G (λh y=>cJ (q h y).2 G) G x T B S K L O z Q N
def Li(i:ik b e R)(o:fC b a j l (bX) (bX)<|bX)(n:co (λc=>c≠a) b f):ik f e R:=by
 rcases i with i|⟨d,ay,x,y,z,v,A⟩;{exact bJ i};{
 refine bE ⟨d,ay,x,y,z,eA v n.4,λp C=>?_⟩;obtain⟨G,H,I,r,K⟩:=A p C;have B:d≠a:=by{
 rintro rfl;obtain⟨t,bG,u,w,cB⟩:=o.cells;generalize ay+p*5+3=F at r;match F,r with
 |0,r=>rw[t]at r;cases r
 |1,r=>rw[bG]at r;cases r
 |2,r=>rw[u]at r;cases r
 |3,r=>rw[w]at r;cases r
 |4,r=>rw[cB]at r;cases r
 |M+5,r=>{rw[aA,o]at r;simp at r}};have c:∀(L:Nat) (q:bk),bY b d L q->bY f d L q:=λL q D=>(dR (a:=⟨d,L,af⟩) (n.5 d v B)).trans D;exact⟨c _ _ G,c _ _ H,c _ _ I,c _ _ r,c _ _ K⟩}
def UB(m:Nat)(k:m<4096)(j:12<=E d)(n:E d<=2000000)(h:b.1[a]? = ae (aZ #[ag ai 0,ag ai 0,ag ai 0,ag ai 0] 3)):a_ aL 49 #[aS d,aG ak,aG ak,M m,bL a 0 4 4] b (cI (aS<|oh d ak ak m [0,0,0,0]) b):=by
 have g:gS b a [0,0,0,0] 3:=h;refine QC ak ak 4 j G k U (λl hc=>?_) g.lt λc i=>?_;{exact L1};{
 have e:c<4:=i;have:=g.cell c e;match c,e,this with
 |0,_,this=>exact this
 |1,_,this=>exact this
 |2,_,this=>exact this
 |3,_,this=>exact this}
def v_(h:φ:=by simp[aA,I7]):φ:=h
def N4{b6:Nat}(m:ap)(cC:lu b b6 d i)(b1:a6 b f)(ck:hW d i)(a5:E m<=2000000):a_ aL 15 #[bv b6,aS m] f λh K=>(∃q,h=bh (aS q)/\sj d i m q)/\a6 f K:=by
 have:=cV m;by_cases dB:E m<12
 ·have dj:(E m:Int)<12:=G;go_wp2;go_ret;exact⟨⟨[],U,by rw[sj,b8<|bJ dB]⟩,cU _ _⟩
 have aW:12<=E m:=G;have dj:¬(E m:Int)<12:=G;have da:2<E m:=G;have⟨P,bQ⟩:=bm<|m[2]
 have bH:∀w:2<b7 (D m),(D m)[2]=P:=λw=>b5 bQ;have al:m.getD 2 0=P:=by rw[bQ,iA,fs da];rfl
 have:(2:Int)<(E m:Int):=G;clear bQ;by_cases c4:128<=bg P
 ·have c1:(128:Int)<=(bg P:Int):=G;go_wp2;go_ret;exact⟨⟨[],U,by unfold sj;rw[b8<|bE (by rw[al];exact c4)]⟩,cU _ _⟩
 have c1:¬(128:Int)<=(bg P:Int):=G;obtain⟨b2,cY⟩:=bm<|bg P/8%16;have:(bg P:Int)/8%16=(b2:Int):=G;have⟨aU,bw⟩:=bm (aZ #[ag ai 0,ag ai 0,ag ai 0,ag ai 0] 3:g7)
 have bq:(aN f aU).1[J f.1]? = ae (aZ #[ag ai 0,ag ai 0,ag ai 0,ag ai 0] 3):=by rw[cW,bw]
 have a3:a6 f (aN f aU):=cf cc bo _;by_cases dM:b2=0
 case neg=>
  have:((b2:Int) != 0)=aD:=ct;have aC:=O<|UB 4 G aW a5 bq;have au:ao (sj d i m<|oh m ak ak 4 [0,0,0,0]):=by
   rw[sj,ao,bV (by rw[al];omega),b8 (by rw[al];omega)]
  have aJ:=O a3;clear bq a3 cY al;go_in;go_wp2_with fail;rw[<-bw];refine eb aC ?_;rintro h l ⟨rfl,Y⟩;have z:=O<|bC aJ<|bN Y aJ.4;clear Y aC aJ;go_wp2;go_ret;exact bd (⟨_,U,au⟩) z
 have bz:=O<|ad9 (aN f aU) aW a5;have au:ao (∀q,(match gg m with
   |none=>q=oh m ak ak 1 [0,0,0,0]
   |some (cN,e,bj,a0,cK,cX,aY)=>∃B x t y,xU (fg d i (cT e) bj a0 cK aY) e B x t y/\q=yi m cN e cK cX (cM (fg d i (cT e) bj a0 cK aY).1.1) (fg d i (cT e) bj a0 cK aY).1.2.1 [x,t,y])->sj d i m q):=λq w=>by
  unfold sj;rw[bV (by rw[al];omega),bV (by rw[al];omega)];exact w
 have aJ:=O a3;have bU:=O bq;have cp:=O cC;have dD:=O λj (bP:a6 f j)=>bC b1<|bN bP b1.4;have aM:=O ck;have:J (aN f aU).1=J f.1+1:=ax;clear bq a3 cY al cC b1 ck;go_in;go_wp2_with fail;rw[<-bw];refine eb bz ?_;rintro h l ⟨⟨ay,bb,bj,a0,cK,cX,aY,dN,rfl,⟨ab,ad,ac,rfl⟩,aF⟩,Y⟩;have:=Y.4;have a1:=bC aJ<|bN Y G;cases S:gg m with
 | none=>
  rw[S]at aF;have c5:=aF;subst c5;have dm:=O (au (oh m ak ak 1 [0,0,0,0])<|by rw[S]);have aC:ao (∀p:g7,a_ aL 49 #[aS m,aG ak,aG ak,M 1,bL (J f.1) 0 4 4] (aN l p) λh K=>h=bh (aS<|oh m ak ak 1 [0,0,0,0])/\cv (J (aN l p).1) (aN l p) K):=λp=>
   UB 1 G aW a5 ((dv l p (J f.1) G).trans<|(Y.5 (J f.1) G).trans<|V bU)
  have z:=O a1;clear aF S au bz Y a1 bU;go_wp2_with fail;refine(aC _).mono ?_;rintro h cZ ⟨rfl,Z⟩;have aP:=O<|(cf z z.4 _).trans<|bN Z (by have:=z.4;simp;omega);clear Z aC z;go_wp2;go_ret;exact bd (⟨_,U,dm⟩) aP
 | some n=>
  obtain⟨cN,e,c,g,dO,ar,o⟩:=n;rw[S]at aF;obtain⟨rfl,rfl,rfl,rfl,rfl,rfl,rfl,b3⟩:=aF;obtain⟨cD,cE,dn,cF,dp,dq,dr,_⟩:=zP S;have cl:Cm l (aE ab ad ac) e:=by
   by_cases ba:e=[]
   ·exact bJ<|bd ba<|b3.2.2 ba
   ·obtain⟨aw,av,dd,de,_,df⟩:=sF b3 ba;exact bE ⟨ba,aw,av,dd,de,df⟩
  have br:=O cl;have:=O S;have⟨r,bf⟩:=bm (aZ #[am<|D ay,aE ab ad ac,ag ai c,ag ai g,aG cK,ag ai ar,ag ai o] 122:g7)
  have aV:ao (∀(bb bl bp bn:bk) (B:Bool) (x t y:List eJ) (j:aQ),Cm j bb e->xU (fg d i (cT e) c g cK o) e B x t y->ik j bl x->ik j bp t->ik j bn y->(∀n∈x++(t++y),fG j n.1 n.2.2.2/\fG j n.2.1 (I 32 n.2.2.1.data))->a_ aL 52 #[aS m,ce #[aS ay,bb,M (c:Int),M (g:Int),aG cK,M (ar:Int),M (o:Int)],ce #[M (fg d i (cT e) c g cK o).1.1,aG (fg d i (cT e) c g cK o).1.2.1,bl,bp,bn]] j λh K=>
    (∃q,h=bh (aS q)/\sj d i m q)/\a6 j K):=λbb bl bp bn B x t y j X bK cu bM bO dh=>by
   refine(adV (V aM) S aW a5 X bK cu bM bO dh).mono ?_;rintro h K ⟨rfl,bP⟩;exact bd (⟨_,U,V au _<|S▸⟨B,x,t,y,bK,U⟩⟩) bP
  have bR:∀j:aQ,ik j (bX) []:=λj=>bJ<|bd U U;have z:=O a1;have ah:=O<|cj cD<|cj cE cF;clear S b3 cl Y a1 au bz bU cD cE dn dp dq dr cF
  have aR:ao (∀bc:Int,fg d i (cT e) c g cK o=((bc,ak,[],[]),[])->∀p:g7,p=aZ #[ag ai bc,aG ak,aE af 0 0,aE af 0 0,aE af 0 0] 102->a_ aL 52 #[aS m,ce #[aS ay,aE ab ad ac,M (c:Int),M (g:Int),aG cK,M (ar:Int),M (o:Int)],ce #[M bc,aG ak,bX,bX,bX]] (aN (aN l r) p) λh K=>
    (∃q,h=bh (aS q)/\sj d i m q)/\cv (J (aN (aN l r) p).1) (aN (aN l r) p) K):=λbc H p dL=>by
   have:=V aV (aE ab ad ac) (bX) (bX) (bX) ak [] [] []<|aN (aN l r) p;rw[H]at this;refine this ?_ ⟨U,U,U,λn u=>(by cases u),λn u=>by cases u⟩ (bR _) (bR _) (bR _) (λn u=>by cases u);have dy:a6 l (aN (aN l r) p):=(cf cc bo _).alloc ax _;rcases V br with⟨a,F⟩|⟨a,aw,av,F,aO,h⟩
   ·exact bJ<|bd a F
   ·exact bE ⟨a,aw,av,F,aO,h.below dy⟩
  have aT:ao (∀(p:g7) (j:aQ),cv (J (aN (aN l r) p).1) (aN (aN l r) p) j->a6 f j):=λp j a2=>by
   have X:=(cf z z.4 r).alloc (by have:=z.4;simp;omega) p;exact bC X<|bN a2 X.4
  by_cases Q:cK=aD/\(o:Int)≠0
  ·have H:fg d i (cT e) c g cK o=((16,ak,[],[]),[]):=by rw[fg,b8 Q]
   have aB:=O<|aR 16 H;have ca:((o:Int) != 0)=aD:=by simpa using Q.2
   have dl:=Q.1;subst dl;clear Q H aR aV;go_wp2_with fail;rw[<-bf];refine(aB _ U).mono ?_;rintro h cZ ⟨⟨q,rfl,R⟩,Z⟩;have aP:=O<|aT _ _ Z;have aH:=O R;clear Z R aB aT;go_wp2;go_ret;exact bd (⟨_,U,aH⟩) aP
  have cH:cK=ak\/(cK=aD/\((o:Int) != 0)=ak):=by
   cases cK
   ·exact yu
   ·refine bE<|bd U ?_;by_cases a9:(o:Int)=0
    ·rw[a9];rfl
    ·exact absurd (bd U a9) Q
  by_cases aq:((g:Int)≠1\/sB (c:Int)=ak)
  ·have H:fg d i (cT e) c g cK o=((5,ak,[],[]),[]):=by
    rw[fg,bV Q,b8 (by rcases aq with w|w;exact bJ w;exact bE<|bJ w)]
   have aB:=O<|aR 5 H;have c6:((g:Int) != 1)=aD\/(((g:Int) != 1)=ak/\((c:Int)==0)=aD)\/(((g:Int) != 1)=ak/\((c:Int)==0)=ak/\((c:Int)==41)=aD)\/(((g:Int) != 1)=ak/\((c:Int)==0)=ak/\((c:Int)==41)=ak/\(249:Int)<=(c:Int)/\(c:Int)<=254):=by
    by_cases X:(g:Int)=1
    ·right;have bI:((g:Int) != 1)=ak:=ct;have aa:=aq.resolve_left λw=>w X;unfold sB at aa;by_cases bK:(c:Int)=0
     ·exact bJ<|bd bI ct
     ·right;have cs:((c:Int)==0)=ak:=ct;by_cases cu:(c:Int)=41
      ·exact bJ ⟨bI,cs,ct⟩
      ·right;have c_:((c:Int)==41)=ak:=ct;have bM:((c:Int) != 0)=aD:=ct;have bO:((c:Int) != 41)=aD:=ct;rw[bM,bO]at aa;simp only[uN,AU,Bl]at aa;exact⟨bI,cs,c_,G,G⟩
    ·exact bJ ct
   clear Q H aR aV aq;rcases cH with rfl|⟨rfl,ca⟩
   all_goals
    rcases c6 with aI|⟨aI,aX⟩|⟨aI,aX,bB⟩|⟨aI,aX,bB,cn,dc⟩
    all_goals
     go_wp2_with fail;rw[<-bf];refine(aB _ U).mono ?_;rintro h cZ ⟨⟨q,rfl,R⟩,Z⟩;have aP:=O<|aT _ _ Z;have aH:=O R;clear Z R aB aT;go_wp2;go_ret;exact bd (⟨_,U,aH⟩) aP
  have cx:=yO λw=>aq<|bJ w;have aa:sB (c:Int)=aD:=by
   cases w:sB (c:Int)
   ·exact absurd (bE w) aq
   ·rfl
  have H:fg d i (cT e) c g cK o=if cT e=[]then((5,ak,[],[]),[])else(gn d i c<|cT e,kN d i c<|cT e):=by
   rw[fg,bV Q];by_cases a8:cT e=[]
   ·rw[b8<|bE<|bE a8,b8 a8]
   ·rw[bV (by rintro(w|w|w);exact w cx;rw[aa]at w;cases w;exact a8 w),bV a8]
  have c3:(((g:Int) != 1)=ak/\((c:Int)==0)=ak/\((c:Int)==41)=ak/\¬(249:Int)<=(c:Int))\/(((g:Int) != 1)=ak/\((c:Int)==0)=ak/\((c:Int)==41)=ak/\(249:Int)<=(c:Int)/\¬(c:Int)<=254):=by
   simp only[sB,e9,yC,sZ,pZ]at aa;have cq:((g:Int) != 1)=ak:=ct;have bH:((c:Int)==0)=ak:=ct;have cr:((c:Int)==41)=ak:=ct;by_cases w:(249:Int)<=(c:Int)
   ·exact bE ⟨cq,bH,cr,w,G⟩
   ·exact bJ ⟨cq,bH,cr,w⟩
  have cb:ao (∀j,a6 l j->a_ aL 51 #[bv b6,ce #[aS ay,aE ab ad ac,M (c:Int),M (g:Int),aG cK,M (ar:Int),M (o:Int)]] j λh K=>LD K h (fg d i (cT e) c g cK o).1 (fg d i (cT e) c g cK o).2 e/\a6 j K):=λj a2=>by
   have cG:=V dD j<|bC z<|bN a2 z.4;rcases V br with⟨a,F⟩|⟨a,aw,av,F,aO,h⟩
   ·rw[H,a,F];exact adS (V cp) cG<|V aM
   ·have cB:=xV e a;have:=vO e;have dk:cT e≠[]:=λh=>by
     have X:=ah.2.1;cases e with
     |nil=>exact a U
     |cons n B=>
      rw[h,vN]at cB;have:=(X n ax).1;have:E n≠0:=λw=>this<|hq w;simp at cB;omega
    have cA:=Cb a λn u=>(ah.2.1 n u).1;have cy:=GL (V aM) (T:=cT e) c 9 aD ak [] (cT e) cA (by have:=ah.1;omega) (bJ U) (λcO bS=>by cases bS);rw[H,bV dk,F];exact adR (V cp) cG (V aM) (h.below a2) aO a (zQ a) cA (by have:=ah.1;omega) (λn u=>cJ (ah.2.1 n u).2 G) (by have:=ah.1;omega) (λw=>bd (cy.2.2 w)<|λcO bS=>by have:=(cy.2.1 cO bS).2;omega)
  have⟨aj,cL⟩:=bm (aZ #[ag ai 0,aG ak,aE af 0 0,aE af 0 0,aE af 0 0] 102:g7)
  have cw:a6 l (aN (aN l r) aj):=(cf cc bo _).alloc ax _;have cm:(aN (aN l r) aj).1[J l.1]? = ae (aZ #[am<|D ay,aE ab ad ac,ag ai c,ag ai g,aG cK,ag ai ar,ag ai o] 122):=by
   rw[<-bf];exact(dv (aN l r) aj (J l.1) ax).trans<|cW l r
  have ci:fC (aN (aN l r) aj) (J l.1+1) 0 ak (bX) (bX) (bX):=by
   have:=cW (aN l r) aj;rw[eE]at this;rw[fC,this,cL]
  have db:=O<|cb _ cw;have dE:=O cm;have c2:=O ci;have:J (aN (aN l r) aj).1=J l.1+2:=ax;have c8:ao (∀B x t y,xU (fg d i (cT e) c g cK o) e B x t y->∀n∈x++(t++y),AX n):=λB x t y u=>(UA (V aM) ah.1 ah.2.1 u).1;generalize fg d i (cT e) c g cK o=az at*;clear Q aq H cb aR cw cm ci aT cx aa;rcases cH with rfl|⟨rfl,ca⟩
  all_goals
   rcases c3 with⟨aI,aX,bB,cn⟩|⟨aI,aX,bB,cn,dc⟩
   all_goals
    go_wp2_with fail;rw[<-bf,<-cL];refine eb db ?_;rintro h C ⟨⟨v,B,bl,bp,bn,x,t,y,rfl,R⟩,a4⟩;obtain⟨a9,cP,cR,cS,du,dw,dx,ds,dt,cI⟩:=R;have b4:∀{v:bk} {dF:List eJ},ik C v dF->∃a dz P,v=aE a dz P:=λw=>by
     rcases w with⟨w,_⟩|⟨_,_,_,w,_⟩<;>exact⟨_,_,_,w⟩
    obtain⟨bs,bW,bG,rfl⟩:=b4 cP;obtain⟨bt,bY,bD,rfl⟩:=b4 cR;obtain⟨bu,b0,bF,rfl⟩:=b4 cS;have:=a4.4;have W:=c2.kept<|a4.5 (J l.1+1) G;have I7:=(a4.5 (J l.1) G).trans<|V dE;have:aA C (N (J l.1) 0)=ae (aS ay):=v_
    have:aA C (N (J l.1) 1)=ae (aE ab ad ac):=v_
    have:aA C (N (J l.1) 2)=ae (M c):=v_
    have:aA C (N (J l.1) 3)=ae (M g):=v_
    first
     |have dA:aA C (N (J l.1) 4)=ae (aG ak):=by simp[aA,I7]
     |have dA:aA C (N (J l.1) 4)=ae (aG aD):=by simp[aA,I7]
    have:aA C (N (J l.1) 5)=ae (M ar):=v_
    have:aA C (N (J l.1) 6)=ae (M o):=v_
    obtain⟨dQ,dR,dT,dU,dV⟩:=W.cells;have:=W.frozen;have L:co (λbT=>bT≠J l.1+1) C (a7 (a7 (a7 (a7 (a7 C ⟨J l.1+1,0,af⟩<|ag ai az.1.1) ⟨J l.1+1,1,af⟩<|aG az.1.2.1) ⟨J l.1+1,2,af⟩<|aE bs bW bG) ⟨J l.1+1,3,af⟩<|aE bt bY bD) ⟨J l.1+1,4,af⟩<|aE bu b0 bF):=
     (((((co.j9 (A:=C) (a:=⟨J l.1+1,0,af⟩) _ λ_ w=>w).trans (co.j9 (a:=⟨J l.1+1,1,af⟩) _ λ_ w=>w)).trans (co.j9 (a:=⟨J l.1+1,2,af⟩) _ λ_ w=>w)).trans (co.j9 (a:=⟨J l.1+1,3,af⟩) _ λ_ w=>w)).trans (co.j9 (a:=⟨J l.1+1,4,af⟩) _ λ_ w=>w))
    have b_:xU az e B x t y:=⟨du,dw,dx,ds,dt⟩
    have cg:=
     ((((cU (J l.1) l).alloc bo r).alloc ax aj).trans<|bN a4 G).trans ⟨L.1,L.2,L.3,L.4,λbT aa=>L.5 bT G G⟩
    have c9:=O (aV (aE ab ad ac) (aE bs bW bG) (aE bt bY bD) (aE bu b0 bF) B x t y _ (by
     rcases V br with⟨a,F⟩|⟨a,aw,av,F,aO,h⟩
     ·exact bJ<|bd a F
     ·exact bE ⟨a,aw,av,F,aO,h.below cg⟩) b_ (Li cP W L) (Li cR W L) (Li cS W L) λn u=>bd (KY (cI n u).1 (tn.2 (c8 _ _ _ _ b_ n u).4) W L)<|KY (cI n u).2 (BP 32 _) W L)
    have c0:=((((W.set0 az.1.1).set1 az.1.2.1).set2<|aE bs bW bG).lM<|aE bt bY bD).o6<|aE bu b0 bF;obtain⟨dG,dH,dI,dJ,dK⟩:=c0.cells;have cd:=O<|bC z<|bN cg z.4;have:=O<|cj dG<|cj dH<|cj dI<|cj dJ dK;subst a9;go_wp2_with fail;refine eb c9 ?_;rintro h dP ⟨⟨q,rfl,R⟩,dg⟩;have di:=O<|bC cd<|bN dg cd.4;have aH:=O R;go_wp2;go_ret;exact bd (⟨_,U,aH⟩) di
def Lu(a b:Nat)(c:a<9223372036854775808)(d:b<9223372036854775808):bits .and ai (a:Int) (b:Int)=((a &&& b:Nat):Int):=by have:a &&& b<2^63:=wH Nat.and_le_left G;show ai.wrap ((BitVec.ofInt 64 (a:Int) &&& BitVec.ofInt 64 (b:Int)).toNat:Int)=_;rw[Iw,uS a G,uS b G];generalize a &&& b=e at*;rw[tv];omega
def rC(a b:Nat):Nat:=(32768 ||| (a &&& 30976)) ||| (b &&& 15)
def zV(a b):rC a b<65536:=by let c:a &&& 30976<2^16:=wH De G;let d:b &&& 15<2^16:=wH De G;exact Bj (Bj G c) d
def Gz(b:Nat)(d:a<65536)(e:b<65536):qo (a:Int) (b:Int)=(rC a b:Int):=by
 let c:a &&& 30976<2^16:=wH De G;let:b &&& 15<2^16:=wH De G;let:32768 ||| (a &&& 30976)<2^16:=Bj G c
 rw[qo,show bits .and ai (a:Int) 30976=((a &&& 30976:Nat):Int)from Lu a 30976 G G,show bits .and ai (b:Int) 15=((b &&& 15:Nat):Int)from Lu b 15 G G,show bits .or ai 32768 ((a &&& 30976:Nat):Int)=((32768 ||| (a &&& 30976):Nat):Int)from A0 32768 _ G G];exact A0 _ _ G G
def q6(a m:Nat)(b:Bool):Nat:=if b=aD then a ||| m else a
def Lv(d:a<65536)(b:c<65536):q6 a c l<65536:=by unfold q6;split;{exact Bj (n:=16) G G};omega
def GA(m:Nat)(b)(d:a<65536)(c:m<65536):qe (a:Int) (m:Int) b=(q6 a m b:Int):=by unfold qe q6;split;{exact A0 a m G G};{rfl}
def Lw(s a):cD s a<65536:=by let:=gp<|s.getD a 0;let:=gp<|s.getD (a+1) 0;unfold cD;omega
def aeL(a:12<=E d):xo d=([cD d 0,cD d 2,cD d 4,cD d 6,cD d 8,cD d 10],aD):=by
 match d,a with
 |b::c::g::h::i::j::k::l::n::o::m::e::p,_=>{simp only[xo,nr,xX,cD,List.getD_cons_zero,List.getD_cons_succ,AT,wI]}
def M1(h:φ:=by intro s;show(nr k _ (e4 s aD).2.2).2.2=aD;rw[agD];grind):φ:=h
def Vl:∀(k:Nat) (s:ap) (a:Bool),E s<2*k->(nr k s a).2.2=aD
 |0,_,_,b=>by omega
 | k+1,s,a,b=>by
  show(nr k (e4 s a).2.1 (e4 s a).2.2).2.2=aD
  match s,b with
  | [],_=>
   have c:∀k s,(nr k s aD).2.2=aD:=by
    intro k;induction k with
    |zero=>intro s;rfl
    |succ k e=>exact M1
   exact c k _
  | [d],_=>
   have c:∀k s,(nr k s aD).2.2=aD:=by
    intro k;induction k with
    |zero=>intro s;rfl
    |succ k e=>exact M1
   exact c k _
  |d::g::s,b=>exact Vl k s a (by grind)
def aef(g:E d<12):∃a b c m e f:Nat,xo d=([a,b,c,m,e,f],ak):=by let:=Vl 6 d ak G;refine⟨_,_,_,_,_,_,Bk U ?_⟩;show(!(nr 6 d ak).2.2)=ak;grind
def GB(a:Int):Prop:=a=0\/a=2\/a=3\/a=5\/a=16
def Vn(b c g first d e a):GB (fK b (ck c) g first d e a).1:=by
 unfold fK;split;{
 cases first
 {exact yu};{exact bE<|bE<|bE<|bJ U}};{
 split;{exact yu};{
 split;{split;{exact bE<|bJ U};{exact yu}};{
 show GB (lP b (ck c) a);unfold lP;repeat' split
 all_goals first|exact bJ U|exact bE (bE<|bJ U)|exact .inr (.inl rfl)|exact .inr<|.inr<|.inr<|.inl rfl}}}
def Vo(d e g):∀(f:Nat) (first a:Bool) (b:List aK) (c:ap),GB (jd d (ck e) g f first a b c).1
 |0,first,a,b,c=>Vn d e g first a b c
 |f+1,first,a,b,c=>by
  have h:=Vn d e g first a b c
  unfold jd;generalize fK d (ck e) g first a b c=l at h
  obtain⟨p,j,n,o,k⟩:=l;cases k with
  |none=>exact h
  |some i=>exact Vo d e g f ak j n i
def aeg(c d b a g h e):GB (fg c d b a g h e).1.1:=by unfold fg;split;{exact bE<|bE<|bE<|bE U};{split;{exact bE<|bE<|bE<|bJ U};{exact Vo c d a 9 aD ak [] b}}
def aeh(b:gg d=ae (o,s,a,c,l,g,v)):cD d 4=1/\cD d 6=0/\cD d 8=0/\cD d 10=if l=aD then 1 else 0:=by unfold gg at b;grind
def l4(e:ap)(g:List aK)(m i:ap):Prop:=
 if E m<12\/cD m 2 &&& 32768≠0 then i=[]
 else if cD m 2 &&& 30720≠0 then i=d_ (iS (cD m 0) (rC (cD m 2) 4) 0 0 0 0)
 else match gg m with
  |none=>i=d_ (iS (cD m 0) (rC (cD m 2) 1) 0 0 0 0)
  |some (j,a,h,d,b,k,c)=>i=x9 (cD m 0) (cD m 2) b (fg e g (cT a) h d b c).1.2.1 k (fg e g (cT a) h d b c).1.1 j (cT a) (fg e g (cT a) h d b c).1.2.2.1 (fg e g (cT a) h d b c).1.2.2.2 (fg e g (cT a) h d b c).2
def Vp(g:ap)(h:List aK)(m:ap):Prop:=∀i a e c d j b,gg m=ae (i,a,e,c,d,j,b)->Ce (fg g h (cT a) e c d b).1.2.2.1/\Ce (fg g h (cT a) e c d b).1.2.2.2/\Ce (fg g h (cT a) e c d b).2/\E (jj 12<|cT a)<=300
def Vq(b:Nat)(c:a<65536)(d:b<65536):(bits .and ai (a:Int) (b:Int) != 0)=dC (a &&& b≠0):=by rw[Lu a b G G];grind
def M3(h:φ:=by rintro e w' ⟨rfl,hb⟩;exact⟨⟨_,U,by unfold l4;grind⟩,hb⟩):φ:=h
def Fy{ay aH m}(ab:hW d i)(aK:gJ b a d c ay aH<|ck i)(ah:dx b)(a3:E m<=2000000)(az:Vp d i m):a_ aL 14 #[bv a,am<|D m] b λe w'=>(∃X,e=bh (am<|D X)/\l4 d i m X)/\a6 b w':=by
 have g:=ain m b G;by_cases ap:E m<12;{let⟨a5,aY,a0,bG,a1,a2,j⟩:=aef ap;rw[j]at g;exact(Vc (bJ U) g).m λw' hb=>⟨⟨[],U,by unfold l4;grind⟩,hb⟩};rw[aeL G]at g;let r:=Lw m 2;let aO:=Lw m 0;have aC:=Vq 32768 r G;have t:=Vq 30720 r G;by_cases C:cD m 2 &&& 32768≠0;{rw[lx C]at aC;exact(Vc (bE ⟨U,aC⟩) g).m λw' hb=>⟨⟨[],U,by unfold l4;grind⟩,hb⟩};rw[fI C]at aC;let:¬(E m<12\/cD m 2 &&& 32768≠0):=λq=>q.elim ap C;by_cases ad:cD m 2 &&& 30720≠0;{rw[lx ad]at t;exact(adW aO (zV _ _) (Gz 4 r G) aC t g).m λw' hb=>⟨⟨_,U,by unfold l4;grind⟩,hb⟩};rw[fI ad]at t;let aj:=λx=>ad0 m (cD m 0) (cD m 2) x G G;cases A:gg m with
 |none=>{refine(adX aO (zV _ _) (Gz 1 r G) aC t g λx=>(aj x).mono ?_).mono ?_;{rintro e w' ⟨q,hb⟩;unfold xY at q;grind};{exact M3}}
 |some aB=>{let⟨L,W,w,p,k,T,o⟩:=aB;let:=aeh A;let⟨aT,an,bb,bc,a8,a9,ba,_⟩:=zP A;let⟨Q,R,S,aV⟩:=az L W w p k T o A;let⟨_,n,Y,Z,aa⟩:=zR ab aT (λV H=>(an V H).1) w p k o;have I:=aeg d i (cT W) w p k o;have a4:E (cT W)<=254:=by{by_cases j:W=[];{subst j;assumption};{have:=xV W j;omega}};have aM:cT W=[]\/gD (cT W):=by{by_cases j:W=[];{subst j;exact yu};{exact bE<|Cb j λV H=>(an V H).1}};let⟨ax,ac⟩:=du<|fg d i (cT W) w p k o;rw[ac]at n Y Z aa I Q R S;let⟨⟨aU,h,B,K⟩,z⟩:=ax;simp only at n Y Z aa I Q R S;let aP:zU B:=⟨λu al=>Cj (n u<|by grind).1.wr,Q,G⟩;let aR:zU K:=⟨λu al=>Cj (n u<|by grind).1.wr,R,G⟩;let aS:zU z:=⟨λu al=>Cj (n u<|by grind).1.wr,S,G⟩;have aX:∃l:Nat,l<65536/\aU=(l:Int):=by{grind};obtain⟨l,aJ,rfl⟩:=aX;let aI:qe (qo (cD m 2:Nat) (l:Int)) 1024 h=(q6 (rC (cD m 2) l) 1024 h:Int):=by{rw[Gz l r aJ];exact GA 1024 h (zV _ _) G};let F:q6 (rC (cD m 2) l) 1024 h<65536:=Lv (zV _ _) G;refine(aeA a w p T o k L (cT W) (x9 (cD m 0) (cD m 2) k h T l L (cT W) B K z) (λx aq ar au av aw=>aq=M l/\ar=aG h/\jy x au B/\jy x av K/\jy x aw z) aC t g (λx=>(aj x).mono ?_) (λx y=>?_) λx aq ar au av aw y aF=>?_).mono ?_;{rintro e w' ⟨q,hb⟩;unfold xY at q;grind};{refine(ZN ab (aK.below y) (ah.below y) aM G).mono ?_;rintro e w' ⟨⟨v,rfl,bd,bf,bj,rfl,N,O,P,_⟩,hb⟩;rw[ac]at*;exact⟨⟨_,_,_,_,_,U,U,U,N.rv,O.rv,P.rv⟩,hb⟩};{obtain⟨rfl,rfl,N,O,P⟩:=aF;exact aeK (ah.below y) aO N O P aP aR aS G G aV I aI F λaW=>⟨_,GA 512 aW F G,Lv F G⟩};{exact M3}}
def Lx(d)(c)(i:a<256):(256*d+a) &&& (256*c)=256*(d &&& c):=by have g:=Nat.and_div_two_pow (a:=256*d+a) (b:=256*c) (n:=8);have h:=Nat.and_mod_two_pow (a:=256*d+a) (b:=256*c) (n:=8);rw[show(2^8:Nat)=256 from U,show(256*d+a)/256=d by omega,show 256*c/256=c by omega]at g;rw[show(2^8:Nat)=256 from U,show 256*c%256=0 by omega,Nat.and_zero]at h;omega
def Ly(a b d c)(i:b<256)(h:c<256):(256*a+b) ||| (256*d+c)=256*(a ||| d)+(b ||| c):=by have e:=Nat.or_div_two_pow (a:=256*a+b) (b:=256*d+c) (n:=8);have g:=Nat.or_mod_two_pow (a:=256*a+b) (b:=256*d+c) (n:=8);rw[show(2^8:Nat)=256 from U,show(256*a+b)/256=a by omega,show(256*d+c)/256=d by omega]at e;rw[show(2^8:Nat)=256 from U,show(256*a+b)%256=b by omega,show(256*d+c)%256=c by omega]at g;omega
def aei:∀a:Nat,a<17->a &&& 15=a%16:=by decide +kernel
def aej(b)(e:c<256)(g:a<17):rC (256*b+c) a=256*(128 ||| (b &&& 121))+a%16:=by rw[rC,aei a g,show(30976:Nat)=256*121 from U,Lx b 121 e];have d:=Ly 128 0 (b &&& 121) 0 G G;simp only[h8,Nat.or_self]at d;rw[show(32768:Nat)=256*128 from U,d];let:=Ly (128 ||| (b &&& 121)) 0 0 (a%16) G G;grind
def aek:∀a:Nat,a<256->(128 ||| (a &&& 121)=rA a ak ak/\(128 ||| (a &&& 121)) ||| 4=rA a aD ak/\(128 ||| (a &&& 121)) ||| 2=rA a ak aD/\((128 ||| (a &&& 121)) ||| 4) ||| 2=rA a aD aD):=by decide +kernel
def Vr(b)(c)(e:a<256)(d):q6 (256*b+a) (256*c) d=256*(if d=aD then b ||| c else b)+a:=by unfold q6;split;{let:=Ly b a c 0 e G;grind};{rfl}
def ael(b d)(h:a<256)(e:g<256)(i:c<17):q6 (q6 (rC (256*a+g) c) 1024 b) 512 d=256*rA a b d+c%16:=by let:=aek a h;rw[aej a e i,show(1024:Nat)=256*4 from U,Vr _ 4 G b,show(512:Nat)=256*2 from U,Vr _ 2 G d];grind
def Vs(r:12<=E d)(m g e i bG j k)(w:e<17):d_ (iS (cD d 0) (q6 (q6 (rC (cD d 2) e) 1024 m) 512 g) i bG j k)=oh d m g e [i,bG,j,k]:=by
 match d,r with
 |a::b::c::h::l,_=>{
 let:=gp b;let t:=gp c;let u:=gp h;let q:cD (a::b::c::h::l) 2=256*bg c+bg h:=U;let p:cD (a::b::c::h::l) 0=256*bg a+bg b:=U;rw[q,p,ael m g t u w];let cS:aO (256*bg a+bg b)=a:=by rw[aO,show(256*bg a+bg b)/256=bg a by omega];simp
 let n:cL (256*bg a+bg b)=b:=by{simp[cL]};let o:aO (256*rA (bg c) m g+e%16)=UInt8.ofNat (rA (bg c) m g):=by grind[aO]
 let hN:cL (256*rA (bg c) m g+e%16)=UInt8.ofNat (e%16):=by{simp[cL]};simp only[d_,iS,fB,kj,A_,cS,n,o,hN,nO];rfl}
def Vt(e:12<=E d)(a b bG c m)(g:a<17):d_ (iS (cD d 0) (rC (cD d 2) a) b bG c m)=oh d ak ak a [b,bG,c,m]:=Vs e ak ak a b bG c m g
def UO:∀a:Nat,a<256->((a &&& 128≠0↔128<=a)/\(a &&& 120≠0↔a/8%16≠0)):=by decide +kernel
def UP(m):cD m 2 &&& 32768≠0↔128<=bg (m.getD 2 0):=by let a:=gp<|m.getD 2 0;let b:=gp<|m.getD 3 0;let:=(UO _ a).1;show(256*bg (m.getD 2 0)+bg (m.getD 3 0)) &&& (256*128)≠0↔_;rw[Lx _ 128 b,<-this];omega
def UQ(m):cD m 2 &&& 30720≠0↔bg (m.getD 2 0)/8%16≠0:=by let a:=gp<|m.getD 2 0;let b:=gp<|m.getD 3 0;let:=(UO _ a).2;show(256*bg (m.getD 2 0)+bg (m.getD 3 0)) &&& (256*120)≠0↔_;rw[Lx _ 120 b,<-this];omega
def nh(b a:eJ):Bool:=dC<|b.2.2.2=a.2.2.2/\b.2.2.1.type=a.2.2.1.type
def tV:Nat->List eJ->List (List eJ)
 |0,_=>[]
 |_+1,[]=>[]
 |f+1,a::b=>(a::he (nh a) b)::tV f (kT (nh a) b)
def aem:tV a []=[]:=by cases a<;>rfl
def Lz:∀(f:Nat) (c:List eJ) (d:List<|List eJ) (a:eJ) (b:List eJ),E c<=f->c.foldl m5 (d++[a::b])=d++[a::(b++he (nh a) c)]++tV f (kT (nh a) c)
 |f,[],d,a,b,_=>by simp[aem]
 |f+1,e::c,d,a,b,j=>by
  have i:E c<=f:=by grind
  rw[DH];by_cases h:a.2.2.2=e.2.2.2/\a.2.2.1.type=e.2.2.1.type;{have g:nh a e=aD:=lx h;rw[Uc d b h,fN,Lz (f+1) c d a (b++[e]) G,DQ g,List.dropWhile_cons_of_pos g,iz b [e]];rfl};{
  have g:¬nh a e=aD:=by unfold nh;grind
  rw[Ud d b h,Lz f c (d++[a::b]) e [] i,agR g,List.dropWhile_cons_of_neg g,kW,iF];rw[tV,iz<|d++[a::b]];rfl}
 termination_by f c=>(f,E c)
def UR:hV R=tV (E R) R:=by
 cases R with
 |nil=>rfl
 |cons b R=>{rw[hV,DH,adu];let:=Lz (E R) R [] b [] bo;assumption}
def US{α:Type}{p q}:∀{l:List α},(∀a∈l,p a=q a)->he p l=he q l/\kT p l=kT q l
 |[],_=>⟨U,U⟩
 |d::l,b=>by have c:=US (p:=p) (q:=q) (l:=l) (λa g=>b a<|by grind);have e:=b d ax;simp only[List.takeWhile_cons,List.dropWhile_cons,e,c.1,c.2,and_self]
def UT:∀(f e:Nat) (c:List eJ),(∀a∈c,∀b∈c,nh a b=c8 a.2.2.1 b.2.2.1)->b9 (·.2) (jH c8 f e (b9 (·.2.2.1) c))=b9 (List.map (·.2.2.1)) (tV f c)
 |0,_,_,_=>U
 |_+1,_,[],_=>U
 |f+1,e,a::g,d=>by have o:∀b∈g,nh a b=(c8 a.2.2.1 ∘ λp:eJ=>p.2.2.1) b:=λb q=>d a ax b (by grind);obtain⟨j,k⟩:=US o;rw[lU,jH,tV,lU,lU,List.takeWhile_map,List.dropWhile_map,<-j,<-k];rw[UT f _ (kT (nh a) g) λh l i n=>d h (by simp[(Pa _).subset l]) i<|by simp[(Pa _).subset n]];rfl
def La(d:∀b∈R,∀c∈R,nh b c=c8 b.2.2.1 c.2.2.1):b9 (·.2) (dg c8 (b9 (·.2.2.1) R))=b9 (List.map (·.2.2.1)) (hV R):=by rw[dg,UT _ 0 R d,UR,ff]
def aen{e}(h:F=if l=ak/\cE d=er s then s else cE d)(i:e=if l=ak/\cE o=er s then s else cE o)(k:er (cE d)=cE d)(b:er (cE o)=cE o):F=e↔d=o:=by constructor;{intro j;subst h i;refine zF ?_;grind};grind
def UU(e:s=cE d)(g:F=cE o):s=F↔d=o:=by rw[e,g];exact QY
def Lb{a b}(c:a.2.2.2=b.2.2.2↔a.2.2.1.owner=b.2.2.1.owner):nh a b=c8 a.2.2.1 b.2.2.1:=by grind[nh,c8]
def UV:∀{b:gH} (c:gH),jA s b=ae a->jA s (b++c)=ae a
 |[],_,d=>by cases d
 |h::b,c,d=>by rw[fN,jA];rw[jA]at d;split;{grind};{rename_i g;rw[bV g]at d;exact UV c d}
def Lc:∀(h:List ap) (b:ap) (a:gH),∃g,(de h b a).2=a++g
 |[],_,a=>⟨[],by simp[de]⟩
 |c::d,b,a=>by
  cases e:jA (er (c::d)) a with
  |some i=>rw[vH e];simp
  |none=>{rw[rL e];obtain⟨g,j⟩:=Lc d (b++(UInt8.ofNat (E c)::c))<|a++[(er (c::d),E b)];grind}
def Ld:∀(j:s2) (b:ap) (a:gH),∃d,(eZ j b a).2=a++d
 |[],_,a=>⟨[],by simp[eZ]⟩
 |.inl g::c,b,a=>Ld c (b++g) a
 |.inr e::c,b,a=>by obtain⟨d,h⟩:=Lc (I 46 e) b a;obtain⟨v,i⟩:=Ld c (de (I 46 e) b a).1 (de (I 46 e) b a).2;exact⟨d++v,by rw[eZ,i,h,iz]⟩
def aeo(d c b a):∃e,(lZ d c b a).2=a++e:=by let⟨e,g⟩:=Lc c b a;let⟨v,h⟩:=Ld (fu d) (jU d (de c b a).1) (de c b a).2;exact⟨e++v,by show(eZ (fu d) (jU d (de c b a).1) (de c b a).2).2=_;grind⟩
structure wV(T:ap)(x:eJ):Prop where
 wr:Af x.2.2.1
 lab:(x.2.2.1.owner=T/\er x.2.2.2=cE T)\/(qv x.2.2.1.owner/\x.2.2.2=I 46 x.2.2.1.owner)
def UW(p:E d=E o)(t:Q≠[]):∀(j:List eJ) (g:ap) (es:gH) (e:ap) (l:gs),(∀b∈j,wV Q b)->kI d o g es e l->jJ l Q=ae a->kI d o (jG j g es).1 (jG j g es).2 (ef eI (b9 (·.2.2.1) j) e l).1 (ef eI (b9 (·.2.2.1) j) e l).2/\jJ (ef eI (b9 (·.2.2.1) j) e l).2 Q=ae a
 |[],_,_,_,_,_,h,k=>⟨h,k⟩
 |b::j,g,es,e,l,q,h,k=>by have c:=q b ax;have n:=acU p c.1 (ls:=b.2.2.2) (by{rcases c.2 with⟨r,z⟩|r;{grind};grind}) h;have w:jJ (iX b.2.2.1 (eI b.2.2.1) e l).2 Q=ae a:=by{rw[<-n.find Q];obtain⟨x,u⟩:=aeo b.2.2.1 b.2.2.2 g es;rw[u];exact UV x (by rw[h.find Q];exact k)};exact UW p t j _ _ _ _ (λy A=>q y<|by grind) n w
def aep(h:E o=E P){a es g}(e:kI o P a es d g):E a=E d:=by obtain⟨i,rfl,rfl⟩:=e.1;grind
structure GC(h1 h2 T:ap)(n o1:Nat)(aH:qw)(sf:lj):Prop where
 eq:kI h1 h2 aH.S aH.es sf.S.1 sf.S.2
 aj6:T≠[]->jJ sf.S.2 T=some n
 cs:∃a b c,sf.cs=[a,b,c]/\aH.cs=[1,a,b,c+o1]
 full:aH.full=sf.full
def GE{T n o1 most ol i}(g:E d=E o)(aO:i<3):∀(h:List<|List eJ) (aH:qw) (b:lj),(∀a∈h,∀e∈a,wV T e/\T≠[])->GC d o T n o1 aH b ->
  GC d o T n o1 (m6 most ol i h aH) (iU ((most:Int)-(ol:Int)) eI i (b9 (List.map (·.2.2.1)) h) b)/\(m6 most ol i h aH).4=(if aH.5=ak/\(m6 most ol i h aH).5=aD then dC (i<2)else aH.4)
 |[],aH,b,_,c=>⟨c,by
  rw[show m6 most ol i [] aH=aH from U];simp⟩
 |a::h,aH,b,p,c=>by
  by_cases r:aH.5=aD;{rw[KC r,Gs<|c.4▸r];grind};{
  have k:aH.5=ak:=by grind
  have q:b.3=ak:=c.4▸k;have l:kI d o (jG a aH.1 aH.2).1 (jG a aH.1 aH.2).2 (ef eI (b9 (·.2.2.1) a) b.1.1 b.1.2).1 (ef eI (b9 (·.2.2.1) a) b.1.1 b.1.2).2/\(T≠[]->jJ (ef eI (b9 (·.2.2.1) a) b.1.1 b.1.2).2 T=ae n):=by{
  by_cases j:T=[];{
  cases a with
  |nil=>exact⟨c.1,c.2⟩
  |cons e a=>exact absurd j (p (e::a) ax e ax).2};{have:=UW g j a aH.1 aH.2 b.1.1 b.1.2 (λe B=>(p a ax e B).1) c.1<|c.2 j;grind}};have C:=aep g l.1;rw[lU];by_cases t:most<E (jG a aH.1 aH.2).1+ol;{rw[UG k t,KH q G];exact⟨⟨c.1,c.2,c.3,U⟩,by grind⟩};{
  rw[UH k t,KI q G];obtain⟨u,w,x,y,z⟩:=c.3;have D:=GE (T:=T) (n:=n) (o1:=o1) (most:=most) (ol:=ol) (i:=i) g aO h {aH with S:=(jG a aH.1 aH.2).1,es:=(jG a aH.1 aH.2).2,cs:=aH.3.set (i+1) (aH.3.getD (i+1) 0+E a)} {b with S:=ef eI (b9 (·.2.2.1) a) b.1.1 b.1.2,cs:=b.2.set i (b.2.getD i 0+E (b9 (·.2.2.1) a))} (λA F=>p A<|by grind) ⟨l.1,l.2,by{
  rw[y,z,ff];match i,aO with
  |0,_=>simp
  |1,_=>simp
  |2,_=>exact⟨u,w,x+E a,U,by grind⟩},c.4⟩
  assumption}}
def GF{size aV i}:∀(b:List<|List aK) (aH:lj),aH.3=ak->i<E aH.2->(∀a∈b,a≠[])->(∀c,c≠i->(iU size aV i b aH).2.getD c 0=aH.2.getD c 0)/\(if(iU size aV i b aH).3=aD then(iU size aV i b aH).2.getD i 0<aH.2.getD i 0+(b9 (·.length) b).sum else(iU size aV i b aH).2.getD i 0=aH.2.getD i 0+(b9 (·.length) b).sum)
 |[],aH,d,_,_=>⟨λ_ _=>U,by
  rw[show iU size aV i [] aH=aH from U,bV<|by grind];rfl⟩
 |a::b,aH,d,aO,g=>by have n:0<E a:=tn.2<|g a ax;by_cases e:size<(E (ef aV a aH.1.1 aH.1.2).1:Int);{rw[KH d e];grind};{rw[KI d e];obtain⟨j,p⟩:=GF b {aH with S:=ef aV a aH.1.1 aH.1.2,cs:=aH.2.set i (aH.2.getD i 0+E a)} d (by simpa using aO) (λk o=>g k<|by grind);have l:(aH.2.set i<|aH.2.getD i 0+E a).getD i 0=aH.2.getD i 0+E a:=by{grind};refine⟨λc h=>(j c h).trans ?_,?_⟩;{grind};grind}
def UX:∀(f:Nat) (c:List eJ),∀b∈tV f c,b≠[]
 |0,_,_,a=>by cases a
 |_+1,[],_,a=>by cases a
 |f+1,e::d,b,a=>by rw[tV]at a;rcases fw.1 a with a|a;{grind};{exact UX f _ b a}
def aeq{a}(b:a∈hV R):a≠[]:=by rw[UR]at b;exact UX _ _ a b
def UY:(b9 (·.length) (b9 (List.map (·.2.2.1))<|hV R)).sum=E R:=by let:=eQ List.length<|LR R;grind
abbrev qz(a:List eJ):List aK:=b9 (·.2.2.1) a
def aer{h1 h2 T n o1 most ol}(r:E h1=E h2){b d}(O:∀a∈R,∀k∈R,nh a k=c8 a.2.2.1 k.2.2.1)(A:∀a∈b,∀k∈b,nh a k=c8 a.2.2.1 k.2.2.1)(P:∀a∈d,∀k∈d,nh a k=c8 a.2.2.1 k.2.2.1)(u:∀a∈R++(b++d),wV T a/\T≠[])(aH h)(w:GC h1 h2 T n o1 aH h)(D:aH.5=ak)(Q:aH.4=ak)(L:h.2=[0,0,0]):GC h1 h2 T n o1 (rh most ol 0 [R,b,d] aH) (lE ((most:Int)-(ol:Int)) eI 0 [qz R,qz b,qz d] h)/\(rh most ol 0 [R,b,d] aH).4=zT (lE ((most:Int)-(ol:Int)) eI 0 [qz R,qz b,qz d] h) (qz R) (qz b):=by
 simp only[rh,lE,fM,Nat.reduceAdd];rw[La O,La A,La P];have F:∀e∈hV R,∀a∈e,wV T a/\T≠[]:=λe o a p=>u a (by simp[Ck R o a p]);have H:∀e∈hV b,∀a∈e,wV T a/\T≠[]:=λe o a p=>u a (by simp[Ck b o a p]);have C:∀e∈hV d,∀a∈e,wV T a/\T≠[]:=λe o a p=>u a (by simp[Ck d o a p]);let⟨x,Z⟩:=GE (T:=T) (n:=n) (o1:=o1) (most:=most) (ol:=ol) (i:=0) r G (hV R) aH h F w;have B:=w.4▸D;have t:∀(z:List eJ),∀e∈b9 (List.map (·.2.2.1)) (hV z),e≠[]:=λz e o=>by{obtain⟨c,h1,rfl⟩:=kE.1 o;intro K;exact aeq h1<|List.map_eq_nil_iff.1 K};have bG:=GF (size:=(most:Int)-(ol:Int)) (aV:=eI) (i:=0) _ h B (by grind) (t R);have M:E (iU ((most:Int)-ol) eI 0 (b9 (List.map (·.2.2.1))<|hV R) h).2=3:=by rw[Gy,L];rfl
 rw[UY]at bG;generalize V:m6 most ol 0 (hV R) aH=W1,en:iU ((most:Int)-ol) eI 0 (b9 (List.map (·.2.2.1))<|hV R) h=j at*;let⟨y,aa⟩:=GE (T:=T) (n:=n) (o1:=o1) (most:=most) (ol:=ol) (i:=1) r G (hV b) W1 j H x;have I:=λl=>GF (size:=(most:Int)-(ol:Int)) (aV:=eI) (i:=1) _ j l G (t b);have:E (iU ((most:Int)-ol) eI 1 (b9 (List.map (·.2.2.1))<|hV b) j).2=3:=by rw[Gy,M]
 have:j.3=aD->iU ((most:Int)-ol) eI 1 (b9 (List.map (·.2.2.1))<|hV b) j=j:=λl=>Gs l;rw[UY]at I;generalize W:m6 most ol 1 (hV b) W1=W2,hF2:iU ((most:Int)-ol) eI 1 (b9 (List.map (·.2.2.1))<|hV b) j=g at*;let⟨N,ab⟩:=GE (T:=T) (n:=n) (o1:=o1) (most:=most) (ol:=ol) (i:=2) r G (hV d) W2 g C y;have:=λl=>(GF (size:=(most:Int)-(ol:Int)) (aV:=eI) (i:=2) _ g l G (t d)).1;have:g.3=aD->iU ((most:Int)-ol) eI 2 (b9 (List.map (·.2.2.1))<|hV d) g=g:=λl=>Gs l;generalize X:m6 most ol 2 (hV d) W2=W3,gi:iU ((most:Int)-ol) eI 2 (b9 (List.map (·.2.2.1))<|hV d) g=q at*;refine bd N ?_;let:h.2.getD 0 0=0:=by grind
 let:h.2.getD 1 0=0:=by grind
 let S:q.2.getD 0 0=g.2.getD 0 0/\q.2.getD 1 0=g.2.getD 1 0:=by{grind};let hcut:zT q (qz R) (qz b)=(dC (g.2.getD 0 0<E R)||dC (g.2.getD 1 0<E b)):=by{grind[zT]};rw[hcut];let:=x.4;let:=y.4;cases Y:j.3 with
 |true=>{grind}
 |false=>{grind}
def vR:List ap->Nat->gH
 |[],_=>[]
 |c::b,a=>(er (c::b),a)::vR b (a+1+E c)
def UZ:∀{b:gH},(∀a∈b,a.1≠s)->jA s b=af
 |[],_=>U
 |a::b,c=>by rw[jA,bV λe=>c a ax e.1];exact UZ λg h=>c g (by grind)
def U0:∀(e:List ap) (d:ap) (b:gH),(∀c∈b,E e<E c.1)->(de e d b).2=b++vR e (E d)
 |[],_,b,_=>by simp[de,vR]
 |k::g,d,b,h=>by have j:jA (er (k::g)) b=af:=UZ λc a i=>by{have:=h c a;rw[i]at this;simp[er]at this};rw[rL j,U0 g _ _ λc a=>by{rcases i_.1 a with a|a;{grind};{rw[yR]at a;rw[a];simp[er]}},vR,iz];grind
def U1(a):(46:UInt8)∉k_ a:=by exact LZ
def Le(b)(g:Q≠[]):dU (cT (Q::b))=cT (Q::b)::dU (cT b):=by
 let e:k_ Q≠[]:=λc=>g<|hq (by rw[<-A5,c];rfl);cases b with
 |nil=>{let c:cT [Q]=k_ Q:=Lib.join_one _ _;rw[c,oB e,xk<|U1 Q];rfl}
 |cons d b=>{let c:cT (Q::d::b)=k_ Q++46::cT (d::b):=Gj _ _ _;rw[c,oB ax,uX _<|U1 Q]}
def U2:∀(h:List ap) (b:Nat),(∀a∈h,a≠[])->b9 (λe=>(cE e.1,e.2)) (jj b<|cT h)=vR h b
 |[],_,_=>U
 |[a],b,g=>by have e:cT [a]=k_ a:=Lib.join_one _ _;unfold jj;rw[Le []<|g a ax];simp only[lU,zQ<|show [a]≠[] by simp];rw[show b+E (cT [a])-E (cT [a])=b by omega];rfl
 |a::d::c,b,g=>by
  have i:=U2 (d::c) (b+1+E a) (λj l=>g j<|by grind);have e:cT (a::d::c)=k_ a++46::cT (d::c):=Gj _ _ _;have k:E (cT (a::d::c))=E a+1+E (cT (d::c)):=by rw[e,dj,dW,A5];omega
  unfold jj at i⊢;rw[Le (d::c)<|g a ax,vR,<-i];simp only[lU,lV,zQ (show a::d::c≠[] by simp)];rw[show b+E (cT (a::d::c))-E (cT (a::d::c))=b by omega];congr 1;refine nj λj _=>?_;grind
def U3:∀(d:List ap) (c:Nat),∀b∈vR d c,b.2<=c+k8 d
 |[],_,_,a=>by cases a
 |g::e,c,b,a=>by rw[vR]at a;rcases fw.1 a with a|a;{grind};{have:=U3 e _ b a;rw[vN];omega}
def aes(c)(e:∀g∈s,g≠[])(h:k8 s<=1000):kI fX (List.replicate 12 0) (fX++c) (de s fX []).2 (List.replicate 12 0++c) (jj 12<|cT s):=by refine⟨⟨c,U,U⟩,?_⟩;rw[U0 s fX [] (λd b=>by cases b),iF,U2 s 12 e,show E fX=12 from U,uP];intro d b;let:=U3 s 12 d b;grind
def aet(a):gq (gq a)=gq a:=by
 have:=gp a;by_cases e:65<=bg a/\bg a<=90;{
 have c:gq a=UInt8.ofNat (bg a+32):=by grind[gq]
 have d:bg (gq a)=bg a+32:=by rw[c,pB];omega
 generalize gq a=b at*;show(if 65<=bg b/\bg b<=90 then UInt8.ofNat (bg b+32)else b)=b;grind};{
 let c:gq a=a:=by grind[gq]
 grind}
def U4:er (er s)=er s:=by unfold er;rw[lV];refine nj λb _=>?_;show(b9 gq b).map gq=b9 gq b;rw[lV];exact nj λc _=>aet c
def aeu(e:cE d=er s)(a:o=d\/qv o):er (cE o)=cE o:=by rcases a with rfl|a;{rw[e];exact U4};{rw[rn a.2];exact Uh a.3}
def aev:p5 l (a:Int)=oF l a:=by rfl
def aew:pQ l (a:Int)=(vQ l a:Int):=by grind[pQ,vQ]
def aex:E (oF l a)/11=cond l 1 0:=by cases l<;>simp[oF,KD]
def aey{a}(c:a≠[])(d:∀b∈a,b≠[]):cT a≠[]->∃e,jJ (jj 12<|cT a) (cT a)=ae e:=by
 intro _;match a,c with
 |b::g,_=>{rw[jj,Le g<|d b ax,lU,jJ,b8 ax];simp}
def N5{I}(ar:hW d i)(h1:l4 d i o I)(h2:sj d i o P):I=P:=by
 unfold l4 at h1;unfold sj at h2;by_cases r:E o<12\/128<=bg (o.getD 2 0);{rw[b8 r]at h2;rw[b8<|r.imp_right (UP o).2]at h1;grind};rw[bV r]at h2;rw[bV λc=>r<|c.imp_right (UP o).1]at h1;have F:12<=E o:=G;by_cases t:bg (o.getD 2 0)/8%16≠0;{rw[b8 t]at h2;rw[b8<|(UQ o).2 t]at h1;rw[h1,h2,Vt F 4 0 0 0 0 G]};rw[bV t]at h2;rw[bV λc=>t<|(UQ o).1 c]at h1;cases B:gg o with
 |none=>{rw[B]at h1 h2;rw[h1,h2,Vt F 1 0 0 0 0 G]}
 |some ab=>{
 let⟨K,b,X,m,w,D,N⟩:=ab;rw[B]at h1 h2;simp only at h1 h2;let⟨aH,p,j,k,g,h2⟩:=h2;let⟨o1,ay,aS,_⟩:=zP B;have l:=λa g=>(ay a g).1;let⟨⟨h,aR,aI⟩,L,_⟩:=zR ar o1 l X m w N;rw[aI]at h1 h2;have au:=g.1;have aw:=g.2;have av:=g.3;rw[<-au,<-aw,<-av]at h1 L;generalize (fg d i (cT b) X m w N).1.2.1=O at*;rw[h1,h2,sA];have C:∀a∈p++(j++k),lk (cT b) a.2.2.1/\b≠[]:=λa u=>L _ (by{grind});have aa:∀a∈p++(j++k),a.2.2.2=b/\cE a.2.2.1.owner=er b\/a.2.2.2=cE a.2.2.1.owner:=λa u=>by{rcases i_.1 u with c|c;{have:=g.4 a c;grind};{exact bE<|g.5 a c}};have ac:∀a∈p++(j++k),wV (cT b) a/\cT b≠[]:=λa u=>by{
 let⟨Q,z⟩:=C a u;refine⟨(by have aq:=aa a u;let aJ:=zQ z;refine⟨Q.wr,?_⟩;rcases aq with⟨H,aT⟩|H;{exact .inl ⟨zF<|by grind,by grind⟩};{rcases Q.own with q|q;{exact .inl ⟨q,by rw[H,q,aJ];exact U4⟩};{exact .inr ⟨q,by rw[H,rn q.p]⟩}}),λaj=>?_⟩;have:=xV b z;rw[aj]at this;match b,z,l with
 |e::aH,_,l=>{have:=l e ax;have:=tn.2 this;rw[vN]at*;grind}};have V:=λa u=>aeu (zQ (C a u).2) (C a u).1.1;have aC:=λa c e A=>Lb (aen (g.4 a c) (g.4 e A) (V a<|by simp[c])<|V e<|by grind);have Z:∀a∈j,∀e∈j,nh a e=c8 a.2.2.1 e.2.2.1:=λa c e A=>Lb (UU (g.5 a<|by simp[c])<|g.5 e<|by grind);have aF:∀a∈k,∀e∈k,nh a e=c8 a.2.2.1 e.2.2.1:=λa c e A=>Lb (UU (g.5 a<|by simp[c])<|g.5 e<|by grind);have y:∃n,cT b≠[]->jJ (jj 12<|cT b) (cT b)=ae n:=by{by_cases S:b=[];{exact⟨0,λc=>absurd (by rw[S];rfl) c⟩};{by_cases R:cT b=[];{exact⟨0,λc=>absurd R c⟩};{have n:=aey S l R;grind}}};let⟨n,y⟩:=y;have ap:=aer (h1:=fX) (h2:=List.replicate 12 0) (T:=cT b) (n:=n) (o1:=E (oF w h)/11) (most:=vQ w D) (ol:=E<|oF w h) dl aC Z aF ac ⟨fX++K,(de b fX []).2,[1,0,0,E (oF w h)/11],ak,ak⟩ ⟨(List.replicate 12 0++K,jj 12<|cT b),[0,0,0],ak⟩ ⟨aes K l G,y,⟨0,0,0,U,ax⟩,U⟩ U U U;rw[x9,tU,yi,Ah,aev,aew];let⟨M,Y⟩:=ap;generalize rh (vQ w D) (E<|oF w h) 0 [p,j,k] ⟨fX++K,(de b fX []).2,[1,0,0,E (oF w h)/11],ak,ak⟩=W,lE ((vQ w D:Int)-(E (oF w h):Int)) eI 0 [qz p,qz j,qz k] ⟨(List.replicate 12 0++K,jj 12<|cT b),[0,0,0],ak⟩=aK at*;let⟨aM,aO,aP,al,an⟩:=M.3;let⟨x,az,aB⟩:=M.1.1;rw[<-Y,al,an,az,aB,aex];rw[Ls,Gz h (Lw o 2) G,show((1024:Int))=((1024:Nat):Int)from U,GA 1024 O (zV _ _) G,show((512:Int))=((512:Nat):Int)from U,GA 512 W.4 (Lv (zV _ _) G) G,sA,Vs F O W.4 h 1 _ _ _ G];let ad:bi 12 (fX++x)=x:=dl;let ah:bi 12 (List.replicate 12 (0:UInt8)++x++oF w h)=x++oF w h:=dl;rw[ad,ah,iz];cases w<;>rfl}
def U5:∀(d:List ap) (b:ap) (a:gs),E (hZ d b a).2<=E a+E d/\E (hZ d b a).2+E b<=E a+E (hZ d b a).1
 |[],b,a=>⟨by simp[hZ],by simp[hZ]⟩
 |c::d,b,a=>by
  cases e:jJ a c with
  |some k=>rw[BS e];simp
  |none=>{rw[BT e];obtain⟨g,h⟩:=U5 d (b++nR c)<|oq a c<|E b;have i:=R8 a c<|E b;have j:E (nR c)=E (te c)+1:=U;grind}
def q7:s2->Nat
 |[]=>0
 |.inl _::a=>q7 a
 |.inr b::a=>E (I 46 b)+q7 a
def U6:∀(c:List ap) (b:ap) (a:gH),E (de c b a).2<=E a+E c/\E (de c b a).2+E b<=E a+E (de c b a).1
 |[],b,a=>⟨by simp[de],by simp[de]⟩
 |d::e,b,a=>by
  cases g:jA (er (d::e)) a with
  |some h=>rw[vH g];simp
  |none=>{rw[rL g];obtain⟨i,j⟩:=U6 e (b++(UInt8.ofNat (E d)::d))<|a++[(er (d::e),E b)];grind}
def Lf:∀(c:s2) (b:ap) (a:gH),E (eZ c b a).2<=E a+q7 c/\E (eZ c b a).2+E b<=E a+E (eZ c b a).1
 |[],b,a=>⟨cO _,cO _⟩
 |.inl h::d,b,a=>by obtain⟨i,g⟩:=Lf d (b++h) a;rw[dj]at g;rw[eZ,q7];omega
 |.inr e::d,b,a=>by obtain⟨i,g⟩:=Lf d (de (I 46 e) b a).1 (de (I 46 e) b a).2;obtain⟨j,k⟩:=U6 (I 46 e) b a;rw[eZ,q7];omega
def ad_{j}(d:et j.type (I 32 j.data)=aD):q7 (fu j)<=122:=by
 have a:=uB d;let e:=λl=>nM 46 l;rcases a with a|a|a|a|a|a;all_goals rw[a]at d
 all_goals unfold fu
 {rw[b8 a];simp[q7]};{let⟨c,b,h⟩:=t_ (t:=2) (bJ U) d;let:=(hC h).2;let:=e c;rw[bV G,bV G,bV G,bV G];simp[q7,gI,b];omega};{let⟨c,b,h⟩:=t_ (t:=5) (bE U) d;let:=(hC h).2;let:=e c;rw[bV G,bV G,bV G,bV G];simp[q7,gI,b];omega};{let⟨c,g,n,o,b,k,i,_,_⟩:=BW d;let:=(hC k).2;let:=(hC i).2;let:=e c;let:=e g;rw[bV G,bV G,bV G,b8 a];simp[q7,gI,b];omega};{let⟨c,g,b,_,i⟩:=BX d;let:=(hC i).2;let:=e g;rw[bV G,bV G,b8 a];simp[q7,gI,b];omega};{rw[bV G,b8 a];simp[q7]}
def U7:∀(f:Nat) (c:ap),E c<=f->∀(b:ap) (d:gs),E (hZ (dU c) b d).1<=E b+E c+2
 |f,[],_,b,d=>by rw[o2,hZ];simp
 |0,c::k,n,_,_=>by grind
 |f+1,c::k,n,b,d=>by
  generalize u:c::k=a at*;have p:a≠[]:=by grind
  rw[oB p];cases j:jJ d a with
  |some q=>rw[BS j];have:E (EA q)=2:=U;grind
  |none=>{
  rw[BT j];by_cases i:(46:UInt8)∈a;{
  obtain⟨l,e,g,h⟩:=A9 i;have r:=U7 f (iH a) (by rw[g,uX e h];grind) (b++nR a)<|oq d a<|E b;have o:E (nR a)=E l+1:=by rw[g];unfold nR;rw[JJ e h];rfl
  have t:iH a=e:=by rw[g];exact uX e h
  grind};{
  rw[xk i,o2,hZ];have o:E (nR a)=E a+1:=by unfold nR;rw[JK i];rfl
  grind}}
def U8:∀(f:Nat) (a:ap),E a<=f->gD a->2*E (dU a)<=E a+1
 |f,[],_,_=>by rw[o2];simp
 |0,a::g,k,_=>by grind
 |f+1,a::g,k,e=>by
  generalize w:a::g=c at*;have n:c≠[]:=by grind
  rw[oB n,dW];rcases m7 46 c with⟨i,u⟩|⟨d,b,j,l,r⟩;{have h:(46:UInt8)∉c:=i;rw[xk h,o2];grind};{
  have o:gD b:=λp x=>e p (by grind);have q:0<E d:=tn.2 (e d<|by grind);have t:E c=E d+1+E b:=by grind
  have y:=U8 f b G o;rw[show iH c=b by rw[j];exact uX b l];omega}
def aea(b){c}(d:i8 c):kI [] [] b (c.map λa=>(cE a.1,a.2)) b c:=by refine⟨⟨b,U,U⟩,?_⟩;rw[uP];intro h e;obtain⟨a,g,rfl⟩:=kE.1 e;exact lx<|d a g
def aeb{d}(g:Af d)(a){b}(i:i8 b):E a<=E (ge (eI d) a b).1/\E (ge (eI d) a b).1<=E a+300/\E (ge (eI d) a b).2<=E b+122/\E (ge (eI d) a b).2+E a<=E b+E (ge (eI d) a b).1:=by
 let e:=Ua (h1:=[]) (h2:=[]) U g (aea a i);let:=e.1;let:E (eZ (fu d) a<|b.map λc=>(cE c.1,c.2)).1=E (ge (eI d) a b).1:=by grind
 have h:=eQ List.length e.2;rw[ff]at h;let:=sH (λe:List ap×Nat=>dC<|e.2<16384) (eZ (fu d) a<|b.map λc=>(cE c.1,c.2)).2;let h1:=Gh (fu d) a<|b.map λc=>(cE c.1,c.2);let h2:=Lf (fu d) a<|b.map λc=>(cE c.1,c.2);let:=Ul g.3;let:=ad_ g.3;grind
def aec{a}(g:lk d a)(i:gD a.owner)(c){b}(e:i8 b):E (iX a (eI a) c b).1<=E c+567/\E (iX a (eI a) c b).2<=E b+250/\E (iX a (eI a) c b).2+E c<=E b+E (iX a (eI a) c b).1/\i8 (iX a (eI a) c b).2:=by let j:=(RQ (Cj g.wr) c b).2.2 e;refine⟨?_,?_,?_,j⟩;all_goals(show _;let:=U5 (dU a.owner) c b;let:=U7 _ a.owner bo c b;let:=U8 _ a.owner bo i;let:=g.2;let fe:=(ED (dU a.owner) c b).2.2 e;let:=aeb g.wr (((((hZ (dU a.owner) c b).1++(fB<|cM a.type).4)++(fB 1).4)++(se a.aP).4)++[0,0]) fe;let h:iX a (eI a) c b=ud (eI a) ((((hZ (dU a.owner) c b).1++(fB<|cM a.type).4)++(fB 1).4)++(se a.aP).4) (hZ (dU a.owner) c b).2:=U;rw[h];simp only[ud,JN];let:E (fB<|cM a.type).4=2:=U;let:E (fB 1).4=2:=U;let:E (se a.aP).4=4:=U;grind)
def U9:∀(g:List aK),(∀a∈g,lk d a/\gD a.owner)->∀(b:ap) (c:gs),i8 c->E (ef eI g b c).1<=E b+567*E g/\E (ef eI g b c).2<=E c+250*E g/\E (ef eI g b c).2+E b<=E c+E (ef eI g b c).1
 |[],_,b,c,_=>⟨cO _,cO _,cO _⟩
 |a::g,e,b,c,i=>by obtain⟨k,l,n,h⟩:=aec (e a ax).1 (e a ax).2 b i;obtain⟨p,q,r⟩:=U9 g (λj o=>e j<|by grind) (iX a (eI a) b c).1 (iX a (eI a) b c).2 h;show(ef eI g (iX a (eI a) b c).1 (iX a (eI a) b c).2).1.length<=_/\E (ef eI g (iX a (eI a) b c).1 (iX a (eI a) b c).2).2<=_/\E (ef eI g (iX a (eI a) b c).1 (iX a (eI a) b c).2).2+E b<=E c+E (ef eI g (iX a (eI a) b c).1 (iX a (eI a) b c).2).1;grind
def LC(e:∀a∈i,lk d a/\gD a.owner)(k:E i<=68):Ce i:=by intro j c s b g l n;let:=uW c;let:=U9 j.2 (λa h=>e a<|Kc c h) s b g;omega
def aed(j:hW d i)(w:k8 s<=254)(q:∀t∈s,t≠[])(c e h a):E (fg d i (cT s) c e h a).1.2.2.1<=68/\E (fg d i (cT s) c e h a).1.2.2.2<=68/\E (fg d i (cT s) c e h a).2<=68:=by
 unfold fg;split;{simp};{
 split;{simp};{
 rename_i o;have p:=λg=>o<|bE<|bE g;have k:s≠[]:=λg=>by subst g;exact p U
 let l:=Cb k q;let y:=xV s k;let rs:=vU j c 9 aD ak [] (cT s) l G (λx r=>by cases r)<|dJ _;let n:=Lh (rs:=i) (gn d i c<|cT s).2.2.1 ((gn d i c<|cT s).2.2.1++(gn d i c<|cT s).2.2.2) ([],[]) ax;let u:=vT j;exact⟨cJ rs.2.2.1 G,cJ rs.2.2.2 G,cJ n G⟩}}
def Fw(q:hW d i)(m):Vp d i m:=by intro D b e h g F c w;let⟨r,B,_⟩:=zP w;let n:=λC x=>(B C x).1;let⟨_,t,_⟩:=zR q r n e h g c;let⟨y,z,A⟩:=aed q r n e h g c;let l:∀a∈(fg d i (cT b) e h g c).1.2.2.1++((fg d i (cT b) e h g c).1.2.2.2++(fg d i (cT b) e h g c).2),lk (cT b) a/\gD a.owner:=λa j=>by{let⟨o,u⟩:=t a j;refine bd o ?_;rcases o.1 with k|k;{rw[k];exact Cb u n};{exact k.ne}};refine⟨LC (λa j=>l a<|by grind) y,LC (λa j=>l a<|by grind) z,LC (λa j=>l a<|by grind) A,?_⟩;rw[jj,ff];let:=JL _ (cT b) bo;by_cases p:b=[];{subst p;let:E (cT [])=0:=U;omega};{have:=xV b p;omega}
def U_(e g m):∃d,l4 e g m d:=by
 unfold l4;by_cases a:E m<12\/cD m 2 &&& 32768≠0;{simp_all};{
 by_cases b:cD m 2 &&& 30720≠0;{exact eR _<|by rw[bV a,b8 b]};{
 cases h:gg m with
 |none=>exact eR _<|by rw[bV a,bV b]
 |some c=>{let:=c;exact eR _<|by rw[bV a,bV b]}}}
def aee{c}(a:l4 o i P c)(b:l4 o i P d):c=d:=by
 unfold l4 at a b;by_cases h:E P<12\/cD P 2 &&& 32768≠0;{grind};{
 rw[bV h]at a b;by_cases g:cD P 2 &&& 30720≠0;{grind};{
 rw[bV g]at a b;cases k:gg P with
 |none=>grind
 |some j=>{grind}}}
def GG(u:hW d i)(a:l4 d i o P):E P<=1232:=by
 unfold l4 at a;by_cases y:E o<12\/cD o 2 &&& 32768≠0;{grind};{
 rw[bV y]at a;by_cases k:cD o 2 &&& 30720≠0;{rw[b8 k]at a;rw[a,Es];omega};{
 rw[bV k]at a;cases g:gg o with
 |none=>rw[g]at a;rw[a,Es];omega
 |some t=>{
 let⟨D,p,q,n,b,c,l⟩:=t;rw[g]at a;simp only at a;let⟨B,C,N,_⟩:=zP g;let⟨_,j,_⟩:=zR u B (λH z=>(C H z).1) q n b l;generalize fg d i (cT p) q n b l=r at a j;let⟨⟨m,K,x,A⟩,w⟩:=r;simp only at a j;have e:E (p5 b m)<=11:=by unfold p5;split<;>simp[us]
 let I:512<=pQ b c/\pQ b c<=1232:=by unfold pQ;omega
 let:=(Lq (size:=pQ b c-(E (p5 b m):Int)) (aV:=eI) 0 [x,A,w] ⟨(List.replicate 12 0++D,jj 12<|cT p),[0,0,0],ak⟩ (cM<|pQ b c-(E (p5 b m):Int)) (λM e F L=>by{simp at e;rcases e with rfl|rfl|rfl<;>exact Cj (j F<|by grind).1.wr}) G (by grind)).2;rw[a];rw[x9,tU,dj,Es,il,dj];omega}}}
def un(m:ap):ap:=be 6<|[2]++m++[102,105,118,101,53]
def vW(a:ap):ap:=be 4<|a++[10,0,0,1]
def LN(m):E (un m)=6:=by simp[un]
def LM(a):E (vW a)=4:=by simp[vW]
def GO(m a b)(y:E m<=10000000)(aO:E a<=10000000):a_ aL 17 #[aS m,aS a] b (cI (jW (un m)<|vW a) b):=by
 let⟨d,h,k,w⟩:=ix a [10,0,0,1];let⟨e,i,l,x⟩:=ix [2] m;let⟨g,j,n,r⟩:=ix e [102,105,118,101,53];have:D a++⟨#[10,0,0,1]⟩=D d:=k;have:(⟨#[2]⟩:ByteArray)++D m=D e:=l;have:D e++⟨#[102,105,118,101,53]⟩=D g:=n;have:=cV a;have:=cV m;have:b7 (D d)=E a+4:=fi
 have u:b7 (D e)=1+E m:=fi
 have B:b7 (D g)=1+E m+5:=by rw[r,u];rfl
 have z:(D d).extract 0 4=D (vW a):=by rw[wS d 4<|by grind,h];rfl
 have A:(D g).extract 0 6=D (un m):=by rw[wS g 6<|by simp_all,j,i];rfl
 generalize un m=M,vW a=c at*;clear h i j k l n w x r;go_in;let t:=((cU (J b.1) b).alloc bo<|aZ #[am<|D M,am<|D c] 47).alloc ax<|aZ #[am<|D M,am<|D c] 47;let o:bq (aN (aN b<|aZ #[am<|D M,am<|D c] 47)<|aZ #[am<|D M,am<|D c] 47) (J b.1) [aS M,aS c] 47:=(bq.fF b _ _).alloc _;have p:=o.cell 0 ax;have q:=o.cell 1 ax;simp only[eB,eG]at p q;go_wp2;refine dQ (v:=ce #[am<|D M,am<|D c]) (by simp[results,results17,go_sem,p,q]) U ⟨U,t⟩
def GP(a b):∃ρ:ap->ap,∀m,l4 a b m (ρ m):=⟨λm=>(U_ a b m).choose,λm=>(U_ a b m).choose_spec⟩
def HN{ρ}(e:∀m,l4 d i m<|ρ m)(j:hW d i)(n:gJ b a d c 0 g<|ck i)(l:dx b):t8 ρ 14 (bv a) b:=λm u=>⟨GG j<|e m,λr h=>(Fy j (n.below h) (l.below h) G<|Fw j m).mono λt w ⟨⟨q,o,p⟩,k⟩=>⟨by rw[o,aee p<|e m],k⟩⟩
def N7{ρ}(e:∀m,l4 d i m<|ρ m)(h:hW d i)(k:lu b a d i)(g:a6 b f):t8 ρ 15 (bv a) f:=λm r=>⟨GG h<|e m,λp j=>(N4 m k (bC g<|bN j g.4) h G).mono λq t ⟨⟨o,l,n⟩,g⟩=>⟨by rw[l,N5 h (e m) n],g⟩⟩
def Oi(b):∀(a:List ap),a≠[]->jZ (a++[b])=jZ a++46::b
 |[],c=>absurd U c
 |[e],_=>U
 |e::g::d,_=>by rw[fN,fN,jZ,<-fN,Oi b (g::d) ax,jZ];simp
def Oj:∀(c:List ap) (m:Nat),(∀a∈c,E a<=m)->E (jZ c)<=E c*(m+1)
 |[],m,_=>by simp[jZ]
 |[a],m,b=>by have:=b a ax;simp[jZ];omega
 |a::g::e,m,b=>by have i:=b a ax;have d:=Oj (g::e) m (λh j=>b h<|by grind);rw[jZ,dj,dW];simp only[dW,C2]at d⊢;omega
def afW(v a h)(x:fG h v a)(P:E a<=1000)(r:∀c∈a,E c<=1000):a_ aL 162 #[v] h λw B=>w=bh (am<|D<|jZ a)/\B=h:=by
 obtain⟨I,Q,H,rfl,K,l⟩:=x;have u:=O l;have L:=l.1;have p:=O r;clear l r;go_enter func162,ntmps162;go_wp2;go_loopw [3,4] (λs j wr=>∃b:Nat,b<=E a/\j=M b/\s=am (D<|jZ<|be b a)/\wr=h) λ_ j _=>E a-cM (intOf j);·exact Hm
 ·(
 obtain⟨b,N,rfl,rfl,rfl⟩:=hrel;have k:=Oj (be b a) 1000 λc g=>p c<|vL g;have F:b7 (D<|jZ<|be b a)<=1001000:=by{rw[cV];grind};by_cases i:b<E a;{
 have z:(b:Int)<E a:=G;have o:=u.2 b i;have A:=p a[b]<|ei i;have e:=g8 i;let⟨c,g⟩:=bm<|a[b];rw[<-g]at o A e;have C:b7 (D c)<=1000:=fi
 by_cases q:b=0;{subst q;have d:ao (D (jZ<|be 0 a)++D c=D (jZ<|be (0+1) a)):=by{rw[ao,e];rfl};rw[h8]at o;clear e g k;generalize D (jZ<|be 0 a)=n,D c=t at*;go_wp2;exact bd (⟨0+1,G,dl,eQ am d,ax⟩) dz};{have R:0<(b:Int):=G;have d:ao (D (jZ<|be b a)++⟨#[46]⟩++D c=D (jZ<|be (b+1) a)):=by{rw[ao,e,Oi c _<|by grind];apply Gu;simp[D]};clear e g k q;generalize D (jZ<|be b a)=n,D c=t at*;go_wp2;exact bd (⟨b+1,G,dl,eQ am d,ax⟩) dz}};{
 have z:¬(b:Int)<E a:=G;have y:b=E a:=G;have d:ao (D (jZ<|be b a)=D (jZ a)):=by rw[y,jc];rfl
 clear k;generalize D (jZ<|be b a)=n at*;go_wp2;go_ret;exact⟨eQ (λc=>bh<|am c) d,dl⟩})
section
open Go.Sort
def CZ:ap:=[119,119,119,46,101,120,97,109,112,108,101,46,111,114,103]
def CT:ap:=[110,111,110,101,46,101,120,97,109,112,108,101,46,111,114,103]
def Om:ap:=[42,46,101,120,97,109,112,108,101,46,111,114,103]
def HW:ap:=[111,114,105,103,105,110,32,101,120,97,109,112,108,101,46,111,114,103,10]
def af0:aK:=([119,119,119,46,101,120,97,109,112,108,101,46,111,114,103],60,5,[119,101,98,46,101,120,97,109,112,108,101,46,111,114,103])
def yy:aK:=([119,101,98,46,101,120,97,109,112,108,101,46,111,114,103],60,1,[49,57,50,46,48,46,50,46,56,48])
def af1:aK:=([101,120,97,109,112,108,101,46,111,114,103],60,6,[110,115,46,101,120,97,109,112,108,101,46,111,114,103,32,97,100,109,105,110,46,101,120,97,109,112,108,101,46,111,114,103,32,55,32,54,48])
def af2:kl HW=af:=by unfold kl;let c:jm HW=ae (jN,[]):=b6;rw[bV];intro b;have a:=b.2;rw[jE,c]at a;cases a
def af3:gn jN j_ 1 CZ=(0,aD,[af0,yy],[]):=by rw[gn,Fx];kernel_rfl
def af4:gn jN j_ 1 CT=(3,aD,[],[af1]):=by rw[gn,Fx];kernel_rfl
def af5:kK CZ 1=aD:=b6
def af6:kK CT 1=aD:=b6
def af7:kK Om 1=ak:=b6
def On(a b:aK)(c:aQ):(binOp .eql 83 (ce #[aS a.owner,M a.aP,M a.type,aS a.data])<|ce #[aS b.owner,M b.aP,M b.type,aS b.data]).run aL c=.ok (aG<|a==b) c:=VJ.1 a b c
def Ha(h:φ:=by unfold aA;rw[Qn];rfl):φ:=h
def af8(i:aQ)(k:dx i):a_ aL 8 #[] i (cI (aG aD) i):=by
 have ax:=O λa (h:a6 i a)=>wk v6<|k.below h;have aa:=O λa (h:a6 i a)=>wk HW<|k.below h;replace k:=O k;go_enter func8,ntmps8;go_wp21;refine(ax i cc).mono λo bF ⟨aC,aI⟩=>?_;rw[ss,Fz]at aC;obtain⟨av,q,p,n,rfl,cg,cb,aJ⟩:=aC;have I:=O av;have bv:=O aJ;have H:=O aI;clear av aJ aI ax;go_wp21;refine(aa bF H).mono λo bG ⟨Q,W⟩=>?_;rw[ss,af2]at Q;have bu:o=bh (bZ #[cz af,M 1]):=Q;subst bu;have K:=O<|bC H<|bN W H.4;have aK:=O<|bv.below W;clear W Q aa;have aV:=O λa (h:a6 i a) (x:gJ a q jN p 0 n<|ck j_)=>FC q p 0 n 1 jN CZ j_ a I x (k.below h) bW;have aW:=O λa (h:a6 i a) (x:gJ a q jN p 0 n<|ck j_)=>FC q p 0 n 1 jN CT j_ a I x (k.below h) bW;have Z:=O λa (h:a6 i a) (x:gJ a q jN p 0 n<|ck j_)=>FC q p 0 n 1 jN Om j_ a I x (k.below h) bW;go_wp2_with fail;refine(aV bG K aK).mono λo c ⟨R,X⟩=>?_;unfold m8 at R;rw[af5,b8 U,af3]at R;obtain⟨cl,rfl,cn,co,cp,rfl,T,aH,aF,_,_,_⟩:=R;have aO:=T.rv;obtain⟨bc,br,rfl⟩:=T.slice;obtain⟨bB,bD,rfl⟩:=aH.slice;obtain⟨bs,bt,rfl⟩:=aF.slice;have bf:=O aO;obtain⟨j,D⟩:∃j:g7,j=aZ #[ag ai 0,aG aD,aE bc 2 br,aE bB 0 bD,aE bs (E<|kN jN j_ 1 CZ) bt] 79:=eR _ U;have ay:=O<|bC K<|bN X K.4;have bw:=O<|aK.below X;have A:a6 c (aN c j):=cf cc bo _;have Y:=O<|bC ay<|bN A ay.4;have ad:=O<|bw.below A;have aY:=O<|bf.below A;have bH:ao ((aN c j).1[J c.1]? = ae j):=cW c j;have ci:J (aN c j).1=J c.1+1:=eE c j;generalize E (kN jN j_ 1 CZ)=b_ at*;clear T aH aF aO X A aV;go_wp2_with fail;rw[<-D];refine(aW _ Y ad).mono ?_;rintro o e ⟨S,B⟩;unfold m8 at S;rw[af6,b8 U,af4]at S;obtain⟨cm,rfl,bV,b0,b1,rfl,ac,F,aM,_,_,_⟩:=S;have ah:=F.rv;obtain⟨a4,a5,rfl⟩:=ac.slice;obtain⟨a8,a9,rfl⟩:=F.slice;obtain⟨ba,bb,rfl⟩:=aM.slice;have cd:=B.4;obtain⟨g,C⟩:∃g:g7,g=aZ #[ag ai 3,aG aD,aE a4 0 a5,aE a8 1 a9,aE ba (E<|kN jN j_ 1 CT) bb] 79:=eR _ U;have L:a6 e (aN e g):=cf cc bo _;have r:=bC B<|bN L B.4;have V:=O<|bC Y<|bN r Y.4;have bj:=O<|ad.below r;have bn:=O<|aY.below r;have bm:=O<|ah.below L;have a1:ao ((aN e g).1[J c.1]? = ae j):=(r.5 (J c.1) G).trans bH;have bl:ao ((aN e g).1[J e.1]? = ae g):=cW e g;have cq:J (aN e g).1=J e.1+1:=eE e g;generalize E (kN jN j_ 1 CT)=b2 at*;clear ac F aM ah B L r aW;go_wp2_with fail;rw[<-C];refine(Z _ V bj).mono ?_;rintro o d ⟨z,y⟩;unfold m8 at z;rw[af7]at z;have a2:o=bh (bZ #[ce #[M 0,aG ak,bX,bX,bX],M 2]):=z;subst a2;have bO:=y.4;obtain⟨b,ab⟩:∃b:g7,b=aZ #[ag ai 0,aG ak,aE af 0 0,aE af 0 0,aE af 0 0] 79:=eR _ U;have aX:a6 d (aN d b):=cf cc bo _;have l:=bC y<|bN aX y.4;have a0:=O<|bC V<|bN l V.4;have bz:=bn.below l;have a3:=bm.below l;have Qn:=(l.5 (J c.1) G).trans a1;have u:=(l.5 (J e.1) G).trans bl;rw[D]at Qn;rw[C]at u;rcases bz with⟨_,P⟩|⟨w,t,bp,az,bQ,aj⟩;{cases P};rcases a3 with⟨_,P⟩|⟨aw,al,bq,aB,bU,an⟩;{cases P};obtain⟨ap,-,aq⟩:=js az;obtain⟨ar,-,au⟩:=js aB;rw[ap,aq]at Qn;rw[ar,au]at u;let⟨aP,aR,aS,aT⟩:=aj.four 1 bW;let⟨bI,aU,bK,bM⟩:=an.four 0 bW;have bR:aA (aN d b) (N (J c.1) 0)=ae (M 0):=Ha
 have bS:aA (aN d b) (N (J c.1) 1)=ae (aG aD):=Ha
 have bT:aA (aN d b) (N (J c.1) 2)=ae (bL w t 2 bp):=Ha
 have b3:aA (aN d b) (N (J e.1) 0)=ae (M 3):=by unfold aA;rw[u];rfl
 have b4:aA (aN d b) (N (J e.1) 3)=ae (bL aw al 1 bq):=by unfold aA;rw[u];rfl
 have cr:bY (aN d b) w (t+4) (am ⟨#[119,101,98,46,101,120,97,109,112,108,101,46,111,114,103]⟩):=aP;have cs:bY (aN d b) w (t+4+1) (M 60):=aR;have ct:bY (aN d b) w (t+4+2) (M 1):=aS;have cu:bY (aN d b) w (t+4+3) (am ⟨#[49,57,50,46,48,46,50,46,56,48]⟩):=aT;have cj:bY (aN d b) aw (al+1) (M 60):=aU;clear y aX l Qn u z az aB ap aq ar au aj an aP aR aS aT bI aU bK bM Z;have ca:∀a:aQ,(binOp .eql 83 (ce #[am ⟨#[119,101,98,46,101,120,97,109,112,108,101,46,111,114,103]⟩,M 60,M 1,am ⟨#[49,57,50,46,48,46,50,46,56,48]⟩])<|ce #[am ⟨#[119,101,98,46,101,120,97,109,112,108,101,46,111,114,103]⟩,M 60,M 1,am ⟨#[49,57,50,46,48,46,50,46,56,48]⟩]).run aL a=.ok (aG aD) a:=λa=>by{have:=On yy yy a;rw[show(yy==yy)=aD from b6]at this;exact this};go_upto_region 8 with fail;rw[<-ab];generalize aN d b=bP at*;clear D C ab;go_wp2;go_ret;exact bd U a0
end
def AJ{i:List bk}(h:b.ownsRow a v L e c i)(hg:∀g,bA e=ae g->f.1[g]? = b.1[g]?):f.ownsRow a v L e c i:=by exact No
def HR{d:Program}{g:Array Oper}{rest:List Oper}{a:Oper}{j:Act}{e:Exit->Act->aQ->Prop}(hgd:a.6=af)(s l:Operand)(c:TypeId)(ho:a.2=.call {callee:=.builtin .append,args:=#[s,l],argTypes:=#[c,c]})(v n i:bk)(k:aQ)(hs:j.eval s=v)(hx:j.eval l=n)(hr:(Builtin.append_ #[c,c] a.3 #[v,n]).run d b=.ok i k)(h:wpList d g e rest (j.put a.1 i) k):wpList d g e (a::rest) j b:=by exact MK
section
variable {w:World} {kb n:Nat} {uk:Value}{ks:List (Nat×Nat×Value)} (h:ee w kb n uk ks)
include h
theorem ee.lt:kb<J w.1:=(dK.1 h.1).1
theorem ee.fr{p:Nat->Prop}(e:co p w b)(i:p kb)(j:∀a,bA uk=ae a->p a)(k:∀g∈ks,∀a,bA g.2.2=ae a->p a):ee b kb n uk ks:=
 ⟨(e.5 kb h.lt i).trans h.1,AJ h.2 λa c=>e.5 a (fS h.2 a c).2<|j a c,λg d=>⟨AJ (h.3 g d).1 λa c=>e.5 a (fS (h.3 g d).1 a c).2<|k g d a c,(h.3 g d).2⟩⟩
theorem ee.below(a:a6 w b):ee b kb n uk ks:=h.fr (p:=λ_=>True) (co.zY a) cy (λ_ _=>cy) λ_ _ _ _=>cy
theorem ee.next:ee (a7 w ⟨kb,0,af⟩<|ag ai ((n+1:Nat):Int)) kb (n+1) uk ks:=by let e:co (λg=>g≠kb) w (a7 w ⟨kb,0,af⟩<|ag ai ((n+1:Nat):Int)):=co.j9 _ λg i=>i;refine⟨?_,AJ h.2 λa b=>e.5 a (fS h.2 a b).2 (by let:=(fS h.2 a b).1;omega),λd c=>⟨AJ (h.3 d c).1 λa b=>e.5 a (fS (h.3 d c).1 a b).2 (by let:=(fS (h.3 d c).1 a b).1;omega),by let:=(h.3 d c).2.1;omega,(h.3 d c).2.2⟩⟩;simp only[a7];rw[ru,b8 U,h.1];rfl
theorem ee.cells:aA w (N kb 0)=ae (M n)/\aA w (N kb 1)=ae uk/\gd w (N kb 0)=ak/\gd w (N kb 1)=ak:=by refine⟨?_,?_,?_,?_⟩<;>simp[aA,World.frozen?,h.1]
theorem ee.slice:∃a b,uk=aE a (E ks) b:=by rcases h.2.2 with⟨rfl,c⟩|⟨e,d,_,rfl,_⟩;{exact⟨af,0,by rw[c]⟩};{exact wa}
end
def afO:aL.underlying 38=ae (.slice 107):=b6
def afP:(aL.info? 107).map (λa=>(a.8,a.3,a.4))=ae (ae<|ce #[M 0,bX],2,32):=b6
def Ow:∀a:List<|Nat×Nat×bk,E (ex qB a)=E a*2
 |[]=>U
 |b::a=>by rw[kj,dj,Ow a];show 2+_=_;simp;omega
def ee.add{n:Nat}{h:bk}{r:List<|Nat×Nat×bk}(k:ee b a n h r)(j:List<|Nat×Nat×bk)(K:E j=4)(L:∀d∈j,LB b (a+1) d.2.2 (-(d.1:Int)) d.2.1/\d.1<=n/\d.2.1<=100000/\∀c,bA d.2.2=ae c->bA h≠ae c)(au:E r<=1000000000):∃q g,(Builtin.append_ #[38,38] 38 #[h,bL (J b.1) 0 4 4]).run aL (aN b<|aZ (c7<|ex qB j) 107)=.ok q g/\g.1[a]? = b.1[a]?/\ee (a7 g ⟨a,1,af⟩ q) a n q (r++j)/\co (λe=>e≠a/\ae e≠bA h) b (a7 g ⟨a,1,af⟩ q)/\(bA q=bA h\/∃t,J b.1<=t/\bA q=ae t)/\∃D F,q=aE D (E r+4) F:=by let⟨ah,aO,ab,ac,ad⟩:=im afP;obtain⟨p,I⟩:∃p:g7,p=aZ (c7<|ex qB j) 107:=eR _ U;rw[<-I];let H:a6 b (aN b p):=cf cc bo _;let aw:J (aN b p).1=J b.1+1:=eE b p;let Y:∀B u,(ex qB j)[B]? = ae u->aA (aN b p) (((N (J b.1) 0):Addr).add B)=ae u:=λB u Z=>by{rw[yl,fM];let:=cW b p;rw[aA,this,I];simpa using Z};let V:∀u∈ex qB j,u.oneCell'=aD:=λu x=>by{let⟨d,o,x⟩:=tI.1 x;simp only[qB,fw,List.not_mem_nil,n_]at x;rcases x with rfl|rfl;{rfl};{let⟨D,F,i⟩:=(L d o).1.slice;rw[i];rfl}};let aa:=k.lt;let⟨w,g,aj,C,al,an,ap⟩:=Ot (P:=aL) (aN b p) (a+1) 38 38 107 ah _ 2 32 afO aO ab ac ad U G h (E r) (ex qB r) (g6 k.2 H) (N (J b.1) 0) 4 4 (ex qB j) (by rw[Ow,K]) Y V up G G G;let O:co (λe=>ae e≠bA h) b g:=(co.zY H).trans<|co.Yg al λe A=>A;let S:co (λe=>e≠a) g (a7 g ⟨a,1,af⟩ w):=co.j9 _ λe A=>A;let M:co (λe=>e≠a/\ae e≠bA h) b (a7 g ⟨a,1,af⟩ w):=(O.mono λ_ _ k=>k.2).trans<|S.mono λ_ _ k=>k.1;let Q:g.1[a]? = b.1[a]?:=O.5 a aa (λi=>by let:=(fS k.2 a<|b5 i).1;omega);have T:bA w=bA h\/∃t,J b.1<=t/\bA w=ae t:=by{rcases ap with z|⟨z,_⟩;{exact .inl z};{exact .inr ⟨_,G,z⟩}};let X:∀d∈r++j,LB b (a+1) d.2.2 (-(d.1:Int)) d.2.1/\d.1<=n/\d.2.1<=100000/\∀c,bA d.2.2=ae c->bA h≠ae c:=λd o=>by{rcases i_.1 o with o|o;{exact k.km d o};{exact L d o}};refine⟨w,g,aj,Q,⟨?_,?_,λd o=>?_⟩,M,T,an⟩;{simp only[a7];rw[ru,b8 U,Q,k.1];rfl};{rw[dj,K,o3];exact AJ C λc l=>S.5 c (fS C c l).2 (by let:=(fS C c l).1;omega)};{let⟨y,aq,ar,R⟩:=X d o;refine⟨AJ y λc l=>M.5 c (fS y c l).2 ⟨by let:=(fS y c l).1;omega,λi=>R c l<|b5 i⟩,aq,ar,λc l=>?_⟩;rcases T with i|⟨t,av,i⟩;{rw[i];exact R c l};{rw[i];intro W;let:=(fS y c l).2;let:t=c:=gm W;omega}}
def afQ(c e R:Nat)(b:List aK)(g:aQ)(a4:E b<=R)(V:tm g c e b)(a5:E b<=60000)(S:∀d∈b,E d.owner<=900):a_ aL 98 #[bL c e (E b) R] g λj i=>(∃v,j=bh v/\i.ownsRow (J g.1) 83 4 v (E b) (gz b))/\a6 g i:=by
 let⟨aU,aY,aP,aR,aT⟩:=im vY;have C:=O V;have ar:=O S;clear V S;go_enter func98,ntmps98;go_wp2
 go_loopw [3,4] (λY A wr=>∃a:Nat,a<=E b/\A=M a/\(∃ah aX an,Y=aE ah aX an)/\wr.ownsRow (J g.1) 83 4 Y a (gz<|be a b)/\a6 g wr) λ_ A _=>E b-cM (intOf A)
 ·exact⟨0,G,U,⟨_,_,_,U⟩,bd U<|bJ (bd U U),cU _ _⟩
 ·obtain⟨a,aO,rfl,⟨F,I,H,rfl⟩,t,o⟩:=hrel;have y:=O t;have n:=O o;by_cases r:a<E b
  ·have aV:(a:Int)<E b:=G;let⟨q,lr,z,K,L,P,ap,Q,aq⟩:=(C a r).below o;have W:=ar b[a]<|ei r;have aa:=g_ _ _ z;have ab:ao (∀l,a6 wr l->a_ aL 162 #[q] l λj i=>j=bh (am<|D b[a].owner)/\i=l):=λl aF=>by
    have:=afW q _ l (Q.below aF) (nD W) λa1 aM=>cd<|n6 46 b[a].owner.length b[a].owner bo a1 aM;rw[Cs]at this;exact this
   have aj:ao (gz (be (a+1) b)=gz (be a b)++b[a].bz):=by
    rw[ao,g8 r,VK]
   have aw:=o.4;have a3:c<J g.1:=by
    let⟨_,_,aC,_⟩:=C a r;exact g_ g _ aC
   have a0:ae c≠bA (aE F I H):=λj=>cd<|(fS t c<|b5 j).1
   clear ap Q aq t o W;generalize b[a]=d at*;go_upto_region 5 with fail;let T:aA (bx wr) (N c<|e+a*5)=ae q/\aA (bx wr) (N c<|e+a*5+1)=ae (M d.aP)/\aA (bx wr) (N c<|e+a*5+2)=ae (M d.type)/\aA (bx wr) (N c<|e+a*5+3)=ae (aS d.data):=⟨z,K,L,P⟩
   let ac:ao (∀(h:aQ) (x:g7),(aN (bx wr) x).grownBy h (bA<|aE F I H)->aA h (N c<|e+a*5)=ae q/\aA h (N c<|e+a*5+1)=ae (M d.aP)/\aA h (N c<|e+a*5+2)=ae (M d.type)/\aA h (N c<|e+a*5+3)=ae (aS d.data)):=λh x aI=>by
    let w:∀u,aA h (N c u)=aA wr (N c u):=λu=>(aI.cell_far (N c u) (by show c<J (aN wr x).1;rw[eE];omega) a0).trans<|dR<|dv (bx wr) x c aa;rw[w,w,w,w];exact⟨z,K,L,P⟩
   let aW:=O<|ab (bx wr) cc.drew
   go_region_held_law (λi=>aA i (N c<|e+a*5)=ae q/\aA i (N c<|e+a*5+1)=ae (M d.aP)/\aA i (N c<|e+a*5+2)=ae (M d.type)/\aA i (N c<|e+a*5+3)=ae (aS d.data)) (first|assumption|go_keep)
    (first
    |(go_at_call 162;go_loud (refine aW.m ?_;rintro a9 rfl))
    |(refine step_append_lies _ dl (.tmp 11) (.tmp 34) 77 dl g.heap.size 83 aU _ 4 48 ym aY aP aR aT rfl bW _ a (gz<|b.take a) dl (g6 y<|cc.drew.alloc bo _) (N wr.heap.size 0) 1 1 [aS d.owner,M d.aP,M d.type,aS d.data] dl rfl (λa2 Z aJ=>World.news_of_block (cW (bx wr) _) a2 Z aJ) (by intro Z X;simp at X;rcases X with rfl|rfl|rfl|rfl<;>rfl) bW lN G ct (J wr.1+1) ax ?_;intro az au h B k aH a8;have aB:=ac h _ k))
   all_goals
    have ay:ao (h.ownsRow (J g.1) 83 4 (aE (ae<|N az 0) (a+1) au) (a+1)<|gz<|be (a+1) b):=by
     rw[ao,aj];exact B
    have av:ao (a6 g h):=⟨cQ k.1 n.1,cQ k.2 n.2,cQ k.3 n.3,cJ (cJ aw (by show _<=J (aN wr _).1;rw[eE];omega)) k.4,λp T=>(k.5 p (by show p<J (aN wr _).1;rw[eE];omega) λj=>cd<|(fS y p<|b5 j).1).trans<|(dv wr _ p G).trans<|n.5 p T⟩
    clear B k aH aB;go_wp2;exact bd (⟨a+1,G,dd,⟨_,_,_,U⟩,ay,av⟩) dz
  ·let aV:¬(a:Int)<E b:=G;have ad:a=E b:=G;subst ad;let al:ao (gz (be (E b) b)=gz b):=by rw[ao,jc]
   clear t o;go_wp2;go_ret;exact bd (⟨_,U,al▸y⟩) n
def afR(a:aQ):a_ aL 98 #[bX] a λb e=>b=bh (bX)/\e=a:=by
 go_enter func98,ntmps98;go_wp2;go_loopw [3,4] (λd c wr=>d=bX/\c=M 0/\wr=a) λ_ _ _=>0;·exact⟨U,U,U⟩
 ·(obtain⟨rfl,rfl,rfl⟩:=hrel;go_wp2;go_ret;exact bd U U)
def Oe(g n:Nat)(h i:bk)(l:List<|Nat×Nat×bk)(e j:aQ):Prop:=
 ∃b c,ee j g (n+1) b (l++c)/\E c=4/\(∀k∈c,bA k.2.2=bA i\/∃a,J e.1<=a/\bA k.2.2=ae a)/\(bA b=bA h\/∃a,J e.1<=a/\bA b=ae a)/\co (λd=>d≠g/\ae d≠bA h/\ae d≠bA i) e j
def Fc(h:φ:=by unfold aA;rw[hx];rfl):φ:=h
def EZ(h:φ:=by unfold aA;rw[aVs];rfl):φ:=h
def Fk(h:φ:=by unfold aA;rw[aVk];rfl):φ:=h
def ET(h:φ:=by unfold aA;rw[aVj];rfl):φ:=h
def MW(h:φ:=by
 go_simp;refine hK.out _ _ (e0 _) λhS=>?_;clear hK K;try simp only[Act.put,kB,iR,iy]
 refine lw (rs:=[30]) b6 ax (jv U (λK hK=>?_) kU);rw[b8 dl];refine GQ (.tmp 82) (.tmp 107) dl dl dl (V R13) ?_;refine hK.out _ _ aV5 λhS=>?_;clear hK K;try simp only[Act.put,kB,iR,iy]
 refine fT 31 hS ?_;refine fT 32 hS ?_;refine lw (rs:=[33]) b6 ax (jv U (λK hK=>?_) kU);go_simp;refine hK.out _ _ aWP λhS=>?_;clear hK K;refine su b6 ?_ _;go_wp2;go_ret;exact bd U jD):φ:=h
def afS(a X:Nat)(x aH aI:bk)(u:List<|Nat×Nat×bk)(rs:List aK)(k:aQ)(l:ee k a X x u)(bf:dH k (a+1) aH rs)(cj:∀b,bA aH=ae b->bA x≠ae b/\∀z∈u,bA z.2.2≠ae b)(bj:(aI=bX/\rs=[])\/∃aq ay aa,aI=bL aq ay (E rs) aa/\E rs<=aa/\tm k aq ay rs) (ck:∀p∈rs,E p.owner<=900) (d9:E rs<=50000) (d7:X<=1000000000) (c1:E u<=1000000000):a_ aL 43 #[bv a,aH,aI] k λd P=>d=bh (aG aD)/\Oe a X x aH u k P:=by
 have b1:ao (a_ aL 98 #[aI] k λd P=>(∃v,d=bh v/\dH P (J k.1) v rs)/\a6 k P):=by{rcases bj with⟨rfl,rfl⟩|⟨aq,ay,aa,rfl,ca,ah⟩;{refine(afR k).mono ?_;rintro d P ⟨rfl,rfl⟩;exact⟨⟨_,rfl,ih _ _ _ 4⟩,cU _ _⟩};{exact afQ aq ay aa rs k ca ah G ck}};obtain⟨i,j,cx⟩:=bf.slice;subst cx;have bs:=O l;have a2:=O bf;have bq:=O cj;have d5:=l.lt;clear l bf cj bj ck;go_enter func43,ntmps43;go_wp2_with fail;refine eb b1 ?_;rintro d dk ⟨⟨eh,rfl,ba⟩,bc⟩;obtain⟨ec,ed,cK⟩:=ba.slice;subst cK;have b2:=O ba;have aY:=O bc;have da:=bc.4;clear b1 ba bc;go_wp2_with fail;go_loopw [8,9] (λdi bl wr=>di=aG aD/\∃g:Nat,g<=E rs/\bl=M g/\a6 dk wr) λ_ bl _=>E rs-cM (intOf bl);case atStart=>exact⟨ax,0,dJ _,U,cU _ _⟩
 case round=>(
 obtain⟨rfl,g,aO,rfl,C⟩:=hrel;have aS:=O C;by_cases hlt:g<E rs;{have aw:(g:Int)<(E rs:Int):=G;have c9:=((a2.below aY).below<|bN aS bo).rv;have c_:=(b2.below C).rv;rcases c9 with⟨_,h0⟩|⟨dU,ef,dW,a5,dZ,bz⟩;{exact AB};rcases c_ with⟨_,h0⟩|⟨dV,eg,dX,b3,d0,bB⟩;{exact AB};obtain⟨c6,-,cV⟩:=js a5;obtain⟨cL,-,cN⟩:=js b3;obtain⟨dm,dn,dp,dq⟩:=bz.four g hlt;obtain⟨dr,ds,dt,du⟩:=bB.four g hlt;have d1:∀al:aQ,(binOp .eql 83 (ce #[am<|D rs[g].owner,M rs[g].aP,M rs[g].type,am<|D rs[g].data])<|ce #[am<|D rs[g].owner,M rs[g].aP,M rs[g].type,am<|D rs[g].data]).run aL al=.ok (aG aD) al:=λal=>by{have:=On rs[g] rs[g] al;rw[show(rs[g]==rs[g])=aD by simp]at this;exact this};generalize rs[g]=p at*;subst c6 cV cL cN;clear a5 b3 bz bB C;go_upto_region 6 with fail;go_region;all_goals(go_wp2;exact bd (⟨U,g+1,G,dd,aS.drew⟩) dz)};{
 have aw:¬(g:Int)<(E rs:Int):=G;have aF:=bC aY<|bN C da;have cZ:=C.4;have a9:=bs.below aF;obtain⟨de,df,cH,cI⟩:=a9.cells;have aM:=O a9;have br:=O<|a2.below aF;have b0:=O aF;clear C aF a9 b2 aS aY bs a2;go_upto_region 9 with fail;obtain⟨e,bb⟩:=bm<|X+1;have bD:(X:Int)+1=(e:Int):=G;obtain⟨bt,aP⟩:∃cD:g7,cD=aZ #[am ⟨#[]⟩,ag ai<|-(e:Int),ag ai 0,am ⟨#[]⟩] 83:=eR _ U;obtain⟨A,hW3⟩:=bm<|aN (a7 wr ⟨a,0,af⟩<|ag ai (e:Int)) bt;obtain⟨c,I⟩:=bm<|J wr.1;rw[bD,<-aP,<-hW3,<-I];have aT:J (a7 wr ⟨a,0,af⟩<|ag ai (e:Int)).1=J wr.1:=mo
 have ar:cv (J (a7 wr ⟨a,0,af⟩<|ag ai (e:Int)).1) (a7 wr ⟨a,0,af⟩<|ag ai (e:Int)) A:=G2
 have cg:ee A a e x u:=by{have:=aM.next;rw[<-bb]at this;exact this.below ar};have ci:A.ownsRow (a+1) 83 4 (aE i (E rs) j) (E rs) (gz rs):=(br.ri (Nat.lt_succ_self a) _).below ar;have cl:A.1[c]? = ae bt:=by rw[hW3,I,<-aT];exact cW _ _
 have cb:co (λt=>t≠a) k A:=((co.zY<|V b0).trans<|co.j9 _ λt w=>w).trans<|co.zY ar;have cd:∀b,bA (aE i (E rs) j)=ae b->a+1<=b/\b<c:=λb r=>by rw[I];exact fS (V br) b r
 have eq:J A.1=c+1:=by rw[hW3,I,eE,aT]
 have ea:J k.1<=c:=by rw[I];omega
 have bu:=O cg;have cA:=O ci;have bF:=O cl;have dc:=O cb;have aR:=O cd;have cX:=aM;have cY:=O bb;have cP:=O I;clear bD bb aT ar cg ci cl cb cd de df cH cI I hW3 aM br b0 cZ hlt aw aO;go_wp2_with fail;go_loopw [11] (λaV cw=>∃h:Nat,h<=E rs/\aV=M h/\cw.ownsRow (a+1) 83 4 (aE i (E rs) j) (E rs) (jf (-(e:Int)) h++gz (bi h rs))/\co (λt=>ae t≠bA (aE i (E rs) j)) A cw) λaV _=>E rs-cM (intOf aV);case atStart=>exact⟨0,dJ _,U,cA,co.refl _ _⟩
 case round=>(
 obtain⟨h,d4,rfl,H,B⟩:=hrel;have cB:=O H;have cR:=O B;by_cases hlt:h<E rs;{
 have aw:(h:Int)<(E rs:Int):=G;have d6:=H.1;rcases H.2 with⟨_,h0⟩|⟨b,aa,dY,y,C,bY,ca,bj,d_,dg⟩;{omega};obtain⟨dh,-,db⟩:=js y;subst dh db;have b_:=λp ah=>lG H p ah;have d3:=(aR b U).2;have dT:¬b=c:=G;have dy:¬c=b:=G;have hx:=(B.5 c G (λd=>by have:c=b:=gm d;omega)).trans<|V bF;rw[aP]at hx;have dm:aA wr (N c 0)=ae (am ⟨#[]⟩):=Fc
 have dn:aA wr (N c 1)=ae (M<|-(e:Int)):=Fc
 have dp:aA wr (N c 2)=ae (M 0):=Fc
 have dq:aA wr (N c 3)=ae (am ⟨#[]⟩):=Fc
 have ac:∀p,p<E rs*4->∃dj,aA wr (N b p)=ae dj:=λp ah=>by{rw[b_ p ah];exact eR _<|fs G};obtain⟨u0,dr⟩:=ac (h*4) G;obtain⟨u1,ds⟩:=ac (h*4+1) G;obtain⟨u2,dt⟩:=ac (h*4+2) G;obtain⟨u3,du⟩:=ac (h*4+3) G;have d2:∀p,gd wr (N b p)=ak:=λp=>by simp[World.frozen?,bY]
 have cC:=O<|afN U hlt H;clear b_ ac bY dg hx H B y;go_wp2;exact⟨⟨h+1,G,dd,cC,(((cR.trans<|co.j9 _ λt w d=>w (by rw[d];rfl)).trans<|co.j9 _ λt w d=>w (by rw[d];rfl)).trans<|co.j9 _ λt w d=>w (by rw[d];rfl)).trans<|co.j9 _ λt w d=>w (by rw[d];rfl)⟩,dz⟩};{
 have aw:¬(h:Int)<(E rs:Int):=G;have cJ:h=E rs:=G;subst cJ;go_upto_region 13 with fail;have Y:LB wr (a+1) (aE i (E rs) j) (-(e:Int)) (E rs):=by{have:=V cB;rw[tl,show gz ([]:List aK)=[]from U,kW]at this;exact this};have dx:=B.4;obtain⟨ei,aJ,cs,cp,au,⟨aW,aX,c2⟩,bU,az⟩:=HQ Y 1 G G G;have dQ:=au.4;obtain⟨ej,aj,ct,cq,av,⟨a0,a1,c3⟩,bV,aB⟩:=HQ (az _ _ G Y) 2 G G G;have dA:=av.4;obtain⟨ek,n,cu,cr,a8,⟨a3,a4,c4⟩,bW,aC⟩:=HQ (aB _ _ G<|az _ _ G Y) 3 G G G;subst c2 c3 c4;have dB:=a8.4;have bG:=aC _ _ G<|aB _ _ G<|az _ _ G Y;have bH:=aC _ _ G<|aB _ _ G cp;have bI:=aC _ _ G cq;have ap:ae c≠bA (aE i (E rs) j):=λd=>by have:=(aR c<|b5 d).2;omega
 have aVj:=(B.5 c G ap).trans<|V bF;have aVk:=(au.5 c G ap).trans aVj;have aVs:=(av.5 c G ap).trans aVk;have aU:=((B.trans au).trans av).trans a8;have Z:ee n a e x u:=bu.fr aU (λd=>by have:=(aR a<|b5 d).1;omega) (λb r d=>(bq b<|b5 d).1 r) λz hx b r d=>(bq b<|b5 d).2 z hx r;have F:a6 n (bx n):=cc.drew;have cy:J (bx n).1=J n.1:=U;have bw:=(fS bu.2);have b4:=((dc.mono (q:=λt=>t≠a/\ae t≠bA (aE i (E rs) j)) λ_ _ l=>l.1).trans (aU.mono λ_ _ l=>l.2)).trans (co.zY F);have bT:∀b,bA x=ae b->b<c:=λb r=>by{have T:=(bw b r).2;have o:b≠c:=λd=>by{have c8:=cX.2;have:=(fS c8 b r).2;have:=V cP;omega};omega};have ad:∀(v:bk),(bA v=bA (aE i (E rs) j)\/∃q,J wr.1<=q/\bA v=ae q)->∀b,bA v=ae b->bA x≠ae b:=λv y b r d=>by{rcases y with y|⟨q,d8,y⟩;{exact(bq b (by rw[<-y];exact r)).1 d};{have:=bT b d;have:q=b:=gm<|(b5 y).trans r;omega}};have bn:bA (aE aW (E rs+1) aX)=bA (aE i (E rs) j)\/∃q,J wr.1<=q/\bA (aE aW (E rs+1) aX)=ae q:=bU;have px:bA (aE a0 (E rs+2) a1)=bA (aE i (E rs) j)\/∃q,J wr.1<=q/\bA (aE a0 (E rs+2) a1)=ae q:=bV.imp id λ⟨q,T,o⟩=>⟨q,G,o⟩;have l5:bA (aE a3 (E rs+3) a4)=bA (aE i (E rs) j)\/∃q,J wr.1<=q/\bA (aE a3 (E rs+3) a4)=ae q:=bW.imp id λ⟨q,T,o⟩=>⟨q,G,o⟩;obtain⟨ab,W⟩:∃ab:List<|Nat×Nat×bk,ab=[(e,E rs,aE i (E rs) j),(e,E rs+1,aE aW (E rs+1) aX),(e,E rs+2,aE a0 (E rs+2) a1),(e,E rs+3,aE a3 (E rs+3) a4)]:=eR _ U;obtain⟨dw,Q,bp,an,bK,bM,bO,bP,bQ,cT⟩:=(Z.below F).add ab (by rw[W];rfl) (λz hx=>by{rw[W]at hx;simp only[fw,List.not_mem_nil,n_]at hx;rcases hx with rfl|rfl|rfl|rfl;{exact⟨g6 bG F,cO _,by show rs.length<=100000;omega,ad _<|bJ U⟩};{exact⟨g6 bH F,cO _,by show E rs+1<=100000;omega,ad _ bn⟩};{exact⟨g6 bI F,cO _,by show E rs+2<=100000;omega,ad _ px⟩};{exact⟨g6 cr F,cO _,by show E rs+3<=100000;omega,ad _ l5⟩}}) c1;subst cT;have bR:∀z∈ab,bA z.2.2=bA (aE i (E rs) j)\/∃q,J k.1<=q/\bA z.2.2=ae q:=λz hx=>by{rw[W]at hx;simp only[fw,List.not_mem_nil,n_]at hx;rcases hx with rfl|rfl|rfl|rfl;{exact .inl rfl};{exact bn.imp id λ⟨q,T,o⟩=>⟨q,G,o⟩};{exact px.imp id λ⟨q,T,o⟩=>⟨q,G,o⟩};{exact l5.imp id λ⟨q,T,o⟩=>⟨q,G,o⟩}};have jD:ao (Oe a X x (aE i (E rs) j) u k<|a7 Q ⟨a,1,af⟩<|aE bP (E u+4) bQ):=by{refine⟨_,ab,V cY▸bK,by rw[W];rfl,bR,bO.imp id λ⟨q,T,o⟩=>⟨q,G,o⟩,?_⟩;exact(b4.mono λ_ _ l=>bd l.1 l.2.2).trans<|bM.mono λ_ _ l=>bd l.1 l.2.1};have R:=Z.cells;obtain⟨cm,cn,c5⟩:=Z.slice;have aV5:aA Q (N a 0)=ae (M e):=by unfold aA;rw[an];exact R.1
 have dD:aA Q (N a 1)=ae x:=by unfold aA;rw[an];exact R.2.1
 have dE:gd Q (N a 1)=ak:=by unfold World.frozen?;rw[an];exact R.2.2.2
 rw[W]at bp;subst c5;have cE:=O cs;have cF:=O ct;have cG:=O cu;have R13:=O bp;rw[aP]at aVj aVk aVs;have el:aA wr (N c 0)=ae (am ⟨#[]⟩):=ET
 have em:aA wr (N c 1)=ae (M<|-(e:Int)):=ET
 have dF:aA wr (N c 2)=ae (M 0):=ET
 have en:aA wr (N c 3)=ae (am ⟨#[]⟩):=ET
 have eo:aA aJ (N c 0)=ae (am ⟨#[]⟩):=Fk
 have dG:aA aJ (N c 1)=ae (M<|-(e:Int)):=Fk
 have dI:aA aJ (N c 2)=ae (M 0):=Fk
 have dK:aA aJ (N c 3)=ae (am ⟨#[]⟩):=Fk
 have dL:aA aj (N c 0)=ae (am ⟨#[]⟩):=EZ
 have dM:aA aj (N c 1)=ae (M<|-(e:Int)):=EZ
 have ep:aA aj (N c 2)=ae (M 0):=EZ
 have dN:aA aj (N c 3)=ae (am ⟨#[]⟩):=EZ
 have cS:aA (bx n) (N a 0)=ae (M e):=R.1;have c0:aA (bx n) (N a 1)=ae (aE cm (E u) cn):=R.2.1;have bS:=Z.lt;have e0:∀L,aA (aN (bx n) L) (N a 0)=ae (M e):=λL=>(dR<|dv (bx n) L a bS).trans cS;have a5:∀L,aA (aN (bx n) L) (N a 1)=ae (aE cm (E u) cn):=λL=>(dR<|dv (bx n) L a bS).trans c0;have aWP:aA (a7 Q ⟨a,1,af⟩<|aE bP (E u+4) bQ) (N a 0)=ae (M e):=(zM Q (N a 1) (N a 0) _ ax).trans aV5;clear cs ct cu bp cp cq cr au av a8 bU bV bW bn px l5 az aB aC aVj aVk aVs bG bH bI Y Z bK bM b4 aU bO bR W ad bT bw F R ap H B an;go_upto_region 16 with(at_builtin;first|(refine HR rfl (.tmp 63) (.tmp 65) 77 rfl _ _ _ _ rfl rfl (V cE) ?_)|(refine HR rfl (.tmp 67) (.tmp 70) 77 rfl _ _ _ _ rfl rfl (V cF) ?_)|(refine HR rfl (.tmp 72) (.tmp 76) 77 rfl _ _ _ _ rfl rfl (V cG) ?_));refine Gw (S:=λP:aQ=>aA P (N a 0)=ae (M e)) b6 cS λhS=>?_;have dO:¬a=J (bx n).1:=G;clear cy;generalize bx n=dP at*;refine fT 0 hS ?_;refine fT 1 hS ?_;refine fT 2 hS ?_;refine fT 3 hS ?_;refine fT 5 hS ?_;refine fT 6 hS ?_;refine fT 7 hS ?_;refine fT 8 hS ?_;refine fT 9 hS ?_;refine fT 10 hS ?_;refine fT 11 hS ?_;refine fT 12 hS ?_;refine fT 13 hS ?_;refine fT 14 hS ?_;refine fT 15 hS ?_;refine fT 16 hS ?_;refine fT 17 hS ?_;refine fT 18 hS ?_;refine fT 19 hS ?_;refine fT 20 hS ?_;refine fT 21 hS ?_;refine fT 22 hS ?_;refine fT 23 hS ?_;refine fT 24 hS ?_;refine fT 25 hS ?_;refine fT 26 hS ?_;refine fT 27 hS ?_;refine fT 28 hS ?_;refine lw (rs:=[4,29]) b6 ax (jv U (λK hK=>?_)<|jv U (λK hK=>?_) kU);{
 go_simp;refine hK.out _ _ cS λhS=>?_;clear hK K;try simp only[Act.put,kB,iR,iy]
 refine lw (rs:=[29]) b6 ax (jv U (λK hK=>?_) kU);exact MW};{
 go_simp;refine hK.out _ _ (e0 _) λhS=>?_;clear hK K;try simp only[Act.put,kB,iR,iy]
 refine lw (rs:=[4]) b6 ax (jv U (λK hK=>?_) kU);exact MW}})})
def py(c:ap)(d:List aK)(a:ap)(b:Int):Int×Bool×List aK×List aK:=if kK a b then gn c d b a else(0,ak,[],[])
def yz(c:ap)(d:List aK)(a:ap)(b:Int):List aK:=if kK a b then kN c d b a else []
def CV(a:ap)(b:Int):Int:=if kK a b then 0 else 2
def wm(a:List aK):Prop:=(∀b∈a,E b.owner<=900)/\E a<=50000/\∀b∈a,(80:UInt8)∉b.owner
structure FE(z s0 D kb n:Nat)(qH:Nat->Prop)(W:World)(uk:Value)(ks:List (Nat×Nat×Value)):Prop where
 ki:ee W kb n uk ks
 hk:∀g,uk.ownBlock=some g->g<s0\/D<=g
 hx:∀x∈ks,∀g,x.2.2.ownBlock=some g->g<s0\/D<=g\/qH g
 sz:D<=W.heap.size
 lo:z<=kb/\kb<s0
def Of(i j:List aK):∀(b:List aK),∀s∈(jX i j b).2,s∈i:=by
 intro b;obtain⟨d,g⟩:∃d,E b=d:=eR _ U;induction d generalizing b with
 |zero=>obtain rfl:b=[]:=hq g;intro s a;cases a
 |succ d h=>{
 rcases pf b with rfl|⟨c,k,rfl⟩;{simp at g};{
 rw[pe]at*;let e:E c=d:=by simp at g;exact g
 intro s a;rw[Ar]at a;unfold nX at a;split at a;{split at a;{exact h c e s a};{simp only at a;split at a;{exact h c e s a};{rcases i_.1 a with a|a;{exact h c e s a};{exact(ig.1 a).1}}}};{exact h c e s a}}}
def afT(h:hW d i)(c:ap)(e:Int):wm (py d i c e).2.2.1/\wm (py d i c e).2.2.2/\wm (yz d i c e):=by
 let g:wm []:=⟨(λa b=>(by cases b)),dJ _,(λa b=>(by cases b))⟩;unfold py yz;cases o:kK c e with
 |false=>exact⟨g,g,g⟩
 |true=>{
 rw[b8 U,b8 U];let q:eL c=aD:=by simp only[kK,e9]at o;exact o.1.1
 let⟨p,C⟩:=hC q;let⟨l,n,w,x⟩:=vU h e 9 aD ak [] c p G (λa b=>by cases b) ax;let u:jd d (ck i) e 9 aD ak [] c=gn d i e c:=U;let A:=Ae q;obtain⟨r,t,-⟩:=GL (T:=c) h e 9 aD ak [] c p G (bJ U) (λa b=>by cases b);rw[u]at l n w x r t;let k:∀a,lk c a->(80:UInt8)∉a.owner:=λa b=>by{rcases b.1 with j|j;{rw[j];exact A.p};{exact j.p}};refine⟨⟨λa b=>by let:=(l a b).2;omega,G,λa b=>k a<|r a b⟩,⟨λa b=>by let:=(n a b).2;omega,G,λa b=>k a (t a b).1⟩,λa b=>?_,?_,λa b=>CP (h.2 a<|Of i _ _ a b).1⟩;{let:=Of i _ _ a b;let:=(ul (h.2 a this).1).2;omega};{
 let B:=(N2 i (gn d i e c).2.2.1<|(gn d i e c).2.2.1++(gn d i e c).2.2.2).2;let y:=vT h;let z:E ((gn d i e c).2.2.1++(gn d i e c).2.2.2)<=128:=by rw[dj];omega
 let:=Nat.mul_le_mul z y;show((jX i (gn d i e c).2.2.1<|(gn d i e c).2.2.1++(gn d i e c).2.2.2).2).length<=50000;omega}}
def Nz(h:φ:=by rw[hb,b8 U]at h;obtain⟨v,rfl,va,vb,vd,rfl,h1⟩:=h;exact⟨va,vb,vd,U,h1⟩):φ:=h
def afU{e:Ending}(h:m8 d i o j b a e):∃va vb vd,e=bh (bZ #[ce #[M (py d i o j).1,aG (py d i o j).2.1,va,vb,vd],M<|CV o j])/\dH b a va (py d i o j).2.2.1/\dH b a vb (py d i o j).2.2.2/\dH b a vd (yz d i o j)/\nE va vb/\nE va vd/\nE vb vd:=by
 unfold m8 at h;unfold py yz CV;cases hb:kK o j with
 |false=>{rw[hb]at h;exact⟨_,_,_,h,ih _ _ _ 4,ih _ _ _ 4,ih _ _ _ 4,rq _,rq _,rq _⟩}
 |true=>{exact Nz}
def afV{a:Ending}(h:AI A d i o j b g a):∃va vb vd,a=bh (bZ #[ce #[M (py d i o j).1,aG (py d i o j).2.1,va,vb,vd],M<|CV o j])/\ek A b g va (py d i o j).2.2.1/\ek A b g vb (py d i o j).2.2.2/\ek A b g vd (yz d i o j):=by
 unfold AI at h;unfold py yz CV;cases hb:kK o j with
 |false=>{rw[hb]at h;exact⟨_,_,_,h,ek.nil _ _ _,ek.nil _ _ _,ek.nil _ _ _⟩}
 |true=>{exact Nz}
def FE.list{D:Nat}{n:List<|Nat×Nat×bk}(h:FE D a c g v A b e n)(F:dH b (g+1) k i)(U:∀q,bA k=ae q->a<=q/\q<c/\¬A q)(V:ek Y b L C i)(z:wm i)(W:v<=1000000000)(R:E n<=1000000000):a_ aL 43 #[bv g,k,C] b λr x=>r=bh (aG aD)/\∃w K,FE D a c g (v+1) (λq=>A q\/bA k=ae q) x w K/\E K=E n+4/\co (λl=>l<D\/(a<=l/\l<c/\ae l≠bA k)) b x:=by refine(afS g v e k C n i b h.1 F (λq O=>?_) ?_ z.1 z.2.1 W R).mono ?_;{let⟨p,T,y⟩:=U q O;refine⟨λr=>?_,λu aa r=>?_⟩;{let:=h.2 q r;omega};{rcases h.3 u aa q r with d|d|d;{omega};{omega};{exact y d}}};{rcases V.recs z.2.2 with p|⟨q,Q,p,T,y,d⟩;{exact .inl p};{exact .inr ⟨q,0,Q,p,y,d⟩}};{rintro r x ⟨rfl,w,S,P,Z,j,o,I⟩;refine⟨rfl,w,n++S,⟨P,λq r=>?_,λu aa q r=>?_,cJ h.4 I.4,h.5⟩,by rw[dj,Z],I.mono λl ab H=>?_⟩;{rcases o with o|⟨B,X,o⟩;{exact h.hk q<|o▸r};{let:B=q:=gm<|(b5 o).trans r;let:=h.4;exact bE G}};{rcases i_.1 aa with aa|aa;{rcases h.hx u aa q r with d|d|d;{exact .inl d};{exact .inr<|.inl d};{exact .inr<|.inr<|.inl d}};{rcases j u aa with j|⟨B,X,j⟩;{exact .inr<|.inr<|.inr<|j▸r};{let:B=q:=gm<|(b5 j).trans r;let:=h.4;exact bE<|bJ G}}};{let ac:=h.5;let N:=λr=>(fS h.1.2 l r).1;let M:=λr=>(fS F l r).1;rcases H with H|⟨ad,ah,jr⟩;{exact⟨G,λr=>by let:=N<|b5 r;omega,λr=>by let:=M<|b5 r;omega⟩};{exact⟨G,λr=>by let:=h.2 l<|b5 r;omega,jr⟩}}}
def Og(h:aQ)(d g:Nat)(e:List<|Nat×Nat×bk)(b:aQ):Prop:=
 ∃c a,ee b d (g+3) c a/\E a=E e+12/\a6 h b
def afG(b:Int)(a:aQ):a_ aL 24 #[M b] a λc d=>c=bh (M b)/\d=a:=by go_enter func24,ntmps24;go_wp2;go_ret;exact oa
def HU(d:ek (λn=>a<=n/\(n<g\/v<=n)) b g e i)(q:co (λn=>n<a\/c<=n/\n<v/\ae n≠bA k) b f)(w:c<=g)(l:∀p,bA k=ae p->p<g)(r:∀p,bA e=ae p->p<v):ek (λn=>a<=n/\(n<g\/v<=n)) f g e i:=by refine d.fr q (λn h x _=>?_) λn h=>?_;{by_cases t:n<a;{exact bJ t};{exact bE ⟨G,G,λj=>by let:=l n<|b5 j;omega⟩}};{let u:=(d.lt n h).1;exact bE ⟨G,r n h,λj=>by let:=l n<|b5 j;omega⟩}
def HV(h:dH b (v+1) e i)(q:co (λj=>j<a\/c<=j/\j<g/\ae j≠bA k) b f)(l:∀n,bA e=ae n->c<=n/\n<g)(p:nE k e):dH f (v+1) e i:=
 h.kept λn d=>q.5 n (fS h n d).2<|bE ⟨(l n d).1,(l n d).2,λo=>p n (b5 o) d⟩
def AK{i:g7}(h:b.1[a]? = ae i)(p:co (λd=>d<g\/v<=d/\d<c/\ae d≠bA k) b f)(n:v<=a)(o:a<c)(q:∀e,bA k=ae e->e<a):f.1[a]? = ae i:=
 (p.5 a (dK.1 h).1<|bE ⟨n,o,λl=>by have:=q a<|b5 l;omega⟩).trans h
def CF(h:φ:=by unfold aA;rw[q2];rfl):φ:=h
def CK(h:φ:=by unfold aA;rw[q1];rfl):φ:=h
def afH(r n nG cK c1 cS bT:Nat)(L k:ap)(P:List aK)(t:Int)(bQ:bk)(Y:List<|Nat×Nat×bk)(e j:aQ)(aM:hW L P)(cR:gJ e nG L cK c1 cS<|ck P)(X:lu e bT L P)(cV:dx e)(bB:ee j r n bQ Y)(aT:a6 e j)(dH:J e.1<=r)(cX:E k<=2000000)(d5:n<=900000000)(d0:E Y<=900000000):a_ aL 11 #[bv r,bv nG,bv bT,ce #[aS k,M t]] j λbs dQ=>bs=bh (aG aD)/\Og e r n Y dQ:=by
 have cw:=bB.lt;have cx:=aT.4;obtain⟨cI,ah⟩:∃ad:g7,ad=aZ #[am<|D k,ag ai t] 43:=eR _ U;have⟨R,ac⟩:=bm<|aN j cI;have a2:a6 j R:=ac▸cf cc bo _
 have al:J R.1=J j.1+1:=ac▸eE j _
 have aB:R.1[J j.1]? = ae cI:=ac▸cW j _
 have aC:a6 e R:=bC aT<|bN a2 cx;have c_:=O<|FC nG cK c1 cS t L k P R aM (cR.below aC) (cV.below aC) cX;have b2:=O X;have ay:=O bB;have dP:=O aT;have c3:=O a2;have cy:=O aC;have cg:=O aB;have cL:=O aM;have az:=O<|afT aM k t;have a8:aA R (N (J j.1) 0)=ae (aS k):=by unfold aA;rw[aB,ah];rfl
 have a9:aA R (N (J j.1) 1)=ae (M t):=by unfold aA;rw[aB,ah];rfl
 clear aM cR X cV bB aT a2 aC aB;go_enter func11,ntmps11;go_upto_region 1 with fail;rw[<-ah,<-ac];obtain⟨l,bH⟩:∃s,J j.1=s:=eR _ U;rw[bH]at cg a8 a9 al cw cx⊢;have aO:=O bH;have dU:=O ah;have b3:ao (∃I H w q o,py L P k t=(I,H,w,q)/\yz L P k t=o):=⟨_,_,_,_,_,U,U⟩;have⟨I,H,w,q,o,aP,X⟩:=V b3;have dt:ao (wm w):=by have:=az.1;rw[aP]at this;exact this
 have dd:ao (wm q):=by have:=az.2.1;rw[aP]at this;exact this
 have de:ao (wm o):=by have:=az.2.2;rw[X]at this;exact this
 have cT:=O aP;have c4:=O X;clear bH ah ac b3 az aP X;go_wp21;refine eb c_ λbs u ⟨bz,bD⟩=>?_;obtain⟨dM,dN,dO,rfl,Z,aa,av,cA,c2,cB⟩:=afU bz;rw[V cT]at Z aa⊢;rw[V c4]at av;simp only at Z aa⊢;have⟨bc,bf,bt⟩:=Z.slice;have⟨bj,bl,bu⟩:=aa.slice;have⟨bq,br,ba⟩:=av.slice;have a3:ao (∀a,bA dM=ae a->l+1<=a/\a<J u.1):=λa b=>by have:=fS Z a b;rw[al]at this;exact this
 have c5:ao (∀a,bA dN=ae a->l+1<=a/\a<J u.1):=λa b=>by have:=fS aa a b;rw[al]at this;exact this
 have cb:ao (∀a,bA dO=ae a->l+1<=a/\a<J u.1):=λa b=>by have:=fS av a b;rw[al]at this;exact this
 obtain⟨bw,bG⟩:∃bw,CV k t=bw:=eR _ U;have df:=O bG;rw[bG];subst bt bu ba;have bI:=bD.4;obtain⟨c9,a5⟩:∃ad:g7,ad=aZ #[ag ai I,aG H,aE bc (E w) bf,aE bj (E q) bl,aE bq (E o) br] 79:=eR _ U;have⟨i,ar⟩:=bm<|aN u c9;have an:a6 u i:=ar▸cf cc bo _
 have bK:J i.1=J u.1+1:=ar▸eE u _
 have c0:i.1[J u.1]? = ae c9:=ar▸cW u _
 have aj:=bC bD<|bN an bI;have bL:a6 e i:=bC cy<|bN aj G;have du:bY i l 0 (aS k):=(aj.cell (p:=⟨l,0,af⟩) (by show l<_;omega)).trans a8;have dv:bY i l 1 (M t):=(aj.cell (p:=⟨l,1,af⟩) (by show l<_;omega)).trans a9;have da:=O<|afZ bT L k P t (λc=>J e.1<=c/\c<J i.1) e i (V b2) bL (λc h d=>G) (λc h d=>G) (V cL) cX;have cG:=O<|Z.below an;have cC:=O<|aa.below an;have cD:=O<|av.below an;have S:=O<|cj cA<|cj c2 cB;have bM:=O c0;have cN:=O aj;have bW:=O bL;obtain⟨z,b6⟩:∃s,J u.1=s:=eR _ U;clear c_ bz bD Z aa av cA c2 cB an c0 bL aj a8 a9 bG;go_upto_region 2 with fail;rw[<-a5,<-ar];rw[b6]at bM a3 c5 cb bK bI;have dL:=O a5;clear a5 ar b6;go_wp21;refine eb da λbs Q ⟨cU,bF⟩=>?_;obtain⟨d8,d9,d_,rfl,aw,ax,aU⟩:=afV cU;rw[V cT]at aw ax⊢;rw[V c4]at aU;simp only at aw ax⊢;have⟨bR,bS,bt⟩:=aw.slice;have⟨aW,aV,bu⟩:=ax.slice;have⟨aX,aY,ba⟩:=aU.slice;rw[V df];subst bt bu ba;have aR:=bF.4;obtain⟨a4,a0⟩:∃ad:g7,ad=aZ #[ag ai I,aG H,aE bR (E w) bS,aE aW (E q) aV,aE aX (E o) aY] 102:=eR _ U;have⟨g,au⟩:=bm<|aN Q a4;have aq:a6 Q g:=au▸cf cc bo _
 have bO:J g.1=J Q.1+1:=au▸eE Q _
 have b0:g.1[J Q.1]? = ae a4:=au▸cW Q _
 have K:=bC bF<|bN aq aR;have aF:∀c,c<J g.1->¬(J e.1<=c/\c<J i.1)->¬(J e.1<=c/\(c<J i.1\/J g.1<=c)):=λc h d d3=>by omega
 have cE:=(aw.below aq).imp (y:=λc=>J e.1<=c/\(c<J i.1\/J g.1<=c)) λc h d _=>aF c h d;have co:=(ax.below aq).imp (y:=λc=>J e.1<=c/\(c<J i.1\/J g.1<=c)) λc h d _=>aF c h d;have cp:=(aU.below aq).imp (y:=λc=>J e.1<=c/\(c<J i.1\/J g.1<=c)) λc h d _=>aF c h d;have b_:=(K.5 z G).trans<|V bM;have ci:a6 e g:=bC bW<|bN K G;have bX:FE (J e.1) l (J g.1) r n (λ_=>False) g bQ Y:=by{have dG:ee g r n bQ Y:=ay.below<|(bC c3<|bN cN (by rw[V aO];omega)).trans<|bN K (by rw[V aO];omega);refine⟨dG,λa b=>bJ ?_,λdR dI a b=>bJ ?_,cO _,dH,cw⟩;{rw[<-V aO];exact(fS ay.2 a b).2};{rw[<-V aO];exact(fS (ay.3 dR dI).1 a b).2}};have cq:=((cG.below K).base (base':=r+1) G);have cr:=((cC.below K).base (base':=r+1) G);have cs:=((cD.below K).base (base':=r+1) G);have dc:=O b_;have ds:=O ci;have cZ:=O bX;have bb:=O cE;have aH:=O co;have aI:=O cp;have dg:=O cq;have dh:=O cr;have di:=O cs;obtain⟨A,bP⟩:∃s,J Q.1=s:=eR _ U;have dK:ao (g.1[A]? = ae a4):=by rw[ao,<-bP];exact b0
 clear cU bF aw ax aU aq b0 K aF cE co cp b_ ci bX cq cr cs du dv da cG cC cD bW cN bM;go_upto_region 3 with fail;rw [<-a0,<-au];rw [bP] at bO aR;have dF:=O a0;clear a0 au bP;obtain ⟨a1,bp⟩:∃s,J g.1=s:=eR _ U;rw [bp] at cZ bb aH aI bO;have bn:=O bp;obtain ⟨ca,cP⟩:∃s,J i.1=s:=eR _ U;rw [cP] at bb aH aI bK aR;have dY:l+1<=z/\ca=z+1/\ca<=A/\a1=A+1:=G;clear bp cP bI bK aR bO al c3 cg ay cy b2 cL dP
 have q1:g.1[z]? = ae (aZ #[ag ai I,aG H,aE bc (E w) bf,aE bj (E q) bl,aE bq (E o) br] 79):=by rw[V dc,V dL]
 have q2:g.1[A]? = ae (aZ #[ag ai I,aG H,aE bR (E w) bS,aE aW (E q) aV,aE aX (E o) aY] 102):=by rw[V dK,V dF]
 have dw:aA g (N z 2)=ae (aE bc (E w) bf):=CK
 have dB:aA g (N A 2)=ae (aE bR (E w) bS):=CF
 have cn:=O<|cZ.list (V dg) (λa b=>by have:=V a3 a b;exact⟨G,G,λd=>d⟩) (V bb) (V dt) G G;have cl:=O<|cj q1 q2;clear q1 q2;go_wp21;refine cn.m ?_;rintro c6 ⟨dW,dX,bV,ec,B⟩;have C:=λa b=>(a3 a b);have x:=λa b=>(c5 a b);have F:=λa b=>(cb a b);have ct:∀a,bA (aE aW (E q) aV)=ae a->a<a1:=λa b=>by have:=(aH.lt a b).2;rw[V bn]at this;exact this
 have T:∀a,bA (aE aX (E o) aY)=ae a->a<a1:=λa b=>by have:=(aI.lt a b).2;rw[V bn]at this;exact this
 have dj:=O<|HU (V aH) B G (λa b=>cd<|C a b) ct;have dk:=O<|HU (V aI) B G (λa b=>cd<|C a b) T;have dl:=O<|HV (V dh) B (λa b=>cd<|x a b) S.1;have dm:=O<|HV (V di) B (λa b=>cd<|F a b) S.2.1;have cm:=O<|bC ds<|B.below (n:=J e.1) (λc h=>bJ h) (cd<|V bn);have q1:=AK cl.1 B G G λa b=>(C a b).2;have q2:=AK cl.2 B G G λa b=>cd<|C a b;have dy:aA c6 (N z 3)=ae (aE bj (E q) bl):=CK
 have dD:aA c6 (N A 3)=ae (aE aW (E q) aV):=CF
 have bU:=O<|bV.list (V dl) (λa b=>by{have:=x a b;refine⟨G,G,λd=>?_⟩;rcases d with d|d;{exact d};{exact S.1 a d b}}) (V dj) (V dd) G G;have cJ:=O<|cj q1 q2;have dA:=O<|cj C<|cj x<|cj F T;clear q1 q2 bV B dw dB cn C x F ct T;go_wp21;refine bU.m ?_;rintro c8 ⟨dZ,d6,b4,d7,W⟩;have⟨C,x,F,T⟩:=V dA;have dn:=O<|HU (V dk) W G (λa b=>cd<|x a b) T;have dp:=O<|HV (V dm) W (λa b=>cd<|F a b) S.2.2;have cY:=cm.4;have cF:=O<|bC cm<|W.below (n:=J e.1) (λc h=>bJ h) cY;have q1:=AK cJ.1 W G G λa b=>(x a b).2;have q2:=AK cJ.2 W G G λa b=>cd<|x a b;have dz:aA c8 (N z 4)=ae (aE bq (E o) br):=CK
 have dE:aA c8 (N A 4)=ae (aE aX (E o) aY):=CF
 have cu:=O<|b4.list (V dp) (λa b=>by{have:=F a b;refine⟨G,G,λd=>?_⟩;rcases d with(d|d)|d;{exact d};{exact S.2.1 a d b};{exact S.2.2 a d b}}) (V dn) (V de) G G;have cH:=O<|cj q1 q2;have b1:=O F;clear q1 q2 b4 W dy dD bU C x F T cY;go_wp21;refine cu.m ?_;rintro ab ⟨dq,dr,b8,dV,aJ⟩;have dT:=cF.4;have q1:=AK cH.1 aJ G G λa b=>(b1 a b).2;have q2:=AK cH.2 aJ G G λa b=>cd<|V b1 a b;have dJ:ao (Og e r n Y ab):=⟨dq,dr,b8.1,G,bC cF<|aJ.below (n:=J e.1) (λc h=>bJ h) dT⟩;have d1:aA ab (N z 0)=ae (M I):=CK
 have d2:aA ab (N z 1)=ae (aG H):=CK
 have d4:aA ab (N A 0)=ae (M I):=CF
 have bz:aA ab (N A 1)=ae (aG H):=CF
 have db:=O<|afG bw ab;clear q1 q2 b8 aJ dz dE cu;go_wp21;refine db.m ?_;rintro ea rfl;go_wp2;go_ret;exact bd U dJ
def H3(e:aQ)(v:bk)(a:List<|ap×Int):Prop:=
 ((∃g h,v=aE g 0 h)/\a=[])\/∃c d i,v=bL c d (E a) i/\c<J e.1/\∀b (j:b<E a),aA e (N c<|d+b*2)=ae (am<|D a[b].1)/\aA e (N c<|d+b*2+1)=ae (M a[b].2)
def EW(h:φ:=by go_wp2;go_ret;exact bd U dE):φ:=h
def agb(s:ap)(b:List<|ap×Int)(S:bk)(l:aQ)(L:dx l)(H:H3 l S b)(br:E b<=10000000)(aw:∀e∈b,E e.1<=2000000):a_ aL 4 #[aS s,S] l (cI (aG aD) l):=by
 obtain⟨bH,bI,aF⟩:∃e aj,S=aE e (E b) aj:=by{rcases H with⟨⟨e,aj,rfl⟩,rfl⟩|⟨au,off,aq,rfl,_⟩;{exact⟨_,_,rfl⟩};{exact⟨_,_,rfl⟩}};subst aF;have ah:=O<|af8 l L;have W:=O L;have a1:=O H;have aK:=O aw;clear L H aw;go_enter func4,ntmps4;go_wp21;refine ah.m ?_;intro bK q;have a5:=q.4;have ad:=O<|wk s<|W.below q;have aX:=O q;clear ah q;go_wp21;refine eb ad λo bn ⟨g,I⟩=>?_;have bB:=I.4;have Z:=bC aX<|bN I a5;have A:=O<|Fv s bn;have z:=O Z;clear ad I Z;unfold ss at g;cases j:kl s with
 |none=>{rw[j]at g;have a3:o=bh (bZ #[cz af,M 1]):=g;subst a3;have B:=O j;clear g j;go_wp21;refine eb A λo c ⟨h,d⟩=>?_;rw[tt,V B]at h;have aV:o=bh (cz af):=h;subst aV;have dE:=O<|bC z<|bN d G;clear h d;exact EW}
 |some p=>{
 rw[j]at g;obtain⟨ab,nG,au,aq,rfl,bs,bz,ax⟩:=g;have B:=O j;have aY:=O ab;have ar:=O ax;clear j ab ax;go_wp21;refine eb A λo c ⟨h,d⟩=>?_;rw[tt,V B]at h;obtain⟨bq,rfl,bF,aC⟩:=h;have Y:=pw.Zv aC;clear aC;have bD:=d.4;have bl:=O<|ar.below d;have dE:=O<|bC z<|bN d G;have aI:=O<|W.below dE;have aH:=O Y;obtain⟨ac,x⟩:∃aJ:g7,aJ=aZ #[ag ai 0,aE af 0 0] 40:=eR _ U;have⟨T,r⟩:=bm<|aN c ac;have av:a6 c T:=r▸cf cc bo _
 have w:T.1[J c.1]? = ae ac:=r▸cW c _
 obtain⟨k,N⟩:∃k,J c.1=k:=eR _ U;have aW:ao (ee T k 0 (bX) []):=by{rw[N,x]at w;exact (⟨w,ih _ _ _ 2,λbM ba=>by cases ba⟩)};have bf:=O av;have aM:=O N;clear d Y av w A z ar;go_upto_region 9 with fail;rw[<-x,<-r];clear x r N;go_wp2;go_loopw [10] (λP wr=>∃a:Nat,a<=E b/\P=M a/\∃R t,ee wr k (3*a) R t/\E t=12*a/\a6 c wr) λP _=>E b-cM (intOf P);·exact⟨0,dJ _,U,_,_,aW,U,bf⟩
 ·(obtain⟨a,aO,rfl,R,t,F,bw,i⟩:=hrel;have bt:=O i;by_cases hlt:a<E b;{have bb:(a:Int)<E b:=G;rcases V a1 with⟨_,h0⟩|⟨u,n,bv,ay,aa,az⟩;{exact AB};obtain⟨bj,-,a9⟩:=js ay;subst bj a9;have⟨al,an⟩:=az a hlt;have Q:=bC dE<|bN i G;have cS:bY wr u (n+a*2) (am<|D b[a].1):=(Q.cell (p:=⟨u,n+a*2,af⟩) aa).trans al;have a0:bY wr u (n+a*2+1) (M b[a].2):=(Q.cell (p:=⟨u,n+a*2+1,af⟩) aa).trans an;have aB:=O<|afH k (3*a) nG au 0 aq bq p.1 b[a].1 p.2 b[a].2 R t c wr (V aY) (V bl) (V aH) (V aI) F i (by rw[V aM];omega) (aK _<|ei hlt) G G;generalize b[a]=e at*;have bG:=e;clear az ay F i Q al an;go_wp21;refine aB.m ?_;rintro bp ⟨aP,aR,y,bu,K⟩;have X:=O<|afL k (3*a+3) aP aR bp y G G;have aT:=O y;have a2:=O K;have a8:=K.4;clear y K aB cS a0;go_wp21;refine X.m ?_;intro bL C;have aU:=O<|aT.below C;have a4:=O<|bC a2<|bN C a8;clear C X;go_wp2;exact bd (⟨a+1,G,dd,_,_,aU,G,a4⟩) dz};{have bb:¬(a:Int)<E b:=G;have bc:=O<|bC dE<|bN i G;clear F i;go_wp2;go_ret;exact bd U bc})}
def H0:ap:=[0,1,1,0,0,1,0,0,0,0,0,0,3,119,101,98,7,101,120,97,109,112,108,101,3,111,114,103,0,0,1,0,1]
def Od:ap:=[0,1,133,0,0,1,0,1,0,0,0,0,3,119,101,98,7,101,120,97,109,112,108,101,3,111,114,103,0,0,1,0,1,192,12,0,1,0,1,0,0,0,60,0,4,192,0,2,80]
def Oh:ap:=[115,104,111,114,116]
def H1:List ap:=[[119,101,98],[101,120,97,109,112,108,101],[111,114,103]]
def CW:ap:=[119,101,98,46,101,120,97,109,112,108,101,46,111,114,103]
def agc:gg H0=ae ([3,119,101,98,7,101,120,97,109,112,108,101,3,111,114,103,0,0,1,0,1],H1,1,1,ak,0,0):=dl
def agd:cT H1=CW:=dl
def Aq:gn jN j_ 1 CW=(0,aD,[yy],[]):=by rw[gn,Fx];rfl
def N_:kN jN j_ 1 CW=[]:=by rw[kN,Aq];rfl
def age:fg jN j_ (cT H1) ((1:Nat):Int) ((1:Nat):Int) ak ((0:Nat):Int)=((0,aD,[yy],[]),[]):=by rw[agd];show(gn jN j_ 1 CW,kN jN j_ 1 CW)=_;rw[Aq,N_]
def agf(b:l4 jN j_ H0 d):d=Od:=by rw[l4,bV bW,bV bW,agc]at b;simp only[age]at b;assumption
def agh:D Od=⟨#[0,1,133,0,0,1,0,1,0,0,0,0,3,119,101,98,7,101,120,97,109,112,108,101,3,111,114,103,0,0,1,0,1,192,12,0,1,0,1,0,0,0,60,0,4,192,0,2,80]⟩:=rfl
def agi:D []=⟨#[]⟩:=rfl
def agj(b:l4 jN j_ Oh d):d=[]:=by assumption
def agk(h)(d:dx h):a_ aL 13 #[] h (cI (aG aD) h):=by have k:=O<|wk v6 d;replace d:=O d;go_enter func13,ntmps13;go_wp21;refine eb k λn w ⟨o,c⟩=>?_;rw[ss,Fz]at o;obtain⟨a,D,z,y,rfl,B,A,g⟩:=o;have l:=O<|Fy (m:=H0) a g (d.below c) bW (Fw a _);have i:=O λu (p:a6 w u)=>Fy (m:=Oh) a (g.below p) (d.below<|bC c<|bN p c.4) bW (Fw a _);have j:=O c;clear a g c k;go_wp21;refine eb l ?_;rintro n x ⟨⟨t,rfl,b⟩,q⟩;obtain rfl:=agf b;have e:=O q;clear q b l;go_wp21;refine(i x e).mono ?_;rintro n C ⟨⟨t,rfl,b⟩,r⟩;obtain rfl:=agj b;have dE:=O<|bC j<|(bC e<|bN r e.4).mono j.4;clear r b i;rw[agh,agi];exact EW
def C0(e:aQ)(v:bk)(a:List ap):Prop:=
 ((∃g h,v=aE g 0 h)/\a=[])\/∃b d i,v=bL b d (E a) i/\b<J e.1/\∀c (j:c<E a),aA e (N b<|d+c)=ae (am<|D a[c])
def agl(s b K n)(C:dx n)(A:C0 n K b)(a0:E b<=10000000)(ac:∀o∈b,E o<=2000000):a_ aL 5 #[aS s,K] n (cI (aG aD) n):=by
 obtain⟨bb,bc,au⟩:∃o W,K=aE o (E b) W:=by{rcases A with⟨⟨o,W,rfl⟩,rfl⟩|⟨aJ,off,aF,rfl,_⟩;{simp};simp};subst au;have V:=O<|agk n C;have N:=O C;have aI:=O A;have ay:=O ac;clear C A ac;go_enter func5,ntmps5;go_wp21;refine V.m ?_;intro bf t;have aR:=t.4;have T:=O<|wk s<|N.below t;have aC:=O t;clear V t;go_wp21;refine eb T λe aX ⟨g,k⟩=>?_;have a8:=k.4;have Q:=bC aC<|bN k aR;have x:=O<|Fv s aX;have w:=O Q;clear T k Q;unfold ss at g;cases i:kl s with
 |none=>{
 rw[i]at g;have aK:e=bh (bZ #[cz af,M 1]):=g;subst aK;have y:=O i;clear g i;go_wp21;refine eb x λe L ⟨h,d⟩=>?_;rw[tt,y]at h;have aB:e=bh (cz af):=h;subst aB;have dE:=O<|bC w<|bN d G;clear h d;go_wp2;go_loopw [9] (λl wr=>l=M 0/\wr=L) λ_ _=>0;·simp
 ·(obtain⟨rfl,rfl⟩:=hrel;by_cases hlt:0<E b;{have F:0<(E b:Int):=G;exact EW};{have F:¬(0:Int)<(E b:Int):=G;exact EW})}
 |some p=>{
 rw[i]at g;obtain⟨S,nG,aJ,aF,rfl,a3,a5,ad⟩:=g;have y:=O i;have r:=O S;have Y:=O ad;clear i S ad;go_wp21;refine eb x λe L ⟨h,d⟩=>?_;rw[tt,y]at h;obtain⟨bl,rfl,ba,aq⟩:=h;have P:=pw.Zv aq;clear aq;have a9:=d.4;have aW:=O<|Y.below d;have dE:=O<|bC w<|bN d G;have ax:=O<|N.below dE;have av:=O P;clear d P x w Y;go_wp2;go_loopw [9] (λl wr=>∃a:Nat,a<=E b/\l=M a/\a6 L wr) λl _=>E b-cM (intOf l);·exact⟨0,dJ _,U,cU _ _⟩
 ·(obtain⟨a,aO,rfl,c⟩:=hrel;by_cases hlt:a<E b;{have F:(a:Int)<E b:=G;rcases aI with⟨_,h0⟩|⟨u,q,a4,ah,R,ap⟩;{exact AB};obtain⟨aV,-,aT⟩:=js ah;subst aV aT;have X:=ap a hlt;have I:=bC dE<|bN c G;have cS:bY wr u (q+a) (am<|D b[a]):=(I.cell (p:=⟨u,q+a,af⟩) R).trans X;have H:=ay _<|ei hlt;generalize b[a]=m at*;have al:=O<|Fy r (aW.below c) (ax.below c) H<|Fw r _;have an:=c.4;have aj:=O λj (k:a6 wr j)=>N4 m av (bC c<|bN k an) r H;have az:=O c;have aw:ao (∀j,a6 wr j->bY j u (q+a) (aS m)):=λj aP=>(aP.cell (p:=⟨u,q+a,af⟩) (eA R I.4)).trans cS;clear ap ah c I X H;go_wp21;refine eb al ?_;rintro e ar ⟨⟨a1,rfl,aa⟩,B⟩;have aH:=aw ar B;have z:=O B;have aY:=O aa;clear B cS al aa;go_wp21;refine(aj ar z).mono ?_;rintro e bj ⟨⟨a2,rfl,ab⟩,Z⟩;obtain rfl:=N5 r aY ab;have aM:=O<|bC az<|(bC z<|bN Z z.4).mono an;clear Z ab aj aH;go_wp2;exact bd (⟨a+1,G,dd,aM⟩) dz};{let F:¬(a:Int)<E b:=G;have aU:=O<|bC dE<|bN c G;clear c;go_wp2;go_ret;exact bd U aU})}
def CX:ap:=[255,255,255,255,255,255]++tu++[8,6]++([0,1,8,0,6,4,0,1]++tu++[10,0,0,2]++[110,111,98,111,100,121]++iO)
def AL:ap:=tu++hY++[8,6,0,1,8,0,6,4,0,2]++hY++iO++tu++[10,0,0,2]
def CY:ap:=hY++tu++[8,7]
def agm(ρ):nF ρ hY iO CX=AL:=by rfl
def agn(ρ):nF ρ hY iO CY=[]:=by rfl
def Hh(h:φ:=by go_wp2;go_ret;exact bd U gY):φ:=h
def ago(w)(i:dx w):a_ aL 16 #[] w (cI (aG aD) w):=by
 have F:=O<|wk v6 i;replace i:=O i;go_enter func16,ntmps16;go_wp21;refine eb F λaJ k ⟨S,n⟩=>?_;rw[ss,Fz]at S;obtain⟨A,aa,aK,aI,rfl,an,aj,T⟩:=S;let⟨ρ,V⟩:=GP jN j_;have B:=O<|HN V A T<|i.below n;have x:ao (∀a,a_ aL 17 #[am ⟨#[]⟩,am ⟨#[]⟩] a<|cI (jW hY iO) a):=λa=>GO [] [] a bW bW;have C:=O n;clear A T n F V an aj;go_wp21;refine(x _).m ?_;intro g o;have al:=C.4;have e:bq (aN g<|aZ #[am<|D hY,am<|D iO] 47) (J g.1) [aS hY,aS iO] 47:=bq.fF g _ _;have p:=cf o o.4<|aZ #[am<|D hY,am<|D iO] 47;have l:=O fun(f:ap) (ah:E f<=10000000) a (b:a6 k a)=>HJ (f:=f) (aB:=hY) (ip:=iO) U U ah (B.next b);let⟨a,b⟩:=bm<|aN g<|aZ #[am<|D hY,am<|D iO] 47;rw[<-b]at e p;have ab:=O b;have c:ao (bq a (J g.1) [aS hY,aS iO] 47/\a6 k a):=bd e p;have H:=e.cell 0 ax;have I:=e.cell 1 ax;simp only[eB,eG]at H I;have aF:b7 (D iO)=4:=U;have aC:b7 (D hY)=6:=U;have aq:(⟨#[255,255,255,255,255,255,2,111,116,104,101,114,8,6,0,1,8,0,6,4,0,1,2,111,116,104,101,114,10,0,0,2,110,111,98,111,100,121]⟩:ByteArray)++D iO=D CX:=U;have ar:D hY++⟨#[2,111,116,104,101,114,8,7]⟩=D CY:=U;let⟨j,L,Q,Y⟩:=ix tu hY;let⟨u,M,R,Z⟩:=ix j [8,6,0,1,8,0,6,4,0,2];let⟨W,N,aM,av⟩:=ix u hY;let⟨X,P,aO,aw⟩:=ix W iO;have au:b7 (D j)=12:=by rw[Y];rfl
 have aW:b7 (D u)=22:=by rw[Z,au];rfl
 have aX:b7 (D W)=28:=G;have aY:b7 (D X)=32:=G;have aP:(⟨#[2,111,116,104,101,114]⟩:ByteArray)++D hY=D j:=Q;have aR:D j++⟨#[8,6,0,1,8,0,6,4,0,2]⟩=D u:=R;have aT:D X++⟨#[2,111,116,104,101,114,10,0,0,2]⟩=D AL:=by rw[P,N,M,L];rfl
 have aH:=GK (U:AL=AL);have y:ao (∀a,a6 k a->a_ aL 18 #[bv aa,jW hY iO,aS CX] a (cI (aS AL) a)):=λa b=>by have:=l CX bW a b;rwa [agm]at this
 have z:ao (∀a,a6 k a->a_ aL 18 #[bv aa,jW hY iO,aS CY] a (cI (am ⟨#[]⟩) a)):=λa b=>by have:=l CY bW a b;rwa [agn]at this
 generalize CX=F3,CY=H2 at*;generalize AL=A3,hY=az at*;generalize iO=ay at*;clear x o p e b B l L M N P Q R Y Z av aw;go_wp2_with fail;rw[<-ab];refine(y a c.2).m ?_;intro aU q;have h:=c.1.below q c.1.lt;have d:=O<|cj h<|bC c.2<|bN q c.2.4;have cS:=h.cell 0 ax;have K:=h.cell 1 ax;simp only[eB,eG]at cS K;clear y q h c H I aq;go_wp21;refine(z _ d.2).m ?_;intro aV r;have t:=d.1.below r d.1.lt;have gY:=O<|bC C<|(bC d.2<|bN r d.2.4).mono al;have ac:=t.cell 0 ax;have ad:=t.cell 1 ax;simp only[eB,eG]at ac ad;clear z r t d cS K ar;exact Hh
abbrev yB(h:aQ)(b e g:Nat)(d c f:ap)(a:aQ):Prop:=aA a (N b 0)=ae (aS d)/\aA a (N b 1)=ae (aS c)/\aA a (N e g)=ae (aS f)/\e<J a.1/\bq a b [aS d,aS c] 47/\a6 h a
def yB.of(u:yB b a c g d o P f){i:Array bk}(x:a_ aL v i f<|cI e f):a_ aL v i f λk r=>k=bh e/\yB b a c g d o P r:=eb x λk r ⟨y,h⟩=>by
 obtain⟨_,_,w,n,j,q⟩:=u;have l:=j.below h j.lt;exact⟨y,l.cell 0 ax,l.cell 1 ax,(h.cell (p:=⟨c,g,af⟩) n).trans w,eA n h.4,l,bC q<|bN h q.4⟩
def agp(s A C:ap)(d:List ap)(aq:bk)(H:aQ)(ah:dx H)(a4:E A<=2000000)(a5:E C<=2000000)(ac:C0 H aq d)(bB:E d<=10000000)(aU:∀L∈d,E L<=2000000):a_ aL 6 #[aS s,aS A,aS C,aq] H (cI (aG aD) H):=by
 obtain⟨bP,bQ,a2⟩:∃L aP,aq=aE L (E d) aP:=by
  rcases ac with⟨⟨L,aP,rfl⟩,rfl⟩|⟨bj,bO,bc,rfl,_⟩
  ·exact wa
  ·exact wa
 subst a2;have aM:=O<|ago H ah;have av:=O ah;have bf:=O ac;have a3:=O aU;have K:=O λi=>GO A C i G G;let⟨b,aa⟩:=bm<|un A;let⟨a,Z⟩:=bm<|vW C;have aB:E b=6:=aa▸LN A
 have aC:E a=4:=Z▸LM C
 rw[<-aa,<-Z]at K;clear ah ac aU aa Z a4 a5;go_enter func6,ntmps6;go_wp21;refine aM.m ?_;intro bR S;have bn:=S.4;have aK:=O<|wk s<|av.below S;have ba:=O S;clear aM S;go_wp21;refine eb aK λu bu ⟨w,ad⟩=>?_;have bK:=ad.4;have aF:=bC ba<|bN ad bn;have X:=O<|Fv s bu;have W:=O aF;clear aK ad aF;unfold ss at w;cases z:kl s with
 | none=>
  rw[z]at w;have bl:u=bh (bZ #[cz af,M 1]):=w;subst bl;have R:=O z;clear w z;go_wp21;refine eb X λu l ⟨x,r⟩=>?_;rw[tt,R]at x;have a8:u=bh (cz af):=x;subst a8;have t:=O<|bC W<|bN r G;clear x r;go_wp21;refine(K _).m ?_;intro I q;have y:=(cf q q.4<|aZ #[am<|D b,am<|D a] 47).mono t.4;have gY:=O<|bC t y;clear q y t;go_wp2;generalize aN I (aZ #[am<|D b,am<|D a] 47)=a1 at*
  go_loopw [14] (λF wr=>F=M 0/\wr=a1) λ_ _=>0
  ·exact oa
  ·obtain⟨rfl,rfl⟩:=hrel;by_cases hlt:0<E d
   ·have al:0<(E d:Int):=G;exact Hh
   ·have al:¬(0:Int)<(E d:Int):=G;exact Hh
 | some p=>
  rw[z]at w;obtain⟨aI,nG,bj,bc,rfl,bF,bH,aV⟩:=w;have R:=O z;have V:=O aI;have aR:=O aV;clear z aI aV;go_wp21;refine eb X λu l ⟨x,r⟩=>?_;rw[tt,R]at x;obtain⟨bz,rfl,bM,a0⟩:=x;have az:=pw.Zv a0;clear a0;have bL:=r.4;have Y:=bC W<|bN r G;let⟨ρ,aj⟩:=GP p.1 p.2;have a9:=O<|HN aj V (aR.below r)<|av.below Y;have br:=O<|N7 aj V az cc;have t:=O Y;clear r az X W aR Y aj V R;go_wp21;refine(K _).m ?_;intro I q;have e:=bq.fF I [aS b,aS a] 47;have y:=cf q q.4<|aZ #[am<|D b,am<|D a] 47;have bI:=q.4;clear q K;go_wp2;let⟨a1,aJ⟩:=bm<|aN I<|aZ #[am<|D b,am<|D a] 47;rw[<-aJ]at e y⊢;let⟨j,aT⟩:=bm<|J I.1;rw[<-aT]at e⊢;have ar:=O<|cj e y;clear aJ aT e y
  go_loopw [14] (λF wr=>∃c:Nat,c<=E d/\F=M c/\bq wr j [aS b,aS a] 47/\a6 l wr) λF _=>E d-cM (intOf F)
  ·exact⟨0,dJ _,U,ar.1,ar.2⟩
  ·obtain⟨c,aO,rfl,e,o⟩:=hrel;by_cases hlt:c<E d
   ·have al:(c:Int)<E d:=G;rcases bf with⟨_,h0⟩|⟨k,n,bG,aW,aH,aX⟩
    ·exact AB
    obtain⟨bt,-,bo⟩:=js aW;subst bt bo;have an:=bC t<|bN o G;have cS:bY wr k (n+c) (am<|D d[c]):=(an.cell (p:=⟨k,n+c,af⟩) aH).trans (aX c hlt);have T:k<J wr.1:=eA aH an.4;have bs:=a3 _<|ei hlt;generalize d[c]=f at*;have P:=e.cell 0 ax;have Q:=e.cell 1 ax;simp only[eB,eG]at P Q;have aw:ao (∀i,a6 l i->a_ aL 18 #[bv nG,ce #[aS b,aS a],aS f] i (cI (aS<|nF ρ b a f) i)):=λi ab=>HJ aB aC G<|a9.next ab;have au:ao (∀i,a6 l i->a_ aL 19 #[bv bz,ce #[aS b,aS a],aS f] i (cI (aS<|nF ρ b a f) i)):=λi ab=>N3 G aB aC<|br.next ab;generalize nF ρ b a f=bD at*;have B:yB l j k (n+c) b a f (bx wr):=⟨P,Q,cS,T,e,o.drew⟩
    have ay:=O B;clear aX aW o an bs e B;go_wp2
    go_region_held (λh=>aA h (N j 0)=ae (aS b)/\aA h (N j 1)=ae (aS a)/\aA h (N k<|n+c)=ae (aS f)/\k<J h.1/\bq h j [aS b,aS a] 47/\a6 l h) (first|assumption|exact ay)
     (first|(go_at_call 18;go_loud (have g:=(by assumption:yB l j k (n+c) b a f _);refine(g.of<|aw _ g.2.2.2.2.2).mono ?_;clear g;rintro u bw ⟨rfl,g⟩)))
    let⟨P,Q,cS,T,e,o⟩:=g;have B:yB l j k (n+c) b a f (bx bw):=⟨P,Q,cS,T,e,o.drew⟩
    have aY:=O B;clear e o B ay aw;go_wp2
    go_region_held (λh=>aA h (N j 0)=ae (aS b)/\aA h (N j 1)=ae (aS a)/\aA h (N k<|n+c)=ae (aS f)/\k<J h.1/\bq h j [aS b,aS a] 47/\a6 l h) (first|assumption|exact aY)
     (first|(go_at_call 19;go_loud (have g:=(by assumption:yB l j k (n+c) b a f _);refine(g.of<|au _ g.2.2.2.2.2).mono ?_;clear g;rintro u bS ⟨rfl,g⟩)))
    have bb:=O<|cj g.2.2.2.2.1 g.2.2.2.2.2;clear g aY au;go_wp2;exact bd (⟨c+1,G,dd,bb⟩) dz
   ·let al:¬(c:Int)<E d:=G;have bp:=O<|bC t<|bN o G;clear o e;go_wp2;go_ret;exact bd U bp
end Go.Proofs.YtkkpahmoljiepabGreatDoor
