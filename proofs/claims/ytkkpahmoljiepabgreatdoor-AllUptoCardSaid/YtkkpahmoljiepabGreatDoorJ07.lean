import Derived.Test.YtkkpahmoljiepabGreatDoorJ06
import Derived.Test.YtkkpahmoljiepabGreatDoorJ0h
import Derived.StillTail
set_option maxRecDepth 1000000
set_option maxHeartbeats 12800000
set_option linter.all false
open Array renaming size->J
open Bool renaming false->ak,true->aD
open Decidable renaming decide->dC
open Eq renaming symm->b5,trans->cQ
open Go renaming Act->kq,Calls->a_,TypeId->dP,Value->bk,World->aQ,results->c_
open Go.Ending renaming returned->bh
open Go.Exit renaming normal->ky
open Go.IntKind renaming i64->ai,u16->eO,u8->ch,wrap->yw
open Go.Lib renaming trimPrefix->l6
open Go.Obj renaming cells->aZ
open Go.Proofs renaming intOf->fj
open Go.Proofs.Tryz renaming prog->aL
open Go.Region renaming ready->sq
open Go.RowKit renaming Hid->ao
open Go.Value renaming agg->ce,bool->aG,iface->cP,int->ag,ownBlock->bA,pointer->cz,slice->aE,tuple->bZ
open Go.World renaming alloc->aN,alloc_heap_new->cW,cell?->aA,drew->bx,setCell->a7
open Int renaming toNat->cM
open List renaming length->E,take->be,toArray->c7
open Option renaming none->af,some->ae
open Or renaming inl->bJ,inr->bE
open UInt8 renaming toNat->bg
namespace Go.Proofs.YtkkpahmoljiepabGreatDoor
variable{φ:Prop}
open Go.RowKit Go.Proofs.Tryz
variable{a c g v L:Nat}{b f m:World}{d h:ap}{k r:Value}{p x:List aK}{t H:Bool}{s:List ap}{z:TypeId}{A:Nat->Prop}
def aar{c:List iY}(d:ut b k c):∃a v,k=aE a (E c) v:=by obtain⟨a,v,e,-⟩:=d;exact⟨a,v,e⟩
def SO{j:iY}{e:List iY}(w:ut b k (j::e)):∃(a ay v:Nat) (d:List bk),k=aE (ae ⟨a,ay,af⟩) (E e+1) (v+1)/\E e<=v/\bq b a d 158/\aA b ⟨a,ay,af⟩=ae (ag ai j.1)/\aA b ⟨a,ay+1,af⟩=ae (ag ai j.2.1)/\aA b ⟨a,ay+2,af⟩=ae (ag ch<|bg j.2.2)/\∀o:aQ,o.1[a]? = b.1[a]?->ut o (aE (if v+1=1 then ae ⟨a,ay,af⟩else ae ⟨a,ay+3,af⟩) (E e) v) e:=by obtain⟨A,v,rfl,x,n⟩:=w;obtain⟨-,n⟩|⟨a,ay,d,rfl,g,p⟩:=n;{cases n};rw[dW]at x;obtain⟨v,rfl⟩:∃c,v=c+1:=⟨v-1,G⟩;let⟨r,t,c⟩:=p 0 ax;let l:∀(i:Nat) (k:bk),d[i]? = ae k->aA b ⟨a,i,af⟩=ae k:=λi k z=>by{let⟨y,u⟩:=iW.1 z;rw[<-u];exact g.cell i y};refine⟨a,ay,v,d,U,G,g,l _ _ r,l _ _ t,l _ _ c,λo q=>⟨_,_,U,G,bE ?_⟩⟩;by_cases B:v=0;{refine⟨a,ay,d,b8 G,cQ q g,λh aO=>G⟩};{refine⟨a,ay+3,d,bV G,cQ q g,λh aO=>?_⟩;have:=p (h+1) (by simpa using aO);rwa [show ay+3*(h+1)=ay+3+3*h by omega]at this}
abbrev uj(k wr:aQ)(g c:Nat)(h i j d:bk)(a:cq)(b:ap)(p:List iY):Prop:=mW wr g c h i d {a with b:=b,p:=p}/\ov a.4 b p=ov a.4 a.1 a.3/\bA d=bA j/\co (λe=>e≠g/\e≠c) k wr
def uj.heap{o i:bk}{e:cq}{n:List iY}(g:uj f m a c k r o i e d n)(h:b.1=m.1)(q:b.4=m.4)(l:b.2=m.2)(t:b.5=m.5):uj f b a c k r o i e d n:=
 ⟨SN g.1 λ_ _=>by rw[h],g.2.1,g.2.2.1,g.2.2.2.trans ⟨q,l,t,by rw[h];exact cO _,λ_ _ _=>by rw[h]⟩⟩
def Mu(h:φ:=by
 first|go_roundg (E l)|go_roundg 0
 case measure=>simp
 ·exact⟨_,_,_,U,yD _ _ (λi aO=>U) U U U U jC<|by rw[bV G]⟩):φ:=h
def aas{h:Nat}{D N:bk}{d:cq}(q:mW b a g D k N d)(b_:h<25600)(cu:E d.2<=1000000000000)(cv:d.4<=1000000000000):a_ aL 130 #[cz<|ae ⟨a,0,af⟩,ag ai h] b λc bK=>c=bh (ag ch<|bg<|d.tL h)/\cZ bK a (d.uA h)/\cG bH a b bK:=by
 let⟨ci,aO,cc,cf,cg⟩:=im aal;have H:=O λi=>q8 q (i:=i);have bL:ao (uj b b a g D k N N d d.1 d.3):=⟨q,U,U,co.refl _ _⟩
 have aq:=h6 q.1 q.2.1.2 bW;let⟨bG,aU⟩:=bm<|d.4+1;have bN:ao ((d.4:Int)+1=bG):=by rw[ao,aU];rfl
 have ck:=O aU;clear q aU;go_wp2
 go_loopg [5] (E d.3) (λp _ wr=>∃Q j x,E x=p/\ao (uj b wr a g D k N Q d j x))
 ·exact⟨N,d.1,d.3,U,bL⟩
 ·clear bL;obtain⟨Q,j,x,rfl,e⟩:=hrel;have c3:=rN e.1.1;have cB:=zy e.1.1;have aC:=ph e.1.1;have bo:=O<|aar e.1.2.2.2.2;have aS:ao (∀bF,ao<|uj b (wr.drewN bF) a g D k N Q d j x):=λbF=>uj.heap e U U U U;go_wp2
  go_cut [25]from 6 to 61 (λv wc=>∃al:Bool,v=aG al/\(al=aD->∃o l,x=o::l/\o.1<=(d.4:Int))/\(al=ak->ov d.4 j x=(j,x))/\ao (uj b wc a g D k N Q d j x))
  ·cases x with
   |nil=>
    obtain⟨cw,ah,rfl⟩:=bo;simp only[gG]at*;go_quiet (fail);go_wp2;go_meet
    ·exact⟨ak,U,λq=>(Bool.noConfusion q),λ_=>U,aS _⟩
   |cons o l=>
    obtain⟨aK,ay,ah,aR,rfl,bY,B,bb,bc,bd,_⟩:=SO e.1.2.2.2.2;have b9:(0:Int)<((E l+1:Nat):Int):=G;go_quiet (fail);go_wp2;go_meet
    ·exact⟨_,U,λq=>⟨o,l,U,oH q⟩,λq=>by rw[ov,bV<|of_decide_eq_false q],aS _⟩
  ·clear e aS c3 cB aC bo;obtain⟨al,rfl,aV,a1,e⟩:=hcut;have c3:=rN e.1.1;have cB:=zy e.1.1;have bu:=pu e.1.1;have aC:=ph e.1.1;have bB:=qg e.1.1;cases al with
   | true=>
    obtain⟨o,l,rfl,bp⟩:=aV U;clear cB a1;obtain⟨aK,ay,ah,aR,rfl,bY,B,bb,bc,bd,ba⟩:=SO e.1.2.2.2.2;have bU:=h6 B e.1.1 bW;have b9:(0:Int)<((E l+1:Nat):Int):=G;have ab:ah=0\/ah≠0:=G;have br:ao (∀z,z=(if 0<=o.2.1/\o.2.1<25600 then j.set (cM o.2.1) o.2.2 else j)->ov d.4 z l=ov d.4 d.1 d.3):=λz c=>by rw[<-e.2.1,ov,b8 bp,c]
    have bs:=O B;rcases ab with ab|ab
    all_goals
     (first
      |(subst ab;obtain rfl:l=[]:=hq G;have a3:=λn q=>by simpa using ba n q)
      |(have a3:=λn q=>by simpa [ab]using ba n q))
     clear ba B aV bp;let⟨av,r,W⟩:=o;simp only at bb bc bd br;simp only[dW,gG]at*;go_wp2
     first
      |(clear ab;generalize a2:aE (ae ⟨aK,ay+3,af⟩) (E l) ah=ac at*)
      |generalize a2:aE (ae ⟨aK,ay,af⟩) 0 0=ac at*
     let⟨n,A⟩:=bm<|aN (a7 wc ⟨a,3,af⟩ ac)<|aZ #[ag ai av,ag ai r,ag ch<|bg W] 158;have a5:∀i,i<J wc.1->i≠a->n.1[i]? = wc.1[i]?:=λi aO t=>by
      rw[A];exact(dv _ _ _<|by simpa [a7]using aO).trans<|dr _ _ _ _ t
     have aI:=bq.alloc (bq.set e.1.1 3 ac)<|aZ #[ag ai av,ag ai r,ag ch<|bg W] 158;rw[<-A]at aI;have yD:ao (∀(y:aQ) z,(∀i,i≠g->y.1[i]? = n.1[i]?)->J y.1=J n.1->y.4=n.4->y.2=n.2->y.5=n.5->m_ y g z->z=(if 0<=r/\r<25600 then j.set (cM r) W else j)->uj b y a g D k N ac d z _):=λy z bw cb cl cm cn ca b4=>by
      let⟨⟨aa,I,w,C,a4⟩,bv,b2,b3⟩:=e;have aw:=λi aO b1 bv=>(bw i bv).trans<|a5 i aO b1;refine⟨⟨nS aI<|bw a aq,ca,lA w λp F=>aw p (nT w F) (λc=>jK aa w bW<|by rw[F,c]) λc=>jK I.2 w bW<|by rw[F,c],lA C λp F=>aw p (nT C F) (λc=>jK aa C bW<|by rw[F,c]) λc=>jK I.2 C bW<|by rw[F,c],a3 y<|aw aK bs.lt bU<|h6 bs I.2 bW⟩,br z b4,by rw[<-b2,<-a2];rfl,b3.trans ⟨by rw[cl,A];rfl,by rw[cm,A];rfl,by rw[cn,A];rfl,by rw[cb,A];simp[a7],λi aO q=>aw i aO q.1 q.2⟩⟩
     have aB:=rm e.1.2.1<|a5 g e.1.2.1.2.lt λc=>aq<|b5 c;have bt:bq n (J wc.1) [ag ai av,ag ai r,ag ch<|bg W] 158:=by
      have:=bq.fF (a7 wc ⟨a,3,af⟩ ac) [ag ai av,ag ai r,ag ch<|bg W] 158;rw[<-A]at this;simpa [a7]using this
     have cr:=bt.cell 1 ax;have fa:=bt.cell 2 ax;simp only[eB,eG]at cr fa;have cs:aA n ⟨a,0,af⟩=ae (aE (ae ⟨g,0,af⟩) 25600 25600):=bq.cell aI 0 ax;have:g≠J wc.1:=cd<|(V e).1.2.1.2.lt
     rw[<-A];have B:=aB.1;have ad:=aB.2;have jC:=O aB;clear A a5 aI a3 e bu c3 aC bB bb bc bd a2 aB;by_cases b6:(0:Int)<=r
     ·by_cases b7:r<25600
      ·obtain⟨R,rfl⟩:∃R:Nat,r=(R:Int):=⟨cM r,G⟩
       have hj:R<E j:=by rw[B];omega
       have bX:=ad.cell R AA;have:=ad.frozen;simp only[pH]at bX;clear ad B;go_quiet (fail);go_wp2
       go_region
       go_wp2
       first|go_roundg (E l)|go_roundg 0
       case measure=>simp
       ·exact⟨_,_,_,U,yD _ _ (λi aO=>dr _ _ _ _ aO) mo U U U (BM jC R W) (by rw[b8 G];rfl)⟩
      ·have bS:=fI b7;clear ad B;go_quiet (fail);go_wp2
       exact Mu
     ·have bS:=fI b6;clear ad B;go_quiet (fail);go_wp2
      exact Mu
   | false=>
    let⟨⟨aa,I,w,C,a4⟩,a0,bD,bj⟩:=e;rw[a1 U]at a0;have bf:=O λn (q:hQ n a g D k ⟨ak,Q,λ_=>True⟩ bG d.6 d.7 d.8 d.9)=>SL q;have:=V bN;have t:=jK aa w bW;have bT:=jK I.2 w bW;have au:=O aa;clear aV c3 bu a1 e aa;go_wp2_with (fail);refine(bf _<|aah au bG).m ?_;rintro S ⟨am,aj,bC⟩;have T:=λi aO t=>(aj.5 i (by simpa [a7]using aO) t).trans<|dr _ _ _ _ t;have bM:J S.1=J wc.1:=by rw[bC];simp[a7]
    have aJ:ao (FW S 0 D d.2):=lA w λp F=>T p (nT w F) (λc=>t<|by rw[F,c]);have bi:ao (m_ S g j/\uh S 0 k d.5/\ut S Q x/\co (λi=>i≠a/\i≠g) b S):=
     ⟨rm I<|T g I.2.lt λc=>aq<|b5 c,lA C λp F=>T p (nT C F) λc=>jK au C bW<|by rw[F,c],xE a4 λi aR _ q=>T i q.lt<|h6 q au bW,bj.trans ⟨aj.1,aj.2,aj.3,G,λi aO aY=>T i aO aY.1⟩⟩
    have az:=O am;have bP:=FX am;have cp:=ph am;have bl:=qg am;have aP:=O<|cj a0 bD;clear am aj bC T bf au I w C a4 aC bB bM a0 bD bj;go_wp2_with (at_builtin;go_loud (refine sQ _ U (.tmp 75) (.tmp 77) 61 U 0 3 ci (ag ai 0) 1 8 aam aO cc cf cg U bW _ (E d.2) _ U (aJ.alloc _) ⟨J S.1,0,af⟩ 1 1 [ag ai h] U U ?bG ?c2 ?c3 ?cB ?fe ?_))
    case bG=>
     intro R u hj
     match R,hj with
     |0,hj=>exact Cz
     |h+1,hj=>simp at hj
    case c2=>exact E5
    case c3=>unfold maxLen;omega
    case cB=>omega
    case fe=>simp
    intro cy P aX Z _ bz;obtain⟨K,M,L,rfl⟩:=oj aX;have aM:FW P 0 (aE K M L) (d.2++[(h:Int)]):=by
     rw[FW,dj,jg];exact aX
    have Y:=λi aO t=>
     (Z.5 i ct t).trans (dv _ _ _ aO)
    have X:=nS az<|Y a bl t;have bO:=jK X aM bW;have:=ph X;have:=FX X;have:=pu X;have a6:=aag X<|aE K M L;have cs:=pu a6;let⟨a8,ar,bI,a9⟩:=bi;have aH:=rm a8<|Y g a8.2.lt bT;have aW:h<E j:=by rw[aH.1];omega
    have bQ:aA P ⟨g,h,af⟩=ae (ag ch<|bg<|j[h]):=by
     have:=aH.2.cell h (by simpa using aW);rw[this];simp
    have:aA (a7 P ⟨a,1,af⟩<|aE K M L) ⟨g,h,af⟩=ae (ag ch<|bg<|j[h]):=by
     rw[zM _ _ _ _ λo=>aq (by have:=eQ Addr.block o;exact this),bQ]
    have aF:∀i,i≠a->(a7 P ⟨a,1,af⟩<|aE K M L).1[i]? = P.1[i]?:=λi aO=>dr _ _ _ _ aO;have b0:ao (j[h]=d.tL h):=by
     show j[h]=(ov d.4 d.1 d.3).1.getD h 0;rw[<-aP.1,iA,fs aW];rfl
    have bn:ao (mW (a7 P ⟨a,1,af⟩<|aE K M L) a g (aE K M L) k Q<|d.uA h):=by
     rw[cq.uA,<-aP.1,<-ck];exact⟨a6,rm aH<|aF g λc=>aq<|b5 c,qp aM bO _ _,lA ar λp F=>(aF p λc=>jK az ar bW<|by rw[F,c]).trans<|Y p (nT ar F)<|SM ar aJ bW F,xE bI λi aR _ q=>(aF i<|h6 q az bW).trans<|Y i q.lt<|jK q aJ bW⟩
    have bR:ao (cG bH a b<|a7 P ⟨a,1,af⟩<|aE K M L):=by
     have ap:co (λi=>i≠a/\i≠g/\ae i≠bA D) b (a7 P ⟨a,1,af⟩<|aE K M L):=((a9.mono λi _ q=>⟨q.1,q.2.1⟩).trans ⟨Z.1,Z.2,Z.3,cJ ax Z.4,λi aO aY=>Y i aO aY.2.2⟩).trans<|co.j9 _ λi q=>q.1;refine⟨ap.1,ap.2,ap.3,ap.4,λi aO _ an=>ap.5 i aO ⟨λc=>an<|(H i).2<|bJ c,λc=>an<|(H i).2<|bE<|bJ c,λc=>an<|(H i).2<|bE<|bE<|bJ<|b5 c⟩,λi an=>?_⟩;rcases(q8 bn).1 an with q|q|q|q|q
     ·exact bJ<|(H i).2<|bJ q
     ·exact bJ<|(H i).2<|bE<|bJ q
     ·rcases bz with aT|aT
      ·exact bJ<|(H i).2<|bE<|bE<|bJ<|aT▸q
      ·have:=a9.4;rw[aT]at q;cases q;exact bE G
     ·exact bJ<|(H i).2<|bE<|bE<|bE<|bJ q
     ·exact bJ<|(H i).2<|bE<|bE<|bE<|bE<|aP.2▸q
    generalize j[h]=cx at*;have:=b_;clear aX Z bz Y t a6 az aJ bP cp bl aW aF a8 ar bI a9 bi aM X aH;go_wp2;go_ret;exact⟨eQ (λo:UInt8=>bh<|ag ch<|bg o) b0,⟨_,_,_,_,bn⟩,bR⟩
def FY(c:Nat){b:cq}(e:aQ)(d:cZ e a b)(k:c<25600)(h:E b.2<=1000000000000)(i:b.4<=1000000000000):a_ aL 130 #[cz<|ae ⟨a,0,af⟩,ag ai c] e λj g=>j=bh (ag ch<|bg<|b.tL c)/\cZ g a (b.uA c)/\cG bH a e g:=by let⟨l,n,o,p,d⟩:=d;exact aas d k h i
def aat:(aL.info? 161).map (λa=>(a.8,a.3,a.4))=ae (ae<|ce #[ag ai 0,ag ai 0],2,16):=b6
def aau:aL.underlying 63=ae (.slice 161):=b6
def aav(j:a=J b.1)(e g:Int)(i:dP):∀(h:Nat) (d:bk),[ag ai e,ag ai g][h]? = ae d->aA (aN b<|aZ #[ag ai e,ag ai g] i) ((⟨a,0,af⟩:Addr).add h)=ae d:=λh d c=>by
 subst j
 match h,c with
 |0,c=>simp at c;subst c;simp[Addr.add]
 |1,c=>simp at c;subst c;exact(bq.fF b [ag ai e,ag ai g] i).cell 1 ax
 |k+2,c=>simp at c
def aaw(b c:Int):∀a∈[ag ai b,ag ai c],a.oneCell'=aD:=by intro a hu;exact Ht
def aax{a:List<|Int×Int}:E (a.flatMap λb=>[ag ai b.1,ag ai b.2])=E a*2:=by
 induction a with
 |nil=>rfl
 |cons b a c=>rw[kj,dj,c,dW,dW,dW,gG];omega
def aay{c:List<|Int×Int}(i:uh b 0 k c):∃h l,k=aE h (E c) l/\∀a,c.getLast? = ae a->∃v,h=ae ⟨v,0,af⟩/\aA b ⟨v,(E c-1)*2,af⟩=ae (ag ai a.1)/\aA b ⟨v,(E c-1)*2+1,af⟩=ae (ag ai a.2):=by
 have j:=i;obtain⟨q,⟨rfl,g⟩|⟨v,o,p,rfl,_⟩⟩:=i;{exact⟨_,_,by rw[g],λa d=>by rw[hq g]at d;cases d⟩};{
 refine⟨_,_,U,λa d=>⟨v,U,?_⟩⟩;obtain⟨e,rfl⟩:=List.getLast?_eq_some_iff.1 d;let n:(E (e++[a])-1)*2=E (e.flatMap λa=>[ag ai a.1,ag ai a.2]):=by rw[aax,dj];rfl
 let:E (e++[a])=E e+1:=ax;rw[lG j _ G,lG j _ G,n,o3,pv<|cO _,pv<|Nat.le_succ _];simp}
def vg(j d:aQ)(h k l:Nat)(n i o:bk)(c:cq):Prop:=∃a,mW d h k n a o {c.st l 0 with b:=c.1}/\(bA a=bA i\/∃e,bA a=ae e/\J j.1<=e)/\co (λg=>g≠h/\ae g≠bA i) j d
def vg.mk{z w:bk}{x:cq}{y:Bool}{m:List<|Int×Int}(I:mW b a c k r w x)(G:hQ f a c k z ⟨ak,w,λ_=>True⟩ x.4 t H y v)(B:t=(x.st g 0).6)(D:H=(x.st g 0).7)(F:y=(x.st g 0).8)(M:v=x.9+1)(l:uh f 0 z m)(L:m=(x.st g 0).5)(K:bA z=bA r\/∃n,bA z=ae n/\J b.1<=n)(h:co (λi=>i≠a/\ae i≠bA r) b f):vg b f a c g k r w x:=by subst B D F M L;let⟨A,j,u,e,N⟩:=I;exact⟨z,⟨G,rm j<|h.5 c j.2.lt ⟨h6 j.2 A bW,jK j.2 e bW⟩,lA u λn q=>h.5 n (nT u q) ⟨λC=>jK A u bW<|by rw[q,C],SM u e bW q⟩,l,xE N λi O _ p=>h.5 i p.lt ⟨h6 p A bW,jK p e bW⟩⟩,K,h⟩
def CI(h:φ:=by rw[hwc];rfl):φ:=h
def NP(h:φ:=by clear q0;go_wp2;go_meet;·exact⟨by rw[<-h2],U⟩):φ:=h
def Fd(h:φ:=by simp[cq.st,hb,<-V Iy]):φ:=h
def aaz{p:UInt8}{D:bk}{n:cq}(x:mW b g a k r D n)(bF:c<25600)(bG:n.9<=1000000000000)(bb:E n.5<=1000000000000):a_ aL 126 #[cz<|ae ⟨g,0,af⟩,ag ai c,ag ch<|bg p] b λh bj=>h=bh (bZ #[])/\cZ bj g (n.st c p)/\cG bH g b bj:=by
 let⟨bM,aO,bI,bK,bL⟩:=im aat;have t:=O λi=>q8 x (i:=i);have b0:=h6 x.1 x.2.1.2 bW;let⟨R,a4⟩:=bm<|n.9+1;have bT:(n.9:Int)+1=R:=G;have:R<=2000000000000:=G;have ar:=O a4;have az:=pu x.1;have bX:=SI x.1;have av:=ph x.1;have bR:¬(c:Int)<0:=G;have bS:¬25600<=(c:Int):=G;have o:=O x;have C:=O<|aak x.1 R;have:=qg x.1;let⟨z,ab⟩:=bm<|a7 b ⟨g,9,af⟩<|ag ai R;rw[<-ab]at C;have W:=O ab;let⟨d,a3⟩:=bm<|ng c;have Iy:=O a3;clear x a4 a3 bG;go_in;go_upto_region 4 with fail;rw[<-ab];clear az bX av bR bS bT ab;go_cut [38]from 29 λv j=>v=aG (dC<|d=1)/\j=z;·(have X:ao (∀e:Bool,(e=aD↔(512<=c/\c<1024)\/13312<=c)->e=dC (d=1)):=λe hb=>by{rw[pR,hb,Iy,pZ];unfold ng;split<;>omega};by_cases b_:512<=(c:Int);{by_cases b3:(c:Int)<1024;{go_wp2;go_meet;·exact⟨by rw[X aD ct],U⟩};{have:=fI b3;by_cases b4:13312<=(c:Int);{go_wp2;go_meet;·exact⟨by rw[X aD ct],U⟩};{go_wp2;go_meet;·exact⟨by rw[X ak ct],U⟩}}};{have b4:¬13312<=(c:Int):=G;go_wp2;go_meet;·exact⟨by rw[X ak ct],U⟩})
 ·(
 obtain⟨rfl,w⟩:=hcut;rw[w];clear w;have ac:d=0\/d=1:=by rw[Iy];unfold ng;split<;>omega
 go_upto_if 38 with fail;go_cut [6]from 29 λv j=>v=ag ai d/\j=z;·(rcases ac with rfl|rfl;all_goals(go_wp2;go_meet;·exact⟨U,U⟩))
 ·(
 obtain⟨rfl,w⟩:=hcut;rw[w];clear w;have aH:ao (∀e:Bool,(e=aD↔c=130+512*d\/c=131+512*d)->e=nU c):=λe hb=>by rw[nU,<-Iy,pR,hb];simp
 have bd:=SF C;have b1:bY z g (7+d) (aG<|n.qH d):=by{rcases ac with rfl|rfl;{exact SG C};{exact SH C}};have aB:=zz C;have aj:=zy C;have az:=pu C;have av:=ph C;let⟨am,a6⟩:=bm<|130+512*d;let⟨bl,a8⟩:=bm<|131+512*d;let⟨aC,br⟩:=bm<|512*d;have bP:ai.wrap (512*(d:Int))=(aC:Int):=fl
 have bN:ai.wrap (130+(aC:Int))=(am:Int):=fl
 have bO:ai.wrap (131+(aC:Int))=(bl:Int):=fl
 have bz:0<=(d:Int):=G;have bB:(d:Int)<2:=G;rw[<-a6,<-a8]at aH;have bQ:=O ac;clear a6 a8 br ac;go_upto_region 6 with fail;go_cut [50]from 39 λv j=>v=aG (nU c)/\j=z;·(by_cases q0:c=am;{have b6:((c:Int)==am)=aD:=ct;have h2:=aH aD (by simp[q0]);exact NP};{have b6:((c:Int)==am)=ak:=ct;have h2:=aH ((c:Int)==bl) ct;exact NP})
 ·(
 obtain⟨rfl,w⟩:=hcut;rw[w];clear w;go_upto_if 50 with fail;go_cut []from 39 λj=>vg b j g a c k r D n;·(
 cases hb:nU c with
 |false=>{
 have aK:ao (∀e:Bool,(n.6||n.qH d)=e->vg b (a7 z ⟨g,6,af⟩<|aG e) g a c k r D n):=λe A=>by{
 have u:co (λi=>i≠g/\ae i≠bA r) b (a7 z ⟨g,6,af⟩<|aG e):=W▸(co.j9 _ λi x=>x.1).trans (co.j9 _ λi x=>x.1)
 have F:=jK o.1 o.2.2.2.1 bW;refine vg.mk o (aaj C e) ?_ ?_ ?_ ar ((W▸qp (qp o.2.2.2.1 F _ _) F _ _:uh _ 0 r n.m)) ?_ (bJ U) u;all_goals simp[cq.st,hb,<-A,<-V Iy]};generalize aM:n.6=bq at bd;cases bq with
 |false=>{go_wp2;go_meet;·exact aK _ (by rw[aM];rfl)}
 |true=>{go_wp2;go_meet;·exact aK _ (by rw[aM];rfl)}}
 |true=>{
 let⟨Z,P⟩:=bm<|a7 z ⟨g,7+d,af⟩<|aG aD;have L:hQ Z g a k r ⟨ak,D,λ_=>True⟩ n.4 (n.st c 0).6 (n.st c 0).7 (n.st c 0).8 R:=by{
 have h:(n.st c 0).6=n.6:=by simp[cq.st,hb]
 rw[P,h];rcases bQ with rfl|rfl;{rw[show(n.st c 0).7=aD from Fd,show(n.st c 0).8=n.8 from Fd];exact SJ C aD};{rw[show(n.st c 0).7=n.7 from Fd,show(n.st c 0).8=aD from Fd];exact SK C aD}};have aT:=O L;have F:=jK o.1 o.2.2.2.1 bW;have an:uh Z 0 r n.5:=by rw[P,W];exact qp (qp o.2.2.2.1 F _ _) F _ _
 have aS:=O an;have aV:ao (co (λi=>i≠g/\ae i≠bA r) b Z):=by rw[ao,P,W];exact(co.j9 _ λi x=>x.1).trans<|co.j9 _ λi x=>x.1
 have bv:=zz L;have bu:=zy L;have bw:=ph L;have bC:=qg L;obtain⟨S,T,rfl,aI⟩:=aay an;have bp:=O aI;have aJ:ao (∀e:Bool,(e=aD↔n.5.getLast?≠ae ((d:Int),(n.4:Int)))->(n.st c 0).5=if e then n.5++[((d:Int),(n.4:Int))]else n.5):=λe A=>by{
 simp only[cq.st,hb,mM,J5,<-V Iy];cases e with
 |true=>rw[bV<|A.1 U];rfl
 |false=>rw[b8 (yO λx=>by have:=A.2 x;cases this)];rfl};clear aI L an;go_upto_region 9 with fail;rw[<-P];clear bd b1 aB aj az av bP bN bO bz bB P C;go_cut [7,79]from 39 (λ_ v j=>∃e bi,v=aG e/\(e=aD↔n.5.getLast?≠ae ((d:Int),(n.4:Int)))/\j=Z.drewN bi);·(
 let⟨ba,q⟩:=du<|(E n.5:Int)-1;rw[q];cases y:n.5.getLast? with
 |none=>{
 have aw:E n.5=0:=by rw[List.getLast?_eq_none_iff.1 y];rfl
 have:ba<0:=G;clear q aw bb;go_quiet (fail);go_wp2;go_meet;·exact⟨aD,_,U,by simp[y],U⟩}
 |some al=>{
 obtain⟨l,rfl,bn,bo⟩:=bp al y;have aw:E n.5≠0:=λx=>by rw[hq x]at y;cases y
 obtain⟨ad,a0⟩:∃ad:Nat,E n.5=ad+1:=⟨E n.5-1,G⟩;obtain rfl:ba=(ad:Int):=G;have:(ad:Int)<E n.5:=G;rw[a0,DS]at bn bo;let⟨al,b7⟩:=al;simp only at bn bo;have ap:=O y;clear q aw a0 bb y;by_cases a5:al=(d:Int);{subst a5;by_cases a9:b7=(n.4:Int);{subst a9;go_quiet (fail);go_wp2;go_meet;·exact⟨ak,_,U,by simp[V ap],U⟩};{go_quiet (fail);go_wp2;go_meet;·exact⟨aD,_,U,by simp[V ap,a9],U⟩}};{go_quiet (fail);go_wp2;go_meet;·exact⟨aD,_,U,by simp[V ap,a5],U⟩}})
 ·(
 obtain⟨e,bi,rfl,A,hwc⟩:=hcut;have H:=nS aT (show wc.1[g]? = _ from CI);have aR:ao (uh wc 0 (aE S (E n.5) T) n.5):=lA aS λl I=>by rw[hwc];rfl
 have ay:ao (co (λi=>i≠g/\ae i≠bA (aE S (E n.5) T)) b wc):=aV.trans ⟨CI,CI,CI,hwc▸cO _,λ_ _ _=>CI⟩;have aU:=O H;have:=zz H;have:=zy H;have:=ph H;have bD:=qg H;have Y:=aJ e A;clear H aT aS aV hwc A aJ bv bu bw bC bp;cases e with
 |false=>{go_wp2;go_meet;·exact vg.mk o aU U U U ar aR (b5 Y) (bJ U) ay}
 |true=>{have Y:=O Y;go_upto_region 10 with fail;go_region_law (first|(refine step_append_lies _ rfl (.tmp 84) (.tmp 91) 63 rfl 0 161 bM (.agg #[.int .i64 0,.int .i64 0]) 2 16 aau aO bI bK bL rfl bW _ n.m.length _ rfl (aR.alloc _) _ 1 1 [.int .i64 d,.int .i64 n.c] rfl rfl (aav ax d n.c _) (aaw d n.c) bW Ay G (dJ _) (wc.heap.size+1) ax ?_;intro l aP aF a1 B aX bt;have M:=nS aU<|(B.5 g ct F).trans<|dv _ _ _ bD;have:=zz M;have:=ph M));all_goals(have K:World.grownBy (aN wc<|aZ #[ag ai d,ag ai n.4] 161) aF (bA<|aE S (E n.5) T):=⟨B.1,B.2,B.3,B.4,B.5⟩;have aY:bA (aE S (E n.5) T)=ae l\/l=J wc.1+1:=aX;have aq:uh aF 0 (aE (ae ⟨l,0,af⟩) (E n.5+1) aP) (n.5++[((d:Int),(n.4:Int))]):=by{rw[uh,dj,o3];exact a1};have aa:ao (vg b (a7 aF ⟨g,5,af⟩<|aE (ae ⟨l,0,af⟩) (E n.5+1) aP) g a c k (aE S (E n.5) T) D n):=by{refine vg.mk o (aai M _) U U U ar (qp aq (jK M aq bW) _ _) (b5 Y) (aY.imp (λx=>b5 x) λx=>⟨l,U,?_⟩)<|ay.trans ⟨K.1,K.2,K.3,by have:=K.4;simp[a7]at this⊢;omega,λi aO a2=>(dr _ _ _ _ a2.1).trans<|(K.5 i ct a2.2).trans<|dv _ _ _ aO⟩;have:=ay.4;omega};clear a1 B aX bt M K aY aq;go_wp2;go_meet;·exact aa)})})
 ·(
 let⟨bf,N,hb,u⟩:=hcut;have:=pu N.1;have b2:c<E n.1:=o.2.1.1▸bF
 have bs:=N.2.1.2.cell c (by simpa using b2);have:=N.2.1.2.frozen;have aa:ao (mW (a7 wc ⟨a,c,af⟩<|ag ch<|bg p) g a k bf D (n.st c p)/\cG bH g b (a7 wc ⟨a,c,af⟩<|ag ch<|bg p)):=by{have q:∀i,i≠a->(a7 wc ⟨a,c,af⟩<|ag ch<|bg p).1[i]? = wc.1[i]?:=λi aO=>dr _ _ _ _ aO;let⟨bU,ah,bc,aj,aB⟩:=N;have aW:mW (a7 wc ⟨a,c,af⟩<|ag ch<|bg p) g a k bf D (n.st c p):=⟨nS bU<|q _ b0,BM ah c p,lA bc λl I=>q l λh=>jK ah.2 bc bW<|by rw[I,h],lA aj λl I=>q l λh=>jK ah.2 aj bW<|by rw[I,h],xE aB λi b9 _ x=>q i<|h6 x ah.2 bW⟩;refine⟨aW,⟨u.1,u.2,u.3,by simpa [a7]using u.4,λi aO _ Q=>(q i λh=>Q<|(V t i).2<|bE<|bJ h).trans<|u.5 i aO ⟨λh=>Q<|(V t i).2<|bJ h,λh=>Q<|(V t i).2<|bE<|bE<|bE<|bJ<|b5 h⟩,λi Q=>?_⟩⟩;rcases(q8 aW).1 Q with x|x|x|x|x;{exact bJ<|(t i).2<|bJ x};{exact bJ<|(t i).2<|bE<|bJ x};{exact bJ<|(t i).2<|bE<|bE<|bJ x};{rcases hb with au|⟨l,au,I⟩;{exact bJ<|(t i).2<|bE<|bE<|bE<|bJ<|au▸x};{rw[au]at x;cases x;exact bE I}};{exact bJ<|(t i).2<|bE<|bE<|bE<|bE x}};simp only[pH]at bs;clear N hb u;go_wp2;exact kh (v:=bZ #[]) (by simp[c_,results126]) U ⟨U,⟨_,_,_,_,aa.1⟩,aa.2⟩))))
def BE(d:Nat)(g:UInt8){b:cq}(e:aQ)(c:cZ e a b)(j:d<25600)(k:b.9<=1000000000000)(l:E b.5<=1000000000000):a_ aL 126 #[cz<|ae ⟨a,0,af⟩,ag ai d,ag ch<|bg g] e λi h=>i=bh (bZ #[])/\cZ h a (b.st d g)/\cG bH a e h:=by let⟨n,o,p,q,c⟩:=c;exact aaz c j k l
def FZ(e:Nat)(k:cq)(a:cZ b e k):a_ aL 26 #[cz<|ae ⟨e,0,af⟩] b λq j=>q=bh (bZ #[])/\cZ j e k.rest/\cG bH e b j:=by let⟨r,z,A,B,a⟩:=a;let x:=λi=>q8 a (i:=i);refine(SL a.1).m λj ⟨u,g,D⟩=>?_;let⟨h,n,o,p,y⟩:=a;let c:=λi aO w=>g.5 i aO w;let t:mW j e r z A B k.rest:=⟨u,rm n<|c r n.2.lt<|h6 n.2 h bW,lA o λl d=>c l (nT o d) λq=>jK h o bW<|by rw[d,q],lA p λl d=>c l (nT p d) λq=>jK h p bW<|by rw[d,q],xE y λi C _ a=>c i a.lt<|h6 a h bW⟩;exact⟨U,⟨_,_,_,_,t⟩,⟨g.1,g.2,g.3,G,λi aO _ a=>c i aO λq=>a<|bJ q,λi a=>bJ<|(x i).2<|(q8 t).1 a⟩⟩
def fZ(i:aQ)(g:Nat)(t:dP)(d b c a h:Nat)(e:List Bool):Prop:=
 bq i g ([cP 51<|bv d,M b,M c,ag eO a,ag eO h]++e.map aG) t
theorem Sk (b a):(method 509 51 (cz (ae ⟨b,0,af⟩)) "Store").run aL a = .ok (126,cz (ae ⟨b,0,af⟩)) a:=by kernel_rfl
theorem Sl (b a):(method 509 51 (cz (ae ⟨b,0,af⟩)) "Load").run aL a = .ok (130,cz (ae ⟨b,0,af⟩)) a:=by kernel_rfl
def Sm(b a):(callFunc 126 b).run aL a=.ok (.enter 126 b) a:=b6
def Sn(b a):(callFunc 130 b).run aL a=.ok (.enter 130 b) a:=b6
def aaA(e:a<2^v)(s:g=c*2^v)(h:a+g<4294967296):bits .or .u32 (a:Int) (g:Int)=((a+g:Nat):Int):=by
 show yw IntKind.u32 ((BitVec.ofInt 32 (a:Int) ||| BitVec.ofInt 32 (g:Int)).toNat:Int)=_;rw[BitVec.toNat_or,BitVec.ofInt_natCast,BitVec.ofInt_natCast,BitVec.toNat_ofNat,BitVec.toNat_ofNat,Bi G,Bi G];let d:a ||| g=a+g:=by{rw[s,Nat.or_comm,<-Nat.shiftLeft_eq c v,<-OV e];omega}
 rw[d,yJ];omega
def cq.b_(c:cq)(b:Nat):Nat->cq×Nat
 |0=>(c,0)
 |a+1=>((c.b_ b a).1.uA<|b+a,(c.b_ b a).2+bg ((c.b_ b a).1.tL<|b+a)*2^(8*a))
variable{B:cq}
def cq.fo(b:cq)(c v:Nat):Nat->cq
 |0=>b
 |a+1=>(b.fo c v a).st (c+a)<|UInt8.ofNat<|v/2^(8*a)
def cq.Ok(b:cq)(a:Nat):Prop:=E b.2<=a/\b.4<=a/\b.9<=a/\E b.5<=a
abbrev oJ(a:dP):Prop:=a≠66/\a≠5/\a≠3/\a≠161/\a≠158
def EO(h:φ:=by simp[cq.uA];omega):φ:=h
def So(c:B.Ok a)(d):(B.uA d).Ok (a+1):=by let⟨e,g,h,i⟩:=c;exact⟨EO,EO,EO,EO⟩
def aH{b:cq}(d:b.Ok a)(e c):(b.st e c).Ok (a+1):=by let⟨g,h,c,i⟩:=d;refine⟨by simp[cq.st];omega,by simp[cq.st];omega,by simp[cq.st];omega,?_⟩;show(if _ then _ else _:List<|Int×Int).length<=a+1;unfold J5;split;{split;{omega};{simp;omega}};{omega}
def oP{d}(a:B.Ok c)(b:c<=d):B.Ok d:=⟨cJ a.1 b,cJ a.2.1 b,cJ a.2.2.1 b,cJ a.2.2.2 b⟩
def qi(d:B.Ok a)(e):∀b,(B.b_ e b).1.Ok<|a+b
 |0=>d
 |b+1=>So (qi d e b) _
def jp(d:B.Ok a)(e v):∀b,(B.fo e v b).Ok<|a+b
 |0=>d
 |b+1=>aH (jp d e v b) _ _
def th(c:cq)(b):∀a,(c.b_ b a).2<2^(8*a)
 |0=>by simp[cq.b_]
 |a+1=>by
  have d:=th c b a;have e:bg ((c.b_ b a).1.tL<|b+a)*2^(8*a)<=255*2^(8*a):=tp _ (by have:=gp<|(c.b_ b a).1.tL<|b+a;omega);have g:(2:Nat)^(8*(a+1))=256*2^(8*a):=by rw[show 8*(a+1)=8*a+8 by omega,Nat.pow_add];omega
  show(c.b_ b a).2+_<_;omega
def BF{k}(e:cZ b c B)(q:bq b a k z)(r:oJ z):¬eD b c a:=λt=>by
 obtain⟨u,w,o,p⟩:=ui e t;have:=(b5 q).trans o;simp at this;obtain⟨_,rfl⟩:=this;obtain⟨h,i,j,l,n⟩:=r;rcases p with e|e|e|e|e
 ·exact h e
 ·exact i e
 ·exact j e
 ·exact l e
 ·exact n e
def gX{w e}(k:cG A g w b)(j:cZ w g B)(c:bq w a e z)(n:oJ z)(l:¬A a):bq b a e z:=(k.5 a c.lt l<|BF j c n).trans c
def F0{D:Nat}(d size aa:Nat){C:Nat}{W h}(K:cZ b c h)(R:fZ b a z c g v D L W)(S:oJ z)(aH:size<=8)(aF:g+d+size<=25600)(aI:aa<4294967296)(F:h.Ok C)(az:C+size<=1000000000000):a_ aL 182 #[bv a,M d,M size,M aa] b λl A=>l=bh (bZ #[])/\cZ A c (h.fo (g+d) aa size)/\cG bH c b A:=by
 have cA:=O K;have ad:=O R;have aj:=O F;clear K R F;go_wp2
 go_loopw [10] (λu wr=>∃w:Nat,u=M w/\w<=size/\cZ wr c (h.fo (g+d) aa w)/\cG bH c b wr) λu _=>size-cM (fj u)
 ·exact G3
 ·obtain⟨w,rfl,aB,P,i⟩:=hrel;have p:=O P;have I:=O i;have n:fZ wr a z c g v D L W:=gX i (V cA) (V ad) S id;have X:=bq.cell n 0 ax;have Y:=bq.cell n 1 ax;simp only[fN,eB,eG]at X Y;clear P i;by_cases aC:w<size
  ·have:=Sk c;have:=Sm;have⟨e,Q⟩:=bm<|g+d;have⟨y,T⟩:=bm<|e+w;have⟨x,Z⟩:=bm<|8*w;have⟨B,o⟩:=bm<|aa/2^x;have⟨k,t⟩:=bm<|UInt8.ofNat B
   have au:ai.wrap ((g:Int)+d)=(e:Int):=fl
   have av:ai.wrap ((e:Int)+w)=(y:Int):=fl
   have aw:ai.wrap (8*(w:Int))=(x:Int):=fl
   have ah:B<=aa:=by rw[o];exact Nat.div_le_self _ _
   have H:ch.wrap (B:Int)=(bg k:Int):=by rw[ur,t,pB];omega
   have ay:ch.wrap ((aa:Int)/2^min x 64)=(bg k:Int):=by
    rw[ro G,<-H,o];simp
   have⟨_,_,aq,ar⟩:=jp (V aj) (g+d) aa w;have ab:=O<|BE y k (bx wr) (V p) G G G;have ac:ao ((h.fo (g+d) aa w).st y k=h.fo (g+d) aa (w+1)):=by rw[ao,cq.fo,T,Q,t,o,Z]
   have:aA (bx wr) (N a 0)=ae (cP 51<|bv c)/\aA (bx wr) (N a 1)=ae (M g):=bd X Y
   have ap:ao (∀j:aQ,cG bH c (bx wr) j->aA j (N a 0)=ae (cP 51<|bv c)/\aA j (N a 1)=ae (M g)):=λj i=>
    have l:=gX (w:=bx wr) i (V p) n S id
    ⟨bq.cell l 0 ax,bq.cell l 1 ax⟩
   clear Q T Z o t ah H n aq ar;go_wp2
   go_region_held (λA=>aA A (N a 0)=ae (cP 51<|bv c)/\aA A (N a 1)=ae (M g)) (first|assumption|go_keep)
    (first|(go_at_call 126;go_loud (refine ab.m ?_;rintro A ⟨q,r⟩;have:=V ap A r)))
   all_goals
    rw[V ac]at q;have am:=O q;have an:=O<|dm (V I)<|dm kH r;clear q r;go_wp2;exact bd (⟨w+1,dd,G,am,an⟩) dz
  ·have al:w=size:=G;subst al;go_wp2;refine kh (v:=bZ #[]) (by simp[c_,results182]) U ?_;exact⟨U,p,I⟩
def Np(h:φ:=by have dn:k=size:=G;subst dn;go_wp2;go_ret;exact⟨U,dL,eN⟩):φ:=h
def F1{D}(b size){A}{W}(w)(H:cZ w g B)(P:fZ w c z g a D v L W)(Q:oJ z)(aR:size<=4)(aP:a+b+size<=25600)(I:B.Ok A)(aK:A+size<=1000000000000):a_ aL 221 #[bv c,M b,M size] w λn aa=>n=bh (ag .u32 (B.b_ (a+b) size).2)/\cZ aa g (B.b_ (a+b) size).1/\cG bH g w aa:=by
 have C:=O H;have aj:=O P;have al:=O I;clear H P I;go_wp2
 go_loopw [7,10] (λav x wr=>∃k:Nat,av=ag .u32 (B.b_ (a+b) k).2/\x=M k/\k<=size/\cZ wr g (B.b_ (a+b) k).1/\cG bH g w wr) λ_ x _=>size-cM (fj x)
 ·exact⟨0,U,U,dJ _,C,qJ _ _ _⟩
 ·obtain⟨k,rfl,rfl,aM,K,j⟩:=hrel;have dL:=O K;have eN:=O j;have p:fZ wr c z g a D v L W:=gX j (V C) (V aj) Q id;have X:=bq.cell p 0 ax;have Y:=bq.cell p 1 ax;simp only[fN,eB,eG]at X Y;clear K j;by_cases aO:k<size
  ·have:=Sl g;have:=Sn;have⟨y,d⟩:=bm<|a+b;have⟨i,S⟩:=bm<|y+k;have⟨T,Z⟩:=bm<|8*k;have aC:ai.wrap ((a:Int)+b)=(y:Int):=fl
   have aF:ai.wrap ((y:Int)+k)=(i:Int):=fl
   have aH:ai.wrap (8*(k:Int))=(T:Int):=fl
   have⟨aw,ay,_⟩:=qi (V al) (a+b) k;have R:=th B (a+b) k;have o:B.b_ (a+b) (k+1)=((B.b_ (a+b) k).1.uA i,(B.b_ (a+b) k).2+bg ((B.b_ (a+b) k).1.tL i)*2^(8*k)):=by rw[cq.b_,S,d]
   have am:=O o;have az:=O<|FY i (bx wr) (V dL) G G G;have ar:=gp<|(B.b_ (a+b) k).1.tL i;have t:=th B (a+b)<|k+1;rw[o]at t;simp only at t;generalize (B.b_ (a+b) k).2=ab at*;generalize ah:bg ((B.b_ (a+b) k).1.tL i)=h at*;have aB:(2:Nat)^(8*(k+1))<=2^32:=Df G G;have⟨ad,u⟩:=bm<|ab+h*2^(8*k);have⟨ac,r⟩:=bm<|h*2^(8*k);have:=V8 (h:Int)
   have aI:yw IntKind.u32 ((h:Int)*2^min T 32)=(ac:Int):=by
    rw[ro G,Z,show(h:Int)*2^(8*k)=((h*2^(8*k):Nat):Int) by simp,yJ,<-r];omega
   have aJ:bits .or .u32 (ab:Int) (ac:Int)=(ad:Int):=by rw[u,r];exact aaA R U G
   have an:ao ((B.b_ (a+b)<|k+1).2=ad):=by rw[ao,o,u]
   have:aA (bx wr) (N c 0)=ae (cP 51<|bv g)/\aA (bx wr) (N c 1)=ae (M a):=bd X Y
   have au:ao (∀l:aQ,cG bH g (bx wr) l->aA l (N c 0)=ae (cP 51<|bv g)/\aA l (N c 1)=ae (M a)):=λl j=>
    have n:=gX (w:=bx wr) j (V dL) p Q id
    ⟨bq.cell n 0 ax,bq.cell n 1 ax⟩
   clear d S Z p aw ay R o ar t ah aB u r;go_wp2
   go_region_held (λaa=>aA aa (N c 0)=ae (cP 51<|bv g)/\aA aa (N c 1)=ae (M a)) (first|assumption|go_keep)
    (first|(go_at_call 130;go_loud (refine az.m ?_;rintro aa ⟨F,q⟩;have:=V au aa q)))
   all_goals
    have ap:=O F;have aq:=O<|dm (V eN)<|dm kH q;clear F q;go_wp2;exact⟨⟨k+1,by rw[V an],dd,G,by have:=V ap;rw[V am];exact this,aq⟩,dz⟩
  ·exact Np
def J6{o:Nat}(b:Nat){k}(n)(i:fZ n c z v g a L o k)(q:a<=100000)(r:b<=100):a_ aL 183 #[bv c,M b] n λh p=>h=bh (M ((a+1536*b:Nat):Int))/\p=n:=by have l:=bq.cell i 2 ax;simp only[fN,eB,eG]at l;go_wp2;go_ret;simp
def Sp{d}{k}(b)(i:fZ b c z v L g d a k)(p:a<65536):a_ aL 222 #[bv c] b λh o=>h=bh (M ((260+8*(a%8):Nat):Int))/\o=b:=by have l:=bq.cell i 4 ax;simp only[fN,eB,eG]at l;let:0<=(a:Int)%8:=G;go_wp2;go_ret;simp
def aaB{i}{k}(l:fZ b a z g c v L i k)(h:Nat):fZ (a7 b ⟨a,3,af⟩<|ag eO h) a z g c v h i k:=bq.set l 3<|ag eO h
def Sq{h}{d}(l:fZ b a z g c v L h d)(s j):fZ (a7 b ⟨a,5+s,af⟩<|aG j) a z g c v L h (d.set s j):=by let:=bq.set l (5+s)<|aG j;let n:([cP 51<|bv g,M c,M v,ag eO L,ag eO h]++d.map aG:List bk).set (5+s) (aG j)=[cP 51<|bv g,M c,M v,ag eO L,ag eO h]++(d.set s j).map aG:=by{rw[sK _ _ ax,DK];simp};grind[fZ]
def Z7(a):(Instr.makeSlice 61 (M 8)<|M 8).run aL a=.ok (bL (J a.1) 0 8 8) (aN a<|aZ #[ag ai 0,ag ai 0,ag ai 0,ag ai 0,ag ai 0,ag ai 0,ag ai 0,ag ai 0] 3):=b6
def F2(b:Nat):List bk:=(List.range 8).map λa:Nat=>ag ai (if a<b then a else 0:Nat)
def Z8(b:a<8):(F2 a).set a (M a)=F2 (a+1):=by
 match a,b with
 |0,_=>rfl
 |1,_=>rfl
 |2,_=>rfl
 |3,_=>rfl
 |4,_=>rfl
 |5,_=>rfl
 |6,_=>rfl
 |7,_=>rfl
def Z9(a):a_ aL 125 #[] a λl e=>l=bh (bL (J a.1) 0 8 8)/\bq e (J a.1) ((List.range 8).map λr:Nat=>ag ai r) 3/\J e.1=J a.1+1/\a6 a e:=by
 let:=Z7 a;let t:ao (bq (aN a<|aZ #[ag ai 0,ag ai 0,ag ai 0,ag ai 0,ag ai 0,ag ai 0,ag ai 0,ag ai 0] 3) (J a.1) (F2 0) 3):=bq.fF a _ _;let n:=O<|(cU (J a.1) a).alloc bo<|aZ #[ag ai 0,ag ai 0,ag ai 0,ag ai 0,ag ai 0,ag ai 0,ag ai 0,ag ai 0] 3;go_wp2;go_loopw [6] (λd wr=>∃b:Nat,d=M b/\b<=8/\bq wr (J a.1) (F2 b) 3/\J wr.1=J a.1+1/\a6 a wr) λd _=>8-cM (fj d);·exact⟨0,U,G,t,ax,n⟩
 ·(obtain⟨b,rfl,u,c,q,o⟩:=hrel;let j:=O c;let g:=O q;let i:=O o;by_cases p:b<8;{obtain⟨x,w⟩:∃v,aA wr ⟨J a.1,b,af⟩=ae v:=eR _<|c.cell b fi;let:=c.frozen;have h:=O<|c.set b<|M b;rw[Z8 p]at h;go_wp2;exact⟨⟨b+1,dd,G,h,by simpa [a7]using V g,i.setCell bo _⟩,dz⟩};{have k:b=8:=G;subst k;go_wp2;go_ret;exact⟨U,j,g,i⟩})
abbrev ms:List Bool:=[ak,ak,ak,ak,ak,ak,ak,ak]
def qj{n}{l}(i:fZ b c z a g v L n l)(s)(j:l[s]? = ae t):aA b (N c<|5+s)=ae (aG t):=by let:=iW.1 j;let:=bq.cell i (5+s) (by grind);grind
def Z_{l j:Nat}{h}(k:fZ b g z v L l j c h)(x:a<8)(n:h[a]? = ae aD)(y:c<65536):a_ aL 220 #[bv g,ag .u32 a] b λt i=>t=bh (bZ #[M a,aG aD])/\fZ i g z v L l j ((c+1)%65536) (h.set a ak)/\ey g b i/\J i.1=J b.1:=by
 let⟨u1,o⟩:=bm<|(c+1)%65536;rw[<-o];have w:eO.wrap ((c:Int)+1)=(u1:Int):=by rw[AN];omega
 have:=qj k a n;have:=bq.frozen k;have d:=Sq k a ak;have cB:=bq.cell d 4 ax;have r:=bq.cell k 4 ax;simp only[fN,eB,eG]at cB r;have:=bq.frozen d;have u:=O<|bq.set d 4<|ag eO u1;let:¬8<=(a:Int):=G;clear k d o n;go_wp2;refine dQ (v:=bZ #[ag ai a,aG aD]) ?_ U ?_;{simp[c_,results220,go_sem]};{exact⟨U,u,jx (jx (lI _ _) _ _) _ _,ax⟩}
def jk(a:List Bool):Nat:=E<|a.filter id
def Sr(b:List Bool)(a)(c:a<E b):jk (be (a+1) b)=jk (be a b)+(if(b[a]?.getD ak)=aD then 1 else 0):=by unfold jk;rw[fs c,Dg];rw[g8 c,qV,dj];grind
def aaa{h i j c d e}:(Instr.index 151 (ce #[aG t,aG H,aG h,aG i,aG j,aG c,aG d,aG e])<|M 0).run aL b=.ok (aG t) b:=b6
def aab{h i j c d e}:(Instr.index 151 (ce #[aG t,aG H,aG h,aG i,aG j,aG c,aG d,aG e])<|M 1).run aL b=.ok (aG H) b:=b6
def aac{a i j c d e}:(Instr.index 151 (ce #[aG t,aG H,aG a,aG i,aG j,aG c,aG d,aG e])<|M 2).run aL b=.ok (aG a) b:=b6
def aad{i a j c d e}:(Instr.index 151 (ce #[aG t,aG H,aG i,aG a,aG j,aG c,aG d,aG e])<|M 3).run aL b=.ok (aG a) b:=b6
def aaC{i j a c d e}:(Instr.index 151 (ce #[aG t,aG H,aG i,aG j,aG a,aG c,aG d,aG e])<|M 4).run aL b=.ok (aG a) b:=b6
def aa6{h i j a c d}:(Instr.index 151 (ce #[aG t,aG H,aG h,aG i,aG j,aG a,aG c,aG d])<|M 5).run aL b=.ok (aG a) b:=b6
def aa7{h i j c a d}:(Instr.index 151 (ce #[aG t,aG H,aG h,aG i,aG j,aG c,aG a,aG d])<|M 6).run aL b=.ok (aG a) b:=b6
def aa8{h i j c d a}:(Instr.index 151 (ce #[aG t,aG H,aG h,aG i,aG j,aG c,aG d,aG a])<|M 7).run aL b=.ok (aG a) b:=b6
def aa9(g h i j k c d e)(n:a<8)(b):(Instr.index 151 (ce #[aG g,aG h,aG i,aG j,aG k,aG c,aG d,aG e])<|M (a:Int)).run aL b=.ok (aG<|[g,h,i,j,k,c,d,e][a]?.getD ak) b:=by have l:a=0\/a=1\/a=2\/a=3\/a=4\/a=5\/a=6\/a=7:=G;rcases l with rfl|rfl|rfl|rfl|rfl|rfl|rfl|rfl;{exact aaa};{exact aab};{exact aac};{exact aad};{exact aaC};{exact aa6};{exact aa7};{exact aa8}
def aa_{D I}{h j k i d e}(l:fZ b a z D c g v I [t,h,H,j,k,i,d,e]):a_ aL 248 #[bv a] b λB K=>B=bh (M<|jk [t,h,H,j,k,i,d,e])/\K=b:=by
 have:=qj l 0 U;have:=qj l 1 U;have:=qj l 2 U;have:=qj l 3 U;have:=qj l 4 U;have:=qj l 5 U;have:=qj l 6 U;have:=qj l 7 U;go_wp2;go_loopw [3,10] (λF q wr=>∃o:Nat,F=M (jk ([t,h,H,j,k,i,d,e].take o):Nat)/\q=M o/\o<=8/\wr=b) λ_ q _=>8-cM (fj q);·exact⟨0,U,U,G,U⟩
 ·(
 obtain⟨o,rfl,rfl,N,rfl⟩:=hrel;by_cases C:o<8;{
 have:=aa9 t h H j k i d e C wr;have u:=O<|Sr [t,h,H,j,k,i,d,e] o fi;have L:jk ([t,h,H,j,k,i,d,e].take o)<=8:=by{grind[jk]};generalize [t,h,H,j,k,i,d,e][o]?.getD ak=y,jk ([t,h,H,j,k,i,d,e].take o)=r at*;let⟨x,n⟩:=bm<|jk<|[t,h,H,j,k,i,d,e].take<|o+1;rw[<-n]at u;replace n:=O n;cases y with
 |true=>{
 have p:x=r+1:=fi
 have:(r:Int)+1=x:=G;clear p u;go_wp2;exact⟨⟨o+1,by rw[n],dd,G,cy⟩,dz⟩}
 |false=>{
 have p:x=r:=fi
 subst p;go_wp2;exact⟨⟨o+1,by rw[n],dd,G,cy⟩,dz⟩}};{have A:o=8:=G;subst A;go_wp2;go_ret;simp})
def cq.rE(c:cq)(b d e:Nat):Nat->cq
 |0=>c
 |a+1=>((((c.rE b d e a).fo (b+16*a) (d+1536*a) 8).fo (b+(16*a+8)) 1536 4).fo (b+(16*a+12)) e 2).fo (b+(16*a+14)) 0 2
def cq.off(a:cq)(ba av:Nat):List Nat->cq
 |[]=>a.fo (ba+130) av 2
 |s::l=>(a.fo (ba+(132+2*(av%8))) s 2).off ba ((av+1)%65536) l
def cq.AE(a:cq):cq:=(((a.rE 0 1024 2 8).rE 512 13312 0 8).off 512 0 []).off 0 0 [0,1,2,3,4,5,6,7]
def cq.gv(c:cq)(b:Nat):Nat->cq×ap
 |0=>(c,[])
 |a+1=>((c.gv b a).1.uA<|b+a,(c.gv b a).2++[(c.gv b a).1.tL<|b+a])
def cq.nH(b:cq)(c:Nat)(l:ap):Nat->cq
 |0=>b
 |a+1=>(b.nH c l a).st (c+a)<|l.getD a 0
def lT(a b:Nat):Nat:=(a+65536-b)%65536
def lD(b:cq)(a:Nat)(c:List Bool):Nat->cq×Nat×List Bool×Bool
 |0=>(b,a,c,aD)
 |d+1=>if c[(b.b_ (512+(260+8*(a%8))) 4).2]? = ae aD then lD (b.b_ (512+(260+8*(a%8))) 4).1 ((a+1)%65536) (c.set (b.b_ (512+(260+8*(a%8))) 4).2 ak) d else((b.b_ (512+(260+8*(a%8))) 4).1,a,c,ak)
structure cw where
 s:cq
 ra:Nat
 eH:Nat
 sa:Nat
 eW:Nat
 o:List Bool
 n:Nat
 t:Nat
 d:Nat
 b:Bool
def kJ:ap:=[0,0,0,0,0,0,0,0,0,0,0,0]
def cw.snd(a:cw)(f:ap):cw:=
 match a.6.findIdx? (· == ak)with
 |none=>{a with d:=a.9+1}
 |some b=>{a with s:=((a.1.nH (13312+1536*b) (kJ++f)<|12+E f).fo (512+(16*b+8)) (12+E f) 4).off 512 a.4 [b],sa:=(a.4+1)%65536,o:=a.6.set b aD,t:=a.8+1}
def cw.ans(a:cw)(b:ap->ap)(f:ap):cw:=if b f=[]then {a with n:=a.7+1} else cw.snd {a with n:=a.7+1} (b f)
def cw.lB(a:cw):cq×Nat:=a.1.b_ (260+8*(a.3%8)) 4
def cw.gT(a:cw):cq×Nat:=a.lB.1.b_ (260+8*(a.3%8)+4) 4
def cw.vJ(b:cw)(c a:cq×Nat):cw×Option ap:=
 if c.2<8/\12<=a.2/\a.2<=1536 then
  ({b with s:=(a.1.gv (1024+1536*c.2+12)<|a.2-12).1.off 0 b.2 [c.2],ra:=(b.2+1)%65536,eH:=(b.3+1)%65536},ae (a.1.gv (1024+1536*c.2+12)<|a.2-12).2)
 else({b with s:=a.1},af)
def cw.kM(a:cw):cw×Option ap:=a.vJ a.lB a.gT
def wv(e:cw->cw×Option ap)(d:cw->ap->cw):Nat->cw->cw
 |0,a=>a
 |g+1,a=>match e a with
  |(c,none)=>{c with b:=aD}
  |(c,some f)=>wv e d g<|d c f
def NN(h:φ:=by rw[wv];generalize nx Y=q at*;let⟨Z,o⟩:=q;cases h;rfl):φ:=h
def Ss{nx:cw->cw×Option ap}{m:cw->ap->cw}{Y:cw}(h:(nx Y).2=af):wv nx m (a+1) Y = {(nx Y).1 with b:=aD}:=by exact NN
def Su{nx:cw->cw×Option ap}{f:cw->ap->cw}{Y:cw}(h:(nx Y).2=ae d):wv nx f (a+1) Y=wv nx f a (f (nx Y).1 d):=by exact NN
def cw.pY(a:ap->ap)(b:cw)(d:Nat):cw:=wv cw.kM (λc f=>c.ans a f) d b
def cw.lC(a:cw):cw:=
 if lT (a.1.b_ 770 2).2 a.5<=jk a.6 then
  {a with s:=(lD (a.1.b_ 770 2).1 a.5 a.6<|lT (a.1.b_ 770 2).2 a.5).1,eW:=(lD (a.1.b_ 770 2).1 a.5 a.6<|lT (a.1.b_ 770 2).2 a.5).2.1,o:=(lD (a.1.b_ 770 2).1 a.5 a.6<|lT (a.1.b_ 770 2).2 a.5).2.2.1,b:=!(lD (a.1.b_ 770 2).1 a.5 a.6<|lT (a.1.b_ 770 2).2 a.5).2.2.2}
 else {a with s:=(a.1.b_ 770 2).1,b:=aD}
def cw.IA(c:ap->ap)(a:cw):cw:=
 if lT (a.1.b_ 258 2).2 a.3<=8 then cw.pY c {a with s:=(a.1.b_ 258 2).1} (lT (a.1.b_ 258 2).2 a.3)else {a with s:=(a.1.b_ 258 2).1,b:=aD}
def cw.tN(b:ap->ap)(a:cw):cw:=if a.10 then a else if a.lC.10 then a.lC else cw.IA b a.lC
def zB(h:B.Ok a)(d e g:Nat):∀b,(B.rE d e g b).Ok<|a+16*b
 |0=>h
 |b+1=>oP (jp (jp (jp (jp (zB h d e g b) _ _ 8) _ _ 4) _ _ 2) _ _ 2) G
def ay{ba:Nat}:∀{l:List Nat} {c:cq} {b av:Nat},c.Ok b->(c.off ba av l).Ok (b+2*E l+2)
 |[],_,_,_,a=>jp a _ _ 2
 |s::l,_,_,_,a=>oP (ay (l:=l) (jp a _ s 2)) (by rw[dW];omega)
def BG(d:B.Ok a)(e:Nat):∀b,(B.gv e b).1.Ok<|a+b
 |0=>d
 |b+1=>So (BG d e b) _
def J7(d:B.Ok a)(g:Nat)(e:ap):∀b,(B.nH g e b).Ok<|a+b
 |0=>d
 |b+1=>aH (J7 d g e b) _ _
def F4(b:cq)(c:Nat):∀a,E (b.gv c a).2=a
 |0=>U
 |a+1=>by rw[cq.gv,dj,F4 b c a];rfl
def kd{w:aQ}{j:Nat}{i:List Bool}(q:fZ w c z a g v L j i)(n:cG A a w b)(p:cZ w a B)(r:oJ z)(o:¬A c):fZ b c z a g v L j i:=gX n p q r o
def vi{k:List bk}(e:cZ b a B)(o:bq b c k z)(q:oJ z)(p:∀d,d<J b.1->d≠c->f.1[d]? = b.1[d]?):cZ f a B:=
 zA e λd g=>p d (by obtain⟨r,z,n,_⟩:=ui e g;exact(dK.1 n).1) λl=>BF e o q<|l▸g
def q9{w:aQ}(a:cZ w c B)(g:a6 w b):cZ b c B:=
 zA a λi h=>g.5 i (by obtain⟨j,k,e,_⟩:=ui a h;exact(dK.1 e).1)
def ir{b:Nat}(a:cZ f b B):b<J f.1:=by let⟨e,g,h,i,a⟩:=a;exact qg a.1
def vj{g:List bk}(i:cZ b a B)(j:bq b c g z)(k:oJ z):a≠c:=λh=>BF i j k<|bJ<|b5 h
def Sv{D:Nat}(e:Nat){Q:Nat}{N:List Bool}(al:cZ b g B)(aw:fZ b c z g a v D L N)(H:oJ z)(a5:a<=1000)(a3:v<=20000)(bc:e<65536)(ap:B.Ok Q)(a9:Q<=900000000000):a_ aL 123 #[bv c,M e] b λw j=>w=bh (bZ #[])/\cZ j g (B.rE a v e 8)/\cG bH g b j:=by
 have Y:=O al;have aM:=O aw;have aP:=O ap;clear al aw ap;go_wp2;go_loopw [6] (λK wr=>∃h:Nat,K=M h/\h<=8/\cZ wr g (B.rE a v e h)/\cG bH g b wr) λK _=>8-cM (fj K);·exact⟨0,U,G,Y,qJ _ _ _⟩
 ·(
 obtain⟨h,rfl,ba,y,x⟩:=hrel;have k:=kd (V aM) x (V Y) H id;have Z:=O y;have ab:=O x;by_cases bb:h<8;{
 have t:ao (∀(n:aQ) (u:cq) (q size i A:Nat),cZ n g u->fZ n c z g a v D L N->size<=8->q<=300->i<4294967296->u.Ok A->A<=900000000200->a_ aL 182 #[bv c,M q,M size,M i] n λw j=>w=bh (bZ #[])/\cZ j g (u.fo (a+q) i size)/\fZ j c z g a v D L N/\cG bH g n j):=λn u q size i A am an aS a6 aT aU a8=>(F0 q size i am an H aS G aT aU G).mono λw j ⟨r,aO,X⟩=>⟨r,aO,kd an X am H id,X⟩;have⟨r,au⟩:=bm<|16*h;have:16*(h:Int)=r:=G;have⟨p,S⟩:=bm<|r+8;have:(r:Int)+8=p:=G;have⟨o,T⟩:=bm<|r+12;have:(r:Int)+12=o:=G;have⟨l,W⟩:=bm<|r+14;have:(r:Int)+14=l:=G;have⟨i,I⟩:=bm<|v+1536*h;have C:=O<|J6 h wr k G G;rw[<-I]at C;have P:=zB (V aP) a v e h;have aJ:ao (B.rE a v e (h+1)=((((B.rE a v e h).fo (a+r) i 8).fo (a+p) 1536 4).fo (a+o) e 2).fo (a+l) 0 2):=by rw[ao,cq.rE,I,W,T,S,au]
 have R:=O<|t wr _ r 8 i _ y k G G G P G;generalize B.rE a v e h=a4 at*;have d:=O P;have aV:p<=300:=G;have a1:o<=300:=G;have aK:l<=300:=G;clear y x au S T W I P k;go_wp2_with fail;refine C.m ?_;rintro wr rfl;go_wp2_with fail;refine R.m ?_;rintro aC ⟨av,k,ac⟩;have ad:ao (a_ aL 182 #[bv c,M p,M 4,M 1536] aC _):=V t aC _ p 4 1536 _ av k G aV G (jp (V d) _ _ 8) G;have aW:=O<|dm (V ab) ac;clear av k ac R C Z;go_wp2_with fail;refine ad.m ?_;rintro aF ⟨aa,ar,aq⟩;have aB:ao (a_ aL 182 #[bv c,M o,M 2,M e] aF _):=V t aF _ o 2 e _ aa ar G a1 G (jp (jp (V d) _ _ 8) _ _ 4) G;have aX:=O<|dm (V aW) aq;clear aa ar aq ad;go_wp2_with fail;refine aB.m ?_;rintro aH ⟨aj,ax,ah⟩;have az:ao (a_ aL 182 #[bv c,M l,M 2,M 0] aH _):=V t aH _ l 2 0 _ aj ax G aK G (jp (jp (jp (V d) _ _ 8) _ _ 4) _ _ 2) G;have a0:=O<|dm (V aX) ah;clear aj ax ah aB;go_wp2_with fail;refine az.m ?_;rintro bf ⟨F,a2,ay⟩;rw[<-V aJ]at F;have aI:=O F;have aY:=O<|dm (V a0) ay;clear F a2 ay az;go_wp2;exact bd (⟨h+1,dd,G,aI,aY⟩) dz};{have aR:h=8:=G;subst aR;clear y x;go_wp2;refine kh (v:=bZ #[]) (by simp[c_,results123]) U ?_;exact⟨U,Z,ab⟩})
def xF(a:List Bool):List Nat->List Bool
 |[]=>a
 |s::b=>xF (a.set s aD) b
def J8{ah:Nat}(y aX:Nat){I:Nat}{H:List Bool}(k:List Nat)(K:Option Addr)(t:cZ b a B)(aF:fZ b c z a g v L ah H)(x:oJ z)(br:g<=1000)(bn:L<65536)(aY:E H=8)(aH:∀s∈k,s<8)(bl:E k<=8)(ay:B.Ok I)(bs:I<=900000000000)(a3:K=af\/K=ae (N y 0))(aB:K=af->k=[])(ar:∀ac (bt:ac<E k),aA b (N y ac)=ae (M (k[ac]:Nat)))(al:k≠[]->y<J b.1/\y≠c/\¬eD b a y):a_ aL 124 #[bv c,aE K (E k) aX] b λA aj=>A=bh (bZ #[])/\cZ aj a (B.off g L k)/\fZ aj c z a g v ((L+E k)%65536) ah (xF H k)/\cG (λe=>e=c) a b aj:=by
 have⟨ap,ab⟩:=bm<|B.off g L k;have⟨an,aa⟩:=bm<|xF H k;rw[<-ab,<-aa];have aI:=O<|cj ab aa;have aW:=O t;have aT:=O aF;have bi:=O ar;have aP:=O al;have aR:=O aH;have bc:=O aB;have aU:=O ay;clear t aF ab aa ar al aH aB ay;go_wp2;go_loopw [8] (λe wr=>∃(h d:Nat) (r:cq) (F:List Bool),e=M h/\h<=E k/\(r.off g d (k.drop h)=ap/\xF F (k.drop h)=an/\r.Ok (I+2*h))/\d=(L+h)%65536/\E F=8/\cZ wr a r/\fZ wr c z a g v d ah F/\cG (λe=>e=c) a b wr) λe _=>E k-cM (fj e);·exact⟨0,L,B,H,U,dJ _,⟨b5 aI.1,b5 aI.2,aU⟩,G,aY,aW,aT,qJ _ _ _⟩
 ·(
 obtain⟨h,d,r,F,rfl,bu,l,W,a8,w,j,C⟩:=hrel;have ad:=O l;have au:=O W;have:d<65536:=G;by_cases D:h<E k;{
 have:=V aR k[h]<|ei D;have P:k≠[]:=λA=>by rw[A]at D;simp at D
 have⟨a4,a5,a6⟩:=V aP P;have:=(dR<|C.5 y a4 a5 a6).trans<|bi h D;have aS:=a3.resolve_left λA=>P<|bc A;have aq:=O<|jM D;generalize k[h]=s at*;subst aS;have⟨R,aC⟩:=bm<|132+2*(d%8);have⟨ee,bb⟩:=bm<|d%8;have:(d:Int)%8=ee:=G;have:132+2*(ee:Int)=R:=G;have⟨n,az⟩:=bm<|(d+1)%65536;have bp:eO.wrap ((d:Int)+1)=(n:Int):=by rw[AN];omega
 have:ee<8:=G;have am:=O<|F0 R 2 s w j x G G G l.2.2 G;have X:=bq.cell j 3 ax;simp only[fN,eB,eG]at X;have aV:ao ((r.fo (g+R) s 2).off g n (k.drop<|h+1)=ap/\xF (F.set s aD) (k.drop<|h+1)=an/\(r.fo (g+R) s 2).Ok (I+2*(h+1))):=by{have⟨aJ,aK,bf⟩:=V ad;rw[V aq]at aJ aK;exact⟨by rw[<-aJ,cq.off,aC,az],by rw[<-aK,xF],jp bf _ _ 2⟩};have p:=O<|cj j w;have Y:=O C;have bj:ao (n=(L+(h+1))%65536):=by have:=V au;rw[ao];omega
 clear w j C l ad aq aC bb az W;go_wp2_with fail;refine am.m ?_;rintro T ⟨q,o⟩;have u:=kd p.1 o p.2 x id;have hN:=bq.cell u 3 ax;simp only[fN,eB,eG]at hN;have:=bq.frozen u;have Q:=aaB u n;obtain⟨bw,bo⟩:∃S,aA (a7 T ⟨c,3,af⟩<|ag eO n) (N c<|5+s)=ae S:=eR _<|bq.cell Q (5+s) ct;have:=bq.frozen Q;have aM:=O<|Sq Q s aD;have Z:ey c T (a7 (a7 T ⟨c,3,af⟩<|ag eO n) ⟨c,5+s,af⟩<|aG aD):=jx (jx (lI _ _) _ _) _ _;have bd:=O<|vi q u x λe aO P=>Z.5 e aO P;have ba:=O<|dm (V Y)<|dm (h7 o λ_ t=>t.elim)<|tf (L:=λe=>e=c) Z U (vj q u x) (ir q);clear q o u Q Z am p Y;go_wp2;exact⟨⟨h+1,n,_,_,dd,G,aV,bj,by rw[o4];exact a8,bd,aM,ba⟩,dz⟩};{have a0:h=E k:=G;subst a0;rw[tl,cq.off,xF]at l;have av:ao (a_ aL 182 #[bv c,M 130,M 2,M d] wr _):=F0 130 2 d w j x G G G l.2.2 G;have X:=bq.cell j 3 ax;simp only[fN,eB,eG]at X;have p:=O<|cj j w;have Y:=O C;have aw:=O l;clear w j C l ad W;go_wp2_with fail;refine av.m ?_;rintro T ⟨q,o⟩;have a9:=O<|kd p.1 o p.2 x id;have a1:=O q;have a2:=O<|dm (V Y)<|h7 o λ_ t=>t.elim;clear q o p Y av;go_wp2;refine kh (v:=bZ #[]) (by simp[c_,results124]) U ?_;rw[<-aw.1,<-aw.2.1,<-V au];exact⟨U,a1,a9,a2⟩})
def nu(e:aQ)(g h d:Nat)(b c:ap)(a:cw):Prop:=
 bq e g ([bv h,aS b,aS c,bv d]++(a.6.map aG++[M a.4,M a.5,M a.2,M a.3,M a.7,M a.8,M a.9,aG a.10])) 153
def q_(b size v:Nat){h}(I:cZ h a B)(aa:size<=8)(Z:b+size<=25600)(ab:v<4294967296)(L:B.Ok c)(W:c+size<=1000000000000):a_ aL 66 #[bv a,M b,M size,M v] h λC w=>C=bh (bZ #[])/\cZ w a (B.fo b v size)/\cG bH a h w:=by
 have cA:=O I;have A:=O L;go_wp2;go_loopw [8] (λk wr=>∃n:Nat,k=M n/\n<=size/\cZ wr a (B.fo b v n)/\cG bH a h wr) λk _=>size-cM (fj k);·exact G3
 ·(
 obtain⟨n,rfl,X,P,N⟩:=hrel;have o:=O P;have p:=O N;by_cases Y:n<size;{
 have⟨l,t⟩:=bm<|b+n;have⟨g,u⟩:=bm<|8*n;have⟨x,r⟩:=bm<|v/2^g;have⟨e,j⟩:=bm<|UInt8.ofNat x;have S:ai.wrap ((b:Int)+n)=(l:Int):=fl
 have T:ai.wrap (8*(n:Int))=(g:Int):=fl
 have D:ch.wrap (x:Int)=(bg e:Int):=by rw[ur,j,pB];omega
 have F:(v:Int)/2^g%256=(bg e:Int):=by simp_all
 have⟨_,_,Q,R⟩:=jp (V A) b v n;have y:=O<|BE l e wr (V o) G G G;have z:ao ((B.fo b v n).st l e=B.fo b v (n+1)):=by rw[ao,cq.fo,t,j,r,u]
 have:g<64:=G;clear t u r j D Q R;go_wp2_with fail;rw[F];refine y.m λac ⟨i,q⟩=>?_;rw[V z]at i;have H:=O i;have K:=O<|dm (V p) q;clear i q;go_wp2;exact bd (⟨n+1,dd,G,H,K⟩) dz};{have d:n=size:=G;subst d;go_wp2;exact kh (v:=bZ #[]) (by simp[c_,results66]) U ⟨U,o,p⟩})
def BH(q size:Nat)(b j)(F:cZ j c b)(al:size<=4)(aj:q+size<=25600)(I:b.Ok a)(ac:a+size<=1000000000000):a_ aL 128 #[bv c,M q,M size] j λC w=>C=bh (M (b.b_ q size).2)/\cZ w c (b.b_ q size).1/\cG bH c j w:=by
 have z:=O F;have y:=O I;go_wp2;go_loopw [7,8] (λQ p wr=>∃k:Nat,Q=M (b.b_ q k).2/\p=M k/\k<=size/\cZ wr c (b.b_ q k).1/\cG bH c j wr) λ_ p _=>size-cM (fj p);·exact⟨0,U,U,dJ _,z,qJ _ _ _⟩
 ·(
 obtain⟨k,rfl,rfl,ad,L,K⟩:=hrel;have dL:=O L;have eN:=O K;by_cases ah:k<size;{
 have⟨d,u⟩:=bm<|q+k;have⟨i,W⟩:=bm<|8*k;have Z:ai.wrap ((q:Int)+k)=(d:Int):=fl
 have aa:ai.wrap (8*(k:Int))=(i:Int):=fl
 have⟨R,S,_⟩:=qi (V y) q k;have n:b.b_ q (k+1)=((b.b_ q k).1.uA d,(b.b_ q k).2+bg ((b.b_ q k).1.tL d)*2^(8*k)):=by rw[cq.b_,u]
 have A:=O n;have T:=O<|FY d wr (V dL) G G G;have:=gp<|(b.b_ q k).1.tL d;have o:=th b q<|k+1;rw[n]at o;simp only at o;generalize (b.b_ q k).2=l,TZ:bg ((b.b_ q k).1.tL d)=h at*;have X:(2:Nat)^(8*(k+1))<=2^32:=Df G G;have⟨g,P⟩:=bm<|l+h*2^(8*k);have⟨e,N⟩:=bm<|h*2^(8*k);have:g<4294967296:=G;have:e<4294967296:=G;have x:g=l+e:=G;have ab:wrap64 ((h:Int)*2^i)=(e:Int):=by{rw[show(h:Int)*2^i=(e:Int) by grind];exact IntWalk.wrap64_in _<|bd G G};have Y:wrap64 ((l:Int)+e)=(g:Int):=by{rw[show(l:Int)+(e:Int)=(g:Int) by omega];exact IntWalk.wrap64_in _<|bd G G};have B:ao ((b.b_ q<|k+1).2=g):=by grind
 have:i<64:=G;clear u W R S n o TZ X P N x;go_wp2_with fail;refine T.m λam ⟨r,t⟩=>?_;have D:=O r;have H:=O<|dm (V eN) t;clear r t;go_wp2;exact⟨⟨k+1,by rw[V B];grind,dd,G,by have:=V D;rw[V A];omega,H⟩,dz⟩};{exact Np})
abbrev sw:List Bool:=[aD,aD,aD,aD,aD,aD,aD,aD]
abbrev J9(c:Nat)(a b:Int):Array bk:=#[cP 51<|bv c,M a,M b,ag eO 0,ag eO 0,aG ak,aG ak,aG ak,aG ak,aG ak,aG ak,aG ak,aG ak]
def aba(w:aQ)(g:cZ w a B)(L:B.Ok c)(a4:c<=800000000000):a_ aL 65 #[cP 51<|bv a] w λar o=>ar=bh (bZ #[bv<|J w.1,bv<|J w.1+1])/\cZ o a B.AE/\fZ o (J w.1) 221 a 0 1024 8 0 sw/\fZ o (J w.1+1) 222 a 512 13312 0 0 ms/\cG bH a w o:=by
 have Z:=ir g;let⟨j,n⟩:=bm<|aN (aN w<|aZ (J9 a 0 1024) 221)<|aZ (J9 a 512 13312) 222;have P:a6 w j:=by rw[n];exact(cc.alloc bo _).alloc ax _
 have A:=q9 g P;have D:fZ j (J w.1) 221 a 0 1024 0 0 ms:=by rw[n];exact(bq.fF w _ _).alloc _
 have aU:fZ j (J w.1+1) 222 a 512 13312 0 0 ms:=by
  have:=bq.fF (aN w<|aZ (J9 a 0 1024) 221) ([cP 51<|bv a,M (512:Nat),M (13312:Nat),ag eO (0:Nat),ag eO (0:Nat)]++ms.map aG) 222;rw[eE]at this;rw[n];exact this
 have a5:J j.1=J w.1+2:=by rw[n];simp
 have aj:cG (λb=>J w.1<=b) a w j:=n5 P Z;go_in;go_wp2_with fail;rw[<-n];generalize aW:J w.1=p at*;let aa:=O aW;let R:∀{b:Nat},False->p<=b:=λg=>g.elim;let ad:ao (a_ aL 123 #[bv p,M 2] j _):=Sv 2 A D bW G G G L G;refine ad.m λaY ⟨z,r⟩=>?_;let az:=kd D r A bW id;let S:=kd aU r A bW id;let X:=zB L 0 1024 2 8;let au:ao (a_ aL 123 #[bv<|p+1,M 0] aY _):=Sv 0 z S bW G G G X G;let al:=dm aj<|h7 r λ_=>R;go_wp2_with fail;refine au.m λa0 ⟨W,u⟩=>?_;let aB:=kd az u z bW id;let aq:=kd S u z bW id;let Y:=zB X 512 13312 0 8;let aR:ao (a_ aL 124 #[bv<|p+1,bX] a0 _):=J8 0 0 [] af W aq bW G G U (λs aI=>by cases aI) ax Y G (bJ U) (λ_=>U) (λy hj=>AF) λaF=>absurd U aF;let am:=dm al<|h7 u λ_=>R;go_wp2_with fail;refine aR.m λd ⟨h,I,H⟩=>?_;let V:=kd aB H W bW G;let aT:=ay (ba:=512) (av:=0) (l:=[]) Y;let ac:=dm am<|h7 (K:=λb=>p<=b) H λb g=>G;let ap:=O<|Z9<|bx d;let aH:=bq.lt V;let ah:=O (fun(e:aQ) (aw:bq e (J d.1) ((List.range 8).map λaP:Nat=>ag ai aP) 3) (a3:J e.1=J d.1+1) (t:Below (J d.1) (bx d) e)=>
  J8 (J d.1) 8 [0,1,2,3,4,5,6,7] (ae<|N (J d.1) 0) (q9 (w:=bx d) h t) ((t.5 p aH).trans V) bW G G U bW ax aT ct (bE U) (λg=>by cases g) (λy hj=>by
   have:=aw.cell y AA;rw[this]
   match y,hj with
   |0,_|1,_|2,_|3,_|4,_|5,_|6,_|7,_=>rfl) (λ_=>⟨G,G,λx=>by
    let⟨a2,a8,aK,_⟩:=ui (w:=bx d) h (mH (t.5 a<|ir h) x);have:=(dK.1 aK).1;exact absurd this<|Nat.lt_irrefl _⟩))
 let aM:ao (∀(e k:aQ) (C:cq),Below (J d.1) (bx d) e->cG (λb=>b=p) a e k->cZ e a C->fZ k (p+1) 222 a 512 13312 0 0 ms/\cG bH a w k):=λe k C T Q aC=>by
  refine bd (kd ((T.5 (p+1)<|bq.lt I).trans I:fZ e _ _ _ _ _ _ _ _) Q aC bW G) ?_;let i:=dm (dm (dm ac kH)<|n5 T<|ir h)<|h7 (K:=λb=>p<=b) Q λb g=>G;exact⟨i.1,i.2,i.3,i.4,λb aO _ x=>i.5 b aO G x,i.6⟩
 replace h:=O h;go_wp2
 go_region_held (λo=>True) (trivial)
  (first
   |(go_at_call 125;go_loud (refine ap.m λe ⟨aJ,an,q⟩=>?_))
   |(go_at_call 124;go_loud (refine(ah e aJ an q).m λk ⟨aS,a1,aV⟩=>?_)))
 all_goals
  let F:=O<|aM e k _ q aV<|q9 (w:=bx d) h q;let ab:=O aS;let aX:=O a1;go_wp2;refine dQ (v:=bZ #[cz<|ae ⟨p,0,af⟩,cz<|ae ⟨p+1,0,af⟩]) ?_ U ?_
  ·simp[c_,results65,go_sem]
  ·rw[aa];exact⟨U,ab,aX,F.1,F.2⟩
def BI(g a:Nat)(b:List Bool)(s:Nat)(d:Bool)(e:Nat)(c:List Bool):Prop:=if b[a]? = ae aD then s=a/\d=aD/\e=(g+1)%65536/\c=b.set a ak else d=ak/\e=g/\c=b
def Sw{h:Nat}(d:Nat){p:List Bool}(k:fZ b c z a g v L h p)(x:h<65536)(r:E p=8):a_ aL 220 #[bv c,ag .u32 d] b λi e=>∃(s:Nat) (u:Bool) (n:Nat) (l:List Bool),i=bh (bZ #[M s,aG u])/\fZ e c z a g v L n l/\BI h d p s u n l/\n<65536/\E l=8/\ey c b e:=by
 by_cases w:p[d]? = ae aD;{let D:=(iW.1 w).1;exact(Z_ k G w x).m λe ⟨A,B,F⟩=>⟨d,aD,_,_,U,A,by rw[BI,b8 w];exact⟨U,U,U,U⟩,qY _ G,by simp[r],B⟩};{
 let q:a_ aL 220 #[bv c,ag .u32 d] b λi e=>i=bh (bZ #[M 0,aG ak])/\e=b:=by{
 by_cases D:d<8;{
 let:aA b (N c<|5+d)=ae (aG ak):=by{
 cases j:p[d]? with
 |none=>rw[Pi]at j;omega
 |some y=>{
 cases y with
 |true=>exact absurd j w
 |false=>exact qj k d j}};let C:¬8<=(d:Int):=G;go_wp2;refine dQ (v:=bZ #[ag ai 0,aG ak]) ?_ U (bd U U);simp[c_,results220,go_sem]};{let C:8<=(d:Int):=G;go_wp2;refine dQ (v:=bZ #[ag ai 0,aG ak]) ?_ U (bd U U);simp[c_,results220,go_sem]}};refine q.m ?_;rintro e rfl;exact⟨0,ak,h,p,U,k,by rw[BI,bV w];exact⟨U,U,U⟩,x,r,lI _ _⟩}
def J_(a:List Bool)(k:E a=8):∃e g h i j b c d,a=[e,g,h,i,j,b,c,d]:=by
 match a,k with
 |[e,g,h,i,j,b,c,d],_=>exact⟨_,_,_,_,_,_,_,_,U⟩
def Sx{P y:Nat}{D:dP}{i:List Bool}(k:cZ b v B)(w:fZ b g D v c L P a i)(C:oJ D)(W:E i=8)(ad:c<=1000)(aj:a<65536)(A:B.Ok y)(ah:y<=900000000000):a_ aL 219 #[bv g] b λX j=>X=bh (bZ #[M<|lT (B.b_ (c+258) 2).2 a,aG<|dC<|lT (B.b_ (c+258) 2).2 a<=jk i])/\cZ j v (B.b_ (c+258) 2).1/\cG bH v b j:=by
 obtain⟨q,r,t,u,x,n,o,p,rfl⟩:=J_ i W;have ab:=th B (c+258) 2;have S:ao (a_ aL 221 #[bv g,M 258,M 2] (bx b) _):=F1 258 2 (bx b) k w C G G A G;have Q:=O k;have⟨d,l⟩:=bm<|lT (B.b_ (c+258) 2).2 a;rw[<-l];unfold lT at l;generalize (B.b_ (c+258) 2).2=H at*;have:=od (H:Int)
 have ac:eO.wrap ((H:Int)-a)=(d:Int):=by rw[AN];omega
 have cB:=bq.cell w 4 ax;simp only[fN,eB,eG]at cB;have:aA (bx b) (N g 4)=ae (ag eO a):=cB;have h:=O w;have Y:=iV (d:Int)
 have K:ao (dC ((d:Int)<=(jk [q,r,t,u,x,n,o,p]:Nat))=dC (d<=jk [q,r,t,u,x,n,o,p])):=by rw[ao,decide_eq_decide];omega
 clear k w l A ab;go_wp2
 go_region_held (λj=>aA j (N g 4)=ae (ag eO a)) (first|assumption|go_keep)
  (first|(go_at_call 221;go_loud (refine S.m λF ⟨aa,z⟩=>?_;have e:=kd (w:=bx b) (V h) z (V Q) C id;have:aA F (N g 4)=ae (ag eO a):=bq.cell e 4 ax)))
 all_goals
  have I:=O<|aa_ e;have T:=O aa;have Z:=O<|dm kH z;go_wp2_with fail;refine I.m ?_;rintro F rfl;go_wp2;refine dQ (v:=bZ #[ag ai d,aG<|dC<|d<=jk [q,r,t,u,x,n,o,p]]) ?_ U ?_
  ·rw[<-V K];simp[c_,results219,go_sem,Y]
  ·exact⟨U,T,Z⟩
def Hv(h:φ:=by rw[hf];unfold lT;omega):φ:=h
def Mk(h:φ:=by subst cX;go_wp2;go_ret;exact⟨U,agT,agU,by first|exact⟨hu,ho,oP GD.2 GD.1⟩|exact oP GD.2 GD.1,KJ⟩):φ:=h
def abb{h:Nat}{w:cw}(n:cZ b a w.1)(Q:fZ b h 222 a 512 13312 w.4 w.5 w.6)(ay:w.5<65536)(C:E w.6=8)(F:w.1.Ok c)(a8:c<=800000000000):a_ aL 179 #[bv h] b λac B=>ac=bh (aG !w.lC.10)/\cZ B a w.lC.1/\fZ B h 222 a 512 13312 w.4 w.lC.5 w.lC.6/\(w.lC.5<65536/\E w.lC.6=8/\w.lC.1.Ok (c+40))/\cG (λi=>i=h) a b B:=by
 have R:=O<|Sx n Q bW C G ay F G;have aH:jk w.6<=8:=by rw[jk,<-C];exact sH _ _
 have aq:=qi F (512+258) 2;have aa:=O n;have Y:=O Q;have⟨f,hf⟩:=bm<|lT (w.1.b_ (512+258) 2).2 w.5;have aT:f<65536:=Hv
 have⟨A,t⟩:=bm<|dC<|f<=jk w.6;have ap:ao (∀(d:cq×Nat×List Bool×Bool),(if A then lD (w.1.b_ (512+258) 2).1 w.5 w.6 f else((w.1.b_ (512+258) 2).1,w.5,w.6,ak))=d->(!w.lC.10)=d.2.2.2/\w.lC.1=d.1/\w.lC.5=d.2.1/\w.lC.6=d.2.2.1):=λd g=>by
  subst g;rw[cw.lC,<-hf];by_cases z:f<=jk w.6
  ·rw[b8 z,t,lx z];simp
  ·rw[bV z,t,fI z];simp
 rw[<-hf,<-t]at R;have aI:A=aD->f<=8:=λn=>by rw[t]at n;have:=oH n;omega
 have⟨d,g⟩:=du<|if A then lD (w.1.b_ (512+258) 2).1 w.5 w.6 f else((w.1.b_ (512+258) 2).1,w.5,w.6,ak)
 have⟨au,av,aw,ax⟩:=V ap d g;rw[au,av,aw,ax];have p:=O g;have aY:=O aq;generalize (w.1.b_ (512+258) 2).1=j at*;clear n Q hf t ap g au av aw ax aq F;generalize w.6=out,w.5=a2 at*;generalize w.4=Z at*;go_in;go_wp2_with fail;refine R.m λbc ⟨al,D⟩=>?_;have am:=O<|kd (V Y) D (V aa) bW id;have ab:=O al;have ad:=O<|h7 (K:=λi=>i=h) D λ_ n=>n.elim;clear al D Y aa R aH;go_wp2
 go_loopw [3,4] (λa3 a4 wr=>∃(m r l:Nat) (o:Bool) (j:cq) (k:List Bool),a4=aG o/\a3=M m/\m<65536/\(if o then lD j l k m else(j,l,k,ak))=d/\(o=aD->r+4*m<=c+40)/\(r<=c+40/\j.Ok r)/\cZ wr a j/\fZ wr h 222 a 512 13312 Z l k/\l<65536/\E k=8/\cG (λi=>i=h) a b wr) λaX _ _=>cM<|fj aX
 ·exact⟨f,c+2,a2,A,j,out,U,U,aT,p,λn=>cd<|aI n,⟨G,aY⟩,ab,am,ay,C,ad⟩
 ·obtain⟨m,r,l,o,j,k,rfl,rfl,a9,aB,az,GD,N,g,hu,ho,ah⟩:=hrel;have agT:=O N;have agU:=O g;have KJ:=O ah;have p:=O aB;clear ab am ad aB;by_cases T:o=aD/\0<m
  ·obtain⟨rfl,aj⟩:=T;have az:=az U;have:0<(m:Int):=G;obtain⟨q,rfl⟩:∃q,m=q+1:=⟨m-1,G⟩
   have:=iV (q:Int)
   have⟨e,P⟩:=bm<|260+8*(l%8);have W:=O<|Sp (bx wr) g G;rw[<-P]at W;have ar:=qi GD.2 (512+e) 4;have a1:ao (a_ aL 221 #[bv h,M e,M 4] (bx wr) _):=F1 e 4 (bx wr) N g bW G G GD.2 G;have aM:ao ((if k[(j.b_ (512+e) 4).2]? = ae aD then lD (j.b_ (512+e) 4).1 ((l+1)%65536) (k.set (j.b_ (512+e) 4).2 ak) q else((j.b_ (512+e) 4).1,l,k,ak))=d):=by
    have:=V p;rw[b8 U,lD,<-P]at this;exact this
   have aC:=O fun(aF:aQ) (aS:fZ aF h 222 a 512 13312 Z l k)=>Sw (j.b_ (512+e) 4).2 aS hu ho;have aP:=O ar;clear N g ah P ar p;generalize (j.b_ (512+e) 4).2=bb at*;go_wp2
   go_region_held (λ_=>True) (trivial)
    (first|(go_at_call 222;go_loud (refine W.m ?_;rintro B rfl))|(go_at_call 221;go_loud (refine a1.m λa5 ⟨x,H⟩=>?_;have y:=kd (w:=bx wr) (V agU) H (V agT) bW id;have aJ:=O<|aC a5 y))|(go_at_call 220;go_loud (refine aJ.mono ?_;rintro ac bd ⟨ba,X,u3,S,rfl,an,u,aK,a0,I⟩)))
   all_goals
    have aR:=O<|vi x y bW λi aO aU=>I.5 i aO aU;have aW:=O an;have aV:=O<|dm (dm (V KJ) kH)<|dm (h7 H λ_ n=>n.elim)<|tf (L:=λi=>i=h) I U (vj x y bW) (ir x);have a6:ao ((if X then lD (j.b_ (512+e) 4).1 u3 S q else((j.b_ (512+e) 4).1,u3,S,ak))=d):=by
     have:=V aM;unfold BI at u;split at u
     ·obtain⟨-,rfl,rfl,rfl⟩:=u;rw[b8 fi]at this;exact this
     ·obtain⟨rfl,rfl,rfl⟩:=u;rw[bV fi]at this;exact this
    clear x H y an I u;go_wp2;exact⟨⟨q,r+4,u3,X,_,S,U,U,G,a6,λ_=>G,⟨G,aP⟩,aR,aW,aK,a0,aV⟩,by simp[fj]⟩
  ·cases o with
   |false=>
    have cX:=V p;rw[bV bW]at cX;exact Mk
   |true=>
    have aj:m=0:=by have:¬0<m:=λn=>T ⟨U,n⟩;omega
    subst aj;have cX:=V p;rw[b8 U,lD]at cX;exact Mk
structure hi(w:World)(yb zd mb:Nat)(aB ip:ap)(X:cw)(C:Nat):Prop where
 mem:cZ w mb X.s
 doc:nu w yb zd mb aB ip X
 ok:X.ra<65536/\X.eH<65536/\X.sa<65536/\X.eW<65536/\X.o.length=8
 sz:X.s.Ok C/\X.n<=C/\X.t<=C/\X.d<=C
section
variable {w w':World} {yb zd mb C C':Nat} {aB ip:ap}{X Y:cw}
def hM(a:nu w yb zd mb aB ip X)(b:E X.6=8):aA w (N yb 0)=ae (bv zd)/\aA w (N yb 1)=ae (aS aB)/\aA w (N yb 2)=ae (aS ip)/\aA w (N yb 3)=ae (bv mb)/\aA w (N yb 12)=ae (M X.4)/\aA w (N yb 13)=ae (M X.5)/\aA w (N yb 14)=ae (M X.2)/\aA w (N yb 15)=ae (M X.3)/\aA w (N yb 16)=ae (M X.7)/\aA w (N yb 17)=ae (M X.8)/\aA w (N yb 18)=ae (M X.9)/\aA w (N yb 19)=ae (aG X.10):=by let⟨s,t,h,u,d,c,l,x,g,e⟩:=X;obtain⟨n,o,p,q,r,i,j,k,rfl⟩:=J_ c b;exact⟨bq.cell a 0 ax,bq.cell a 1 ax,bq.cell a 2 ax,bq.cell a 3 ax,bq.cell a 12 ax,bq.cell a 13 ax,bq.cell a 14 ax,bq.cell a 15 ax,bq.cell a 16 ax,bq.cell a 17 ax,bq.cell a 18 ax,bq.cell a 19 ax⟩
def F5(c:nu w yb zd mb aB ip X)(a:Nat)(b:Bool)(d:X.6[a]? = ae b):aA w (N yb<|4+a)=ae (aG b):=by let⟨hl,e⟩:=iW.1 d;let:=bq.cell c (4+a) ct;rw[this,OO ax,ON EV];simp[e]
def vq(a:nu w yb zd mb aB ip X)(c:E X.6=8)(v:Nat):nu (a7 w ⟨yb,12,af⟩<|ag ai v) yb zd mb aB ip {X with sa:=v}/\nu (a7 w ⟨yb,13,af⟩<|ag ai v) yb zd mb aB ip {X with eW:=v}/\nu (a7 w ⟨yb,14,af⟩<|ag ai v) yb zd mb aB ip {X with ra:=v}/\nu (a7 w ⟨yb,15,af⟩<|ag ai v) yb zd mb aB ip {X with eH:=v}/\nu (a7 w ⟨yb,16,af⟩<|ag ai v) yb zd mb aB ip {X with n:=v}/\nu (a7 w ⟨yb,17,af⟩<|ag ai v) yb zd mb aB ip {X with t:=v}/\nu (a7 w ⟨yb,18,af⟩<|ag ai v) yb zd mb aB ip {X with d:=v}/\nu (a7 w ⟨yb,19,af⟩<|aG aD) yb zd mb aB ip {X with b:=aD}:=by let⟨s,ra,eH,sa,g,e,n,t,d,b⟩:=X;obtain⟨k,l,o,p,q,h,i,j,rfl⟩:=J_ e c;exact⟨bq.set a 12 _,bq.set a 13 _,bq.set a 14 _,bq.set a 15 _,bq.set a 16 _,bq.set a 17 _,bq.set a 18 _,bq.set a 19 _⟩
def Sy(c:nu w yb zd mb aB ip X)(a:Nat)(aO:a<E X.6)(b:Bool):nu (a7 w ⟨yb,4+a,af⟩<|aG b) yb zd mb aB ip {X with o:=X.6.set a b}:=by have:=bq.set c (4+a)<|aG b;unfold nu;rw[sK _ _ ax,List.set_append_left _ _<|by simpa using aO]at this;rw[DK];simpa using this
def F6(a:hi w yb zd mb aB ip X C):yb<J w.1/\mb<J w.1/\mb≠yb:=⟨bq.lt a.2,ir a.1,vj a.1 a.2 bW⟩
def rd(a:hi w yb zd mb aB ip X C)(e:cZ w' mb B)(c:cG bH mb w w')(d:B.Ok C')(g:C<=C'):hi w' yb zd mb aB ip {X with s:=B} C':=⟨e,gX c a.1 a.2 bW id,a.3,d,by have:=a.4;show X.7<=_/\X.8<=_/\X.9<=_;omega⟩
def tW(a:hi w yb zd mb aB ip X C)(c:ey yb w w')(e:nu w' yb zd mb aB ip Y)(d:Y.1=X.1)(g:Y.2<65536/\Y.3<65536/\Y.4<65536/\Y.5<65536/\E Y.6=8)(i:Y.7<=C/\Y.8<=C/\Y.9<=C):hi w' yb zd mb aB ip Y C/\cG (λb=>b=yb) mb w w':=by let⟨l,j,k⟩:=F6 a;exact⟨⟨d▸vi a.1 a.2 bW λb aO h=>c.5 b aO h,e,g,d▸a.4.1,i⟩,tf c U k j⟩
def o9(a:hi w yb zd mb aB ip X C)(b:C<=C'):hi w yb zd mb aB ip X C':=⟨a.1,a.2,a.3,oP a.4.1 b,by have:=a.4;omega⟩
end
def F8{k:cw}(e:hi f c a v d h k g):a_ aL 129 #[bv c] f λo l=>o=bh (M 4)/\hi l c a v d h {k with b:=aD} g/\cG (λp=>p=c) v f l:=by let⟨_,_,_,_,_,_,_,_,_,_,_,zC⟩:=hM e.2 e.3.2.2.2.2;let:=bq.frozen e.2;let j:=O<|tW e (jx (lI _ _) 19<|aG aD) (vq e.2 e.3.2.2.2.2 0).2.2.2.2.2.2.2 U e.3 e.4.2;go_wp2;go_ret;exact⟨U,j.1,j.2⟩
def M_(h:φ:=by go_wp2;exact⟨⟨k+1,by rw[V hz],dd,G,cy⟩,dz⟩):φ:=h
def MF(h:φ:=by go_wp2_with fail;refine kg.m ?_;rintro w3 ⟨nB,gi⟩;have bI:=O<|dO w3 nB gi;clear nB gi;go_wp2;go_ret;exact⟨by rw[bI.1];rfl,bI.2⟩):φ:=h
def abc{D:Nat}{A:ap}{X:cw}(i:hi b c D a d A X g)(bw:X.10=ak)(bG:g<=800000000000):a_ aL 127 #[bv c] b λan C=>an=bh (M<|if X.lC.10 then 4 else 0)/\hi C c D a d A X.lC (g+40)/\cG (λe=>e=c) a b C:=by
 have⟨_,_,_,am,_⟩:=hM i.2 i.3.2.2.2.2;have aj:=O<|BH 770 2 X.1 b i.1 G G i.4.1 G;have bf:=th X.1 770 2;rw[show(2:Nat)^(8*2)=65536 from U]at bf;have aV:=qi i.4.1 770 2;have aB:=O i;have:=i.3.2.2.2.1;have aJ:=i.3.2.2.2.2;have⟨f,hf⟩:=bm<|lT (X.1.b_ 770 2).2 X.5;have bK:f<65536:=Hv
 have bl:(((X.1.b_ 770 2).2:Int)-(X.5:Int)+65536)%65536=(f:Int):=Hv
 have bL:(((X.1.b_ 770 2).2:Int)-(X.5:Int)+65536).tmod 65536=(f:Int):=by rw[oK G];exact bl
 have aT:ao (∀(B:cq×Nat×List Bool×Bool),(if f<=jk X.6 then lD (X.1.b_ 770 2).1 X.5 X.6 f else((X.1.b_ 770 2).1,X.5,X.6,ak))=B->X.lC = {X with s:=B.1,eW:=B.2.1,o:=B.2.2.1,b:=!B.2.2.2}):=λB l=>by
  subst l;rw[cw.lC,<-hf];by_cases u:f<=jk X.6
  ·rw[b8 u,b8 u]
  ·rw[bV u,bV u];rfl
 generalize (X.1.b_ 770 2).2=x,(X.1.b_ 770 2).1=Q at*;have⟨B,l⟩:=du<|if f<=jk X.6 then lD Q X.5 X.6 f else(Q,X.5,X.6,ak)
 rw[V aT B l];have ad:=O l;have bp:=O aV;clear i hf aT l aV;have⟨v,w⟩:=bm (if(!B.2.2.2)then 4 else 0:Int)
 rw[show(if({X with s:=B.1,eW:=B.2.1,o:=B.2.2.1,b:=!B.2.2.2}:cw).10 then(4:Int)else 0)=v from b5 w];have ar:=O w;clear w;have S:∀k,k<8->X.6[k]? = ae (X.6[k]?.getD ak):=λk aO=>by rw[fs G];rfl
 have bB:jk X.6<=8:=by rw[jk,<-aJ];exact sH _ _
 replace S:=O S;go_in;go_wp2_with fail;refine aj.m ?_;rintro aU ⟨aR,au⟩;have ah:=rd (V aB) aR au (V bp) G;have al:=O ah;have aq:=O<|h7 (K:=λe=>e=c) au λ_ i=>i.elim;have⟨_,_,_,_,_,a3,_⟩:=hM ah.2 aJ;have az:=bq.frozen ah.2;clear aR au aj aB am ah;go_wp2
 go_loopw [4,5] (λbn e wr=>∃k:Nat,bn=M (jk (be k X.6):Nat)/\e=M k/\k<=8/\wr=aU) λ_ e _=>8-cM (fj e)
 ·exact⟨0,U,U,G,U⟩
 ·obtain⟨k,rfl,rfl,aO,rfl⟩:=hrel;by_cases aP:k<8
  ·have:=F5 al.2 k _<|S k aP;have R:=O<|Sr X.6 k G;have:jk (be k X.6)<=8:=by
    exact cJ (sH _ _) ct
   generalize X.6[k]?.getD ak=n,jk (be k X.6)=ax at*;have⟨ay,hz⟩:=bm<|jk<|be (k+1) X.6;rw[<-hz]at R;replace hz:=O hz;cases n with
   |true=>
    have aw:ay=ax+1:=by have:=V R;simpa using this
    have:(ax:Int)+1=ay:=G;clear aw R;exact M_
   |false=>
    have aw:ay=ax:=by have:=V R;simpa using this
    subst aw;clear R;exact M_
  ·have a4:k=8:=G;subst a4;rw[mS G];by_cases u:f<=jk X.6
   ·have bj:¬((jk X.6:Nat):Int)<(f:Int):=G;have Y:ao (lD Q X.5 X.6 f=B):=by have:=V ad;rw[b8 u]at this;exact this
    have:f<=8:=G;clear ad u;generalize jk X.6=a2 at*;go_wp2
    go_loopw [7] (λe wr=>∃(k z:Nat) (p:cq) (o:List Bool),e=M k/\k<=f/\lD p z o (f-k)=B/\hi wr c D a d A {X with s:=p,eW:=z,o:=o} (g+2+4*k)/\cG (λe=>e=c) a b wr) λe _=>f-cM (fj e)
    ·exact⟨0,X.5,Q,X.6,U,dJ _,Y,al,aq⟩
    ·clear al aq Y a3 az S;obtain⟨k,z,p,o,rfl,aO,l,q,I⟩:=hrel;have aY:=O q;have aW:=O I;have:z<65536:=q.3.2.2.2.1;have T:=q.3.2.2.2.2;by_cases aP:k<f
     ·have⟨_,_,_,am,_,Ka,_⟩:=hM q.2 T;have⟨ee,bs⟩:=bm<|z%8
      have⟨P,bt⟩:=bm<|8*ee
      have⟨j,bc⟩:=bm<|772+P;have a5:(z:Int)%8=ee:=G;have bD:(z:Int).tmod 8=(ee:Int):=by rw[oK G];exact a5
      have:8*(ee:Int)=P:=G;have:772+(P:Int)=j:=G;have aU:=iV (ee:Int)
      have y:=iV (P:Int)
      have w3:=iV (j:Int)
      have bM:ai.wrap (8*(ee:Int))=(P:Int):=fl
      have bN:ai.wrap (772+(P:Int))=(j:Int):=fl
      have:j<900:=G;have:ee<8:=G;rw[show f-k=(f-(k+1))+1 by omega,lD,show 512+(260+8*(z%8))=j by omega]at l;have aC:=qi q.4.1 j 4;have a0:=th p j 4;have aj:ao (a_ aL 128 #[bv a,M j,M 4] (bx wr) λan C=>an=bh (M (p.b_ j 4).2)/\cZ C a (p.b_ j 4).1/\cG bH a (bx wr) C):=BH j 4 p (bx wr) q.1 G G q.4.1 G;have:aA (bx wr) (N c 3)=ae (bv a)/\aA (bx wr) (N c 13)=ae (M z):=bd am Ka
      have bi:ao (∀ab Z,cZ ab a Z->cG bH a (bx wr) ab->Z.Ok (g+2+4*k+4)->hi ab c D a d A {X with s:=Z,eW:=z,o:=o} (g+2+4*(k+1))):=λab Z bb I ba=>rd (X:={X with s:=p,eW:=z,o:=o}) (V aY) bb (dm kH I) ba G;have a6:=O aC;generalize (p.b_ j 4).2=h,(p.b_ j 4).1=aa at*;rw[show(2:Nat)^(8*4)=4294967296 from U]at a0;have aH:=O l;clear q I l bs bc bt aC;go_wp2
      go_region_held (λC=>aA C (N c 3)=ae (bv a)/\aA C (N c 13)=ae (M z)) (first|assumption|go_keep)
       (first|(go_at_call 128;go_loud (refine aj.m λy ⟨aI,L⟩=>?_;have F:=V bi y aa aI L<|V a6;have:aA y (N c 3)=ae (bv a)/\aA y (N c 13)=ae (M z):=bd ((hM F.2 T).2.2.2.1)<|(hM F.2 T).2.2.2.2.2.1)))
      all_goals
       have r:=O F;have aK:=O<|dm (V aW)<|dm kH<|h7 L λ_ i=>i.elim;clear aI L F;by_cases H:o[h]? = ae aD
       ·have bz:=(iW.1 H).1;have ac:¬8<=(h:Int):=G;have aX:=fI ac;have a1:=F5 r.2 h aD H;have az:=bq.frozen r.2;have t:=V aH;rw[b8 H]at t;have⟨u1,aS⟩:=bm<|(z+1)%65536;have br:((z:Int)+1)%65536=u1:=G;have bC:((z:Int)+1).tmod 65536=(u1:Int):=by rw[oK G];exact br
        have W:=Sy r.2 h bz ak;have av:E (o.set h ak)=8:=by rw[o4];exact T
        have⟨_,_,_,_,_,bF,_⟩:=hM W av;have:=bq.frozen W;have aF:=(vq W av u1).2.1;have dO:=O<|tW (V r) (jx (jx (lI _ _) (4+h)<|aG ak) 13<|M u1) aF U ⟨r.3.1,r.3.2.1,r.3.2.2.1,by show u1<65536;omega,av⟩ r.4.2;have bu:ao (lD aa u1 (o.set h ak) (f-(k+1))=B):=aS▸t
        clear t W aF aS H;go_wp2;exact bd (⟨k+1,u1,aa,_,dd,G,bu,dO.1,dm (V aK) dO.2⟩) dz
       ·have t:=V aH;rw[bV H]at t;have kg:=O<|F8<|V r;have dO:ao (∀w3,hi w3 c D a d A {X with s:=aa,eW:=z,o:=o,b:=aD} (g+2+4*(k+1))->cG (λe=>e=c) a y w3->v=4/\hi w3 c D a d A {X with s:=B.1,eW:=B.2.1,o:=B.2.2.1,b:=!B.2.2.2} (g+40)/\cG (λe=>e=c) a b w3):=λw3 a8 a9=>by
         have w:=V ar;subst t;exact⟨w,o9 a8 G,dm (V aK) a9⟩
        have bo:8<=(h:Int)\/(¬8<=(h:Int)/\bY y c (4+h) (aG ak)):=by
         by_cases S:h<8
         ·refine bE<|bd G<|F5 r.2 h ak ?_;show o[h]? = ae ak;cases aM:o[h]? with
          |none=>rw[Pi]at aM;omega
          |some n=>
           cases n with
           |true=>exact absurd aM H
           |false=>rfl
         ·exact bJ G
        clear t H;rcases bo with ac|⟨ac,a1⟩
        ·exact MF
        ·have aX:=fI ac;exact MF
     ·obtain rfl:k=f:=G;rw[pX,lD]at l;have bI:ao (v=0/\hi wr c D a d A {X with s:=B.1,eW:=B.2.1,o:=B.2.2.1,b:=!B.2.2.2} (g+40)/\cG (λe=>e=c) a b wr):=by
       have w:=V ar;subst l;refine⟨w,?_,I⟩;have:=o9 (C':=g+40) q G;rw[bw]at this;exact this
      clear q I l;go_wp2;go_ret;exact⟨by rw[bI.1];rfl,bI.2⟩
   ·have bj:((jk X.6:Nat):Int)<(f:Int):=G;have Y:ao ((Q,X.5,X.6,ak)=B):=by have:=V ad;rw[bV u]at this;exact this
    have kg:=O<|F8<|V al;clear ad u;generalize jk X.6=a2 at*;go_wp2_with fail;refine kg.m ?_;rintro y ⟨F,L⟩;have dO:ao (v=4/\hi y c D a d A {X with s:=B.1,eW:=B.2.1,o:=B.2.2.1,b:=!B.2.2.2} (g+40)/\cG (λe=>e=c) a b y):=by
     have t:=V Y;have w:=V ar;subst t;exact⟨w,o9 F G,dm (V aq) L⟩
    clear F L kg;go_wp2;go_ret;exact⟨by rw[dO.1];rfl,dO.2⟩
def Ar{c:List aK}{d:aK}:jX p x (c++[d])=nX p x (jX p x c) d:=by unfold jX;rw[wE];rfl
def N2(b d:List aK):∀(a:List aK),E (jX b d a).1<=E a/\E (jX b d a).2<=E a*E b:=by
 intro a;let⟨g,e⟩:=du<|E a;induction g generalizing a with
 |zero=>obtain rfl:a=[]:=hq e;exact⟨cO _,dJ _⟩
 |succ g l=>{
 rcases pf a with rfl|⟨c,h,rfl⟩;{simp at e};{
 rw[pe]at*;let j:E c=g:=by simp at e;exact e
 let:=l c j;rw[Ar];let:=sH (λi:aK=>i.owner==ib h.data&&i.type==1) b;let k:E (c++[h])*E b=E c*E b+E b:=by rw[dj,C2];simp
 rw[k];unfold nX fY;split;{split;{exact bd ct G};{refine bd ct ?_;split;{show(jX b d c).2.length<=_;omega};{show((jX b d c).2++_).length<=_;rw[dj];omega}}};{exact bd ct G}}}
def Zi:∀(b:List aK),∀s∈(jX p x b).1,∃c∈b,lq c=aD/\s=ib c.data:=by
 intro b;let⟨h,d⟩:=du<|E b;induction h generalizing b with
 |zero=>obtain rfl:b=[]:=hq d;intro s a;cases a
 |succ h t=>{
 rcases pf b with rfl|⟨e,c,rfl⟩;{simp at d};{
 rw[pe]at*;let q:E e=h:=by simp at d;exact d
 intro s a;rw[Ar]at a;let i:s∈(jX p x e).1->∃g∈e++[c],lq g=aD/\s=ib g.data:=λl=>by{let⟨g,n,o,j⟩:=t e q s l;exact⟨g,List.mem_append_left _ n,o,j⟩};unfold nX at a;split at a;{rename_i r;split at a;{exact i a};{rcases i_.1 a with a|a;{exact i a};{exact⟨c,ax,r,by simpa using a⟩}}};{exact i a}}}
def Zj{s:List ap×List aK}{a:aK}(c:lq a=ak):nX p x s a=s:=by unfold nX;rw[c];rfl
def Zk{s:List ap×List aK}{a:aK}(g:ib a.data=d)(b:lq a=aD)(e:s.1.contains d=aD):nX p x s a=s:=by unfold nX;rw[b,g,e];rfl
def Zl{s:List ap×List aK}{b:aK}(i:ib b.data=d)(g:lq b=aD)(h:s.1.contains d=ak):nX p x s b=(s.1++[d],if x.any (λc=>c.owner==d&&c.type==1)then s.2 else s.2++fY p d 1):=by unfold nX;rw[g,i,h];rfl
def JU(a:E d<=900):E (cE d)<=1000:=by rw[rU];exact nD a
def Zm{α:Type}(c:α->Bool){b:List α}(d:a<E b):(be (a+1) b).any c=((be a b).any c||c b[a]):=by rw[g8 d,List.any_append];simp
def Zo(d:ap)(e:a<E s):(be (a+1) s).contains d=((be a s).contains d||dC (cE s[a]=cE d)):=by rw[g8 e,List.contains_append];congr 1;rw[pR,Di];simp only[List.contains_cons,List.contains_nil,Ix,iE];exact⟨λc=>by rw[c],λc=>b5<|zF c⟩
def Zp(a:aK)(c:ap):(a.owner==c&&a.type==1)=(dC (cE a.owner=cE c)&&a.type==1):=by congr 1;rw[pR,Di,iE];exact⟨λb=>by rw[b],λb=>zF b⟩
def Zq(b g:aQ)(a:aK):Prop:=∃(h:bk) (e c d:Nat),g.1[J b.1]? = ae (aZ #[h,ag ai a.aP,ag ai a.type,.string<|D a.data,aE (ae ⟨e,c,af⟩) (E<|I 32 a.data) d] 98)/\a6 b g/\fG b (bL e c (E<|I 32 a.data) d) (I 32 a.data)
def Zr(d:a<E (p++x)):(a<E p/\∃e:a<E p,(p++x)[a]=p[a])\/(¬a<E p/\∃e:a-E p<E x,(p++x)[a]=x[a-E p]):=by by_cases aO:a<E p;{exact bJ ⟨aO,aO,ON aO⟩};{rw[dj]at d;exact bE ⟨aO,G,OO G⟩}
def MV(h:φ:=by have cF:=O jY;clear h2 jY;go_wp2;go_meet;·exact⟨by rw[V cF];rfl,U⟩):φ:=h
def MD(h:φ:=by
 refine lw (rs:=[9]) b6 ax (jv U (λK hK=>?_) kU);rw[b8 dl];refine GQ (.tmp 134) (.tmp 138) dl dl dl (V afx)<|hK.out _ _ cy λhS=>?_;clear hK K;try simp only[Act.put,kB,iR,iy]
 refine fT 10 cy ?_;refine fT 11 cy ?_;refine lw (rs:=[12]) b6 ax (jv U (λK hK=>?_) kU);go_simp;refine hK.out _ _ cy λhS=>?_;clear hK K;refine su b6 ?_ _;go_wp2;exact⟨⟨i+1,_,G,dd,⟨_,_,_,U⟩,by rw[V iC];rw[hown1]at Nk;exact Nk⟩,dz⟩):φ:=h
def Zs{dq:Nat}{rs:List aK}{aH:Int}{bq:bk}(cR:A a)(cS:∀c,c<J b.1->¬A c)(cT:∀c,J f.1<=c->¬A c)(cC:∀c,A c->c<=a)(df:lu b dq d rs)(cX:hW d rs)(da:a6 b f)(d1:J b.1<=a)(aW:fC f a aH t bq k<|bX)(b3:ek A f (a+1) bq p)(b_:ek A f (a+1) k x)(eA:E p<=500)(eF:E x<=500)(aY:∀h∈p++x,lq h=aD->∃ci o,I 32 h.data=ci++[o]/\ib h.data=o/\eL o=aD/\E h.data<=3000)(aT:∀h∈p,E h.owner<=900):a_ aL 161 #[bv dq,bv a] f λD et=>D=bh (bZ #[])/\∃br bs,pt A f et a aH t bq k br bs (jX rs p<|p++x).1 (jX rs p<|p++x).2:=by
 have dW:=O df;have bS:=O cX;have bY:=O da;have bT:=O b3;have cI:=O b_;have dh:=O aY;have er:=O aT;have dM:=aW.lt;have cL:pt A f f a aH t bq k (bX) (bX) [] []:=⟨aW,co.refl _ _,⟨[],ih f _ _ 1,λeR hj=>AF⟩,ek.nil _ _ _,(λc aV=>by cases aV),dM,cR,cC⟩;have en:=O cL;obtain⟨cg,bM,rfl⟩:=b3.slice;obtain⟨cp,cq,rfl⟩:=b_.slice;have dr:=O cS;have dt:=O cT;clear df cX da aW b3 b_ aY aT cL cR cS cT cC;go_in;go_wp2_with fail;go_loopw [4,5] (λbs ca wr=>∃i br,i<=E (p++x)/\ca=M (i:Nat)/\(∃j d9 dO,bs=aE j d9 dO)/\pt A f wr a aH t (aE cg (E p) bM) (aE cp (E x) cq) br bs (jX rs p<|be i<|p++x).1 (jX rs p<|be i<|p++x).2) λ_ ca _=>E (p++x)-cM (fj ca);case atStart=>exact⟨0,bX,dJ _,U,⟨_,_,_,U⟩,en⟩
 case round=>(
 obtain⟨i,br,aO,rfl,⟨cl,eg,cm,rfl⟩,z⟩:=hrel;have⟨dx,b2⟩:=du<|jX rs p<|be i<|p++x;have bf:=(N2 rs p<|be i<|p++x);have bN:ao (∀s∈(jX rs p<|be i<|p++x).1,E s<=900):=λs aW=>by{obtain⟨h,q,h2,y⟩:=Zi _ s aW;obtain⟨_,o,_,dZ,d0,_⟩:=V dh h (vL q) h2;rw[y,dZ];have:=(hC d0).2;omega};have d6:=vT<|V bS;have dB:E (be i<|p++x)<=1000:=by rw[iv,dj];omega
 rw[b2]at z bf bN;obtain⟨g,n⟩:=dx;have eE:E g<=2000:=by have:=bf.1;simp only at this;omega
 have eB:E n<=60000:=by{have q:=bf.2;have h2:=Nat.mul_le_mul dB d6;simp only at q;omega};have a8:=O b2;clear b2 bf;simp only at z bN;have c4:=O z;obtain⟨a1,bi,a2,bj,bl⟩:=z.1.cells;have a3:=z.1.frozen;obtain⟨aC,aF,rfl⟩:=z.4.slice;have d7:=z.2.4;have eN:E (p++x)=E p+E x:=dj;by_cases b7:i<E (p++x);{
 have dg:(i:Int)<(E p:Int)+(E x:Int):=G;have bc:ao (be (i+1) (p++x)=be i (p++x)++[(p++x)[i]]):=g8 b7;have bK:=O<|dh _<|ei b7;have aI:=O<|z.own<|V bT;have aJ:=O<|z.own<|V cI;go_upto_region 2 with fail;go_region;have aq:=z.below (w1:=bx wr) (cc.drew);have aR:=O aq;have aI:=O<|aq.own<|V bT;have aJ:=O<|aq.own<|V cI;have ez:=aq.2.4;obtain⟨ej,el,bn,bp,em⟩:=aq.1.cells;have eo:=aq.1.frozen;clear a1 bi a2 bj bl a3 z aq c4 d7;generalize bx wr=w1 at*;obtain⟨h,bD⟩:=bm<|(p++x)[i];have dn:=O bD;rw[<-bD]at bc bK;have dN:¬a=J w1.1:=by have:=aR.6;omega
 have aB:∀(d:Obj) (j:Addr) (v:bk),aA w1 j=ae v->aA (aN w1 d) j=ae v:=λd j v bt=>(dR<|dv w1 d j.1<|g_ _ _ bt).trans bt;have cn:=λd=>aB d _ _ bn;have bO:=λd=>aB d _ _ bp;clear bD dg;go_upto_if 35 with fail;go_cut [6]from 13 to 141 λdm ct=>dm=bv (J w1.1)/\Zq w1 ct h;case first=>(rcases Zr b7 with⟨ba,az,a0⟩|⟨ba,az,a0⟩;{have dD:(i:Int)<(p.length:Int):=G;rcases aI.TX with⟨_,bt⟩|⟨am,c5,Z,dc,c8,ac⟩;{rw[bt]at ba;simp at ba};obtain⟨cr,c9,T,bG,X,C,cB,ab,P⟩:=ac i az;rw[<-a0,<-V dn]at bG X C ab P;obtain⟨q,h2,y⟩:=js Z;rw[q,y]at bn;clear cn;have cn:=λd=>aB d _ _ bn;obtain⟨ds,dK,dL,rfl,_,_⟩:=ab;have cf:am<J w1.1:=g_ _ _ T;have ad:=O P.nm;obtain⟨au,aw,ay,rfl,_,_⟩:=P;have d4:¬am=J w1.1:=G;have dS:=λd=>aB d _ _ T;have dT:=λd=>aB d _ _ bG;have dU:=λd=>aB d _ _ X;have dV:=λd=>aB d _ _ C;have dE:=λd=>aB d _ _ cB;have bU:∀d,a6 w1 (aN w1 d):=λd=>cc.alloc bo _;clear q h2 y ac Z a0 aB ba az aI aJ aR;go_wp2_with fail;go_meet;case rel=>exact⟨U,_,au,aw,ay,cW w1 _,bU _,ad⟩};{have dD:¬(i:Int)<(E p:Int):=G;rcases aJ.TX with⟨_,bt⟩|⟨am,c5,Z,dc,c8,ac⟩;{rw[bt]at az;simp at az};obtain⟨cr,c9,T,bG,X,C,cB,ab,P⟩:=ac (i-E p) az;rw[<-a0,<-V dn]at bG X C ab P;obtain⟨q,h2,y⟩:=js Z;rw[q,y]at bp;clear bO;have bO:=λd=>aB d _ _ bp;obtain⟨ds,dK,dL,rfl,_,_⟩:=ab;have cf:am<J w1.1:=g_ _ _ T;have ad:=O P.nm;obtain⟨au,aw,ay,rfl,_,_⟩:=P;have d4:¬am=J w1.1:=G;have dS:=λd=>aB d _ _ T;have dT:=λd=>aB d _ _ bG;have dU:=λd=>aB d _ _ X;have dV:=λd=>aB d _ _ C;have dE:=λd=>aB d _ _ cB;have bU:∀d,a6 w1 (aN w1 d):=λd=>cc.alloc bo _;clear q h2 y ac Z a0 aB aI aJ aR;go_upto_region 7 with fail;go_region;all_goals(go_wp2_with fail;go_meet;case rel=>exact⟨U,_,au,aw,ay,cW w1 _,(bU _).drew,ad⟩)})
 ·(
 obtain⟨rfl,cr,au,aw,ay,oO,b1,ad⟩:=hcut;have cb:=aR.below b1;have cN:=ad.below b1;have eC:au<J w1.1:=by obtain⟨_,_,_,D,_,bt⟩:=ad;cases D;exact bt.1
 have bd:=O cb;have di:=O cN;have dX:aA wc (N (J w1.1) 2)=ae (M h.type):=Hu
 have c6:aA wc (N (J w1.1) 4)=ae (bL au aw (E<|I 32 h.data) ay):=Hu
 have ey:=cb.2.4;clear cb oO cN ad b1 cn bO ej el bn bp em eo aR aI aJ aB dN;generalize J w1.1=eU at*;go_upto_region 8 with fail;go_cut [63]from 13 to 141 λv ct=>v=aG (!lq h)/\ct=wc;·(
 by_cases h2:h.type=2;{
 have d8:(h.type != 2)=ak:=by simp[h2]
 have jY:lq h=aD:=by unfold lq;simp[h2]
 exact MV};{
 have d8:(h.type != 2)=aD:=by simpa using h2
 have jY:lq h=(h.type==15):=by unfold lq;rw[ju.2 h2,wy]
 exact MV})
 ·(
 obtain⟨rfl,rfl⟩:=hcut;cases jY:lq h with
 |false=>{have R:ao (jX rs p (be (i+1)<|p++x)=(g,n)):=by{rw[ao,V bc,Ar,V a8,Zj jY]};go_wp2;exact⟨⟨i+1,_,G,dd,⟨_,_,_,U⟩,by rw[V R];exact bd⟩,dz⟩}
 |true=>{
 obtain⟨ci,o,aX,cG,b9,eT⟩:=V bK jY;have eS:=(hC b9).2;have dF:aA wc (N au<|aw+E ci)=ae (aS o):=by{obtain⟨_,_,_,D,_,bt⟩:=V di;cases D;have:=bt.2 (E ci) (by rw[aX];simp);rw[this];congr 3;simp[aX]};have eJ:E ci+1<=ay:=by{obtain⟨_,_,_,D,e,_⟩:=V di;cases D;rw[aX]at e;simpa using e};have cY:E (I 32 h.data)=E ci+1:=by rw[aX];simp
 have eQ:E ci<=3000:=cd<|nM 32 h.data
 rw[cY]at c6;have eP:((E ci+1:Nat):Int)-1=(E ci:Int):=G;have d_:=O λW=>yj o ak W G;have aY:hO ak o=ae (I 46 o):=by{have:=rp o;rw[b9]at this;unfold hO at this⊢;split at this;{rename_i bt;rw[b8 bt]};{cases this}};rw[<-rn (CN b9)]at aY;have a9:=O<|cj jY cG;clear jY cG aX cY bK;go_wp2_with fail;refine(d_ _).mono ?_;rintro D eu ⟨⟨eW,rfl,de⟩,db⟩;rw[aY]at de;obtain⟨_,an,C,rfl,d2,eM,eh⟩:=de;have b0:=bd.below db;have cx:iI eu (λc=>A c\/ae c=bA (aE aC (E n) aF)\/ae c=bA (aE cl eg cm)) (bL an 0 (E<|cE o) C) (cE o):=⟨an,0,C,U,d2,eh,λe=>by{rcases e with e|e|e;{exact dt an G e};{have:=(bd.4.lt an<|b5 e).2;omega};{have:=(bd.3.lt an<|b5 e).2;omega}}⟩;have dY:=O b0;have ex:=O cx;obtain⟨_,_,cu⟩:=b0.3.slice;obtain⟨-,dG,-⟩:=js cu;subst dG;have bH:E (cE o)<=1000:=JU G;clear b0 cx db cu dX c6 dF;go_wp2;go_loopw [8,9] (λfX ar wr=>∃(c:Nat) (w:Bool),c<=E g/\ar=M c/\fX=aG w/\(be c g).contains o=w/\pt A f wr a aH t (aE cg (E p) bM) (aE cp (E x) cq) (aE aC (E n) aF) (aE cl (E g) cm) g n/\iI wr (λc=>A c\/ae c=bA (aE aC (E n) aF)\/ae c=bA (aE cl (E g) cm)) (bL an 0 (E<|cE o) C) (cE o)) λ_ ar _=>E g-cM (fj ar);·exact⟨0,ak,dJ _,U,U,U,dY,ex⟩
 ·(
 obtain⟨c,w,aV,rfl,rfl,aU,l,r⟩:=hrel;have aa:=O aU;clear aU;by_cases L:c<E g;{
 have bF:(c:Int)<E g:=G;obtain⟨eI,eG,eV,cJ,eK,d3,cZ⟩:=l.3.at L;obtain⟨q,-,y⟩:=js cJ;subst q y;have cA:=(V bN) g[c]<|ei L;have a4:=O<|rQ cZ.nm r.nm (JU cA) bH;have H:=O l;have ah:=O r;have av:=O<|Zo o L;obtain⟨dH,dI,dA,rfl,_,_⟩:=cZ;clear l r cJ cA;go_wp2_with fail;refine a4.m ?_;intro eX b4;have cv:=O<|H.below b4;have cU:=O<|ah.fr (p:=λ_=>True) (co.zY b4) λ_ _=>cy;clear b4 a4 d3;cases w with
 |false=>{go_wp2;exact⟨⟨c+1,_,G,dd,U,by rw[V av,V aa,wy],cv,cU⟩,dz⟩}
 |true=>{go_wp2;exact⟨⟨c+1,_,G,dd,U,by rw[V av,V aa,Iz],cv,cU⟩,dz⟩}};{
 have bF:¬(c:Int)<E g:=G;have bC:c=E g:=G;have c0:ao (g.contains o=w):=by{have:=V aa;rw[bC,jc]at this;exact this};have H:=O l;have ah:=O r;cases w with
 |true=>{have R:ao (jX rs p (be (i+1)<|p++x)=(g,n)):=by{rw[ao,V bc,Ar,V a8,Zk a9.2 a9.1<|V c0]};clear l r;go_wp2;exact⟨⟨i+1,_,G,dd,⟨_,_,_,U⟩,by rw[V R];exact H⟩,dz⟩}
 |false=>{
 have R:ao (jX rs p (be (i+1)<|p++x)=(g++[o],if p.any (λj=>j.owner==o&&j.type==1)then n else n++fY rs o 1)):=by{rw[ao,V bc,Ar,V a8,Zl a9.2 a9.1<|V c0]};obtain⟨dm,eY,Y,bw,cK,eZ⟩:=l.aDd r G;have dk:=O Y;have cw:=O bw;have cO:=O cK;obtain⟨bI,fJ,rfl⟩:=bw.3.slice;rw[dj,OQ]at dk cw cO;clear l r Y bw cK H ah;go_wp2_with (at_builtin;go_loud (refine uw dl (.tmp 90) (.tmp 92) 310 dl dl dl (V dk) ?_));go_loopw [8,11] (λfX ar wr=>∃(c:Nat) (w:Bool),c<=E p/\ar=M c/\fX=aG w/\(be c p).any (λj=>j.owner==o&&j.type==1)=w/\pt A f wr a aH t (aE cg (E p) bM) (aE cp (E x) cq) (aE aC (E n) aF) (aE bI (E g+1) fJ) (g++[o]) n/\iI wr (λc=>A c\/ae c=bA (aE aC (E n) aF)\/ae c=bA (aE bI (E g+1) fJ)) (bL an 0 (E<|cE o) C) (cE o)) λ_ ar _=>E p-cM (fj ar);·exact⟨0,ak,dJ _,U,U,U,cw,cO⟩
 ·(
 obtain⟨c,w,aV,rfl,rfl,aU,l,r⟩:=hrel;have aa:=O aU;clear aU;obtain⟨a1,bi,a2,bj,bl⟩:=l.1.cells;have a3:=l.1.frozen;by_cases L:c<E p;{
 have bF:(c:Int)<E p:=G;rcases(l.own<|V bT).TX with⟨_,bt⟩|⟨am,c5,Z,dc,c8,ac⟩;{rw[bt]at L;simp at L};obtain⟨cr,c9,T,bG,X,dQ,cB,ab,P⟩:=ac c L;obtain⟨q,-,y⟩:=js Z;have c1:=O<|cj q y;rw[q,y]at a2;clear q y Z;have aT:=V er p[c]<|ei L;have a4:=O<|rQ ab.nm r.nm (JU aT) bH;have H:=O l;have ah:=O r;have av:=O<|Zm (λj:aK=>j.owner==o&&j.type==1) L;have c2:=O<|Zp p[c] o;have cH:=O X;obtain⟨dH,dI,dA,rfl,_,_⟩:=ab;have cf:=g_ _ _ T;generalize p[c]=j at*;clear l r ac aT bG X dQ cB P a1 bi bj bl;go_wp2_with fail;refine a4.m ?_;intro dp F;have a5:=O<|H.below F;have bP:=O<|ah.fr (p:=λ_=>True) (co.zY F) λ_ _=>cy;have eH:=(F.cell (p:=⟨am,c*5+2,af⟩) cf).trans (V cH);obtain⟨ck,ea,eb,ec,ed⟩:=a5.1.cells;rw[c1.1,c1.2]at eb;clear F a4 T a2 a3 ck ea ec ed cH;have⟨ef,bz⟩:=du<|dC<|cE j.owner=cE o;rw[bz];have cD:=O bz;clear bz;cases w with
 |true=>{go_wp2;exact⟨⟨c+1,_,G,dd,U,by rw[V av,V aa,Iz],a5,bP⟩,dz⟩}
 |false=>{
 cases ef with
 |false=>{go_wp2;exact⟨⟨c+1,_,G,dd,U,by rw[V av,V aa,wy,V c2,V cD,uM],a5,bP⟩,dz⟩}
 |true=>{go_wp2;exact⟨⟨c+1,_,G,dd,U,by rw[V av,V aa,wy,V c2,V cD,uN],a5,bP⟩,dz⟩}}};{
 have bF:¬(c:Int)<E p:=G;have bC:c=E p:=G;have c3:ao (p.any (λj=>j.owner==o&&j.type==1)=w):=by{have:=V aa;rw[bC,jc]at this;exact this};have H:=O l;have ah:=O r;cases w with
 |true=>{have iC:ao (jX rs p (be (i+1)<|p++x)=(g++[o],n)):=by{rw[ao,V R,V c3];rfl};clear l r;go_wp2;exact⟨⟨i+1,_,G,dd,⟨_,_,_,U⟩,by rw[V iC];exact H⟩,dz⟩}
 |false=>{
 have iC:ao (jX rs p (be (i+1)<|p++x)=(g++[o],n++fY rs o 1)):=by{rw[ao,V R,V c3];rfl};have aj:=l.below (w1:=bx wr) (cc.drew);have bB:=r.fr (p:=λ_=>True) (B:=bx wr) (co.zY<|cc.drew) λ_ _=>cy;clear l r H ah;go_upto_region 24 with fail;clear a1 bi a2 bj bl a3;have a1:=aj.1.cells;have a3:=aj.1.frozen;have bb:=O aj;have hown1:(f_ rs o 1).map (gw o)=fY rs o 1:=by rw[Q3];unfold f_;rw[bV bW]
 have eD:=zK (V bS) o 1;have cV:=O<|Ja (W:=bx wr) (x:=λc=>(A c\/ae c=bA (aE bI (E g+1) fJ))\/ae c=bA (aE aC (E n) aF)) (base:=0) (V dW) (V bS) (aj.Zv (V bY) d1) (λc aV e=>by{rcases e with(e|e)|e;{exact dr c aV e};{have:=(aj.3.lt c<|b5 e).1;have:=bY.4;omega};{have:=(aj.4.lt c<|b5 e).1;have:=bY.4;omega}}) (dJ _) 1 bB.nm bH (bB.imp λc _ d5 e=>d5 (by rcases e with(e|e)|e;exact .inl e;exact .inr<|.inr e;exact .inr<|.inl e));clear aj bB ;refine Gw (S:=λ_=>True) b6 cy λhS=>?_;refine fT 0 cy ?_;refine fT 1 cy ?_;refine fT 2 cy ?_;refine fT 3 cy ?_;refine fT 5 cy ?_;refine fT 6 cy ?_;refine fT 7 cy ?_;refine lw (rs:=[4,8]) b6 ax (jv U (λK hK=>?_)<|jv U (λK hK=>?_) kU);{
 go_simp;refine hK.out _ _ cy λhS=>?_;clear hK K;try simp only[Act.put,kB,iR,iy]
 refine lw (rs:=[8]) b6 ax (jv U (λK hK=>?_) kU);go_simp;go_wp2_with (go_at_call 207;go_loud (refine cV.mono ?_;rintro D dp ⟨⟨es,rfl,aM⟩,F⟩;have bQ:=O aM;have bR:=O F;clear aM F));have Q:=bb.below bR;obtain⟨eq,ev,Y,al,aP,dy,mO,cs⟩:=Q.add1 (V bQ) CG;subst cs;have afx:=O Y;have Nk:=O aP;have ck:=Q.1.cells;have ep:=Q.1.frozen;have ew:=al.cells;have ee:=al.frozen;clear Q Y al aP;refine hK.out _ _ cy λhS=>?_;clear hK K;try simp only[Act.put,kB,iR,iy]
 exact MD};{
 go_simp;go_wp2_with (go_at_call 207;go_loud (refine cV.mono ?_;rintro D dp ⟨⟨es,rfl,aM⟩,F⟩;have bQ:=O aM;have bR:=O F;clear aM F));have Q:=bb.below bR;obtain⟨eq,ev,Y,al,aP,dy,mO,cs⟩:=Q.add1 (V bQ) CG;subst cs;have afx:=O Y;have Nk:=O aP;have ck:=Q.1.cells;have ep:=Q.1.frozen;have ew:=al.cells;have ee:=al.frozen;clear Q Y al aP;refine hK.out _ _ cy λhS=>?_;clear hK K;try simp only[Act.put,kB,iR,iy]
 refine CQ 4 ?_;exact MD}}})}})}))};{have dg:¬(i:Int)<E p+E x:=G;have dw:i=E (p++x):=G;have R:ao (jX rs p (p++x)=(g,n)):=by{have:=V a8;rw[dw,jc]at this;exact this};go_upto_region 2 with fail;go_region;have bb:=O<|z.below (w1:=bx wr) (cc.drew);clear z c4;go_wp2;exact kh (v:=bZ #[]) (by simp[c_,results161]) U ⟨U,_,_,by rw[V R];exact bb⟩})
def aaM(d:b.1[a]? = ae (aZ #[k,aE af 0 0] 96)):a_ aL 41 #[bv a] b (cI (aG ak) b):=by
 let e:aA b (N a 1)=ae (bX):=by unfold aA;grind
 go_wp2;go_ret;exact bd U<|cU _ _
def vy:ap:=[111,114,105,103,105,110]
def Nt(h:φ:=by exact⟨λ⟨p,h⟩=>⟨p,b5 h⟩,λ⟨p,h⟩=>⟨p,b5 h⟩⟩):φ:=h
def ST(a s):Lib.hasSuffix a s=aD↔∃p,a=p++s:=by rw[Lib.hasSuffix,OP];exact Nt
def SU(a s):Lib.hasPrefix a s=aD↔∃p,a=s++p:=by rw[Lib.hasPrefix,List.isPrefixOf_iff_prefix];exact Nt
def SV:jm (d++[10])=sV (I 10 d):=by let:Lib.hasSuffix (d++[10]) [10]=aD:=(ST _ _).2 ⟨d,U⟩;unfold jm Lib.trimSuffix;simp_all
def FK{s}(c:∀b,s≠b++[10]):jm s=af:=by rw[jm,bV];intro a;let:=(ST _ _).1 a;grind
theorem SW:∀(f:Nat) (c:ap) (b:UInt8),E c<=f->b∈c->b=46\/∃g∈I 46 c,b∈g
 |f,c,b,n,e=>by
  rcases m7 46 c with⟨_,h⟩|⟨j,d,i,_,h⟩;{grind};{
  rw[i]at e;rcases i_.1 e with a|a;{grind};{
  rcases fw.1 a with a|a;{grind};{
  have o:E d<f:=by grind
  rcases SW (f-1) d b G a with a|⟨g,k,l⟩;{grind};grind}}}
termination_by f=>f
decreasing_by omega
def aaN(a:eL d=aD):(32:UInt8)∉d:=by
 intro l;have e:(hO ak d).isSome=aD:=by rw[rp];exact a
 unfold hO at e;split at e;{
 rename_i n;rcases SW (E d) d 32 bo l with a|⟨p,j,k⟩;{grind};{
 let o:∀(b:List ap) (h:Nat),k9 ak h b=aD->∀i∈b,kr i=aD:=by{
 intro b;induction b with
 |nil=>simp
 |cons q b r=>{intro h a i g;rw[k9,e9]at a;rcases fw.1 g with rfl|g;{have:=a.1;unfold qR at this;grind};grind}};have c:=o _ 0 n.2 p j;rw[kr,e9]at c;have:=rX.1 c.2 32 k;exact absurd this bW}};grind
def aaO{b}(h:b∉d):I b d=[d]:=by rcases m7 b d with⟨_,c⟩|⟨a,e,g,_,_⟩;{exact c};grind
def aaP(c:I 32 d=[vy,h]):Lib.hasPrefix d kX=aD/\l6 d kX=h:=by
 have b:=uG 32 d;rw[c]at b;let a:d=kX++h:=by rw[<-b];rfl
 let e:=(SU _ _).2 ⟨h,a⟩;refine⟨e,?_⟩;grind[l6]
def aaQ{f}(a:(Lib.hasPrefix f kX&&eL (l6 f kX))=aD):∃c,I 32 f=[vy,c]/\eL c=aD/\l6 f kX=c:=by
 rw[e9]at a;let⟨b,g⟩:=(SU _ _).1 a.1;let d:l6 f kX=b:=by{grind[l6]};rw[d]at a;refine⟨b,?_,a.2,d⟩;let e:f=vy++32::b:=by rw[g];rfl
 rw[e,Qa,aaO<|aaN a.2];rfl
def SX:∀(c:List ap) (a:ap),ji (c++[a])=(ji c).bind λe=>(iB a).map λb=>e++[b]
 |[],a=>by show(iB a).bind (λb=>(ji []).map (b :: ·))=_;cases iB a<;>rfl
 |d::c,a=>by
  show(iB d).bind (λb=>(ji<|c++[a]).map (b :: ·))=Option.bind ((iB d).bind λb=>(ji c).map (b :: ·)) _;rw[SX c a];cases iB d with
  |none=>rfl
  |some b=>{
  cases ji c with
  |none=>rfl
  |some e=>{
  cases iB a with
  |none=>rfl
  |some g=>rfl}}
def FL:∀(b:List ap) (a:List aK),ji b=ae a->E a=E b
 |[],a,c=>by have:[]=a:=gm c;grind
 |e::b,a,c=>by
  have g:(iB e).bind (λd=>(ji b).map (d :: ·))=ae a:=c;cases j:iB e with
  |none=>grind
  |some d=>{
  cases h:ji b with
  |none=>grind
  |some i=>{rw[j,h]at g;have:d::i=a:=gm g;rw[<-this,dW,FL b i h];rfl}}
def SZ:∀(a:List ap) (b:Nat) (d:b<E a),iB a[b]=af->ji a=af
 |c::a,0,_,d=>by show(iB c).bind _=af;grind
 |c::a,b+1,g,d=>by show(iB c).bind (λe=>(ji a).map (e :: ·))=af;rw[SZ a b (by grind) d];simp
def S0{e}(h:E d<=3000)(a:iB d=ae e):zJ e:=by
 unfold iB at a;split at a;{
 rename_i j k l c n;split at a;{
 rename_i b;simp only[e9]at b;obtain rfl:=b5<|gm a;let i:c∈Lib.splitN d [32] 4:=by grind
 let g:=b.1.2;refine⟨b.1.1,(QN g).2.2,b.2,?_⟩;let:=Is 32 _ d c i;exact cJ this h};grind};grind
def JZ:∀(b:List ap) (a:List aK),(∀h∈b,E h<=3000)->ji b=ae a->∀c∈a,zJ c
 |[],a,_,e=>by have:[]=a:=gm e;grind
 |d::b,a,j,e=>by
  have i:(iB d).bind (λc=>(ji b).map (c :: ·))=ae a:=e;cases k:iB d with
  |none=>grind
  |some c=>{
  cases l:ji b with
  |none=>grind
  |some n=>{rw[k,l]at i;have:c::n=a:=gm i;rw[<-this];intro p g;rcases fw.1 g with rfl|g;{exact S0 (j d ax) k};{exact JZ b n (λh o=>j h<|l8 _ o) l p g}}}
section
open Go
section
variable {P:Program} {Q:Exit->Act->World->Prop}{S:World->Prop}
def tz(P:Program)(e:Array Oper)(Q:Exit->kq->aQ->Prop)(d:Nat)(a:Exit)(b:kq)(c:aQ):Prop:=(a=ky/\wpOp P e Q d (Q ky) b c)\/(a≠ky/\Q a b c)
def S4(a:List Oper)(b:Nat):Bool:=dC (E a=b+1)&&Region.sinkB .any (c7 a) b&&(List.range<|b+1).all λc=>match a[c]? with
 |some d=>d.6.isNone&&d.5.all λe=>dC<|e.1<c
 |none=>ak
def B4{h:Array Oper}{d:Exit}{c:kq}(a:tz P h Q g d c b)(e:d≠ky):Q d c b:=a.elim (λa=>absurd a.1 e) λa=>a.2
def abL{e:List Oper}{g:Oper}(aO:c<a)(r:e[c]? = ae g)(hg:g.6=af){o p:kq->aQ->Prop}(l:∀k h,o k h->p k h){k:kq}{h:aQ}(d:wpOp P (c7<|be a e) (tz P (c7 e) Q a) c o k h):wpOp P (c7 e) Q c p k h:=by
 have y:(c7<|be a e)[c]? = ae g:=by simp[aO,r]
 have z:(c7 e)[c]? = ae g:=by simpa using r
 have t:∀i,Region.wanted g i=aD:=λi=>GW
 unfold wpOp at d⊢;simp only[y,t,mM]at d;simp only[z,t,mM];rcases d with d|⟨A,b,i,B⟩
 ·refine bJ ?_;unfold Oper.wp at d⊢;generalize (execOp k.eval g).run P h=n at*;cases n with
  | ok b C=>
   cases b<;>simp only[Oper.upon]at d⊢
   all_goals first
    |exact l _ _ d
    |exact d.elim
    | (refine d.mono λx u j=>?_
       cases x with
       |returned v=>exact l _ _ j
       |panicked q=>exact B4 j ax
       |outgrown=>let⟨b,i,j⟩:=j;exact⟨b,i,B4 j ax⟩)
    |exact λq w=>let ⟨v,u,n,s⟩:=d q w;⟨v,u,l _ _ n,s⟩
  | halt b C=>
   cases b<;>simp only[Oper.upon]at d⊢
   all_goals first
    |exact B4 d ax
    |exact d.elim
 ·exact bE ⟨A,b,i,B4 B ax⟩
section
variable {l:List Oper}{n:Nat} (hlen:l.length=n+1) (hgd:∀(i:Nat) (o:Oper),l[i]? = some o->o.guard=none/\∀e∈o.after,e.on<i) (hsk:Region.sinkB .any l.toArray n=true)
theorem Kr{a:Array Bool}{i:Nat}:(a.push ak).getD i ak=a.getD i ak:=by by_cases b:i<J a;{simp[Iv,b,wJ b]};{by_cases c:i=J a;{subst c;simp};{let:J a+1<=i:=G;simp[b,this]}}
theorem abM(a:Array Bool):(a.push ak).getD (J a) aD=ak:=ax
theorem FM(a:Array Bool){i:Nat}(b:i<J a):(a.push ak).getD i aD=a.getD i aD:=by simp[Iv,b,wJ b]
theorem Ks{a:Array Bool}(c:J a=n){i:Nat}(aO:i<n):i∈sq .any (c7 l) (a.push ak)↔i∈sq .any (c7<|be n l) a:=by
 rw[tJ,tJ,FM a G];let b:(c7<|be n l)[i]? = (c7 l)[i]?:=by simp[aO]
 simp only[b,Kr]
include hlen hgd in
theorem abN{a:Array Bool}(q:J a=n)(k:sq .any (c7<|be n l) a=[]):∀i,i<n->a.getD i aD=aD:=by
 intro i;induction i using Nat.strongRecOn with
 |_ i p=>{
 intro aO;cases h:a.getD i aD with
 |true=>rfl
 |false=>{obtain⟨o,c⟩:∃o,l[i]? = ae o:=⟨l[i],fs G⟩;have:i∈sq .any (c7<|be n l) a:=tJ.2 ⟨h,o,by simp[aO,c],λe j _=>by{let d:=(hgd i o c).2 e j;have b:=p e.1 d G;let g:e.1<J a:=G;simp[g]at b⊢;exact b}⟩;rw[k]at this;cases this}}
include hlen hgd hsk in
theorem abO:∀(f:Nat) (a:Array Bool) (c:kq) (d:aQ),J a=n->HeadInv .any (c7 l) n (a.push ak)->wpAny P .any (c7<|be n l) (tz P (c7 l) Q n) f a c d->wpAny P .any (c7 l) Q (f+1) (a.push ak) c d:=by
 let H:Region.chainB .any (c7 l) n=aD:=by{rw[Region.chainB,rX];intro V R;have:=DN.1 R;simp at this;simp;left;omega};have I:∀(a:Array Bool),J a=n->(∀i,i<n->a.getD i aD=aD)->n∈sq .any (c7 l) (a.push ak):=λa g q=>by{obtain⟨o,k⟩:∃o,l[n]? = ae o:=⟨l[n],fs G⟩;refine tJ.2 ⟨by subst g;simp,o,by simpa using k,λe N _=>?_⟩;have j:=(hgd n o k).2 e N;have h:=q e.1 j;let L:e.1<J a:=G;rw[Kr];simp[L]at h⊢;exact h};have K:∀(f:Nat) (a:Array Bool) (c:kq) (d:aQ),J a=n->(∀i,i<n->a.getD i aD=aD)->wpOp P (c7 l) Q n (Q ky) c d->wpOp P (c7 l) Q n (wpAny P .any (c7 l) Q f<|(a.push ak).setIfInBounds n aD) c d:=λf a c d g q b=>by{
 refine wpOp_mono (λA F x=>wpAny_done (Pc.2 λi aO=>?_) x f) b;let⟨j,o,h,_⟩:=tJ.1 aO;have t:i<n+1:=by have:=(dK.1 h).1;simpa [hlen]using this
 by_cases p:i=n;{subst p;have:i<J ((a.push ak).setIfInBounds i aD):=ct;simp[g]at j};{rw[getD_set_ne aD G,FM a G,q i G]at j;cases j}};have D:∀(f:Nat) (a:Array Bool) (c:kq) (d:aQ),J a=n->HeadInv .any (c7 l) n (a.push ak)->(sq .any (c7<|be n l) a=[]->wpOp P (c7 l) Q n (Q ky) c d)->(sq .any (c7 l) (a.push ak)=[]->Q ky c d)/\(n∈sq .any (c7 l) (a.push ak)->wpOp P (c7 l) Q n (wpAny P .any (c7 l) Q f<|(a.push ak).setIfInBounds n aD) c d):=λf a c d g r O=>by{
 let z:(∀i,i<n->i∉sq .any (c7 l) (a.push ak))->sq .any (c7<|be n l) a=[]:=λb=>by{
 refine Pc.2 λi aO=>?_;let⟨_,o,h,_⟩:=tJ.1 aO;have t:i<n:=by have:=(dK.1 h).1;exact At
 exact b i t<|(Ks g t).2 aO};refine⟨λu=>?_,λp=>?_⟩;{have j:=z (λi _ aO=>by rw[u]at aO;cases aO);have:=I a g<|abN hlen hgd g j;rw[u]at this;cases this};{
 let q:∀i,i<n->a.getD i aD=aD:=λi aO=>by{
 cases M:a.getD i aD with
 |true=>rfl
 |false=>exact absurd p<|tail_waits hsk H (by simp[hlen]) r (n-i) i U aO (by rw[FM a G];exact M) n bo};have j:=z (λi aO y=>by{have:=(tJ.1 y).1;rw[FM a G,q i aO]at this;cases this});exact K f a c d g q<|O j}};intro f;induction f with
 |zero=>{intro a c d g r b;have k:=D 0 a c d g r λ_=>(b.2).elim (λb=>b.2) λb=>absurd U b.1;refine⟨k.1,λi aO=>?_⟩;have t:i<n+1:=by{let⟨_,o,h,_⟩:=tJ.1 aO;have:=(dK.1 h).1;simpa [hlen]using this};by_cases p:i=n;{subst p;exact k.2 aO};{have:=(Ks g<|show i<n by omega).1 aO;rw[b.1]at this;cases this}}
 |succ f S=>{
 intro a c d g r b;have k:=D (f+1) a c d g r λu=>(b.1 u).elim (λb=>b.2) λb=>absurd U b.1;refine⟨k.1,λi aO=>?_⟩;let⟨_,o,h,_⟩:=tJ.1 aO;have t:i<n+1:=by{have:=(dK.1 h).1;simpa [hlen]using this};by_cases p:i=n;{subst p;exact k.2 aO};{
 let w:i<n:=G;let C:l[i]? = ae o:=by simpa using h
 have y:=(Ks g w).1 aO;have e:(a.push ak).setIfInBounds i aD=(a.setIfInBounds i aD).push ak:=by{apply Array.ext_getElem?;intro T;by_cases B:i=T;{subst B;rw[Array.getElem?_setIfInBounds_self_of_lt ct,Array.getElem?_push_lt ct];simp};{simp[Iv,B]}};refine abL w C (hgd i o C).1 (λA F x=>?_)<|b.2 i y;rw[e];refine S (a.setIfInBounds i aD) A F (by simp[g]) ?_ x;rw[<-e];exact r.set aO w}}
end
def ags{g:Array Oper}{d:Option Nat}(h:∀b v c,Q (.panic b) (v.put d k) c->Q (.panic b) v c):∀b v c,tz P g Q a (.panic b) (v.put d k) c->tz P g Q a (.panic b) v c:=λb v c i=>bE ⟨ax,h b v c<|B4 i ax⟩
def B5{d:Array Oper}{a:Oper}{e:kq}(i:d[c]? = ae a)(hg:a.6=af)(h:a.wp P e b (Q ky) Q):tz P d Q c ky e b:=by
 refine bJ<|bd U ?_;let j:∀g,Region.wanted a g=aD:=λg=>GW
 simp only[wpOp,i,j,mM];exact bJ h
def dZ{g:Region.Mode}{v:Array Oper}{o:List Oper}(d:Nat){h:Oper}{e:Array Bool}{n:kq}{p:Array Bool}{j:kq}(u:S b)(i:wpAnyH P g v (tz P (c7 o) Q a) S c p j b)(aO:v[d]? = ae h:=by rfl)(y:Region.noSelect v=aD:=by kernel_rfl)(w:Region.free g v e d=aD:=by kernel_rfl)(x:(sq g v e).contains d=aD:=by kernel_rfl)(t:∀l n b,Q (.panic l) (n.put h.1 k) b->Q (.panic l) n b:=by exact λ_ _ _ i=>i)(A:YieldsIf P v S h k n:=by exact Or.inl ⟨dl,by intro b z;obtain⟨B,C⟩:=z;go_simp;first|done|with_reducible rfl⟩)(r:e.setIfInBounds d aD=p:=by exact AH)(q:n.put h.1 k=j:=by exact AH):wpAnyH P g v (tz P (c7 o) Q a) S (c+1) e n b:=by subst r q;exact agq aO y w x (ags t) A u i
def B6{y:List Oper}{h:kq}(g:Nat)(w:P.follows .mixedOrders=aD)(j:S4 y g=aD)(r:S<|bx b)(p:S (bx b)->wpAnyH P .any (c7<|be g y) (tz P (c7 y) Q g) S g (Array.replicate g ak) h (bx b)):(Code.region a (c7 y) aD).wp P Q h b:=by
 simp only[S4,e9,pZ]at j;let⟨⟨c,x⟩,t⟩:=j;let u:∀(d:Nat) (e:Oper),y[d]? = ae e->e.6=af/\∀n∈e.5,n.1<d:=λd e l=>by{have:=(iW.1 l).1;have:=rX.1 t d<|DN.2 G;rw[l]at this;simp only[e9,Option.isNone_iff_eq_none,Array.all_eq_true',pZ]at this;exact this};refine wp_region_any w ?_;let o:J (c7 y)=g+1:=by simp[c]
 rw[o,mx];refine abO c u x g (Array.replicate g ak) h _ ax ⟨by simp[c],λB C _ k=>?_,λz A q=>?_⟩<|wpAny_of_held _ _ _ _<|p r;{rw[Kr,getD_replicate_false]at k;cases k};{
 have:z=g:=by simp[c]at q;omega
 rw[this];have i:=abM<|Array.replicate g ak;rw[Array.size_replicate]at i;exact i}
end
end
def afa:joinedFacts aL 3 Tryz.f3 (Rows.OpenSpec.upto Rows.allSpec).bare Rows.allUptoRow=aD:=by simp only[joinedFacts,e9];exact bd (bd (bd (bd (bd (bd (bd (bd (bd (bd (bd (bd (bd (bd (bd (bd (bd (bd (bd (bd (bd (bd (bd (bd (bd (bd (bd (bd (bd (bd (bd bG fa) fy) cB) fe) fJ) agv) mO) aeX) tB) yE) yF) Ka) ae2) Kn) ae3) ae4) SQ) zC) ae5) agu) DU) ae6) ae7) aeY) agC) ae8) ae9) dl) LE) GR) ae_
def VF:aL.funcNamed Rows.allUptoRow.3=ae 3:=b6
end Go.Proofs.YtkkpahmoljiepabGreatDoor
