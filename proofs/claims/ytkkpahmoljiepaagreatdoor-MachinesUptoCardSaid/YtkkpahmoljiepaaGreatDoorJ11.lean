import Derived.Test.YtkkpahmoljiepaaGreatDoorJ10
set_option maxRecDepth 1000000
set_option maxHeartbeats 12800000
set_option linter.all false
open Go.Ending renaming returned->bg
open Go.IntKind renaming i64->am
open Go.Proofs.Tryz renaming prog->aK
open Go.World renaming cell?->aD,drew->bq,setCell->a_
open Option renaming none->ai,some->ag
namespace Go.Proofs.YtkkpahmoljiepaaGreatDoor
open Go.RowKit Go.Proofs.Tryz
variable{a d o w:Nat}{b:World}{c g:ap}
def CL(d l b:Nat)(g j:ap)(a:cz)(e:Nat)(k:World)(h:Ending)(c:World):Prop:=h=bg (J<|if a.10 then 4 else 0)/\iA c d l b g j a e/\cI (λi=>i=d) b k c
def WF{H:ap->ap}{Y:cz}{m:Nat}(c:Y.lB.2<8/\12<=Y.gT.2/\Y.gT.2<=1536):cz.pY H Y (m+1)=cz.pY H (({ Y with s:=(Y.gT.1.gv (1024+1536*Y.lB.2+12)<|Y.gT.2-12).1.off 0 Y.2 [Y.lB.2],ra:=(Y.2+1)%65536,eH:=(Y.3+1)%65536 } : cz).ans H (Y.gT.1.gv (1024+1536*Y.lB.2+12)<|Y.gT.2-12).2) m:=by
 have a:Y.kM=({ Y with s:=(Y.gT.1.gv (1024+1536*Y.lB.2+12)<|Y.gT.2-12).1.off 0 Y.2 [Y.lB.2],ra:=(Y.2+1)%65536,eH:=(Y.3+1)%65536 },ag (Y.gT.1.gv (1024+1536*Y.lB.2+12)<|Y.gT.2-12).2):=by unfold cz.kM cz.vJ;rw[b7 c]
 have b:=λf=>WB (H:=H) (Y:=Y) (m:=m) (f:=f);generalize cz.pY H Y (m+1)=e at *;generalize Y.kM=d at a b;subst a;exact b _ af
def agp{H:ap->ap}{Y:cz}(d:¬(Y.lB.2<8/\12<=Y.gT.2/\Y.gT.2<=1536)):cz.pY H Y (a+1) = { Y with s:=Y.gT.1,b:=true }:=by
 have c:Y.kM=({ Y with s:=Y.gT.1 },ai):=by unfold cz.kM cz.vJ;rw[bJ d]
 have m:=Wz (H:=H) (Y:=Y) (m:=a);generalize cz.pY H Y (a+1)=g at *;generalize Y.kM=e at c m;subst c;exact m af
def JV{P:Prop}(h:P:=by go_wp2_with fail;refine kg.m ?_;rintro w5 ⟨h1,h2⟩;have bI:=ae<|dO w5 h1 h2;clear h1 h2;go_wp2;go_ret;exact bI):P:=h
def agq{j:ap->ap}{X:cz}(r:iA b a d o c g X w)(dW:w<=600000000000)(c0:∀f,(j f).length<=1524)(bD:∀(f:ap) (D:World),f.length<=1524->cI (λe=>e=a) o b D->Calls aK 38 #[N d,.agg #[aZ c,aZ g],aZ f] D (cQ (aZ<|j f) D)):Calls aK 94 #[N a] b λt l=>CL a d o c g (X.tN j) (w+30100) b t l:=by
 have⟨_,_,_,_,_,_,_,_,_,_,_,CK⟩:=iS r.2 r.3.2.2.2.2;cases ay:X.10 with
 | true =>
  have cF:X.tN j=X:=by rw[cz.tN,ay,b7 af]
  rw[cF];have ah:Hid (CL a d o c g X (w+30100) b (bg<|J 4) b):=⟨by rw[ay];rfl,rh r G,tl _ _ _⟩
  rw[ay]at CK;clear r bD cF;go_wp2;go_ret;exact ah
 | false =>
 rw[ay]at CK;have⟨R,H⟩:=dK<|X.tN j
 rw[H];have aI:=ae<|afn r ay G;have⟨Z,kU⟩:=dK X.lC
 have bm:Hid (R=if Z.10 then Z else cz.IA j Z):=by rw[Hid,<- H,cz.tN,ay,bJ bL,kU]
 rw[kU]at aI;have⟨v0,hv0⟩:=bi (if Z.10 then 4 else 0:Int)
 rw[<- hv0]at aI;have bn:=ae hv0;have c3:=ae bD;clear r bD H kU hv0;go_in;go_wp2_with fail;refine aI.m ?_;rintro aJ ⟨U,aX⟩;have cN:=ae U;have ct:=ae aX;cases aB:Z.10 with
 | true =>
  have aH:=V bn;have E:=V bm;rw[aB,b7 af]at aH E;subst aH;have ah:Hid (CL a d o c g R (w+30100) b (bg<|J 4) aJ):=⟨by rw[E,aB];rfl,by rw[E];exact rh U G,aX⟩
  clear E U aX aB aI;go_wp2;go_ret;exact ah
 | false =>
  have aH:=V bn;have E:=V bm;rw[aB,bJ bL]at aH E;subst aH;have cZ:=ae E;have⟨_,_,_,aV,_⟩:=iS U.2 U.3.2.2.2.2;have bc:Hid (Calls aK 157 #[N o,J 258,J 2] aJ λt l=>t=bg (J (Z.1.b_ 258 2).2)/\dg l o (Z.1.b_ 258 2).1/\cI bH o aJ l):=EO 258 2 _ aJ U.1 G G U.4.1 G;have az:=sI U.4.1 258 2;have dt:=wB Z.1 258 2;rw[show(2:Nat) ^ (8*2)=65536 from af]at dt;have⟨n,hn⟩:=bi<|nk (Z.1.b_ 258 2).2 Z.3;have:=U.3.2.1;have cL:n<65536:=by rw[hn];unfold nk;omega
  have cJ:(((Z.1.b_ 258 2).2:Int)-(Z.3:Int)+65536)%65536=(n:Int):=by rw[hn];unfold nk;omega
  have dv:(((Z.1.b_ 258 2).2:Int)-(Z.3:Int)+65536).tmod 65536=(n:Int):=by rw[qQ G];exact cJ
  have a9:Hid (R=if n<=8 then cz.pY j { Z with s:=(Z.1.b_ 258 2).1 } n else { Z with s:=(Z.1.b_ 258 2).1,b:=true }):=by rw[Hid,V cZ,cz.IA,<- hn]
  have cu:=ae az;generalize (Z.1.b_ 258 2).2=dX at *;generalize (Z.1.b_ 258 2).1=aO at *;clear E U aX aI hn az bm cZ bn;go_wp2_with fail;refine bc.m ?_;rintro cS ⟨aF,bB⟩;have ba:iA cS a d o c g { Z with s:=aO } (w+100):=rh (tS (X:=Z) (V cN) aF bB (V cu) G) G;have bM:=ae ba;have bA:=ae<|dC (V ct)<|jk bB λ_ r=>r.elim;have⟨_,_,_,_,_,_,_,aW,_⟩:=iS ba.2 ba.3.2.2.2.2;clear aF bB ba bc aV CK cN ct;by_cases bP:n<=8
  ·have du:¬8<(n:Int):=G;have cR:Hid (cz.pY j { Z with s:=aO } n=R):=by have:=V a9;rw[b7 bP]at this;exact this.symm
   clear a9;go_wp2
   go_loopw [6] (λe wr=>∃(i:Nat) (Y:cz),e=J i/\i<=n/\iA wr a d o c g Y (w+100+3300*i)/\Y.10=false/\cz.pY j Y (n-i)=R/\cI (λe=>e=a) o b wr) λe _=>n-(intOf e).toNat
   ·exact⟨0,_,af,eb _,bM,aB,cR,bA⟩
   ·clear bM bA cR aW cu;obtain⟨i,Y,rfl,cC,T,aM,H,z⟩:=hrel;have b1:=ae z;by_cases dr:i<n
    ·have⟨_,_,_,aV,_,_,_,Nq,_⟩:=iS T.2 T.3.2.2.2.2;have c4:=T.3.2.1;have⟨K,tO⟩:=bi<|Y.3%8
     have⟨a4,aw⟩:=bi<|8*K
     have⟨C,hq⟩:=bi<|260+a4;have⟨q4,Dx⟩:=bi<|C+4;have cr:(Y.3:Int)%8=K:=G;have dj:(Y.3:Int).tmod 8=(K:Int):=by rw[qQ G];exact cr
     have dh:8*(K:Int)=a4:=G;have dl:260+(a4:Int)=C:=G;have dm:(C:Int)+4=q4:=G;have dA:q4<900:=G;have:K<8:=G;have:a4<64:=G;have:C<900:=G;have al:Y.lB=Y.1.b_ C 4:=by rw[cz.lB,hq,aw,tO]
     have a1:Y.gT=Y.lB.1.b_ q4 4:=by rw[cz.gT,Dx,hq,aw,tO]
     have cW:Hid (Calls aK 157 #[N o,J C,J 4] wr λt l=>t=bg (J Y.lB.2)/\dg l o Y.lB.1/\cI bH o wr l):=by rw[al];exact EO C 4 _ wr T.1 G G T.4.1 G
     have bd:Hid (Y.lB.1.Ok<|w+100+3300*i+4):=by rw[Hid,al];exact sI T.4.1 _ 4
     have az:Hid (Y.gT.1.Ok<|w+100+3300*i+8):=by rw[Hid,a1];exact sI (V bd) _ 4
     have dT:Y.lB.2<4294967296:=by rw[al];exact wB _ _ 4
     have dU:Y.gT.2<4294967296:=by rw[a1];exact wB _ _ 4
     rw[show n-i=(n-(i+1))+1 by omega]at H;have bT:=ae λak=>(WF ak).symm.trans H;have bF:=ae λak=>(agp ak).symm.trans H;have cO:=ae a1;have bZ:=ae T;have cf:=ae aM;clear T z H tO aw hq Dx al a1 aM;generalize Y.lB.2=W at *;generalize aY:Y.gT.2=B at *;replace aY:=ae aY;go_wp2_with fail;refine cW.m ?_;rintro aa ⟨bz,bx⟩;have a8:=tS (V bZ) bz bx (V bd) G;have cX:Hid (Calls aK 157 #[N o,J q4,J 4] aa λt l=>t=bg (J B)/\dg l o Y.gT.1/\cI bH o aa l):=by
      have:=EO q4 4 _ aa bz G G (V bd) G;rw[<- V cO,V aY]at this;exact this
     have⟨_,_,_,aJ0,_⟩:=iS a8.2 a8.3.2.2.2.2;have b6:=ae a8;have cG:=ae<|dC (V b1)<|jk bx λ_ r=>r.elim;clear cW bZ b1 bz bx a8 aV Nq bd cO aY;go_wp2_with fail;refine cX.m ?_;rintro ad ⟨cD,bG⟩;have F:=tS (V b6) cD bG (V az) G;have b3:=ae F;have bO:=ae<|dC (V cG)<|jk bG λ_ r=>r.elim;clear cX b6 cG cD bG aJ0 az;by_cases ak:W<8/\12<=B/\B<=1536
     ·obtain⟨cY,c_,c6⟩:=ak;have S:=V bT ⟨cY,c_,c6⟩;have av:¬8<=(W:Int):=G;have b4:=gD av;have a0:¬(B:Int)<12:=G;have di:=gD a0;have cH:¬1536<(B:Int):=G;have:decide (1536<(B:Int))=false:=gD cH;have aW:aD ad (M a 15)=ag (J Y.3):=(iS F.2 F.3.2.2.2.2).2.2.2.2.2.2.2.1;have:=bk.frozen F.2;have⟨u1,hu1⟩:=bi<|(Y.3+1)%65536;have cP:((Y.3:Int)+1)%65536=u1:=G;have da:((Y.3:Int)+1).tmod 65536=(u1:Int):=by rw[qQ G];exact cP
      have⟨uG,pZ⟩:=xv F (kI (mT _ _) 15<|J u1) (yM F.2 F.3.2.2.2.2 u1).2.2.2.1 af ⟨F.3.1,by show u1<65536;omega,F.3.2.2⟩ F.4.2;have⟨i0,aN,hz0,hz1,hz2⟩:=jN Cr;have⟨w6,a3,ahQ,Ra⟩:=run_make_own (P:=aK) (a_ ad ⟨a,15,ai⟩<|.int am u1) (a_ ad ⟨a,15,ai⟩<|.int am u1).1.size 58 5 i0 (.int .u8 0) 1 AC aN hz0 hz1 am am 1536 (by rw[hz2];omega) FT bv;have a3:(Instr.makeSlice 58 (J 0)<|J 1536).run aK (a_ ad ⟨a,15,ai⟩<|.int am u1)=.ok (.slice (ag<|M ((a_ ad ⟨a,15,ai⟩<|.int am u1).1.size) 0) 0 1536) w6:=a3;have⟨g6,aa6⟩:=bi<|(a_ ad ⟨a,15,ai⟩<|.int am u1).1.size;rw[<- aa6]at a3;have⟨w5,asQ⟩:=bi<|a_ ad ⟨a,15,ai⟩<|.int am u1;rw[<- asQ]at aa6 ahQ Ra uG pZ;have bb:a7 w5 w6:=cd.grown Ra bv (λi cC=>by cases cC);have⟨nn,jQ⟩:=bi<|B-12;have⟨p0,jf⟩:=bi<|1024+1536*W+12;rw[<- jQ,<- jf,<- hu1]at S;have bR:=ae jQ;have c2:=ae jf;have:=(Jb uG).1;have cV:Hid (qy w5 w6 o (bC g6 0 0 1536) [] Y.gT.1):=⟨by rw[aa6];exact ahQ,tQ uG.1 bb,λe bN t=>by have:=sC uG.1<|oB (bb.5 o<|jv uG.1) bN;have:e=g6:=ih t;omega,qc bb<|jv uG.1⟩
      have cL:nn<=1524:=G;have an:=ae uG;have bt:=ae uG.4.1;have cK:=ae<|dC (V bO) pZ;have ah:=ae S;clear S bT bF F b3 bO uG pZ ahQ Ra bb asQ aa6 hu1 cr dj dh dl dm cJ dv jQ jf;have⟨u0,afF⟩:=bi Y.3;rw[<- afF]at aW cP da c4;clear afF;generalize Y.gT.1=y at *;go_wp2
      go_loopw [10,11] (λv e wr=>∃(p:Nat) (dB:Value),dB=v/\e=J (12+p:Nat)/\p<=nn/\qy w5 wr o v (y.gv p0 p).2 (y.gv p0 p).1) λ_ e _=>B-(intOf e).toNat
      ·exact⟨0,_,af,af,eb _,cV⟩
      ·clear cV a3 aW;obtain⟨p,v,rfl,rfl,dq,A⟩:=hrel;have b9:=I_ y p0 p;by_cases dr:p<nn
       ·have bo:=ix A.4 an.1 an.2 bL id;have aV:aD (bq wr) (M a 3)=ag (N o):=(iS bo an.3.2.2.2.2).2.2.2.1;have⟨e,NN⟩:=bi<|12+p;have⟨bQ,hpl⟩:=bi<|1024+1536*W;have⟨ac,iE⟩:=bi<|bQ+e;have b5:ac=p0+p:=cj<|V c2
        have dw:Hid (y.gv p0 (p+1)=((y.gv p0 p).1.uA ac,(y.gv p0 p).2++[(y.gv p0 p).1.tL ac])):=by rw[Hid,cw.gv,b5]
        have:(bQ:Int)+e=ac:=G;have dR:am.wrap ((bQ:Int)+e)=(ac:Int):=fT
        have:=jW (ac:Int)
        have bV:=ae λD=>afT cY D;rw[<- hpl]at bV;have⟨o1,o2,_⟩:=EN (V bt) p0 p;have bc:=ae<|I4 ac (bq wr) A.2 G G G;have a2:Hid (∀h:World,cI bH o (bq wr) h->aD h (M a 3)=ag (N o)):=λh z=>(iS (ix (w:=bq wr) z A.2 bo bL id) an.3.2.2.2.2).2.2.2.1;have dc:Hid (∀h bh,dg h o bh->cI bH o (bq wr) h->qy w5 h o v (y.gv p0 p).2 bh):=λh bh aG z=>qy.aq3 A aG<|dC l7 z;rw[<- NN];have dz:(e:Int)<B:=cj<|V bR
        have⟨i1,CU⟩:=bi<|12+(p+1);have:(e:Int)+1=i1:=G;have bU:=ae CU;have dd:=ae NN;generalize (y.gv p0 p).1.tL ac=bu at *;generalize (y.gv p0 p).2=s at *;generalize (y.gv p0 p).1.uA ac=aO at *;clear A iE NN CU b5 o1 o2 bo hpl;go_wp2
        go_region_held (λl=>aD l (M a 3)=ag (N o)) (first|assumption|go_keep)
         (first|(go_at_call 92;go_loud (refine(bV _).m ?_;rintro l rfl))|(go_at_call 159;go_loud (refine bc.m ?_;rintro x ⟨aL,aj⟩;have:=V a2 x aj;have aP:=V dc x _ aL aj)))
        all_goals
         have cg:x.ownsRow w5.1.size 5 1 v p (s.map λdk=>.int .u8 dk.toNat):=by
          have:=aP.1;unfold ib at this;rw[b9]at this;exact this
         have:=aP.4.4;have b2:=ae aP;clear aL aj aP;go_wp2_with (at_builtin;go_loud (refine wpList_append_lies _ af (.tmp 102) (.tmp 104) 58 af w5.1.size 5 i0 (.int .u8 0) 1 1 AC aN hz0 hz1 hz2 af bL v p _ af (cg.alloc _) (M x.1.size 0) 1 1 [.int .u8 bu.toNat] af af (Vq x bu) (Vr bu) bL FT G cx (x.1.size+1) aA ?_;intro bw dV ax cE cB cA dN));have c9:=ae<|qy.aq4 (V b2) cE G cB cA;clear cE cB cA cg b2;go_wp2;exact⟨⟨p+1,_,af,by rw[<- V bU],G,by rw[V dw];exact c9⟩,by have:=V bU;have:=V dd;have:=V bR;exact t8⟩
       ·obtain rfl:p=nn:=G;have dz:¬12+(p:Int)<B:=cj<|V bR
        have Q:iA wr a d o c g { Y with s:=(y.gv p0 p).1,eH:=u1 } (w+100+3300*i+8+p):=tS (V an) A.2 A.4 (EN (V bt) p0 p) G;have ch:Hid (∀h,cI (λe=>e=a) o wr h->(convert 58 9 v).run aK h=.ok (aZ (y.gv p0 p).2) h):=λh z=>yc<|mN A.1 λbw bE=>z.5 bw (pX A.1 bE) (λt=>cj<|(sG A.1 bE).1) λbN=>A.3 bw bN bE.symm;have cT:=ae<|dC (V cK)<|jk A.4 λ_ r=>r.elim;have S:=V ah;generalize (y.gv p0 p).1=bj at *;generalize (y.gv p0 p).2=u at *;have⟨ra,zX⟩:=bi Y.2;have⟨zi,Rc⟩:=bi ({ Y with s:=bj,eH:=u1 }:cz)
        rw[<- Rc]at Q;have aC:zi.2=ra:=by rw[Rc,zX]
        have aQ:=Q.3;rw[aC]at aQ;have iZ:=(iS Q.2 Q.3.2.2.2.2).2.2.2.1;have cq:aD wr (M a 14)=ag (J ra):=by rw[<- aC];exact(iS Q.2 Q.3.2.2.2.2).2.2.2.2.2.2.1
        have:=aQ.1;have ab:=aQ.2.2.2.2;have⟨K,tO⟩:=bi<|ra%8
        have⟨bK,aF⟩:=bi<|2*K
        have⟨C,hq⟩:=bi<|132+bK;have i1:(ra:Int)%8=K:=G;have dL:(ra:Int).tmod 8=(K:Int):=FM
        have aJ:=jW (K:Int)
        have ad:am.wrap (2*(K:Int))=(bK:Int):=fT
        have dS:am.wrap (132+(bK:Int))=(C:Int):=fT
        have dA:C<=700:=G;have⟨S3,gq⟩:=bi<|bj.fo C W 2;have bp:zi.1=bj:=by rw[Rc]
        have aR:=Q.4.1;rw[bp]at aR;have be:S3.Ok (w+100+3300*i+8+p+2):=by rw[gq];exact ky aR _ _ 2
        have bf:=Q.1;rw[bp]at bf;have cy:Hid (Calls aK 91 #[N o,J C,J 2,J W] (bq wr) λt l=>t=bg (.tuple #[])/\dg l o S3/\cI bH o (bq wr) l):=by
         rw[gq];exact tR C 2 W bf G G G aR G
        have⟨k,hs1⟩:=bi<|(ra+1)%65536;have de:((ra:Int)+1)%65536=k:=G;have dM:((ra:Int)+1).tmod 65536=(k:Int):=by rw[qQ G];exact de
        have df:k<65536:=G;have b_:Hid (cz.pY j (({ zi with s:=S3.fo 130 k 2,ra:=k } : cz).ans j u) (n-(i+1))=R):=by
         rw[Hid,hs1,gq,hq,aF,tO,zX,Rc];rw[cw.off,cw.off,g8,g8]at S;exact S
        have a2:Hid (∀h,dg h o S3->cI bH o (bq wr) h->iA h a d o c g { zi with s:=S3 } (w+100+3300*i+8+p+2)):=λh aG z=>tS Q aG (dC l7 z) be G;have dy:aD (bq wr) (M a 3)=ag (N o)/\aD (bq wr) (M a 14)=ag (J ra):=⟨iZ,cq⟩
        have dJ:=ae aC;have bY:Hid (∀h,iA h a d o c g { zi with s:=S3 } (w+100+3300*i+8+p+2)->aD h (M a 3)=ag (N o)/\aD h (M a 14)=ag (J ra)):=λh r=>by
         have b0:=(iS r.2 ab).2.2.2.2.2.2.1;rw[show({ zi with s:=S3 } : cz).2=ra from aC]at b0;exact⟨(iS r.2 ab).2.2.2.1,b0⟩
        have cs:=ae be;have ci:Hid (zi.10=false):=by rw[Hid,Rc];exact cf
        have dp:u.length<=1524:=G;clear A Q S Rc zX aC tO aF hq gq be hs1 bp aR bf b9 an bt cK ah cf dq;go_wp2
        go_region_held (λl=>aD l (M a 3)=ag (N o)/\aD l (M a 14)=ag (J ra)) (first|assumption|go_keep)
         (first|(go_at_call 91;go_loud (refine cy.m ?_;rintro x ⟨aL,aj⟩;have ao:=V a2 x aL aj;have:=V bY x ao)))
        all_goals
         have ck:cI (λe=>e=a) o wr x:=dC l7<|jk aj λ_ r=>r.elim;have:=bk.frozen ao.2;have⟨VK,aq⟩:=xv (Y:={ zi with s:=S3,ra:=k }) ao (kI (mT _ _) 14<|J k) (yM ao.2 ab k).2.2.1 af ⟨df,aQ.2⟩ ao.4.2;have dE:=(iS VK.2 ab).2.2.2.1;have dD:aD (a_ x ⟨a,14,ai⟩<|.int am k) (M a 14)=ag (J k):=(iS VK.2 ab).2.2.2.2.2.2.1;have⟨S5,BN⟩:=bi<|S3.fo 130 k 2;have bX:S5.Ok (w+100+3300*i+8+p+4):=by rw[BN];exact ky (V cs) _ _ 2
         have cM:Hid (Calls aK 91 #[N o,J 130,J 2,J k] (bq<|a_ x ⟨a,14,ai⟩<|.int am k) λt l=>t=bg (.tuple #[])/\dg l o S5/\cI bH o (bq<|a_ x ⟨a,14,ai⟩<|.int am k) l):=by
          rw[BN];exact tR 130 2 k VK.1 G G G (V cs) G
         have cl:=ae VK;have bW:=ae<|dC ck aq;have b8:Hid (∀h,dg h o S5->cI bH o (bq<|a_ x ⟨a,14,ai⟩<|.int am k) h->iA h a d o c g { zi with s:=S5,ra:=k } (w+100+3300*i+8+p+4)):=λh aG z=>tS (V cl) aG (dC l7 z) bX G;have:aD (bq<|a_ x ⟨a,14,ai⟩<|.int am k) (M a 3)=ag (N o)/\aD (bq<|a_ x ⟨a,14,ai⟩<|.int am k) (M a 14)=ag (J k):=⟨dE,dD⟩
         have ca:Hid (cz.pY j (({ zi with s:=S5,ra:=k } : cz).ans j u) (n-(i+1))=R):=by rw[Hid,BN];exact b_
         clear aL aj ck ao VK aq BN bX b_ a2 bY cy dJ iZ cq dy;go_wp2
         go_region_held (λl=>aD l (M a 3)=ag (N o)/\aD l (M a 14)=ag (J k)) (first|assumption|go_keep)
          (first|(go_at_call 91;go_loud (refine cM.m ?_;rintro ax ⟨aw,aq⟩;have I:=V b8 ax aw aq;have c1:aD ax (M a 3)=ag (N o)/\aD ax (M a 14)=ag (J k):=⟨(iS I.2 ab).2.2.2.1,(iS I.2 ab).2.2.2.2.2.2.1⟩)))
         all_goals
          have⟨a6,ft⟩:=bi zi.7;have⟨n1,al⟩:=bi<|a6+1;have:(a6:Int)+1=n1:=G;have cL:a6<=w+100+3300*i+8+p+4:=by rw[ft];exact I.4.2.1
          have dY:aD ax (M a 16)=ag (J a6):=by rw[ft];exact(iS I.2 ab).2.2.2.2.2.2.2.2.1
          have:=bk.frozen I.2;have⟨DV,abd⟩:=bi ({ zi with s:=S5,ra:=k,n:=n1 }:cz)
          have⟨GV,ahT⟩:=xv (Y:={ zi with s:=S5,ra:=k,n:=n1 }) (rh (C':=w+100+3300*i+8+p+5) I G) (kI (mT _ _) 16<|J n1) (yM I.2 ab n1).2.2.2.2.1 af I.3 ⟨by show n1<=_;omega,cU I.4.2.2.1 G,cU I.4.2.2.2 G⟩;rw[<- abd]at GV;have aS:=GV.3.2.2.2.2;have br:Hid (cz.pY j (if j u=[]then DV else DV.snd (j u)) (n-(i+1))=R):=by
           have:=V ca;rw[Hid,abd,al,ft];exact this
          have cm:Hid (DV.10=false):=by rw[Hid,abd];exact ci
          have⟨wa,PZ⟩:=bi<|a_ ax ⟨a,16,ai⟩<|.int am n1;rw[<- PZ]at GV ahT;have aT:=dC (V bW)<|dC (dC l7<|jk aq λ_ r=>r.elim) ahT;have:(convert 58 9 v).run aK (bq wa)=.ok (aZ u) (bq wa):=V ch (bq wa)<|dC aT l7;have bl:=ae<|c3 u (bq wa) dp<|dC (dC (V cT) aT) l7;have dF:aD (bq wa) (M a 0)=ag (N d):=(iS GV.2 aS).1;have dG:aD (bq wa) (M a 1)=ag (aZ c):=(iS GV.2 aS).2.1;have dI:aD (bq wa) (M a 2)=ag (aZ g):=(iS GV.2 aS).2.2.1;have ar:=ae GV;have c7:=ae<|dC (V cT) aT;have bs:Hid (∀D,Below (bq wa).1.size (bq wa) D->aD D (M a 0)=ag (N d)/\aD D (M a 1)=ag (aZ c)/\aD D (M a 2)=ag (aZ g)):=λD dn=>by
           have t:=iS (show pB D a d o c g DV from(dn.5 a<|bk.lt GV.2).trans GV.2) aS;exact⟨t.1,t.2.1,t.2.2.1⟩
          have:aD (bq wa) (M a 0)=ag (N d)/\aD (bq wa) (M a 1)=ag (aZ c)/\aD (bq wa) (M a 2)=ag (aZ g):=⟨dF,dG,dI⟩
          have db:=ae PZ;clear aw aq I c1 GV ahT aT abd ft al ca ci cM b8 cl bW ch PZ;go_wp2;rw[<- V db]
          go_region_held (λl=>aD l (M a 0)=ag (N d)/\aD l (M a 1)=ag (aZ c)/\aD l (M a 2)=ag (aZ g)) (first|assumption|go_keep)
           (first|(go_at_call 38;go_loud (refine bl.m ?_;intro bS a5;have cn:=V bs bS a5)))
          all_goals
           have aE:a7 wa bS:=cd.drew.trans a5;have aU:iA bS a d o c g DV (w+100+3300*i+8+p+5):=⟨tQ ar.1 aE,(aE.5 a<|bk.lt ar.2).trans ar.2,ar.3,ar.4⟩
           have co:=ae<|dC (V c7)<|qc (L:=λe=>e=a) aE (Jb<|V ar).2.1;have c8:=c0 u;have au:=V br;by_cases ho:j u=[]
           ·have ds:((O<|j u).toList != [])=false:=Dl
            have dP:((O<|j u).toList==[])=true:=Dl
            have dQ:(O<|j u).toList.isEmpty=true:=Dl
            have c5:(O<|j u).toList=[]:=Dl
            rw[b7 ho]at au;have bI:=ae<|cv aU au;clear au br aU aE a5 cn ho bl bs;go_wp2;exact⟨⟨i+1,DV,dH,G,rh bI.1 G,cm,bI.2,co⟩,ee⟩
           ·have ds:((O<|j u).toList==[])=false:=by rw[kE,hZ];exact ho
            have c5:¬(O<|j u).toList=[]:=by rw[hZ];exact ho
            rw[bJ ho]at au;have bI:=ae au;have cp:=ae<|afY aU c8 G;clear au br aU aE a5 cn ho bl bs;go_wp2_with fail;refine cp.m ?_;rintro wc ⟨cc,cb⟩;have ce:=ae<|cv cc<|dC (V co) cb;clear cc cb cp;go_wp2;exact⟨⟨i+1,DV.snd<|j u,dH,G,rh ce.1 G,(ND DV<|j u).2.2.2.2.1.trans cm,bI,ce.2⟩,ee⟩
     ·have kg:=ae<|Jc<|V b3;have S:=V bF ak;have dO:Hid (∀w5,iA w5 a d o c g { Y with s:=Y.gT.1,b:=true } (w+100+3300*i+8)->cI (λe=>e=a) o ad w5->CL a d o c g R (w+30100) b (bg<|J 4) w5):=λw5 h1 h2=>by
       subst S;exact⟨af,rh h1 G,dC (V bO) h2⟩
      have dx:8<=(W:Int)\/(¬8<=(W:Int)/\(B:Int)<12)\/(¬8<=(W:Int)/\¬(B:Int)<12/\1536<(B:Int)):=G;clear S ak bT bF F;rcases dx with av|⟨av,a0⟩|⟨av,a0,cH⟩
      ·exact JV
      ·have b4:=gD av;exact JV
      ·have b4:=gD av;have di:=gD a0;exact JV
    ·obtain rfl:i=n:=G;rw[sm,Np]at H;have bI:Hid (CL a d o c g R (w+30100) b (bg<|J 0) wr):=by
      subst H;exact⟨by rw[aM];rfl,rh T G,z⟩
     clear T z H aM;go_wp2;go_ret;exact bI
  ·have du:8<(n:Int):=G;have kg:=ae<|Jc<|V bM;have E:=V a9;rw[bJ bP]at E;have ah:Hid (∀aa,iA aa a d o c g { Z with s:=aO,b:=true } (w+100)->cI (λe=>e=a) o cS aa->CL a d o c g R (w+30100) b (bg<|J 4) aa):=λaa h1 h2=>by
    rw[E];exact⟨af,rh h1 G,dC (V bA) h2⟩
   clear E a9 bP;go_wp2_with fail;refine kg.m ?_;rintro aa ⟨h1,h2⟩;have bI:=ae<|ah aa h1 h2;clear h1 h2;go_wp2;go_ret;exact bI
end Go.Proofs.YtkkpahmoljiepaaGreatDoor
