import Derived.Test.YtkkpahmoljiepabGreatDoorJ09
set_option maxRecDepth 1000000
set_option maxHeartbeats 12800000
set_option linter.all false
open Array renaming size->J
open Bool renaming false->ak,true->aD
open Eq renaming symm->b5,trans->cQ
open Go renaming Calls->a_,Ending->kP,Value->bk,World->aQ,maxLen->fk,results->c_,undef->e8
open Go.Ending renaming returned->bh
open Go.IntKind renaming i64->ai,u8->ch
open Go.Obj renaming cells->aZ
open Go.Proofs.Tryz renaming prog->aL
open Go.RowKit renaming Below->cv,Hid->ao
open Go.Value renaming agg->ce,bool->aG,func->ez,iface->cP,int->ag,ownBlock->bA,pointer->cz,slice->aE,string->am,tuple->bZ
open Go.World renaming alloc->aN,cell?->aA,drew->bx,drewN->dS,frozen?->gd,setCell->a7
open Int renaming toNat->cM
open List renaming drop->bi,flatMap->ex,length->E,take->be,toArray->c7
open Option renaming none->af,some->ae
open Or renaming inl->bJ,inr->bE
open UInt8 renaming toNat->bg
namespace Go.Proofs.YtkkpahmoljiepabGreatDoor
variable{φ:Prop}
open Go.RowKit Go.Proofs.Tryz
variable{a g n v L:Nat}{f m u:World}{h o:ap}{e k r:Value}{j y:Int}{s:List ap}{A:Nat->Prop}
def abB(aO:a<8)(b:aQ):a_ aL 67 #[ag ai 512,ag ai a] b λc d=>c=bh (ag ai (13312+1536*a:Nat))/\d=b:=by go_wp2;go_ret;exact bd ct U
def abC(aO:a<8)(b:aQ):a_ aL 67 #[ag ai 0,ag ai a] b λc d=>c=bh (ag ai (1024+1536*a:Nat))/\d=b:=by go_wp2;go_ret;exact bd ax U
def abD(a:aQ):(Instr.makeSlice 53 (ag ai 12)<|ag ai 12).run aL a=.ok (aE (ae ⟨J a.1,0,af⟩) 12 12) (aN a<|aZ (c7<|kJ.map λb=>ag ch<|bg b) 5):=b6
def abE(a:aQ):(convert 53 9<|aE (ae ⟨J a.1,0,af⟩) 12 12).run aL (aN a<|aZ (c7<|kJ.map λb=>ag ch<|bg b) 5)=.ok (am<|D kJ) (aN a<|aZ (c7<|kJ.map λb=>ag ch<|bg b) 5):=by let c:gO (aN a<|aZ (c7<|kJ.map λb=>ag ch<|bg b) 5) 0 (aE (ae ⟨J a.1,0,af⟩) 12 12) kJ:=(bd dl<|bE ⟨J a.1,12,_,U,dJ _,World.alloc_heap_new _ _,cO _,lN,U,U⟩);exact uD c
def abF{b:List Bool}(d:a<E b)(g:∀e,e<a->b[e]? = ae aD)(c:b[a]? = ae ak):b.findIdx? (· == ak)=ae a:=by rw[If];refine⟨d,?_,λi h=>?_⟩;{rw[fs d]at c;simp[gm c]};{have:=g i h;rw[fs G]at this;simp[gm this]}
def abG{b:List Bool}(c:∀a,a<E b->b[a]? = ae aD):b.findIdx? (· == ak)=af:=by rw[Pf];intro e d;obtain⟨a,aO,rfl⟩:=List.getElem_of_mem d;have:=c a aO;rw[fs aO]at this;simp[gm this]
def abH{B F:ap}{X:cw}(z:hi f a g n o B X v)(cA:E F<=1524)(cy:v<=700000000000):a_ aL 131 #[cz<|ae ⟨a,0,af⟩,am<|D F] f λQ i=>Q=bh (bZ #[])/\hi i a g n o B (X.snd F) (v+1600)/\cG (λj=>j=a) n f i:=by
 have:=F6 z;have aW:=z.3.2.2.2.2;have l:=O z;clear z;go_wp2
 go_loopw [4] (λj wr=>∃e:Nat,j=ag ai e/\e<=8/\(∀k,k<e->X.6[k]? = ae aD)/\wr=f) λj _=>8-cM (intOf j)
 ·exact⟨0,U,G,λk a1=>G,U⟩
 ·obtain⟨e,rfl,cc,bC,bF⟩:=hrel;obtain rfl:f=wr:=b5 bF;clear bF;have aU:=O bC;clear bC;by_cases bz:e<8
  ·have ad:X.6[e]? = ae (X.6[e]?.getD ak):=by rw[fs G];rfl
   have b7:=F5 (V l).2 e _ ad;have a9:=bq.frozen (V l).2;generalize X.6[e]?.getD ak=b3 at*;replace ad:=O ad;cases b3 with
   | true=>
    go_wp2;exact⟨⟨e+1,dd,G,λk a1=>by
     rcases Nat.lt_or_eq_of_le (Nat.le_of_lt_succ a1)with z|rfl
     ·exact V aU k z
     ·exact V ad,by first|trivial|rfl⟩,dz⟩
   | false=>
    have au:=abF G (V aU)<|V ad;have⟨L,aY,bn,cf⟩:=ix kJ F;have bl:E L=12+E F:=by rw[aY,dj];rfl
    have:=cV F;have:(D kJ).size=12:=U;have:=cV L;have an:=Sy (V l).2 e G aD;have bs:E (X.6.set e aD)=8:=by rw[o4];exact aW
    have⟨K,bt⟩:=tW (V l) (jx (lI _ _) (4+e)<|aG aD) an U ⟨(V l).3.1,(V l).3.2.1,(V l).3.2.2.1,(V l).3.2.2.2.1,bs⟩ (V l).4.2;have bB:=abD<|a7 f ⟨a,4+e,af⟩<|aG aD;have bw:=abE<|a7 f ⟨a,4+e,af⟩<|aG aD;have ac:J (a7 f ⟨a,4+e,af⟩<|aG aD).1=J f.1:=mo
    have⟨bj,aC⟩:=bm<|aN (a7 f ⟨a,4+e,af⟩<|aG aD)<|aZ (c7<|kJ.map λb4=>ag ch<|bg b4) 5;have aq:cv (J f.1) (a7 f ⟨a,4+e,af⟩<|aG aD) bj:=by rw[aC];exact(cU _ _).alloc (by rw[ac];exact cO _) _
    rw[<-ac]at aq;have⟨b,aP⟩:=bm ({X with o:=X.6.set e aD}:cw)
    rw[<-aP]at K;have r:hi bj a g n o B b v:=⟨q9 K.1 aq,(aq.5 a<|bq.lt K.2).trans K.2,K.3,K.4⟩
    have y:=dm bt<|n5 (L:=λj=>j=a) aq (ir K.1);rw[<-aC,ac]at bB;rw[<-aC,ac]at bw;have:=bn;have⟨x,aV⟩:=bm<|13312+1536*e;have a8:=O λbU=>abB bz bU;rw[<-aV]at a8;have aF:=O r;have aB:=O y;have:E L<=1536:=G;have:x+1536<=25600:=G;have u:=r.3.2.2.2.2;have aR:=r.3;have bo:ao (X.snd F = {b with s:=((b.1.nH x L<|E L).fo (512+(16*e+8)) (E L) 4).off 512 b.4 [e],sa:=(b.4+1)%65536,t:=b.8+1}):=by
     rw[ao,aP,aV,bl,aY];unfold cw.snd;rw[au]
    clear K bt aq an bs au ac aP aY bn aV r y cf aC bl;generalize D kJ=cu at*;have:(e:Int)<8:=G;clear bz cc;go_wp2
    go_loopw [6] (λj bO=>∃k:Nat,j=ag ai k/\k<=E L/\hi bO a g n o B {b with s:=b.1.nH x L k} (v+k)/\cG (λj=>j=a) n f bO) λj _=>E L-cM (intOf j)
    ·exact⟨0,U,dJ _,V aF,V aB⟩
    ·clear aF aB bB bw b7 a9;obtain⟨k,rfl,a1,w,A⟩:=hrel;have aS:=O w;have aT:=O A;by_cases bV:k<E L
     ·have⟨_,_,_,bp,_⟩:=hM w.2 u;have⟨aI,bG⟩:=bm<|x+k;have co:ai.wrap ((x:Int)+k)=(aI:Int):=fl
      have⟨ay,a0⟩:=du<|L[k]
      have:∀z:k<(D L).size,(D L)[k]=ay:=λz=>a0;have⟨cg,ci,bK,bL⟩:=w.4.1;have N:=aH w.4.1 aI ay;have bQ:=O<|BE aI ay (bx wr) w.1 G (cJ bK G)<|cJ bL G;have bS:ao ((b.1.nH x L k).st aI ay=b.1.nH x L (k+1)):=by
       rw[ao,cq.nH,bG,iA,fs bV,a0];rfl
      have a4:ao (∀q ax,cZ q n ax->cG bH n (bx wr) q->ax.Ok (v+k+1)->hi q a g n o B {b with s:=ax} (v+(k+1))):=λq ax ar A ca=>rd (X:={b with s:=b.1.nH x L k}) (V aS) ar (dm kH A) ca G;have b9:=O N;clear w A bG a0 cg ci bK bL N;go_wp2
      go_region_held (λi=>aA i ⟨a,3,af⟩=ae (cz<|ae ⟨n,0,af⟩)) (first|assumption|go_keep)
       (first|(go_at_call 67;go_loud (refine(V a8 _).m ?_;rintro i rfl))|(go_at_call 126;go_loud (refine(V bQ).m ?_;rintro S ⟨al,y⟩;have r:=V a4 S _ al y<|V b9;have ah:=(hM r.2 u).2.2.2.1)))
      all_goals
       rw[V bS]at r;have bf:=O r;have a3:=O<|dm (V aT)<|dm kH<|h7 y λ_ z=>z.elim;clear al y r;go_wp2;exact bd (⟨k+1,dd,G,V bf,V a3⟩) dz
     ·obtain rfl:k=E L:=G;have⟨_,_,_,bp,_⟩:=hM w.2 u;have⟨aK,cb⟩:=bm<|16*e;have⟨aM,bP⟩:=bm<|512+aK
      have⟨W,bR⟩:=bm<|aM+8
      have:16*(e:Int)=aK:=G;have:512+(aK:Int)=aM:=G;have:(aM:Int)+8=W:=G;have:W<=700:=G;have⟨ab,ah⟩:=bm<|(b.1.nH x L<|E L).fo W (E L) 4;have N:ab.Ok (v+E L+4):=by rw[ah];exact jp w.4.1 _ _ 4
      have bu:ao (a_ aL 66 #[cz<|ae ⟨n,0,af⟩,ag ai W,ag ai 4,ag ai<|E L] wr λQ i=>Q=bh (bZ #[])/\cZ i n ab/\cG bH n wr i):=by
       rw[ah];exact q_ W 4 (E L) w.1 G G G w.4.1 G
      have bb:ao (X.snd F = {b with s:=ab.off 512 b.4 [e],sa:=(b.4+1)%65536,t:=b.8+1}):=by
       rw[ao,V bo,ah,show 512+(16*e+8)=W by omega]
      clear w A cb bP bR ah bo;go_wp2_with (fail);refine(V bu).m ?_;rintro S ⟨al,y⟩;have r:=rd (X:={b with s:=b.1.nH x L (E L)}) (V aS) al y N G;have aF:=O r;have aB:=O<|dm (V aT)<|h7 y λ_ z=>z.elim;have⟨_,_,_,hN,b8,_⟩:=hM r.2 u;have⟨ee,cn⟩:=bm<|b.4%8
      have⟨a5,bW⟩:=bm<|2*ee
      have⟨Z,cd⟩:=bm<|644+a5;have i1:(b.4:Int)%8=ee:=G;have ct:(b.4:Int).tmod 8=(ee:Int):=CA
      have co:=iV (ee:Int)
      have cB:ai.wrap (2*(ee:Int))=(a5:Int):=fl
      have aa:ai.wrap (644+(a5:Int))=(Z:Int):=fl
      have:Z<=700:=G;have⟨H,az⟩:=bm<|ab.fo Z e 2;have aJ:H.Ok (v+E L+6):=by rw[az];exact jp N _ _ 2
      have b_:ao (a_ aL 66 #[cz<|ae ⟨n,0,af⟩,ag ai Z,ag ai 2,ag ai e] (bx S) λQ i=>Q=bh (bZ #[])/\cZ i n H/\cG bH n (bx S) i):=by
       rw[az];exact q_ Z 2 e r.1 G G G N G
      have⟨h,bD⟩:=bm<|(b.4+1)%65536;have bX:ao (X.snd F = {b with s:=H.fo 642 h 2,sa:=h,t:=b.8+1}):=by
       rw[ao,V bb,cq.off,cq.off,show 512+(132+2*(b.4%8))=Z by omega,<-az,<-bD]
      have a4:ao (∀q,cZ q n H->cG bH n (bx S) q->hi q a g n o B {b with s:=H} (v+E L+6)):=λq ar A=>rd (X:={b with s:=ab}) (V aF) ar (dm kH A) aJ G;have:aA (bx S) ⟨a,3,af⟩=ae (cz<|ae ⟨n,0,af⟩)/\aA (bx S) ⟨a,12,af⟩=ae (ag ai b.4):=bd hN b8
      have br:=O aJ;have b1:((b.4:Int)+1)%65536=h:=G;have cx:((b.4:Int)+1).tmod 65536=(h:Int):=by rw[oK G];exact b1
      have b2:h<65536:=G;clear al y r bu bb N cn bW cd az aJ bD aS aT bp;go_wp2
      go_region_held (λi=>aA i ⟨a,3,af⟩=ae (cz<|ae ⟨n,0,af⟩)/\aA i ⟨a,12,af⟩=ae (ag ai b.4)) (first|assumption|go_keep)
       (first|(go_at_call 66;go_loud (refine(V b_).m ?_;rintro M ⟨bv,aX⟩;have I:=V a4 M bv aX;have:aA M ⟨a,3,af⟩=ae (cz<|ae ⟨n,0,af⟩)/\aA M ⟨a,12,af⟩=ae (ag ai b.4):=bd ((hM I.2 u).2.2.2.1)<|(hM I.2 u).2.2.2.2.1)))
      all_goals
       have bf:=O I;have a3:=O<|dm (V aB)<|dm kH<|h7 aX λ_ z=>z.elim;have:=bq.frozen I.2;have bc:=(vq I.2 u h).1;have⟨av,bI⟩:=tW (Y:={b with s:=H,sa:=h}) I (jx (lI _ _) 12<|ag ai h) bc U ⟨aR.1,aR.2.1,b2,aR.2.2.2.1,u⟩ I.4.2;have bT:=O av;have cj:=O<|dm (V a3) bI;have⟨_,_,_,cr,cp,_⟩:=hM av.2 u;have⟨T,aw⟩:=bm<|H.fo 642 h 2;have ba:T.Ok (v+E L+8):=by rw[aw];exact jp (V br) _ _ 2
       have cm:ao (a_ aL 66 #[cz<|ae ⟨n,0,af⟩,ag ai 642,ag ai 2,ag ai h] (bx<|a7 M ⟨a,12,af⟩<|ag ai h) λQ i=>Q=bh (bZ #[])/\cZ i n T/\cG bH n (bx<|a7 M ⟨a,12,af⟩<|ag ai h) i):=by
        rw[aw];exact q_ 642 2 h av.1 G G G (V br) G
       have b0:ao (∀q,cZ q n T->cG bH n (bx<|a7 M ⟨a,12,af⟩<|ag ai h) q->hi q a g n o B {b with s:=T,sa:=h} (v+E L+8)):=λq ar A=>rd (X:={b with s:=H,sa:=h}) (V bT) ar (dm kH A) ba G;have bY:ao (X.snd F = {b with s:=T,sa:=h,t:=b.8+1}):=by rw[ao,V bX,aw]
       have:aA (bx<|a7 M ⟨a,12,af⟩<|ag ai h) ⟨a,3,af⟩=ae (cz<|ae ⟨n,0,af⟩)/\aA (bx<|a7 M ⟨a,12,af⟩<|ag ai h) ⟨a,12,af⟩=ae (ag ai h):=bd cr cp
       have cs:=av.4.2.2.1;clear bv aX I bc av bI aw ba;go_wp2
       go_region_held (λi=>aA i ⟨a,3,af⟩=ae (cz<|ae ⟨n,0,af⟩)/\aA i ⟨a,12,af⟩=ae (ag ai h)) (first|assumption|go_keep)
        (first|(go_at_call 66;go_loud (refine(V cm).m ?_;rintro aa ⟨bM,a6⟩;have C:=V b0 aa bM a6;have:aA aa ⟨a,3,af⟩=ae (cz<|ae ⟨n,0,af⟩)/\aA aa ⟨a,12,af⟩=ae (ag ai h):=bd ((hM C.2 u).2.2.2.1)<|(hM C.2 u).2.2.2.2.1)))
       all_goals
        have⟨R,bN⟩:=bm<|b.8+1;have:(b.8:Int)+1=R:=G;have:=cs;have⟨_,_,_,_,_,_,_,_,_,cC,_⟩:=hM C.2 u;have:=bq.frozen C.2;have a2:=C.4;have aj:ao (hi (a7 aa ⟨a,17,af⟩<|ag ai R) a g n o B (X.snd F) (v+1600)/\cG (λj=>j=a) n f (a7 aa ⟨a,17,af⟩<|ag ai R)):=by
         rw[V bY,<-bN];have⟨ck,cl⟩:=tW (Y:={b with s:=T,sa:=h,t:=R}) (o9 (C':=v+1600) C G) (jx (lI _ _) 17<|ag ai R) (vq C.2 u R).2.2.2.2.2.1 U C.3 ⟨cJ a2.2.1 G,by show R<=_;omega,cJ a2.2.2.2 G⟩;exact bd ck<|dm (dm (V cj)<|dm kH<|h7 a6 λ_ z=>z.elim) cl
        clear bM a6 C a2 bN;go_wp2;refine dQ (v:=bZ #[]) (by simp[c_,results131]) U ?_;exact⟨U,(V aj).1,(V aj).2⟩
  ·obtain rfl:e=8:=G;have au:=abG λj aO=>V aU j G;have⟨_,_,_,_,_,_,_,_,_,_,SQ,_⟩:=hM (V l).2 aW;have a9:=bq.frozen (V l).2;have⟨P,an⟩:=bm<|X.9+1;have:(X.9:Int)+1=P:=G;have:=(V l).4.2.2.2;have aj:ao (hi (a7 f ⟨a,18,af⟩<|ag ai P) a g n o B (X.snd F) (v+1600)/\cG (λj=>j=a) n f (a7 f ⟨a,18,af⟩<|ag ai P)):=by
    have b6:X.snd F = {X with d:=P}:=by unfold cw.snd;rw[au,an]
    rw[b6];have:=(V l).4;exact tW (o9 (V l) G) (jx (lI _ _) 18<|ag ai P) (vq (V l).2 aW P).2.2.2.2.2.2.1 U (V l).3 ⟨by show X.7<=_;omega,by show X.8<=_;omega,by show P<=_;omega⟩
   clear au an;go_wp2;refine kh (v:=bZ #[]) (by simp[c_,results131]) U ?_;exact⟨U,(V aj).1,(V aj).2⟩
def cq.x0(a:cq):cw:=⟨a.AE,8,0,0,0,ms,0,0,0,ak⟩
variable{B:cq}
def s5(s j k:ap)(o:cq)(e n:Nat)(a:aQ)(g:kP)(b:aQ):Prop:=
 if(kl s).isSome=aD then
  if nw j k=aD then ∃i l d h,g=bh (bZ #[cz<|ae ⟨i,0,af⟩,ag ai 0])/\hi b i l e j k o.x0 (n+276)/\cG bH e a b/\kl s=ae h/\pw d (J a.1+1) l h.1 h.2/\J d.1<=i/\J a.1<J d.1/\co (λc=>J a.1<c) d b/\∀c,eD b e c->eD a e c\/J d.1<=c
  else g=bh (bZ #[cz af,ag ai 3])/\cv (J a.1) a b
 else g=bh (bZ #[cz af,ag ai 1])/\cv (J a.1) a b
def s6(a:Nat):Nat:=if a=0 then 1024 else 13312
def qk(b:cq):Nat->cq
 |0=>b
 |a+1=>(qk b a).rE (512*a) (s6 a) (2-2*a) 8
def vB(b:cq):Nat->cq
 |0=>b
 |a+1=>(vB b a).fo (132+2*a) a 2
def gF(d:B.Ok a):∀b,(qk B b).Ok<|a+128*b
 |0=>d
 |b+1=>oP (zB (gF d b) _ _ _ 8) G
def FQ(d:B.Ok a):∀b,(vB B b).Ok<|a+2*b
 |0=>d
 |b+1=>oP (jp (FQ d b) _ _ 2) G
def Tq:B.AE=(vB ((qk B 2).fo 642 0 2) 8).fo 130 8 2:=by rw[cq.AE,show qk B 2=(B.rE 0 1024 2 8).rE 512 13312 0 8 from U];generalize (B.rE 0 1024 2 8).rE 512 13312 0 8=b;rw[cq.off,show 512+130=642 from U];generalize b.fo 642 0 2=c;simp[cq.off,vB]
def Tr(a:cq):a.x0.2<65536/\a.x0.3<65536/\a.x0.4<65536/\a.x0.5<65536/\E a.x0.6=8:=⟨show 8<65536 by omega,show 0<65536 by omega,show 0<65536 by omega,show 0<65536 by omega,U⟩
def Ts(c:B.Ok a):B.AE.Ok (a+276):=Tq▸oP (jp (FQ (jp (gF c 2) _ _ 2) 8) _ _ 2) G
def G8(h:φ:=by go_wp2;refine dQ (v:=bZ #[cz af,ag ai 3]) ?_ U (V Vv);simp[c_,results23,go_sem]):φ:=h
def Tt(s j k:ap)(h:cZ f a B)(cH:B.Ok g)(c6:g<=800000000000):a_ aL 23 #[am<|D s,ce #[am<|D j,am<|D k],cz<|ae ⟨a,0,af⟩] f λbF c0=>s5 s j k B a g f bF c0:=by
 have a9:=O h;have bb:=O cH;have⟨al,Q⟩:=bm<|aN f<|aZ #[am<|D j,am<|D k] 47;have bT:cv (J f.1) f al:=by rw[Q];exact(cU _ _).alloc (cO _) _
 have bp:J al.1=J f.1+1:=by rw[Q];simp
 have hc0:bq al (J f.1) [am<|D j,am<|D k] 47:=by rw[Q];exact bq.fF f _ _
 have bD:=O<|Fv s al;have cx:=O<|q9 h bT;rw[Q]at bD;have cX:=O bT;have cN:=O hc0;have bn:=O bp;go_in;go_wp2_with (fail);refine(V bD).mono ?_;rw[<-Q];rintro bF i ⟨Z,av⟩;have bp:=V bn;have cE:=(V cX).trans<|av.mono G;have:=av.4;have br:bq i (J f.1) [am<|D j,am<|D k] 47:=(av.5 _ G).trans<|V cN;have cW:=q9 (V cx) av;have:aA i ⟨J f.1,0,af⟩=ae (am<|D j):=bq.cell br 0 ax;have:aA i ⟨J f.1,1,af⟩=ae (am<|D k):=bq.cell br 1 ax;have y:=O cE;have cy:=O cW;have cB:J f.1<J i.1:=G;unfold tt at Z;cases Y:kl s with
 |none=>{rw[Y]at Z;subst Z;have b7:ao (∀e,cv (J f.1) f e->s5 s j k B a g f (bh<|bZ #[cz af,ag ai 1]) e):=λe W=>by{unfold s5;rw[Y];exact bd U W};go_wp2;refine dQ (v:=bZ #[cz af,ag ai 1]) ?_ U (V b7 _<|V y);simp[c_,results23,go_sem]}
 |some cY=>{
 rw[Y]at Z;obtain⟨aj,rfl,c9,bY⟩:=Z;rw[V bn]at bY;have bw:=O<|cj Y bY;have a2:(kl s).isSome=aD:=by rw[Y];rfl
 have⟨T,hc0⟩:=bm<|j.getD 0 0;have c5:∀h:0<(D j).size,(D j)[0]=T:=λh=>MI;have:=gp T;have⟨w,bN⟩:=bm<|bg T%2;have c4:(bg T:Int).tmod 2=(w:Int):=by rw[oK G];omega
 have:(bg T:Int)%2=w:=G;have ar:ao (nw j k=((D j).size==6&&w==0&&(D k).size==4)):=by{rw[ao,nw,cV,cV,bN,hc0]};have aH:ao (∀e,nw j k=ak->cv (J f.1) f e->s5 s j k B a g f (bh<|bZ #[cz af,ag ai 3]) e):=λe aY W=>by{unfold s5;rw[b8 a2,bV (by rw[aY];decide)];exact bd U W};have b_:ao (∀ah e,nw j k=aD->hi e ah aj a j k B.x0 (g+276)->cG bH a f e->J i.1<=ah->co (λd=>J f.1<d) i e->(∀d,eD e a d->eD f a d\/J i.1<=d)->s5 s j k B a g f (bh<|bZ #[cz<|ae ⟨ah,0,af⟩,ag ai 0]) e):=λah e aY n W cL ca cp=>by{unfold s5;rw[b8 a2,b8 aY];exact⟨ah,aj,i,cY,U,n,W,(V bw).1,(V bw).2,cL,cB,ca,cp⟩};clear a2 hc0 bN;generalize bM:D j=m at*;generalize bz:D k=az at*;have bB:=O<|cj bM bz;clear bM bz;generalize nw j k=ay at*;by_cases aW:m.size=6;{
 have cT:((m.size:Int) != 6)=ak:=by simp[aW]
 by_cases aU:w=1;{
 have F:ay=ak:=by rw[V ar,aU];simp
 have cR:((w:Int)==1)=aD:=by simp[aU]
 have Vv:=O<|V aH _ F<|V y;subst aU;exact G8};{
 have cR:((w:Int)==1)=ak:=ct;have:¬(w:Int)=1:=G;by_cases aV:az.size=4;{
 have bU:w=0:=G;have F:ay=aD:=by rw[V ar,aW,bU,aV];rfl
 have cS:((az.size:Int) != 4)=ak:=by simp[aV]
 have⟨P,bf⟩:=bm<|(aZ #[cz<|ae ⟨aj,0,af⟩,am m,am az,cz<|ae ⟨a,0,af⟩,aG ak,aG ak,aG ak,aG ak,aG ak,aG ak,aG ak,aG ak,ag ai 0,ag ai 0,ag ai 8,ag ai 0,ag ai 0,ag ai 0,ag ai 0,aG ak] 153:Obj);have t:cv (J i.1) i (aN i P):=(cU _ _).alloc (cO _) _;have bG:=O<|q9 (V cy) t;have cs:ao (nu (aN i P) (J i.1) aj a j k B.x0):=by{rw[ao,bf,<-(V bB).1,<-(V bB).2];exact bq.fF i ([cz<|ae ⟨aj,0,af⟩,am<|D j,am<|D k,cz<|ae ⟨a,0,af⟩,aG ak,aG ak,aG ak,aG ak,aG ak,aG ak,aG ak,aG ak,ag ai 0,ag ai 0,ag ai 8,ag ai 0,ag ai 0,ag ai 0,ag ai 0,aG ak]) _};have cD:ao (cG bH a f<|aN i P):=n5 ((V y).trans<|t.mono (V y).4)<|ir<|V a9;have bQ:ao (∀e,cZ e a B.AE->cG bH a (aN i P) e->s5 s j k B a g f (bh<|bZ #[cz<|ae ⟨J i.1,0,af⟩,ag ai 0]) e):=λe n l=>by{have cF:=(V y).trans<|t.mono (V y).4;have bs:∀d,eD (aN i P) a d->eD f a d:=λd aa=>mH (cF.5 a<|ir<|V a9) aa;refine V b_ (J i.1) e F ⟨n,gX l (V bG) (V cs) bW id,Tr B,Ts<|V bb,dJ _,dJ _,dJ _⟩ (dm (V cD) l) (cO _) ⟨cQ l.1 t.1,cQ l.2 t.2,cQ l.3 t.3,cJ t.4 l.4,λd aO c8=>?_⟩ λd aa=>(l.6 d aa).imp (bs d) λb=>cJ t.4 b;exact(l.5 d (cd t.4) id λaa=>by{have:=qd (V a9)<|bs d aa;omega}).trans (t.5 d aO)};subst bU;have cu:=bG;go_wp2;rw[<-bf];generalize aN i P=ba at*;go_loopw [10] (λa5 wr=>∃b:Nat,a5=ag ai b/\b<=2/\cZ wr a (qk B b)/\cG bH a ba wr) λa5 _=>2-cM (intOf a5);·exact⟨0,U,G,V cu,qJ _ _ _⟩
 ·(
 obtain⟨b,rfl,cI,n,l⟩:=hrel;have bK:=O n;have bO:=O l;by_cases a0:b<2;{
 obtain⟨c2,rfl⟩:=bm wr;have⟨u,an⟩:=bm<|512*b;have:512*(b:Int)=u:=G;have⟨a4,cK⟩:=bm<|2*b;have aJ:2*(b:Int)=a4:=G;have⟨p,bP⟩:=bm<|2-2*b;have aK:2-(a4:Int)=p:=G;have aM:p<=2:=G;have:u<=512:=G;have cb:s6 b<=13312:=by unfold s6;split<;>omega
 have bj:=O fun(d:Nat) (aO:d<8) (e:aQ)=>abo a0 aO e;have b6:ao (qk B (b+1)=(qk B b).rE u (s6 b) p 8):=by rw[ao,qk,an,bP]
 rw[<-an]at bj;have:=O an;have:(b:Int)<2:=G;have b0:=O a0;clear an bP cK cI a0;go_wp2;go_loopw [11] (λH ad=>∃d:Nat,H=ag ai d/\d<=8/\cZ ad a ((qk B b).rE u (s6 b) p d)/\cG bH a ba ad) λH _=>8-cM (intOf H);·exact⟨0,U,G,V bK,V bO⟩
 ·(obtain⟨d,rfl,aO,n,l⟩:=hrel;have ac:=O n;have ab:=O l;by_cases S:d<8;{have⟨C,X⟩:=bm<|16*d;have cC:16*(d:Int)=C:=G;have⟨o,M⟩:=bm<|u+C;have cc:(u:Int)+C=o:=G;have⟨L,bo⟩:=bm<|o+8;have aS:(o:Int)+8=L:=G;have⟨K,bt⟩:=bm<|o+12;have aP:(o:Int)+12=K:=G;have⟨I,bu⟩:=bm<|o+14;have aR:(o:Int)+14=I:=G;have⟨v,a3⟩:=bm<|s6 b+1536*d;have aI:=O<|V bj d S wr;rw[show(if b=0 then 1024 else 13312)+1536*d=v by rw[a3];rfl]at aI;have cf:o<=700:=G;have x:=zB (gF (V bb) b) u (s6 b) p d;have R:=O<|q_ o 8 v n G G G x G;have aF:ao ((qk B b).rE u (s6 b) p (d+1)=((((qk B b).rE u (s6 b) p d).fo o v 8 |>.fo L 1536 4).fo K p 2).fo I 0 2):=by{rw[ao,cq.rE,<-a3,<-X,<-M,bo,bt,bu,M,<-pL,<-pL,<-pL]};generalize (qk B b).rE u (s6 b) p d=c3 at*;replace x:=O x;have bc:L<=800:=G;have aT:K<=800:=G;have a6:I<=800:=G;have b2:v<=30000:=G;have q:ao (L<=800/\K<=800/\I<=800/\v<=30000/\p<=2/\d<8/\b<=2):=⟨bc,aT,a6,b2,aM,S,cd<|V b0⟩;have cg:=O aS;have ci:=O aP;have ck:=O aR;have cl:=O aJ;have cm:=O aK;clear n l X M bo bt bu a3 aS aP aR aJ aK b2 bc aT a6 cb aM;have cr:=O S;have:(d:Int)<8:=G;clear aO S;go_wp2_with (fail);refine(V aI).m ?_;rintro wr rfl;go_wp2_with (fail);refine(V R).m ?_;rintro b1 ⟨aw,au⟩;have z:ao (a_ aL 66 #[cz<|ae ⟨a,0,af⟩,ag ai L,ag ai 4,ag ai 1536] b1 _):=q_ L 4 1536 aw G (cd<|V q) G (jp (V x) _ _ 8)<|cd<|V q;have N:=O<|dm (V ab) au;clear aw au aI R ac ab;have aS:=V cg;have bc:=(V q).1;go_wp2_with (fail);refine(V z).m ?_;rintro aB ⟨r,A⟩;have bX:ao (a_ aL 66 #[cz<|ae ⟨a,0,af⟩,ag ai K,ag ai 2,ag ai p] aB _):=q_ K 2 p r G (cd<|V q) (cd<|V q) (jp (jp (V x) _ _ 8) _ _ 4)<|cd<|V q;have aC:=O<|dm (V N) A;clear r A z N;have aP:=V ci;have aJ:=V cl;have aK:=V cm;have aT:=(V q).2.1;have aM:=(V q).2.2.2.2.1;have:(a4:Int)<=2:=G;go_wp2_with (fail);refine(V bX).m ?_;rintro c1 ⟨bL,bI⟩;have bS:ao (a_ aL 66 #[cz<|ae ⟨a,0,af⟩,ag ai I,ag ai 2,ag ai 0] c1 _):=q_ I 2 0 bL G (cd<|V q) G (jp (jp (jp (V x) _ _ 8) _ _ 4) _ _ 2)<|cd<|V q;have bv:=O<|dm (V aC) bI;clear bL bI bX aC;have aR:=V ck;have a6:=(V q).2.2.1;go_wp2_with (fail);refine(V bS).m ?_;rintro da ⟨a1,bR⟩;rw[<-V aF]at a1;have b9:=O a1;have b4:=O<|dm (V bv) bR;clear a1 bR bS bv;go_wp2;exact bd (⟨d+1,dd,cd<|V cr,V b9,V b4⟩) dz};{have a8:d=8:=G;subst a8;rw[<-V b6]at ac;clear n l;go_wp2;exact bd (⟨b+1,dd,cd<|V b0,V ac,V ab⟩) dz})};{
 have cA:b=2:=G;subst cA;have x:=gF (V bb) 2;have R:ao (a_ aL 66 #[cz<|ae ⟨a,0,af⟩,ag ai 642,ag ai 2,ag ai 0] wr _):=q_ 642 2 0 (V bK) G G G x G;have⟨aq,aX⟩:=bm<|(qk B 2).fo 642 0 2;rw[<-aX]at R;have cw:=O aX;have bC:ao (aq.Ok<|g+128*2+2):=by rw[ao,aX];exact jp x _ _ 2
 go_wp2_with (fail);refine(V R).m ?_;rintro b1 ⟨aw,au⟩;have ac:=O aw;have ab:=O<|dm (V bO) au;go_wp2;go_loopw [13] (λH ad=>∃d:Nat,H=ag ai d/\d<=8/\cZ ad a (vB aq d)/\cG bH a ba ad) λH _=>8-cM (intOf H);·exact⟨0,U,G,V ac,V ab⟩
 ·(
 obtain⟨d,rfl,aO,n,l⟩:=hrel;have bl:=O n;have N:=O l;by_cases S:d<8;{
 have⟨C,X⟩:=bm<|2*d;have cC:2*(d:Int)=C:=G;have⟨o,M⟩:=bm<|132+C;have cc:132+(C:Int)=o:=G;have z:=O<|q_ o 2 d n G G G (FQ (V bC) d) G;have aF:ao ((vB aq d).fo o d 2=vB aq (d+1)):=by rw[ao,vB,M,X]
 have cf:o<=200:=G;clear n l X M;go_wp2_with (fail);refine(V z).m ?_;rintro aB ⟨r,A⟩;rw[V aF]at r;have b3:=O r;have aC:=O<|dm (V N) A;clear r A z bl N;go_wp2;exact bd (⟨d+1,dd,G,V b3,V aC⟩) dz};{have a8:d=8:=G;subst a8;have z:ao (a_ aL 66 #[cz<|ae ⟨a,0,af⟩,ag ai 130,ag ai 2,ag ai 8] wr _):=q_ 130 2 8 n G G G (FQ (V bC) 8) G;clear n l bl;go_wp2_with (fail);refine(V z).m ?_;rintro aB ⟨r,A⟩;rw[V cw,<-Tq]at r;have cn:=O<|V bQ aB r<|dm (V N) A;clear r A z bQ;go_wp2;refine dQ (v:=bZ #[cz<|ae ⟨J i.1,0,af⟩,ag ai 0]) ?_ U (V cn);simp[c_,results23,go_sem]})})};{
 have F:ay=ak:=by rw[V ar];simp[aV]
 have cS:((az.size:Int) != 4)=aD:=ct;have Vv:=O<|V aH _ F<|V y;exact G8}}};{
 have F:ay=ak:=by rw[V ar];simp[aW]
 have cT:((m.size:Int) != 6)=aD:=ct;have Vv:=O<|V aH _ F<|V y;exact G8}}
def s8(s l o:ap)(q:cq)(h p:Nat)(a:aQ)(g:kP)(b:aQ):Prop:=
 if(kl s).isSome=aD then
  if nw l o=aD then ∃e k i j d n r,g=bh (bZ #[bv e,M 0])/\gy b e k i j h l o q.x0 (p+276)/\cG bH h a b/\(J a.1<=e/\J a.1<=i/\J a.1<=j)/\kl s=ae d/\hW d.1 d.2/\gJ b k d.1 n 0 r (ck d.2)/\∀c,c=k\/c=n->¬fE e i j c/\¬eD b h c/\J a.1<=c
  else g=bh (bZ #[cz af,M 3])/\a6 a b
 else g=bh (bZ #[cz af,M 1])/\a6 a b
def aci{t:Nat}(y:bq f g [cP 51<|bv L] 142)(x:bq f n [bv a] 54)(k:bq f a [bv v,aS o,aS h,cz af,cz af,M 0,M 0,M 0,aG ak] 147)(l:cZ f L B)(K:B.Ok t)(aj:t<=800000000000):a_ aL 64 #[bv g,bv n] f λH e=>H=bh (aG aD)/\gy e a v (J f.1) (J f.1+1) L o h B.x0 (t+276)/\cG (λp=>p=a) L f e:=by
 have aq:=k.lt;have T:=O<|aba (bx f) l K aj;have tB:bY (bx f) n 0 (bv a):=bq.cell x 0 ax;have fe:bY (bx f) g 0 (cP 51<|bv L):=bq.cell y 0 ax;have ab:=h6 x k bW;have ac:=h6 y k bW;have Y:=O<|vj l k bW;have ad:=O<|Ts K;have Z:ao (∀d,cG bH L (bx f) d->bq d a [bv v,aS o,aS h,cz af,cz af,M 0,M 0,M 0,aG ak] 147/\bY d n 0 (bv a)/\bY d g 0 (cP 51<|bv L)):=λd I=>
  ⟨gX (w:=bx f) I l k bW id,bq.cell (gX (w:=bx f) I l x bW id) 0 ax,bq.cell (gX (w:=bx f) I l y bW id) 0 ax⟩
 clear y x k l K;have⟨c,C⟩:=bm<|J f.1;have aa:ao (a_ aL 65 #[cP 51<|bv L] (bx f) λH e=>H=bh (bZ #[bv c,bv<|c+1])/\(cZ e L B.AE/\fZ e c 221 L 0 1024 8 0 sw/\fZ e (c+1) 222 L 512 13312 0 0 ms/\cG bH L (bx f) e)):=by
  rw[C];exact T
 rw[<-C]at aq⊢;have:=O C;have R:ao (∀(d:aQ) (Q:Nat) (q:bk),(bY d n 0 (bv a)/\bY d g 0 (cP 51<|bv L))->(bY (a7 d ⟨a,Q,af⟩ q) n 0 (bv a)/\bY (a7 d ⟨a,Q,af⟩ q) g 0 (cP 51<|bv L))):=λd Q q u=>
  ⟨(dR<|dr _ _ _ _ ab).trans u.1,(dR<|dr _ _ _ _ ac).trans u.2⟩
 clear T C;go_wp2
 go_region_held (λe=>aA e (N n 0)=ae (bv a)/\aA e (N g 0)=ae (cP 51<|bv L)) (first|assumption|exact⟨tB,fe⟩|exact⟨A,r⟩|exact R _ _ _ (bd A r)|exact R _ _ _ (R _ _ _ ⟨A,r⟩)|go_keep)
  (first|(go_at_call 65;go_loud (refine aa.m λD W=>?_;have⟨j,A,r⟩:=V Z D W.2.2.2;have ar:=bq.cell j 3 ax;have au:=bq.cell j 4 ax;have av:=bq.frozen j)))
 all_goals
  obtain⟨F,b,P,X⟩:=W;have ah:ao (∀w,(w=a7 (a7 D ⟨a,3,af⟩<|cz<|ae ⟨c,0,af⟩) ⟨a,4,af⟩ (cz<|ae ⟨c+1,0,af⟩)\/w=a7 (a7 D ⟨a,4,af⟩<|cz<|ae ⟨c+1,0,af⟩) ⟨a,3,af⟩ (cz<|ae ⟨c,0,af⟩)) ->
    gy w a v c (c+1) L o h B.x0 (t+276)/\cG (λp=>p=a) L f w):=λw S=>by
   have al:oi w a v c (c+1) o h 0 0 0 ak:=by
    rcases S with rfl|rfl
    ·exact bq.set (bq.set j 3 _) 4 _
    ·exact bq.set (bq.set j 4 _) 3 _
   have z:ey a D w:=by rcases S with rfl|rfl<;>exact jx (jx (lI _ _) _ _) _ _
   refine⟨⟨vi F j bW λp aO an=>z.5 p aO an,(z.5 c (bq.lt b) G).trans b,(z.5 (c+1) (bq.lt P) G).trans P,al,Tr B,ad,dJ _,dJ _,dJ _⟩,dm (dm kH<|h7 X λ_ u=>u.elim)<|tf z U (V Y)<|ir F⟩
  clear F b P X j ar au av A r;go_wp2;go_ret;exact bd U<|V ah _ (by first|exact bJ U|exact .inr rfl)
def E0(h:φ:=by first|assumption|go_keep):φ:=h
def EL(h:φ:=by first|(dsimp only;omega)|(simp<;>omega)):φ:=h
def TD(s h e:ap)(bn:dx f)(bp:cZ f a B)(bd:B.Ok g)(bX:g<=800000000000):a_ aL 22 #[aS s,ce #[aS h,aS e],cP 51<|bv a] f λw Y=>s8 s h e B a g f w Y:=by
 have aH:=O bp;have b_:=O bd;have⟨Z,z⟩:=bm<|aN (aN f<|aZ #[am<|D h,am<|D e] 47)<|aZ #[cP 51<|cz<|ae ⟨a,0,af⟩] 142;have aX:a6 f Z:=z▸(cc.alloc bo _).alloc ax _
 have ar:J Z.1=J f.1+2:=by rw[z];simp
 have bj:bq Z (J f.1) [aS h,aS e] 47:=z▸(bq.fF f _ _).alloc _
 have bl:bq Z (J f.1+1) [cP 51<|bv a] 142:=by
  have:=bq.fF (aN f<|aZ #[am<|D h,am<|D e] 47) [cP 51<|bv a] 142;rw[eE]at this;rw[z];exact this
 have aT:=O<|wk s<|bn.below aX;rw[z]at aT;have bz:=O aX;have bt:=O bj;have bu:=O bl;have a2:=O ar;clear bn bp bd aX bj bl ar;go_in;go_wp2_with fail;refine aT.mono ?_;rw[<-z];rintro w F ⟨al,ad⟩;have ar:=V a2;have bc:=bz.trans<|ad.mono G;have b3:=ad.4;have au:bq F (J f.1) [aS h,aS e] 47:=(ad.5 _ G).trans<|V bt;have bB:bq F (J f.1+1) [cP 51<|bv a] 142:=(ad.5 _ G).trans<|V bu;have cS:aA F (N (J f.1) 0)=ae (aS h):=bq.cell au 0 ax;have bN:aA F (N (J f.1) 1)=ae (aS e):=bq.cell au 1 ax;have av:=O<|aca h e F;have K:=O bc;have aJ:=O au;have aK:=O bB;have ba:ao (J f.1+2<=J F.1):=E2
 have a0:ao (J f.1<=J Z.1):=E2
 clear aT z ar a2 ad b3 bc au bB bt bu bz;unfold ss at al;cases C:kl s with
 |none=>
 rw[C]at al;subst al;have H:ao (∀n,a6 f n->s8 s h e B a g f (bh<|bZ #[cz af,M 1]) n):=λn b0=>by
  unfold s8;rw[C];exact⟨U,b0⟩
 clear C av;go_wp2;refine dQ (v:=bZ #[cz af,ag ai 1]) ?_ U (H _ K);simp[c_,results22,go_sem]
 |some p=>
 rw[C]at al;obtain⟨a1,o,x,P,rfl,bs,bw,bf⟩:=al;have aF:(kl s).isSome=aD:=by rw[C];rfl
 have aw:ao (kl s=ae p/\hW p.1 p.2/\gJ F o p.1 x 0 P (ck p.2)/\J f.1<=o/\J f.1<=x):=⟨C,a1,bf,cJ (V a0) bs,cJ (V a0) bw⟩
 clear C a1 bf bs bw;go_wp2_with fail;refine av.m ?_;intro r y;have:=y.4;by_cases u:nw h e=aD
 case neg=>
  have a5:nw h e=ak:=by simpa using u
  have H:ao (s8 s h e B a g f (bh<|bZ #[cz af,M 3]) r):=by
   unfold ao s8;rw[b8 aF,bV u];exact⟨U,K.trans<|y.mono K.4⟩
  rw[a5];clear u a5 aF av y;go_wp2;refine dQ (v:=bZ #[cz af,ag ai 3]) ?_ U (V H);simp[c_,results22,go_sem]
 have H:ao (∀d an aq n,gy n d o an aq a h e B.x0 (g+276)->cG bH a f n->(J f.1<=d/\J f.1<=an/\J f.1<=aq)->gJ n o p.1 x 0 P (ck p.2)->(∀c,c=o\/c=x->¬fE d an aq c/\¬eD n a c/\J f.1<=c)->s8 s h e B a g f (bh<|bZ #[bv d,M 0]) n):=λd an aq n bQ bR bS bT bU=>by
  unfold s8;rw[b8 aF,b8 u];exact⟨d,o,an,aq,p,x,P,U,bQ,bR,bS,aw.1,aw.2.1,bT,bU⟩
 have b6:(D h).size<=281474976710656:=by
  have:=u;unfold nw at this;rw[e9,e9,iE]at this;rw[cV,this.1.1];omega
 have b4:(D e).size<=281474976710656:=by
  have:=u;unfold nw at this;rw[e9,iE (a:=E e)]at this;rw[cV,this.2];omega
 rw[u];clear u aF;have aM:bq r (J f.1) [aS h,aS e] 47:=(y.5 _ aJ.lt).trans aJ;have a8:bq r (J f.1+1) [cP 51<|bv a] 142:=(y.5 _ aK.lt).trans aK;have aV:=K.trans<|y.mono K.4;have aY:=O<|aw.2.2.1.below y;have bO:bY r (J f.1) 0 (aS h):=bq.cell aM 0 ax;have bP:bY r (J f.1) 1 (aS e):=bq.cell aM 1 ax;have aI:=O fun(bC:ByteArray) (n:aQ) (Q:bC.size<=281474976710656)=>LK bC n Q;have ab:ao (∀(j:aQ) (d I:Nat),a6 r j->J r.1<=d->bq j d [bv o,aS h,aS e,cz af,cz af,M 0,M 0,M 0,aG ak] 147->bq j I [bv d] 54 ->
   a_ aL 63 #[bv d,ez (.func 64) #[] #[bv<|J f.1+1,bv I]] j λw Y=>w=bh (bZ #[])/\bY Y I 0 (bv d) /\
    s8 s h e B a g f (bh<|bZ #[bv d,M 0]) Y):=λj d I ay ci aC az=>by
  have cb:=V ba;have br:=ay.4;have ah:=Tw j d;have:=ab7 j d;have aP:=(aV.trans<|ay.mono aV.4).trans<|ah.mono G;have aU:=q9 (V aH) aP;have bG:=(ah.5 d aC.lt).trans aC;have aR:=(ah.5 I az.lt).trans az;have bI:bq (rx j d) (J f.1+1) [cP 51<|bv a] 142:=(ah.5 _ G).trans<|(ay.5 _ G).trans a8;have:=h6 az aC bW;have:=az.lt;have:=aC.lt;refine(ab9 (λA=>gy A d o (J (rx j d).1) (J (rx j d).1+1) a h e B.x0 (g+276)/\cG (λc=>c=d) a (rx j d) A)
   ((aci bI aR bG aU (V b_) bX).mono (by
     rintro w A ⟨rfl,aa,aB⟩;exact⟨U,⟨aa,aB⟩,gX aB aU (zp j d) bW G⟩))).mono ?_
  rintro w Y ⟨rfl,A,⟨aa,aB⟩,bD,rfl⟩;have bK:=Ky aa bD bW (by intro Q;omega) λc _ b1=>dr A (N (J j.1+1) 0) (aG aD) c b1;have ac:cG (λc=>c=d\/c=J j.1+1) a (rx j d) (a7 A ⟨J j.1+1,0,af⟩<|aG aD):=dm (h7 aB λ_ Q=>bJ Q)<|tf (jx (lI _ _) 0 _) (bE U) (vj aa.1 bD bW)<|ir aa.1;have R:=dm (n5 (L:=λc=>J f.1<=c) aP (ir<|V aH)) (h7 ac λc Q=>G);have a9:∀c,J f.1<=c->¬eD (rx j d) a c:=λc aO T=>by
   have:=qd (V aH)<|mH (aP.5 a<|ir<|V aH) T;omega
  have:=aY.1;have:x<J r.1:=FS<|V aY;obtain⟨cj,cl,_,cm,cn⟩:=V aw;have a4:∀c,c=o\/c=x->(a7 A ⟨J j.1+1,0,af⟩<|aG aD).1[c]? = j.1[c]?:=λc aO=>(ac.5 c G G<|a9 c G).trans<|ah.5 c G;refine⟨U,(dR<|ac.5 I G G<|BF aU aR bW).trans<|bq.cell aR 0 ax,V H d _ _ _ bK ⟨R.1,R.2,R.3,R.4,λc aO _ b2=>R.5 c aO G b2,R.6⟩ ⟨G,G,G⟩ (FT (aY.below ay) (cd ac.4) (a4 o<|bJ U)<|a4 x<|bE U) λc aO=>⟨by intro Q;omega,λT=>?_,G⟩⟩;rcases ac.6 c T with T|T
  ·exact a9 c G T
  ·omega
 clear y aM a8 aV K aJ aK av cS bN H;have:∀(bb:Fn) (first P:Array bk) (f:aQ),(Instr.makeFunc bb first P).run aL f=.ok (ez bb first P) f:=λ_ _ _ _=>U;have cg:J f.1<J r.1:=by have cb:=V ba;omega
 have:aA (bx r) (N (J f.1) 0)=ae (aS h):=bO;have:aA (bx r) (N (J f.1) 1)=ae (aS e):=bP;have:¬J f.1=J r.1:=G;have:J (bx r).1=J r.1:=U;go_wp2;go_region_with
  (first|(go_at_call 33;(refine(aI (D h) _ b6).m λl S=>?_;have br:=S.4;have b7:aA l (N (J f.1) 0)=ae (aS h):=(S.cell (p:=⟨J f.1,0,af⟩) EL).trans E0;have b9:aA l (N (J f.1) 1)=ae (aS e):=(S.cell (p:=⟨J f.1,1,af⟩) EL).trans E0;have bL:J f.1<J l.1:=(by first|omega|(simp at br<;>omega));have:¬J f.1=J l.1:=wJ bL;have aW:ao (a6 r l):=(by first|exact acd S|exact ace S);(first|(have fy:bq l (J r.1) [cz af] 54:=acb S;have:aA l (N (J r.1) 0)=ae (cz af):=bq.cell fy 0 Io;have:=bq.frozen fy 0;have:J r.1<J l.1:=fy.lt;have:¬J r.1=J l.1:=wJ fy.lt)|skip)))|(go_at_call 33;(refine(aI (D e) _ b4).mono ?_;rintro w k ⟨rfl,q⟩;have bF:=q.4;have b7:aA k (N (J f.1) 0)=ae (aS h):=(q.cell (p:=⟨J f.1,0,af⟩) EL).trans E0;have b9:aA k (N (J f.1) 1)=ae (aS e):=(q.cell (p:=⟨J f.1,1,af⟩) EL).trans E0;have bM:J f.1<J k.1:=(by first|omega|(simp at bF<;>omega));have:¬J f.1=J k.1:=wJ bM;have aj:ao (a6 r k):=(by first|exact acf (V aW) q|exact ach (V aW) q);(first|(have W:bq k (J r.1) [cz af] 54:=acc fy q;have:aA k (N (J r.1) 0)=ae (cz af):=bq.cell W 0 Io;have:=bq.frozen W 0;have:J r.1<J k.1:=W.lt;have:¬J r.1=J k.1:=wJ W.lt)|(have X:bq k (J l.1) [cz af] 54:=Ty q;have:aA k (N (J l.1) 0)=ae (cz af):=bq.cell X 0 Io;have:=bq.frozen X 0;have:J l.1<J k.1:=X.lt;have:¬J l.1=J k.1:=wJ X.lt)|skip))))
 all_goals
  have t:=aj.4;go_wp2_with fail
  first
   |refine(ab _ (J k.1) (J r.1) (TC (V aj) t bo _ _) t (FU W).1 (FU W).2).mono ?_
   |refine(ab _ (J k.1) (J l.1) (TC (V aj) t aW.4 _ _) t (FU X).1 (FU X).2).mono ?_
   |refine(ab _ (J k.1) (J k.1+1) (TB (V aj) t _ _) t Tz.1 Tz.2).mono ?_
   |refine(ab _ (J k.1+1) (J k.1) (TB (V aj) t _ _) (Nat.le_succ_of_le t) TA.1 TA.2).mono ?_
  rintro w Y ⟨rfl,cf,a3⟩;have ca:=O a3;clear a3 ab aI;go_wp2;refine dQ (v:=bZ #[cz<|ae ⟨_,0,af⟩,ag ai 0]) ?_ U (V ca);simp[c_,results22,go_sem]
def zD(d l b:Nat)(g j:ap)(a:cw)(e:Nat)(k:aQ)(h:kP)(c:aQ):Prop:=h=bh (M<|if a.10 then 4 else 0)/\hi c d l b g j a e/\cG (λi=>i=d) b k c
def Tp{H:ap->ap}{Y:cw}{m:Nat}(c:Y.lB.2<8/\12<=Y.gT.2/\Y.gT.2<=1536):cw.pY H Y (m+1)=cw.pY H (({Y with s:=(Y.gT.1.gv (1024+1536*Y.lB.2+12)<|Y.gT.2-12).1.off 0 Y.2 [Y.lB.2],ra:=(Y.2+1)%65536,eH:=(Y.3+1)%65536}:cw).ans H (Y.gT.1.gv (1024+1536*Y.lB.2+12)<|Y.gT.2-12).2) m:=by
 have a:Y.kM=({Y with s:=(Y.gT.1.gv (1024+1536*Y.lB.2+12)<|Y.gT.2-12).1.off 0 Y.2 [Y.lB.2],ra:=(Y.2+1)%65536,eH:=(Y.3+1)%65536},ae (Y.gT.1.gv (1024+1536*Y.lB.2+12)<|Y.gT.2-12).2):=by rw[cw.kM,cw.vJ,b8 c]
 have b:=λf=>Tn (H:=H) (Y:=Y) (m:=m) (f:=f);generalize cw.pY H Y (m+1)=e at*;generalize Y.kM=d at a b;subst a;exact b _ U
def ab2{H:ap->ap}{Y:cw}(d:¬(Y.lB.2<8/\12<=Y.gT.2/\Y.gT.2<=1536)):cw.pY H Y (a+1) = {Y with s:=Y.gT.1,b:=aD}:=by
 have c:Y.kM=({Y with s:=Y.gT.1},af):=by rw[cw.kM,cw.vJ,bV d]
 have m:=Tm (H:=H) (Y:=Y) (m:=a);generalize cw.pY H Y (a+1)=g at*;generalize Y.kM=e at c m;subst c;exact m U
def Hw(h:φ:=by go_wp2_with fail;refine kg.m ?_;rintro w5 ⟨h1,h2⟩;have bI:=O<|dO w5 h1 h2;clear h1 h2;go_wp2;go_ret;exact bI):φ:=h
def ab3{r:ap}{i:ap->ap}{X:cw}(q:hi f a g n o r X v)(fm:v<=600000000000)(em:∀t,E (i t)<=1524)(cD:∀(t:ap) (S:aQ),E t<=1524->cG (λe=>e=a) n f S->a_ aL 19 #[bv g,ce #[aS o,aS r],aS t] S (cI (aS<|i t) S)):a_ aL 69 #[bv a] f λu w=>zD a g n o r (X.tN i) (v+30100) f u w:=by
 let⟨_,_,_,_,_,_,_,_,_,_,_,zC⟩:=hM q.2 q.3.2.2.2.2;cases a0:X.10 with
 |true=>
  have dW:X.tN i=X:=by rw[cw.tN,a0,b8 U]
  rw[dW];have az:ao (zD a g n o r X (v+30100) f (bh<|M 4) f):=⟨by rw[a0];rfl,o9 q G,qJ _ _ _⟩
  rw[a0]at zC;clear q cD dW;go_wp2;go_ret;exact az
 |false=>
 rw[a0]at zC;let⟨H,aa⟩:=du<|X.tN i
 rw[aa];have bb:=O<|abc q a0 G;let⟨l,cO⟩:=du X.lC
 have ck:ao (H=if l.10 then l else cw.IA i l):=by rw[ao,<-aa,cw.tN,a0,bV bW,cO]
 rw[cO]at bb;let⟨fn,cF⟩:=bm (if l.10 then 4 else 0:Int)
 rw[<-cF]at bb;have cl:=O cF;have ep:=O cD;clear q cD aa cO cF;go_in;go_wp2_with fail;refine bb.m ?_;rintro bf ⟨al,bG⟩;have d_:=O al;have dL:=O bG;cases a2:l.10 with
 |true=>
  have ba:=cl;have T:=ck;rw[a2,b8 U]at ba T;subst ba;have az:ao (zD a g n o r H (v+30100) f (bh<|M 4) bf):=⟨by rw[T,a2];rfl,T▸o9 al G,bG⟩
  clear T al bG a2 bb;go_wp2;go_ret;exact az
 | false=>
  have ba:=cl;have T:=ck;rw[a2,bV bW]at ba T;subst ba;have el:=O T;let⟨_,_,_,bD,_⟩:=hM al.2 al.3.2.2.2.2;have b4:ao (a_ aL 128 #[bv n,M 258,M 2] bf λu w=>u=bh (M (l.1.b_ 258 2).2)/\cZ w n (l.1.b_ 258 2).1/\cG bH n bf w):=BH 258 2 _ bf al.1 G G al.4.1 G;have a1:=qi al.4.1 258 2;have eS:=th l.1 258 2;rw[show(2:Nat)^(8*2)=65536 from U]at eS;let⟨p,bN⟩:=bm<|lT (l.1.b_ 258 2).2 l.3;have:=al.3.2.1;have d8:p<65536:=by rw[bN];unfold lT;omega
  have d6:(((l.1.b_ 258 2).2:Int)-(l.3:Int)+65536)%65536=(p:Int):=by rw[bN];unfold lT;omega
  have eV:(((l.1.b_ 258 2).2:Int)-(l.3:Int)+65536).tmod 65536=(p:Int):=by rw[oK G];exact d6
  have b1:ao (H=if p<=8 then cw.pY i {l with s:=(l.1.b_ 258 2).1} p else {l with s:=(l.1.b_ 258 2).1,b:=aD}):=by rw[ao,el,cw.IA,<-bN]
  have dM:=O a1;generalize (l.1.b_ 258 2).2=x,(l.1.b_ 258 2).1=bp at*;clear T al bG bb bN a1 ck el cl;go_wp2_with fail;refine b4.m ?_;rintro ed ⟨a8,cC⟩;have b2:hi ed a g n o r {l with s:=bp} (v+100):=o9 (rd (X:=l) d_ a8 cC dM G) G;have cS:=O b2;have cB:=O<|dm dL<|h7 cC λ_ q=>q.elim;let⟨_,_,_,_,_,_,_,bF,_⟩:=hM b2.2 b2.3.2.2.2.2;clear a8 cC b2 b4 bD zC d_ dL;by_cases cV:p<=8
  ·have eU:¬8<(p:Int):=G;have ec:ao (cw.pY i {l with s:=bp} p=H):=by have:=b1;rw[b8 cV]at this;exact b5 this
   clear b1;go_wp2
   go_loopw [6] (λe wr=>∃(j:Nat) (Y:cw),e=M j/\j<=p/\hi wr a g n o r Y (v+100+3300*j)/\Y.10=ak/\cw.pY i Y (p-j)=H/\cG (λe=>e=a) n f wr) λe _=>p-cM (intOf e)
   ·exact⟨0,_,U,dJ _,cS,a2,ec,cB⟩
   ·clear cS cB ec bF dM;obtain⟨j,Y,rfl,dT,aj,bn,aa,F⟩:=hrel;have de:=O F;by_cases eQ:j<p
    ·let⟨_,_,_,bD,_,_,_,Kn,_⟩:=hM aj.2 aj.3.2.2.2.2;have eq:=aj.3.2.1;let⟨ee,aW⟩:=bm<|Y.3%8
     let⟨bS,aX⟩:=bm<|8*ee
     let⟨K,aU⟩:=bm<|260+bS;let⟨bc,c6⟩:=bm<|K+4;have dI:(Y.3:Int)%8=ee:=G;have eJ:(Y.3:Int).tmod 8=(ee:Int):=by rw[oK G];exact dI
     have eG:8*(ee:Int)=bS:=G;have eL:260+(bS:Int)=K:=G;have eM:(K:Int)+4=bc:=G;have e2:bc<900:=G;have:ee<8:=G;have:bS<64:=G;have:K<900:=G;have aH:Y.lB=Y.1.b_ K 4:=by rw[cw.lB,aU,aX,aW]
     have bP:Y.gT=Y.lB.1.b_ bc 4:=by rw[cw.gT,c6,aU,aX,aW]
     have ei:ao (a_ aL 128 #[bv n,M K,M 4] wr λu w=>u=bh (M Y.lB.2)/\cZ w n Y.lB.1/\cG bH n wr w):=aH▸BH K 4 _ wr aj.1 G G aj.4.1 G
     have b6:ao (Y.lB.1.Ok<|v+100+3300*j+4):=by rw[ao,aH];exact qi aj.4.1 _ 4
     have a1:ao (Y.gT.1.Ok<|v+100+3300*j+8):=by rw[ao,bP];exact qi b6 _ 4
     have fh:Y.lB.2<4294967296:=aH▸th _ _ 4
     have fi:Y.gT.2<4294967296:=bP▸th _ _ 4
     rw[show p-j=(p-(j+1))+1 by omega]at aa;have c1:ao (Y.lB.2<8/\12<=Y.gT.2/\Y.gT.2<=1536->cw.pY i (({Y with s:=(Y.gT.1.gv (1024+1536*Y.lB.2+12)<|Y.gT.2-12).1.off 0 Y.2 [Y.lB.2],ra:=(Y.2+1)%65536,eH:=(Y.3+1)%65536}:cw).ans i (Y.gT.1.gv (1024+1536*Y.lB.2+12)<|Y.gT.2-12).2) (p-(j+1))=H):=λaF=>(b5<|Tp aF).trans aa;have cH:ao (¬(Y.lB.2<8/\12<=Y.gT.2/\Y.gT.2<=1536)->{Y with s:=Y.gT.1,b:=aD}=H):=λaF=>(b5<|ab2 aF).trans aa;have ea:=O bP;have db:=O aj;have dv:=O bn;clear aj F aa aW aX aU c6 aH bP bn;generalize Y.lB.2=W,hle:Y.gT.2=B at*;replace hle:=O hle;go_wp2_with fail;refine ei.m ?_;rintro an ⟨cA,cy⟩;have bX:=rd db cA cy b6 G;have ej:ao (a_ aL 128 #[bv n,M bc,M 4] an λu w=>u=bh (M B)/\cZ w n Y.gT.1/\cG bH n an w):=by
      have:=BH bc 4 _ an cA G G b6 G;rw[<-ea,hle]at this;exact this
     let⟨_,_,_,es,_⟩:=hM bX.2 bX.3.2.2.2.2;have dj:=O bX;have d4:=O<|dm de<|h7 cy λ_ q=>q.elim;clear ei db de cA cy bX bD Kn b6 ea hle;go_wp2_with fail;refine ej.m ?_;rintro aw ⟨dU,cL⟩;have Z:=rd dj dU cL a1 G;have dg:=O Z;have cU:=O<|dm d4<|h7 cL λ_ q=>q.elim;clear ej dj d4 dU cL es a1;by_cases aF:W<8/\12<=B/\B<=1536
     ·let⟨ek,ey,et⟩:=aF;have ah:=c1 ⟨ek,ey,et⟩;have aV:¬8<=(W:Int):=G;have dh:decide (8<=(W:Int))=ak:=fI aV;have bO:¬(B:Int)<12:=G;have eI:decide ((B:Int)<12)=ak:=fI bO;have d5:¬1536<(B:Int):=G;have:decide (1536<(B:Int))=ak:=fI d5;have bF:bY aw a 15 (M Y.3):=(hM Z.2 Z.3.2.2.2.2).2.2.2.2.2.2.2.1;have:=bq.frozen Z.2;let⟨u1,dZ⟩:=bm<|(Y.3+1)%65536;have eb:((Y.3:Int)+1)%65536=u1:=G;have eA:((Y.3:Int)+1).tmod 65536=(u1:Int):=by rw[oK G];exact eb
      let⟨av,cW⟩:=tW Z (jx (lI _ _) 15<|M u1) (vq Z.2 Z.3.2.2.2.2 u1).2.2.2.1 U ⟨Z.3.1,by show u1<65536;omega,Z.3.2.2⟩ Z.4.2;let⟨d3,aO,d0,d1,d2⟩:=im zj;let⟨ef,bR,cm,ca⟩:=run_make_own (P:=aL) (a7 aw ⟨a,15,af⟩<|ag ai u1) (J (a7 aw ⟨a,15,af⟩<|ag ai u1).1) 53 5 d3 (ag ch 0) 1 xp aO d0 d1 ai ai 1536 (by rw[d2];omega) lN bo;have bR:(Instr.makeSlice 53 (M 0)<|M 1536).run aL (a7 aw ⟨a,15,af⟩<|ag ai u1)=.ok (aE (ae<|N (J (a7 aw ⟨a,15,af⟩<|ag ai u1).1) 0) 0 1536) ef:=bR;let⟨dN,br⟩:=bm<|J (a7 aw ⟨a,15,af⟩<|ag ai u1).1;rw[<-br]at bR;let⟨w5,dw⟩:=bm<|a7 aw ⟨a,15,af⟩<|ag ai u1;rw[<-dw]at br cm ca av cW;have b3:=cc.grown ca bo (λj dT=>by cases dT);let⟨b0,cK⟩:=bm<|B-12;let⟨z,cN⟩:=bm<|1024+1536*W+12;rw[<-cK,<-cN,<-dZ]at ah;have cY:=O cK;have eo:=O cN;have:=(F6 av).1;have eh:ao (ox w5 ef n (bL dN 0 0 1536) [] Y.gT.1):=⟨br▸cm,q9 av.1 b3,λe cT u=>by have:=qd av.1<|mH (b3.5 n<|ir av.1) cT;have:e=dN:=gm u;omega,n5 b3<|ir av.1⟩
      have d8:b0<=1524:=G;have aJ:=O av;have cu:=O av.4.1;have d7:=O<|dm cU cW;have az:=O ah;clear ah c1 cH Z dg cU av cW cm ca b3 dw br dZ dI eJ eG eL eM d6 eV cK cN;let⟨u0,dq⟩:=bm Y.3;rw[<-dq]at bF eb eA eq;clear dq;generalize Y.gT.1=C at*;go_wp2
      go_loopw [10,11] (λc e wr=>∃(d:Nat) (e3:bk),e3=c/\e=M (12+d:Nat)/\d<=b0/\ox w5 wr n c (C.gv z d).2 (C.gv z d).1) λ_ e _=>B-cM (intOf e)
      ·exact⟨0,_,U,U,dJ _,eh⟩
      ·clear eh bR bF;obtain⟨d,c,rfl,rfl,eP,I⟩:=hrel;have dl:=F4 C z d;by_cases eQ:d<b0
       ·have cn:=gX I.4 aJ.1 aJ.2 bW id;have bD:bY (bx wr) a 3 (bv n):=(hM cn aJ.3.2.2.2.2).2.2.2.1;let⟨e,b9⟩:=bm<|12+d;let⟨cX,dX⟩:=bm<|1024+1536*W;let⟨au,eT⟩:=bm<|cX+e;have di:au=z+d:=cd<|V eo
        have eW:ao (C.gv z (d+1)=((C.gv z d).1.uA au,(C.gv z d).2++[(C.gv z d).1.tL au])):=by rw[ao,cq.gv,di]
        have:(cX:Int)+e=au:=G;have ff:ai.wrap ((cX:Int)+e)=(au:Int):=fl
        have:=iV (au:Int)
        have c5:=O λS=>abC ek S;rw[<-dX]at c5;let⟨eY,eZ,_⟩:=BG cu z d;have b4:=O<|FY au (bx wr) I.2 G G G;have bQ:ao (∀h:aQ,cG bH n (bx wr) h->aA h (N a 3)=ae (bv n)):=λh F=>(hM (gX (w:=bx wr) F I.2 cn bW id) aJ.3.2.2.2.2).2.2.2.1;have eC:ao (∀h cg,cZ h n cg->cG bH n (bx wr) h->ox w5 h n c (C.gv z d).2 cg):=λh cg a9 F=>ox.aq3 I a9<|dm kH F;rw[<-b9];have e1:(e:Int)<B:=cd<|V cY
        let⟨i1,c4⟩:=bm<|12+(d+1);have:(e:Int)+1=i1:=G;have c3:=O c4;have eD:=O b9;generalize (C.gv z d).1.tL au=cb,(C.gv z d).2=s at*;generalize (C.gv z d).1.uA au=bp at*;clear I eT b9 c4 di eY eZ cn dX;go_wp2
        go_region_held (λw=>aA w (N a 3)=ae (bv n)) (first|assumption|go_keep)
         (first|(go_at_call 67;go_loud (refine(c5 _).m ?_;rintro w rfl))|(go_at_call 130;go_loud (refine b4.m λA ⟨bj,aB⟩=>?_;have:=bQ A aB;have bs:=eC A _ bj aB)))
        all_goals
         have dx:A.ownsRow (J w5.1) 5 1 c d (s.map λeK=>ag ch<|bg eK):=by
          have:=bs.1;rw[gO,dl]at this;exact this
         have:=bs.4.4;have df:=O bs;clear bj aB bs;go_wp2_with (at_builtin;go_loud (refine wpList_append_lies _ U (.tmp 102) (.tmp 104) 53 U (J w5.1) 5 d3 (ag ch 0) 1 1 xp aO d0 d1 d2 U bW c d _ U (dx.alloc _) (N (J A.1) 0) 1 1 [ag ch<|bg cb] U U (Sf A cb) (Sg cb) bW lN G ct (J A.1+1) ax ?_;intro cx fj aY dV dR dQ fc));have ew:=O<|ox.aq4 df dV G dR dQ;clear dV dR dQ dx df;go_wp2;exact⟨⟨d+1,_,U,by rw[<-c3],G,eW▸ew⟩,by have:=c3;have:=eD;have:=cY;exact qD⟩
       ·obtain rfl:d=b0:=G;have e1:¬12+(d:Int)<B:=cd<|V cY
        have ac:=rd aJ I.2 I.4 (BG cu z d) G;have dy:ao (∀h,cG (λe=>e=a) n wr h->(convert 53 9 c).run aL h=.ok (aS (C.gv z d).2) h):=λh F=>uD<|lA I.1 λcx cE=>F.5 cx (nT I.1 cE) (λu=>cd<|(qh I.1 cE).1) λcT=>I.3 cx cT<|b5 cE;have eg:=O<|dm d7<|h7 I.4 λ_ q=>q.elim;have ah:=az;generalize (C.gv z d).1=T2,(C.gv z d).2=y at*;let⟨ra,c2⟩:=bm Y.2;let⟨R,aK⟩:=bm ({Y with s:=T2,eH:=u1}:cw)
        rw[<-aK]at ac;have a3:R.2=ra:=by rw[aK,c2]
        have bt:=ac.3;rw[a3]at bt;have hN:bY wr a 3 (bv n):=(hM ac.2 ac.3.2.2.2.2).2.2.2.1;have dH:bY wr a 14 (M ra):=a3▸(hM ac.2 ac.3.2.2.2.2).2.2.2.2.2.2.1
        have:=bt.1;have ar:=bt.2.2.2.2;let⟨ee,aW⟩:=bm<|ra%8
        let⟨cR,a8⟩:=bm<|2*ee
        let⟨K,aU⟩:=bm<|132+cR;have i1:(ra:Int)%8=ee:=G;have fa:(ra:Int).tmod 8=(ee:Int):=CA
        have bf:=iV (ee:Int)
        have aw:ai.wrap (2*(ee:Int))=(cR:Int):=fl
        have fg:ai.wrap (132+(cR:Int))=(K:Int):=fl
        have e2:K<=700:=G;let⟨aq,bM⟩:=bm<|T2.fo K W 2;have co:R.1=T2:=by rw[aK]
        have bu:=ac.4.1;rw[co]at bu;have b7:aq.Ok (v+100+3300*j+8+d+2):=bM▸jp bu _ _ 2
        have cf:=ac.1;rw[co]at cf;have dP:ao (a_ aL 66 #[bv n,M K,M 2,M W] (bx wr) λu w=>u=bh (bZ #[])/\cZ w n aq/\cG bH n (bx wr) w):=by
         rw[bM];exact q_ K 2 W cf G G G bu G
        let⟨k,dY⟩:=bm<|(ra+1)%65536;have eE:((ra:Int)+1)%65536=k:=G;have fb:((ra:Int)+1).tmod 65536=(k:Int):=by rw[oK G];exact eE
        have eF:k<65536:=G;have dn:ao (cw.pY i (({R with s:=aq.fo 130 k 2,ra:=k}:cw).ans i y) (p-(j+1))=H):=by
         rw[ao,dY,bM,aU,a8,aW,c2,aK];rw[cq.off,cq.off,fM,fM]at ah;exact ah
        have bQ:ao (∀h,cZ h n aq->cG bH n (bx wr) h->hi h a g n o r {R with s:=aq} (v+100+3300*j+8+d+2)):=λh a9 F=>rd ac a9 (dm kH F) b7 G;have e0:bY (bx wr) a 3 (bv n)/\bY (bx wr) a 14 (M ra):=bd hN dH
        have e_:=O a3;have da:ao (∀h,hi h a g n o r {R with s:=aq} (v+100+3300*j+8+d+2)->bY h a 3 (bv n)/\bY h a 14 (M ra)):=λh q=>by
         have dc:=(hM q.2 ar).2.2.2.2.2.2.1;rw[show({R with s:=aq}:cw).2=ra from a3]at dc;exact bd ((hM q.2 ar).2.2.2.1) dc
        have dK:=O b7;have dA:ao (R.10=ak):=by rw[ao,aK];exact dv
        have eO:E y<=1524:=G;clear I ac ah aK c2 a3 aW a8 aU bM b7 dY co bu cf dl aJ cu d7 az dv eP;go_wp2
        go_region_held (λw=>aA w (N a 3)=ae (bv n)/\aA w (N a 14)=ae (M ra)) (first|assumption|go_keep)
         (first|(go_at_call 66;go_loud (refine dP.m λA ⟨bj,aB⟩=>?_;have aM:=bQ A bj aB;have:=da A aM)))
        all_goals
         have dB:cG (λe=>e=a) n wr A:=dm kH<|h7 aB λ_ q=>q.elim;have:=bq.frozen aM.2;let⟨a4,aP⟩:=tW (Y:={R with s:=aq,ra:=k}) aM (jx (lI _ _) 14<|M k) (vq aM.2 ar k).2.2.1 U (bd eF bt.2) aM.4.2;have e5:=(hM a4.2 ar).2.2.2.1;have e4:bY (a7 A ⟨a,14,af⟩<|ag ai k) a 14 (M k):=(hM a4.2 ar).2.2.2.2.2.2.1;let⟨aC,bl⟩:=bm<|aq.fo 130 k 2;have c9:aC.Ok (v+100+3300*j+8+d+4):=bl▸jp dK _ _ 2
         have d9:ao (a_ aL 66 #[bv n,M 130,M 2,M k] (bx<|a7 A ⟨a,14,af⟩<|ag ai k) λu w=>u=bh (bZ #[])/\cZ w n aC/\cG bH n (bx<|a7 A ⟨a,14,af⟩<|ag ai k) w):=by
          rw[bl];exact q_ 130 2 k a4.1 G G G dK G
         have dC:=O a4;have c8:=O<|dm dB aP;have dk:ao (∀h,cZ h n aC->cG bH n (bx<|a7 A ⟨a,14,af⟩<|ag ai k) h->hi h a g n o r {R with s:=aC,ra:=k} (v+100+3300*j+8+d+4)):=λh a9 F=>rd dC a9 (dm kH F) c9 G;have:aA (bx<|a7 A ⟨a,14,af⟩<|ag ai k) (N a 3)=ae (bv n)/\aA (bx<|a7 A ⟨a,14,af⟩<|ag ai k) (N a 14)=ae (M k):=bd e5 e4
         have dp:ao (cw.pY i (({R with s:=aC,ra:=k}:cw).ans i y) (p-(j+1))=H):=by rw[ao,bl];exact dn
         clear bj aB dB aM a4 aP bl c9 dn bQ da dP e_ hN dH e0;go_wp2
         go_region_held (λw=>aA w (N a 3)=ae (bv n)/\aA w (N a 14)=ae (M k)) (first|assumption|go_keep)
          (first|(go_at_call 66;go_loud (refine d9.m λaY ⟨aX,aP⟩=>?_;have ab:=dk aY aX aP;have en:bY aY a 3 (bv n)/\bY aY a 14 (M k):=bd ((hM ab.2 ar).2.2.2.1)<|(hM ab.2 ar).2.2.2.2.2.2.1)))
         all_goals
          let⟨bU,bK⟩:=bm R.7;let⟨aI,aH⟩:=bm<|bU+1;have:(bU:Int)+1=aI:=G;have d8:bU<=v+100+3300*j+8+d+4:=bK▸ab.4.2.1
          have fo:bY aY a 16 (M bU):=bK▸(hM ab.2 ar).2.2.2.2.2.2.2.2.1
          have:=bq.frozen ab.2;let⟨ay,bw⟩:=bm ({R with s:=aC,ra:=k,n:=aI}:cw)
          let⟨ad,cp⟩:=tW (Y:={R with s:=aC,ra:=k,n:=aI}) (o9 (C':=v+100+3300*j+8+d+5) ab G) (jx (lI _ _) 16<|M aI) (vq ab.2 ar aI).2.2.2.2.1 U ab.3 ⟨by show aI<=_;omega,cJ ab.4.2.2.1 G,cJ ab.4.2.2.2 G⟩;rw[<-bw]at ad;have bz:=ad.3.2.2.2.2;have cr:ao (cw.pY i (if i y=[]then ay else ay.snd (i y)) (p-(j+1))=H):=by
           have:=dp;rw[ao,bw,aH,bK];exact this
          have dD:ao (ay.10=ak):=by rw[ao,bw];exact dA
          let⟨Q,b_⟩:=bm<|a7 aY ⟨a,16,af⟩<|ag ai aI;rw[<-b_]at ad cp;have bB:=dm c8<|dm (dm kH<|h7 aP λ_ q=>q.elim) cp;have:(convert 53 9 c).run aL (bx Q)=.ok (aS y) (bx Q):=dy (bx Q)<|dm bB kH;have ci:=O<|ep y (bx Q) eO<|dm (dm eg bB) kH;have e6:bY (bx Q) a 0 (bv g):=(hM ad.2 bz).1;have e7:bY (bx Q) a 1 (aS o):=(hM ad.2 bz).2.1;have e9:bY (bx Q) a 2 (aS r):=(hM ad.2 bz).2.2.1;have aR:=O ad;have eu:=O<|dm eg bB;have cs:ao (∀S,cv (J (bx Q).1) (bx Q) S->bY S a 0 (bv g)/\bY S a 1 (aS o)/\bY S a 2 (aS r)):=λS eN=>by
           have u:=hM (show nu S a g n o r ay from(eN.5 a<|bq.lt ad.2).trans ad.2) bz;exact⟨u.1,u.2.1,u.2.2.1⟩
          have:aA (bx Q) (N a 0)=ae (bv g)/\aA (bx Q) (N a 1)=ae (aS o)/\aA (bx Q) (N a 2)=ae (aS r):=⟨e6,e7,e9⟩
          have eB:=O b_;clear aX aP ab en ad cp bB bw bK aH dp dA d9 dk dC c8 dy b_;go_wp2;rw[<-eB]
          go_region_held (λw=>aA w (N a 0)=ae (bv g)/\aA w (N a 1)=ae (aS o)/\aA w (N a 2)=ae (aS r)) (first|assumption|go_keep)
           (first|(go_at_call 19;go_loud (refine ci.m λc0 bT=>?_;have dE:=cs c0 bT)))
          all_goals
           have a5:a6 Q c0:=cc.drew.trans bT;have bC:hi c0 a g n o r ay (v+100+3300*j+8+d+5):=⟨q9 aR.1 a5,(a5.5 a<|bq.lt aR.2).trans aR.2,aR.3,aR.4⟩
           have dF:=O<|dm eu<|n5 (L:=λe=>e=a) a5 (F6 aR).2.1;have ev:=em y;have aT:=cr;by_cases ho:i y=[]
           ·have eR:((D<|i y).toList != [])=ak:=by rw[ho,gC];rfl
            have fd:((D<|i y).toList==[])=aD:=CB
            have fe:(D<|i y).toList.isEmpty=aD:=CB
            have er:(D<|i y).toList=[]:=CB
            rw[b8 ho]at aT;have bI:=O<|cj bC aT;clear aT cr bC a5 bT dE ho ci cs;go_wp2;exact bd (⟨j+1,ay,dd,G,o9 bI.1 G,dD,bI.2,dF⟩) dz
           ·have eR:((D<|i y).toList==[])=ak:=by rw[ju,gC];exact ho
            have er:¬(D<|i y).toList=[]:=by rw[gC];exact ho
            rw[bV ho]at aT;have bI:=O aT;have dG:=O<|abH bC ev G;clear aT cr bC a5 bT dE ho ci cs;go_wp2_with fail;refine dG.m ?_;rintro wc ⟨ds,dr⟩;have dt:=O<|cj ds<|dm dF dr;clear ds dr dG;go_wp2;exact bd (⟨j+1,ay.snd<|i y,dd,G,o9 dt.1 G,(Kz ay<|i y).2.2.2.2.1.trans dD,bI,dt.2⟩) dz
     ·have kg:=O<|F8 dg;have ah:=cH aF;have dO:ao (∀w5,hi w5 a g n o r {Y with s:=Y.gT.1,b:=aD} (v+100+3300*j+8)->cG (λe=>e=a) n aw w5->zD a g n o r H (v+30100) f (bh<|M 4) w5):=λw5 h1 h2=>by
       subst ah;exact⟨U,o9 h1 G,dm cU h2⟩
      have eX:8<=(W:Int)\/(¬8<=(W:Int)/\(B:Int)<12)\/(¬8<=(W:Int)/\¬(B:Int)<12/\1536<(B:Int)):=G;clear ah aF c1 cH Z;rcases eX with aV|⟨aV,bO⟩|⟨aV,bO,d5⟩
      ·exact Hw
      ·have dh:=fI aV;exact Hw
      ·have dh:decide (8<=(W:Int))=ak:=fI aV;have eI:decide ((B:Int)<12)=ak:=fI bO;exact Hw
    ·obtain rfl:j=p:=G;rw[pX,Km]at aa;have bI:ao (zD a g n o r H (v+30100) f (bh<|M 0) wr):=by
      subst aa;exact⟨by rw[bn];rfl,o9 aj G,F⟩
     clear aj F aa bn;go_wp2;go_ret;exact bI
  ·have eU:8<(p:Int):=G;have kg:=O<|F8 cS;have T:=b1;rw[bV cV]at T;have az:ao (∀an,hi an a g n o r {l with s:=bp,b:=aD} (v+100)->cG (λe=>e=a) n ed an->zD a g n o r H (v+30100) f (bh<|M 4) an):=λan h1 h2=>by
    rw[T];exact⟨U,o9 h1 G,dm cB h2⟩
   clear T b1 cV;go_wp2_with fail;refine kg.m ?_;rintro an ⟨h1,h2⟩;have bI:=O<|az an h1 h2;clear h1 h2;go_wp2;go_ret;exact bI
def z8(h:ap->Nat×Nat×Nat×Nat->List ap->ap×(Nat×Nat×Nat×Nat)×List ap)(d:ap)(a:Nat×Nat×Nat×Nat)(e:List ap)(g:Nat)(c b:Int):ap×(Nat×Nat×Nat×Nat)×List ap:=
 if 0<=c/\12<=b/\b<=1536/\c<=25600-b then
  h (ki (ki (ki d (772+8*(a.2.2.2%8)) g 4) (776+8*(a.2.2.2%8)) 0 4) 770 ((a.2.2.2+1)%65536:Nat) 2) (a.1,a.2.1,(a.2.2.1+1)%65536,(a.2.2.2+1)%65536) (e++[be (cM b-12)<|bi (cM c+12) d])
 else(d,(a.1,a.2.1,(a.2.2.1+1)%65536,a.2.2.2),e)
def pb:Nat->ap->Nat×Nat×Nat×Nat->List ap->ap×(Nat×Nat×Nat×Nat)×List ap
 |0,a,b,c=>(a,b,c)
 | d+1,a,b,c=>
  if hw a 642 2≠b.2.2.1/\hw a (644+2*(b.2.2.1%8)) 2<=7 then
   z8 (pb d) a b c (cM<|hw a (644+2*(b.2.2.1%8)) 2) (hw a (512+16*cM (hw a (644+2*(b.2.2.1%8)) 2)) 8) (hw a (512+16*cM (hw a (644+2*(b.2.2.1%8)) 2)+8) 4)
  else(a,b,c)
def qq(c:aQ)(b:Nat)(v:bk)(a:List ap):Prop:=c.ownsRow b 9 1 v (E a)<|a.map λs=>am<|D s
def Kd(e d:Nat)(h:cq)(c:ap×(Nat×Nat×Nat×Nat)×List ap)(g:aQ)(i:kP)(a:aQ):Prop:=
 ∃v,i=bh v/\qq a (J g.1) v c.2.2/\cZ a d {h with b:=c.1}/\jr a e d c.2.1/\cG (λj=>j=e) d g a
def Ke{p n cp:Nat}(c:m_ f a o)(i:p+n<=25600):(convert 53 9<|aE (ae ⟨a,p,af⟩) n cp).run aL f=.ok (am<|D<|be n<|bi p o) f:=by
 let hl:E (be n<|bi p o)=n:=by rw[iv,il,c.1];omega
 have:=Do (P:=aL) f 53 9 5 ⟨a,p,af⟩ cp (be n<|bi p o) underlying53 underlying5 underlying9 λd h=>by{
 let g:(⟨a,p,af⟩:Addr).add d=⟨a,p+d,af⟩:=by unfold Addr.add;by_cases c:d=0<;>simp[c]
 let hl:p+d<E o:=by rw[c.1];omega
 rw[g,c.2.cell (p+d) EV,pH,List.getElem_take,yQ]};rw[hl]at this;exact this
def Kf(k:qq f g e s)(p:cZ f a B)(l:cG A a f m)(n:∀b,bA e=ae b->¬A b):qq m g e s:=
 lA k λb c=>l.5 b (nT k c) (n b c) λt=>by
  obtain⟨_,u,o⟩:=qh k c;obtain⟨_,w,q,r⟩:=ui p t;have:=(b5 o).trans q;simp at this;obtain⟨_,rfl⟩:=this;rcases r with k|k|k|k|k<;>exact absurd k bW
def abT{n:Nat×Nat×Nat×Nat}{z:Obj}(v:gc f m a g B n)(i:qq m (J f.1) e s)(c:(aN m z).grownBy u<|bA e)(r:g<J f.1):gc f u a g B n:=by
 let h:=λb aO y=>(c.5 b ct y).trans<|dv _ _ _ aO;let t:∀b,b<J f.1->ae b≠bA e:=λb aO l=>cd<|(qh i<|b5 l).1
 refine⟨zA v.1 λb o=>h b (qd v.1 o) λl=>?_,(h a (bq.lt v.2)<|jK v.2 i bW).trans v.2,xL v.3 r c.1 c.2 c.3 (cJ ax c.4) λb aO=>h b (eA aO v.3.4)<|t b aO⟩;let⟨_,A,q⟩:=qh i<|b5 l;let⟨_,j,w,x⟩:=ui v.1 o;have:=(b5 q).trans w;simp at this;obtain⟨_,rfl⟩:=this;rcases x with v|v|v|v|v<;>exact absurd v bW
def VQ(h:φ:=by go_wp2;go_ret;exact V bI):φ:=h
def VR(h:φ:=by exact VQ):φ:=h
def we(h:φ:=by exact VR):φ:=h
theorem Kg(c d:Nat)(n:Int)(S:cq){T:Nat×Nat×Nat×Nat}(w:cZ f d S)(b6:jr f c d T)(bT:u_ T):a_ aL 27 #[cz<|ae ⟨c,0,af⟩,ag ai n] f λk y=>Kd c d S (pb (cM<|min n 8) S.1 T []) f k y:=by
 have⟨df,dn,db,dc,de⟩:=im wx;have dk:=ir w;have cr:=O (show gc f f c d S T from⟨w,b6,qJ _ _ _⟩);have⟨C,a9⟩:=bm<|cM<|min n 8;rw[<-a9];have⟨aF,x⟩:=du<|pb C S.1 T []
 rw[x];have:C<=8:=G;have bS:=O x;have b1:=O a9;have bY:=O bT;clear w b6 a9 x bT;go_wp2
 go_loopw [5,6] (λv bu wr=>∃(l:Nat) (b:ap) (j:Nat×Nat×Nat×Nat) (q:List ap) (av:bk),av=v/\bu=ag ai l/\l<=C/\E q=l/\u_ j/\qq wr (J f.1) v q/\pb (C-l) b j q=aF/\gc f wr c d {S with b:=b} j) λ_ bu _=>C-cM (intOf bu)
 ·exact⟨0,S.1,T,[],_,U,U,dJ _,U,V bY,bd U<|bJ (bd U U),V bS,V cr⟩
 ·clear cr bS bY;obtain⟨l,b,⟨Y,aa,s,j⟩,q,v,rfl,rfl,b9,a5,⟨c9,da,dC,dD⟩,al,x,A⟩:=hrel;have K:ao (∀r a2 a4 bz,(a2,a4,bz)=aF->qq r (J f.1) v bz->gc f r c d {S with b:=a2} a4->Kd c d S aF f (bh v) r):=λr a2 a4 bz k z I=>by
   subst k;exact⟨v,U,z,I.1,I.2,I.3⟩
  by_cases c5:l<C
  case neg=>
   obtain rfl:l=C:=G;rw[pX]at x;have bI:=O<|V K _ _ _ _ x al A;have bw:¬(l:Int)<n\/((l:Int)<n/\¬(l:Int)<8):=cd<|V b1
   clear x al A K c5 b9;rcases bw with bv|⟨bv,cg⟩
   ·have:=fI bv;exact we
   ·have:=fI cg;exact we
  have bv:(l:Int)<n:=cd<|V b1
  have cg:(l:Int)<8:=G;rw[show C-l=(C-(l+1))+1 by omega]at x;have⟨aI,bf⟩:=du<|hw b 642 2
  have ay:ao (a_ aL 68 #[cz<|ae ⟨d,0,af⟩,ag ai 642,ag ai 2] wr λk y=>k=bh (ag ai aI)/\y=wr):=by
   rw[<-bf];exact xy (S:={S with b:=b}) 642 2 wr A.1 G G
  have⟨ee,bF⟩:=bm<|s%8
  have⟨aq,cW⟩:=bm<|2*ee
  have⟨fa,cs⟩:=bm<|644+aq
  have i1:(s:Int)%8=ee:=G;have cB:(s:Int).tmod 8=(ee:Int):=CA
  have ds:=iV (ee:Int)
  have dw:ai.wrap (2*(ee:Int))=(aq:Int):=fl
  have dx:ai.wrap (644+(aq:Int))=(fa:Int):=fl
  have dt:2*(ee:Int)=aq:=G;have dv:644+(aq:Int)=fa:=G;obtain⟨e,bC⟩:∃e:Nat,hw b fa 2=(e:Int):=eR _<|b5 (DF (Ti _ _).1)
  have az:ao (∀g,a_ aL 68 #[cz<|ae ⟨d,0,af⟩,ag ai fa,ag ai 2] (dS wr g) λk y=>k=bh (ag ai e)/\y=dS wr g):=λg=>by
   rw[<-bC];exact xy (S:={S with b:=b}) fa 2 (dS wr g) A.1 G G
  have⟨F,ba⟩:=du<|hw b (512+16*e) 8
  have⟨t,bt⟩:=du<|hw b (512+16*e+8) 4
  have Z:ao ((if aI≠s/\(e:Int)<=7 then z8 (pb<|C-(l+1)) b (Y,aa,s,j) q e F t else(b,(Y,aa,s,j),q))=aF):=by
   rw[pb]at x;simp only[show 644+2*(s%8)=fa by omega,bC,bf,sA,ba,bt]at x;exact x
  have aB:ao (∀g,gc f (dS wr g) c d {S with b:=b} (Y,aa,s,j)/\qq (dS wr g) (J f.1) v q):=λg=>⟨⟨A.1,A.2,dm A.3 ⟨U,U,U,cO _,λ_ _ _ _=>U,λ_ q=>bJ q⟩⟩,al⟩
  have cS:=gc.c0 A;have hN:aA wr ⟨c,3,af⟩=ae (ag ai s):=bq.cell A.2 3 ax;have ac:=O<|cj al A;have aC:ao (∀r c',gc f r c d {S with b:=b} c'->e<=7->a_ aL 68 #[cz<|ae ⟨d,0,af⟩,ag ai (512+16*e:Nat),ag ai 8] r (λk y=>k=bh (ag ai F)/\y=r)/\a_ aL 68 #[cz<|ae ⟨d,0,af⟩,ag ai (512+16*e+8:Nat),ag ai 4] r λk y=>k=bh (ag ai t)/\y=r):=λr c' b3 aO=>by
   rw[<-ba,<-bt];exact⟨xy (S:={S with b:=b}) (512+16*e) 8 r b3.1 G G,xy (S:={S with b:=b}) (512+16*e+8) 4 r b3.1 G G⟩
  clear x bf bF cW cs bC ba bt A al b9;go_wp2_with (fail);refine(V ay).m ?_;rintro wr rfl;by_cases W:aI=(s:Int)
  ·have a:=V Z;rw[bV λw=>w.1 W]at a;have bI:=O<|V K _ _ _ _ a (V ac).1 (V ac).2;subst W;clear a Z K aB aC ay az ac;exact we
  have dh:(aI==(s:Int))=ak:=by rw[ju];exact W
  go_wp2;go_quiet (first|(go_at_call 68;exact Calls.quiet_of_same<|V az _));have⟨z,ad⟩:=V aB nq;generalize dS wr nq=bG at*;by_cases bb:e<=7
  case neg=>
   have a:=V Z;rw[bV λw=>bb G]at a;have bI:=O<|V K _ _ _ _ a ad z;have dg:7<(e:Int):=G;clear a Z K aB aC ay az ac bb z ad W;exact we
  have dg:¬7<(e:Int):=G;have⟨H,ca⟩:=bm<|(s+1)%65536;have ci:((s:Int)+1)%65536=(H:Int):=G;have cU:((s:Int)+1).tmod 65536=(H:Int):=by rw[oK G];exact ci
  have I:=gc.set z (c':=(Y,aa,H,j)) (bq.set z.2 3<|ag ai H);have Q:qq (a7 bG ⟨c,3,af⟩<|ag ai H) (J f.1) v q:=lA ad λc2 bc=>dr _ _ _ _ λk=>jK z.2 ad bW (by rw[bc,k]);obtain⟨g,br⟩:=bm<|16*e;obtain⟨au,cy⟩:=bm<|512+g;obtain⟨bD,cA⟩:=bm<|au+8;have di:(16:Int)*(e:Int)=(g:Int):=G;have cE:(512:Int)+(g:Int)=(au:Int):=G;have cF:(au:Int)+8=(bD:Int):=G;have aK:=V aC _ _ I bb;rw[show 512+16*e+8=bD by omega,show 512+16*e=au by omega]at aK;have bK:=O aK.1;have bL:=O aK.2;have ah:=O<|cj Q I;have cX:=gc.c0 z;have c0:aA bG ⟨c,3,af⟩=ae (ag ai s):=bq.cell z.2 3 ax;have cY:=gc.c0 I;have cR:=bq.frozen z.2;have a:=V Z;rw[b8 ⟨W,G⟩]at a;have a3:=O a;have a6:=O ca;have:bD<=700:=G;have:au<=700:=G;have:g<=200:=G;clear aB ay az aC z I ad Q aK cS hN a Z br cy cA ca W dh ac;go_wp2_with (fail);refine(V bK).mono ?_;rintro k M ⟨rfl,rfl⟩;generalize a7 bG ⟨c,3,af⟩ (ag ai H)=M at*;clear bK cX c0 cR ci cU;go_wp2_with (fail);refine(V bL).mono ?_;rintro k M ⟨rfl,rfl⟩;clear bL di cE cF;have a:=V a3;unfold z8 at a;by_cases an:0<=F/\12<=t/\t<=1536/\F<=25600-t
  case neg=>
   rw[bV an]at a;simp only at a;rw[<-V a6]at a;have bI:=O<|V K _ _ _ _ a (V ah).1 (V ah).2;have bw:F<0\/(¬F<0/\t<12)\/(¬F<0/\¬t<12/\1536<t)\/(¬F<0/\¬t<12/\¬1536<t/\25600-t<F):=G;clear a a3 K ah an;rcases bw with L|⟨L,X⟩|⟨L,X,aS⟩|⟨L,X,aS,cl⟩
   ·exact we
   ·have a0:=fI L;exact we
   ·have a0:=fI L;have ck:=fI X;exact we
   ·have a0:=fI L;have ck:=fI X;have cG:=fI aS;exact we
  rw[b8 an]at a;obtain⟨p,c6⟩:∃p:Nat,F=(p:Int):=⟨_,b5<|DF an.1⟩
  obtain⟨B,bn⟩:∃B:Nat,t=((B+12:Nat):Int):=⟨cM<|t-12,G⟩
  subst c6;rw[bn,sA,sA,DS]at a;have b4:p+(B+12)<=25600/\B<=1524:=G;have⟨P,aV⟩:=bm<|B+12
  rw[<-aV]at bn;subst bn;have⟨R,aH⟩:=bm<|be B<|bi (p+12) b;rw[<-aH]at a;simp only at a;rw[<-V a6]at a;have L:¬(p:Int)<0:=G;have X:¬(P:Int)<12:=G;have aS:¬1536<(P:Int):=G;have cl:¬25600-(P:Int)<p:=G;have a0:=fI L;have ck:=fI X;have cG:=fI aS;have:=fI cl;have cb:=O a;clear a3 a an;have⟨Q,aP⟩:=V ah;have⟨b0,dG,dH,dI,aM⟩:=aP.1;have dl:=pu aM.1;have bs:=aM.2.1;have⟨cL,bo⟩:=bm<|p+12;have⟨aO,bU⟩:=bm<|p+P;have cH:(p:Int)+12=cL:=G;have cI:(p:Int)+P=aO:=G;have cJ:cL<=aO:=G;have cK:aO<=25600:=G;have cT:=O (show cL=p+12/\aO=p+P/\P=B+12/\p+(B+12)<=25600/\B<=1524 from⟨bo,bU,aV,b4⟩);have cf:ao ((convert 53 9<|aE (ae ⟨b0,cL,af⟩) (aO-cL)<|25600-cL).run aL M=.ok (am<|D R) M):=by
   rw[ao,aH,<-bo,show aO-cL=B by omega];exact Ke bs G
  have cc:ao (25600=cL->(convert 53 9<|aE (ae ⟨b0,0,af⟩) (aO-cL) 0).run aL M=.ok (am<|D R) M):=λk=>by
   have c4:B=0:=G;have:=Ke (p:=0) (n:=aO-cL) (cp:=0) bs G;rw[this,aH,c4,show aO-cL=0 by omega];rfl
  have c1:=O aM;have a8:=O<|cj Q aP;have bQ:M.ownsRow (J f.1) 9 1 v l (q.map λs=>am<|D s):=by have:=Q;unfold qq at this;rw[a5]at this;exact this
  have bO:=O bQ;have c8:=aP.3.4;have⟨ee,bF⟩:=bm<|j%8
  have⟨aR,dy⟩:=bm<|8*ee
  have⟨g,br⟩:=bm<|772+aR
  have⟨ar,cu⟩:=bm<|g+4
  have dB:(j:Int)%8=ee:=G;have dE:(j:Int).tmod 8=(ee:Int):=by rw[oK G];exact dB
  have:8*(ee:Int)=aR:=G;have:772+(aR:Int)=g:=G;have:(g:Int)+4=ar:=G;have:ee<8:=G;have:aR<64:=G;have:ar<=900:=G;have⟨o,b2⟩:=bm<|(j+1)%65536;have dp:((j:Int)+1)%65536=o:=G;have dF:((j:Int)+1).tmod 65536=(o:Int):=by rw[oK G];exact dp
  have cN:o<65536:=G;have a1:=V cb;rw[<-b2,show 772+8*(j%8)=g by omega,show 776+8*(j%8)=ar by omega]at a1;have dq:=O a1;clear bo bU aV b4 aH aM Q aP bs ah bF dy br cu b2 cb a1 bQ i1 cB ds dt dv dw dx;go_wp2
  all_goals
   first|rw[V cf]|rw[V cc fi]
   go_wp2_with (at_builtin;go_loud (refine sQ _ U (.tmp 88) (.tmp 103) 23 U (J f.1) 9 df (am ⟨#[]⟩) 1 16 A2 dn db dc de U bW _ l _ U ((V bO).alloc _) ⟨J M.1,0,af⟩ 1 1 [am<|D R] U U (Bm _ _ _) (by exact E5) lN G ct ?_));intro av bH b_ b7 _ c3;have bP:qq bH (J f.1) av (q++[R]):=by unfold qq;rw[dj,a5,jg];exact b_
   have aj:=abT (V a8).2 (V a8).1 b7 dk;have bR:ao (a_ aL 25 #[cz<|ae ⟨d,0,af⟩,ag ai g,ag ai 4,ag ai e] bH _):=s9 d g 4 e _ aj.1 G G;have cC:=gc.c0 aj;have cD:aA bH ⟨c,4,af⟩=ae (ag ai j):=bq.cell aj.2 4 ax;have aJ:=O<|cj bP aj;clear b_ b7 c3 bP aj a8 bO cc cf c1 dl cY cH cI cJ cK cT c8;go_wp2_with (fail);refine(V bR).m ?_;rintro dA ⟨bp,bj⟩;have bB:=gc.go (V aJ).2 bp bj;have bX:=Kf (V aJ).1 (V aJ).2.1 bj λ_ _ w=>w;have m8:ao (a_ aL 25 #[cz<|ae ⟨d,0,af⟩,ag ai ar,ag ai 4,ag ai 0] dA _):=s9 d ar 4 0 _ bp G G;have cV:=gc.c0 bB;have aU:=O<|cj bX bB;clear bB bX bp bj aJ bR cC cD;go_wp2_with (fail);refine(V m8).m ?_;rintro aw ⟨cm,bl⟩;have N:=gc.go (V aU).2 cm bl;have aX:=Kf (V aU).1 (V aU).2.1 bl λ_ _ w=>w;have:=gc.c0 N;have:aA aw ⟨c,4,af⟩=ae (ag ai j):=bq.cell N.2 4 ax;have:=bq.frozen N.2;have ab:=gc.drew<|gc.set N (c':=(Y,aa,H,o)) (bq.set N.2 4<|ag ai o);have bM:qq (bx<|a7 aw ⟨c,4,af⟩<|ag ai o) (J f.1) av (q++[R]):=lA aX λc2 bc=>dr _ _ _ _ λk=>jK N.2 aX bW (by rw[bc,k]);have cx:ao (a_ aL 25 #[cz<|ae ⟨d,0,af⟩,ag ai 770,ag ai 2,ag ai o] (bx<|a7 aw ⟨c,4,af⟩<|ag ai o) _):=s9 d 770 2 o _ ab.1 G G;have:aA (bx<|a7 aw ⟨c,4,af⟩<|ag ai o) ⟨c,0,af⟩=ae (cz<|ae ⟨d,0,af⟩)/\aA (bx<|a7 aw ⟨c,4,af⟩<|ag ai o) ⟨c,4,af⟩=ae (ag ai o):=bd (gc.c0 ab)<|bq.cell ab.2 4 ax
   have aW:=O<|cj bM ab;clear cm bl N aU m8 cV ab aX bM;go_wp2
   go_region_held (λy=>aA y ⟨c,0,af⟩=ae (cz<|ae ⟨d,0,af⟩)/\aA y ⟨c,4,af⟩=ae (ag ai o)) (first|assumption|go_keep)
    (first|(go_at_call 25;go_loud (refine(V cx).m ?_;rintro cn ⟨co,aY⟩;have aT:=gc.go (V aW).2 co aY;have cw:aA cn ⟨c,0,af⟩=ae (cz<|ae ⟨d,0,af⟩)/\aA cn ⟨c,4,af⟩=ae (ag ai o):=bd (gc.c0 aT)<|bq.cell aT.2 4 ax)))
   all_goals
    have bN:=O<|cj (Kf (V aW).1 (V aW).2.1 aY λ_ _ w=>w) aT;clear aT co aY cw;go_wp2;exact⟨⟨l+1,_,(Y,aa,H,o),q++[R],av,U,dd,G,by rw[dj,a5];rfl,⟨c9,da,by show H<65536;have:=V a6;omega,cN⟩,(V bN).1,V dq,(V bN).2⟩,dz⟩
def Gk(b:Nat->UInt8)(d:Nat)(c:UInt8):Nat->UInt8:=λa=>if a=d then c else b a
def gE(b:ap)(c:Nat->UInt8):Prop:=E b=25600/\∀a,a<25600->b.getD a 0=c a
def gE.set{b d}(c:gE b d){n}(i:n<25600)(e):gE (b.set n e) (Gk d n e):=by refine⟨by rw[o4];exact c.1,λg aO=>?_⟩;rw[Gk,iA];by_cases a:g=n;{subst a;rw[Ih<|c.1▸aO,b8 U];rfl};{rw[Pj λh=>a<|b5 h,bV a,<-iA];exact c.2 g aO}
def mK(b:Nat->UInt8)(c:Nat)(v:Int):Nat->Nat->UInt8
 |0=>b
 |a+1=>Gk (mK b c v a) (c+a)<|UInt8.ofNat<|cM<|v/2^(8*a)%256
def BY(b:Nat->UInt8)(c:Nat)(f:ap):Nat->Nat->UInt8
 |0=>b
 |a+1=>Gk (BY b c f a) (c+a)<|f.getD a 0
def qr(b:Nat->UInt8)(c:Nat):Nat->Int
 |0=>0
 |a+1=>ai.wrap<|qr b c a+ai.wrap ((bg (b<|c+a):Int)*2^(8*a))
def s_(b:Nat->UInt8)(c:Nat):Nat->Nat
 |0=>0
 |a+1=>s_ b c a+bg (b<|c+a)*2^(8*a)
section
variable {b:ap} {F:Nat->UInt8}{S:cq}
def gE.N8(d:gE b F)(c v):∀a,c+a<=25600->gE (ki b c v a) (mK F c v a)
 |0,_=>d
 |a+1,e=>(gE.N8 d c v a G).set G _
def gE.as_(d:gE b F)(c f):∀a,c+a<=25600->gE (qU b c f a) (BY F c f a)
 |0,_=>d
 |a+1,e=>(gE.as_ d c f a G).set G _
def gE.gt(d:gE b F)(c):∀a,c+a<=25600->hw b c a=qr F c a
 |0,_=>U
 |a+1,e=>by rw[hw,qr,gE.gt d c a G,d.2 (c+a) G]
def TN:UInt8.ofNat (v/2^(8*a))=UInt8.ofNat (cM<|(v:Int)/2^(8*a)%256):=by let b:cM ((v:Int)/2^(8*a)%256)=v/2^(8*a)%256:=by{rfl};rw[b];apply wK.1;simp
def gE.fo(c:gE S.1 F)(b v):∀a,b+a<=25600->gE (S.fo b v a).1 (mK F b v a)
 |0,_=>c
 |a+1,d=>by have:=(gE.fo c b v a G).set (n:=b+a) G (UInt8.ofNat<|v/2^(8*a));rw[TN]at this;rw[mK,<-TN]at*;exact this
def gE.nH(c:gE S.1 F)(b f):∀a,b+a<=25600->gE (S.nH b f a).1 (BY F b f a)
 |0,_=>c
 |a+1,d=>(gE.nH c b f a G).set G _
def Gl(F:Nat->UInt8)(b c d:Nat):Nat->Nat->UInt8
 |0=>F
 |a+1=>mK (mK (mK (mK (Gl F b c d a) (b+16*a) (c+1536*a:Nat) 8) (b+(16*a+8)) 1536 4) (b+(16*a+12)) d 2) (b+(16*a+14)) 0 2
def z_(F:Nat->UInt8)(b a:Nat):List Nat->Nat->UInt8
 |[]=>mK F (b+130) a 2
 |s::c=>z_ (mK F (b+(132+2*(a%8))) s 2) b ((a+1)%65536) c
def gE.ah8(e:gE S.1 F)(b c d)(g:b<=1000):∀a,a<=8->gE (S.rE b c d a).1 (Gl F b c d a)
 |0,_=>e
 |a+1,h=>(((((gE.ah8 e b c d g a G).fo _ _ 8 G).fo _ _ 4 G).fo _ _ 2 G).fo _ _ 2 G)
def gE.off{ba}(b:ba<=1000):∀{l:List Nat} {S:cq} {F:Nat->UInt8} {av:Nat},gE S.1 F->gE (S.off ba av l).1 (z_ F ba av l)
 |[],_,_,_,a=>a.fo _ _ 2 G
 |s::l,_,_,_,a=>gE.off b (l:=l) (a.fo _ s 2 G)
def Kj:Nat->UInt8:=z_ (z_ (Gl (Gl (λ_=>0) 0 1024 2 8) 512 13312 0 8) 512 0 []) 0 0 [0,1,2,3,4,5,6,7]
def gE.aKi(a:gE S.1 λ_=>0):gE S.AE.1 Kj:=gE.off G<|gE.off G<|gE.ah8 (gE.ah8 a 0 1024 2 G 8 G) 512 13312 0 G 8 G
def mY(S a:cq):Prop:=a.1=S.1/\a.3=[]
def mY.atb(d:mY S B)(b):mY S (B.uA b)/\B.tL b=S.1.getD b 0:=by
 let⟨e,g⟩:=d;let c:ov B.4 B.1 B.3=(S.1,[]):=by rw[e,g];rfl
 exact⟨⟨by show(ov B.4 B.1 B.3).1=_;rw[c],by show(ov B.4 B.1 B.3).2=_;rw[c]⟩,by show(ov B.4 B.1 B.3).1.getD b 0=_;rw[c]⟩
def mY.b_(e:gE S.1 F)(d:mY S B)(b):∀a,b+a<=25600->mY S (B.b_ b a).1/\(B.b_ b a).2=s_ F b a
 |0,_=>⟨d,U⟩
 |a+1,k=>by obtain⟨g,h⟩:=mY.b_ e d b a G;obtain⟨i,j⟩:=mY.atb g<|b+a;exact⟨i,by show(B.b_ b a).2+bg ((B.b_ b a).1.tL<|b+a)*_=_;rw[j,h,e.2 (b+a) G];rfl⟩
def mY.gv(e:gE S.1 F)(d:mY S B)(b):∀a,b+a<=25600->mY S (B.gv b a).1/\(B.gv b a).2=(List.range a).map λg=>F<|b+g
 |0,_=>⟨d,U⟩
 |a+1,l=>by obtain⟨h,i⟩:=mY.gv e d b a G;obtain⟨j,k⟩:=mY.atb h<|b+a;exact⟨j,by show(B.gv b a).2++[(B.gv b a).1.tL<|b+a]=_;rw[k,i,e.2 (b+a) G,yS,jg];rfl⟩
end
def p2(f:ap):Nat->UInt8:=mK (mK (mK (BY Kj 1036 f<|E f) 260 0 4) 264 54 4) 258 1 2
def acA(b:gE h Kj)(f)(i:E f=42):∃c,sh h (0,0,0,0) f 0=(c,(1,1,0,0),aD)/\gE c (p2 f):=by let:hw h 130 2=8:=(b.gt 130 2 G).trans dl;let g:hw h 132 2=0:=(b.gt 132 2 G).trans dl;let a:hw h 0 8=1024:=(b.gt 0 8 G).trans b6;refine⟨ki (ki (ki (qU h 1036 f<|E f) 260 0 4) 264 54 4) 258 1 2,?_,(((b.as_ 1036 f (E f) G).N8 260 0 4 G).N8 264 54 4 G).N8 258 1 2 G⟩;let d:sh h (0,0,0,0) f 0=xx h (0,0,0,0) f (cM<|hw h 132 2) (hw h (16*cM (hw h 132 2)) 8) (ai.wrap<|12+E f+0):=by{grind[sh]};rw[d,g,show(0:Int).toNat=0 from U,In,a,i];rw[xx,b8 bW];let e:ai.wrap (12+((42:Nat):Int)+0)=54:=bW;rw[e,show(1024:Int).toNat=1024 from U];grind[OE]
def Aa(f a:ap):Nat->UInt8:=z_ (mK (BY (z_ (p2 f) 0 8 [0]) 13312 (kJ++a) 54) 520 54 4) 512 0 [0]
def acB{X:cw}{c a b}(h:X.10=ak)(g:X.1.b_ 770 2=a)(e:lT a.2 X.5=0)(j:a.1.b_ 258 2=b)(k:lT b.2 X.3=1):X.tN c=cw.pY c {X with s:=b.1,b:=ak} 1:=by let i:X.lC = {X with s:=a.1,b:=ak}:=by{rw[cw.lC,g,e,b8<|dJ _,lD];rfl};let d:({X with s:=a.1,b:=ak}:cw).10=ak:=U;rw[cw.tN,h,bV bW,i,d,bV bW];grind[cw.IA]
def acC{S H}(c:gE S.1<|p2 h)(V:S.3=[])(T:(List.range 42).map (λW=>p2 h<|1036+W)=h)(R:E o=42)(Q:H h=o)(M:s_ (p2 h) 770 2=0)(N:s_ (p2 h) 258 2=1)(O:s_ (p2 h) 260 4=0)(P:s_ (p2 h) 264 4=54):∃p:cq,cw.tN H ⟨S,8,0,0,0,ms,0,0,0,ak⟩=⟨p,9,1,1,0,ms.set 0 aD,1,1,0,ak⟩/\gE p.1 (Aa h o):=by
 let⟨w,e⟩:=mY.b_ c (⟨U,V⟩:mY S S) 770 2 G;let⟨ab,F⟩:=du<|S.b_ 770 2;rw[F]at w e;let⟨x,g⟩:=mY.b_ c w 258 2 G;let⟨k,I⟩:=du<|ab.1.b_ 258 2;rw[I]at x g;let⟨y,a⟩:=mY.b_ c x 260 4 G;let⟨C,K⟩:=du<|k.1.b_ 260 4;rw[K]at y a;let⟨z,i⟩:=mY.b_ c y 264 4 G;let⟨D,ad⟩:=du<|C.1.b_ 264 4;rw[ad]at z i;let⟨A,q⟩:=mY.gv c z 1036 42 G;let⟨ac,j⟩:=du<|D.1.gv 1036 42;rw[j,T]at q;rw[j]at A;rw[M]at e;rw[N]at g;rw[O]at a;rw[P]at i;rw[acB (X:=⟨S,8,0,0,0,ms,0,0,0,ak⟩) U F (by rw[e];show lT 0 0=0;decide) I (by rw[g];show lT 1 0=1;decide)];let⟨Y,r⟩:=bm (⟨k.1,8,0,0,0,ms,0,0,0,ak⟩:cw);let Z:Y.lB=C:=r▸K
 let aa:Y.gT=D:=by grind[cw.gT]
 have u:=Tp (H:=H) (Y:=Y) (m:=0) (by grind);rw[Z,aa,a,i,In,h8,show 1024+12=1036 from U,show 54-12=42 from U,j,q]at u;rw[show({({s:=S,ra:=8,eH:=0,sa:=0,eW:=0,o:=ms,n:=0,t:=0,d:=0,b:=ak}:cw)with s:=k.1,b:=ak}:cw)=Y from b5 r,u,Km];rw[cw.ans,Q,bV λah=>by grind];let:ms.findIdx? (· == ak)=ae 0:=bW;refine⟨(((ac.1.off 0 8 [0]).nH 13312 (kJ++o)<|12+E o).fo 520 (12+E o) 4).off 512 0 [0],?_,?_⟩;{grind[cw.snd]};{
 let L:=A.1▸c
 have B:=gE.off G ((((gE.off (ba:=0) G (l:=[0]) (av:=8) L).nH 13312 (kJ++o) (12+E o) G).fo 520 (12+E o) 4 G)) (ba:=512) (l:=[0]) (av:=0);rw[R]at B⊢;exact B}
def acD{b}(c:gE h b)(k:qr b 642 2=1)(l:qr b 644 2=0)(n:qr b 512 8=13312)(o:qr b 520 4=54)(p:qr (mK (mK (mK b 772 0 4) 776 0 4) 770 1 2) 642 2=1):∃e s,pb 8 h (1,1,0,0) []=(e,(1,1,1,1),[s])/\E s=42:=by let:=(c.gt 642 2 G).trans k;let a:=(c.gt 644 2 G).trans l;let i:=(c.gt 512 8 G).trans n;let j:=(c.gt 520 4 G).trans o;let q:=((c.N8 772 0 4 G).N8 776 0 4 G).N8 770 1 2 G;let:=(q.gt 642 2 G).trans p;let g:pb 8 h (1,1,0,0) []=z8 (pb 7) h (1,1,0,0) [] (cM<|hw h 644 2) (hw h (512+16*cM (hw h 644 2)) 8) (hw h (512+16*cM (hw h 644 2)+8) 4):=by{rw[pb,b8 ⟨by grind,by grind⟩];rfl};rw[g,a,show(0:Int).toNat=0 from U,In,h8,i,show 512+8=520 from U,j];rw[z8,b8 bW];refine⟨ki (ki (ki h 772 0 4) 776 0 4) 770 1 2,be 42<|bi 13324 h,?_,by rw[iv,il,c.1];omega⟩;let t:∀d,pb 7 (ki (ki (ki h 772 0 4) 776 0 4) 770 1 2) (1,1,1,1) d=(ki (ki (ki h 772 0 4) 776 0 4) 770 1 2,(1,1,1,1),d):=λd=>by{rw[pb,bV λr=>r.1 G]};grind
def acE{c d}(h:aA f c=ae (aG ak))(o:aA f d=ae (bv a))(p:aA f (N a 8)=ae e)(n:gd f (N a 8)=ak):CallsD aL 122 #[cz<|ae c,cz<|ae d] .returning f λg j k=>g=bh (bZ #[])/\j=.returning/\k=a7 f ⟨a,8,af⟩ (aG aD):=by refine callsD_of_wpS func122 U λv l i=>?_;apply wpS_seq;apply wpS_region;simp[wpOpsS,go_sem,recoverD,i,h,ntmps122,Exit.thenS];refine wpS_cond (t:=aD) (by simp[Act.eval,Array.replicate]) ?_;simp only[mM];refine wpS_of_wp ?_;let:Array.replicate 10 e8=#[e8,e8,e8,e8,e8,e8,e8,e8,e8,e8]:=U;go_wp2;cases v;simp_all [bodyPostS,c_,results122]
def TO(b:aQ)(d:Nat)(c:Bool)(a:aQ):aQ:=if c then a7 a ⟨J b.1+1,0,af⟩ (aG aD)else(a7 a ⟨J b.1+1,0,af⟩<|aG ak).setCell ⟨d,8,af⟩ (aG aD)
def acF(l:Bool->aQ->Prop)(B:a<J f.1)(i:a_ aL 121 #[bv a] (rx f a) λe b=>∃d,e=bh (aG d)/\l d b/\bq b (J f.1+1) [aG ak] 4/\bq b (J f.1) [bv a] 54/\∃v,aA b (N a 8)=ae v/\gd b (N a 8)=ak):a_ aL 63 #[bv a,ez (.func 121) #[bv a] #[]] f λe z=>e=bh (bZ #[])/\∃d b,l d b/\bq b (J f.1+1) [aG ak] 4/\z=TO f a d b:=by
 let:=ab5;let:=bq.cell (zp f a) 0 ax;let:=bq.frozen (zp f a) 0;replace i:=O i;go_enter_defers func63,ntmps63;go_wp21;refine i.mono ?_;rintro e b ⟨d,rfl,u,j,w,v,x,p⟩;let k:=O u;let:bY b (J f.1+1) 0 (aG ak):=bq.cell j 0 ax;let:=bq.frozen j 0;let g:=O j;let o:=O w;let n:=O<|cj x p;go_wp2;refine leaves_cons (f:=122) (args:=#[bv<|J f.1+1,bv<|J f.1]) ax dl ?_;cases d with
 |true=>{let h:=bq.cell (bq.set g 0<|aG aD) 0 ax;refine(Tv h).mono ?_;rintro e y A ⟨rfl,rfl,rfl⟩;simp[Leaves,settle,c_,results63,go_sem];exact bE ⟨b,k,g,U⟩}
 |false=>{let h:=bq.cell (bq.set g 0<|aG ak) 0 ax;let q:bY (a7 b ⟨J f.1+1,0,af⟩<|aG ak) (J f.1) 0 (bv a):=(dR<|dr _ _ _ _ ax).trans<|bq.cell o 0 ax;let r:bY (a7 b ⟨J f.1+1,0,af⟩<|aG ak) a 8 v:=(dR<|dr _ _ _ _<|by grind).trans n.1;let t:gd (a7 b ⟨J f.1+1,0,af⟩<|aG ak) (N a 8)=ak:=by{let:=n.2;simp_all};refine(acE h q r t).mono ?_;rintro e y A ⟨rfl,rfl,rfl⟩;simp[Leaves,settle,c_,results63,go_sem];exact bJ ⟨b,k,g,U⟩}
def acG{s d}(c:oi f a n g v o h L s d aD):a_ aL 60 #[bv a] f λe l=>e=bh (M 4)/\l=f:=by let:bY f a 8 (aG aD):=bq.cell c 8 ax;go_wp2;go_ret;simp
def acH(a):({({a with b:=ak}:cw)with b:=a.10}:cw)=a:=dl
def Mw(h:φ:=by rw[uE]at d8;replace uE:=O uE;go_wp2;go_ret;exact⟨by rw[eT,uE];rfl,bj.1,bj.2⟩):φ:=h
def TP{h p e l}(i:gy f a g n v h o p l L)(an:L<=600000000000)(ah:∀c,E (e c)<=1524)(Z:∀(c:ap) (r:aQ),E c<=1524->cG (fE a n v) h f r->a_ aL 18 #[bv g,ce #[aS o,aS p],aS c] r (cI (aS<|e c) r)):a_ aL 60 #[bv a] f λu S=>u=bh (M<|if(l.tN e).10 then 4 else 0)/\gy S a g n v h o p (l.tN e) (L+30100)/\cG (fE a n v) h f S:=by
 cases A:l.10 with
 |true=>{
 let au:l.tN e=l:=by rw[cw.tN,A,b8 U]
 have ad:=i.4;rw[A]at ad;refine(acG ad).m ?_;rintro S rfl;rw[au,A];exact⟨U,tZ i G,qJ _ _ _⟩}
 |false=>
 let⟨C,I⟩:=du<|l.tN e;let⟨aw,aC,aF,R⟩:=xN i;let⟨ay,az,aB,al⟩:=B9 i;let D:=Tw f a;have H:∀{z},J f.1<=z->¬fE a n v z:=λaO i=>by omega
 have w:=uY i D;have T:=O<|acF (λb k=>b=(!C.10)/\gy k a g n v h o p {C with b:=ak} (L+30100)/\cG (fE a n v) h f k) aw ((ab1 w A an ah λc r aq j=>Z c r aq<|dm (n5 D R) j).mono<|by{rintro u k ⟨rfl,x,j⟩;rw[I]at x⊢;exact⟨_,U,⟨U,x,dm (n5 D R) j⟩,gX j w.1 (zp f a) bW<|H G,gX j w.1 ((bq.fF f _ _).alloc _) bW<|H bo,_,bq.cell x.4 8 ax,bq.frozen x.4 8⟩});rw[I];have mO:aA f (N a 8)=ae (aG ak):=by have:=bq.cell i.4 8 ax;simp_all
 have:∀(X:Fn) (first W:Array bk) (f:aQ),(Instr.makeFunc X first W).run aL f=.ok (ez X first W) f:=λ_ _ _ _=>U;let⟨d,P⟩:=bm (if C.10 then 4 else 0:Int);rw[<-P];have eT:=O P;clear i Z w I P;go_in;go_wp2_with fail;refine T.m ?_;rintro aH ⟨b,k,⟨aj,aa,j⟩,ac,rfl⟩;have Q:∀d:bk,gy (a7 k ⟨J f.1+1,0,af⟩ d) a g n v h o p {C with b:=ak} (L+30100):=λd=>Ky aa ac bW (H G) λz _ ar=>dr _ _ _ _ ar;have F:=λd=>xL (C:=a7 k ⟨J f.1+1,0,af⟩ d) j R U U U ax (λz aO=>dr _ _ _ _<|by grind);have V:ao (∃t,t=TO f a b k/\gy t a g n v h o p C (L+30100)/\cG (fE a n v) h f t):=by{
 cases b with
 |true=>{have K:C.10=ak:=by{grind};have:=Q<|aG aD;rw[Kl K]at this;exact⟨_,U,this,F _⟩}
 |false=>{have K:C.10=aD:=by{grind};have y:=Q<|aG ak;let av:=y.6;have:=Tu y (jx (lI _ _) 8<|aG aD) (bq.set y.4 8<|aG aD) av.2;refine⟨_,U,?_,dm (F<|aG ak)<|tf (L:=fE a n v) (jx (lI _ _) 8<|aG aD) (bJ U) al (ir y.1)⟩;have u:=acH C;rw[K]at u;rw[<-u];exact this}};let⟨t,ab,B,Y⟩:=V;rw[<-ab];have d8:aA t (N a 8)=ae (aG C.10):=bq.cell B.4 8 ax;have bj:=O<|cj B Y;clear V T aa ac Q F ab B Y j aj;cases uE:C.10 with
 |true=>{exact Mw}
 |false=>{exact Mw}
structure si where
 xb:Nat
 zb:Nat
 rb:Nat
 sb:Nat
 mb:Nat
 ca:Nat
 yb:Nat
 zd:Nat
 nb:Nat
 cb:Nat
 aB:ap
 ip:ap
abbrev si.la(a:si)(b:Nat):Prop:=fE a.1 a.3 a.4 b\/b=a.6
abbrev si.lb(a:si)(b:Nat):Prop:=b=a.7\/b=a.10
structure pc(q w:World)(p LA LB:Nat->Prop)(I:si)(X Y:cw)(C:Nat):Prop where
 x:gy w I.xb I.zb I.rb I.sb I.mb I.aB I.ip X C
 y:hi w I.yb I.zd I.nb I.aB I.ip Y C
 la:∀i,LA i->i<w.heap.size
 lb:∀i,LB i->i<w.heap.size
 sa:∀i,fE I.xb I.rb I.sb i->LA i
 sb:LB I.yb
 N9:∀i,eD w I.mb i\/LA i->eD w I.nb i\/LB i->False
 sO:∀i,p i->i<w.heap.size/\¬(eD w I.mb i\/LA i)/\¬(eD w I.nb i\/LB i)
 fr:co p q w
structure mn(q w:World)(p:Nat->Prop)(I:si)(X Y:cw)(c d:Nat×Nat×Nat×Nat)(C:Nat):Prop extends pc q w p I.la I.lb I X Y C where
 a:jr w I.ca I.mb c
 b:jr w I.cb I.nb d
def Kq{c q}(l:gy f a g n v L o h q c)(w:cZ m L B)(e:cG A L f m)(d:∀p,fE a n v p->¬A p)(u:B.Ok c):gy m a g n v L o h {q with s:=B} c:=
 ⟨w,kd l.2 e l.1 bW<|d _<|bE<|bJ U,kd l.3 e l.1 bW<|d _<|bE<|bE U,gX e l.1 l.4 bW<|d _<|bJ U,l.5,u,l.6.2⟩
section
variable {q w w':World} {p:Nat->Prop} {I:si} {X Y X' Y':cw} {c d c' d':Nat×Nat×Nat×Nat} {C C':Nat}{S:cq}
def TQ{c LB}(b:pc q w p c LB I X Y C)(aO:eD w I.9 a\/LB a):a<J w.1:=aO.elim (qd b.y.1)<|b.lb a
def TR{LB}(c:pc q w p A LB I X Y C)(aO:eD w I.5 a\/A a):a<J w.1:=aO.elim (qd c.x.1)<|c.la a
def KZ{LB}(b:pc q w p A LB I X Y C)(t:gy w' I.1 I.2 I.3 I.4 I.5 I.11 I.12 X' C')(d:cG A I.5 w w')(o:C<=C'):pc q w' p A LB I X' Y C'/\∀a,eD w I.9 a\/LB a->w'.1[a]? = w.1[a]?:=by
 let h:=λa aO=>d.5 a (TQ b aO) (λi=>b.N9 a (bE i) aO) λc=>b.N9 a (bJ c) aO;let j:∀a,eD w' I.9 a\/LB a->eD w I.9 a\/LB a:=λa aO=>aO.imp_left λc=>mH (h I.9<|bJ<|bJ U) c;let l:∀a,a<J w.1->eD w' I.5 a\/A a->eD w I.5 a\/A a:=λa aO r=>r.imp_left λc=>(d.6 a c).elim id λu=>by omega
 exact⟨⟨t,o9 ⟨zA b.y.1 λa c=>h a<|bJ c,(h I.7<|bE b.sb).trans b.y.2,b.y.3,b.y.4⟩ o,λa aO=>eA (b.la a aO) d.4,λa aO=>eA (b.lb a aO) d.4,b.sa,b.sb,λa n k=>b.N9 a (l a (TQ b<|j a k) n)<|j a k,λa e=>⟨eA (b.sO a e).1 d.4,λc=>(b.sO a e).2.1<|l a (b.sO a e).1 c,λc=>(b.sO a e).2.2<|j a c⟩,b.fr.trans ⟨d.1,d.2,d.3,d.4,λa aO e=>d.5 a aO (λi=>(b.sO a e).2.1<|bE i) λc=>(b.sO a e).2.1<|bJ c⟩⟩,h⟩
def TS{LB}(b:pc q w p A LB I X Y C)(t:hi w' I.7 I.8 I.9 I.11 I.12 Y' C')(d:cG LB I.9 w w')(o:C<=C'):pc q w' p A LB I X Y' C'/\∀a,eD w I.5 a\/A a->w'.1[a]? = w.1[a]?:=by
 let i:=λa aO=>d.5 a (TR b aO) (λh=>b.N9 a aO<|bE h) λc=>b.N9 a aO<|bJ c;let j:∀a,eD w' I.5 a\/A a->eD w I.5 a\/A a:=λa aO=>aO.imp_left λc=>mH (i I.5<|bJ<|bJ U) c;let l:∀a,a<J w.1->eD w' I.9 a\/LB a->eD w I.9 a\/LB a:=λa aO r=>r.imp_left λc=>(d.6 a c).elim id λu=>by omega
 exact⟨⟨tZ (zn b.x λa aO=>i a<|aO.elim (λh=>bE<|b.sa a h) bJ) o,t,λa aO=>eA (b.la a aO) d.4,λa aO=>eA (b.lb a aO) d.4,b.sa,b.sb,λa k n=>b.N9 a (j a k)<|l a (TR b<|j a k) n,λa e=>⟨eA (b.sO a e).1 d.4,λc=>(b.sO a e).2.1<|j a c,λc=>(b.sO a e).2.2<|l a (b.sO a e).1 c⟩,b.fr.trans ⟨d.1,d.2,d.3,d.4,λa aO e=>d.5 a aO (λh=>(b.sO a e).2.2<|bE h) λc=>(b.sO a e).2.2<|bJ c⟩⟩,i⟩
def TT{LB}(a:pc q w p A LB I X Y C)(c:a6 w w'):pc q w' p A LB I X Y C:=(KZ a (uY a.x c) (n5 c<|ir a.x.1) bo).1
def K0{LB}(a:pc q w p A LB I X Y C)(e:cZ w' I.5 S)(c:cG bH I.5 w w')(d:S.Ok C):pc q w' p A LB I {X with s:=S} Y C:=(KZ a (Kq a.x e c (λ_ _ a=>a) d) (h7 c λ_ a=>a.elim) bo).1
def K1{LB}(a:pc q w p A LB I X Y C)(e:cZ w' I.9 S)(c:cG bH I.9 w w')(d:S.Ok C):pc q w' p A LB I X {Y with s:=S} C:=(TS (Y':={Y with s:=S}) a ⟨e,gX c a.y.1 a.y.2 bW id,a.y.3,d,a.y.4.2⟩ (h7 c λ_ a=>a.elim) bo).1
def acI{LB}(b:pc q w p A LB I X Y C)(n:∀l,A l->fE I.1 I.3 I.4 l)(t:∀l,LB l->l=I.7)(j:a6 w w'){cb}(o:jr w' a I.5 c)(r:jr w' cb I.9 d)(B:J w.1<=a)(D:J w.1<=cb)(ca:a≠cb):mn q w' p {I with ca:=a,cb:=cb} X Y c d C:=by let h:=TT b j;let u:∀l,eD w' I.5 l\/(fE I.1 I.3 I.4 l\/l=a)->l<J w.1->eD w I.5 l\/A l:=λl aO y=>by{rcases aO with e|g|rfl;{exact .inl<|mH (j.block I.mb<|ir b.x.mem) e};{exact .inr<|b.sa l g};{omega}};let x:∀l,eD w' I.nb l\/(l=I.7\/l=cb)->l<J w.1->eD w I.9 l\/LB l:=λl aO y=>by{rcases aO with e|rfl|rfl;{exact .inl<|mH (j.block I.nb<|ir b.y.mem) e};{exact .inr b.sb};{omega}};let z:∀l,eD w' I.mb l\/(fE I.xb I.rb I.sb l\/l=a)->l<J w.1\/l=a:=λl aO=>by{rcases aO with e|g|rfl;{exact .inl<|qd b.x.mem<|mH (j.block I.mb<|ir b.x.mem) e};{exact .inl<|b.la l<|b.sa l g};omega};let F:∀l,eD w' I.nb l\/(l=I.7\/l=cb)->l<J w.1\/l=cb:=λl aO=>by{rcases aO with e|rfl|rfl;{exact .inl<|qd b.y.mem<|mH (j.block I.nb<|ir b.y.mem) e};{exact .inl<|b.lb _ b.sb};omega};refine⟨⟨h.x,h.y,λl aO=>aO.elim (λg=>h.la l<|h.sa l g) λi=>i▸bq.lt o,λl aO=>aO.elim (λi=>i▸h.lb _ h.sb) λi=>i▸bq.lt r,λl g=>bJ g,bJ U,λl n t=>?_,λl k=>⟨(h.sO l k).1,λe=>?_,λe=>?_⟩,h.fr⟩,o,r⟩;{rcases z l n with g|rfl;{exact b.N9 l (u l n g)<|x l t g};grind};{exact(b.sO l k).2.1<|u l e (b.sO l k).1};{exact(b.sO l k).2.2<|x l e (b.sO l k).1}
def K2(a:mn q w p I X Y c d C)(h:gy w' I.1 I.2 I.3 I.4 I.5 I.11 I.12 X' C')(g:jr w' I.6 I.5 c')(e:cG I.la I.5 w w')(b:C<=C'):mn q w' p I X' Y c' d C':=by let⟨i,j⟩:=KZ a.1 h e b;exact⟨i,g,(j I.10<|bE<|bE U).trans a.3⟩
def TU(a:mn q w p I X Y c d C)(h:hi w' I.7 I.8 I.9 I.11 I.12 Y' C')(g:jr w' I.10 I.9 d')(e:cG I.lb I.9 w w')(b:C<=C'):mn q w' p I X Y' c d' C':=by let⟨i,j⟩:=TS a.1 h e b;exact⟨i,(j I.6<|bE<|bE U).trans a.2,g⟩
def K3(a:mn q w p I X Y c d C)(j:cZ w' I.5 S)(i:jr w' I.6 I.5 c')(e:cG (λg=>g=I.6) I.5 w w')(h:S.Ok C):mn q w' p I {X with s:=S} Y c' d C:=
 K2 a (Kq a.x j e (λg aO b=>by
  subst b;rcases aO with b|b|b
  ·exact h6 a.2 a.x.4 bW b
  ·exact h6 a.2 a.x.2 bW b
  ·exact h6 a.2 a.x.3 bW b) h) i (h7 e λ_ a=>bE a) bo
def K4(a:mn q w p I X Y c d C)(i:cZ w' I.9 S)(h:jr w' I.10 I.9 d')(b:cG (λj=>j=I.10) I.9 w w')(g:S.Ok C):mn q w' p I X {Y with s:=S} c d' C:=
 TU a ⟨i,gX b a.y.1 a.y.2 bW λe=>h6 a.3 a.y.2 bW<|b5 e,a.y.3,g,a.y.4.2⟩ h (h7 b λ_ a=>bE a) bo
def TV(a:mn q w p I X Y c d C)(g:cZ w' I.5 S)(b:cG bH I.5 w w')(e:S.Ok C):mn q w' p I {X with s:=S} Y c d C:=K3 a g (gX b a.x.1 a.2 bW id) (h7 b λ_ a=>a.elim) e
def TW(a:mn q w p I X Y c d C)(g:cZ w' I.9 S)(b:cG bH I.9 w w')(e:S.Ok C):mn q w' p I X {Y with s:=S} c d C:=K4 a g (gX b a.y.1 a.3 bW id) (h7 b λ_ a=>a.elim) e
def Gm(a:mn q w p I X Y c d C)(b:a6 w w'):mn q w' p I X Y c d C:=
 K2 a (uY a.x b) ((b.5 _<|bq.lt a.2).trans a.2) (n5 b<|ir a.x.1) bo
def acJ(b:mn q w p I X Y c d C)(a:cG (fE I.1 I.3 I.4) I.5 w w'):co p q w':=
 b.fr.trans ⟨a.1,a.2,a.3,a.4,λe aO g=>a.5 e aO (λh=>(b.sO e g).2.1<|bE<|bJ h) λi=>(b.sO e g).2.1<|bJ i⟩
def acK(e:mn q w p I X Y c d C)(a:cG (λb=>b=I.7) I.9 w w'):co p q w':=
 e.fr.trans ⟨a.1,a.2,a.3,a.4,λb aO g=>a.5 b aO (λh=>(e.sO b g).2.2<|bE<|bJ h) λi=>(e.sO b g).2.2<|bJ i⟩
end
structure K5(w:World)(mb bb:Nat)(vl vm:Option Addr)(cl cm:Nat)(S:cq):Prop where
 r:m_ w bb S.b
 c0:w.cell? (N mb 0)=some (bL bb 0 25600 25600)
 c1:w.cell? (N mb 1)=some (.slice vl S.l.length cl)
 c2:w.cell? (N mb 2)=some (.bool false)
 c5:w.cell? (N mb 5)=some (.slice vm S.m.length cm)
 c6:w.cell? (N mb 6)=some (.bool S.e)
 c9:w.cell? (N mb 9)=some (M S.s)
 l:∀k x,S.l[k]? = some x->∃g,vl=some (N g 0)/\w.cell? (N g k)=some (M x)
 m:∀k x,S.m[k]? = some x->∃g,vm=some (N g 0)/\w.cell? (N g (k*2))=some (M x.1)/\w.cell? (N g (k*2+1))=some (M x.2)
def TY:∀(b:List<|Int×Int) (c:Nat) (a:Int×Int),b[c]? = ae a->(b.flatMap λa=>[ag ai a.1,ag ai a.2])[c*2]? = ae (M a.1)/\(b.flatMap λa=>[ag ai a.1,ag ai a.2])[c*2+1]? = ae (M a.2)
 |[],_,_,d=>by grind
 |e::b,0,a,d=>by grind
 |e::b,c+1,a,d=>by have g:=TY b c a (by grind);grind
def Ab(w:cZ f a B):∃i r t c k,K5 f a i r t c k B:=by let⟨i,r,t,I,b,C,o,p,_⟩:=w;obtain⟨d,c,rfl⟩:∃d c,r=aE d (E B.2) c:=by{obtain⟨_,⟨rfl,n⟩|⟨g,j,l,rfl,_⟩⟩:=o;{grind};simp};obtain⟨A,k,rfl⟩:∃d c,t=aE d (E B.5) c:=by{obtain⟨_,⟨rfl,n⟩|⟨g,j,l,rfl,_⟩⟩:=p;{grind};simp};refine⟨i,d,A,c,k,C,pu b,FX b,aaf b,zz b,SF b,SI b,λq y h=>?_,λq y h=>?_⟩;{let D:=(iW.1 h).1;let z:=o;obtain⟨_,⟨e,n⟩|⟨g,j,l,e,_⟩⟩:=o;{omega};{obtain⟨rfl,-,rfl⟩:=js e;refine⟨g,U,?_⟩;rw[lG z q G,sG,h];rfl}};{let D:=(iW.1 h).1;let u:=p;obtain⟨_,⟨e,n⟩|⟨g,j,l,e,_⟩⟩:=p;{omega};{obtain⟨rfl,-,rfl⟩:=js e;let⟨F,H⟩:=TY B.5 q y h;exact⟨g,U,by rw[lG u _ G];exact F,by rw[lG u _ G];exact H⟩}}
def Gp{w}(c:m_ w a h):(convert 53 9<|bL a 0 25600 25600).run aL w=.ok (aS h) w:=by have:=Ke (p:=0) (n:=25600) (cp:=25600) c G;rw[pW,<-c.1,jc,c.1]at this;omega
def K6(b a):a_ aL 24 #[M b] a λc d=>c=bh (M b)/\d=a:=by go_wp2;go_ret;simp
abbrev lY(a:cq)(b:Nat):Prop:=a.6=ak/\a.qH b=ak
def K7(b:B.6=ak)(c d):lY (B.uA c) d:=⟨b,by unfold cq.qH;split<;>rfl⟩
def xO(c:B.6=ak)(d e):∀a,lY (B.b_ d<|a+1).1 e
 |0=>K7 c _ _
 |a+1=>K7 (xO c d e a).1 _ _
def K8(c:lY B a)(d):∀e,lY (B.gv d e).1 a
 |0=>c
 |e+1=>K7 (K8 c d e).1 _ _
def T0{e}(b:lY B g)(i:ng a=g)(aO:nU a=ak):lY (B.st a e) g:=by let⟨h,d⟩:=b;subst i;unfold cq.st cq.qH at*;simp only[h,aO,AT,uN,uM,Ix,wy];exact bd d d
def T1{n r c}(b:B.6=ak)(aO:nU n=aD)(h:r<2)(g:B.qH r=ak)(e:ng n≠r)(d:ng n<2):lY (B.st n c) r:=by unfold cq.st lY cq.qH at*;grind
def Gq{p v}(g:lY B a):∀d,(∀b,b<d->ng (p+b)=a/\nU (p+b)=ak)->lY (B.fo p v d) a
 |0,_=>g
 |d+1,c=>T0 (Gq g d λb h=>c b G) (c d G).1 (c d G).2
def T3{p l}(g:lY B a):∀d,(∀b,b<d->ng (p+b)=a/\nU (p+b)=ak)->lY (B.nH p l d) a
 |0,_=>g
 |d+1,c=>T0 (T3 g d λb h=>c b G) (c d G).1 (c d G).2
def acL(b:cq)(d c)(aO:nU a=ak):(b.st a d).qH c=b.qH c:=by grind[cq.st,cq.qH]
def T4(d:cq)(c):∀a,(∀b,b<a->nU (g+b)=ak)->(d.fo g v a).qH c=d.qH c
 |0,_=>U
 |a+1,e=>(acL _ _ c<|e a G).trans<|T4 d c a λb h=>e b G
def BZ(b:a≠130/\a≠131/\a≠642/\a≠643):nU a=ak:=by grind[nU,ng]
def K9(b:(512<=a/\a<1024)\/13312<=a):ng a=1:=by grind[ng]
def acM{a i}(e:lY B 0)(g:lY B 1):lY (B.off 0 a [i]) 1:=by rw[cq.off,cq.off,fM,fM];let k:lY (B.fo (132+2*(a%8)) i 2) 0:=Gq e 2 λj h=>⟨(by grind[ng]),BZ G⟩;let l:(B.fo (132+2*(a%8)) i 2).qH 1=ak:=(T4 B 1 2 λj h=>BZ G).trans g.2;show lY (((B.fo (132+2*(a%8)) i 2).st 130 _).st 131 _) 1;let d:=T1 (n:=130) (r:=1) (c:=UInt8.ofNat<|(a+1)%65536/2^(8*0)) k.1 bW G l bW bW;exact T1 d.1 bW G d.2 bW bW
def acN{X:cw}(f:lY X.1 1)(i:E X.6=8)(o:E h<=1524):(X.snd h).1.6=ak:=by
 unfold cw.snd;cases aO:X.6.findIdx? (· == ak)with
 |none=>grind
 |some a=>{
 have q:a<8:=by rw[<-i];exact(If.1 aO).1
 show(((X.1.nH (13312+1536*a) (kJ++h)<|12+E h).fo (512+(16*a+8)) (12+E h) 4).off 512 X.4 [a]).6=ak;rw[cq.off,cq.off];have j:=T3 (p:=13312+1536*a) (l:=kJ++h) f (12+E h) λg aO=>bd (K9 G)<|BZ G;have k:=Gq (p:=512+(16*a+8)) (v:=12+E h) j 4 λg aO=>bd (K9 G)<|BZ G;have n:=Gq (p:=512+(132+2*(X.4%8))) (v:=a) k 2 λg aO=>bd (K9 G)<|BZ G;generalize ((X.s.nH (13312+1536*a) (kJ++h)<|12+h.length).fo (512+(16*a+8)) (12+h.length) 4).fo (512+(132+2*(X.sa%8))) a 2=b at*;let e:∀(b:cq) (c:Nat) (d:UInt8),nU c=aD->b.6=ak->(b.st c d).6=ak:=λb c d r t=>by{grind[cq.st]};exact e _ _ _ bW<|e _ _ _ bW n.1}
def acj{X:cw}(a:E X.6=8):E (X.snd h).6=8:=by grind[cw.snd]
def ack{c:cw}{a b}(d:∀g,lY b.1 g):(c.vJ a b).1.1.6=ak/\((c.vJ a b).2≠af->lY (c.vJ a b).1.1 1):=by unfold cw.vJ;split;{let:=acM (a:=c.2) (i:=a.2) (K8 (d 0) (1024+1536*a.2+12)<|b.2-12) (K8 (d 1) _ _);grind};{exact⟨(d 0).1,λe=>absurd U e⟩}
def acl{a:cw}(c:a.1.6=ak):a.kM.1.1.6=ak/\(a.kM.2≠af->lY a.kM.1.1 1):=by refine ack λb=>?_;let:=(xO c (260+8*(a.3%8)) b 3).1;exact xO this _ b 3
def acm{b}(d:∀h,E (b h)<=1524){a:cw}(e:lY a.1 1)(c:E a.6=8):(a.ans b h).1.6=ak/\E (a.ans b h).6=8:=by unfold cw.ans;split;{grind};{exact⟨acN (X:={a with n:=a.7+1}) e c (d h),acj (X:={a with n:=a.7+1}) c⟩}
def acn{b c}(i:∀e,e.1.6=ak->E e.6=8->(b e).1.1.6=ak/\∀f,(b e).2=ae f->(c (b e).1 f).1.6=ak/\E (c (b e).1 f).6=8):∀e:cw,e.1.6=ak->E e.6=8->(wv b c a e).1.6=ak:=by
 induction a with
 |zero=>exact λe d _=>d
 |succ a l=>{
 intro e d j;let⟨h,k⟩:=i e d j;cases g:(b e).2 with
 |none=>rw[Ss g];exact h
 |some f=>rw[Su g];grind}
def aco{c}(g:∀f,E (c f)<=1524){h}(b:h.1.6=ak)(d:E h.6=8):(cw.pY c h a).1.6=ak:=by refine acn (λh b d=>?_) h b d;let e:=acl b;let⟨_,_,j,_⟩:=To h;refine bd e.1<|λf i=>acm g (e.2<|by grind) (by grind)
def T5:∀c (a:cq) (g:Nat) (d:List Bool),a.6=ak->E d=8->(lD a g d c).1.6=ak/\E (lD a g d c).2.2.1=8
 |0,_,_,_,b,e=>⟨b,e⟩
 |c+1,a,g,d,b,e=>by rw[lD];split;{exact T5 c _ _ _ (xO b _ 0 3).1<|by grind};{exact⟨(xO b _ 0 3).1,e⟩}
def acp{c}{a:cw}(g:∀f,E (c f)<=1524)(d:a.1.6=ak)(h:E a.6=8):(a.tN c).1.6=ak:=by unfold cw.tN;split;{exact d};have e:a.lC.1.6=ak/\E a.lC.6=8:=by{have b:=(xO d 770 0 1).1;unfold cw.lC;split;{exact T5 _ _ _ _ b h};grind};split;{grind};generalize a.lC=i at*;let b:=(xO e.1 258 0 1).1;unfold cw.IA;split;{exact aco g b e.2};omega
def T6(h:aQ)(g:Nat->Prop)(d:si)(b:Nat×Nat×Nat×Nat)(c:Nat)(e:kP)(i:aQ):Prop:=e=bh (aG aD)/\∃a:cw,a.1.6=ak/\mn h i g d a a b b c
structure x_(q:World)(p:Nat->Prop)(I:si)(Z:cw)(c:Nat×Nat×Nat×Nat)(C bb:Nat)(vl vm:Option Addr)(cl cm bb':Nat)(Fi pV:Option Addr)(cl' Fj:Nat)(W:World):Prop where
 s:mn q W p I Z Z c c C
 a:K5 W I.mb bb vl vm cl cm Z.s
 b:K5 W I.nb bb' Fi pV cl' Fj Z.s
def B0{e h k j d u w c r}(o:x_ f A e h k a g u w v L j c r n d m)(p):x_ f A e h k a g u w v L j c r n d (dS m p):=
 ⟨Gm o.1<|jn cc p,⟨o.2.1,o.2.2,o.2.3,o.2.4,o.2.5,o.2.6,o.2.7,o.2.8,o.2.9⟩,⟨o.3.1,o.3.2,o.3.3,o.3.4,o.3.5,o.3.6,o.3.7,o.3.8,o.3.9⟩⟩
def hN{l h k o j t u e q}(c:x_ f A l h k a v t u L o j e q n g m):aA m (N l.7 3)=ae (bv l.9):=(hM c.1.y.2 c.1.y.3.2.2.2.2).2.2.2.1
def acq{c}{K:ap->ap}(r){t}(g:mn f m A c r r t t a)(b8:a<=500000000000)(ad:∀i,E (K i)<=1524)(a8:r.1.6=ak)(aW:∀(i:ap) (e:aQ),E i<=1524->co A f e->a_ aL 18 #[bv c.2,ce #[aS c.11,aS c.12],aS i] e (cI (aS<|K i) e))(a3:∀(i:ap) (e:aQ),E i<=1524->co A f e->a_ aL 19 #[bv c.8,ce #[aS c.11,aS c.12],aS i] e (cI (aS<|K i) e)):a_ aL 30 #[bv c.1,bv c.7,bv c.5] m λh H=>T6 f A c t (a+60200) h H:=by
 let⟨R,Z,aa,S,T,X⟩:=Ab g.x.1;have:=X.3;have:=X.5;have:=X.7;have u:=O<|TP g.x G ad λi e az ay=>aW i e az<|acJ g ay;let⟨n,ac⟩:=du<|r.tN K;rw[ac]at u;have aR:n.1.6=ak:=by rw[<-ac];exact acp ad a8 g.x.5.2.2.2.2
 have j:=O g;have aM:=O a3;have br:=O ac;let⟨v,aC⟩:=bm (if n.10 then 4 else 0:Int);rw[<-aC]at u;have aY:=O aC;have bV:=g.x.6.1.1;have bX:=g.x.6.1.2.2.2;clear g aW a3 X ac a8 aC;go_in;go_wp2_with fail;refine u.m ?_;rintro b_ ⟨b0,a0⟩;have a2:=K2 j b0 (gX a0 j.x.1 j.2 bW λaO=>by{rcases aO with h|h|h;{exact h6 j.a j.x.aB bW h};{exact h6 j.a j.x.rr bW h};{exact h6 j.a j.x.sr bW h}}) (h7 a0 λ_ g=>bJ g) G;have bc:=O<|FZ c.5 n.1 a2.x.1;have al:=O a2;go_wp2_with fail;refine bc.m ?_;rintro bw ⟨aX,a4⟩;have an:n.1.rest.Ok (a+30100):=al.x.6.1;have V:=TV al aX a4 an;have bf:ao (a_ aL 69 #[bv c.7] bw λh H=>h=bh (M v)/\hi H c.7 c.8 c.9 c.11 c.12 n (a+30100+30100)/\cG (λk=>k=c.7) c.9 bw H):=by{have:=ab3 V.y G ad λi e az ay=>aM i e az<|acK V ay;rw[br]at this;refine this.mono λh H ba=>⟨cQ ba.1<|by rw[aY],ba.2⟩};have x:=O V;clear V aX a4 bc al;go_wp2_with fail;refine bf.m ?_;rintro ca ⟨aV,av⟩;have B:=TU x aV (gX av x.y.1 x.3 bW<|h6 x.3 x.y.2 bW) (h7 av λ_ g=>bJ g) G;have bt:=O<|FZ c.9 n.1 B.y.1;have bG:=(hM B.y.2 B.y.3.2.2.2.2).2.2.2.1;have bu:=O B;clear B aV av bf x;go_wp2_with fail;refine bt.m ?_;rintro cb ⟨a9,bd⟩;have W:=TW bu a9 bd<|oP an G;let⟨b,aF⟩:=bm ({n with s:=n.1.rest}:cw);rw[<-aF]at W;have L:b.1.6=ak:=by rw[aF];exact aR
 have aP:=O<|Tx W.x.4;have bs:=O W;clear W a9 bd bt bu bG aF an aM br aY aR;go_wp2_with fail;refine aP.m ?_;intro ab a5;let⟨aJ,P⟩:=bm<|aN ab<|aZ #[ag ai b.7,ag ai b.8,ag ai b.9,aG b.10] 139;have a1:a6 ab aJ:=by rw[P];exact cc.alloc bo _
 have o:=Gm (Gm bs a5) a1;have y:bq aJ (J ab.1) [M b.7,M b.8,M b.9,aG b.10] 139:=by rw[P];exact bq.fF ab _ _
 let⟨R,Z,aa,S,T,C⟩:=Ab o.x.1;let⟨ar,ah,aI,au,aj,aw⟩:=Ab o.y.1;have:=o.x.6.1.1;have:=o.x.6.1.2.2.2;let⟨cS,bH,bN,hN,bP,bQ,bR,bS,bI,bK,bL,bM⟩:=hM o.y.2 o.y.3.2.2.2.2;have bj:=y.cell 0 ax;have bl:=y.cell 1 ax;have bn:=y.cell 2 ax;have bp:=y.cell 3 ax;simp only[eB,eG]at bj bl bn bp;have aK:=O fun(e:aQ) (b4:Int)=>K6 b4 e;have w:=O<|x_.mk o C aw;have N:=C.3;have bC:=C.4;have aU:=C.6;have Q:=aw.3;rw[L]at aU;have bO:=O L;have aT:=O P;have bb:ao (∀e,x_ f A c b t (a+30100+30100) R Z aa S T ar ah aI au aj e->T6 f A c t (a+60200) (bh<|aG aD) e):=λe g=>⟨U,b,L,g.1⟩;clear o y a5 a1 bs aP C aw cS bH bN bP bQ bR bS P L bV bX;go_wp2;rw[<-aT];go_quiet (first|(go_at_call 24;exact Calls.quiet_of_same<|aK _ _));have bz:=O<|B0 w nq;generalize dS aJ nq=e at*;have N:=bz.2.3;clear w aK aT bj bl bn bp bI bK bL bM bC aU Q hN bO;go_wp2;go_loopw [13] (λk wr=>∃d:Nat,k=M d/\ao (x_ f A c b t (a+30100+30100) R Z aa S T ar ah aI au aj wr)) λk _=>E b.1.2-cM (intOf k);·grind
 ·(
 obtain⟨d,rfl,w⟩:=hrel;have N:=w.2.3;have Q:=w.3.3;have hN:=hN w;by_cases Y:d<E b.1.2;{obtain⟨l,D⟩:∃l,b.1.2[d]? = ae l:=⟨_,fs Y⟩;let⟨bT,aB,b1⟩:=w.2.8 d l D;let⟨bU,aH,b2⟩:=w.3.8 d l D;rw[aB]at N;rw[aH]at Q;have I:(d:Int)<E b.1.2:=G;go_wp2;go_quiet (fail);have z:=O<|B0 w nq;generalize dS wr nq=bB at*;go_wp2;exact⟨⟨d+1,dd,z⟩,dz⟩};have I:¬(d:Int)<E b.1.2:=G;have p:=w.2.5;have aq:=w.3.5;clear Y;go_wp2;go_quiet (fail);have z:=O<|B0 w nq;clear N Q hN p aq I w;generalize dS wr nq=bB at*;have p:=z.2.5;go_wp2;go_loopw [14] (λk wr=>∃d:Nat,k=M d/\ao (x_ f A c b t (a+30100+30100) R Z aa S T ar ah aI au aj wr)) λk _=>E b.1.5-cM (intOf k);·exact⟨_,U,z⟩
 ·(
 clear z p;obtain⟨d,rfl,w⟩:=hrel;have p:=w.2.5;have aq:=w.3.5;have hN:=hN w;by_cases Y:d<E b.1.5;{obtain⟨l,D⟩:∃l,b.1.5[d]? = ae l:=⟨_,fs Y⟩;let⟨bT,aB,b1,b2⟩:=w.2.9 d l D;let⟨bU,aH,cd,cf⟩:=w.3.9 d l D;rw[aB]at p;rw[aH]at aq;have I:(d:Int)<E b.1.5:=G;go_wp2;go_quiet (fail);have b3:=O<|B0 w nq;generalize dS wr nq=b6 at*;go_wp2;exact⟨⟨d+1,dd,b3⟩,dz⟩};have I:¬(d:Int)<E b.1.5:=G;have bD:=w.2.7;have bF:=w.3.7;have:=w.2.2;have:=w.3.2;have:=λF=>Gp (w:=dS wr F) w.2.1;have:=λF=>Gp (w:=dS wr F) w.3.1;generalize b.1.1=b9 at*;by_cases bY:b.1.9=r.1.9;{rw[bY]at bD bF;have u:=O<|bb _ w;go_wp2;go_ret;assumption};{
 have b7:((b.1.9:Int)==r.1.9)=ak:=iQ
 have:¬(b.1.9:Int)=r.1.9:=G;have u:=O λF=>bb _<|B0 w F;go_wp2;go_quiet (fail);go_wp2;go_ret;exact u _}))
def zX:Nat->List iY->List iY
 |0,a=>a
 |b+1,a=>match a[b+1]?,a[b]? with
  |some c,some d=>if c.1<d.1 then zX b ((a.set (b+1) d).set b c)else a
  |_,_=>a
def rj(b:Nat):List iY->List iY->List iY
 |a,[]=>a
 |a,c::d=>rj b (zX (E a)<|a++[(ai.wrap<|c.1+(b:Int),c.2)]) d
def sk(a:iY):List bk:=[M a.1,M a.2.1,ag ch<|bg a.2.2]
def na(c:aQ)(b:Nat)(v:bk)(a:List iY):Prop:=c.ownsRow b 158 3 v (E a)<|ex sk a
def ti(c:aQ)(v:bk)(d:List iY):Prop:=∃g j,v=aE g (E d) j/\(d=[]\/∃a ay,g=ae (N a ay)/\a<J c.1/\∀b e h i,d[b]? = ae (e,h,i)->aA c (N a<|ay+b*3)=ae (M e)/\aA c (N a<|ay+b*3+1)=ae (M h)/\aA c (N a<|ay+b*3+2)=ae (ag ch<|bg i))
def LH:∀(g:List iY) (a:Nat) (c d:Int) (e:UInt8),g[a]? = ae (c,d,e)->(ex sk g)[a*3]? = ae (M c)/\(ex sk g)[a*3+1]? = ae (M d)/\(ex sk g)[a*3+2]? = ae (ag ch<|bg e)
 |[],_,_,_,_,b=>by simp at b
 |i::h,0,c,d,e,b=>by simp at b;subst b;exact⟨U,U,U⟩
 |i::h,a+1,c,d,e,b=>by have j:=LH h a c d e (by simpa using b);rw[kj,show(a+1)*3=E (sk i)+a*3 by simp[sk];omega,pL,pL,pv G,pv G,pv G];simpa using j
def Vy:∀(d:List iY) (a:Nat) (b:iY),a<E d->(((ex sk d).set (a*3)<|M b.1).set (a*3+1)<|M b.2.1).set (a*3+2) (ag ch<|bg b.2.2)=ex sk (d.set a b)
 |[],_,_,c=>by simp at c
 |g::e,0,b,c=>U
 |g::e,a+1,b,c=>by have h:=Vy e a b (by simpa using c);rw[iy,kj,kj,<-h,show(a+1)*3=E (sk g)+a*3 by simp[sk];omega,pL,pL,sK _ _ G,sK _ _ G,sK _ _ G];simp
def Ci{c:List iY}(r:E c=v)(b:na f g (bL a 0 v n) c){k:Nat}{h:UInt8}(i:c[k]? = ae (j,y,h)):aA f (N a<|k*3)=ae (M j)/\aA f (N a<|k*3+1)=ae (M y)/\aA f (N a<|k*3+2)=ae (ag ch<|bg h):=by have:=(iW.1 i).1;rw[na,r]at b;let⟨o,p,q⟩:=LH c k j y h i;exact⟨by rw[lG b _ G];exact o,by rw[lG b _ G];exact p,by rw[lG b _ G];exact q⟩
def LI{e:List iY}(j:E e=n)(b:na f g (bL a 0 n v) e)(c:Nat):gd f (N a c)=ak:=by rw[na,j]at b;exact Dj b c
def Vz{c:List iY}(l:E c=n)(k:na f g (bL v 0 n L) c)(o:a<E c)(d e:Int)(j:UInt8):na (a7 (a7 (a7 f ⟨v,a*3,af⟩<|ag ai d) ⟨v,a*3+1,af⟩<|ag ai e) ⟨v,a*3+2,af⟩<|ag ch<|bg j) g (bL v 0 n L) (c.set a (d,e,j)):=by rw[na,l]at k;have:=((((Ip k (a*3)<|M d).1.stored (a*3+1)<|M e).1.stored (a*3+2)<|ag ch<|bg j).1);rw[na,<-Vy c a (d,e,j) o,o4,l];exact this
def xS{c:List iY}(g:na f a e c)(h:∀v,bA e=ae v->m.1[v]? = f.1[v]?):na m a e c:=lA g h
def afr{v:List iY}(n:na f a e v):ut f e v:=by let⟨x,q⟩:=n;rcases q with⟨rfl,o⟩|⟨l,j,k,rfl,t,p,r,u,w,h⟩;{have:v=[]:=hq o;subst this;exact⟨af,0,U,cO _,bJ<|bd U U⟩};{refine⟨_,j,U,r,bE ⟨l,0,k.1,U,p,λb aO=>?_⟩⟩;let⟨c,d,i⟩:=LH v b v[b].1 v[b].2.1 v[b].2.2<|fs aO;rw[<-h,yG,b8 G]at c d i;rw[fM,wI 3 b];exact⟨c,d,i⟩}
def ua(e:aQ)(c g:Nat)(j k:bk)(a:cq)(i:List iY)(b:aQ):Prop:=
 ∃d,hQ b c g j k ⟨ak,d,λ_=>True⟩ a.4 a.6 a.7 a.8 a.9/\na b (J e.1) d i/\co (λh=>h≠c) e b
def ua.aPo{u:List iY}(h:mW f g a e k r B)(D:ua f g a e k B u m):cZ m g {B with p:=u}/\cG bH g f m:=by let⟨A,F,z,b⟩:=D;let n:=@q8 _ _ _ _ _ _ _ h;let⟨o,q,c,t,H⟩:=h;let x:mW m g a e k A {B with p:=u}:=⟨F,rm q<|b.5 a q.2.lt<|h6 q.2 o bW,lA c λl j=>b.5 l (nT c j) λd=>jK o c bW<|by rw[j,d],lA t λl j=>b.5 l (nT t j) λd=>jK o t bW<|by rw[j,d],afr z⟩;refine⟨⟨a,e,k,A,x⟩,b.1,b.2,b.3,b.4,λy aO _ C=>b.5 y aO λd=>C<|bJ d,λy G=>?_⟩;rcases(q8 x).1 G with h|h|h|h|h;{exact bJ<|bJ h};{exact bJ<|n.2<|bE<|bJ h};{exact bJ<|n.2<|bE<|bE<|bJ h};{exact bJ<|n.2<|bE<|bE<|bE<|bJ h};{exact bE (qh z h).1}
def afs{dw:bk}{y:List iY}(h:mW f a g e k dw B)(T:ti f r y)(cF:∀i ay cp w,r=bL i ay cp w->0<cp->i≠a)(cL:E y<=10000000)(dC:B.4<=1000000000000):a_ aL 29 #[bv a,r] f λo cy=>o=bh (bZ #[])/\cZ cy a {B with p:=rj B.4 [] y}/\cG bH a f cy:=by
 have c5:=O h;have h:=h.1;let⟨aw,Y⟩:=du<|rj B.4 [] y;rw[Y];let⟨W,a3⟩:=du<|E y;have cE:=O Y;have bz:=O a3;let⟨dg,aO,dc,de,df⟩:=im aaq;obtain⟨al,c3,rfl,T⟩:=T;rw[a3]at cL⊢;have:=rN h;have:=ph h;have b3:=O T;have c4:ao (ua f a g e k B []<|a7 f ⟨a,3,af⟩<|aE af 0 0):=⟨bX,bq.set h 3<|bX,bd U<|.inl (bd rfl rfl),co.j9 _ λb h=>h⟩;have cH:ao (∀i ay,al=ae (N i ay)->0<W->i≠a):=λi ay o=>cF i ay (E y) c3 (by rw[o]) ∘ (a3▸id);clear h T cF Y a3;go_wp2;go_loopg [4] W (λl v wr=>∃(b:Nat) (ac:List iY),v=M b/\b+l=W/\ao (E ac=b/\rj B.4 ac (bi b y)=aw)/\ao (ua f a g e k B ac wr));·exact⟨0,[],U,G,bd U cE,c4⟩
 ·(
 obtain⟨b,ac,rfl,dD,bn,Z⟩:=hrel;clear cE;by_cases dF:b<W;{
 let⟨cx,x,C,Y⟩:=Z;obtain⟨i,ay,cc,cR,cf⟩:∃i ay,al=ae (N i ay)/\i<J f.1/\∀b j t u,y[b]? = ae (j,t,u)->aA f (N i<|ay+b*3)=ae (M j)/\aA f (N i<|ay+b*3+1)=ae (M t)/\aA f (N i<|ay+b*3+2)=ae (ag ch<|bg u):=by{rcases b3 with h|h;{have:=V bz;rw[h]at this;simp at this;omega};{exact h}};have bB:b<E y:=cd<|V bz
 obtain⟨j,t,u,bb⟩:∃j t u,y[b]=(j,t,u):=⟨_,_,_,U⟩;let⟨cA,cB,cC⟩:=cf b j t u (by rw[fs bB,bb]);have ab:ao (rj B.4 (zX b<|ac++[(ai.wrap<|j+(B.4:Int),t,u)]) (bi (b+1) y)=aw/\E ac=b):=by{let⟨b6,b7⟩:=bn;rw[jM bB,bb,rj,b6]at b7;exact bd b7 b6};have c1:=cH i ay cc G;subst cc;have a5:=Y.5 i cR c1;have dy:=(dR (a:=⟨i,ay+b*3,af⟩) a5).trans cA;have dz:=(dR (a:=⟨i,ay+b*3+1,af⟩) a5).trans cB;have dA:=(dR (a:=⟨i,ay+b*3+2,af⟩) a5).trans cC;have a8:=qg x;have:a≠J wr.1:=G;let⟨Q,cb⟩:=bm<|ai.wrap<|j+(B.4:Int);have cS:=b5 cb;have:(b:Int)<W:=G;have aK:=rN x;have dk:=zy x;have cT:=ph x;have ap:=O x;have X:=O C;have an:=O Y;rw[cS]at ab;clear x C Y cf a5 cA cB cC cb Z b3 cH bn bB bb;go_wp2;go_region;go_upto_region 6 with fail;let⟨aj,S⟩:=bm<|bx<|aN wr<|aZ #[ag ai Q,ag ai t,ag ch<|bg u] 158;have aW:∀c,c<J wr.1->aj.1[c]? = wr.1[c]?:=λc bs=>S▸dv _ _ _ bs
 have cm:J aj.1=J wr.1+1:=by rw[S];simp
 have aT:bq aj (J wr.1) [M Q,M t,ag ch<|bg u] 158:=S▸bq.fF _ _ _
 have ar:=nS ap<|aW a a8;have ci:=xS X λl db=>aW l<|nT X db;have bo:=an.trans ⟨by rw[S];rfl,by rw[S];rfl,by rw[S];rfl,G,λc bs _=>aW c bs⟩;rw[<-S];have bc:aj.ownsRow (J f.1) 158 3 cx b (ex sk ac):=by have:=ci;rw[na,ab.2]at this;exact this
 have cs:=aT.cell 0 ax;have cu:=aT.cell 1 ax;have cw:=aT.cell 2 ax;simp only[eB,eG]at cs cu cw;have dp:=rN ar;have dn:=ph ar;have cg:=jK ar bc bW;have cn:=bo.4;have bS:=qg ar;have bj:=O bc;have b4:=O ar;have aF:=O bo;clear S aW aT ar bo bc ci ap X an dy dz dA aK dk cT;go_cut [36]from 11 to 97 λ_ wc=>ao<|ua f a g e k B (ac++[(Q,t,u)]) wc;·(go_region_law (first|(refine step_append_lies _ rfl (.tmp 33) (.tmp 35) 62 rfl f.heap.size 158 dg (.agg #[M 0,M 0,.int .u8 0]) 3 24 aan aO dc de df rfl bW _ b _ rfl (bj.alloc _) _ 1 1 [M Q,M t,.int .u8 u.toNat] rfl rfl (aao cm.symm Q t u _) (aap Q t u) bW Ay G (by first|omega|(simp;omega)) (aj.heap.size+1) (by first|rfl|simp) ?_;intro l w bI ck aa c9 dG;have aX:=nS b4<|(aa.5 a ct cg).trans<|dv _ _ _ bS;have:=rN aX;have:=ph aX));all_goals(have aq:World.grownBy (aN aj<|aZ #[ag ai Q,ag ai t,ag ch<|bg u] 158) bI (bA cx):=⟨aa.1,aa.2,aa.3,aa.4,aa.5⟩;have b9:ao (na bI (J f.1) (bL l 0 (b+1) w)<|ac++[(Q,t,u)]):=by{rw[ao,na,dj,ab.2,o3];exact ck};have dh:ao (co (λb=>b≠a) f bI):=⟨cQ aq.1 aF.1,cQ aq.2 aF.2,cQ aq.3 aF.3,cJ cn<|cJ ax aq.4,λc bs aI=>((aq.5 c ct λo=>cd<|(qh bj<|b5 o).1).trans<|dv _ _ _ G).trans<|aF.5 c bs aI⟩;have b_:=O aX;clear ck aa c9 aq aX;go_wp2;go_meet;·(refine⟨bL l 0 (b+1) w,bq.set b_ 3<|bL l 0 (b+1) w,xS b9 λc8 bt=>dr _ _ _ _ λo=>jK b_ b9 bW<|by rw[bt,o],dh.trans<|co.j9 _ λb h=>h⟩)))
 ·(
 clear bj b4 aF cs cu cw dp dn cg cn bS cm;have Z:=hcut;clear hcut;have bT:ao (∃l w,bY wc a 3<|bL l 0 (b+1) w):=by{let⟨bO,x,C,_⟩:=Z;have T:=ab.2;rw[na,dj,T]at C;obtain⟨l,w,rfl,_⟩:=World.ownsRow.form C ax;exact⟨l,w,rN x⟩};let⟨l,w,dB⟩:=bT;have:((b:Int)+1-1)=b:=G;go_wp2;go_loopg [6] b (λbw v dx=>∃q:List iY,v=M (bw:Nat)/\bw<=b/\ao (E q=b+1/\rj B.4 (zX bw q) (bi (b+1) y)=aw)/\ao (ua f a g e k B q dx));·exact⟨_,dd,cO _,⟨by rw[dj,ab.2];rfl,ab.1⟩,Z⟩
 ·(
 obtain⟨q,rfl,ba,aJ,c0⟩:=hrel;have av:=aJ.1;have I:=O av;let⟨bO,x,C,Y⟩:=c0;have cU:∃l w,bO=bL l 0 (b+1) w/\J f.1<=l/\l<J wr.1:=by{have h:=C;rw[na,av]at h;let⟨l,w,o,da,T⟩:=World.ownsRow.form h G;exact⟨l,w,o,da,T⟩};obtain⟨n,bl,rfl,dE,dl⟩:=cU;have cD:n≠a:=λo=>jK x C bW (by rw[<-o];rfl);have aK:=rN x;have a8:=qg x;have ap:=O x;have X:=O C;have an:=O Y;have bf:ao (∀ac,ao<|ua f a g e k B q<|dS wr ac):=λac=>⟨_,nS ap U,xS X λ_ _=>U,an.trans ⟨U,U,U,cO _,λ_ _ _=>U⟩⟩;clear Z bT dB x Y ab;match gk,ba with
 |0,ba=>{
 have bC:ao (E q=b+1/\rj B.4 q (bi (b+1) y)=aw):=aJ;clear C av aJ;go_wp2;go_quiet (fail);go_wp2;go_roundg (W-(b+1));case measure=>omega
 ·exact⟨b+1,q,dd,G,bC,bf _⟩}
 |ad+1,ba=>{
 let⟨A,aY⟩:=bm<|ad+1;obtain⟨z,D,F,a1⟩:∃z D F,q[A]? = ae (z,D,F):=⟨_,_,_,fs G⟩;obtain⟨ah,aP,aR,a2⟩:∃z D F,q[ad]? = ae (z,D,F):=⟨_,_,_,fs G⟩;let⟨u0,u1,u2⟩:=Ci av C a1;let⟨bD,bF,bG⟩:=Ci av C a2;have a6:=O<|cj a1 a2;have a4:ao (E q=b+1/\rj B.4 (if z<ah then zX ad ((q.set A (ah,aP,aR)).set ad (z,D,F))else q) (bi (b+1) y)=aw):=by{have:=aJ;rw[zX,<-aY,a1,a2]at this;exact this};rw[<-aY];have:(A:Int)-1=ad:=G;have:0<(A:Int):=G;have:0<A:=G;have:A<b+1:=G;have:ad<b+1:=G;have:(A:Int)<b+1:=G;have:(ad:Int)<b+1:=G;have:(A:Int)<((b+1:Nat):Int):=G;have:(ad:Int)<((b+1:Nat):Int):=G;have bN:=O aY;clear C aY a1 a2 av aJ;by_cases br:z<ah;{
 rw[b8 br]at a4;go_wp2;go_quiet (fail);let⟨H,aH⟩:=bm<|dS wr nq;have aC:H.1=wr.1:=by rw[aH];rfl
 have ca:=nS ap (by rw[aC]);have bp:=xS X λ_ _=>by rw[aC]
 have Y:co (λb=>b≠a) f H:=an.trans<|aH▸⟨U,U,U,cO _,λ_ _ _=>U⟩;have R:∀al v,aA wr al=ae v->aA H al=ae v:=λal v h=>aH▸h
 replace u0:=R _ _ u0;replace u1:=R _ _ u1;replace u2:=R _ _ u2;replace bD:=R _ _ bD;replace bF:=R _ _ bF;replace bG:=R _ _ bG;replace aK:=R _ _ aK;have cK:n<J H.1:=aC▸dl
 have cV:a<J H.1:=aC▸a8
 have c6:=LI I bp;have bU:=O ca;have b0:=O bp;have b1:=O Y;rw[<-aH];clear aH aC ca bp Y R ap X an bf;go_upto_region 11 with fail;let⟨aB,L⟩:=bm<|aN H<|aZ #[ag ai z,ag ai D,ag ch<|bg F] 158;have a0:∀c,c<J H.1->aB.1[c]? = H.1[c]?:=λc bs=>L▸dv _ _ _ bs
 have b2:bq aB (J H.1) [M z,M D,ag ch<|bg F] 158:=L▸bq.fF _ _ _
 have bu:=nS bU<|a0 a cV;have az:=xS b0 λc8 bt=>by cases bt;exact a0 n cK
 have cr:=b1.trans ⟨by rw[L];rfl,by rw[L];rfl,by rw[L];rfl,by rw[L];simp,λc bs _=>a0 c bs⟩;have dm:bY aB a 3 (bL n 0 (b+1) bl):=rN bu;have cN:=Ci I az a6.1;have c2:=Ci I az a6.2;have cW:=LI I az;have cX:n≠J H.1:=G;have bP:=O b2;have bM:=O bu;have bK:=O az;have au:=O cr;rw[<-L];clear L a0 b2 bu az cr bU b0 b1 u0 u1 u2 bD bF bG aK c6;go_region;let⟨P,K⟩:=bm<|bx<|a7 (a7 (a7 aB ⟨n,A*3,af⟩<|ag ai ah) ⟨n,A*3+1,af⟩<|ag ai aP) ⟨n,A*3+2,af⟩<|ag ch<|bg aR;have aU:∀c,c≠n->P.1[c]? = aB.1[c]?:=λc bs=>K▸(dr _ _ _ _ bs).trans ((dr _ _ _ _ bs).trans<|dr _ _ _ _ bs)
 have aS:na P (J f.1) (bL n 0 (b+1) bl) (q.set A (ah,aP,aR)):=K▸xS (Vz I bK (by rw[I];omega) ah aP aR) λ_ _=>U
 have a9:=nS bM<|aU a λo=>cD<|b5 o;have aV:bq P (J H.1) [M z,M D,ag ch<|bg F] 158:=(aU _ λo=>cX<|b5 o).trans bP;have bQ:co (λb=>b≠a) f P:=⟨K▸au.1,by rw[K];exact au.2,by rw[K];exact au.3,by rw[K];simpa [a7]using au.4,λc bs aI=>(aU c G).trans<|au.5 c bs aI⟩;have:aA P (N a 3)=ae (bL n 0 (b+1) bl):=rN a9;have:=Ci (k:=ad) (by rw[o4];exact I) aS (by rw[Pj<|cd<|V bN];exact a6.2);have:=LI (by rw[o4];exact I) aS;have dq:=aV.cell 0 ax;have ds:=aV.cell 1 ax;have dt:=aV.cell 2 ax;simp only[eB,eG]at dq ds dt;have cI:=O a9;have cY:=O aS;have aM:=O bQ;rw[<-K];clear K aU aS a9 aV bQ bP bM bK au dm cN c2 cW;go_upto_region 12 with fail;go_region;let di:ao (∀ac,ao<|ua f a g e k B ((q.set A (ah,aP,aR)).set ad (z,D,F))<|dS (a7 (a7 (a7 P ⟨n,ad*3,af⟩<|ag ai z) ⟨n,ad*3+1,af⟩<|ag ai D) ⟨n,ad*3+2,af⟩<|ag ch<|bg F) ac):=λac=>by{let bR:∀c,c≠n->(dS (a7 (a7 (a7 P ⟨n,ad*3,af⟩<|ag ai z) ⟨n,ad*3+1,af⟩<|ag ai D) ⟨n,ad*3+2,af⟩<|ag ch<|bg F) ac).1[c]? = P.1[c]?:=λc bs=>(dr _ _ _ _ bs).trans<|(dr _ _ _ _ bs).trans<|dr _ _ _ _ bs;exact⟨_,nS cI<|bR a λo=>cD<|b5 o,xS (Vz (by rw[o4];exact I) cY (by rw[o4,I];omega) z D F) λ_ _=>U,⟨aM.1,aM.2,aM.3,by simpa [a7]using aM.4,λc bs aI=>(bR c G).trans<|aM.5 c bs aI⟩⟩};go_wp2;go_roundg ad;case measure=>have:=bN;omega
 case rel=>exact⟨_,dd,G,⟨by rw[o4,o4];exact I,a4.2⟩,di 1⟩};{
 have:=fI br;rw[bV br]at a4;let bC:=a4;go_wp2;go_quiet (fail);go_wp2;go_roundg (W-(b+1));case measure=>omega
 case rel=>exact⟨b+1,q,dd,G,bC,bf _⟩}}))};{obtain rfl:b=W:=G;go_wp2;refine kh (v:=bZ #[]) (by simp[c_,results29]) U ?_;have cl:=bn;rw[A8<|cd<|V bz,rj]at cl;have:=ua.aPo c5 Z;rw[cl.2]at this;exact bd U this})
def VA(a:Nat){g:List iY}(d:cZ f a B)(q:ti f e g)(r:∀i ay h n,e=bL i ay h n->0<h->i≠a)(l:E g<=10000000)(k:B.4<=1000000000000):a_ aL 29 #[bv a,e] f λo j=>o=bh (bZ #[])/\cZ j a {B with p:=rj B.4 [] g}/\cG bH a f j:=by let⟨t,u,w,x,d⟩:=d;exact afs d q r l k
end Go.Proofs.YtkkpahmoljiepabGreatDoor
