import Derived.Test.YtkkpahmoljiepaaGreatDoorJ12
set_option maxRecDepth 1000000
set_option maxHeartbeats 12800000
set_option linter.unusedSimpArgs false
set_option linter.unusedVariables false
namespace Go.Proofs.YtkkpahmoljiepaaGreatDoor
open Go.RowKit Go.Proofs.Tryz
section
attribute [local go_sem] Oper.semAt_some
structure my where
 S:ah×cY
 cs:List Nat
 full:Bool
def ex(size:Int)(aM:aj->List eF)(i:Nat):List (List aj)->my->my
 | [],a=>a
 | b::c,a=>if a.full=true then a else if size<((bB aM b a.S.1 a.S.2).1.length:Int)then { a with full:=true }
  else ex size aM i c { a with S:=bB aM b a.S.1 a.S.2,cs:=a.cs.set i (a.cs.getD i 0+b.length) }
def gy(size:Int)(aM:aj->List eF):Nat->List (List aj)->my->my
 | _,[],a=>a
 | i,b::c,a=>gy size aM (i+1) c (ex size aM i ((be bH b).map (·.2)) a)
theorem wi{size:Int}{aM:aj->List eF}{i:Nat}{a:List (List aj)}{b:my}(c:b.full=true):ex size aM i a b=b:=by
 cases a with
 | nil=>rfl
 | cons d a=>unfold ex;rw[ay c]
theorem Ju{g:Int}{e:aj->List eF}: ∀ {c:Nat} {d:List (List aj)} {a:my},a.full=true->gy g e c d a=a
 | _,[],_,_=>rfl
 | c,h::d,a,b=>by unfold gy;rw[wi b];exact Ju b
theorem A6{d:Int}{b:aj->List eF}{i:Nat}{c:List aj}{e:List (List aj)}{a:my}(h:a.full=false)(g:d<((bB b c a.S.1 a.S.2).1.length:Int)):ex d b i (c::e) a = { a with full:=true }:=by unfold ex;rw[ar qj,ay g]
theorem A7{d:Int}{b:aj->List eF}{i:Nat}{c:List aj}{e:List (List aj)}{a:my}(h:a.full=false)(g:¬d<((bB b c a.S.1 a.S.2).1.length:Int)):ex d b i (c::e) a=ex d b i e { a with S:=bB b c a.S.1 a.S.2,cs:=a.cs.set i (a.cs.getD i 0+c.length) }:=by
 conv=>lhs;unfold ex
 rw[ar qj,ar g]
def iS(c:List Nat)(a:World):World:=c.foldl (fun a b=>a.putObj b (.deferred none)) a
theorem A8:∀(b:List Nat) (c:World) (a:Nat),a ∉ b->(iS b c).heap[a]? = c.heap[a]?
 | [],_,_,_=>rfl
 | e::b,c,a,d=>by simp only[co,pB]at d;show(iS b (c.putObj e (.deferred none))).heap[a]? = _;rw[A8 b _ a d.2,World.putObj_heap_other d.1]
theorem A9:∀(b:List Nat) (a:World),(iS b a).os=a.os/\(iS b a).tape=a.tape/\(iS b a).output=a.output/\(iS b a).heap.size=a.heap.size
 | [],_=>⟨rfl,rfl,rfl,rfl⟩
 | d::b,a=>by have c:=A9 b (a.putObj d (.deferred none));exact⟨c.1,c.2.1,c.2.2.1,c.2.2.2.trans (by simp[World.putObj_size])⟩
def Jv(a:Nat):Deferred:={ target:=.collected a,args:=#[] }
theorem A_{l:Fence}{p:Nat}{h:Func}{k:Array Value}{e:Ending->World->Prop}: ∀(a:List Nat) (b:World),a.Nodup->(∀c∈a,b.heap[c]? = some (.deferred (some [])))->(∃v,(results h k).run prog (iS a b)=.ok v (iS a b)/\e (.returned v) (iS a b))->LeavesInM l p prog h k e (a.map Jv) .returning b
 | [],_,_,_,d=>d
 | c::a,b,o,g,d=>by have i:=zL.1 o;refine⟨am,.inl ⟨c,b.putObj c (.deferred none),rfl,run_takeDeferred (g c am),?_⟩⟩;exact A_ a _ i.2 (fun q j=>(World.putObj_heap_other (fun n=>i.1 (by rw[<- n];exact j))).trans (g q (by simp[j]))) d
def eS(e:aj->List eF)(b:Nat)(d:List aj)(a:my)(c:Nat):my:=⟨bB e (g4 d c) a.S.1 a.S.2,a.cs.set b (a.cs.getD b 0+(g4 d c).length),false⟩
theorem Ba(d:aj->List eF)(b:Nat)(g:List aj)(a:my)(ao:b<a.cs.length)(c:a.full=false):eS d b g a 0=a:=by unfold eS;rw[Sh];have e:a.cs.set b (a.cs.getD b 0+([]:List aj).length)=a.cs:=by{rw[fh,dV ao];simp};rw[e];cases a;simp only at c;subst c;rfl
theorem Tn(e:aj->List eF)(a:Nat)(d:List aj)(b:my)(c:Nat){g:Nat×List aj}(i:(be bH d)[c]? = some g)(ao:a<b.cs.length):eS e a d b (c+1) = { eS e a d b c with S:=bB e g.2 (eS e a d b c).S.1 (eS e a d b c).S.2,cs:=(eS e a d b c).cs.set a ((eS e a d b c).cs.getD a 0+g.2.length) }:=by unfold eS;rw[Si i,HT,a6];have h:(b.cs.set a (b.cs.getD a 0+(g4 d c).length)).getD a 0=b.cs.getD a 0+(g4 d c).length:=by{rw[fh,zE (by exact ao)];rfl};simp only[h,List.set_set,nE]
theorem To{b:List aj}{a:Nat}{d:Nat×List aj}(c:(be bH b)[a]? = some d):((be bH b).map (·.2)).drop a=d.2::((be bH b).map (·.2)).drop (a+1):=by have g:=(fy.1 c).1;have e:=(fy.1 c).2;rw[fQ (by rw[bD];exact g),kT,e]
theorem Fd{P:Prop}(h:P:=by exact bp g (fun e=>by rw[hX.defs g e]at bu;cases bu)):P:=h
theorem FO{P:Prop}(h:P:=by
 rcases co.1 aH with rfl|aH
 ·exact dx
 ·exact hX.defs d aH):P:=h
theorem yi{P:Prop}(h:P:=by rw[H2]at hc;cases hc):P:=h
theorem yq{P:Prop}(h:P:=by rw[eK]at hc;simp at hc):P:=h
theorem E3{P:Prop}(h:P:=by
 have aH:=nA.defs x hx;refine⟨fun e=>?_,fun e=>?_,fun e=>?_,(bn.1 aH).1⟩
 ·obtain⟨vb,vp,h1,_⟩:=nA.msg.msg;unfold bJ at h1;rw[e,h1]at aH;cases aH
 ·have h3:=nA.fb.b3;unfold f_ at h3;rw[e,h3]at aH;cases aH
 ·have h2:=nA.fb.b2;unfold aW at h2;rw[e,h2]at aH;cases aH):P:=h
theorem Tp(c u lb:Nat)(t:Int)(j:aj->List eF)(X Y Z:Value)(U V W:List aj)(J:ah×cY)(a:World)(b1:cj a c u J.1 J.2) (cL:jk J.2) (hg:bT a) (cw:u<=a.heap.size) (br:0<u) (bv:0<c)(cb:a.heap[lb]? = some (.cells #[X,Y,Z] 41)) (cd:lb≠c)(cE:∀b,b<3->∃au n D i E P,[X,Y,Z][b]? = some (.slice au n D)/\[U,V,W].drop b=i::[U,V,W].drop (b+1)/\qW (.slice au n D) E P i/\cy a E P i/\E<u/\E≠c/\i.length<=3001/\(∀x∈i,qD x (j x))/\n=i.length /\
   ∀x∈be bH i,∀(aM:ah) (aN:cY),jk aN->aM.length<=1300->aN.length<=aM.length+300->(bB j x.2 aM aN).1.length<=50000/\(bB j x.2 aM aN).2.length<=20000/\(bB j x.2 aM aN).2.length<=(bB j x.2 aM aN).1.length+300)(dE:t<=1300) (df:J.1.length<=1300) (dc:J.2.length<=J.1.length+300):az 137 #[aO c,ak t,aF lb 0 3 3] a fun e S=>e=.returned (aF (a.heap.size+3) 0 3 3)/\f_ S (a.heap.size+3) ((gy t j 0 [U,V,W] ⟨J,[0,0,0],false⟩).cs.map fun n:Nat=>(n:Int)) 3/\cj S c u (gy t j 0 [U,V,W] ⟨J,[0,0,0],false⟩).S.1 (gy t j 0 [U,V,W] ⟨J,[0,0,0],false⟩).S.2/\bR c u a S:=by
 have dt:=b1.lt;have c4:=(bn.1 cb).1;have dD:=hg.1;have bO:=af cE;have ce:Hid (∀o,ax a o->yu a.heap.size c t [0,0,0] o->oI c u a.heap.size lb t #[X,Y,Z] a [] [0,0,0] c J o):=fun o bo y=>by
  have dg:bR c u a o:=bR.qB bo;exact⟨y,(bo.block lb c4).trans cb,wA (b1.below bo),cL,hg.below bo,dg,fun x hx=>by cases hx⟩
 obtain⟨F,bL⟩:∃cU,gy t j 0 [U,V,W] ⟨J,[0,0,0],false⟩=cU:=⟨_,rfl⟩
 rw[bL];have bY:=af bL;clear b1 cL hg cb cE bL;refine(bK (n:=0)).1 ?_;refine callsIn_of_wp_marks func137 rfl aL ?_;simp only[ntmps137,ib,bi,cW,Nat.reduceAdd,Nat.reduceSub,h_,ik,im,il,dJ,dF];have mk:=Sl;gi_wp2_with fail;obtain⟨c3,b_⟩:∃o,o=(((((a.alloc (.cells #[.pointer (some ⟨c,0,none⟩)] 216)).alloc (.cells #[.int .i64 t] 3)).alloc (.cells #[.slice none 0 0] 56)).alloc (.cells #[.int .i64 0,.int .i64 0,.int .i64 0] 3)).alloc (.cells #[.slice (some ⟨a.heap.size+1+1+1,0,none⟩) 3 3] 56)):=⟨_,rfl⟩
 have bP:Hid (oI c u a.heap.size lb t #[X,Y,Z] a [] [0,0,0] c J c3):=by
  rw[b_];refine ag ce _ ((((aE.alloc av _).alloc am _).alloc aA _).alloc aA _ |>.alloc aA _) ?_;have dn:=World.alloc_heap_new a (.cells #[.pointer (some ⟨c,0,none⟩)] 216);have cH:=World.alloc_heap_new (a.alloc (.cells #[.pointer (some ⟨c,0,none⟩)] 216)) (.cells #[.int .i64 t] 3);have cI:=World.alloc_heap_new ((a.alloc (.cells #[.pointer (some ⟨c,0,none⟩)] 216)).alloc (.cells #[.int .i64 t] 3)) (.cells #[.slice none 0 0] 56);have cJ:=World.alloc_heap_new (((a.alloc (.cells #[.pointer (some ⟨c,0,none⟩)] 216)).alloc (.cells #[.int .i64 t] 3)).alloc (.cells #[.slice none 0 0] 56)) (.cells #[.int .i64 0,.int .i64 0,.int .i64 0] 3);have cK:=World.alloc_heap_new ((((a.alloc (.cells #[.pointer (some ⟨c,0,none⟩)] 216)).alloc (.cells #[.int .i64 t] 3)).alloc (.cells #[.slice none 0 0] 56)).alloc (.cells #[.int .i64 0,.int .i64 0,.int .i64 0] 3)) (.cells #[.slice (some ⟨a.heap.size+1+1+1,0,none⟩) 3 3] 56);simp only[cv]at cH cI cJ cK;refine⟨?_,?_,?_,?_,cK⟩
  ·exact(bx _ _ _ cu).trans ((bx _ _ _ cu).trans ((bx _ _ _ cu).trans ((bx _ _ _ cu).trans dn)))
  ·exact(bx _ _ _ cu).trans ((bx _ _ _ cu).trans ((bx _ _ _ cu).trans cH))
  ·exact(bx _ _ _ cu).trans ((bx _ _ _ cu).trans cI)
  ·exact(bx _ _ _ cu).trans cJ
 rw[<- b_];clear b_ ce mk;refine wpIn_loop (fun au h=>∃(b:Nat) (r:List Nat) (l:my) (u8 u9 cf cg ch u20 u21 u22 u38:Value),au=⟨#[aO c,ak t,aF lb 0 3 3,aO a.heap.size,aO (a.heap.size+1),undef,aO (a.heap.size+1+1),aO (a.heap.size+1+1+1+1),u8,u9,undef,aF lb 0 3 3,ak 3,aF (a.heap.size+1+1+1) 0 3 3,aF lb 0 3 3,ak 3,ak b,cf,cg,ch,u20,u21,u22,undef,undef,undef,undef,undef,undef,undef,undef,undef,undef,undef,undef,undef,undef,undef,u38,undef],r.map Jv⟩/\b<=3/\(r.Nodup/\∀x∈r,a.heap.size<=x)/\l.cs.length=3/\l.full=false/\(∀D∈l.cs,D<=3001*b)/\l.S.1.length<=1300/\l.S.2.length<=l.S.1.length+300/\Hid (oI c u a.heap.size lb t #[X,Y,Z] a r (l.cs.map fun n:Nat=>(n:Int)) c l.S h)/\Hid (gy t j b ([U,V,W].drop b) l=F)) (fun au _=>3-(intOf (au.tmps.getD 16 undef)).toNat) ?_ ?_
 ·exact⟨0,[],⟨J,[0,0,0],false⟩,undef,undef,undef,undef,undef,undef,undef,undef,undef,rfl,ae,⟨List.nodup_nil,fun x hx=>by cases hx⟩,rfl,rfl,(fun D hc=>by simp at hc;omega),df,dc,bP,bY⟩
 ·rintro _ o ⟨b,r,l,u8,u9,cf,cg,ch,u20,u21,u22,u38,rfl,ao,⟨ay,aR⟩,dj,aX,aC,b3,b4,a4,bm⟩;by_cases bI:b<3
  ·have du:(b:Int)<3:=ae;obtain⟨b8,dG,b9,i,E,P,O,bl,cr,bX,bE,bg,b2,cM,rfl,cD⟩:=ag bO b bI;have di:o.cell? (aq lb b)=some (.slice b8 i.length b9):=by
    have:=a4.lists;unfold World.cell?;rw[this]
    match b,bI,O with
    | 0,_,O=>simpa using O
    | 1,_,O=>simpa using O
    | 2,_,O=>simpa using O
   have nA:=ag a4;have A:∀x∈r,x≠c/\x≠a.heap.size+3/\x≠a.heap.size+2/\x<o.heap.size:=fun x hx=>E3
   have dv:=nA.fb.lt;have dw:=nA.msg.msg.lt;have dy:=nA.tg.size;gi_wp2_with fail;refine⟨aL,rfl,?_⟩;refine(bK.2 (Sg _ _ _ _)).mono ?_;rintro e w ⟨rfl,cx,b6,bU,bQ⟩;have ct:aW w o.heap.size (ak b) 3:=(aW.mZ _ _ _).below b6 am;have cs:ax o w:=(aE.alloc av _).trans (b6.mono am);simp only[cv]at cx bU bQ;have dH:o.heap.size+3<=w.heap.size:=ae;have bG:=af (Ba j b i l ae aX);have aY:Hid (oI c u a.heap.size lb t #[X,Y,Z] a r ((eS j b i l 0).cs.map fun n:Nat=>(n:Int)) (w.heap.size+1) (eS j b i l 0).S w):=by
    rw[Hid,ag bG];exact(nA.below cs).re _ ⟨fun M hc=>by have:=(bn.1 hc).1;omega,fun M hc=>by have:=(bn.1 hc).1;omega⟩
   have aa:=af (aQ ct (aQ bU bQ));obtain⟨ar,bN⟩:∃s,ex t j b ((be bH i).map (·.2)) l=s:=⟨_,rfl⟩
   have cN:Hid (gy t j (b+1) ([U,V,W].drop (b+1)) ar=F):=by
    have:=ag bm;rw[bl,gy,bN]at this;exact this
   have db:Hid (ex t j b (((be bH i).map (·.2)).drop 0) (eS j b i l 0)=ar):=by rw[Hid,ag bG,kg];exact bN
   have dq:=af cM;have cS:=af cD;have ds:=af bX;have c5:=af cr;have cX:=bX.1;clear cx b6 ct bU bQ cs di a4 nA bN bm O bl cM cD bX cr bO bP bY bG;gi_wp2_with fail;have bt:∀aP,ax w ((w.alloc (.deferred (some []))).alloc (.loop aP)):=fun aP=>(aE.alloc av _).alloc am _;have a0:∀h,bR c u a h->cy h E P i:=fun h cC=>m3 (ag ds) cC.size (cC.block E cX bg (.inl bE));refine Ao (xs:=be bH i) (encs:=fun x:Nat×List aj=>#[aF E (P+x.1*4) x.2.length x.2.length]) (St:=fun aU aV=>ax aU aV) (Kp:=fI (o.heap.size+1) (o.heap.size+1+1) E) (Kx:=fun _ _=>True)
    (gf:=233) (lb:=#[aO (o.heap.size+1),aO (o.heap.size+1+1)]) rfl (enters_of func233 aB rfl) (fun _=>rfl) ?atL
    [o.heap.size+1,o.heap.size+1+1,E] aA (fun aU aV k=>k) (fun aU aV k dd=>⟨dd,k _ am,k _ am,k _ am⟩) (fun _ _=>aL)
    (fun z h=>oI c u a.heap.size lb t #[X,Y,Z] a r ((eS j b i l z).cs.map fun n:Nat=>(n:Int)) (w.heap.size+1) (eS j b i l z).S h/\aW h o.heap.size (ak b) 3/\aW h (o.heap.size+1) (.slice b8 i.length b9) 41/\aW h (o.heap.size+1+1) (.func (.func 177) #[] #[]) 261 /\
     Hid (ex t j b (((be bH i).map (·.2)).drop z) (eS j b i l z)=ar)/\(eS j b i l z).S.1.length<=1300/\(eS j b i l z).S.2.length<=(eS j b i l z).S.1.length+300)
    (fun D h=>D=.ret/\Hx c u a.heap.size a r (F.cs.map fun n:Nat=>(n:Int)) (w.heap.size+1) F.S h)
    (fun z aU aV k de G=>⟨k.1.keeps G ae ae ae ae (fun x hx=>by have:=(A x hx).2.2.2;omega),aW.kept k.2.1 (G.block _ (aW.lt k.2.1) ae),aW.kept k.2.2.1 (G.block _ (aW.lt k.2.2.1) ae),aW.kept k.2.2.2.1 (G.block _ (aW.lt k.2.2.2.1) ae),k.2.2.2.2⟩)
    (fun D aU aV k de G=>⟨k.1,k.2.keeps G ae ae ae (fun x hx=>by have:=(A x hx).2.2.2;omega)⟩)
    ⟨aY,aa.1,aa.2.1,aa.2.2,db,by rw[Ba j b i l ae aX];exact b3,by rw[Ba j b i l ae aX];exact b4⟩
    ?round0 ?atM ?atN
   case atL =>
    intro aP;have hg:=bt aP;exact As _ E P _ _ i _ (ag c5) ((hg.cell (p:=⟨o.heap.size+1,0,none⟩) (by show o.heap.size+1<w.heap.size;omega)).trans (aW.cell aa.2.1)) ((hg.cell (p:=⟨o.heap.size+1+1,0,none⟩) (by show o.heap.size+1+1<w.heap.size;omega)).trans (aW.cell aa.2.2)) ((a0 w aY.tg).below hg) ij ij b2
   case atN =>
    intro D h a5 dx cl;obtain⟨rfl,hX⟩:=a5;have dh:=aW.lt hX.b2;have dz:=hX.msg.msg.lt;have cm:w.heap.size ∉ r:=fun k=>by have:=(A _ k).2.2.2;omega
    have bp:∀x,x ∉ w.heap.size::r->(iS (w.heap.size::r) h).heap[x]? = h.heap[x]?:=fun x b0=>A8 _ h x b0;have ac:∀x,x<w.heap.size->(∀T∈r,x≠T)->x ∉ w.heap.size::r:=fun x h1 h2 k=>by
     rcases co.1 k with k|k
     ·omega
     ·exact h2 x k rfl
    have bW:(iS (w.heap.size::r) h).cell? (aq (a.heap.size+1+1) 0)=some (aF (a.heap.size+3) 0 3 3):=(b7 (bp (a.heap.size+2) (ac _ ae (fun T an e=>(A T an).2.2.1 e.symm)))).trans (aW.cell hX.b2);have c_:=af hX;have c6:=af cm;have c7:=af ac;have dr:=af bp;clear hX dh cm ac bp;gi_wp2_with fail;have hX:=ag c_;have bp:=ag dr;have ac:=ag c7;refine A_ (w.heap.size::r) h (zL.2 ⟨c6,ay⟩) (fun d aH=>?_) ⟨aF (a.heap.size+3) 0 3 3,by simp[results,results137,go_sem,bW],rfl,?_,?_,?_⟩
    ·exact FO
    ·exact(bp _ (ac _ ae (fun T an e=>(A T an).2.1 e.symm))).trans hX.b3
    ·obtain⟨bV,bZ,ca,bc,bd⟩:=hX.msg.msg;have cn:∀d∈w.heap.size::r,h.heap[d]? = some (.deferred (some [])):=fun d aH=>by
      exact FO
     refine⟨bV,bZ,ca.kept (bp c (ac c ae (fun T an e=>(A T an).1 e.symm))),iv bc fun g hg=>?_,iv bd fun g hg=>?_⟩
     ·obtain⟨M,bu⟩:=nZ bc hg;exact bp g (fun e=>by rw[cn g e]at bu;cases bu)
     ·obtain⟨M,bu⟩:=n5 bd hg;exact bp g (fun e=>by rw[cn g e]at bu;cases bu)
    ·obtain⟨aG,aI,aK,bw⟩:=A9 (w.heap.size::r) h;exact hX.tg.same aG aI aK (by rw[bw];exact bb _) fun x hx=>bp x (ac x ae (fun T an e=>by have:=aR T an;omega))
   case round0 =>
    intro cF z x dA h hx a5 cl al dp;obtain⟨y,bf,aS,aT,ad,a3,a8⟩:=a5;have aD:=ki hx;have dl:=oo aD;have bh:=pj (a0 h y.tg) aD;have bq:=ag cS x aD _ _ y.po a3 a8;have ap:=Tn j b i l z hx ae;have bs:=To hx;have cG:=aZ (AK i z) b2;have a6:b<(eS j b i l z).cs.length:=by unfold eS;simp;omega
    have cp:(eS j b i l z).cs.getD b 0<=3001*b+3001:=by
     have h1:(eS j b i l z).cs.getD b 0=l.cs.getD b 0+(g4 i z).length:=by
      unfold eS;rw[fh,zE ae];rfl
     have h2:l.cs.getD b 0<=3001*b:=by
      rw[fh,dV ae];exact aC _ (bM _)
     omega
    have bj:(eS j b i l z).full=false:=rfl;have a9:=fun aP dk=>ag dq aP (AL aD dk);have bk:=(rO j x.2 a9 (eS j b i l z).S.1 (eS j b i l z).S.2).2.2 y.po;generalize eS j b i l (z+1)=Q at *;generalize eS j b i l z=H at *;obtain⟨ai,K⟩:∃c2,bB j x.2 H.S.1 H.S.2=c2:=⟨_,rfl⟩
    rw[K]at bq ap bk;obtain⟨L,a7⟩:=a2 (H.cs.getD b 0);rw[<- a7]at ap cp;have dB:=aW.cell y.fb.b0;have dC:=aW.cell y.fb.b1;obtain⟨dm,ab⟩:=dp;have bA:∀q,bR c u h q->q.heap[w.heap.size+1]? = some (.loop dm)/\q.heap[w.heap.size]? = some (.deferred (some [])):=fun q C =>
     ⟨(C.block (w.heap.size+1) ae ae (.inr ⟨fun D hc=>(by rw[ab]at hc;cases hc),fun D hc=>by rw[ab]at hc;cases hc⟩)).trans ab,(C.block w.heap.size ae ae (.inr ⟨fun D hc=>(by rw[al]at hc;cases hc),fun D hc=>by rw[al]at hc;cases hc⟩)).trans al⟩
    by_cases bz:t<(ai.1.length:Int)
    ·have a1:Hid (az 203 #[aO c,ak t,aF E (P+x.1*4) x.2.length x.2.length] h fun e S =>
       e=.returned (.bool false)/\cj S c u H.S.1 H.S.2/\bR c u h S) :=
      S0 c u E (P+x.1*4) x.2.length t j x.2 H.S.2 H.S.1 h y.msg.msg y.po y.g (aZ cw y.tg.size) br bv bh bE bg av ae a9 (by rw[K];omega) (by rw[K];omega) (by rw[K];exact bz)
     have c0:Hid (F = { H with full:=true }):=by
      have h1:=ag ad;rw[bs,A6 bj (by rw[K];exact bz)]at h1;have h2:=ag cN;rw[<- h1,Ju rfl]at h2;exact h2.symm
     have a_:Hid (∀q,cj q c u H.S.1 H.S.2->bR c u h q ->
       q.cell? (aq (a.heap.size+1+1+1+1) 0)=some (aF (a.heap.size+1+1+1) 0 3 3)/\q.cell? (aq (a.heap.size+1+1) 0)=some (aJ)/\q.frozen? (aq (a.heap.size+1+1) 0)=false /\
       Hid (fi w.heap.size h (q.setCell ⟨a.heap.size+1+1,0,none⟩ (.slice (some ⟨a.heap.size+1+1+1,0,none⟩) 3 3))/\Hx c u a.heap.size a r (F.cs.map fun n:Nat=>(n:Int)) (w.heap.size+1) F.S (q.setCell ⟨a.heap.size+1+1,0,none⟩ (.slice (some ⟨a.heap.size+1+1+1,0,none⟩) 3 3)))):=by
      intro q R C;obtain⟨H2,bS⟩:=bA q C;have N:=y.fit C R y.po ae cd br bv (fun x hx=>(A x hx).1) ⟨fun M hc=>yi,fun M hc=>yi⟩;have B:∀I,I≠a.heap.size+2->(q.setCell ⟨a.heap.size+1+1,0,none⟩ (.slice (some ⟨a.heap.size+1+1+1,0,none⟩) 3 3)).heap[I]? = q.heap[I]?:=fun I G=>bC _ _ _ _ G;have eK:=N.fb.b2;rw[ag c0];refine⟨aW.cell N.fb.b4,aW.cell eK,aW.frozen eK,⟨aZ C.size g8,(B _ ae).trans (bS.trans al.symm),(B _ ae).trans (H2.trans ab.symm)⟩,aW.set eK _,(B _ ae).trans N.fb.b3,rQ N.msg ⟨fun D hc=>yq,fun D hc=>yq⟩ ae B,N.tg.same rfl rfl rfl g8 fun b ao=>B b ae,fun x hx=>(B x (A x hx).2.2.1).trans (N.defs x hx)⟩
     clear y bf aS aT aD bh al ab hx aY aa bt a0 bq ap bs bk bA ad K a7 bj cG a6 cp a9 dl a3 a8 aC b3 b4 aX ay aR A;gi_wp2_with fail;refine⟨aL,?_⟩;gi_wp2_with fail;refine⟨aL,rfl,?_⟩;refine(CallsIn.inRound cF (bK.2 (ag a1))).mono ?_;rintro e q ⟨rfl,R,C⟩;obtain⟨aG,aI,aK,aw⟩:=ag a_ q R C;clear R C a_ a1;gi_wp2_with fail;exact⟨aw.1,rfl,aw.2⟩
    ·have cq:(ai.1.length:Int)<=t:=ae;have a1:Hid (az 203 #[aO c,ak t,aF E (P+x.1*4) x.2.length x.2.length] h fun e S =>
       e=.returned (.bool true)/\cj S c u ai.1 ai.2/\bR c u h S):=by
      have:=SA c u E (P+x.1*4) x.2.length t j x.2 H.S.2 H.S.1 h y.msg.msg y.po y.g (aZ cw y.tg.size) br bv bh bE bg av ae a9 (by rw[K];omega) (by rw[K];omega) (by rw[K];exact cq);rw[K]at this;exact this
     have cz:Hid (ex t j b (((be bH i).map (·.2)).drop (z+1)) Q=ar):=by
      have h1:=ag ad;rw[bs,A7 bj (by rw[K];exact bz),K,<- a7]at h1;rw[Hid,ap];exact h1
     have bF:Q.S=ai:=by rw[ap]
     have cO:(Q.cs.map fun n:Nat=>(n:Int))=(H.cs.map fun n:Nat=>(n:Int)).set b (L+x.2.length:Int):=by rw[ap,zF];simp
     have cc:(H.cs.map fun n:Nat=>(n:Int))[b]? = some (L:Int):=by rw[nR,dV a6,a7,fh,dV a6];rfl
     have a_:Hid (∀q,cj q c u ai.1 ai.2->bR c u h q ->
       q.cell? (aq (a.heap.size+1+1+1+1) 0)=some (aF (a.heap.size+1+1+1) 0 3 3)/\q.cell? (aq o.heap.size 0)=some (ak b)/\q.cell? (aq (a.heap.size+1+1+1) b)=some (ak L)/\q.frozen? (aq (a.heap.size+1+1+1) b)=false /\
       Hid (fi w.heap.size h (q.setCell ⟨a.heap.size+1+1+1,b,none⟩ (.int .i64 (L+x.2.length:Int)))/\(∀b5∈[o.heap.size+1,o.heap.size+1+1,E],(q.setCell ⟨a.heap.size+1+1+1,b,none⟩ (.int .i64 (L+x.2.length:Int))).heap[b5]? = h.heap[b5]?) /\
        (oI c u a.heap.size lb t #[X,Y,Z] a r (Q.cs.map fun n:Nat=>(n:Int)) (w.heap.size+1) Q.S (q.setCell ⟨a.heap.size+1+1+1,b,none⟩ (.int .i64 (L+x.2.length:Int)))/\aW (q.setCell ⟨a.heap.size+1+1+1,b,none⟩ (.int .i64 (L+x.2.length:Int))) o.heap.size (ak b) 3/\aW (q.setCell ⟨a.heap.size+1+1+1,b,none⟩ (.int .i64 (L+x.2.length:Int))) (o.heap.size+1) (.slice b8 i.length b9) 41/\aW (q.setCell ⟨a.heap.size+1+1+1,b,none⟩ (.int .i64 (L+x.2.length:Int))) (o.heap.size+1+1) (.func (.func 177) #[] #[]) 261 /\
         Hid (ex t j b (((be bH i).map (·.2)).drop (z+1)) Q=ar)/\Q.S.1.length<=1300/\Q.S.2.length<=Q.S.1.length+300))):=by
      intro q R C;obtain⟨H2,bS⟩:=bA q C;have N:=y.fit C R bk ae cd br bv (fun x hx=>(A x hx).1) ⟨fun M hc=>yi,fun M hc=>yi⟩;have cP:=pR bf C ae ba ba;have cQ:=pR aS C ae ba ba;have cR:=pR aT C ae ba ba;have c8:=N.set b (L+x.2.length:Int) ae ae av (fun x hx=>(A x hx).2.1);have B:∀I,I≠a.heap.size+3->(q.setCell ⟨a.heap.size+1+1+1,b,none⟩ (.int .i64 (L+x.2.length:Int))).heap[I]? = q.heap[I]?:=fun I G=>bC _ _ _ _ G;refine⟨aW.cell N.fb.b4,aW.cell cP,(N.fb.b3.cell b (by rw[bD];exact a6)).trans (by rw[(fy.1 cc).2]),N.fb.b3.frozen b,⟨aZ C.size g8,(B _ ae).trans (bS.trans al.symm),(B _ ae).trans (H2.trans ab.symm)⟩,fun b5 G=>?_,?_,aW.kept cP (B _ ae),aW.kept cQ (B _ ae),aW.kept cR (B _ ae),cz,by rw[bF];omega,by rw[bF];exact bq.2.2⟩
      ·simp only[co,lE,kd]at G;rcases G with rfl|rfl|rfl
       ·exact(B _ ae).trans (cQ.trans aS.symm)
       ·exact(B _ ae).trans (cR.trans aT.symm)
       ·exact(B _ ae).trans (C.block _ (by have:=y.tg.size;omega) bg (.inl bE))
      ·rw[bF,cO];exact c8
     clear y bf aS aT aD bh al ab hx aY aa bt a0 bq ap bs bk bA ad K a7 bj cG a6 a9 a3 a8 aC b3 b4 aX ay aR A bF cO cc cz bz cq;gi_wp2_with fail;refine⟨aL,?_⟩;gi_wp2_with fail;refine⟨aL,rfl,?_⟩;refine(CallsIn.inRound cF (bK.2 (ag a1))).mono ?_;rintro e q ⟨rfl,R,C⟩;obtain⟨aG,aI,aK,bw,aw⟩:=ag a_ q R C;clear R C a_ a1;gi_wp2_with fail;exact⟨aw.1,aw.2.1,aw.2.2⟩
   case atM =>
    intro h a5 dx cl;obtain⟨y,bf,aS,aT,ad,a3,a8⟩:=a5;have cA:eS j b i l (be bH i).length=ar:=by
     have:=ag ad;rw[uY (by rw[bD];exact bb _)]at this;exact this
    have ck:=af y;have cT:=af cA;clear y bf aS aT ad cA aY aa bt a0;gi_wp2_with fail;refine⟨⟨b+1,w.heap.size::r,eS j b i l (be bH i).length,_,_,_,_,_,_,_,_,_,rfl,ae,⟨zL.2 ⟨fun k=>by have:=(A _ k).2.2.2;omega,ay⟩,fun x hx=>?_⟩,?_,rfl,fun D hc=>?_,a3,a8,?_,?_⟩,ci⟩
    ·rcases co.1 hx with rfl|hx
     ·omega
     ·exact aR x hx
    ·unfold eS;simp;exact dj
    ·unfold eS at hc;rcases zJ hc with hc|hc
     ·have:=aC D hc;omega
     ·have h2:l.cs.getD b 0<=3001*b:=by
       rw[fh,dV ae];exact aC _ (bM _)
      have:=aZ (AK i (be bH i).length) b2;omega
    ·have k:=ck.re c (by
      obtain⟨vb,vp,h1,_⟩:=ck.msg.msg;unfold bJ at h1;exact⟨fun M hc=>ys,fun M hc=>ys⟩)
     exact⟨k.fb,k.lists,k.msg,k.po,k.g,k.tg,fun x hx=>by
      rcases co.1 hx with rfl|hx
      ·exact dx
      ·exact k.defs x hx⟩
    ·rw[Hid,ag cT];exact cN
  ·obtain rfl:b=3:=ae;have nA:=ag a4;have A:∀x∈r,x≠c/\x≠a.heap.size+3/\x≠a.heap.size+2/\x<o.heap.size:=fun x hx=>E3
   have cB:l=F:=ag bm;have aG:=aW.cell nA.fb.b4;have aI:=aW.cell nA.fb.b2;have aK:=aW.frozen nA.fb.b2;have hX:Hid (Hx c u a.heap.size a r (F.cs.map fun n:Nat=>(n:Int)) c F.S (o.setCell ⟨a.heap.size+1+1,0,none⟩ (.slice (some ⟨a.heap.size+1+1+1,0,none⟩) 3 3))):=by
    rw[<- cB];have B:∀I,I≠a.heap.size+2->(o.setCell ⟨a.heap.size+1+1,0,none⟩ (.slice (some ⟨a.heap.size+1+1+1,0,none⟩) 3 3)).heap[I]? = o.heap[I]?:=fun I G=>bC _ _ _ _ G;have eK:=nA.fb.b2;exact⟨aW.set eK _,(B _ ae).trans nA.fb.b3,rQ nA.msg ⟨fun D hc=>yq,fun D hc=>yq⟩ ae B,nA.tg.same rfl rfl rfl g8 fun b ao=>B b ae,fun x hx=>(B x (A x hx).2.2.1).trans (nA.defs x hx)⟩
   clear nA a4 bm bO bP bY cB ao bI aC;have c9:=af A;have cV:=af ay;have cZ:=af aR;clear A ay aR;have c1:Hid (∀h,Hx c u a.heap.size a r (F.cs.map fun n:Nat=>(n:Int)) c F.S h->(iS r h).cell? (aq (a.heap.size+1+1) 0)=some (aF (a.heap.size+3) 0 3 3)/\f_ (iS r h) (a.heap.size+3) (F.cs.map fun n:Nat=>(n:Int)) 3/\cj (iS r h) c u F.S.1 F.S.2/\bR c u a (iS r h)):=fun h hX=>by
    have A:=ag c9;have bp:∀x,x ∉ r->(iS r h).heap[x]? = h.heap[x]?:=fun x b0=>A8 _ h x b0;refine⟨(b7 (bp (a.heap.size+2) (fun k=>(A _ k).2.2.1 rfl))).trans (aW.cell hX.b2),(bp _ (fun k=>(A _ k).2.1 rfl)).trans hX.b3,?_,?_⟩
    ·obtain⟨bV,bZ,ca,bc,bd⟩:=hX.msg.msg;refine⟨bV,bZ,ca.kept (bp c (fun k=>(A _ k).1 rfl)),iv bc fun g hg=>?_,iv bd fun g hg=>?_⟩
     ·obtain⟨M,bu⟩:=nZ bc hg;exact Fd
     ·obtain⟨M,bu⟩:=n5 bd hg;exact Fd
    ·obtain⟨aG,aI,aK,bw⟩:=A9 r h;exact hX.tg.same aG aI aK (by rw[bw];exact bb _) fun x hx=>bp x (fun k=>by have:=ag cZ x k;omega)
   gi_wp2_with fail;generalize o.setCell ⟨a.heap.size+1+1,0,none⟩ (.slice (some ⟨a.heap.size+1+1+1,0,none⟩) 3 3)=h at *;have hX:=ag hX;obtain⟨bW,O,bl,da⟩:=ag c1 h hX;exact A_ r h (ag cV) (fun d aH=>hX.defs d aH) ⟨aF (a.heap.size+3) 0 3 3,by simp[results,results137,go_sem,bW],rfl,O,bl,da⟩
end
def Bb(v:Value):Prop:=∃a b g h i j n o d e:Int,∃k l:ah,∃c:Bool,v=cP a b g h i j k l n o c d e
theorem I3(b c d e:Int)(a:World):(part 3 #[ak b,ak c,ak d,ak e] 0).run prog a=.ok (ak b) a:=aB
theorem I4(c b d e:Int)(a:World):(part 3 #[ak c,ak b,ak d,ak e] 1).run prog a=.ok (ak b) a:=aB
theorem I5(c d b e:Int)(a:World):(part 3 #[ak c,ak d,ak b,ak e] 2).run prog a=.ok (ak b) a:=aB
theorem I6(c d e b:Int)(a:World):(part 3 #[ak c,ak d,ak e,ak b] 3).run prog a=.ok (ak b) a:=aB
theorem Tq(a:World):(sizeOf 3).run prog a=.ok 1 a:=aB
theorem Cn{P:Prop}(h:P:=by by_cases h:p=q<;>simp[h]):P:=h
theorem I7(b c d e i j k g:Int)(a:World):(Op.equalIn 10000 131 (.agg #[ak b,ak c,ak d,ak e]) (.agg #[ak i,ak j,ak k,ak g])).run prog a=.ok (b==i&&(c==j&&(d==k&&e==g))) a:=by
 have u:prog.underlying 131=some (.array 4 3):=aB;have ao:prog.underlying 3=some (.int .i64):=aB;rw[show(10000:Nat)=9998+1+1 from rfl,Op.equalIn];simp only[Sem.run_bind,zv u,qC,Tq];rw[Std.Legacy.Range.forIn_eq_forIn_range'];simp only[Std.Legacy.Range.size,List.range',Nat.reduceAdd,Nat.reduceSub,Nat.reduceDiv,List.forIn_cons,List.forIn_nil,lV,cT,Sem.run_bind,I3,I4,I5,I6,qC,run_equalIn_int a 9998 _ _ _ _ _ ao];have l:∀p q:Int,(p==q)=decide (p=q):=fun p q=>Cn
 simp only[l];by_cases n:b=i<;>by_cases o:c=j<;>by_cases r:d=k<;>by_cases t:e=g<;>simp[n,o,r,t,I3,I4,I5,I6,run_equalIn_int _ 9998 _ _ _ _ _ ao]
theorem Tr(x r d ap e c:Int)(m:ah)(w:World)(l:¬(d=1/\ap=0/\e=0/\(c=0\/c=1))):az 72 #[.agg #[ak x,ak r,ak d,ak ap,ak e,ak c],au m] w fun t y=>t=.returned (.tuple #[cP 0 0 0 0 0 0 [] [] 0 0 false 0 0,.bool false])/\ax w y:=by
 have A:∀a:World,(Op.equalIn 10000 131 (.agg #[ak d,ak ap,ak e,ak c]) (.agg #[ak 1,ak 0,ak 0,ak 0])).run prog a=.ok false a:=fun a=>by{
 have b:∀p q:Int,(p==q)=decide (p=q):=fun p q=>Cn
 rw[I7,b,b,b,b];congr 1;by_cases g:d=1<;>by_cases i:ap=0<;>by_cases j:e=0<;>by_cases k:c=0<;>simp[g,i,j,k];exact l ⟨g,i,j,.inl k⟩};have z:∀a:World,(Op.equalIn 10000 131 (.agg #[ak d,ak ap,ak e,ak c]) (.agg #[ak 1,ak 0,ak 0,ak 1])).run prog a=.ok false a:=fun a=>by{
 have b:∀p q:Int,(p==q)=decide (p=q):=fun p q=>Cn
 rw[I7,b,b,b,b];congr 1;by_cases g:d=1<;>by_cases i:ap=0<;>by_cases j:e=0<;>by_cases k:c=1<;>simp[g,i,j,k];exact l ⟨g,i,j,.inr k⟩};clear l;go_enter func72,ntmps72;go_wp2_with fail;refine cc (v:=.tuple #[cP 0 0 0 0 0 0 [] [] 0 0 false 0 0,.bool false]) (by simp[results,results72,go_sem,cP];try rfl) rfl ⟨rfl,?_⟩;have o:∀(a:World) (n:Nat) (v:Value),ax w a->ax w (a.setCell ⟨w.heap.size+1,n,none⟩ v):=fun a n v u=>u.setCell (p:=⟨w.heap.size+1,n,none⟩) c9 v;repeat' apply o
 exact((aE.alloc av _).alloc am _).alloc aA _
end Go.Proofs.YtkkpahmoljiepaaGreatDoor
