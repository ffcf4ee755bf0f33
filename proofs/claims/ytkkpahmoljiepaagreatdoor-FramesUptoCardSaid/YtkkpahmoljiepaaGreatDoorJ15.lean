import Derived.Test.YtkkpahmoljiepaaGreatDoorJ12
set_option maxRecDepth 1000000
set_option maxHeartbeats 12800000
set_option linter.unusedSimpArgs false
set_option linter.unusedVariables false
namespace Go.Proofs.YtkkpahmoljiepaaGreatDoor
open Go.RowKit Go.Proofs.Tryz
section
attribute [local go_sem] Oper.semAt_some
structure my where
 S:ah×cY
 cs:List Nat
 full:Bool
def ex(e:Int)(b:aj->List eF)(d:Nat):List (List aj)->my->my
 | [],a=>a
 | c::g,a=>if a.full=true then a else if e<((bB b c a.S.1 a.S.2).1.length:Int)then { a with full:=true }
  else ex e b d g { a with S:=bB b c a.S.1 a.S.2,cs:=a.cs.set d (a.cs.getD d 0+c.length) }
def gy(d:Int)(b:aj->List eF):Nat->List (List aj)->my->my
 | _,[],a=>a
 | c,e::g,a=>gy d b (c+1) g (ex d b c ((be bH e).map (·.2)) a)
theorem wi{g:Int}{c:aj->List eF}{e:Nat}{a:List (List aj)}{b:my}(d:b.full=true):ex g c e a b=b:=by
 cases a with
 | nil=>rfl
 | cons h a=>unfold ex;rw[ay d]
theorem Ju{g:Int}{e:aj->List eF}: ∀ {c:Nat} {d:List (List aj)} {a:my},a.full=true->gy g e c d a=a
 | _,[],_,_=>rfl
 | c,h::d,a,b=>by unfold gy;rw[wi b];exact Ju b
theorem A6{d:Int}{b:aj->List eF}{i:Nat}{c:List aj}{e:List (List aj)}{a:my}(h:a.full=false)(g:d<((bB b c a.S.1 a.S.2).1.length:Int)):ex d b i (c::e) a = { a with full:=true }:=by unfold ex;rw[ar qj,ay g]
theorem A7{e:Int}{b:aj->List eF}{d:Nat}{c:List aj}{g:List (List aj)}{a:my}(h:a.full=false)(i:¬e<((bB b c a.S.1 a.S.2).1.length:Int)):ex e b d (c::g) a=ex e b d g { a with S:=bB b c a.S.1 a.S.2,cs:=a.cs.set d (a.cs.getD d 0+c.length) }:=by
 conv=>lhs;unfold ex
 rw[ar qj,ar i]
def iS(c:List Nat)(a:World):World:=c.foldl (fun a b=>a.putObj b (.deferred none)) a
theorem A8:∀(b:List Nat) (c:World) (a:Nat),a ∉ b->(iS b c).heap[a]? = c.heap[a]?
 | [],_,_,_=>rfl
 | e::b,c,a,d=>by simp only[co,pB]at d;show(iS b (c.putObj e (.deferred none))).heap[a]? = _;rw[A8 b _ a d.2,World.putObj_heap_other d.1]
theorem A9:∀(b:List Nat) (a:World),(iS b a).os=a.os/\(iS b a).tape=a.tape/\(iS b a).output=a.output/\(iS b a).heap.size=a.heap.size
 | [],_=>⟨rfl,rfl,rfl,rfl⟩
 | d::b,a=>by have c:=A9 b (a.putObj d (.deferred none));exact⟨c.1,c.2.1,c.2.2.1,c.2.2.2.trans (by simp[World.putObj_size])⟩
def Jv(a:Nat):Deferred:={ target:=.collected a,args:=#[] }
theorem A_{l:Fence}{p:Nat}{h:Func}{k:Array Value}{e:Ending->World->Prop}: ∀(a:List Nat) (b:World),a.Nodup->(∀c∈a,b.heap[c]? = some (.deferred (some [])))->(∃v,(results h k).run prog (iS a b)=.ok v (iS a b)/\e (.returned v) (iS a b))->LeavesInM l p prog h k e (a.map Jv) .returning b
 | [],_,_,_,d=>d
 | c::a,b,o,g,d=>by have i:=zL.1 o;refine⟨am,.inl ⟨c,b.putObj c (.deferred none),rfl,run_takeDeferred (g c am),?_⟩⟩;exact A_ a _ i.2 (fun q j=>(World.putObj_heap_other (fun n=>i.1 (by rw[<- n];exact j))).trans (g q (by simp[j]))) d
def eS(e:aj->List eF)(b:Nat)(d:List aj)(a:my)(c:Nat):my:=⟨bB e (g4 d c) a.S.1 a.S.2,a.cs.set b (a.cs.getD b 0+(g4 d c).length),false⟩
theorem Ba(d:aj->List eF)(b:Nat)(g:List aj)(a:my)(ao:b<a.cs.length)(c:a.full=false):eS d b g a 0=a:=by unfold eS;rw[Sh];have e:a.cs.set b (a.cs.getD b 0+([]:List aj).length)=a.cs:=by{rw[fh,dV ao];simp};rw[e];cases a;simp only at c;subst c;rfl
theorem Tn(e:aj->List eF)(a:Nat)(d:List aj)(b:my)(c:Nat){g:Nat×List aj}(i:(be bH d)[c]? = some g)(ao:a<b.cs.length):eS e a d b (c+1) = { eS e a d b c with S:=bB e g.2 (eS e a d b c).S.1 (eS e a d b c).S.2,cs:=(eS e a d b c).cs.set a ((eS e a d b c).cs.getD a 0+g.2.length) }:=by unfold eS;rw[Si i,HT,a6];have h:(b.cs.set a (b.cs.getD a 0+(g4 d c).length)).getD a 0=b.cs.getD a 0+(g4 d c).length:=by{rw[fh,zE (by exact ao)];rfl};simp only[h,List.set_set,nE]
theorem To{b:List aj}{a:Nat}{d:Nat×List aj}(c:(be bH b)[a]? = some d):((be bH b).map (·.2)).drop a=d.2::((be bH b).map (·.2)).drop (a+1):=by have g:=(fy.1 c).1;have e:=(fy.1 c).2;rw[fQ (by rw[bD];exact g),kT,e]
theorem Fd{P:Prop}(h:P:=by exact bp g (fun e=>by rw[hX.defs g e]at bu;cases bu)):P:=h
theorem FO{P:Prop}(h:P:=by have h2:=nA.fb.b2;unfold aW at h2;rw[e,h2]at aH;cases aH):P:=h
theorem F4{P:Prop}(h:P:=by have h3:=nA.fb.b3;unfold f_ at h3;rw[e,h3]at aH;cases aH):P:=h
theorem yi{P:Prop}(h:P:=by rw[H2]at hc;cases hc):P:=h
theorem E3{P:Prop}(h:P:=by obtain⟨vb,vp,h1,_⟩:=nA.msg.msg;unfold bJ at h1;rw[e,h1]at aH;cases aH):P:=h
theorem yq{P:Prop}(h:P:=by rw[eK]at hc;simp at hc):P:=h
theorem Tp(d w lb:Nat)(u:Int)(j:aj->List eF)(X Y Z:Value)(U V W:List aj)(J:ah×cY)(b:World)(b3:cj b d w J.1 J.2) (cN:jk J.2) (hg:bT b) (cz:w<=b.heap.size) (bt:0<w) (bz:0<d)(cd:b.heap[lb]? = some (.cells #[X,Y,Z] 41)) (cf:lb≠d)(cG:∀c,c<3->∃aw n D i E P,[X,Y,Z][c]? = some (.slice aw n D)/\[U,V,W].drop c=i::[U,V,W].drop (c+1)/\qW (.slice aw n D) E P i/\cy b E P i/\E<w/\E≠d/\i.length<=3001/\(∀a∈i,qD a (j a))/\n=i.length /\
   ∀a∈be bH i,∀(aN:ah) (aP:cY),jk aP->aN.length<=1300->aP.length<=aN.length+300->(bB j a.2 aN aP).1.length<=50000/\(bB j a.2 aN aP).2.length<=20000/\(bB j a.2 aN aP).2.length<=(bB j a.2 aN aP).1.length+300)(dH:u<=1300) (dh:J.1.length<=1300) (de:J.2.length<=J.1.length+300):az 137 #[aO d,ak u,aF lb 0 3 3] b fun e S=>e=.returned (aF (b.heap.size+3) 0 3 3)/\f_ S (b.heap.size+3) ((gy u j 0 [U,V,W] ⟨J,[0,0,0],false⟩).cs.map fun n:Nat=>(n:Int)) 3/\cj S d w (gy u j 0 [U,V,W] ⟨J,[0,0,0],false⟩).S.1 (gy u j 0 [U,V,W] ⟨J,[0,0,0],false⟩).S.2/\bR d w b S:=by
 have dw:=b3.lt;have c6:=(bn.1 cd).1;have dG:=hg.1;have bQ:=af cG;have cg:Hid (∀q,ax b q->yu b.heap.size d u [0,0,0] q->oI d w b.heap.size lb u #[X,Y,Z] b [] [0,0,0] d J q):=fun q br y=>by
  have di:bR d w b q:=bR.qB br;exact⟨y,(br.block lb c6).trans cd,wA (b3.below br),cN,hg.below br,di,fun a l=>by cases l⟩
 obtain⟨F,bO⟩:∃cX,gy u j 0 [U,V,W] ⟨J,[0,0,0],false⟩=cX:=⟨_,rfl⟩
 rw[bO];have b0:=af bO;clear b3 cN hg cd cG bO;refine(bK (n:=0)).1 ?_;refine callsIn_of_wp_marks func137 rfl aL ?_;simp only[ntmps137,ib,bi,cW,Nat.reduceAdd,Nat.reduceSub,h_,ik,im,il,dJ,dF];have dq:=Sl;gi_wp2_with fail;obtain⟨c5,cb⟩:∃q,q=(((((b.alloc (.cells #[.pointer (some ⟨d,0,none⟩)] 216)).alloc (.cells #[.int .i64 u] 3)).alloc (.cells #[.slice none 0 0] 56)).alloc (.cells #[.int .i64 0,.int .i64 0,.int .i64 0] 3)).alloc (.cells #[.slice (some ⟨b.heap.size+1+1+1,0,none⟩) 3 3] 56)):=⟨_,rfl⟩
 have bS:Hid (oI d w b.heap.size lb u #[X,Y,Z] b [] [0,0,0] d J c5):=by
  rw[cb];refine ag cg _ ((((aE.alloc av _).alloc am _).alloc aA _).alloc aA _ |>.alloc aA _) ?_;have dr:=World.alloc_heap_new b (.cells #[.pointer (some ⟨d,0,none⟩)] 216);have cJ:=World.alloc_heap_new (b.alloc (.cells #[.pointer (some ⟨d,0,none⟩)] 216)) (.cells #[.int .i64 u] 3);have cK:=World.alloc_heap_new ((b.alloc (.cells #[.pointer (some ⟨d,0,none⟩)] 216)).alloc (.cells #[.int .i64 u] 3)) (.cells #[.slice none 0 0] 56);have cL:=World.alloc_heap_new (((b.alloc (.cells #[.pointer (some ⟨d,0,none⟩)] 216)).alloc (.cells #[.int .i64 u] 3)).alloc (.cells #[.slice none 0 0] 56)) (.cells #[.int .i64 0,.int .i64 0,.int .i64 0] 3);have cM:=World.alloc_heap_new ((((b.alloc (.cells #[.pointer (some ⟨d,0,none⟩)] 216)).alloc (.cells #[.int .i64 u] 3)).alloc (.cells #[.slice none 0 0] 56)).alloc (.cells #[.int .i64 0,.int .i64 0,.int .i64 0] 3)) (.cells #[.slice (some ⟨b.heap.size+1+1+1,0,none⟩) 3 3] 56);simp only[cv]at cJ cK cL cM;refine⟨?_,?_,?_,?_,cM⟩
  ·exact(bx _ _ _ cu).trans ((bx _ _ _ cu).trans ((bx _ _ _ cu).trans ((bx _ _ _ cu).trans dr)))
  ·exact(bx _ _ _ cu).trans ((bx _ _ _ cu).trans ((bx _ _ _ cu).trans cJ))
  ·exact(bx _ _ _ cu).trans ((bx _ _ _ cu).trans cK)
  ·exact(bx _ _ _ cu).trans cL
 rw[<- cb];clear cb cg dq;refine wpIn_loop (fun aw h=>∃(c:Nat) (t:List Nat) (o:my) (u8 u9 ch ck cl u20 u21 u22 u38:Value),aw=⟨#[aO d,ak u,aF lb 0 3 3,aO b.heap.size,aO (b.heap.size+1),undef,aO (b.heap.size+1+1),aO (b.heap.size+1+1+1+1),u8,u9,undef,aF lb 0 3 3,ak 3,aF (b.heap.size+1+1+1) 0 3 3,aF lb 0 3 3,ak 3,ak c,ch,ck,cl,u20,u21,u22,undef,undef,undef,undef,undef,undef,undef,undef,undef,undef,undef,undef,undef,undef,undef,u38,undef],t.map Jv⟩/\c<=3/\(t.Nodup/\∀a∈t,b.heap.size<=a)/\o.cs.length=3/\o.full=false/\(∀D∈o.cs,D<=3001*c)/\o.S.1.length<=1300/\o.S.2.length<=o.S.1.length+300/\Hid (oI d w b.heap.size lb u #[X,Y,Z] b t (o.cs.map fun n:Nat=>(n:Int)) d o.S h)/\Hid (gy u j c ([U,V,W].drop c) o=F)) (fun aw _=>3-(intOf (aw.tmps.getD 16 undef)).toNat) ?_ ?_
 ·exact⟨0,[],⟨J,[0,0,0],false⟩,undef,undef,undef,undef,undef,undef,undef,undef,undef,rfl,ae,⟨List.nodup_nil,fun a l=>by cases l⟩,rfl,rfl,(fun D hc=>by simp at hc;omega),dh,de,bS,b0⟩
 ·rintro _ q ⟨c,t,o,u8,u9,ch,ck,cl,u20,u21,u22,u38,rfl,ao,⟨aC,aS⟩,dl,aY,aD,b5,b6,a5,bq⟩;by_cases bN:c<3
  ·have dx:(c:Int)<3:=ae;obtain⟨b_,dI,ca,i,E,P,O,bo,ct,bZ,bG,bh,b4,cO,rfl,cF⟩:=ag bQ c bN;have dk:q.cell? (aq lb c)=some (.slice b_ i.length ca):=by
    have:=a5.lists;unfold World.cell?;rw[this]
    match c,bN,O with
    | 0,_,O=>simpa using O
    | 1,_,O=>simpa using O
    | 2,_,O=>simpa using O
   have nA:=ag a5;have A:∀a∈t,a≠d/\a≠b.heap.size+3/\a≠b.heap.size+2/\a<q.heap.size:=fun a l=>by
    have aH:=nA.defs a l;refine⟨fun e=>?_,fun e=>?_,fun e=>?_,(bn.1 aH).1⟩
    ·exact E3
    ·exact F4
    ·exact FO
   have dy:=nA.fb.lt;have dz:=nA.msg.msg.lt;have dA:=nA.tg.size;gi_wp2_with fail;refine⟨aL,rfl,?_⟩;refine(bK.2 (Sg _ _ _ _)).mono ?_;rintro e x ⟨rfl,cA,b9,bW,bU⟩;have cx:aW x q.heap.size (ak c) 3:=(aW.mZ _ _ _).below b9 am;have cw:ax q x:=(aE.alloc av _).trans (b9.mono am);simp only[cv]at cA bW bU;have dK:q.heap.size+3<=x.heap.size:=ae;have bL:=af (Ba j c i o ae aY);have a0:Hid (oI d w b.heap.size lb u #[X,Y,Z] b t ((eS j c i o 0).cs.map fun n:Nat=>(n:Int)) (x.heap.size+1) (eS j c i o 0).S x):=by
    rw[Hid,ag bL];exact(nA.below cw).re _ ⟨fun M hc=>by have:=(bn.1 hc).1;omega,fun M hc=>by have:=(bn.1 hc).1;omega⟩
   have aa:=af (aQ cx (aQ bW bU));obtain⟨au,bP⟩:∃s,ex u j c ((be bH i).map (·.2)) o=s:=⟨_,rfl⟩
   have cP:Hid (gy u j (c+1) ([U,V,W].drop (c+1)) au=F):=by
    have:=ag bq;rw[bo,gy,bP]at this;exact this
   have dd:Hid (ex u j c (((be bH i).map (·.2)).drop 0) (eS j c i o 0)=au):=by rw[Hid,ag bL,kg];exact bP
   have dt:=af cO;have cU:=af cF;have dv:=af bZ;have c7:=af ct;have c0:=bZ.1;clear cA b9 cx bW bU cw dk a5 nA bP bq O bo cO cF bZ ct bQ bS b0 bL;gi_wp2_with fail;have bw:∀aR,ax x ((x.alloc (.deferred (some []))).alloc (.loop aR)):=fun aR=>(aE.alloc av _).alloc am _;have a1:∀h,bR d w b h->cy h E P i:=fun h cE=>m3 (ag dv) cE.size (cE.block E c0 bh (.inl bG));refine Ao (xs:=be bH i) (encs:=fun a:Nat×List aj=>#[aF E (P+a.1*4) a.2.length a.2.length]) (St:=fun aV aX=>ax aV aX) (Kp:=fI (q.heap.size+1) (q.heap.size+1+1) E) (Kx:=fun _ _=>True)
    (gf:=233) (lb:=#[aO (q.heap.size+1),aO (q.heap.size+1+1)]) rfl (enters_of func233 aB rfl) (fun _=>rfl) ?atL
    [q.heap.size+1,q.heap.size+1+1,E] aA (fun aV aX k=>k) (fun aV aX k df=>⟨df,k _ am,k _ am,k _ am⟩) (fun _ _=>aL)
    (fun z h=>oI d w b.heap.size lb u #[X,Y,Z] b t ((eS j c i o z).cs.map fun n:Nat=>(n:Int)) (x.heap.size+1) (eS j c i o z).S h/\aW h q.heap.size (ak c) 3/\aW h (q.heap.size+1) (.slice b_ i.length ca) 41/\aW h (q.heap.size+1+1) (.func (.func 177) #[] #[]) 261 /\
     Hid (ex u j c (((be bH i).map (·.2)).drop z) (eS j c i o z)=au)/\(eS j c i o z).S.1.length<=1300/\(eS j c i o z).S.2.length<=(eS j c i o z).S.1.length+300)
    (fun D h=>D=.ret/\Hx d w b.heap.size b t (F.cs.map fun n:Nat=>(n:Int)) (x.heap.size+1) F.S h)
    (fun z aV aX k dg G=>⟨k.1.keeps G ae ae ae ae (fun a l=>by have:=(A a l).2.2.2;omega),aW.kept k.2.1 (G.block _ (aW.lt k.2.1) ae),aW.kept k.2.2.1 (G.block _ (aW.lt k.2.2.1) ae),aW.kept k.2.2.2.1 (G.block _ (aW.lt k.2.2.2.1) ae),k.2.2.2.2⟩)
    (fun D aV aX k dg G=>⟨k.1,k.2.keeps G ae ae ae (fun a l=>by have:=(A a l).2.2.2;omega)⟩)
    ⟨a0,aa.1,aa.2.1,aa.2.2,dd,by rw[Ba j c i o ae aY];exact b5,by rw[Ba j c i o ae aY];exact b6⟩
    ?round0 ?atM ?atN
   case atL =>
    intro aR;have hg:=bw aR;exact As _ E P _ _ i _ (ag c7) ((hg.cell (p:=⟨q.heap.size+1,0,none⟩) (by show q.heap.size+1<x.heap.size;omega)).trans (aW.cell aa.2.1)) ((hg.cell (p:=⟨q.heap.size+1+1,0,none⟩) (by show q.heap.size+1+1<x.heap.size;omega)).trans (aW.cell aa.2.2)) ((a1 x a0.tg).below hg) ij ij b4
   case atN =>
    intro D h a6 bm cn;obtain⟨rfl,hX⟩:=a6;have dj:=aW.lt hX.b2;have dB:=hX.msg.msg.lt;have cp:x.heap.size ∉ t:=fun k=>by have:=(A _ k).2.2.2;omega
    have bp:∀a,a ∉ x.heap.size::t->(iS (x.heap.size::t) h).heap[a]? = h.heap[a]?:=fun a b2=>A8 _ h a b2;have ac:∀a,a<x.heap.size->(∀T∈t,a≠T)->a ∉ x.heap.size::t:=fun a h1 h2 k=>by
     rcases co.1 k with k|k
     ·omega
     ·exact h2 a k rfl
    have bY:(iS (x.heap.size::t) h).cell? (aq (b.heap.size+1+1) 0)=some (aF (b.heap.size+3) 0 3 3):=(b7 (bp (b.heap.size+2) (ac _ ae (fun T ap e=>(A T ap).2.2.1 e.symm)))).trans (aW.cell hX.b2);have db:=af hX;have c8:=af cp;have c9:=af ac;have du:=af bp;clear hX dj cp ac bp;gi_wp2_with fail;have hX:=ag db;have bp:=ag du;have ac:=ag c9;refine A_ (x.heap.size::t) h (zL.2 ⟨c8,aC⟩) (fun al aH=>?_) ⟨aF (b.heap.size+3) 0 3 3,by simp[results,results137,go_sem,bY],rfl,?_,?_,?_⟩
    ·rcases co.1 aH with rfl|aH
     ·exact bm
     ·exact hX.defs al aH
    ·exact(bp _ (ac _ ae (fun T ap e=>(A T ap).2.1 e.symm))).trans hX.b3
    ·obtain⟨bX,b1,cc,bd,bf⟩:=hX.msg.msg;have cq:∀al∈x.heap.size::t,h.heap[al]? = some (.deferred (some [])):=fun al aH=>by
      rcases co.1 aH with rfl|aH
      ·exact bm
      ·exact hX.defs al aH
     refine⟨bX,b1,cc.kept (bp d (ac d ae (fun T ap e=>(A T ap).1 e.symm))),iv bd fun g hg=>?_,iv bf fun g hg=>?_⟩
     ·obtain⟨M,bu⟩:=nZ bd hg;exact bp g (fun e=>by rw[cq g e]at bu;cases bu)
     ·obtain⟨M,bu⟩:=n5 bf hg;exact bp g (fun e=>by rw[cq g e]at bu;cases bu)
    ·obtain⟨aI,aK,aM,bA⟩:=A9 (x.heap.size::t) h;exact hX.tg.same aI aK aM (by rw[bA];exact bb _) fun a l=>bp a (ac a ae (fun T ap e=>by have:=aS T ap;omega))
   case round0 =>
    intro cH z a dC h l a6 cn an ds;obtain⟨y,bg,aT,aU,ad,a4,a9⟩:=a6;have aG:=ki l;have dn:=oo aG;have bj:=pj (a1 h y.tg) aG;have bs:=ag cU a aG _ _ y.po a4 a9;have ar:=Tn j c i o z l ae;have bv:=To l;have cI:=aZ (AK i z) b4;have a7:c<(eS j c i o z).cs.length:=by unfold eS;simp;omega
    have cr:(eS j c i o z).cs.getD c 0<=3001*c+3001:=by
     have h1:(eS j c i o z).cs.getD c 0=o.cs.getD c 0+(g4 i z).length:=by
      unfold eS;rw[fh,zE ae];rfl
     have h2:o.cs.getD c 0<=3001*c:=by
      rw[fh,dV ae];exact aD _ (bM _)
     omega
    have bk:(eS j c i o z).full=false:=rfl;have a_:=fun aR dm=>ag dt aR (AL aG dm);have bl:=(rO j a.2 a_ (eS j c i o z).S.1 (eS j c i o z).S.2).2.2 y.po;generalize eS j c i o (z+1)=Q at *;generalize eS j c i o z=H at *;obtain⟨ai,K⟩:∃c4,bB j a.2 H.S.1 H.S.2=c4:=⟨_,rfl⟩
    rw[K]at bs ar bl;obtain⟨L,a8⟩:=a2 (H.cs.getD c 0);rw[<- a8]at ar cr;have dD:=aW.cell y.fb.b0;have dE:=aW.cell y.fb.b1;obtain⟨dp,ab⟩:=ds;have bF:∀r,bR d w h r->r.heap[x.heap.size+1]? = some (.loop dp)/\r.heap[x.heap.size]? = some (.deferred (some [])):=fun r C =>
     ⟨(C.block (x.heap.size+1) ae ae (.inr ⟨fun D hc=>(by rw[ab]at hc;cases hc),fun D hc=>by rw[ab]at hc;cases hc⟩)).trans ab,(C.block x.heap.size ae ae (.inr ⟨fun D hc=>(by rw[an]at hc;cases hc),fun D hc=>by rw[an]at hc;cases hc⟩)).trans an⟩
    by_cases bE:u<(ai.1.length:Int)
    ·have a3:Hid (az 203 #[aO d,ak u,aF E (P+a.1*4) a.2.length a.2.length] h fun e S =>
       e=.returned (.bool false)/\cj S d w H.S.1 H.S.2/\bR d w h S) :=
      S0 d w E (P+a.1*4) a.2.length u j a.2 H.S.2 H.S.1 h y.msg.msg y.po y.g (aZ cz y.tg.size) bt bz bj bG bh av ae a_ (by rw[K];omega) (by rw[K];omega) (by rw[K];exact bE)
     have c2:Hid (F = { H with full:=true }):=by
      have h1:=ag ad;rw[bv,A6 bk (by rw[K];exact bE)]at h1;have h2:=ag cP;rw[<- h1,Ju rfl]at h2;exact h2.symm
     have bc:Hid (∀r,cj r d w H.S.1 H.S.2->bR d w h r ->
       r.cell? (aq (b.heap.size+1+1+1+1) 0)=some (aF (b.heap.size+1+1+1) 0 3 3)/\r.cell? (aq (b.heap.size+1+1) 0)=some (aJ)/\r.frozen? (aq (b.heap.size+1+1) 0)=false /\
       Hid (fi x.heap.size h (r.setCell ⟨b.heap.size+1+1,0,none⟩ (.slice (some ⟨b.heap.size+1+1+1,0,none⟩) 3 3))/\Hx d w b.heap.size b t (F.cs.map fun n:Nat=>(n:Int)) (x.heap.size+1) F.S (r.setCell ⟨b.heap.size+1+1,0,none⟩ (.slice (some ⟨b.heap.size+1+1+1,0,none⟩) 3 3)))):=by
      intro r R C;obtain⟨H2,bV⟩:=bF r C;have N:=y.fit C R y.po ae cf bt bz (fun a l=>(A a l).1) ⟨fun M hc=>yi,fun M hc=>yi⟩;have B:∀I,I≠b.heap.size+2->(r.setCell ⟨b.heap.size+1+1,0,none⟩ (.slice (some ⟨b.heap.size+1+1+1,0,none⟩) 3 3)).heap[I]? = r.heap[I]?:=fun I G=>bC _ _ _ _ G;have eK:=N.fb.b2;rw[ag c2];refine⟨aW.cell N.fb.b4,aW.cell eK,aW.frozen eK,⟨aZ C.size g8,(B _ ae).trans (bV.trans an.symm),(B _ ae).trans (H2.trans ab.symm)⟩,aW.set eK _,(B _ ae).trans N.fb.b3,rQ N.msg ⟨fun D hc=>yq,fun D hc=>yq⟩ ae B,N.tg.same rfl rfl rfl g8 fun c ao=>B c ae,fun a l=>(B a (A a l).2.2.1).trans (N.defs a l)⟩
     clear y bg aT aU aG bj an ab l a0 aa bw a1 bs ar bv bl bF ad K a8 bk cI a7 cr a_ dn a4 a9 aD b5 b6 aY aC aS A;gi_wp2_with fail;refine⟨aL,?_⟩;gi_wp2_with fail;refine⟨aL,rfl,?_⟩;refine(CallsIn.inRound cH (bK.2 (ag a3))).mono ?_;rintro e r ⟨rfl,R,C⟩;obtain⟨aI,aK,aM,ay⟩:=ag bc r R C;clear R C bc a3;gi_wp2_with fail;exact⟨ay.1,rfl,ay.2⟩
    ·have cs:(ai.1.length:Int)<=u:=ae;have a3:Hid (az 203 #[aO d,ak u,aF E (P+a.1*4) a.2.length a.2.length] h fun e S =>
       e=.returned (.bool true)/\cj S d w ai.1 ai.2/\bR d w h S):=by
      have:=SA d w E (P+a.1*4) a.2.length u j a.2 H.S.2 H.S.1 h y.msg.msg y.po y.g (aZ cz y.tg.size) bt bz bj bG bh av ae a_ (by rw[K];omega) (by rw[K];omega) (by rw[K];exact cs);rw[K]at this;exact this
     have cB:Hid (ex u j c (((be bH i).map (·.2)).drop (z+1)) Q=au):=by
      have h1:=ag ad;rw[bv,A7 bk (by rw[K];exact bE),K,<- a8]at h1;rw[Hid,ar];exact h1
     have bI:Q.S=ai:=by rw[ar]
     have cQ:(Q.cs.map fun n:Nat=>(n:Int))=(H.cs.map fun n:Nat=>(n:Int)).set c (L+a.2.length:Int):=by rw[ar,zF];simp
     have ce:(H.cs.map fun n:Nat=>(n:Int))[c]? = some (L:Int):=by rw[nR,dV a7,a8,fh,dV a7];rfl
     have bc:Hid (∀r,cj r d w ai.1 ai.2->bR d w h r ->
       r.cell? (aq (b.heap.size+1+1+1+1) 0)=some (aF (b.heap.size+1+1+1) 0 3 3)/\r.cell? (aq q.heap.size 0)=some (ak c)/\r.cell? (aq (b.heap.size+1+1+1) c)=some (ak L)/\r.frozen? (aq (b.heap.size+1+1+1) c)=false /\
       Hid (fi x.heap.size h (r.setCell ⟨b.heap.size+1+1+1,c,none⟩ (.int .i64 (L+a.2.length:Int)))/\(∀b8∈[q.heap.size+1,q.heap.size+1+1,E],(r.setCell ⟨b.heap.size+1+1+1,c,none⟩ (.int .i64 (L+a.2.length:Int))).heap[b8]? = h.heap[b8]?) /\
        (oI d w b.heap.size lb u #[X,Y,Z] b t (Q.cs.map fun n:Nat=>(n:Int)) (x.heap.size+1) Q.S (r.setCell ⟨b.heap.size+1+1+1,c,none⟩ (.int .i64 (L+a.2.length:Int)))/\aW (r.setCell ⟨b.heap.size+1+1+1,c,none⟩ (.int .i64 (L+a.2.length:Int))) q.heap.size (ak c) 3/\aW (r.setCell ⟨b.heap.size+1+1+1,c,none⟩ (.int .i64 (L+a.2.length:Int))) (q.heap.size+1) (.slice b_ i.length ca) 41/\aW (r.setCell ⟨b.heap.size+1+1+1,c,none⟩ (.int .i64 (L+a.2.length:Int))) (q.heap.size+1+1) (.func (.func 177) #[] #[]) 261 /\
         Hid (ex u j c (((be bH i).map (·.2)).drop (z+1)) Q=au)/\Q.S.1.length<=1300/\Q.S.2.length<=Q.S.1.length+300))):=by
      intro r R C;obtain⟨H2,bV⟩:=bF r C;have N:=y.fit C R bl ae cf bt bz (fun a l=>(A a l).1) ⟨fun M hc=>yi,fun M hc=>yi⟩;have cR:=pR bg C ae ba ba;have cS:=pR aT C ae ba ba;have cT:=pR aU C ae ba ba;have c_:=N.set c (L+a.2.length:Int) ae ae av (fun a l=>(A a l).2.1);have B:∀I,I≠b.heap.size+3->(r.setCell ⟨b.heap.size+1+1+1,c,none⟩ (.int .i64 (L+a.2.length:Int))).heap[I]? = r.heap[I]?:=fun I G=>bC _ _ _ _ G;refine⟨aW.cell N.fb.b4,aW.cell cR,(N.fb.b3.cell c (by rw[bD];exact a7)).trans (by rw[(fy.1 ce).2]),N.fb.b3.frozen c,⟨aZ C.size g8,(B _ ae).trans (bV.trans an.symm),(B _ ae).trans (H2.trans ab.symm)⟩,fun b8 G=>?_,?_,aW.kept cR (B _ ae),aW.kept cS (B _ ae),aW.kept cT (B _ ae),cB,by rw[bI];omega,by rw[bI];exact bs.2.2⟩
      ·simp only[co,lE,kd]at G;rcases G with rfl|rfl|rfl
       ·exact(B _ ae).trans (cS.trans aT.symm)
       ·exact(B _ ae).trans (cT.trans aU.symm)
       ·exact(B _ ae).trans (C.block _ (by have:=y.tg.size;omega) bh (.inl bG))
      ·rw[bI,cQ];exact c_
     clear y bg aT aU aG bj an ab l a0 aa bw a1 bs ar bv bl bF ad K a8 bk cI a7 a_ a4 a9 aD b5 b6 aY aC aS A bI cQ ce cB bE cs;gi_wp2_with fail;refine⟨aL,?_⟩;gi_wp2_with fail;refine⟨aL,rfl,?_⟩;refine(CallsIn.inRound cH (bK.2 (ag a3))).mono ?_;rintro e r ⟨rfl,R,C⟩;obtain⟨aI,aK,aM,bA,ay⟩:=ag bc r R C;clear R C bc a3;gi_wp2_with fail;exact⟨ay.1,ay.2.1,ay.2.2⟩
   case atM =>
    intro h a6 bm cn;obtain⟨y,bg,aT,aU,ad,a4,a9⟩:=a6;have cC:eS j c i o (be bH i).length=au:=by
     have:=ag ad;rw[uY (by rw[bD];exact bb _)]at this;exact this
    have cm:=af y;have cV:=af cC;clear y bg aT aU ad cC a0 aa bw a1;gi_wp2_with fail;refine⟨⟨c+1,x.heap.size::t,eS j c i o (be bH i).length,_,_,_,_,_,_,_,_,_,rfl,ae,⟨zL.2 ⟨fun k=>by have:=(A _ k).2.2.2;omega,aC⟩,fun a l=>?_⟩,?_,rfl,fun D hc=>?_,a4,a9,?_,?_⟩,ci⟩
    ·rcases co.1 l with rfl|l
     ·omega
     ·exact aS a l
    ·unfold eS;simp;exact dl
    ·unfold eS at hc;rcases zJ hc with hc|hc
     ·have:=aD D hc;omega
     ·have h2:o.cs.getD c 0<=3001*c:=by
       rw[fh,dV ae];exact aD _ (bM _)
      have:=aZ (AK i (be bH i).length) b4;omega
    ·have k:=cm.re d (by
      obtain⟨vb,vp,h1,_⟩:=cm.msg.msg;unfold bJ at h1;exact⟨fun M hc=>ys,fun M hc=>ys⟩)
     exact⟨k.fb,k.lists,k.msg,k.po,k.g,k.tg,fun a l=>by
      rcases co.1 l with rfl|l
      ·exact bm
      ·exact k.defs a l⟩
    ·rw[Hid,ag cV];exact cP
  ·obtain rfl:c=3:=ae;have nA:=ag a5;have A:∀a∈t,a≠d/\a≠b.heap.size+3/\a≠b.heap.size+2/\a<q.heap.size:=fun a l=>by
    have aH:=nA.defs a l;refine⟨fun e=>?_,fun e=>?_,fun e=>?_,(bn.1 aH).1⟩
    ·exact E3
    ·exact F4
    ·exact FO
   have cD:o=F:=ag bq;have aI:=aW.cell nA.fb.b4;have aK:=aW.cell nA.fb.b2;have aM:=aW.frozen nA.fb.b2;have hX:Hid (Hx d w b.heap.size b t (F.cs.map fun n:Nat=>(n:Int)) d F.S (q.setCell ⟨b.heap.size+1+1,0,none⟩ (.slice (some ⟨b.heap.size+1+1+1,0,none⟩) 3 3))):=by
    rw[<- cD];have B:∀I,I≠b.heap.size+2->(q.setCell ⟨b.heap.size+1+1,0,none⟩ (.slice (some ⟨b.heap.size+1+1+1,0,none⟩) 3 3)).heap[I]? = q.heap[I]?:=fun I G=>bC _ _ _ _ G;have eK:=nA.fb.b2;exact⟨aW.set eK _,(B _ ae).trans nA.fb.b3,rQ nA.msg ⟨fun D hc=>yq,fun D hc=>yq⟩ ae B,nA.tg.same rfl rfl rfl g8 fun c ao=>B c ae,fun a l=>(B a (A a l).2.2.1).trans (nA.defs a l)⟩
   clear nA a5 bq bQ bS b0 cD ao bN aD;have da:=af A;have cZ:=af aC;have c1:=af aS;clear A aC aS;have c3:Hid (∀h,Hx d w b.heap.size b t (F.cs.map fun n:Nat=>(n:Int)) d F.S h->(iS t h).cell? (aq (b.heap.size+1+1) 0)=some (aF (b.heap.size+3) 0 3 3)/\f_ (iS t h) (b.heap.size+3) (F.cs.map fun n:Nat=>(n:Int)) 3/\cj (iS t h) d w F.S.1 F.S.2/\bR d w b (iS t h)):=fun h hX=>by
    have A:=ag da;have bp:∀a,a ∉ t->(iS t h).heap[a]? = h.heap[a]?:=fun a b2=>A8 _ h a b2;refine⟨(b7 (bp (b.heap.size+2) (fun k=>(A _ k).2.2.1 rfl))).trans (aW.cell hX.b2),(bp _ (fun k=>(A _ k).2.1 rfl)).trans hX.b3,?_,?_⟩
    ·obtain⟨bX,b1,cc,bd,bf⟩:=hX.msg.msg;refine⟨bX,b1,cc.kept (bp d (fun k=>(A _ k).1 rfl)),iv bd fun g hg=>?_,iv bf fun g hg=>?_⟩
     ·obtain⟨M,bu⟩:=nZ bd hg;exact Fd
     ·obtain⟨M,bu⟩:=n5 bf hg;exact Fd
    ·obtain⟨aI,aK,aM,bA⟩:=A9 t h;exact hX.tg.same aI aK aM (by rw[bA];exact bb _) fun a l=>bp a (fun k=>by have:=ag c1 a k;omega)
   gi_wp2_with fail;generalize q.setCell ⟨b.heap.size+1+1,0,none⟩ (.slice (some ⟨b.heap.size+1+1+1,0,none⟩) 3 3)=h at *;have hX:=ag hX;obtain⟨bY,O,bo,dc⟩:=ag c3 h hX;exact A_ t h (ag cZ) (fun al aH=>hX.defs al aH) ⟨aF (b.heap.size+3) 0 3 3,by simp[results,results137,go_sem,bY],rfl,O,bo,dc⟩
end
def Bb(v:Value):Prop:=∃a b g h i j n o d e:Int,∃k l:ah,∃c:Bool,v=cP a b g h i j k l n o c d e
theorem I3(b c d e:Int)(a:World):(part 3 #[ak b,ak c,ak d,ak e] 0).run prog a=.ok (ak b) a:=aB
theorem I4(c b d e:Int)(a:World):(part 3 #[ak c,ak b,ak d,ak e] 1).run prog a=.ok (ak b) a:=aB
theorem I5(c d b e:Int)(a:World):(part 3 #[ak c,ak d,ak b,ak e] 2).run prog a=.ok (ak b) a:=aB
theorem I6(c d e b:Int)(a:World):(part 3 #[ak c,ak d,ak e,ak b] 3).run prog a=.ok (ak b) a:=aB
theorem Tq(a:World):(sizeOf 3).run prog a=.ok 1 a:=aB
theorem Cn{P:Prop}(h:P:=by by_cases h:p=q<;>simp[h]):P:=h
theorem I7(b c d e i j k g:Int)(a:World):(Op.equalIn 10000 131 (.agg #[ak b,ak c,ak d,ak e]) (.agg #[ak i,ak j,ak k,ak g])).run prog a=.ok (b==i&&(c==j&&(d==k&&e==g))) a:=by
 have u:prog.underlying 131=some (.array 4 3):=aB;have ao:prog.underlying 3=some (.int .i64):=aB;rw[show(10000:Nat)=9998+1+1 from rfl,Op.equalIn];simp only[Sem.run_bind,zv u,qC,Tq];rw[Std.Legacy.Range.forIn_eq_forIn_range'];simp only[Std.Legacy.Range.size,List.range',Nat.reduceAdd,Nat.reduceSub,Nat.reduceDiv,List.forIn_cons,List.forIn_nil,lV,cT,Sem.run_bind,I3,I4,I5,I6,qC,run_equalIn_int a 9998 _ _ _ _ _ ao];have l:∀p q:Int,(p==q)=decide (p=q):=fun p q=>Cn
 simp only[l];by_cases n:b=i<;>by_cases o:c=j<;>by_cases r:d=k<;>by_cases t:e=g<;>simp[n,o,r,t,I3,I4,I5,I6,run_equalIn_int _ 9998 _ _ _ _ _ ao]
theorem Tr(x r d ap e c:Int)(m:ah)(w:World)(l:¬(d=1/\ap=0/\e=0/\(c=0\/c=1))):az 72 #[.agg #[ak x,ak r,ak d,ak ap,ak e,ak c],au m] w fun t y=>t=.returned (.tuple #[cP 0 0 0 0 0 0 [] [] 0 0 false 0 0,.bool false])/\ax w y:=by
 have A:∀a:World,(Op.equalIn 10000 131 (.agg #[ak d,ak ap,ak e,ak c]) (.agg #[ak 1,ak 0,ak 0,ak 0])).run prog a=.ok false a:=fun a=>by{
 have b:∀p q:Int,(p==q)=decide (p=q):=fun p q=>Cn
 rw[I7,b,b,b,b];congr 1;by_cases g:d=1<;>by_cases i:ap=0<;>by_cases j:e=0<;>by_cases k:c=0<;>simp[g,i,j,k];exact l ⟨g,i,j,.inl k⟩};have z:∀a:World,(Op.equalIn 10000 131 (.agg #[ak d,ak ap,ak e,ak c]) (.agg #[ak 1,ak 0,ak 0,ak 1])).run prog a=.ok false a:=fun a=>by{
 have b:∀p q:Int,(p==q)=decide (p=q):=fun p q=>Cn
 rw[I7,b,b,b,b];congr 1;by_cases g:d=1<;>by_cases i:ap=0<;>by_cases j:e=0<;>by_cases k:c=1<;>simp[g,i,j,k];exact l ⟨g,i,j,.inr k⟩};clear l;go_enter func72,ntmps72;go_wp2_with fail;refine cc (v:=.tuple #[cP 0 0 0 0 0 0 [] [] 0 0 false 0 0,.bool false]) (by simp[results,results72,go_sem,cP];try rfl) rfl ⟨rfl,?_⟩;have o:∀(a:World) (n:Nat) (v:Value),ax w a->ax w (a.setCell ⟨w.heap.size+1,n,none⟩ v):=fun a n v u=>u.setCell (p:=⟨w.heap.size+1,n,none⟩) c9 v;repeat' apply o
 exact((aE.alloc av _).alloc am _).alloc aA _
end Go.Proofs.YtkkpahmoljiepaaGreatDoor
