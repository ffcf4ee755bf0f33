import Derived.Test.YtkkpahmoljiepaaGreatDoorJ30
set_option maxRecDepth 1000000
set_option maxHeartbeats 12800000
set_option linter.unusedSimpArgs false
set_option linter.unusedVariables false
namespace Go.Proofs.YtkkpahmoljiepaaGreatDoor
open Go.RowKit Go.Proofs.Tryz
theorem Nf(a:ah):kV (aY a)=a.length+1:=by have b:=xZ _ a av;unfold aY kV;unfold kV at b;rw[fT,<- b];congr 1;refine hN fun c _=>?_;show(c.map lr).length+1=_;rw[bD]
theorem rY{o:ah}{rs:List aj}(i:kG o rs){a:List ah}(C:kV a<=254)(y:∀z∈a,z≠[])(c g:Int)(h:Bool)(e:Int):(∃q:Nat,q<=16/\(ce o rs (aU a) c g h e).1.1=(q:Int))/\(∀d∈(ce o rs (aU a) c g h e).1.2.2.1++((ce o rs (aU a) c g h e).1.2.2.2++(ce o rs (aU a) c g h e).2),mX (aU a) d/\a≠[])/\(ce o rs (aU a) c g h e).1.2.2.1.length<=100/\(ce o rs (aU a) c g h e).1.2.2.2.length<=100/\(ce o rs (aU a) c g h e).2.length<=100:=by
 unfold ce;split;{exact⟨⟨16,ae,rfl⟩,fun d b=>(by cases b),am,am,am⟩};{
 split;{exact⟨⟨5,ae,rfl⟩,fun d b=>(by cases b),am,am,am⟩};{
 rename_i w;have x:aU a≠[]:=fun j=>w (.inr (.inr j));have k:a≠[]:=fun j=>by subst j;exact x rfl
 have l:=uf k y;have A:=qc a k;have n:=Du i (T:=aU a) c 9 true false [] (aU a) l ae (.inl rfl) (fun d b=>by cases b);have r:=Lv (o:=o) (rs:=rs) c 9 true false [] (aU a);have p:=pT i c 9 true false [] (aU a) l ae (fun d b=>by cases b) (b6 _);have t:=Lw i (T:=aU a) (fj o rs c (aU a)).2.2.1 ((fj o rs c (aU a)).2.2.1++(fj o rs c (aU a)).2.2.2) ([],[]) (fun d b=>by cases b);have u:=Dv (rs:=rs) (fj o rs c (aU a)).2.2.1 ((fj o rs c (aU a)).2.2.1++(fj o rs c (aU a)).2.2.2) ([],[]) am;have B:=p9 i;refine⟨r,fun d b=>⟨?_,k⟩,aZ p.2.2.1 ae,aZ p.2.2.2 ae,aZ u ae⟩;rcases dv.1 b with b|b;{exact n.1 d b};{rcases dv.1 b with b|b;{exact(n.2.1 d b).1};{exact t d b}}}}
theorem Lc{r:ah}{y:List aj}(E:kG r y){e:List ah}(D:kV e<=254)(q:∀a∈e,a≠[]/\a.length<=63){z o:Int}{t:Bool}{n:Int}{H:Bool}{h g i:List bL}(c:Jg (ce r y (aU e) z o t n) e H h g i):(∀a∈h++(g++i),Lr a)/\(h++(g++i)≠[]->e≠[])/\h.length<=100/\g.length<=100/\i.length<=100:=by obtain⟨_,G,u,w,x⟩:=rY E D (fun a c=>(q a c).1) z o t n;have p:∀a∈h++(g++i),mX (aU e) a.2.2.1/\e≠[]:=fun a d=>G _ (by{rw[<- c.ma,<- c.mu,<- c.md,<- d0,<- d0];exact nz d});have k:∀a∈h++(g++i),a.2.2.2=e\/a.2.2.2=aY a.2.2.1.owner:=fun a d=>by{rcases dv.1 d with b|b;{rw[c.la a b];split;{exact nj};{exact .inr rfl}};{exact .inr (c.Aw a b)}};refine⟨fun a d=>?_,fun b=>?_,by rw[<- c.ma,bD]at u;exact u,by rw[<- c.mu,bD]at w;exact w,by rw[<- c.md,bD]at x;exact x⟩;{obtain⟨j,B⟩:=p a d;have C:=j.UM;refine⟨j.dat,py j.aI ae,j.len,?_,?_,?_⟩;{rcases k a d with b|b;{rw[b];exact B};{rw[b];exact xu _}};{rcases k a d with b|b;{rw[b];exact fun A l=>aZ (q A l).2 ae};{rw[b];intro A l;obtain⟨I,F,rfl⟩:=fz.1 l;rw[bD];exact aZ (jo 46 _ _ av I F) C}};{rcases k a d with b|b;{rw[b];omega};{rw[b,Nf];omega}}};{obtain⟨a,d⟩:=List.exists_mem_of_ne_nil _ b;exact(p a d).2}
theorem Ng{i:ah}{j:List aj}(A:kG i j){m p:ah}{a:List ah}{g e:Nat}{b:Bool}{q d:Nat}(G:cR m=some (p,a,g,e,b,q,d))(F:12<=m.length)(E:m.length<=2000000)(u w y x:Value)(Q:Bool)(n k o:List bL)(c:World)(N:un c u a)(l:Jg (ce i j (aU a) g e b d) a Q n k o) (O:iE c w n) (B:iE c y k) (P:iE c x o) (C:∀h∈n++(k++o),eY c h.1 h.2.2.2/\eY c h.2.1 (aC 32 h.2.2.1.data)):az 78 #[au m,.agg #[au p,u,ak (g:Int),ak (e:Int),.bool b,ak (q:Int),ak (d:Int)],.agg #[ak (ce i j (aU a) g e b d).1.1,.bool (ce i j (aU a) g e b d).1.2.1,w,y,x]] c fun r R=>r=.returned (au (p0 m p a b q (ce i j (aU a) g e b d).1.1.toNat (ce i j (aU a) g e b d).1.2.1 [n,k,o]))/\ax c R:=by obtain⟨z,t,S,_,_,D,_,_⟩:=rT G;obtain⟨H,I,J,K,L⟩:=Lc A z t l;obtain⟨M,T,r⟩:=(rY A z (fun h l=>(t h l).1) g e b d).1;rw[r,pt];exact WA m p a u g e b q d M _ w y x n k o c F E N ae ae (fun h l=>aZ (t h l).2 ae) ae D O B P C H J K L I
theorem Dw{g l:World}{v:Value}{r:List bL}{i:Nat}{K:Int}{t:Bool}(h:iE g v r)(j:ew g i K t (aJ) (aJ) (aJ))(o:bG (fun c=>c≠i) g l):iE l v r:=by
 rcases h with h|⟨d,q,y,z,A,n,B⟩;{exact iG};{
 refine .inr ⟨d,q,y,z,A,cp n o.size,fun p D=>?_⟩;obtain⟨G,H,I,b,J⟩:=B p D;have C:d≠i:=by{
 rintro rfl;obtain⟨u,ap,w,x,aK⟩:=j.cells;generalize q+p*5+3=F at b;match F,b with
 | 0,b=>rw[u]at b;cases b
 | 1,b=>rw[ap]at b;cases b
 | 2,b=>rw[w]at b;cases b
 | 3,b=>rw[x]at b;cases b
 | 4,b=>rw[aK]at b;cases b
 | L+5,b =>{unfold ew at j;unfold World.cell? at b;rw[j]at b;simp at b}};have c:∀(e:Nat) (k:Value),g.cell? (aq d e)=some k->l.cell? (aq d e)=some k:=fun e k E=>(b7 (a:=⟨d,e,none⟩) (o.block d n C)).trans E;exact⟨c _ _ G,c _ _ H,c _ _ I,c _ _ b,c _ _ J⟩}
theorem Ld(m:ah)(c:Nat)(k:c<4096)(b:Nat)(a:World)(j:12<=m.length)(n:m.length<=2000000)(h:a.heap[b]? = some (.cells #[.int .i64 0,.int .i64 0,.int .i64 0,.int .i64 0] 3)):az 75 #[au m,.bool false,.bool false,ak c,aF b 0 4 4] a (aP (au (iu m false false c [0,0,0,0])) a):=by
 have g:f_ a b [0,0,0,0] 3:=h;refine G7 m false false c b 4 [0,0,0,0] a j ae k rfl (fun l hc=>?_) g.lt (fun d i=>?_);{exact EG};{
 have e:d<4:=i;have:=g.cell d e;match d,e,this with
 | 0,_,this=>exact this
 | 1,_,this=>exact this
 | 2,_,this=>exact this
 | 3,_,this=>exact this}
theorem o0{P:Prop}(h:P:=by simp[World.cell?,DF]):P:=h
theorem Nh(aX:Nat)(k m:ah)(l:List aj)(bh r:World)(cf:nC bh aX k l)(bK:ax bh r)(b3:kG k l)(bd:m.length<=2000000):az 28 #[aO aX,au m] r fun j H=>(∃t,j=.returned (au t)/\lz k l m t)/\ax r H:=by
 have dA:=a7 m;by_cases c5:m.length<12
 ·have cS:(m.length:Int)<12:=ae;go_enter func28,ntmps28;go_wp2;go_ret;exact⟨⟨[],rfl,by unfold lz;rw[ay (.inl c5)]⟩,bk _ _⟩
 have aY:12<=m.length:=ae;have cS:¬(m.length:Int)<12:=ae;have cL:2<m.length:=ae;obtain⟨E,bF⟩:∃E:UInt8,E=m[2]:=⟨_,rfl⟩
 have bz:∀d:2<(ai m).size,(ai m)[2]=E:=fun d=>bF.symm;have ab:m.getD 2 0=E:=by rw[bF,fh,dV cL];rfl
 have dz:(2:Int)<(m.length:Int):=ae;clear bF;by_cases cH:128<=E.toNat
 ·have c8:(128:Int)<=(E.toNat:Int):=ae;go_enter func28,ntmps28;go_wp2;go_ret;exact⟨⟨[],rfl,by unfold lz;rw[ay (.inr (by rw[ab];exact cH))]⟩,bk _ _⟩
 have c8:¬(128:Int)<=(E.toNat:Int):=ae;obtain⟨bn,cq⟩:=a2 (E.toNat/8%16);have dk:(E.toNat:Int)/8%16=(bn:Int):=ae;obtain⟨Y,bt⟩:∃Y:Obj,Y=.cells #[.int .i64 0,.int .i64 0,.int .i64 0,.int .i64 0] 3:=⟨_,rfl⟩
 have a0:(r.alloc Y).heap[r.heap.size]? = some (.cells #[.int .i64 0,.int .i64 0,.int .i64 0,.int .i64 0] 3):=by rw[World.alloc_heap_new,bt]
 have bc:ax r (r.alloc Y):=aE.alloc av _;by_cases dg:bn=0
 case neg =>
  have cI:((bn:Int) != 0)=true:=aA;have aB:=af (Ld m 4 ae r.heap.size (r.alloc Y) aY bd a0);have ad:Hid (lz k l m (iu m false false 4 [0,0,0,0])):=by
   unfold lz;rw[Hid,ar (by rw[ab];omega),ay (by rw[ab];omega)]
  have aI:=af bc;clear a0 bc cq ab;go_enter func28,ntmps28;go_wp2_with fail;rw[<- bt];refine aB.mono ?_;rintro j b ⟨rfl,Q⟩;have z:=af (aI.trans (Q.mono aI.size));clear Q aB aI;go_wp2;go_ret;exact⟨⟨_,rfl,ad⟩,z⟩
 have cI:((bn:Int) != 0)=false:=aA;have bu:=af (No m (r.alloc Y) aY bd);have ad:Hid (∀t,(match cR m with
   | none=>t=iu m false false 1 [0,0,0,0]
   | some (cr,e,bp,a_,i,ct,a6)=>∃B w u x,Jg (ce k l (aU e) bp a_ i a6) e B w u x/\t=p0 m cr e i ct (ce k l (aU e) bp a_ i a6).1.1.toNat (ce k l (aU e) bp a_ i a6).1.2.1 [w,u,x])->lz k l m t):=fun t d=>by
  unfold lz;rw[ar (by rw[ab];omega),ar (by rw[ab];omega)];exact d
 have aI:=af bc;have bM:=af a0;have b4:=af cf;have c6:=af (fun h (bE:ax r h)=>bK.trans (bE.mono bK.size));have aL:=af b3;have dh:(r.alloc Y).heap.size=r.heap.size+1:=am;clear a0 bc cq ab cf bK b3;go_enter func28,ntmps28;go_wp2_with fail;rw[<- bt];refine bu.mono ?_;rintro j b ⟨⟨X,aR,bp,a_,i,ct,a6,c3,rfl,⟨U,W,V,rfl⟩,aD⟩,Q⟩;have di:=Q.size;have ba:=aI.trans (Q.mono ae);cases N:cR m with
 | none =>
  rw[N]at aD;have cJ:c3=false:=aD;subst cJ;have c1:=af (ad (iu m false false 1 [0,0,0,0]) (by rw[N]));have aB:Hid (∀p:Obj,az 75 #[au m,.bool false,.bool false,ak 1,aF r.heap.size 0 4 4] (b.alloc p) fun j H=>j=.returned (au (iu m false false 1 [0,0,0,0]))/\Below (b.alloc p).heap.size (b.alloc p) H):=fun p =>
   Ld m 1 ae r.heap.size (b.alloc p) aY bd ((bx b p r.heap.size ae).trans ((Q.block r.heap.size ae).trans (ag bM)))
  have z:=af ba;clear aD N ad bu Q ba bM;go_wp2_with fail;refine(aB _).mono ?_;rintro j cw ⟨rfl,R⟩;have aM:=af ((z.alloc z.size _).trans (R.mono (by have:=z.size;simp;omega)));clear R aB z;go_wp2;go_ret;exact⟨⟨_,rfl,c1⟩,aM⟩
 | some o =>
  obtain⟨cr,e,c,g,dl,O,n⟩:=o;rw[N]at aD;obtain⟨rfl,rfl,rfl,rfl,rfl,rfl,rfl,bO⟩:=aD;obtain⟨ch,ci,cW,cj,cX,cY,cZ,_⟩:=rT N;have bZ:un b (.slice U W V) e:=by
   by_cases bg:e=[]
   ·exact .inl ⟨bg,bO.2.2 bg⟩
   ·obtain⟨aa,Z,cN,cO,_,cP⟩:=l6 bO bg;exact .inr ⟨bg,aa,Z,cN,cO,cP⟩
  have bs:=af bZ;have db:=af N;obtain⟨q,bm⟩:∃q:Obj,q=.cells #[.string (ai X),.slice U W V,.int .i64 c,.int .i64 g,.bool i,.int .i64 O,.int .i64 n] 144:=⟨_,rfl⟩
  have aG:Hid (∀(aR aT aW aV:Value) (B:Bool) (w u x:List bL) (h:World),un h aR e->Jg (ce k l (aU e) c g i n) e B w u x->iE h aT w->iE h aW u->iE h aV x->(∀o∈w++(u++x),eY h o.1 o.2.2.2/\eY h o.2.1 (aC 32 o.2.2.1.data))->az 78 #[au m,.agg #[au X,aR,ak (c:Int),ak (g:Int),.bool i,ak (O:Int),ak (n:Int)],.agg #[ak (ce k l (aU e) c g i n).1.1,.bool (ce k l (aU e) c g i n).1.2.1,aT,aW,aV]] h fun j H =>
    (∃t,j=.returned (au t)/\lz k l m t)/\ax h H):=fun aR aT aW aV B w u x h P bB b9 bC bD cQ=>by
   refine(Ng (ag aL) N aY bd aR aT aW aV B w u x h P bB b9 bC bD cQ).mono ?_;rintro j H ⟨rfl,bE⟩;exact⟨⟨_,rfl,ag ad _ (by rw[N];exact⟨B,w,u,x,bB,rfl⟩)⟩,bE⟩
  have bH:∀h:World,iE h (aJ) []:=fun h=>.inl ⟨rfl,rfl⟩;have z:=af ba;have S:=af (aQ ch (aQ ci cj));clear N bO bZ Q ba ad bu bM ch ci cW cX cY cZ cj
  -- an aGy alone
  have aS:Hid (∀bo:Int,ce k l (aU e) c g i n=((bo,false,[],[]),[])->∀p:Obj,p=.cells #[.int .i64 bo,.bool false,.slice none 0 0,.slice none 0 0,.slice none 0 0] 123->az 78 #[au m,.agg #[au X,.slice U W V,ak (c:Int),ak (g:Int),.bool i,ak (O:Int),ak (n:Int)],.agg #[ak bo,.bool false,aJ,aJ,aJ]] ((b.alloc q).alloc p) fun j H =>
    (∃t,j=.returned (au t)/\lz k l m t)/\Below ((b.alloc q).alloc p).heap.size ((b.alloc q).alloc p) H):=fun bo G p da=>by
   have:=ag aG (.slice U W V) (aJ) (aJ) (aJ) false [] [] [] ((b.alloc q).alloc p);rw[G]at this;refine this ?_ ⟨rfl,rfl,rfl,fun o y=>(by cases y),fun o y=>by cases y⟩ (bH _) (bH _) (bH _) (fun o y=>by cases y);have c2:ax b ((b.alloc q).alloc p):=(aE.alloc av _).alloc am _;rcases ag bs with⟨a,D⟩|⟨a,aa,Z,D,aN,j⟩
   ·exact .inl ⟨a,D⟩
   ·exact .inr ⟨a,aa,Z,D,aN,j.below c2⟩
  have al:Hid (∀(p:Obj) (h:World),Below ((b.alloc q).alloc p).heap.size ((b.alloc q).alloc p) h->ax r h):=fun p h bb=>by
   have P:=(z.alloc z.size q).alloc (by have:=z.size;simp;omega) p;exact P.trans (bb.mono P.size)
  by_cases L:i=true/\(n:Int)≠0
  ·have G:ce k l (aU e) c g i n=((16,false,[],[]),[]):=by unfold ce;rw[ay L]
   have aw:=af (aS 16 G);have bU:((n:Int) != 0)=true:=by simpa using L.2
   have cU:=L.1;subst cU;clear L G aS aG;go_wp2_with fail;rw[<- bm];refine(aw _ rfl).mono ?_;rintro j cw ⟨⟨t,rfl,J⟩,R⟩;have aM:=af (al _ _ R);have aK:=af J;clear R J aw al;go_wp2;go_ret;exact⟨⟨_,rfl,aK⟩,aM⟩
  have cu:i=false\/(i=true/\((n:Int) != 0)=false):=by
   cases i
   ·exact nj
   ·refine .inr ⟨rfl,?_⟩;by_cases bf:(n:Int)=0
    ·rw[bf];rfl
    ·exact absurd ⟨rfl,bf⟩ L
  by_cases ao:((g:Int)≠1\/mi (c:Int)=false)
  ·have G:ce k l (aU e) c g i n=((5,false,[],[]),[]):=by
    unfold ce;rw[ar L,ay (by rcases ao with d|d;exact .inl d;exact .inr (.inl d))]
   have aw:=af (aS 5 G);have cK:((g:Int) != 1)=true\/(((g:Int) != 1)=false/\((c:Int)==0)=true)\/(((g:Int) != 1)=false/\((c:Int)==0)=false/\((c:Int)==41)=true)\/(((g:Int) != 1)=false/\((c:Int)==0)=false/\((c:Int)==41)=false/\(249:Int)<=(c:Int)/\(c:Int)<=254):=by
    by_cases P:(g:Int)=1
    ·right;have bA:((g:Int) != 1)=false:=aA;have M:=ao.resolve_left (fun d=>d P);unfold mi at M;by_cases bB:(c:Int)=0
     ·exact .inl ⟨bA,aA⟩
     ·right;have b8:((c:Int)==0)=false:=aA;by_cases b9:(c:Int)=41
      ·exact .inl ⟨bA,b8,aA⟩
      ·right;have cE:((c:Int)==41)=false:=aA;have bC:((c:Int) != 0)=true:=aA;have bD:((c:Int) != 41)=true:=aA;rw[bC,bD]at M;simp only[nI,sU,ro]at M;exact⟨bA,b8,cE,ae,ae⟩
    ·exact .inl aA
   clear L G aS aG ao;rcases cu with rfl|⟨rfl,bU⟩
   all_goals
    rcases cK with aH|⟨aH,a5⟩|⟨aH,a5,bw⟩|⟨aH,a5,bw,b2,cM⟩
    all_goals
     go_wp2_with fail;rw[<- bm];refine(aw _ rfl).mono ?_;rintro j cw ⟨⟨t,rfl,J⟩,R⟩;have aM:=af (al _ _ R);have aK:=af J;clear R J aw al;go_wp2;go_ret;exact⟨⟨_,rfl,aK⟩,aM⟩
  have ca:=nJ fun d=>ao (.inl d);have M:mi (c:Int)=true:=by
   cases d:mi (c:Int)
   ·exact absurd (.inr d) ao
   ·rfl
  have G:ce k l (aU e) c g i n=if aU e=[]then((5,false,[],[]),[])else(fj k l c (aU e),lG k l c (aU e)):=by
   unfold ce;rw[ar L];by_cases be:aU e=[]
   ·rw[ay (.inr (.inr be)),ay be]
   ·rw[ar (by rintro(d|d|d);exact d ca;rw[M]at d;cases d;exact be d),ar be]
  have cD:(((g:Int) != 1)=false/\((c:Int)==0)=false/\((c:Int)==41)=false/\¬(249:Int)<=(c:Int))\/(((g:Int) != 1)=false/\((c:Int)==0)=false/\((c:Int)==41)=false/\(249:Int)<=(c:Int)/\¬(c:Int)<=254):=by
   unfold mi at M;simp only[bW,o9,lN,jy]at M;have b6:((g:Int) != 1)=false:=aA;have bz:((c:Int)==0)=false:=aA;have b7:((c:Int)==41)=false:=aA;by_cases d:(249:Int)<=(c:Int)
   ·exact .inr ⟨b6,bz,b7,d,ae⟩
   ·exact .inl ⟨b6,bz,b7,d⟩
  have bV:Hid (∀h,ax b h->az 77 #[aO aX,.agg #[au X,.slice U W V,ak (c:Int),ak (g:Int),.bool i,ak (O:Int),ak (n:Int)]] h fun j H=>CQ H j (ce k l (aU e) c g i n).1 (ce k l (aU e) c g i n).2 e/\ax h H):=fun h bb=>by
   have cg:=ag c6 h (z.trans (bb.mono z.size));rcases ag bs with⟨a,D⟩|⟨a,aa,Z,D,aN,j⟩
   ·rw[G,a,D];exact Wv aX k X l c g i O n bh h (ag b4) cg (ag aL)
   ·have cd:=qc e a;have de:=oG e;have cT:aU e≠[]:=fun j=>by
     have P:=S.2.1;cases e with
     | nil=>exact a rfl
     | cons o B =>
      rw[j,oF]at cd;have:=(P o am).1;have:o.length≠0:=fun d=>this (df d);simp at cd;omega
    have cc:=uf a (fun o y=>(S.2.1 o y).1);have cb:=Du (ag aL) (T:=aU e) c 9 true false [] (aU e) cc (by have:=S.1;omega) (.inl rfl) (fun cs bI=>by cases bI);rw[G,ar cT,D];exact WT aX aa Z k X (aU e) l e c g i O n bh h (ag b4) cg (ag aL) (j.below bb) aN a (rX a) cc (by have:=S.1;omega) (fun o y=>aZ (S.2.1 o y).2 ae) (by have:=S.1;omega) (fun d=>⟨cb.2.2 d,fun cs bI=>by have:=(cb.2.1 cs bI).2;omega⟩)
  obtain⟨I,cp⟩:∃I:Obj,I=.cells #[.int .i64 0,.bool false,.slice none 0 0,.slice none 0 0,.slice none 0 0] 123:=⟨_,rfl⟩
  have b_:ax b ((b.alloc q).alloc I):=(aE.alloc av _).alloc am _;have b0:((b.alloc q).alloc I).heap[b.heap.size]? = some (.cells #[.string (ai X),.slice U W V,.int .i64 c,.int .i64 g,.bool i,.int .i64 O,.int .i64 n] 144):=by
   rw[<- bm];exact(bx (b.alloc q) I b.heap.size am).trans (World.alloc_heap_new b q)
  have bX:ew ((b.alloc q).alloc I) (b.heap.size+1) 0 false (aJ) (aJ) (aJ):=by
   have:=World.alloc_heap_new (b.alloc q) I;rw[cv]at this;unfold ew;rw[this,cp]
  have b1:=af (bV _ b_);have c7:=af b0;have cC:=af bX;have dc:((b.alloc q).alloc I).heap.size=b.heap.size+2:=am;have dd:=af (al I _ aE);have cF:Hid (∀B w u x,Jg (ce k l (aU e) c g i n) e B w u x->∀o∈w++(u++x),Lr o):=fun B w u x y=>(Lc (ag aL) S.1 S.2.1 y).1;generalize ce k l (aU e) c g i n=ac at *;clear L ao G bV aS b_ b0 bX al ca M;rcases cu with rfl|⟨rfl,bU⟩
  all_goals
   rcases cD with⟨aH,a5,bw,b2⟩|⟨aH,a5,bw,b2,cM⟩
   all_goals
    go_wp2_with fail;rw[<- bm,<- cp];refine b1.mono ?_;rintro j C ⟨⟨v,B,aT,aW,aV,w,u,x,rfl,J⟩,aP⟩;obtain⟨bf,bP,bQ,bR,cm,cn,co,ck,cl,bN⟩:=J;have bq:∀ {v:Value} {c9:List bL},iE C v c9->∃a c0 E,v=.slice a c0 E:=fun d=>by
     rcases d with⟨d,_⟩|⟨_,_,_,d,_⟩<;>exact⟨_,_,_,d⟩
    obtain⟨a1,bi,ap,rfl⟩:=bq bP;obtain⟨a3,bj,a8,rfl⟩:=bq bQ;obtain⟨a4,bl,a9,rfl⟩:=bq bR;have dj:=aP.size;have K:=cC.kept (aP.block (b.heap.size+1) ae);have DF:=(aP.block b.heap.size ae).trans (ag c7);have dm:C.cell? (aq b.heap.size 0)=some (au X):=o0
    have dn:C.cell? (aq b.heap.size 1)=some (.slice U W V):=o0
    have dp:C.cell? (aq b.heap.size 2)=some (ak c):=o0
    have dq:C.cell? (aq b.heap.size 3)=some (ak g):=o0
    first
     | have c4:C.cell? (aq b.heap.size 4)=some (.bool false):=by simp[World.cell?,DF]
     | have c4:C.cell? (aq b.heap.size 4)=some (.bool true):=by simp[World.cell?,DF]
    have dr:C.cell? (aq b.heap.size 5)=some (ak O):=o0
    have ds:C.cell? (aq b.heap.size 6)=some (ak n):=o0
    obtain⟨du,dv,dw,dx,dy⟩:=K.cells;have c_:=K.frozen;have F:bG (fun bJ=>bJ≠b.heap.size+1) C (((((C.setCell ⟨b.heap.size+1,0,none⟩ (.int .i64 ac.1.1)).setCell ⟨b.heap.size+1,1,none⟩ (.bool ac.1.2.1)).setCell ⟨b.heap.size+1,2,none⟩ (.slice a1 bi ap)).setCell ⟨b.heap.size+1,3,none⟩ (.slice a3 bj a8)).setCell ⟨b.heap.size+1,4,none⟩ (.slice a4 bl a9)) :=
     (((((bG.kA (A:=C) (a:=⟨b.heap.size+1,0,none⟩) _ (fun _ d=>d)).trans (bG.kA (a:=⟨b.heap.size+1,1,none⟩) _ (fun _ d=>d))).trans (bG.kA (a:=⟨b.heap.size+1,2,none⟩) _ (fun _ d=>d))).trans (bG.kA (a:=⟨b.heap.size+1,3,none⟩) _ (fun _ d=>d))).trans (bG.kA (a:=⟨b.heap.size+1,4,none⟩) _ (fun _ d=>d)))
    have bS:Jg ac e B w u x:=⟨cm,cn,co,ck,cl⟩
    have bv:ax b (((((C.setCell ⟨b.heap.size+1,0,none⟩ (.int .i64 ac.1.1)).setCell ⟨b.heap.size+1,1,none⟩ (.bool ac.1.2.1)).setCell ⟨b.heap.size+1,2,none⟩ (.slice a1 bi ap)).setCell ⟨b.heap.size+1,3,none⟩ (.slice a3 bj a8)).setCell ⟨b.heap.size+1,4,none⟩ (.slice a4 bl a9)) :=
     ((((bk b.heap.size b).alloc av q).alloc am I).trans (aP.mono ae)).trans ⟨F.os,F.tape,F.output,F.size,fun bJ M=>F.block bJ ae ae⟩
    have bY:=af (aG (.slice U W V) (.slice a1 bi ap) (.slice a3 bj a8) (.slice a4 bl a9) B w u x _ (by
     rcases ag bs with⟨a,D⟩|⟨a,aa,Z,D,aN,j⟩
     ·exact .inl ⟨a,D⟩
     ·exact .inr ⟨a,aa,Z,D,aN,j.below bv⟩) bS (Dw bP K F) (Dw bQ K F) (Dw bR K F) (fun o y=>⟨CP (bN o y).1 (nT.2 (cF _ _ _ _ bS o y).ne) K F,CP (bN o y).2 (tY 32 _) K F⟩))
    have bT:=((((K.set0 ac.1.1).set1 ac.1.2.1).set2 (.slice a1 bi ap)).jv (.slice a3 bj a8)).mh (.slice a4 bl a9);obtain⟨cx,cy,cz,cA,cB⟩:=bT.cells;have br:=af (z.trans (bv.mono z.size));have cG:=af (aQ cx (aQ cy (aQ cz (aQ cA cB))));clear bP bQ bR cm cn co ck cl bN bS F bv K DF bT aP b1 aG bq cx cy cz cA cB;subst bf;go_wp2_with fail;refine bY.mono ?_;rintro j dt ⟨⟨t,rfl,J⟩,b5⟩;have cV:=af (br.trans (b5.mono br.size));have aK:=af J;clear b5 J bY br cG;go_wp2;go_ret;exact⟨⟨_,rfl,aK⟩,cV⟩
theorem M1(b:Nat)(d:Value)(a:World)(c:a.heap[b]? = some (.cells #[d,.slice none 0 0] 117)):az 65 #[aO b] a (aP (.bool false) a):=by
 have e:a.cell? (aq b 1)=some (aJ):=by unfold World.cell?; rw[c];rfl
 clear c;go_enter func65,ntmps65;go_wp2;go_ret;exact yE
def oY:ah:=[111,114,105,103,105,110]
theorem Ee{P:Prop}(h:P:=by exact⟨fun⟨p,h⟩=>⟨p,h.symm⟩,fun⟨p,h⟩=>⟨p,h.symm⟩⟩):P:=h
theorem Le(a s:ah):Lib.hasSuffix a s=true ↔ ∃p,a=p++s:=by unfold Lib.hasSuffix;rw[GT];exact Ee
theorem Lf(a s:ah):Lib.hasPrefix a s=true ↔ ∃p,a=s++p:=by unfold Lib.hasPrefix;rw[List.isPrefixOf_iff_prefix];exact Ee
theorem Lg(a:ah):eX (a++[10])=l4 (aC 10 a):=by have b:Lib.hasSuffix (a++[10]) [10]=true:=(Le _ _).2 ⟨a,rfl⟩;unfold eX Lib.trimSuffix;rw[ay b,ay b];congr 2;simp
theorem xS{s:ah}(a:∀e,s≠e++[10]):eX s=none:=by unfold eX;rw[ar];intro b;obtain⟨d,c⟩:=(Le _ _).1 b;exact a d c
theorem Lh:∀(f:Nat) (b:ah) (c:UInt8),b.length<=f->c∈b->c=46\/∃g∈aC 46 b,c∈g
 | f,b,c,j,e=>by
  rcases hP 46 b with⟨_,d⟩|⟨k,h,i,_,d⟩;{exact .inr ⟨b,by rw[d];simp,e⟩};{
  rw[i]at e;rcases dv.1 e with a|a;{exact .inr ⟨k,by rw[d];simp,a⟩};{
  rcases co.1 a with a|a;{exact .inl a};{
  have o:h.length<f:=by rw[i]at j;simp at j;omega
  rcases Lh (f-1) h c ae a with a|⟨g,l,n⟩;{exact .inl a};{exact .inr ⟨g,by rw[d];exact fs _ l,n⟩}}}}
termination_by f=>f
decreasing_by omega
theorem M2{b:ah}(h:dQ b=true):(32:UInt8) ∉ b:=by
 intro j;have d:(dS false b).isSome=true:=by rw[l7];exact h
 unfold dS at d;split at d;{
 rename_i k;rcases Lh b.length b 32 av j with h|⟨n,e,g⟩;{exact absurd h ba};{
 have l:∀(a:List ah) (i:Nat),fZ false i a=true->∀x∈a,fA x=true:=by{
 intro a;induction a with
 | nil=>exact yj
 | cons o a ih =>{intro i h x hx;rw[fZ,bW]at h;rcases co.1 hx with rfl|hx;{have:=h.1;unfold k_ at this;simpa using this};exact yN}};have c:=l _ 0 k.2 n e;unfold fA at c;rw[bW]at c;have:=kM.1 c.2 32 g;exact absurd this ba}};{cases d}
theorem M3{b:UInt8}{a:ah}(e:b ∉ a):aC b a=[a]:=by rcases hP b a with⟨_,c⟩|⟨g,h,d,_,_⟩;{exact c};{exact absurd (by rw[d];simp) e}
theorem M4{f a:ah}(e:aC 32 f=[oY,a]):Lib.hasPrefix f fV=true/\Lib.trimPrefix f fV=a:=by
 have c:=oM 32 f;rw[e]at c;have b:f=fV++a:=by rw[<- c];rfl
 have d:=(Lf _ _).2 ⟨a,b⟩;refine⟨d,?_⟩;unfold Lib.trimPrefix;rw[ay d,b];simp
theorem M5{f:ah}(a:(Lib.hasPrefix f fV&&dQ (Lib.trimPrefix f fV))=true):∃c,aC 32 f=[oY,c]/\dQ c=true/\Lib.trimPrefix f fV=c:=by
 rw[bW]at a;obtain⟨b,d⟩:=(Lf _ _).1 a.1;have e:Lib.trimPrefix f fV=b:=by{unfold Lib.trimPrefix;rw[ay a.1,d];simp};rw[e]at a;refine⟨b,?_,a.2,e⟩;have g:f=oY++32::b:=by rw[d];rfl
 rw[g,Bf,M3 (M2 a.2)];rfl
theorem Li:∀(d:List ah) (b:ah),jI (d++[b])=(jI d).bind fun e=>(ea b).map fun c=>e++[c]
 | [],b=>by show(ea b).bind (fun c=>(jI []).map (c :: ·))=_;cases ea b<;>rfl
 | a::d,b=>by
  show(ea a).bind (fun c=>(jI (d++[b])).map (c :: ·))=Option.bind ((ea a).bind fun c=>(jI d).map (c :: ·)) _;rw[Li d b];cases ea a with
  | none=>rfl
  | some c =>{
  cases jI d with
  | none=>rfl
  | some e =>{
  cases ea b with
  | none=>rfl
  | some g=>rfl}}
theorem xT:∀(c:List ah) (a:List aj),jI c=some a->a.length=c.length
 | [],a,d=>by have : []=a:=cZ d;rw[<- this];rfl
 | i::c,a,d=>by
  have b:(ea i).bind (fun h=>(jI c).map (h :: ·))=some a:=d;cases g:ea i with
  | none=>rw[g]at b;cases b
  | some h =>{
  cases e:jI c with
  | none=>rw[g,e]at b;cases b
  | some j =>{rw[g,e]at b;have:h::j=a:=cZ b;rw[<- this,bi,xT c j e];rfl}}
theorem LA:∀(a:List ah) (d:Nat) (c:d<a.length),ea a[d]=none->jI a=none
 | b::a,0,_,c=>by show(ea b).bind _=none;have:ea b=none:=c;rw[this];rfl
 | b::a,d+1,e,c=>by show(ea b).bind (fun g=>(jI a).map (g :: ·))=none;rw[LA a d (by simpa using e) c];cases ea b<;>rfl
theorem L7{c:ah}{e:aj}(h:c.length<=3000)(a:ea c=some e):K0 e:=by
 unfold ea at a;split at a;{
 rename_i k l n d j;split at a;{
 rename_i b;simp only[bW]at b;obtain rfl:=(cZ a).symm;have i:d∈Lib.splitN c [32] 4:=by rw[j];simp
 have g:=b.1.2;refine⟨b.1.1,(Kj g).2.2,b.2,?_⟩;have:=zd 32 _ c d i;exact aZ this h};{cases a}};{cases a}
theorem Dx:∀(d:List ah) (a:List aj),(∀k∈d,k.length<=3000)->jI d=some a->∀e∈a,K0 e
 | [],a,_,h=>by have : []=a:=cZ h;rw[<- this];intro e c;cases c
 | g::d,a,l,h=>by
  have b:(ea g).bind (fun e=>(jI d).map (e :: ·))=some a:=h;cases c:ea g with
  | none=>rw[c]at b;cases b
  | some e =>{
  cases i:jI d with
  | none=>rw[c,i]at b;cases b
  | some n =>{rw[c,i]at b;have:e::n=a:=cZ b;rw[<- this];intro p j;rcases co.1 j with rfl|j;{exact L7 (l g am) c};{exact Dx d n (fun k o=>l k (fs _ o)) i p j}}}
def sd(s:ah)(e:Nat)(d:Ending)(h:World):Prop :=
 match er s with
 | none=>d=.returned (.pointer none)
 | some g=>∃c a b,d=.returned (aO c)/\e<=c/\nC h c a b/\kG a b/\eX s=some (a,b)/\g=(a,aS b)
section
theorem aB6(a:Option Addr)(d c:Nat)(b:World):(binOp .eql 113 (.slice a d c) (aJ)).run prog b=.ok (.bool a.isNone) b:=Gj b _ _ a d c 0 0 rH
attribute [local go_sem] aB6
theorem m8{s:ah}{a:Nat}{c:World}(b:er s=none):sd s a (.returned (.pointer none)) c:=by unfold sd;rw[b]
theorem qh{s:ah}(a:eX s=none):er s=none:=by unfold er;rw[a];rfl
theorem Nv{s:ah}{o:ah}{rs:List aj}(b:eX s=some (o,rs))(c:60<rs.length):er s=none:=by
 unfold er;rw[b];show(if mI o rs&&mO o (aS rs)then _ else _)=_;rw[ar];intro a;rw[bW]at a;have:=a.1;unfold mI at this;cases rs with
 | nil=>simp at this
 | cons d e=>simp at this c;omega
theorem L3{s:ah}{b:ah}{a:List aj}(c:eX s=some (b,a))(g:∀h∈a,jh h.owner=true)(e:¬(mH b a/\a.length<=60)):er s=none:=by unfold er;rw[c];show(if mI b a&&mO b (aS a)then _ else _)=_;rw[ar];intro d;exact e ((JN b a g).2 d)
theorem Nw{s:ah}{b:ah}{a:List aj}(d:eX s=some (b,a))(h:∀i∈a,jh i.owner=true)(g:mH b a)(e:a.length<=60):er s=some (b,aS a)/\mI b a=true/\mO b (aS a)=true:=by have c:=(JN b a h).1 ⟨g,e⟩;unfold er;rw[d];refine⟨?_,by rw[bW]at c;exact c.1,by rw[bW]at c;exact c.2⟩;show(if mI b a&&mO b (aS a)then _ else _)=_;rw[ay c]
theorem L4{f a:ah}(b:List ah)(c:aC 32 f=[oY,a])(g:dQ a=true):l4 (f::b)=(jI b).map (fun h=>(a,h)):=by obtain⟨d,e⟩:=M4 c;show(if Lib.hasPrefix f fV&&dQ (Lib.trimPrefix f fV)then _ else _)=_;rw[d,e,g];rfl
theorem C0{f:ah}(g:List ah)(c:∀a,aC 32 f=[oY,a]->dQ a=false):l4 (f::g)=none:=by show(if Lib.hasPrefix f fV&&dQ (Lib.trimPrefix f fV)then _ else _)=_;rw[ar];intro e;obtain⟨a,d,b,_⟩:=M5 e;rw[c a d]at b;cases b
theorem Ny{f:ah}{b:List ah}{s:ah}(e:eX s=l4 (f::b))(i:60<b.length):er s=none:=by
 cases d:l4 (f::b)with
 | none=>exact qh (by rw[e,d])
 | some j =>{
 obtain⟨o,rs⟩:=j;refine Nv (o:=o) (rs:=rs) (by rw[e,d]) ?_;have a:(if Lib.hasPrefix f fV&&dQ (Lib.trimPrefix f fV)then(jI b).map (fun rs=>(Lib.trimPrefix f fV,rs))else none)=some (o,rs):=d;split at a;{
 cases c:jI b with
 | none=>rw[c]at a;cases a
 | some g =>{rw[c]at a;have h:g=rs:=bP Prod.snd (cZ a);rw[<- h,xT b g c];exact i}};{cases a}}
theorem NR{W:World}{q:Nat}{c b:Value}{r:aj}{x:Nat->Prop}(e:W.heap[q]? = some (.cells #[c,.int .i64 r.aI,.int .i64 r.type,.string (ai r.data),b] 119))(g:ek W (fun a=>x a\/a=q) c (aY r.owner))(h:ek W (fun a=>x a\/a=q) b (aC 32 r.data)):dY x W 0 (aF q 0 1 1) [r]:=by
 refine⟨[(c,b,r)],rfl,⟨rfl,.inr ⟨q,1,_,rfl,b6 _,e,bb _,gW,rfl,rfl⟩⟩,?_⟩;intro k hy;obtain rfl:k=_:=sC
 have ao:∀a,a<W.heap.size->¬(x a\/a=q)->¬(x a\/some a=(Value.slice (some (aq q 0)) 1 1).ownBlock):=fun a _ j i=>j (i.imp id (fun d=>by simpa [Value.ownBlock]using d));exact⟨g.imp ao,h.imp ao⟩
structure Gg(w wr:World)(zb g go oc:Nat)(f y:ah)(ls:List ah)(k:Nat)(rs:List aj)(vl:Value):Prop where
 Gh:wr.heap[zb]? = some (.cells #[.slice (some ⟨go,0,none⟩) (aC 46 y).length oc,vl] 117)
 al:jI (ls.take k)=some rs
 FK:dY (· = zb) wr (zb+1) vl rs
 li:gJ wr g 0 (f::ls)
 nm:gJ wr go 0 (aC 46 y)
 bl:ax w wr
 nil:rs=[]->vl=aJ
theorem Gg.fr{k wr w1:World}{c d e i:Nat}{f y:ah}{h:List ah}{g:Nat}{rs:List aj}{j:Value}(a:Gg k wr c d e i f y h g rs j)(b:ax wr w1):Gg k w1 c d e i f y h g rs j :=
 ⟨(b.block c (bn.1 a.Gh).1).trans a.Gh,a.al,a.FK.below b,a.li.below b,a.nm.below b,a.bl.trans (b.mono a.bl.size),a.nil⟩
theorem Gg.add{x wr:World}{b g n u:Nat}{f y:ah}{q:List ah}{o:Nat}{rs:List aj}{l:Value}(h:Gg x wr b g n u f y q o rs l)(J:o<q.length){w:aj}(K:ea q[o]=some w){E:Value}(L:dY (fun d=>d=b\/some d=l.ownBlock) wr 0 E [w])(O:rs.length<=90000)(F:x.heap.size<=b)(H:g<b)(I:n<b):∃i k,(Builtin.append_ #[115,115] 115 #[l,E]).run prog wr=.ok i k/\k.heap[b]? = some (.cells #[.slice (some ⟨n,0,none⟩) (aC 46 y).length u,l] 117)/\Gg x (k.setCell ⟨b,1,none⟩ i) b g n u f y q (o+1) (rs++[w]) i/\(∃a c,i=.slice a (rs.length+1) c):=by
 have C:=(bn.1 h.Gh).1;obtain⟨i,k,N,k2,j,P⟩:=sQ h.FK L (fun d _ G=>G) ae aA (fun d t=>by rw[t];exact C);have D:=h.FK.lt;have M:some b≠l.ownBlock:=fun e=>by have:=(D b e.symm).1;omega
 have z:=(j.block b C M).trans h.Gh;have B:=bG.QY j (fun _ h=>h);have A:bG (fun d=>d≠b) k (k.setCell ⟨b,1,none⟩ i):=bG.kA (a:=⟨b,1,none⟩) i (fun _ h=>h);have r:∀d,d<b->some d≠l.ownBlock:=fun d t e=>by have:=(D d e.symm).1;omega
 refine⟨i,k,N,z,⟨?_,?_,?_,?_,?_,?_,?_⟩,?_⟩;{simp only[World.setCell,j0,gC,z];rfl};{rw[du J,Li,h.al,K];rfl};{exact k2.set (a:=⟨b,1,none⟩) i rfl (by show b<b+1;omega)};{exact(h.li.fr B (r g H)).fr A ae};{exact(h.nm.fr B (r n I)).fr A ae};{refine(h.bl.trans ?_).setCell (p:=⟨b,1,none⟩) F _;exact⟨j.os,j.tape,j.output,j.size,fun d t=>j.block d ae (r d ae)⟩};{intro e;simp at e};{exact yL}
theorem Fg{P:Prop}(h:P:=by
 go_simp;refine hK.out _ _ aL (fun hS=>?_);clear hK K;try simp only[Act.put,ep,c5,dl]
 refine ec (rs:=[7]) aB am (dr rfl (fun K hK=>?_) eb);rw[ay dO];refine DA (.tmp 82) (.tmp 84) 115 dO _ _ _ _ dO dO (ag p2) ?_;refine hK.out _ _ aL (fun hS=>?_);clear hK K;try simp only[Act.put,ep,c5,dl]
 refine fS 8 aL ?_;refine fS 9 aL ?_;refine ec (rs:=[10]) aB am (dr rfl (fun K hK=>?_) eb);go_simp;refine hK.out _ _ aL (fun hS=>?_);clear hK K;refine mz aB ?_ _;go_wp2;exact⟨⟨k+1,rs++[r],_,ae,bq,ab7⟩,ci⟩):P:=h
theorem DO{P:Prop}(h:P:=by
 go_simp;refine hK.out _ _ aL (fun hS=>?_);clear hK K;try simp only[Act.put,ep,c5,dl]
 refine ec (rs:=[6]) aB am (dr rfl (fun K hK=>?_) eb);exact Fg):P:=h
theorem OM(s:ah)(J:World)(G:s.length<=3000):az 17 #[.string (ai s)] J fun A bZ=>sd s J.heap.size A bZ/\ax J bZ:=by
 rcases js s with rfl|⟨b,V,p⟩;{have d:Hid (er []=none):=qh (xS (fun b h=>o5));have da:(ai ([]:ah)).size=0:=rfl;go_enter func17,ntmps17;go_wp2;go_ret;exact⟨m8 (ag d),bk _ _⟩};rw[jq]at p;have c_:(ai s).size=b.length+1:=by rw[a7,p];simp
 have c3:b.length+1<=3000:=by rw[p]at G;simpa using G
 have co:∀h:b.length<(ai s).size,(ai s)[b.length]=V:=fun h=>by{show s.toArray[b.length]'_=V;simp[p]};have cZ:¬(3000:Int)<((b.length+1:Nat):Int):=ae;have cQ:¬((b.length+1:Nat):Int)<1:=ae;have c4:((b.length+1:Nat):Int)-1=(b.length:Int):=ae;by_cases n:V=10;{
 have cF:((V.toNat:Int) != 10)=false:=by rw[n];rfl
 have bC:Hid ((ai s).extract 0 b.length=ai b):=by rw[Hid,qH,p];simp
 have C:Hid (eX s=l4 (aC 10 b)):=by rw[Hid,p,n];exact Lg b
 have bd:=af (fun W=>qI b 10 W ae);have aR:Hid (∀x∈aC 10 b,x.length<=3000):=fun x o=>by have:=jo 10 b.length b av x o;omega
 have bs:(aC 10 b).length<=3001:=by have:=iq 10 b;omega
 obtain⟨f,a,bc⟩:∃f a,aC 10 b=f::a:=by{
 cases h:aC 10 b with
 | nil=>exact absurd h (io 10 b)
 | cons f a=>exact⟨f,a,rfl⟩};rw[bc]at C bd aR bs;have cI:=af p;clear n p G bc;generalize ai s=S at *;go_enter func17,ntmps17;go_wp2_with fail;rw[ag bC];refine(bd _).mono ?_;rintro A b0 ⟨⟨dp,rfl,bK⟩,bI⟩;obtain⟨ar,cS,rfl,cm,c0,au⟩:=l6 bK am;have ch:b0.cell? (aq ar 0)=some (.string (ai f)):=au.2 0 am;have b4:=af au;have bc:=ag aR f am;have bG:=af (qI f 32 b0 ae);have bB:=af bI;have df:=au.1;simp only[bi]at bs cm ⊢;clear au bK bI bd bC co;go_wp2_with fail;refine bG.mono ?_;rintro A bp ⟨⟨dq,rfl,bL⟩,aD⟩;obtain⟨bH,cV,rfl,br,cM,bt⟩:=l6 bL (io 32 f);have cu:=bB.size;have c8:=aD.size;have U:=af (bB.trans (aD.mono cu));have b_:=af (b4.below aD);have aV:=af bt;clear bL aD bG ch bt;by_cases y:(aC 32 f).length=2;rotate_left
 {
 have dw:(((aC 32 f).length:Int) != 2)=true:=by simp only[o9,ne_eq];omega
 have d:Hid (er s=none):=qh (by rw[ag C];exact C0 a (fun c h=>absurd ng y));go_wp2;go_ret;exact⟨m8 (ag d),U⟩};obtain⟨x,c,aS⟩:∃x c,aC 32 f=[x,c]:=by{
 cases a8:aC 32 f with
 | nil=>rw[a8]at y;cases y
 | cons x cy =>{
 cases cy with
 | nil=>rw[a8]at y;cases y
 | cons c cz =>{
 cases cz with
 | nil=>exact⟨x,c,rfl⟩
 | cons dv dd=>rw[a8]at y;simp at y}}};rw[aS]at br aV ⊢;simp only[bi,cW]at br ⊢;have cU:bp.cell? (aq bH 0)=some (.string (ai x)):=aV.2 0 am;have cl:bp.cell? (aq bH 1)=some (.string (ai c)):=aV.2 1 am;have cJ:c.length<=3000:=by have:=jo 32 f.length f av c (by rw[aS];simp);omega
 have L:=af aS;clear y aS;by_cases o:x=oY;rotate_left
 {have bN:((ai x).toList==oY)=false:=by{rw[c7];show(x==oY)=false;simpa using o};have bu:((ai x).toList==[111,114,105,103,105,110])=false:=bN;have d:Hid (er s=none):=qh (by rw[ag C];exact C0 a (fun b3 h=>absurd (by have:=ag L;rw[h]at this;exact(rh this).1.symm) o));clear o bN;go_wp2;go_ret;exact⟨m8 (ag d),U⟩};have bu:((ai x).toList==[111,114,105,103,105,110])=true:=by{rw[c7,o];rfl};rw[o]at L;clear o;have c6:((a.length+1:Nat):Int)-1=(a.length:Int):=ae;by_cases b9:60<a.length;{have ca:(60:Int)<(a.length:Int):=ae;have d:=af (Ny (ag C) b9);go_wp2;go_ret;exact⟨m8 (ag d),U⟩};have ca:¬(60:Int)<(a.length:Int):=ae;have bV:=af (rt c false bp ae);go_wp2_with fail;refine bV.mono ?_;rintro A ac ⟨⟨cD,rfl,X⟩,aF⟩;have ao:=af (U.trans (aF.mono U.size));have c9:=aF.size;have cb:=af (b_.below aF);clear bV aF cU cl bu;cases B:dS false c with
 | none =>{rw[B]at X;have cc:cD=aJ:=X;subst cc;have d:Hid (er s=none):=qh (by{rw[ag C];refine C0 a (fun b3 h=>?_);have:=ag L;rw[h]at this;obtain rfl:b3=c:=(rh (rh this).2).1;rw[<- l7,B];rfl});clear X;go_wp2;go_ret;exact⟨m8 (ag d),(ao.alloc ae _)⟩}
 | some Y =>{
 rw[B]at X;obtain rfl:=Lm B;have cs:dQ c=true:=by rw[<- l7,B];rfl
 obtain⟨_,aw,aM,rfl,cB,c1,aW⟩:=X;have cR:=aW.1;obtain⟨aH,aU⟩:∃aH:Obj,aH=.cells #[.slice (some ⟨aw,0,none⟩) (aC 46 c).length aM,.slice none 0 0] 117:=⟨_,rfl⟩;have t:ax ac (ac.alloc aH):=aE.alloc av _;have bW:Hid (Gg J (ac.alloc aH) ac.heap.size ar aw aM f c a 0 [] (aJ)):=⟨by rw[World.alloc_heap_new,aU],rfl,dY.nil _ _ _,cb.below t,aW.below t,ao.trans (t.mono ao.size),fun _=>rfl⟩;have cN:=ao.size;have M:=af (aQ B (aQ cs cB));clear t B aW;go_wp2_with fail;rw[<- aU];obtain⟨g,cw⟩:∃g,ac.heap.size=g:=⟨_,rfl⟩;rw[cw]at bW ⊢;clear aU;go_loopw [6] (fun bb wr=>∃(k:Nat) (rs:List aj) (bY:Value),k<=a.length/\bb=ak ((k+1:Nat):Int)/\Gg J wr g ar aw aM f c a k rs bY) (fun bb _=>a.length+1-(intOf bb).toNat);case atStart=>exact⟨0,[],_,b6 _,rfl,bW⟩
 case round =>(
 obtain⟨k,rs,bY,c2,rfl,e⟩:=hrel;obtain⟨aI,aK,rfl⟩:=e.FK.slice;have bF:=af e;have ct:rs.length=k:=by rw[xT _ _ e.al,de];omega
 have db:=(bn.1 e.Gh).1;have bD:=e.bl.size;by_cases a6:k<a.length;{
 have b5:((k+1:Nat):Int)<((a.length+1:Nat):Int):=ae;have ck:wr.cell? (aq ar (k+1))=some (.string (ai a[k])):=by{have:=e.li.2 (k+1) aA;rw[cT]at this;exact this};have bJ:=ag aR a[k] (fs _ (bM a6));have aP:=af (Nc a[k] wr bJ);obtain⟨aX,a_⟩:∃aX,a[k]=aX:=⟨_,rfl⟩;rw[a_]at ck aP;have a5:=af a_;clear e a_;go_wp2_with fail;refine aP.mono ?_;rintro A l ⟨⟨bl,bo,bm,dn,dc,cX,bf,aZ,bg,rfl,be⟩,t⟩;have cY:=t.size;have N:=bF.fr t;have b8:=af N;cases aN:ea aX with
 | none =>{have d:Hid (er s=none):=qh (by{rw[ag C,L4 a (ag L) M.2.1,LA a k a6 (by rw[ag a5];exact aN)];rfl});have Z:=af N.bl;clear be t N aP;go_wp2;go_ret;exact⟨m8 (ag d),Z.alloc ae _⟩}
 | some r =>{
 obtain⟨rfl,rfl,rfl,bR,bS⟩:=be r aN;obtain⟨j,ab⟩:∃j:Obj,j=.cells #[.slice bl bo bm,.int .i64 r.aI,.int .i64 r.type,.string (ai r.data),.slice bf aZ bg] 119:=⟨_,rfl⟩;have bE:ax l (l.alloc j):=aE.alloc av _;have aG:=bE.drew;have hnew:(l.alloc j).drew.heap[l.heap.size]? = some j:=World.alloc_heap_new l j;have bv:(l.alloc j).drew.heap.size=l.heap.size+1:=cv l j;have bw:=N.fr aG;have bT:qa (l.alloc j).drew wr.heap.size (.slice bl bo bm) (aC 46 r.owner):=by{obtain⟨E,P,Q,R,T,F,an⟩:=bR;exact⟨E,P,Q,R,T,F.below aG,an⟩};have bQ:qa (l.alloc j).drew wr.heap.size (.slice bf aZ bg) (aC 32 r.data):=by{obtain⟨E,P,Q,R,T,F,an⟩:=bS;exact⟨E,P,Q,R,T,F.below aG,an⟩};have a0:=af bw;have aY:=af (aQ bT bQ);have a1:=af hnew;have bX:=af aN;clear be t N aP bR bS bw bT bQ hnew bE aG aN;go_upto_region 16 with fail;rw[<- ab];refine y_ (S:=fun _=>True) aB aL (fun hS=>?_);generalize (l.alloc j).drew=i at *;obtain⟨z,u⟩:∃z,l.heap.size=z:=⟨_,rfl⟩;rw[u]at a1 bv ⊢;have hnew:=ag a1;rw[ab]at hnew;have I:i.cell? (aq z 0)=some (.slice bl bo bm):=by exact gA
 have dh:i.cell? (aq z 1)=some (ak r.aI):=by exact gA
 have di:i.cell? (aq z 2)=some (ak r.type):=by exact gA
 have dj:i.cell? (aq z 3)=some (.string (ai r.data)):=by exact gA
 have dk:i.cell? (aq z 4)=some (.slice bf aZ bg):=by exact gA
 have bz:=a0.Gh;have cH:i.cell? (aq g 1)=some (.slice aI rs.length aK):=by unfold World.cell?; rw[bz];rfl
 have cO:¬g=i.heap.size:=ae;have cP:=fun cA=>(b7 (bx i cA g ae)).trans cH;have a4:ax i (i.alloc j):=aE.alloc av _;have bh:=bF.FK.lt;have bj:∀ {v:Value} {Y:List ah},qa i wr.heap.size v Y->ek (i.alloc j) (fun H=>(H=g\/some H=(Value.slice aI rs.length aK).ownBlock)\/H=i.heap.size) v Y:=fun h=>by{obtain⟨E,P,Q,R,T,F,an⟩:=h;refine⟨E,P,Q,R,T,F.below a4,fun n=>?_⟩;have:=F.1;rcases n with(n|n)|n;{omega};{have:=(bh E n.symm).2;omega};{omega}};have o:=NR (W:=i.alloc j) (q:=i.heap.size) (r:=r) (x:=fun H=>H=g\/some H=(Value.slice aI rs.length aK).ownBlock) (by rw[World.alloc_heap_new,ab]) (by rw[lv (xC (L7 (by rw[<- ag a5];exact bJ) (ag bX)).vL)];exact bj aY.1) (bj aY.2);obtain⟨ds,b1,ba,a2,bA,cL,hZ,cC⟩:=(a0.fr a4).add a6 (by rw[ag a5];exact bX) o ae ae ae ae;subst cC;rw[ab]at ba;have p2:=af ba;have ab7:=af bA;have dt:b1.cell? (aq g 1)=some (.slice aI rs.length aK):=by unfold World.cell?; rw[a2];rfl
 have dg:b1.frozen? (aq g 1)=false:=by unfold World.frozen?; rw[a2];rfl
 clear ba bA a2 o bj a4 hnew bz u a1 a0 b8 aY ab bv ct;refine fS 0 aL ?_;refine fS 1 aL ?_;refine fS 2 aL ?_;refine fS 3 aL ?_;refine ec (rs:=[4,5]) aB am (dr rfl (fun K hK=>?_) (dr rfl (fun K hK=>?_) eb));{
 go_simp;refine hK.out _ _ aL (fun hS=>?_);clear hK K;try simp only[Act.put,ep,c5,dl]
 refine ec (rs:=[5]) aB am (dr rfl (fun K hK=>?_) eb);exact DO};{
 go_simp;refine hK.out _ _ aL (fun hS=>?_);clear hK K;try simp only[Act.put,ep,c5,dl]
 refine ec (rs:=[4,6]) aB am (dr rfl (fun K hK=>?_) (dr rfl (fun K hK=>?_) eb));{
 exact DO};{
 go_simp;refine hK.out _ _ aL (fun hS=>?_);clear hK K;try simp only[Act.put,ep,c5,dl]
 refine ec (rs:=[4]) aB am (dr rfl (fun K hK=>?_) eb);exact Fg}}}};{
 have b5:¬((k+1:Nat):Int)<((a.length+1:Nat):Int):=ae;have cG:k=a.length:=ae;have b2:Hid (jI a=some rs):=by{have:=e.al;rw[cG,dK]at this;exact this};have ad:Hid (eX s=some (c,rs)):=by{rw[Hid,ag C,L4 a (ag L) M.2.1,ag b2];rfl};have O:=af (Dx a rs (fun Y G=>ag aR Y (fs _ G)) (ag b2));have cd:rs.length<=60:=ae;cases rs with
 | nil =>{have bh:=e.nil rfl;have D:=e.Gh;rw[bh]at D;have aT:=af (M1 g _ wr D);have d:Hid (er s=none):=L3 (ag ad) (fun r w=>by cases w) (fun h=>by obtain⟨a9,_⟩:=h.1.1;simp at a9);have Z:=af e.bl;clear e D;go_wp2_with fail;refine aT.mono ?_;rintro A cE ⟨rfl,u⟩;have ap:=af (Z.trans (u.mono bD));clear u;go_wp2;go_ret;exact⟨m8 (ag d),ap⟩}
 | cons I aa =>{
 have a3:nC wr g c (I::aa):=by{rcases e.FK.recs (fun r w=>xC (O r w).vL)with⟨_,h⟩|⟨cn,cj,a9,_,cp,cq⟩;{cases h};{have D:=e.Gh;rw[a9]at D;exact⟨_,cn,0,cj,D,⟨aw,0,aM,rfl,M.2.2,e.nm⟩,cp,cq⟩}};have du:=(ed M.2.1).2;have bO:nb c (I::aa):=⟨ae,ae,fun r w=>by have:=(oX (O r w).vL).2;omega⟩;have aT:=af (T0 g c (I::aa) wr a3 bO am);have ce:=af a3;have Z:=af e.bl;clear e a3 bO;go_wp2_with fail;refine aT.mono ?_;rintro A cE ⟨⟨cg,rfl,al⟩,u⟩;have ap:=af (Z.trans (u.mono bD));have cf:=af (ce.below u);clear u;cases cg with
 | false =>{have d:Hid (er s=none):=L3 (ag ad) (fun r w=>(O r w).vL) (fun h=>by have:=al.2 h.1;cases this);clear al;go_wp2;go_ret;exact⟨m8 (ag d),ap⟩}
 | true =>{obtain⟨bU,cK,cx⟩:=Nw (ag ad) (fun r w=>(O r w).vL) (al.1 rfl) cd;have d:Hid (∀W,nC W g c (I::aa)->sd s J.heap.size (.returned (aO g)) W):=fun W cr=>by{unfold sd;rw[bU];exact⟨g,c,I::aa,rfl,ae,cr,⟨M.2.1,O,cK,cx⟩,ad,rfl⟩};clear al bU cK cx;go_wp2;go_ret;exact⟨ag d _ (ag cf),ap⟩}}})}};{have cF:((V.toNat:Int) != 10)=true:=by{simp only[o9,ne_eq];intro h;exact n (nG.1 (by show _=10;omega))};have d:Hid (er s=none):=qh (xS (fun dm h=>by{rw[p]at h;have:=bP List.getLast? h;simp at this;exact n this}));clear p G;generalize ai s=S at *;go_enter func17,ntmps17;go_wp2;go_ret;exact⟨m8 (ag d),bk _ _⟩}
end
end Go.Proofs.YtkkpahmoljiepaaGreatDoor
