import Derived.Test.YtkkpahmoljiepaaGreatDoorJ13
set_option maxRecDepth 1000000
set_option maxHeartbeats 12800000
set_option linter.unusedSimpArgs false
set_option linter.unusedVariables false
namespace Go.Proofs.YtkkpahmoljiepaaGreatDoor
open Go.RowKit Go.Proofs.Tryz
abbrev gN(a b c:ah):Value:=.agg #[au a,au b,au c]
abbrev AF(b a:Nat)(m:ah):Value:=.agg #[ak b,ak a,au m]
abbrev g7(a b:ah)(c:Nat)(d:ah):Value:=.agg #[au a,au b,ak c,au d]
structure sW(w W:World)(a b r:ah):Prop where
 p:cH W w.heap.size [au a,au b,au r] 307
 z:cH W (w.heap.size+1) [.string ⟨#[]⟩,.string ⟨#[]⟩,.string ⟨#[]⟩] 307
 below:ax w W
theorem sW.size{w W:World}{a b r:ah}(h:sW w W a b r):w.heap.size+1<W.heap.size:=h.z.lt
theorem sW.next{i c d:World}{e g h:ah}(a:sW i c e g h)(b:ax c d):sW i d e g h :=
 ⟨a.p.below b a.p.lt,a.z.below b a.z.lt,a.below.trans (b.mono (by have:=a.size;omega))⟩
theorem sW.alloc{w W:World}{a b r:ah}(h:sW w W a b r)(o:Obj):sW w (W.alloc o) a b r:=h.next (aE.alloc av _)
theorem sW.XU(a:World)(b c d:ah):sW a ((a.alloc (.cells #[.string (ai b),.string (ai c),.string (ai d)] 307)).alloc (.cells #[.string ⟨#[]⟩,.string ⟨#[]⟩,.string ⟨#[]⟩] 307)) b c d where
 p:=(cH.jM a _ _).alloc _
 z:=by
  have:=cH.jM (a.alloc (.cells #[.string (ai b),.string (ai c),.string (ai d)] 307)) [.string ⟨#[]⟩,.string ⟨#[]⟩,.string ⟨#[]⟩] 307;simpa using this
 below:=(aE.alloc av _).alloc am _
theorem SO{g:World}{a:Nat}{i j k:Value}{e:TypeId}(h:cH g a [i,j,k] e)(b c d:Value):cH (((g.setCell ⟨a,0,none⟩ b).setCell ⟨a,1,none⟩ c).setCell ⟨a,2,none⟩ d) a [b,c,d] e:=((h.set 0 b).set 1 c).set 2 d
theorem sW.zero{a e:World}{i j k:ah}(g:sW a e i j k)(h:Obj)(b c d:Value):cH ((((e.setCell ⟨a.heap.size+1,0,none⟩ b).setCell ⟨a.heap.size+1,1,none⟩ c).setCell ⟨a.heap.size+1,2,none⟩ d).alloc h) (a.heap.size+1) [b,c,d] 307/\ax a ((((e.setCell ⟨a.heap.size+1,0,none⟩ b).setCell ⟨a.heap.size+1,1,none⟩ c).setCell ⟨a.heap.size+1,2,none⟩ d).alloc h) :=
 ⟨(SO g.z b c d).alloc h,(((g.below.setCell (by show a.heap.size<=a.heap.size+1;omega) _).setCell (by show a.heap.size<=a.heap.size+1;omega) _).setCell (by show a.heap.size<=a.heap.size+1;omega) _).alloc (by have:=g.size;simp[World.setCell];omega) _⟩
theorem Fh{P:Prop}(h:P:=by go_wp2;obtain⟨r0,r1,r2⟩:=ag R;refine cc (v:=.tuple #[.agg #[.string ⟨#[]⟩,.string ⟨#[]⟩,.string ⟨#[]⟩],.bool false]) ?_ rfl ?_;{simp[results,results211,go_sem,r0,r1,r2]};{exact⟨rfl,dm.2⟩}):P:=h
theorem IL(e g j m:ah)(d b:Nat)(i:Bool)(z:Value)(a:World)(r:i=false\/b≠53)(p:∀n,az 257 #[gN e g j] n (aP (.tuple #[AF d b m,.bool i]) n)):az 211 #[gN e g j,z] a (aP (.tuple #[gN [] [] [],.bool false]) a):=by
 have l:=af p;have o:=af (sW.XU a e g j);have u:=af r;clear p r;go_enter func211,ntmps211;go_wp2_with fail;refine(l _).mono ?_;rintro C k ⟨rfl,q⟩;have c:=af (o.next q);clear q o l;have w:=c.z.cell 0 am;have x:=c.z.cell 1 am;have y:=c.z.cell 2 am;have D:=c.z.frozen;simp only[cw,cF]at w x y;have E:=c.size;have dm:=af (c.zero (.cells #[.int .i64 d,.int .i64 b,.string (ai m)] 349) (.string ⟨#[]⟩) (.string ⟨#[]⟩) (.string ⟨#[]⟩));have r0:((((k.setCell ⟨a.heap.size+1,0,none⟩ (.string ⟨#[]⟩)).setCell ⟨a.heap.size+1,1,none⟩ (.string ⟨#[]⟩)).setCell ⟨a.heap.size+1,2,none⟩ (.string ⟨#[]⟩)).alloc (.cells #[.int .i64 d,.int .i64 b,.string (ai m)] 349)).cell? (aq (a.heap.size+1) 0)=some (.string ⟨#[]⟩):=dm.1.cell 0 am;have r1:((((k.setCell ⟨a.heap.size+1,0,none⟩ (.string ⟨#[]⟩)).setCell ⟨a.heap.size+1,1,none⟩ (.string ⟨#[]⟩)).setCell ⟨a.heap.size+1,2,none⟩ (.string ⟨#[]⟩)).alloc (.cells #[.int .i64 d,.int .i64 b,.string (ai m)] 349)).cell? (aq (a.heap.size+1) 1)=some (.string ⟨#[]⟩):=dm.1.cell 1 am;have r2:((((k.setCell ⟨a.heap.size+1,0,none⟩ (.string ⟨#[]⟩)).setCell ⟨a.heap.size+1,1,none⟩ (.string ⟨#[]⟩)).setCell ⟨a.heap.size+1,2,none⟩ (.string ⟨#[]⟩)).alloc (.cells #[.int .i64 d,.int .i64 b,.string (ai m)] 349)).cell? (aq (a.heap.size+1) 2)=some (.string ⟨#[]⟩):=dm.1.cell 2 am;have R:=af (aQ r0 (aQ r1 r2));clear r0 r1 r2 c;cases i with
 | false =>{exact Fh}
 | true =>{
 have A:b≠53:=by{rcases ag u with h|h;{cases h};{exact h}};have t:¬(b:Int)=53:=ae;have B:((b:Int) != 53)=true:=by simpa using t
 exact Fh}
structure Nx(w W:World)(a b r:ah)(db sp:Nat)(m:ah):Prop where
 pa:sW w W a b r
 d:cH W db [ak sp,ak 53,au m] 349
theorem Nx.next{k b c:World}{d e i m:ah}{g j:Nat}(a:Nx k b d e i g j m)(h:ax b c):Nx k c d e i g j m:=⟨a.pa.next h,a.d.below h a.d.lt⟩
theorem SP(a b i m e:ah)(g:Nat)(N:Value)(w:World)(A:a.length<=1000)(B:b.length<=1000)(G:g<65536)(F:e≠[])(x:e.length<=60000)(y:∀c,az 257 #[gN a b i] c (aP (.tuple #[AF g 53 m,.bool true]) c))(z:∀c,ax w c->az 27 #[N,au m] c (aP (au e) c)):az 211 #[gN a b i,N] w (aP (.tuple #[gN b a (iM b a 53 g e),.bool true]) w):=by
 have o:=af y;have p:=af z;have u:=af (sW.XU w a b i);have S:(ai e).toList.isEmpty=false:=by{
 rw[c7];cases e with
 | nil=>exact absurd rfl F
 | cons Y W=>rfl};have n:=af (fun c=>S9 b a [] e 53 g c B A x ae G);clear y z F x A B G;go_enter func211,ntmps211;go_wp2_with fail;refine(o _).mono ?_;rintro t l ⟨rfl,C⟩;have k:=u.next C;have V:=k.size;have j:Nx w (l.alloc (.cells #[.int .i64 g,.int .i64 53,.string (ai m)] 349)) a b i l.heap.size g m:=⟨k.alloc _,cH.jM _ _ _⟩;have r:=af j;have J:=af (p _ j.pa.below);clear C u o k j p;go_wp2_with fail;refine J.mono ?_;rintro t R ⟨rfl,D⟩;have d:=af (r.next D);clear D r J;generalize l.heap.size=T at *;have H:=d.pa.p.cell 0 am;have I:=d.pa.p.cell 1 am;have cU:=d.d.cell 0 am;have q:=d.d.cell 1 am;simp only[cw,cF]at H I cU q;have P:=d.pa.size;have Q:=d.d.lt;go_wp2_with fail;refine(n (R.alloc (.cells #[.string (ai b),.string (ai a),.string ⟨#[]⟩] 307))).mono ?_;rintro t X ⟨rfl,E⟩;have h:=((d.pa.alloc (.cells #[.string (ai b),.string (ai a),.string ⟨#[]⟩] 307)).next E);clear E d n H I cU q P Q;have K:=h.z.cell 0 am;have L:=h.z.cell 1 am;have M:=h.z.cell 2 am;have U:=h.z.frozen;simp only[cw,cF]at K L M;have O:=af h.below;clear h;go_wp2;refine cc (v:=.tuple #[.agg #[.string (ai b),.string (ai a),.string (ai (iM b a 53 g e))],.bool true]) ?_ rfl ?_;{simp[results,results211,go_sem,K,L,M]};{exact⟨rfl,((O.setCell c9 _).setCell c9 _).setCell c9 _⟩}
abbrev fv(a b:ah):Value:=.agg #[au a,au b]
structure pU(w W:World)(a b:ah)(k:Nat)(r aT ip:ah):Prop where
 f:cH W w.heap.size [au a,au b,ak k,au r] 150
 c:cH W (w.heap.size+1) [au aT,au ip] 62
 below:ax w W
theorem pU.size{w W:World}{a b r c d:ah}{k:Nat}(h:pU w W a b k r c d):w.heap.size+1<W.heap.size:=h.c.lt
theorem pU.next{l c d:World}{e h k g i:ah}{j:Nat}(a:pU l c e h j k g i)(b:ax c d):pU l d e h j k g i :=
 ⟨a.f.below b a.f.lt,a.c.below b a.c.lt,a.below.trans (b.mono (by have:=a.size;omega))⟩
theorem pU.alloc{w W:World}{a b r c d:ah}{k:Nat}(h:pU w W a b k r c d)(o:Obj):pU w (W.alloc o) a b k r c d:=h.next (aE.alloc av _)
theorem pU.C6(a:World)(b e:ah)(h:Nat)(i d g:ah):pU a ((a.alloc (.cells #[.string (ai b),.string (ai e),.int .i64 h,.string (ai i)] 150)).alloc (.cells #[.string (ai d),.string (ai g)] 62)) b e h i d g where
 f:=(cH.jM a _ _).alloc _
 c:=by
  have:=cH.jM (a.alloc (.cells #[.string (ai b),.string (ai e),.int .i64 h,.string (ai i)] 150)) [au d,au g] 62;simpa using this
 below:=(aE.alloc av _).alloc am _
theorem we(i k b j r:ah)(t:Nat)(w:Value)(c:World)(n:∀h,az 210 #[au b] h fun o u=>(∃d e g:ah,o=.returned (.tuple #[gN d e g,.bool false]))/\ax h u):az 150 #[g7 i k t b,w,fv j r] c (aP (.string ⟨#[]⟩) c):=by have l:=af n;have p:=af (pU.C6 c i k t b j r);clear n;go_enter func150,ntmps150;go_wp2_with fail;refine(l _).mono ?_;rintro o y ⟨⟨d,e,g,rfl⟩,q⟩;have a:=p.next q;have x:=a.size;have aR:=af (a.alloc (.cells #[.string (ai d),.string (ai e),.string (ai g)] 307)).below;clear q p l a;go_wp2;go_ret;exact mw
theorem IM(k n h l b i j:ah)(z:Nat)(B:Value)(e:World)(r:∀a,az 210 #[au h] a (aP (.tuple #[gN i b j,.bool true]) a))(w:∀a,ax e a->az 211 #[gN i b j,B] a (aP (.tuple #[gN [] [] [],.bool false]) a)):az 150 #[g7 k n z h,B,fv l b] e (aP (.string ⟨#[]⟩) e):=by have o:=af r;have q:=af w;have u:=af (pU.C6 e k n z h l b);clear r w;go_enter func150,ntmps150;go_wp2_with fail;refine(o _).mono ?_;rintro C F ⟨rfl,x⟩;have d:=u.next x;have D:=d.size;have c:=d.alloc (.cells #[.string (ai i),.string (ai b),.string (ai j)] 307);have A:=af (q _ c.below);have ap:=d.c.cell 1 am;have p:=c.c.cell 1 am;simp only[cw,cF]at ap p;have t:=af c;clear x u o d q c;go_wp2_with fail;refine A.mono ?_;rintro C G ⟨rfl,y⟩;have g:=t.next y;have E:=g.size;have aR:=af (g.alloc (.cells #[.string (ai []),.string (ai []),.string (ai [])] 307)).below;clear y g t A ap p;go_wp2;go_ret;exact mw
theorem SQ(E i z h q A B b c d:ah)(Q:Nat)(X:Value)(g:World)(R:i.length<=1000)(S:h.length<=1000)(T:b.length<=1000)(U:c.length<=1000)(V:d.length<=60000)(I:∀a,az 210 #[au z] a (aP (.tuple #[gN A q B,.bool true]) a))(M:∀a,ax g a->az 211 #[gN A q B,X] a (aP (.tuple #[gN b c d,.bool true]) a)):az 150 #[g7 E i Q z,X,fv h q] g (aP (au (i++h++[8,0]++jd b c d)) g):=by
 have F:=af I;have H:=af M;have K:=af (pU.C6 g E i Q z h q);have C:(jd b c d).length<=100000:=by simp[jd,kD];omega
 have aa:=af (fun a=>S6 b c d a T U V);have Y:Hid (∀a,az 209 #[.agg #[au i,au h,ak 2048,au (jd b c d)]] a (aP (au (i++h++[8,0]++jd b c d)) a)):=fun a=>IJ i h (jd b c d) 2048 a R S C ae;clear I M R S T U V C;go_enter func150,ntmps150;go_wp2_with fail;refine(F _).mono ?_;rintro w an ⟨rfl,O⟩;have u:=K.next O;have aj:=u.size;have t:=u.alloc (.cells #[.string (ai A),.string (ai q),.string (ai B)] 307);have W:=af (H _ t.below);have ap:=u.c.cell 1 am;have G:=t.c.cell 1 am;simp only[cw,cF]at ap G;have J:=af t;clear O K F u H t;go_wp2_with fail;refine W.mono ?_;rintro w e ⟨rfl,P⟩;have y:=J.next P;have al:=y.size;have p:=af (y.alloc (.cells #[.string (ai b),.string (ai c),.string (ai d)] 307));have ad:(e.alloc (.cells #[.string (ai b),.string (ai c),.string (ai d)] 307)).drew.cell? (aq g.heap.size 1)=some (au i)/\(e.alloc (.cells #[.string (ai b),.string (ai c),.string (ai d)] 307)).drew.cell? (aq (g.heap.size+1) 0)=some (au h)/\(e.alloc (.cells #[.string (ai b),.string (ai c),.string (ai d)] 307)).drew.cell? (aq e.heap.size 0)=some (au b)/\(e.alloc (.cells #[.string (ai b),.string (ai c),.string (ai d)] 307)).drew.cell? (aq e.heap.size 1)=some (au c)/\(e.alloc (.cells #[.string (ai b),.string (ai c),.string (ai d)] 307)).drew.cell? (aq e.heap.size 2)=some (au d)/\ax g (e.alloc (.cells #[.string (ai b),.string (ai c),.string (ai d)] 307)).drew:=by
  have x:=cH.jM e [au b,au c,au d] 307;exact⟨p.f.cell 1 am,p.c.cell 0 am,x.cell 0 am,x.cell 1 am,x.cell 2 am,p.below.drew⟩
 have D:Hid (∀a j:World,(a.cell? (aq g.heap.size 1)=some (au i)/\a.cell? (aq (g.heap.size+1) 0)=some (au h)/\a.cell? (aq e.heap.size 0)=some (au b)/\a.cell? (aq e.heap.size 1)=some (au c)/\a.cell? (aq e.heap.size 2)=some (au d)/\ax g a)->ax a j->(j.cell? (aq g.heap.size 1)=some (au i)/\j.cell? (aq (g.heap.size+1) 0)=some (au h)/\j.cell? (aq e.heap.size 0)=some (au b)/\j.cell? (aq e.heap.size 1)=some (au c)/\j.cell? (aq e.heap.size 2)=some (au d)/\ax g j)):=fun a j l N=>by
  have r:∀(o:Addr) (v:Value),a.cell? o=some v->j.cell? o=some v:=fun o v L=>(N.cell (ef a o L)).trans L;exact⟨r _ _ l.1,r _ _ l.2.1,r _ _ l.2.2.1,r _ _ l.2.2.2.1,r _ _ l.2.2.2.2.1,l.2.2.2.2.2.trans (N.mono l.2.2.2.2.2.size)⟩
 have ab:=p.f.cell 1 am;have ac:=p.c.cell 0 am;simp only[cw,cF]at ab ac;clear P y J W ap G;go_wp2_with fail
 go_region_held (fun k=>k.cell? (aq g.heap.size 1)=some (au i)/\k.cell? (aq (g.heap.size+1) 0)=some (au h)/\k.cell? (aq e.heap.size 0)=some (au b)/\k.cell? (aq e.heap.size 1)=some (au c)/\k.cell? (aq e.heap.size 2)=some (au d)/\ax g k) (first|assumption|go_keep)
  (first
   | (go_at_call 212;go_loud (refine(aa _).mono ?_;rintro w k ⟨rfl,n⟩;replace n:=ag D _ _ gj n))
   | (go_at_call 209;go_loud (refine(Y _).mono ?_;rintro w k ⟨rfl,n⟩;replace n:=ag D _ _ gj n)))
 all_goals
  have Z:=af n.2.2.2.2.2;clear n;go_wp2;go_ret;exact⟨bP (fun o=>Ending.returned (au o)) am,Z⟩
theorem SR(c e h d g:ah)(a:Nat)(k:Value)(b:World)(o:a≠2054)(p:a≠2048):az 80 #[g7 c e a h,k,fv d g] b (aP (.string ⟨#[]⟩) b):=by
 have aR:=af (pU.C6 b c e a h d g).below;have i:¬(a:Int)=2054:=ae;have j:¬(a:Int)=2048:=ae;have l:((a:Int)==2054)=false:=by simpa using i
 have n:((a:Int)==2048)=false:=by simpa using j
 go_enter func80,ntmps80;go_wp2;go_ret;exact mw
theorem D0{P:Prop}(h:P:=by have aR:=af hS.below;have cV:=af (hA _ hS.below);clear hS hA;go_enter func80,ntmps80;go_wp2_with fail;refine cV.mono ?_;rintro e w1 ⟨rfl,hb1⟩;have bN:=af (aR.trans (hb1.mono aR.size));clear hb1 cV aR;go_wp2;go_ret;exact⟨rfl,bN⟩):P:=h
theorem SS(c g i d h j:ah)(k:Value)(a:World)(hA:∀b,ax a b->az 150 #[g7 c g 2048 i,k,fv d h] b (aP (au j) b)):az 80 #[g7 c g 2048 i,k,fv d h] a (aP (au j) a):=by have hS:=pU.C6 a c g 2048 i d h;exact D0
theorem ST(s d h p e n:ah)(o:Nat)(t:Value)(a:World)(k:∀c,az 79 #[au s] c (aP (.tuple #[g7 d h o p,.bool false]) c)):az 37 #[t,fv e n,au s] a (aP (.string ⟨#[]⟩) a):=by have g:=af k;have j:=(bk a.heap.size a).alloc av (.cells #[.string (ai e),.string (ai n)] 62);have i:=af j;clear k j;go_enter func37,ntmps37;go_wp2_with fail;refine(g _).mono ?_;rintro u w ⟨rfl,l⟩;have b:=i.trans (l.mono am);have r:=b.size;have q:=af (b.alloc r (.cells #[.string (ai d),.string (ai h),.int .i64 o,.string (ai p)] 150));clear l g i b;go_wp2;go_ret;exact⟨rfl,q⟩
theorem SU(s a e l b j:ah)(k:Nat)(C:Value)(c:World)(r:a≠b)(g:a≠[255,255,255,255,255,255])(u:∀o,az 79 #[au s] o (aP (.tuple #[g7 a e k l,.bool true]) o)):az 37 #[C,fv b j,au s] c (aP (.string ⟨#[]⟩) c):=by
 have p:=af u;have t:=(bk c.heap.size c).alloc av (.cells #[.string (ai b),.string (ai j)] 62);have q:=af t;have n:=af (cH.jM c [au b,au j] 62);have t1:¬(ai a).toList=(ai b).toList:=by rw[c7,c7];exact r
 have A:¬(ai a).toList=[255,255,255,255,255,255]:=by rw[c7];exact g
 have B:¬(ai a).toList=(⟨#[255,255,255,255,255,255]⟩:ByteArray).toList:=by rw[c7,c7];exact g
 have D:((ai a).toList==(ai b).toList)=false:=yO
 have E:((ai a).toList==[255,255,255,255,255,255])=false:=by simpa using A
 have F:((ai a).toList==(⟨#[255,255,255,255,255,255]⟩:ByteArray).toList)=false:=by rw[eW];exact B
 clear u t r g;go_enter func37,ntmps37;go_wp2_with fail;refine(p _).mono ?_;rintro G I ⟨rfl,i⟩;have h:=q.trans (i.mono am);have z:=h.size;have w:=af (h.alloc z (.cells #[.string (ai a),.string (ai e),.int .i64 k,.string (ai l)] 150));have d:=n.below i am;have x:=d.cell 0 am;have y:=(d.alloc (.cells #[.string (ai a),.string (ai e),.int .i64 k,.string (ai l)] 150)).cell 0 am;simp only[cw,cF]at x y;have H:=d.lt;clear i p q h n d;go_wp2;go_ret;exact⟨rfl,w⟩
theorem SV(s e i a g A:ah)(h:Nat)(B:Value)(c:World)(x:∀b,az 79 #[au s] b (aP (.tuple #[g7 a e h i,.bool true]) b))(u:∀b,ax c b->az 80 #[g7 a e h i,B,fv a g] b (aP (au A) b)):az 37 #[B,fv a g,au s] c (aP (au A) c):=by have q:=af x;have w:=(bk c.heap.size c).alloc av (.cells #[.string (ai a),.string (ai g)] 62);have t:=af w;have p:=af (cH.jM c [au a,au g] 62);have r:=af u;clear x w u;go_enter func37,ntmps37;go_wp2_with fail;refine(q _).mono ?_;rintro G J ⟨rfl,o⟩;have k:=t.trans (o.mono am);have H:=k.size;have l:=k.alloc H (.cells #[.string (ai a),.string (ai e),.int .i64 h,.string (ai i)] 150);have z:=af (r _ l);have j:=af l;have d:=p.below o am;have n:=d.alloc (.cells #[.string (ai a),.string (ai e),.int .i64 h,.string (ai i)] 150);have D:=d.cell 0 am;have ap:=d.cell 1 am;have E:=n.cell 0 am;have F:=n.cell 1 am;simp only[cw,cF]at D E ap F;have I:=d.lt;clear o q t k p d n r l;go_wp2_with fail;refine z.mono ?_;rintro G K ⟨rfl,y⟩;have C:=af (j.trans (y.mono j.size));clear y j z;go_wp2;go_ret;exact⟨rfl,C⟩
def od(a b s:ah):ah:=if s.length<28\/s.take 8≠[0,1,8,0,6,4,0,1]\/(s.drop 24).take 4≠b then []else(s.drop 8).take 6++a++[8,6]++s.take 7++[2]++a++b++(s.drop 8).take 10
theorem wg{a b:ah}(c:a=b):((ai a).toList==(ai b).toList)=true:=by rw[c];simp
theorem AG{a b:ah}(c:a≠b):((ai a).toList==(ai b).toList)=false:=by rw[c7,c7,eW];exact c
theorem jJ(s:ah)(a b c:Nat)(e:b=a+c):∃d,d=(s.drop a).take c/\(ai s).extract a b=ai d:=⟨_,rfl,by rw[qH,e,zN]⟩
theorem Cb{P:Prop}(h:P:=by go_wp2_with fail;go_quiet (fail);go_wp2;go_ret;exact⟨rfl,ag aR _⟩):P:=h
theorem SW(a b s:ah)(c:World)(al:s.length<=140737488351232)(S:a.length<=1000)(R:b.length<=1000):az 81 #[fv a b,au s] c (aP (au (od a b s)) c):=by
 have an:=a7 s;have k:=cH.jM c [au a,au b] 62;have P:=k.cell 0 am;have ap:=k.cell 1 am;simp only[cw,cF]at P ap;have aR:Hid (∀l,ax c ((c.alloc (.cells #[.string (ai a),.string (ai b)] 62)).drewN l)):=fun l=>fm ((bk c.heap.size c).alloc av _) l;obtain⟨n,h,aL⟩:=jJ s 0 8 8 rfl;obtain⟨T,x,aM⟩:=jJ s 24 28 4 rfl;obtain⟨o,i,aN⟩:=jJ s 8 14 6 rfl;obtain⟨p,e,aO⟩:=jJ s 0 7 7 rfl;obtain⟨q,j,aQ⟩:=jJ s 8 18 10 rfl;have ao:(ai o).size<=6:=by rw[a7,i,de];omega
 have aq:(ai p).size<=7:=by rw[a7,e,de];omega
 have aw:(ai q).size<=10:=by rw[a7,j,de];omega
 unfold od;rw[<- x,<- i,<- j];rw[kg]at h e;rw[<- h,<- e];clear k h x i e j;obtain⟨r,y,aa,U⟩:=ej o a;obtain⟨t,z,F,L⟩:=ej r [8,6];obtain⟨u,A,ac,V⟩:=ej t p;obtain⟨w,B,G,M⟩:=ej u [2];obtain⟨J,C,af,W⟩:=ej w a;obtain⟨K,D,aj,X⟩:=ej J b;obtain⟨aK,E,ak,Y⟩:=ej K q;rw[<- y,<- z,<- A,<- B,<- C,<- D,<- E];rw[<- a7]at S R;have ab:ai r++⟨#[8,6]⟩=ai t:=F;have ad:ai u++⟨#[2]⟩=ai w:=G;rw[show(ai [8,6]).size=2 from rfl]at L;rw[show(ai [2]).size=1 from rfl]at M;have aD:¬9223372036854775807<(ai o).size+(ai a).size:=ae;have aE:¬9223372036854775807<(ai r).size+2:=ae;have aF:¬9223372036854775807<(ai t).size+(ai p).size:=ae;have aG:¬9223372036854775807<(ai u).size+1:=ae;have aH:¬9223372036854775807<(ai w).size+(ai a).size:=ae;have aI:¬9223372036854775807<(ai J).size+(ai b).size:=ae;have aJ:¬9223372036854775807<(ai K).size+(ai q).size:=ae;clear y z A B C D E F G U L V M W X Y;go_enter func81,ntmps81;by_cases Q:s.length<28;{rw[ay (.inl Q)];have I:(s.length:Int)<28:=ae;exact Cb};have I:¬(s.length:Int)<28:=ae;have Z:decide ((s.length:Int)<28)=false:=by simpa using I
 by_cases d:n=[0,1,8,0,6,4,0,1];case neg =>(
 rw[ay (.inr (.inl d))];have N:((ai n).toList==[0,1,8,0,6,4,0,1])=false:=by rw[c7,eW];exact d
 exact Cb)
 have N:((ai n).toList==[0,1,8,0,6,4,0,1])=true:=by rw[d,c7];rfl
 by_cases g:T=b;case neg =>(rw[ay (.inr (.inr g))];have O:=AG g;clear d;exact Cb)
 have O:=wg g;rw[ar (by rintro(H|H|H)<;>contradiction)];have aA:¬(s.length:Int)<14:=ae;have aB:¬(s.length:Int)<7:=ae;have aC:¬(s.length:Int)<18:=ae;clear d g;go_wp2_with fail;go_quiet (fail);go_wp2_with fail;go_quiet (fail);go_wp2;go_ret;exact⟨rfl,by rw[World.drewN_drewN];exact aR _⟩
def l5(c b a:ah):Option (ah×Nat) :=
 if aG a 4<8\/a.length<aG a 4\/aG a 2≠53 then none
 else if aG a 6≠0/\dy (aD true (c++b++[0,17]++[ao (aG a 4),aV (aG a 4)]++a.take (aG a 4)))≠65535 then none
 else some ((a.take (aG a 4)).drop 8,aG a 0)
def jg(a s:ah):Option (ah×Nat) :=
 if s.length<28\/(s.getD 0 0).toNat≠69\/dy (aD true (s.take 20))≠65535 then none
 else if aG s 2<28\/s.length<aG s 2\/aG s 6%16384≠0\/(s.getD 9 0).toNat≠17\/(s.drop 16).take 4≠a then none
 else l5 ((s.drop 12).take 4) ((s.drop 16).take 4) ((s.drop 20).take (aG s 2-20))
def g9:Option (ah×Nat)->Value
 | none=>.tuple #[.string ⟨#[]⟩,ak 0,.bool false]
 | some (m,a)=>.tuple #[au m,ak a,.bool true]
theorem IN(c:ah)(b a:Nat)(d:a+1<b):aG (c.take b) a=aG c a:=by unfold aG;rw[fh,fh,kS ae,kS d,fh,fh]
theorem jm{P:Prop}(h:P:=by simp[results,results82,g9,go_sem]):P:=h
theorem SX(P l s:ah)(e:World)(bT:s.length<=140737488351232):az 82 #[fv P l,au s] e (aP (g9 (jg l s)) e):=by
 have bW:=a7 s;have r:=af (aQ (cH.jM e [au P,au l] 62) ((bk e.heap.size e).alloc av (.cells #[.string (ai P),.string (ai l)] 62)));obtain⟨bL,E⟩:=a2 (g9 (jg l s));rw[<- E];unfold jg at E;have b:=af E;clear E;go_enter func82,ntmps82;by_cases bu:s.length<28
 ·have a9:(s.length:Int)<28:=ae;go_wp2;exact cc (v:=g9 none) jm rfl ⟨by rw[ag b,ay (.inl bu)],r.2⟩
 have a9:¬(s.length:Int)<28:=ae;have bp:decide ((s.length:Int)<28)=false:=by simpa using a9
 obtain⟨u,X⟩:∃O:UInt8,O=s[0]:=⟨_,rfl⟩
 have bs:∀d:0<(ai s).size,(ai s)[0]=u:=fun d=>X.symm;have a3:s.getD 0 0=u:=by rw[X,fh,dV ae];rfl
 rw[a3]at b;have bX:(0:Int)<(s.length:Int):=ae;have bY:0<s.length:=ae;obtain⟨p,k⟩:=a2 u.toNat;have bG:(u.toNat:Int)=(p:Int):=by rw[k]
 rw[<- k]at b;clear a3 X k;by_cases U:p=69
 case neg =>
  have be:((p:Int) != 69)=true:=aA;go_wp2;exact cc (v:=g9 none) jm rfl ⟨by rw[ag b,ay (.inr (.inl U))],r.2⟩
 have be:((p:Int) != 69)=false:=aA;obtain⟨a6,z,bK⟩:=jJ s 0 20 20 rfl;rw[kg]at z;rw[<- z]at b;have aE:=af (fun a=>v_ a6 a (by rw[z,de];omega));generalize dy (aD true a6)=ac at *;have bI:=af U;clear z U;go_wp2_with fail;refine(aE _).mono ?_;rintro h bJ ⟨rfl,Y⟩;have Q:=af (r.2.trans (Y.mono am));have aa:=r.1.below Y am;have bV:=aa.lt;have ap:=aa.cell 1 am;simp only[cw,cF]at ap;clear Y r aa;by_cases aY:ac=65535
 case neg =>
  have aH:((ac:Int) != 65535)=true:=aA;go_wp2;exact cc (v:=g9 none) jm rfl ⟨by rw[ag b,ay (.inr (.inr aY))],Q⟩
 have aH:((ac:Int) != 65535)=false:=aA;rw[ar (by have:=ag bI;omega)]at b;have aT:=af (pg s 2 bJ ae ae);have q:=af (fun a=>pg s 6 a ae ae);have bS:=tQ s 2;generalize aG s 2=c at *;generalize aG s 6=aj at *;clear aY;go_wp2_with fail;refine aT.mono ?_;rintro h bc ⟨rfl,bE,Z⟩;have i:Hid (∀m,ax e (bc.drewN m)):=fun m=>fm (by rw[Z];exact fm (ag Q) bE) m;have bo:bc.cell? (aq e.heap.size 1)=some (au l):=by rw[Z];exact ap
 clear aT Z ap Q aE;by_cases bw:c<28
 ·have aC:(c:Int)<28:=ae;go_wp2_with fail;go_quiet (fail);go_wp2;exact cc (v:=g9 none) jm rfl ⟨by rw[ag b,ay (.inl bw)],ag i _⟩
 have aC:¬(c:Int)<28:=ae;have bq:decide ((c:Int)<28)=false:=by simpa using aC
 by_cases bx:s.length<c
 ·have M:(s.length:Int)<(c:Int):=ae;have aU:decide ((s.length:Int)<(c:Int))=true:=by simpa using M
  go_wp2_with fail;go_quiet (fail);go_wp2;exact cc (v:=g9 none) jm rfl ⟨by rw[ag b,ay (.inr (.inl bx))],ag i _⟩
 have M:¬(s.length:Int)<(c:Int):=ae;have aU:decide ((s.length:Int)<(c:Int))=false:=by simpa using M
 by_cases V:aj%16384=0
 case neg =>
  have aJ:((aj:Int)%16384 != 0)=true:=aA;go_wp2_with fail;go_quiet ((go_at_call 141;exact Calls.quiet_of (q _)));go_wp2;exact cc (v:=g9 none) jm rfl ⟨by rw[ag b,ay (.inr (.inr (.inl V)))],ag i _⟩
 have aJ:((aj:Int)%16384 != 0)=false:=aA;obtain⟨w,N⟩:∃O:UInt8,O=s[9]:=⟨_,rfl⟩
 have bt:∀d:9<(ai s).size,(ai s)[9]=w:=fun d=>N.symm;have a4:s.getD 9 0=w:=by rw[N,fh,dV ae];rfl
 rw[a4]at b;have bZ:(9:Int)<(s.length:Int):=ae;have b0:9<s.length:=ae;obtain⟨I,k⟩:∃p,p=w.toNat:=⟨_,rfl⟩
 have bH:(w.toNat:Int)=(I:Int):=by rw[k]
 rw[<- k]at b;obtain⟨n,A,b4⟩:=jJ s 16 20 4 rfl;rw[<- A]at b;have b1:¬(s.length:Int)<20:=ae;have bh:=af V;clear a4 N k V;by_cases W:I=17
 case neg =>
  have aK:((I:Int) != 17)=true:=aA;go_wp2_with fail;go_quiet ((go_at_call 141;exact Calls.quiet_of (q _)));go_wp2;exact cc (v:=g9 none) jm rfl ⟨by rw[ag b,ay (.inr (.inr (.inr (.inl W))))],ag i _⟩
 have aK:((I:Int) != 17)=false:=aA;by_cases C:n=l
 case neg =>
  have aF:=AG C;clear W A;go_wp2_with fail;go_quiet ((go_at_call 141;exact Calls.quiet_of (q _)));go_wp2;exact cc (v:=g9 none) jm rfl ⟨by rw[ag b,ay (.inr (.inr (.inr (.inr C))))],ag i _⟩
 have aF:=wg C;rw[ar (by have:=ag bh;rintro(d|d|d|d|d)<;>first|contradiction|omega)]at b;obtain⟨g,J,bR⟩:=jJ s 20 c (c-20) ae;have bA:g.length=c-20:=by rw[J,de,c8];omega
 rw[<- J]at b;have bM:(ai g).size=c-20:=by rw[a7,bA]
 have b2:¬(c:Int)<20:=ae;obtain⟨o,S,b5⟩:=jJ s 12 16 4 rfl;rw[<- S]at b;have al:=af (fun a=>pg g 4 a ae ae);have bg:o.length<=4:=by rw[S,de];omega
 have bD:n.length<=4:=by rw[A,de];omega
 clear W C A J S;go_wp2_with fail;go_quiet ((go_at_call 141;exact Calls.quiet_of (q _)));go_wp2_with fail;refine(al _).mono ?_;rintro h bd ⟨rfl,bB,a0⟩;have x:Hid (∀m,ax e (bd.drewN m)):=fun m=>by rw[a0];exact fm (fm (i nq) bB) m
 have a_:=af (fun a=>pg g 2 a ae ae);unfold l5 at b;have an:=af (fun d:8<=aG g 4=>IN g (aG g 4) 0 ae);have aw:=af (fun d:8<=aG g 4=>IN g (aG g 4) 6 ae);have bU:=tQ g 4;generalize aG g 4=m at *;generalize aG g 2=R at *;clear al a0 i bo bK bs bt bG bH be aH aJ aK aF q bp bq aU;by_cases bf:m<8
 ·have aL:(m:Int)<8:=ae;go_wp2;exact cc (v:=g9 none) jm rfl ⟨by rw[ag b,ay (.inl bf)],ag x 0⟩
 have aL:¬(m:Int)<8:=ae;have br:decide ((m:Int)<8)=false:=by simpa using aL
 by_cases bv:g.length<m
 ·have bl:(((c-20:Nat):Int))<(m:Int):=ae;go_wp2;exact cc (v:=g9 none) jm rfl ⟨by rw[ag b,ay (.inr (.inl bv))],ag x 0⟩
 have bl:¬(((c-20:Nat):Int))<(m:Int):=ae;have aM:=af (a_ bd);go_wp2_with fail;refine aM.mono ?_;rintro h ad ⟨rfl,bC,a1⟩;have D:Hid (∀m,ax e (ad.drewN m)):=fun m=>by rw[a1];exact fm (x bC) m
 clear a1 a_ aM x br;by_cases aX:R=53
 case neg =>
  have bm:((R:Int) != 53)=true:=aA;go_wp2;exact cc (v:=g9 none) jm rfl ⟨by rw[ag b,ay (.inr (.inr aX))],ag D 0⟩
 have bm:((R:Int) != 53)=false:=aA;rw[ar ae,<- ag an ae,<- ag aw ae]at b;obtain⟨v,B,b6⟩:=jJ g 0 m m ae;rw[kg]at B;rw[<- B]at b;have aZ:v.length=m:=by rw[B,de];omega
 have bN:(ai v).size=m:=by rw[a7,aZ]
 have K:=af (fun a=>pg v 6 a ae ae);have aB:=af (fun a=>pg v 0 a ae ae);have bO:(ai v).extract 8 m=ai (v.drop 8):=by rw[<- aZ];exact qR v 8 _ rfl
 generalize v.drop 8=bb at *;have aS:=af (fun a=>IU o n m a ae ae ae);obtain⟨ab,L,bP,bi⟩:=ej (o++n++[0,17]++[ao m,aV m]) v;rw[<- L]at b;have a5:=af (fun a=>v_ ab a (by rw[L];simp;omega));have bQ:¬9223372036854775807<(ai (o++n++[0,17]++[ao m,aV m])).size+m:=by rw[a7];simp;omega
 generalize o++n++[0,17]++[ao m,aV m]=bF at *;generalize dy (aD true ab)=t at *;generalize aG v 6=y at *;generalize aG v 0=ba at *;clear an aw aX B L bg bD bi;go_wp2_with fail;by_cases a8:y=0
 ·have bn:((y:Int) != 0)=false:=aA;go_quiet ((go_at_call 141;exact Calls.quiet_of (K _)));go_wp2_with fail;have T:Hid (∀c,ax e ((ad.drewN nq).drewN c)):=fun c=>fm (D nq) c;generalize ad.drewN nq=H at *;go_quiet ((go_at_call 141;exact Calls.quiet_of (aB _)));go_wp2;exact cc (v:=g9 (some (bb,ba))) jm rfl ⟨by rw[ag b,ar (fun d=>d.1 a8)],ag T _⟩
 have bn:((y:Int) != 0)=true:=aA;have b3:(16:Int)<=s.length:=ae;have aN:Hid (∀a,ax e a->az 141 #[au v,ak 6] a (aP (ak y) e)):=fun a j=>(K a).mono fun h G d=>⟨d.1,d.2.elim fun c bz=>bz ▸ fm j c⟩
 have aO:Hid (∀a,ax e a->az 85 #[au o,au n,ak m] a (aP (au bF) e)):=fun a j=>(aS a).mono fun h G d=>⟨d.1,j.trans (d.2.mono j.size)⟩
 have aR:Hid (∀a,ax e a->az 84 #[au ab] a (aP (ak t) e)):=fun a j=>(a5 a).mono fun h G d=>⟨d.1,j.trans (d.2.mono j.size)⟩
 have aW:=ag D 1;clear aS a5 D K
 go_region_held (fun G=>ax e G) (first|assumption|exact aW)
  (first
   | (go_at_call 141;go_loud (refine(aN _ gj).mono ?_;rintro h H ⟨rfl,F⟩))
   | (go_at_call 85;go_loud (refine(aO _ gj).mono ?_;rintro h H ⟨rfl,F⟩))
   | (go_at_call 84;go_loud (refine(aR _ gj).mono ?_;rintro h H ⟨rfl,F⟩)))
 clear aN aO aR aW;by_cases aI:t=65535
 ·have bj:((t:Int) != 65535)=false:=aA;have T:Hid (∀c,ax e (H.drewN c)):=fun c=>fm F c;go_wp2_with fail;go_quiet ((go_at_call 141;exact Calls.quiet_of (aB _)));go_wp2;exact cc (v:=g9 (some (bb,ba))) jm rfl ⟨by rw[ag b,ar (fun d=>d.2 aI)],ag T _⟩
 ·have bj:((t:Int) != 65535)=true:=aA;go_wp2;exact cc (v:=g9 none) jm rfl ⟨by rw[ag b,ay ⟨a8,aI⟩],F⟩
def lq(ρ:ah->ah)(b a s:ah):ah :=
 if s.length<14\/(s.take 6≠b/\s.take 6≠[255,255,255,255,255,255])then []
 else if(s.drop 12).take 2=[8,6]then od b a (s.drop 14)
 else if(s.drop 12).take 2≠[8,0]then []
 else match jg a (s.drop 14)with
  | none=>[]
  | some (m,c)=>if ρ m=[]then []else(s.drop 6).take 6++b++[8,0]++jd a ((s.drop 26).take 4) (iM a ((s.drop 26).take 4) 53 c (ρ m))
theorem IP{d e c m:ah}{b:Nat}(a:l5 d e c=some (m,b)):m.length<=65535/\b<=65535:=by unfold l5 at a;split at a;{cases a};{split at a;{cases a};{cases a;refine⟨?_,tQ _ _⟩;rw[c8,de];have:=tQ c 4;omega}}
theorem SF{c s m:ah}{b:Nat}(a:jg c s=some (m,b)):28<=s.length/\m.length<=65535/\b<=65535:=by unfold jg at a;split at a;{cases a};{split at a;{cases a};{exact⟨ae,IP a⟩}}
theorem SG(a b:ah)(c:a.length%2=0):aD true (a++[0,0]++b)=aD true (a++b):=by rw[c_,IS _ _ _ c,IS _ _ _ c];simp[aD]
theorem SH(a c b j i:ah)(e d g h:Nat)(o:d=8+b.length)(k:g=nX a c d)(l:h=mL a c 53 e b):j++i++[8,0]++(kD d++[ao g,aV g]++(a++c))++jf 53 e b++[ao h,aV h]++b=j++i++[8,0]++jd a c (iM a c 53 e b):=by
 have n:(iM a c 53 e b).length=d:=by simp[iM,jf];omega
 unfold jd;rw[n,<- k];unfold iM;rw[<- l];simp only[c_]
theorem SI(a c:ah)(b:Nat):aD true (kD b++[0,0]++(a++c))=aD true (kD b++a++c):=by rw[SG _ _ (by simp[kD]),c_]
theorem SJ(d e a:ah)(c b:Nat)(h:b=8+a.length):dy (aD true (d++e++[0,17]++[ao b,aV b]++jf 53 c a++[0,0]++a))=jc d e (jf 53 c a++[0,0]++a):=by
 have g:(jf 53 c a++[0,0]++a).length=b:=by simp[jf];omega
 unfold jc;rw[g];exact sB
abbrev gi(b:World)(c d:ah)(a:World):Prop:=a.cell? (aq b.heap.size 0)=some (au c)/\a.cell? (aq b.heap.size 1)=some (au d)/\b.heap.size<a.heap.size/\ax b a
theorem gi.call{c d e:World}{g h:ah}(a:gi c g h d)(b:ax d e):gi c g h e :=
 ⟨(b.cell (p:=⟨c.heap.size,0,none⟩) a.2.2.1).trans a.1,(b.cell (p:=⟨c.heap.size,1,none⟩) a.2.2.1).trans a.2.1,cp a.2.2.1 b.size,a.2.2.2.trans (b.mono a.2.2.2.size)⟩
theorem gi.drewN{g b:World}{c d:ah}(a:gi g c d b)(e:Nat):gi g c d (b.drewN e):=⟨a.1,a.2.1,a.2.2.1,fm a.2.2.2 e⟩
theorem gi.of{g a:World}{c d:ah}(i:gi g c d a){f:Nat}{b:Array Value}{v:Value}(j:az f b a (aP v a)):az f b a fun h k=>h=.returned v/\gi g c d k:=j.mono fun _ _ e=>⟨e.1,i.call e.2⟩
theorem yz{P:Prop}(h:P:=by go_quiet (fail);go_wp2_with fail;go_meet;exact⟨by rw[hb],_,rfl⟩):P:=h
theorem SK(ρ:ah->ah)(ch:Value)(g b s:ah)(c:World)(dg:s.length<=140737488351232)(cn:g.length=6)(co:b.length=4)(bU:∀m:ah,m.length<=100000->(ρ m).length<=1232/\∀a,ax c a->az 28 #[ch,au m] a (aP (au (ρ m)) a)):az 38 #[ch,fv g b,au s] c (aP (au (lq ρ g b s)) c):=by
 have dk:=a7 s;obtain⟨aG,al⟩:=a2 (c.alloc (.cells #[.string (ai g),.string (ai b)] 62));have ad:cH aG c.heap.size [au g,au b] 62:=by rw[al];exact cH.jM c _ _
 have bT:ax c aG:=by rw[al];exact(bk c.heap.size c).alloc av _
 have aF:=af (aQ ad bT);obtain⟨cj,Y⟩:=a2 (lq ρ g b s);rw[<- Y];unfold lq at Y;have e:=af Y;have cc:=af bU;obtain⟨M,F,c1⟩:=jJ s 0 6 6 rfl;obtain⟨N,I,c2⟩:=jJ s 12 14 2 rfl;rw[kg]at F;rw[<- F,<- I]at e;obtain⟨y,hb⟩:∃y:Bool,y=decide (s.length<14\/(M≠g/\M≠[255,255,255,255,255,255])):=⟨_,rfl⟩
 have L:=af hb;have bJ:=ad.cell 0 am;have ap:=ad.cell 1 am;simp only[cw,cF]at bJ ap;have a_:=af al;clear Y bU hb ad bT F I al;go_enter func38,ntmps38;go_upto_region 1 with fail;rw[<- ag a_]
 go_cut [31]from 17 to 31 (fun v a3=>v=.bool y/\Hid (∃d,a3=aG.drewN d))
 case first =>
  by_cases h:s.length<14
  ·have aw:(s.length:Int)<14:=ae;have hb:y=true:=by rw[ag L];simp[h]
   exact yz
  have aw:¬(s.length:Int)<14:=ae;have Z:decide ((s.length:Int)<14)=false:=by simpa using aw
  have cR:¬(s.length:Int)<6:=ae;by_cases j:M=g
  ·have a4:=wg j;have hb:y=false:=by rw[ag L];simp[h,j]
   clear j;exact yz
  have a4:=AG j;by_cases p:M=[255,255,255,255,255,255]
  ·have ck:((ai M).toList==[255,255,255,255,255,255])=true:=by rw[p,c7];rfl
   have hb:y=false:=by rw[ag L];simp[h,p]
   clear p;exact yz
  have ck:((ai M).toList==[255,255,255,255,255,255])=false:=by rw[c7,eW];exact p
  have hb:y=true:=by rw[ag L];simp[j,p]
  exact yz
 case rest =>
 obtain⟨rfl,cW,bZ⟩:=hcut;have u:cH wc c.heap.size [au g,au b] 62/\ax c wc:=by rw[bZ];exact⟨aF.1,fm aF.2 cW⟩
 have aW:=af u;have cU:=u.1.cell 0 am;have Z:=u.1.cell 1 am;simp only[cw,cF]at cU Z;have aH:=ag L;have cQ:=u.1.lt;have aO:Hid (gi c g b wc):=⟨cU,Z,cQ,u.2⟩
 clear bZ aF bJ ap a_ u L;cases y with
 | true =>
  go_wp2;go_ret;exact⟨by rw[ag e,ay (qN aH.symm)];rfl,aW.2⟩
 | false =>
 have aU:=of_decide_eq_false aH.symm;rw[ar aU]at e;have c6:14<=s.length:=by by_cases aS:s.length<14;exact absurd (.inl aS) aU;omega
 have cR:¬(s.length:Int)<14:=ae;obtain⟨D,P⟩:=a2 (s.drop 14);have c3:(ai s).extract 14 s.length=ai D:=by rw[P];exact qR s 14 _ rfl
 have bY:D.length+14=s.length:=by rw[P,c8];omega
 rw[<- P]at e;have aI:=af (aQ P bY);clear aU aH P bY;by_cases h:N=[8,6]
 ·rw[ay h]at e;have aw:((ai N).toList==[8,6])=true:=by rw[h,c7];rfl
  have bK:=af (fun a=>SW g b D a (by have:=aI.2;omega) ae ae);rw[<- ag e]at bK;clear h;go_wp2_with fail
  go_region_held (fun k=>k.cell? (aq c.heap.size 0)=some (au g)/\k.cell? (aq c.heap.size 1)=some (au b)/\c.heap.size<k.heap.size/\ax c k) (first|assumption|exact gi.drewN (ag aO) 1)
   (first|(go_at_call 81;go_loud (refine(gi.of gj (bK _)).mono ?_;rintro n ca ⟨rfl,w⟩)))
  have cG:=af w.2.2.2;clear w;go_wp2;go_ret;exact⟨rfl,cG⟩
 rw[ar h]at e;have aw:((ai N).toList==[8,6])=false:=by rw[c7,eW];exact h
 by_cases j:N=[8,0]
 case neg =>
  rw[ay j]at e;have a4:((ai N).toList==[8,0])=false:=by rw[c7,eW];exact j
  go_wp2;go_ret;exact⟨by rw[ag e];rfl,aW.2⟩
 have a4:((ai N).toList==[8,0])=true:=by rw[j,c7];rfl
 rw[ar (fun aS=>aS j)]at e;have a9:=af (SX g b D wc (by have:=aI.2;omega));clear h j;go_wp2_with fail;refine a9.mono ?_;rintro n ca ⟨rfl,bV⟩;have aa:=af (aO.call bV);clear a9 aO aW bV cU Z;cases V:jg b D with
 | none =>
  rw[V]at e;simp only[g9];clear V;go_wp2;go_ret;exact⟨by rw[ag e];rfl,aa.2.2.2⟩
 | some cT =>
 obtain⟨m,q⟩:=cT;rw[V]at e;simp only[g9];simp only at e;obtain⟨c_,dn,di⟩:=SF V;obtain⟨dd,bz⟩:=ag cc m ae;have b2:=af (bz ca aa.2.2.2);generalize ρ m=i at *;clear V cc bz;go_wp2_with fail;refine(gi.of (ag aa) (ag b2)).mono ?_;rintro n dp ⟨rfl,b0⟩;have aR:=af b0;have cq:=a7 i;clear b2 b0 aa;by_cases J:i=[]
 ·have cr:(ai i).toList.isEmpty=true:=by rw[c7,J];rfl
  rw[ay J]at e;clear J;go_wp2;go_ret;exact⟨by rw[ag e];rfl,aR.2.2.2⟩
 have cr:(ai i).toList.isEmpty=false:=by rw[c7];show i.isEmpty=false;simpa using J
 rw[ar J]at e;have c9:=a7 D;obtain⟨l,F,dx⟩:=jJ D 12 16 4 rfl;obtain⟨ab,I,dz⟩:=jJ s 6 12 6 rfl;have bL:(s.drop 26).take 4=l:=by rw[F,aI.1,eR]
 rw[bL,<- I]at e;have cS:l.length=4:=by rw[F,de,c8];omega
 have cV:ab.length=6:=by rw[I,de,c8];omega
 clear F I bL J;obtain⟨d,bX⟩:=a2 (8+i.length);obtain⟨C,bW⟩:=a2 (20+d);have cm:IntKind.i64.wrap (8+(i.length:Int))=(d:Int):=cX
 have aX:IntKind.i64.wrap (20+(d:Int))=(C:Int):=cX
 have dv:d<=2000:=ae;have bi:=af (fun a=>iC C a ae);obtain⟨t,r,T,G⟩:=ej [69,0] [ao C,aV C];obtain⟨h,z,B,H⟩:=ej t [0,0,64,0,64,17];have cJ:(⟨#[69,0]⟩:ByteArray)++ai [ao C,aV C]=ai t:=T;have ac:ai t++⟨#[0,0,64,0,64,17]⟩=ai h:=B;have aN:h=kD d:=by rw[z,r,bW];rfl
 have aJ:(ai h).size=10:=by rw[aN];rfl
 have cs:(ai t).size=4:=by rw[r];rfl
 have ct:(ai [ao C,aV C]).size=2:=rfl;have O:=af (aQ bX aN);clear r z T B G H bX bW aN;go_wp2_with fail;refine(gi.of (ag aR) (bi _)).mono ?_;rintro n cZ ⟨rfl,aE⟩;have bO:=af aE;have ap:=aE.2.1;have dl:¬(D.length:Int)<16:=ae;have cu:(ai b).size=4:=by rw[a7,co]
 have cv:(ai l).size=4:=by rw[a7,cS]
 obtain⟨aM,bP,cO,cg⟩:=ej b l;have bA:(ai aM).size=8:=by rw[cg,cu,cv]
 have a6:=af bP;clear aE aR bi cg bP;go_wp2_with fail;go_quiet (fail);obtain⟨j,A,U,E⟩:=ej h [0,0];obtain⟨p,Q,bQ,W⟩:=ej j aM;have cK:ai h++⟨#[0,0]⟩=ai j:=U;have bB:(ai j).size=12:=by rw[E,aJ];rfl
 have bp:=af (fun a=>v_ p a (by rw[<- a7,W,bB,bA];omega));have df:=nW (aD true p);have bq:dy (aD true p)=dy (aD true (kD d++b++l)):=by rw[Q,A,ag a6,O.2,SI]
 generalize dy (aD true p)=a5 at *;obtain⟨o,u⟩:=a2 (65535-a5);have c0:IntKind.i64.wrap (65535-(a5:Int))=(o:Int):=cX
 have br:o=nX b l d:=by rw[u,bq];rfl
 have bj:=af (fun a=>iC o a ae);obtain⟨bS,R,bR,X⟩:=ej h [ao o,aV o];obtain⟨aT,S,cL,aC⟩:=ej bS aM;have c4:(ai [ao o,aV o]).size=2:=rfl;have bs:(ai bS).size=12:=by rw[X,aJ];rfl
 have cx:(ai aT).size=20:=by rw[aC,bs,bA]
 have bt:aT=kD d++[ao o,aV o]++(b++l):=by rw[S,R,ag a6,O.2]
 have b6:=af (aQ br bt);have b4:=af (bO.drewN nq);generalize cZ.drewN nq=dq at *;clear A Q R S U E W X aC bq u br bt bO ap;go_wp2_with fail;refine(gi.of (ag b4) (bp _)).mono ?_;rintro n dr ⟨rfl,ba⟩;have b1:=af ba;clear ba b4 bp;go_wp2_with fail;refine(gi.of (ag b1) (bj _)).mono ?_;rintro n ds ⟨rfl,bc⟩;have b5:=af bc;clear bc b1 bj;have bl:Hid (∀a,az 83 #[ak 53] a (aP (au [ao 53,aV 53]) a)):=fun a=>iC 53 a ae;have bm:=af (fun a=>iC q a ae);have bn:=af (fun a=>iC d a ae);obtain⟨u0,bM,cM,ce⟩:=ej [ao 53,aV 53] [ao q,aV q];obtain⟨u1,bN,cN,cf⟩:=ej u0 [ao d,aV d];have bu:(ai u0).size=4:=by rw[ce];rfl
 have bv:(ai u1).size=6:=by rw[cf,bu];rfl
 have cl:(ai [ao 53,aV 53]).size=2:=rfl;have cy:(ai [ao q,aV q]).size=2:=rfl;have dc:(ai [ao d,aV d]).size=2:=rfl;have bw:u1=jf 53 q i:=by rw[bN,bM,O.1];rfl
 have a8:=af bw;clear bM bN ce cf bw;go_wp2_with fail;refine(gi.of (ag b5) (bl _)).mono ?_;rintro n dt ⟨rfl,bd⟩;have b7:=af bd;clear bd b5 bl;go_wp2_with fail;refine(gi.of (ag b7) (bm _)).mono ?_;rintro n du ⟨rfl,bg⟩;have cd:=af bg;clear bg b7 bm;go_wp2_with fail;refine(gi.of (ag cd) (bn _)).mono ?_;rintro n dw ⟨rfl,bx⟩;have bC:=af bx;clear bx cd bn;go_wp2_with fail;clear cm aX c0 cJ ac aJ cs ct cK bQ bB bR bs c4 cM cN bu cl cy cO c3 c1 c2;have aK:=af (fun a=>IU b l d a ae ae ae);obtain⟨b3,an⟩:=a2 (b++l++[0,17]++[ao d,aV d]);rw[<- an]at aK;obtain⟨aY,r,T,G⟩:=ej b3 u1;obtain⟨aZ,z,B,H⟩:=ej aY [0,0];obtain⟨aB,A,U,E⟩:=ej aZ i;have ac:ai aY++⟨#[0,0]⟩=ai aZ:=B;have bf:(ai b3).size=12:=by rw[a7,an];simp;omega
 have bD:(ai aY).size=18:=by rw[G,bf,bv]
 have bE:(ai aZ).size=20:=by rw[H,bD];rfl
 have be:¬9223372036854775807<20+i.length:=ae;have bF:=af (fun a=>v_ aB a (by rw[<- a7,E,bE,cq];omega));have dh:=nW (aD true aB);have bG:dy (aD true aB)=jc b l (jf 53 q i++[0,0]++i):=by rw[A,z,r,an,ag a8,SJ b l i q d O.1]
 generalize dy (aD true aB)=bh at *;obtain⟨K,bb⟩:=a2 (65535-bh);have aX:IntKind.i64.wrap (65535-(bh:Int))=(K:Int):=cX
 obtain⟨x,aL⟩:=a2 (mL b l 53 q i);have bH:Hid (x=if K=0 then 65535 else K):=by rw[Hid,aL,mL,<- bG,<- bb]
 have cP:x<65536:=by rw[ag bH];split<;>omega
 have cz:=af aL;clear an r z A B G H E bG bb aL
 go_region_held (fun k=>k.cell? (aq c.heap.size 0)=some (au g)/\k.cell? (aq c.heap.size 1)=some (au b)/\c.heap.size<k.heap.size/\ax c k) (first|assumption|exact gi.drewN (ag bC) 1)
  (first
   | (go_at_call 85;go_loud (refine(gi.of gj (aK _)).mono ?_;rintro n cb ⟨rfl,w⟩))
   | (go_at_call 84;go_loud (refine(gi.of gj (bF _)).mono ?_;rintro n cb ⟨rfl,w⟩)))
 have bI:=af w;clear w bC aK bF T U ac bD bE be bf aX
 go_upto_if 103 with fail
 go_cut [16]from 102 (fun v a3=>v=ak x/\cb=a3)
 case first =>
  have aj:=ag bH;by_cases t:K=0
  ·have cp:((K:Int)==0)=true:=aA;rw[ay t]at aj;subst aj;clear t;go_wp2_with fail;go_meet;exact dX
  ·have cp:((K:Int)==0)=false:=aA;rw[ar t]at aj;subst aj;clear t;go_wp2_with fail;go_meet;exact dX
 case rest =>
 obtain⟨rfl,rfl⟩:=hcut;have bo:=af (fun a=>iC x a cP);obtain⟨a0,r,T,G⟩:=ej ab g;obtain⟨a1,z,B,H⟩:=ej a0 [8,0];obtain⟨b8,A,U,E⟩:=ej a1 aT;obtain⟨b9,Q,bQ,W⟩:=ej b8 u1;obtain⟨b_,R,bR,X⟩:=ej b9 [ao x,aV x];obtain⟨cY,S,cL,aC⟩:=ej b_ i;have ac:ai a0++⟨#[8,0]⟩=ai a1:=B;have ci:(ai ab).size=6:=by rw[a7,cV]
 have c5:(ai g).size=6:=by rw[a7,cn]
 have cA:(ai a0).size=12:=by rw[G,ci,c5]
 have cB:(ai a1).size=14:=by rw[H,cA];rfl
 have cC:(ai b8).size=34:=by rw[E,cB,cx]
 have cD:(ai b9).size=40:=by rw[W,cC,bv]
 have da:(ai b_).size=42:=by rw[X,cD];rfl
 have db:(ai [ao x,aV x]).size=2:=rfl;have be:¬9223372036854775807<42+i.length:=ae;have dm:(12:Int)<=s.length:=ae;have cI:Hid (cY=cj):=by rw[Hid,S,R,Q,A,z,r,ag a8,b6.2,ag e];exact SH b l i ab g q d o x O.1 b6.1 (ag cz)
 clear r z A Q R S B G H E W X aC;go_wp2_with fail
 go_region_held (fun k=>k.cell? (aq c.heap.size 0)=some (au g)/\k.cell? (aq c.heap.size 1)=some (au b)/\c.heap.size<k.heap.size/\ax c k) (first|assumption|exact gi.drewN (ag bI) 1)
  (first|(go_at_call 83;go_loud (refine(gi.of gj (bo _)).mono ?_;rintro n dj ⟨rfl,w⟩)))
 have cE:=af w.2.2.2;clear w bI bo;go_wp2;go_ret;exact⟨by rw[<- ag cI];rfl,cE⟩
theorem Jk(b:Nat)(s:ah)(g:Bool)(a:World)(p:cS a b s g)(R:s.length<=140737488355328){m w d x:ah}{k l:Bool}(n:bX s g 6=(m,w,k))(A:bX w k 4=(d,x,l)):az 255 #[aO b] a fun c I=>c=.returned (.agg #[au m,au d])/\cS I b x l/\dz b a I:=by have F:=oh s g 6;rw[n]at F;simp only at F;have O:=p.lt;have i:a.heap.size≠b:=ae;have D:cS (a.alloc (.cells #[.string ⟨#[]⟩,.string ⟨#[]⟩] 62)) b s g:=(bx _ _ _ O).trans p;have H:Hid (cH (a.alloc (.cells #[.string ⟨#[]⟩,.string ⟨#[]⟩] 62)) a.heap.size [.string ⟨#[]⟩,.string ⟨#[]⟩] 62):=cH.jM a _ _;have r:=af (jF b 6 s g _ D ae R);rw[n]at r;have E:=af A;have z:Hid (dz b a (a.alloc (.cells #[.string ⟨#[]⟩,.string ⟨#[]⟩] 62))):=⟨rfl,rfl,rfl,am,fun d ao _=>bx _ _ _ ao⟩;clear p D n A;go_enter func255,ntmps255;go_wp2_with fail;refine r.mono ?_;rintro c V ⟨rfl,B,o,S⟩;have t:=af (jF b 4 w k V B ae ae);rw[ag E]at t;have G:=af (H.kept o i);have y:=af (qQ (ag z) o);clear B o S r H z E;go_wp2_with fail;refine t.mono ?_;rintro c J ⟨rfl,C,q,T⟩;have h:=G.kept q i;have e:=qQ (ag y) q;have j:=(h.set 0 (au m)).set 1 (au d);simp only[c5,dl]at j;have N:=h.cell 0 am;have ap:=h.cell 1 am;have W:=h.frozen;have K:=j.cell 0 am;have L:=j.cell 1 am;simp only[cw,cF]at N ap K L;have U:Hid (cS ((J.setCell ⟨a.heap.size,0,none⟩ (.string (ai m))).setCell ⟨a.heap.size,1,none⟩ (.string (ai d))) b x l):=((bC _ _ _ _ (fun c=>i c.symm)).trans (bC _ _ _ _ (fun c=>i c.symm))).trans C;have M:Hid (dz b a ((J.setCell ⟨a.heap.size,0,none⟩ (.string (ai m))).setCell ⟨a.heap.size,1,none⟩ (.string (ai d)))):=⟨e.os,e.tape,e.output,by simpa [World.setCell]using e.size,fun u P Q=>((bC _ _ _ _ (by show u≠a.heap.size;omega)).trans (bC _ _ _ _ (by show u≠a.heap.size;omega))).trans (e.block u P Q)⟩;clear C q T t G y h e j;go_wp2;refine cc (v:=.agg #[.string (ai m),.string (ai d)]) (by simp[results,results255,go_sem,K,L]) rfl ⟨rfl,U,M⟩
def kE(a:Nat)(d b e c:ah):ah:=[0,1,8,0,6,4]++[ao a,aV a]++d++b++e++c
theorem Tw(a:Nat)(d b e c:ah)(i:World)(p:a<65536)(r:d.length<=1000)(t:b.length<=1000)(u:e.length<=1000)(w:c.length<=1000):az 208 #[.agg #[ak a,au d,au b,au e,au c]] i (aP (au (kE a d b e c)) i):=by
 have x:IntKind.u16.wrap (a:Int)=(a:Int):=iF
 have l:Hid (∀(h:Nat) (g:World),h=g.heap.size->az 199 #[aF h 0 6 6] (g.alloc (.cells #[.iface 224 (.string ⟨#[0,1,8,0,6,4]⟩),.iface 284 (.int .u16 a),.iface 224 (.string (ai d)),.iface 224 (.string (ai b)),.iface 224 (.string (ai e)),.iface 224 (.string (ai c))] 297)) fun j q=>j=.returned (au (kE a d b e c))/\Below h g q):=fun h g o=>by{subst o;have:=pS [bE [0,1,8,0,6,4],cq a,bE d,bE b,bE e,bE c] g (fc (fu _) (fc (gG a p) (fc (fu d) (fc (fu b) (fc (fu e) (iB (fu c))))))) am ss;rw[show bv [bE [0,1,8,0,6,4],cq a,bE d,bE b,bE e,bE c]=kE a d b e c by simp[bv,bE,cq,kE]]at this;exact this};go_enter func208,ntmps208;go_wp2_with fail;refine(l _ _ cu).mono ?_;rintro j y ⟨rfl,k⟩;have n:=af (((bk i.heap.size i).alloc av _).trans (k.mono am));clear k;go_wp2;go_ret;exact⟨rfl,n⟩
abbrev tC(e:Nat)(c a d b:ah):Value:=.agg #[ak e,au c,au a,au d,au b]
theorem Tx(D E A b e a g q:ah)(N:Nat)(i:World)(y:a.length<=1000)(z:b.length<=1000)(O:e.length<=1000)(P:g.length<=1000)(G:∀d,az 207 #[au A] d (aP (.tuple #[tC 1 a g q e,.bool true]) d)):az 149 #[g7 D E N A,fv b e] i (aP (au (a++b++[8,6]++kE 2 b e a g)) i):=by
 have F:=af G;have I:=af (pU.C6 i D E N A b e);have B:(kE 2 b e a g).length<=100000:=by simp[kE];omega
 have T:Hid (∀d,az 208 #[.agg #[ak 2,au b,au e,au a,au g]] d (aP (au (kE 2 b e a g)) d)):=fun d=>Tw 2 b e a g d ae z O y P;have R:Hid (∀d,az 209 #[.agg #[au a,au b,ak 2054,au (kE 2 b e a g)]] d (aP (au (a++b++[8,6]++kE 2 b e a g)) d)):=fun d=>IJ a b (kE 2 b e a g) 2054 d y z B ae;clear G y z O P B;generalize kE 2 b e a g=ad at *;go_enter func149,ntmps149;go_wp2_with fail;refine(F _).mono ?_;rintro H c ⟨rfl,M⟩;have w:=I.next M;have al:=w.size;have r:=w.alloc (.cells #[.int .i64 1,.string (ai a),.string (ai g),.string (ai q),.string (ai e)] 303);have Q:=cH.jM c [ak 1,au a,au g,au q,au e] 303;have t:=r.alloc (.cells #[.int .i64 2,.string (ai b),.string (ai e),.string (ai a),.string (ai g)] 303);have l:=cH.jM (c.alloc (.cells #[.int .i64 1,.string (ai a),.string (ai g),.string (ai q),.string (ai e)] 303)) [ak 2,au b,au e,au a,au g] 303;rw[cv]at l;have u:=Q.alloc (.cells #[.int .i64 2,.string (ai b),.string (ai e),.string (ai a),.string (ai g)] 303);have U:=r.c.cell 0 am;have ap:=r.c.cell 1 am;simp only[cw,cF]at U ap;obtain⟨k,x⟩:=a2 ((c.alloc (.cells #[.int .i64 1,.string (ai a),.string (ai g),.string (ai q),.string (ai e)] 303)).alloc (.cells #[.int .i64 2,.string (ai b),.string (ai e),.string (ai a),.string (ai g)] 303));rw[<- x]at t l u;have aj:k.drew.cell? (aq c.heap.size 1)=some (au a)/\k.drew.cell? (aq (i.heap.size+1) 0)=some (au b)/\k.drew.cell? (aq (c.heap.size+1) 0)=some (ak 2)/\k.drew.cell? (aq (c.heap.size+1) 1)=some (au b)/\k.drew.cell? (aq (c.heap.size+1) 2)=some (au e)/\k.drew.cell? (aq (c.heap.size+1) 3)=some (au a)/\k.drew.cell? (aq (c.heap.size+1) 4)=some (au g)/\ax i k.drew :=
  ⟨u.cell 1 am,t.c.cell 0 am,l.cell 0 am,l.cell 1 am,l.cell 2 am,l.cell 3 am,l.cell 4 am,t.below.drew⟩
 have C:Hid (∀d h:World,(d.cell? (aq c.heap.size 1)=some (au a)/\d.cell? (aq (i.heap.size+1) 0)=some (au b)/\d.cell? (aq (c.heap.size+1) 0)=some (ak 2)/\d.cell? (aq (c.heap.size+1) 1)=some (au b)/\d.cell? (aq (c.heap.size+1) 2)=some (au e)/\d.cell? (aq (c.heap.size+1) 3)=some (au a)/\d.cell? (aq (c.heap.size+1) 4)=some (au g)/\ax i d)->ax d h->(h.cell? (aq c.heap.size 1)=some (au a)/\h.cell? (aq (i.heap.size+1) 0)=some (au b)/\h.cell? (aq (c.heap.size+1) 0)=some (ak 2)/\h.cell? (aq (c.heap.size+1) 1)=some (au b)/\h.cell? (aq (c.heap.size+1) 2)=some (au e)/\h.cell? (aq (c.heap.size+1) 3)=some (au a)/\h.cell? (aq (c.heap.size+1) 4)=some (au g)/\ax i h)):=fun d h ac L=>by
  have o:∀(p:Addr) (v:Value),d.cell? p=some v->h.cell? p=some v:=fun p v J=>(L.cell (ef d p J)).trans J;obtain⟨V,W,X,Y,Z,aa,ab,K⟩:=ac;exact⟨o _ _ V,o _ _ W,o _ _ X,o _ _ Y,o _ _ Z,o _ _ aa,o _ _ ab,K.trans (L.mono K.size)⟩
 clear M I F w r Q t l u;go_wp2_with fail;rw[<- x];clear x
 go_region_held (fun j=>j.cell? (aq c.heap.size 1)=some (au a)/\j.cell? (aq (i.heap.size+1) 0)=some (au b)/\j.cell? (aq (c.heap.size+1) 0)=some (ak 2)/\j.cell? (aq (c.heap.size+1) 1)=some (au b)/\j.cell? (aq (c.heap.size+1) 2)=some (au e)/\j.cell? (aq (c.heap.size+1) 3)=some (au a)/\j.cell? (aq (c.heap.size+1) 4)=some (au g)/\ax i j) (first|assumption|go_keep)
  (first
   | (go_at_call 208;go_loud (refine(T _).mono ?_;rintro H j ⟨rfl,n⟩;replace n:=ag C _ _ gj n))
   | (go_at_call 209;go_loud (refine(R _).mono ?_;rintro H j ⟨rfl,n⟩;replace n:=ag C _ _ gj n)))
 all_goals
  have S:=af n.2.2.2.2.2.2.2;clear n;go_wp2;go_ret;exact⟨bP (fun p=>Ending.returned (au p)) am,S⟩
theorem Ty(c g i d h j:ah)(k:Value)(a:World)(hA:∀b,ax a b->az 149 #[g7 c g 2054 i,fv d h] b (aP (au j) b)):az 80 #[g7 c g 2054 i,k,fv d h] a (aP (au j) a):=by have hS:=pU.C6 a c g 2054 i d h;exact D0
def g6:ah:=[2,102,105,118,101,53]
def ix:ah:=[10,0,0,1]
def rq:ah:=[2,111,116,104,101,114]
theorem wh(a:Bool):bZ [] a=(0,[],true):=rfl
theorem tD(a:Bool):bS [] a=(0,[],true):=by simp[bS,bZ]
theorem Jl(a:Bool):bX [] a 4=([],[],true):=rfl
theorem Tz(h:ah)(b:World)(ac:h.length<20):az 210 #[au h] b (aP (.tuple #[.agg #[.string ⟨#[]⟩,.string ⟨#[]⟩,.string ⟨#[]⟩],.bool false]) b):=by
 have G:cH ((b.alloc (.cells #[.string ⟨#[]⟩,.string ⟨#[]⟩,.string ⟨#[]⟩] 307)).alloc (.cells #[.string (ai h),.bool false] 215)) b.heap.size zP 307:=(cH.jM b _ _).alloc _;have H:cS ((b.alloc (.cells #[.string ⟨#[]⟩,.string ⟨#[]⟩,.string ⟨#[]⟩] 307)).alloc (.cells #[.string (ai h),.bool false] 215)) (b.heap.size+1) h false:=by{have:=World.alloc_heap_new (b.alloc (.cells #[.string ⟨#[]⟩,.string ⟨#[]⟩,.string ⟨#[]⟩] 307)) (.cells #[.string (ai h),.bool false] 215);simpa [cS]using this};have D:=af (((bk b.heap.size b).alloc av (.cells #[.string ⟨#[]⟩,.string ⟨#[]⟩,.string ⟨#[]⟩] 307)).alloc am (.cells #[.string (ai h),.bool false] 215));have w:=af (jF _ 20 h false _ H ae ae);rw[show bX h false 20=([],[],true)from by unfold bX;rw[ar ae]]at w;have I:=af G;clear G H;go_enter func210,ntmps210;go_wp2_with fail;refine w.mono ?_;rintro g j ⟨rfl,u,q,E⟩;have F:j.heap.size=b.heap.size+2:=by rw[E];simp
 have n:Hid (HB b (j.alloc (.cells #[.string (ai []),.bool false] 215)) [] true [] false) := ⟨(I.kept q ae).alloc _,(bx _ _ _ u.lt).trans u,by rw[<- F];exact Co,aA,(D.trans (q.below ae aA)).alloc ae _⟩;clear u q E w I D;go_wp2_with fail;generalize j.alloc (.cells #[.string (ai []),.bool false] 215)=N at *;clear F j;have a:=af (i6 (b.heap.size+2) [] false N n.h am);rw[wh]at a;refine a.mono ?_;rintro g O ⟨rfl,d,c,e⟩;have r:=af (n.call d c e);clear d c e a n;have a:=af (i6 (b.heap.size+2) [] true O r.h am);rw[wh]at a;go_wp2_with fail;refine a.mono ?_;rintro g P ⟨rfl,d,c,e⟩;have l:=af (r.call d c e);clear d c e a r;have a:=af (gF (b.heap.size+2) [] true P l.h am);rw[tD]at a;go_wp2_with fail;refine a.mono ?_;rintro g Q ⟨rfl,d,c,e⟩;have t:=af (l.call d c e);clear d c e a l;have a:=af (gF (b.heap.size+2) [] true Q t.h am);rw[tD]at a;go_wp2_with fail;refine a.mono ?_;rintro g R ⟨rfl,d,c,e⟩;have o:=af (t.call d c e);clear d c e a t;have a:=af (gF (b.heap.size+2) [] true R o.h am);rw[tD]at a;go_wp2_with fail;refine a.mono ?_;rintro g S ⟨rfl,d,c,e⟩;have y:=af (o.call d c e);clear d c e a o;have a:=af (i6 (b.heap.size+2) [] true S y.h am);rw[wh]at a;go_wp2_with fail;refine a.mono ?_;rintro g T ⟨rfl,d,c,e⟩;have x:=af (y.call d c e);clear d c e a y;have a:=af (i6 (b.heap.size+2) [] true T x.h am);rw[wh]at a;go_wp2_with fail;refine a.mono ?_;rintro g U ⟨rfl,d,c,e⟩;have z:=af (x.call d c e);clear d c e a x;have a:=af (gF (b.heap.size+2) [] true U z.h am);rw[tD]at a;go_wp2_with fail;refine a.mono ?_;rintro g V ⟨rfl,d,c,e⟩;have A:=af (z.call d c e);clear d c e a z;have a:=af (jF (b.heap.size+2) 4 [] true V A.h ae am);rw[Jl]at a;go_wp2_with fail;refine a.mono ?_;rintro g W ⟨rfl,d,c,e⟩;have C:=af (A.call d c e);clear d c e a A;have a:=af (jF (b.heap.size+2) 4 [] true W C.h ae am);rw[Jl]at a;go_wp2_with fail;refine a.mono ?_;rintro g B ⟨rfl,d,c,e⟩;have i:=af (C.call d c e);clear d c e a C;have aa:=i.size;have X:=i.z.cell 0 am;have Y:=i.z.cell 1 am;have Z:=i.z.cell 2 am;have ab:=i.z.frozen;simp only[zP,cw,cF]at X Y Z;have k:=af ((((i.z.set 0 (.string ⟨#[]⟩)).set 1 (.string ⟨#[]⟩)).set 2 (.string ⟨#[]⟩)).alloc (.cells #[.string (ai []),.string (ai []),.string ⟨#[]⟩] 307));have J:=af ((((i.below.setCell av (p:=⟨b.heap.size,0,none⟩) (.string ⟨#[]⟩)).setCell av (p:=⟨b.heap.size,1,none⟩) (.string ⟨#[]⟩)).setCell av (p:=⟨b.heap.size,2,none⟩) (.string ⟨#[]⟩)).alloc (by simp[World.setCell];omega) (.cells #[.string (ai []),.string (ai []),.string ⟨#[]⟩] 307));clear i;go_wp2;refine cc (v:=.tuple #[.agg #[.string ⟨#[]⟩,.string ⟨#[]⟩,.string ⟨#[]⟩],.bool false]) ?_ rfl ?_;{have K:((((B.setCell ⟨b.heap.size,0,none⟩ (.string ⟨#[]⟩)).setCell ⟨b.heap.size,1,none⟩ (.string ⟨#[]⟩)).setCell ⟨b.heap.size,2,none⟩ (.string ⟨#[]⟩)).alloc (.cells #[.string (ai []),.string (ai []),.string ⟨#[]⟩] 307)).cell? (aq b.heap.size 0)=some (.string ⟨#[]⟩):=k.cell 0 am;have L:((((B.setCell ⟨b.heap.size,0,none⟩ (.string ⟨#[]⟩)).setCell ⟨b.heap.size,1,none⟩ (.string ⟨#[]⟩)).setCell ⟨b.heap.size,2,none⟩ (.string ⟨#[]⟩)).alloc (.cells #[.string (ai []),.string (ai []),.string ⟨#[]⟩] 307)).cell? (aq b.heap.size 1)=some (.string ⟨#[]⟩):=k.cell 1 am;have M:((((B.setCell ⟨b.heap.size,0,none⟩ (.string ⟨#[]⟩)).setCell ⟨b.heap.size,1,none⟩ (.string ⟨#[]⟩)).setCell ⟨b.heap.size,2,none⟩ (.string ⟨#[]⟩)).alloc (.cells #[.string (ai []),.string (ai []),.string ⟨#[]⟩] 307)).cell? (aq b.heap.size 2)=some (.string ⟨#[]⟩):=k.cell 2 am;simp[results,results210,go_sem,K,L,M]};{exact⟨rfl,J⟩}
end Go.Proofs.YtkkpahmoljiepaaGreatDoor
