import Derived.Test.YtkkpahmoljiepaaGreatDoorJ12
set_option maxRecDepth 1000000
set_option maxHeartbeats 12800000
set_option linter.unusedSimpArgs false
set_option linter.unusedVariables false
namespace Go.Proofs.YtkkpahmoljiepaaGreatDoor
open Go.RowKit Go.Proofs.Tryz
def aD:Bool->ah->Nat
 | _,[]=>0
 | true,a::s=>a.toNat*256+aD false s
 | false,a::s=>a.toNat+aD true s
def nV(a:Bool)(b:Nat):Bool:=if b%2=0 then a else !a
theorem AC(b:Bool)(a d:ah):aD b (a++d)=aD b a+aD (nV b a.length) d:=by
 induction a generalizing b with
 | nil=>simp[aD,nV]
 | cons c a g =>{have h:nV b (c::a).length=nV (!b) a.length:=by{unfold nV;by_cases e:a.length%2=0;{rw[ar aA,ay e]};{rw[ay aA,ar e];simp}};rw[h];cases b;{show c.toNat+aD true (a++d)=c.toNat+aD true a+_;rw[g true];simp;omega};{show c.toNat*256+aD false (a++d)=c.toNat*256+aD false a+_;rw[g false];simp;omega}}
theorem IS(a:Bool)(b c:ah)(d:b.length%2=0):aD a (b++c)=aD a b+aD a c:=by rw[AC,nV,ay d]
def dy(a:Nat):Nat:=if a=0 then 0 else(a-1)%65535+1
theorem nW(a:Nat):dy a<=65535:=by unfold dy;split<;>omega
theorem IT(b a:Nat)(e:a<=65535):(dy b+a)%65536+(dy b+a)/65536=dy (b+a):=by unfold dy;by_cases c:b=0;{subst c;by_cases d:a=0;{subst d;rfl};{simp[d];omega}};{rw[ar c,ar ae];omega}
theorem AD(s:ah)(a:Nat)(b:a<s.length):aD true (s.take (a+1))=aD true (s.take a)+(if a%2=0 then s[a].toNat*256 else s[a].toNat):=by rw[du b,AC,de,kb ae,nV];split<;>simp[aD]
theorem S1(s:ah)(a:Nat)(b:a+1<s.length)(c:a%2=0):aD true (s.take (a+2))=aD true (s.take a)+(256*s[a].toNat+s[a+1].toNat):=by rw[AD s (a+1) b,AD s a ae,ay c,ar ae];omega
theorem S2(s:ah)(a:Nat)(b:a+1<s.length)(c:a%2=0):aD true (s.take (a+2))=aD true (s.take a)+aG s a:=by rw[S1 s a b c,aG,fh,fh,dV ae,dV b];rfl
theorem tQ(s:ah)(a:Nat):aG s a<=65535:=by have:=dt (s.getD a 0);have:=dt (s.getD (a+1) 0);unfold aG;omega
theorem v_(c:ah)(w:World)(M:c.length<=10000000):az 84 #[au c] w (aP (ak (dy (aD true c))) w):=by
 have O:=a7 c;obtain⟨a,d⟩:=a2 (if c.length%2=1 then c++[0]else c);have o:a.length<=100000000/\a.length%2=0/\aD true a=aD true c:=by{rw[d];split;{refine⟨aA,aA,?_⟩;rw[AC];cases nV true c.length<;>simp[aD]};{exact⟨ae,ae,rfl⟩}};obtain⟨o,p,x⟩:=o;have H:=a7 a;have n:=af (aQ p x);have A:=af d;clear p x d;go_enter func84,ntmps84;go_upto_if 8 with fail;go_cut [0]from 5 (fun v G=>v=au a/\w=G);case first =>(
 have d:=ag A;by_cases z:c.length%2=1;{
 have C:(c.length:Int)%2=1:=ae;rw[ay z]at d;have J:ai c++⟨#[0]⟩=ai a:=by rw[d];exact j9 c [0]
 clear d;go_wp2_with fail;go_meet;case rel=>exact dX};{have C:¬(c.length:Int)%2=1:=ae;rw[ar z]at d;subst d;go_wp2_with fail;go_meet;case rel=>exact dX})
 case rest =>
 obtain⟨rfl,rfl⟩:=hcut;go_wp2_with fail;go_loopw [3,4] (fun t l wr=>∃b:Nat,t=ak (dy (aD true (a.take b)):Nat)/\l=ak b/\b%2=0/\b<=a.length/\ax w wr) (fun _ l _=>a.length-(intOf l).toNat);case atStart=>exact⟨0,rfl,rfl,rfl,b6 _,bk _ _⟩
 case round =>(
 obtain⟨b,rfl,rfl,D,L,k⟩:=hrel;have i:=af k;have E:=k.size;clear k;by_cases N:b<a.length;{
 have u:b+1<a.length:=by have:=n.1;omega
 have r:=af (G1 a b wr u ae);have e:=af (S2 a b u D);have F:=tQ a b;generalize aG a b=g at *;have h:=af (IT (aD true (a.take b)) g F);have P:=nW (aD true (a.take b));rw[<- ag e]at h;generalize dy (aD true (a.take b))=f at *;clear e;go_wp2_with fail;refine r.mono ?_;rintro I Q ⟨rfl,y⟩;have q:=af (i.trans (y.mono E));clear y r i;by_cases K:(65535:Int)<(f:Int)+(g:Int);{have j:Hid ((f:Int)+(g:Int)-65535=((dy (aD true (a.take (b+2))):Nat):Int)):=by{have:=ag h;rw[Hid];omega};go_wp2_with fail;rw[ag j];exact⟨⟨b+2,rfl,bq,ae,ae,q⟩,ci⟩};{have j:Hid ((f:Int)+(g:Int)=((dy (aD true (a.take (b+2))):Nat):Int)):=by{have:=ag h;rw[Hid];omega};go_wp2_with fail;rw[ag j];exact⟨⟨b+2,rfl,bq,ae,ae,q⟩,ci⟩}};{
 have B:b=a.length:=ae;subst B;have e:Hid (dy (aD true (a.take a.length))=dy (aD true c)):=by rw[Hid,dK,n.2]
 generalize dy (aD true (a.take a.length))=f at *;go_wp2;go_ret;exact⟨by rw[ag e];rfl,i⟩})
theorem ej(a b:ah):∃c,c=a++b/\ai a++ai b=ai c/\(ai c).size=(ai a).size+(ai b).size:=⟨_,rfl,j9 a b,by rw[a7,a7,a7,a6]⟩
theorem IU(c b:ah)(a:Nat)(w:World)(o:a<65536)(x:c.length<=1000)(y:b.length<=1000):az 85 #[au c,au b,ak a] w (aP (au (c++b++[0,17]++[ao a,aV a])) w):=by
 have C:=a7 c;have D:=a7 b;obtain⟨e,h,r,p⟩:=ej c b;obtain⟨d,i,g,l⟩:=ej e [0,17];obtain⟨f,j,u,_⟩:=ej d [ao a,aV a];have t:ai e++⟨#[0,17]⟩=ai d:=g;have B:(ai [ao a,aV a]).size=2:=rfl;have z:(ai d).size<=3000:=by rw[l,p,a7,a7,a7];simp;omega
 have n:=af (iC a w o);rw[<- h,<- i,<- j];clear h i j l g;go_enter func85,ntmps85;go_wp2_with fail;refine n.mono ?_;rintro q A ⟨rfl,k⟩;have aR:=af k;clear k;go_wp2;go_ret;exact mw
theorem IV(a:Nat)(c:a<9223372036854775808):bits .and .i64 (a:Int) 65535=(a:Int)%65536:=by have b:bits .and .i64 (a:Int) 65535=((a%65536:Nat):Int):=by{show IntKind.i64.wrap ((BitVec.ofInt 64 (a:Int) &&& BitVec.ofInt 64 65535).toNat:Int)=_;rw[zr,nU a ae,show(65535:Int)=((65535:Nat):Int)from rfl,nU 65535 ae,show(65535:Nat)=2 ^ 16-1 from rfl,GY];exact sK};rw[b];omega
theorem S4(h k:Nat)(d:List kR)(w:World)(u:∀f∈d,f.ry)(K:h<w.heap.size)(B:∀i (S:i<d.length),w.cell? (aq h i)=some (.iface d[i].t d[i].x))(L:d.length<=k) (y:d.length<=1000000) (J:(bv d).length<=1000000):az 256 #[aF h 0 d.length k] w (aP (ak (dy (aD true (bv d)))) w):=by
 have r:=af (Aa h k d w u K B L y J);clear u B;generalize bv d=l at *;go_enter func256,ntmps256;go_wp2_with fail;refine r.mono ?_;rintro R c ⟨rfl,o⟩;have W:=y8 (P:=prog) c 9 58 5 (ai l) underlying9 underlying58 underlying5;have F:=af (Av c l (grownCap c (ai l).size 0 5));have E:Hid (ax w _):=o.trans ((((bk c.heap.size c).drew.alloc (bb c.heap.size) (.cells (bytesRow (ai l) (grownCap c (ai l).size 0 5)) 5 ((bytesRow (ai l) (grownCap c (ai l).size 0 5)).size,(bytesRow (ai l) (grownCap c (ai l).size 0 5)).size+1))).mono o.size));have Q:l.length<=grownCap c (ai l).size 0 5:=by{have:=vT c (ai l).size 0 5;rw[a7]at this ⊢;exact this};generalize grownCap c (ai l).size 0 5=n at *;generalize c.drew.alloc (.cells (bytesRow (ai l) n) 5 ((bytesRow (ai l) n).size,(bytesRow (ai l) n).size+1))=C at *;generalize N:c.heap.size=O at *;have V:=a7 l;clear o r N;go_wp2_with fail;go_loopw [3,10] (fun t p wr=>∃a:Nat,t=ak (dy (aD true (l.take a)):Nat)/\p=ak a/\a<=l.length/\wr=C) (fun _ p _=>l.length-(intOf p).toNat);case atStart=>exact⟨0,rfl,rfl,b6 _,rfl⟩
 case round =>(obtain⟨a,rfl,rfl,U,rfl⟩:=hrel;by_cases A:a<l.length;{have T:=F.2.1 a A;have e:=af (AD l a A);generalize l[a]=x at *;have y:=dt x;generalize x.toNat=b at *;have g:=af (fun q M=>IT (aD true (l.take a)) q M);have X:=nW (aD true (l.take a));generalize aD true (l.take a)=D at *;generalize dy D=f at *;by_cases z:a%2=0;{have I:(a:Int)%2=0:=ae;rw[ay z]at e;have G:bits .and .i64 ((f:Int)+(b:Int)*256) 65535=((f:Int)+(b:Int)*256)%65536:=by{rw[show(f:Int)+(b:Int)*256=((f+b*256:Nat):Int) by omega,IV _ ae]};have j:Hid (((f:Int)+(b:Int)*256)%65536+((f:Int)+(b:Int)*256)/65536=((dy (aD true (l.take (a+1))):Nat):Int)):=by{have:=ag g (b*256) ae;rw[<- ag e]at this;rw[Hid];omega};clear e g;go_wp2;rw[ag j];exact⟨⟨a+1,rfl,bq,ae,aL⟩,ci⟩};{have I:¬(a:Int)%2=0:=ae;rw[ar z]at e;have G:bits .and .i64 ((f:Int)+(b:Int)) 65535=((f:Int)+(b:Int))%65536:=by{rw[show(f:Int)+(b:Int)=((f+b:Nat):Int) by omega,IV _ ae]};have j:Hid (((f:Int)+(b:Int))%65536+((f:Int)+(b:Int))/65536=((dy (aD true (l.take (a+1))):Nat):Int)):=by{have:=ag g b ae;rw[<- ag e]at this;rw[Hid];omega};clear e g;go_wp2;rw[ag j];exact⟨⟨a+1,rfl,bq,ae,aL⟩,ci⟩}};{have H:a=l.length:=ae;subst H;have e:=af (bP (fun q=>dy (aD true q)) (dK (l:=l)));generalize dy (aD true (l.take l.length))=f at *;go_wp2;go_ret;refine⟨?_,E⟩;rw[ag e];rfl})
def cH(w:World)(b:Nat)(cs:List Value)(t:TypeId):Prop:=w.heap[b]? = some (.cells cs.toArray t)
section
variable {w w':World} {b d:Nat} {cs:List Value} {t:TypeId}
theorem cH.lt(h:cH w b cs t):b<w.heap.size:=(bn.1 h).1
theorem cH.cell(h:cH w b cs t)(i:Nat)(ao:i<cs.length):w.cell? (aq b i)=some cs[i]:=by unfold cH at h;simp[World.cell?,h,ao]
theorem cH.frozen(h:cH w b cs t)(i:Nat):w.frozen? (aq b i)=false:=by unfold cH at h;exact jW
theorem cH.set(h:cH w b cs t)(a:Nat)(v:Value):cH (w.setCell ⟨b,a,none⟩ v) b (cs.set a v) t:=by unfold cH at *;exact BU
theorem cH.kept(a:cH w b cs t)(e:dz d w w')(c:b≠d):cH w' b cs t:=(e.block b a.lt c).trans a
theorem cH.below(c:cH w b cs t)(e:Below d w w')(a:b<d):cH w' b cs t:=(e.block b a).trans c
theorem cH.alloc(h:cH w b cs t)(o:Obj):cH (w.alloc o) b cs t:=(bx _ _ _ h.lt).trans h
theorem cH.jM(w:World)(cs:List Value)(t:TypeId):cH (w.alloc (.cells cs.toArray t)) w.heap.size cs t:=World.alloc_heap_new _ _
end
def rR(a:List kR):List Value:=a.map fun f=>Value.iface f.t f.x
theorem IW(a:List kR)(c:World)(b:Nat)(d:b<a.length):(c.alloc (.cells (rR a).toArray 297)).cell? (aq c.heap.size b)=some (.iface a[b].t a[b].x):=by have:=(cH.jM c (rR a) 297).cell b (by simpa [rR]using d);rw[this];simp[rR]
theorem FM{P:Prop}(h:P:=by rintro e w' ⟨rfl,hb⟩;exact⟨rfl,(aE.alloc av _).trans (hb.mono am)⟩):P:=h
theorem pS(a:List kR)(b:World)(c:∀f∈a,f.ry)(d:a.length<=1000000)(g:(bv a).length<=1000000):az 199 #[aF b.heap.size 0 a.length a.length] (b.alloc (.cells (rR a).toArray 297)) (aP (au (bv a)) b):=by refine(Aa b.heap.size a.length a _ c am (IW a b) av d g).mono ?_;exact FM
theorem AE(a:List kR)(b:World)(c:∀f∈a,f.ry)(d:a.length<=1000000)(g:(bv a).length<=1000000):az 256 #[aF b.heap.size 0 a.length a.length] (b.alloc (.cells (rR a).toArray 297)) (aP (ak (dy (aD true (bv a)))) b):=by refine(S4 b.heap.size a.length a _ c am (IW a b) av d g).mono ?_;exact FM
theorem IH(s:ah)(w:World)(aj:s.length<=140737488355328){b j c B k:ah}{d:Nat}{h l i:Bool}(n:bX s false 6=(b,j,h))(o:bX j h 6=(c,B,l))(J:bS B l=(d,k,i)):az 79 #[au s] w (aP (.tuple #[.agg #[au b,au c,ak d,au k],.bool (!i)]) w):=by
 have S:=oh s false 6;have T:=oh j h 6;rw[n]at S;rw[o]at T;simp only at S T;have P:cH ((w.alloc (.cells #[.string ⟨#[]⟩,.string ⟨#[]⟩,.int .i64 0,.string ⟨#[]⟩] 150)).alloc (.cells #[.string (ai s),.bool false] 215)) w.heap.size [.string ⟨#[]⟩,.string ⟨#[]⟩,ak 0,.string ⟨#[]⟩] 150:=(cH.jM w _ _).alloc _;have Q:cS ((w.alloc (.cells #[.string ⟨#[]⟩,.string ⟨#[]⟩,.int .i64 0,.string ⟨#[]⟩] 150)).alloc (.cells #[.string (ai s),.bool false] 215)) (w.heap.size+1) s false:=by{have:=World.alloc_heap_new (w.alloc (.cells #[.string ⟨#[]⟩,.string ⟨#[]⟩,.int .i64 0,.string ⟨#[]⟩] 150)) (.cells #[.string (ai s),.bool false] 215);simpa [cS]using this};have H:=af (((bk w.heap.size w).alloc av (.cells #[.string ⟨#[]⟩,.string ⟨#[]⟩,.int .i64 0,.string ⟨#[]⟩] 150)).alloc am (.cells #[.string (ai s),.bool false] 215));have x:=af (jF _ 6 s false _ Q ae aj);rw[n]at x;have V:=af P;have R:=af o;have W:=af J;clear P Q n o J;go_enter func79,ntmps79;go_wp2_with fail;refine x.mono ?_;rintro I X ⟨rfl,K,p,M⟩;have y:=af (jF _ 6 j h X K ae ae);rw[ag R]at y;have U:=af (V.kept p ae);have E:=af (H.trans (p.below ae aA));have q:Hid (X.heap.size=w.heap.size+2):=by rw[Hid,M];simp
 clear K p M x V H R;go_wp2_with fail;refine y.mono ?_;rintro I Y ⟨rfl,L,r,N⟩;have z:=af (gF _ B l Y L ae);rw[ag W]at z;have C:=af (U.kept r ae);have F:=af (E.trans (r.below ae (by have:=ag q;omega)));have dw:Hid (Y.heap.size=w.heap.size+2):=by rw[Hid,N];exact q
 clear L r N y U E q W;go_wp2_with fail;refine z.mono ?_;rintro I e ⟨rfl,u,t,O⟩;have D:=af (C.kept t ae);have G:=af (F.trans (t.below ae qm));have al:e.heap.size=w.heap.size+2:=by rw[O];exact dw
 have A:∀a,cS (e.alloc (.cells #[.string (ai b),.string (ai c),.int .i64 d,a] 150)) (w.heap.size+1) k i:=fun a=>(bx _ _ _ u.lt).trans u;have g:=fun a=>D.alloc (.cells #[.string (ai b),.string (ai c),.int .i64 d,a] 150);have ad:=af (fun a=>G.alloc ae (.cells #[.string (ai b),.string (ai c),.int .i64 d,a] 150));have ax:=fun a=>(A a).cells.1;have ay:=fun a=>(A a).cells.2;have Z:∀a,(e.alloc (.cells #[.string (ai b),.string (ai c),.int .i64 d,a] 150)).cell? (aq w.heap.size 0)=_:=fun a=>(g a).cell 0 am;have aa:∀a,(e.alloc (.cells #[.string (ai b),.string (ai c),.int .i64 d,a] 150)).cell? (aq w.heap.size 1)=_:=fun a=>(g a).cell 1 am;have ab:∀a,(e.alloc (.cells #[.string (ai b),.string (ai c),.int .i64 d,a] 150)).cell? (aq w.heap.size 2)=_:=fun a=>(g a).cell 2 am;have ac:∀a,(e.alloc (.cells #[.string (ai b),.string (ai c),.int .i64 d,a] 150)).cell? (aq w.heap.size 3)=_:=fun a=>(g a).cell 3 am;simp only[cw,cF]at Z aa ab ac;have ap:=fun a an=>(g a).frozen an;have ar:w.heap.size≠e.heap.size:=ae;have aw:w.heap.size+1≠e.heap.size:=ae;have ao:w.heap.size<=e.heap.size:=ae;clear u t O z C F dw D al G A g;go_wp2_with fail;go_region;all_goals(go_wp2;refine cc (v:=.tuple #[.agg #[.string (ai b),.string (ai c),.int .i64 d,.string (ai k)],.bool (!i)]) (by simp[results,results79,go_sem,Z,aa,ab,ac]) rfl ⟨rfl,?_⟩;exact(((((ad _).drew).setCell av _).setCell av _).setCell av _).setCell av _)
theorem iB{a:kR}(c:a.ry):∀f∈[a],f.ry:=by intro f b;simp at b;subst b;exact c
theorem fc{b:kR}{c:List kR}(d:b.ry)(e:∀f∈c,f.ry):∀f∈b::c,f.ry:=by intro f a;rcases co.1 a with rfl|a;{exact d};{exact e f a}
def jc(a b s:ah):Nat:=dy (aD true (a++b++[0,17,ao s.length,aV s.length]++s))
theorem II(a b l s:ah)(w:World)(n:a.length<=1000)(o:b.length<=1000)(k:s.length<65536):az 282 #[.agg #[au a,au b,au l],au s] w (aP (ak (jc a b s)) w):=by
 have p:=a7 s;have q:IntKind.u16.wrap (s.length:Int)=(s.length:Int):=iF
 have h:Hid (∀(d:Nat) (c:World),d=c.heap.size->az 256 #[aF d 0 5 5] (c.alloc (.cells #[.iface 224 (.string (ai a)),.iface 224 (.string (ai b)),.iface 284 (.int .u16 17),.iface 284 (.int .u16 s.length),.iface 224 (.string (ai s))] 297)) fun e w'=>e=.returned (ak (jc a b s))/\Below d c w'):=fun d c j=>by{subst j;have:=AE [bE a,bE b,cq 17,cq s.length,bE s] c (fc (fu a) (fc (fu b) (fc (gG 17 ae) (fc (gG _ k) (iB (fu s)))))) am ss;rw[show bv [bE a,bE b,cq 17,cq s.length,bE s]=a++b++[0,17,ao s.length,aV s.length]++s by simp[bv,bE,cq];exact dX]at this;exact this};go_enter func282,ntmps282;go_wp2_with fail;refine(h _ _ cu).mono ?_;rintro e r ⟨rfl,g⟩;have i:=af (((bk w.heap.size w).alloc av _).trans (g.mono am));clear g;go_wp2;go_ret;exact⟨rfl,i⟩
theorem IJ(c b d:ah)(a:Nat)(w:World)(p:c.length<=1000)(q:b.length<=1000)(r:d.length<=100000)(n:a<65536):az 209 #[.agg #[au c,au b,ak a,au d]] w (aP (au (c++b++[ao a,aV a]++d)) w):=by
 have t:IntKind.u16.wrap (a:Int)=(a:Int):=iF
 have j:Hid (∀(g:Nat) (e:World),g=e.heap.size->az 199 #[aF g 0 4 4] (e.alloc (.cells #[.iface 224 (.string (ai c)),.iface 224 (.string (ai b)),.iface 284 (.int .u16 a),.iface 224 (.string (ai d))] 297)) fun h w'=>h=.returned (au (c++b++[ao a,aV a]++d))/\Below g e w'):=fun g e l=>by{subst l;have:=pS [bE c,bE b,cq a,bE d] e (fc (fu c) (fc (fu b) (fc (gG a n) (iB (fu d))))) am ss;rw[show bv [bE c,bE b,cq a,bE d]=c++b++[ao a,aV a]++d by simp[bv,bE,cq]]at this;exact this};go_enter func209,ntmps209;go_wp2_with fail;refine(j _ _ cu).mono ?_;rintro h u ⟨rfl,i⟩;have k:=af (((bk w.heap.size w).alloc av _).trans (i.mono am));clear i;go_wp2;go_ret;exact⟨bP (fun o=>Ending.returned (au o)) am,k⟩
def kD(a:Nat):ah:=[69,0,ao (20+a),aV (20+a),0,0,64,0,64,17]
def nX(a b:ah)(c:Nat):Nat:=65535-dy (aD true (kD c++a++b))
def jd(c b a:ah):ah:=kD a.length++[ao (nX c b a.length),aV (nX c b a.length)]++c++b++a
theorem yA{P:Prop}(h:P:=by rw[Hid,hh];rfl):P:=h
theorem S6(a b c:ah)(w:World)(P:a.length<=1000)(Q:b.length<=1000)(S:c.length<=60000):az 212 #[.agg #[au a,au b,au c]] w (aP (au (jd a b c)) w):=by
 have T:=a7 c;obtain⟨j,F⟩:=a2 (20+c.length);have V:(20:Int)+(c.length:Int)=(j:Int):=ae;have W:IntKind.u16.wrap (j:Int)=(j:Int):=iF
 have B:Hid (kD c.length=[69,0,ao j,aV j,0,0,64,0,64,17]):=by rw[Hid,F];rfl
 have y:Hid (∀(g:Nat) (d:World),g=d.heap.size->az 199 #[aF g 0 7 7] (d.alloc (.cells #[.iface 292 (.int .u8 69),.iface 292 (.int .u8 0),.iface 284 (.int .u16 j),.iface 284 (.int .u16 0),.iface 284 (.int .u16 16384),.iface 292 (.int .u8 64),.iface 292 (.int .u8 17)] 297)) fun i w'=>i=.returned (au (kD c.length))/\Below g d w'):=fun g d n=>by{subst n;have:=pS [gc 69,gc 0,cq j,cq 0,cq 16384,gc 64,gc 17] d (fc (mj 69) (fc (mj 0) (fc (gG j ae) (fc (gG 0 ae) (fc (gG 16384 ae) (fc (mj 64) (iB (mj 17)))))))) am (by simp[bv,gc,cq]);rw[ag B];exact this};obtain⟨e,hh⟩:=a2 (kD c.length);have G:e.length=10:=by rw[hh];rfl
 have l:Hid (nX a b c.length=65535-dy (aD true (e++a++b))):=yA
 have t:Hid (jd a b c=e++[ao (nX a b c.length),aV (nX a b c.length)]++a++b++c):=yA
 rw[<- hh]at y;have M:Hid (∀(g:Nat) (d:World),g=d.heap.size->az 256 #[aF g 0 3 3] (d.alloc (.cells #[.iface 224 (.string (ai e)),.iface 224 (.string (ai a)),.iface 224 (.string (ai b))] 297)) fun i w'=>i=.returned (ak (dy (aD true (e++a++b))))/\Below g d w'):=fun g d n=>by{subst n;have:=AE [bE e,bE a,bE b] d (fc (fu e) (fc (fu a) (iB (fu b)))) am (by simp[bv,bE];omega);rw[show bv [bE e,bE a,bE b]=e++a++b by simp[bv,bE]]at this;exact this};have X:=nW (aD true (e++a++b));generalize dy (aD true (e++a++b))=f at *;obtain⟨h,E⟩:=a2 (nX a b c.length);rw[<- E]at l t;have U:(65535:Int)-(f:Int)=(h:Int):=by have:=ag l;omega
 have O:IntKind.u16.wrap (h:Int)=(h:Int):=by rw[yQ];have:=ag l;omega
 have J:h<65536:=by have:=ag l;omega
 have N:Hid (∀(g:Nat) (d:World),g=d.heap.size->az 199 #[aF g 0 5 5] (d.alloc (.cells #[.iface 224 (.string (ai e)),.iface 284 (.int .u16 h),.iface 224 (.string (ai a)),.iface 224 (.string (ai b)),.iface 224 (.string (ai c))] 297)) fun i w'=>i=.returned (au (jd a b c))/\Below g d w'):=fun g d n=>by{subst n;have:=pS [bE e,cq h,bE a,bE b,bE c] d (fc (fu e) (fc (gG h J) (fc (fu a) (fc (fu b) (iB (fu c)))))) am ss;rw[show bv [bE e,cq h,bE a,bE b,bE c]=jd a b c by rw[ag t];simp[bv,bE,cq]]at this;exact this};clear B l t hh E F G;have C:=af (cH.jM w [au a,au b,au c] 307);have z:=af ((bk w.heap.size w).alloc av (.cells #[.string (ai a),.string (ai b),.string (ai c)] 307));have L:(w.alloc (.cells #[.string (ai a),.string (ai b),.string (ai c)] 307)).heap.size=w.heap.size+1:=am;go_enter func212,ntmps212;go_wp2_with fail;refine(y _ _ cu).mono ?_;rintro i Y ⟨rfl,u⟩;have k:=af (C.below u am);have A:=af (z.trans (u.mono am));clear u C z L;have p:=k.cell 0 am;have q:=k.cell 1 am;have r:=k.cell 2 am;simp at p q r;have K:=k.lt;go_wp2_with fail;refine(M _ _ cu).mono ?_;rintro i Z ⟨rfl,x⟩;have o:=af (k.below x K);have H:=af (A.trans (x.mono ae));clear x k A p q r;have p:=o.cell 0 am;have q:=o.cell 1 am;have r:=o.cell 2 am;simp at p q r;have R:=o.lt;go_wp2_with fail;refine(N _ _ cu).mono ?_;rintro i aa ⟨rfl,D⟩;have I:=af (H.trans (D.mono ae));clear D;go_wp2;go_ret;exact⟨rfl,I⟩
def jf(b a:Nat)(m:ah):ah:=[ao b,aV b,ao a,aV a,ao (8+m.length),aV (8+m.length)]
def mL(a b:ah)(d c:Nat)(m:ah):Nat:=if 65535-jc a b (jf d c m++[0,0]++m)=0 then 65535 else 65535-jc a b (jf d c m++[0,0]++m)
def iM(d b:ah)(c a:Nat)(m:ah):ah:=jf c a m++[ao (mL d b c a m),aV (mL d b c a m)]++m
structure E5(w W:World)(a b r m:ah)(sp dp:Nat):Prop where
 p:cH W w.heap.size [au a,au b,au r] 307
 d:cH W (w.heap.size+1) [ak sp,ak dp,au m] 349
 z:cH W (w.heap.size+2) [.string ⟨#[]⟩,.string ⟨#[]⟩,.string ⟨#[]⟩] 307
 below:ax w W
theorem E5.size{w W:World}{a b r m:ah}{d c:Nat}(h:E5 w W a b r m d c):w.heap.size+2<W.heap.size:=h.z.lt
theorem E5.next{w d e:World}{g b i m:ah}{j h:Nat}(a:E5 w d g b i m j h)(c:ax d e):E5 w e g b i m j h :=
 ⟨a.p.below c a.p.lt,a.d.below c a.d.lt,a.z.below c a.z.lt,a.below.trans (c.mono (by have:=a.size;omega))⟩
theorem E5.asx(w:World)(a b e m:ah)(g c:Nat):E5 w (((w.alloc (.cells #[.string (ai a),.string (ai b),.string (ai e)] 307)).alloc (.cells #[.int .i64 g,.int .i64 c,.string (ai m)] 349)).alloc (.cells #[.string ⟨#[]⟩,.string ⟨#[]⟩,.string ⟨#[]⟩] 307)) a b e m g c where
 p:=((cH.jM w _ _).alloc _).alloc _
 d:=by
  have:=(cH.jM (w.alloc (.cells #[.string (ai a),.string (ai b),.string (ai e)] 307)) [ak g,ak c,au m] 349).alloc (.cells #[.string ⟨#[]⟩,.string ⟨#[]⟩,.string ⟨#[]⟩] 307);simpa using this
 z:=by
  have:=cH.jM ((w.alloc (.cells #[.string (ai a),.string (ai b),.string (ai e)] 307)).alloc (.cells #[.int .i64 g,.int .i64 c,.string (ai m)] 349)) [.string ⟨#[]⟩,.string ⟨#[]⟩,.string ⟨#[]⟩] 307;simpa using this
 below:=((aE.alloc av _).alloc am _).alloc aA _
theorem FB{P:Prop}(h:P:=by go_wp2_with fail;refine(rN _ _ cu).mono ?_;rintro e w4 ⟨rfl,hb4⟩;have fH:=af (gV.next hb4);clear hb4 gV rN x0 x1 x2 y2;have x0:=fH.p.cell 0 am;have x1:=fH.p.cell 1 am;have x2:=fH.p.cell 2 am;have z0:=fH.z.cell 0 am;have z1:=fH.z.cell 1 am;have z2:=fH.z.cell 2 am;have jw:=fH.p.frozen;have hf2:=fH.z.frozen;simp at x0 x1 x2 z0 z1 z2;have aR:=af fH.below;clear fH;go_wp2;refine cc (v:=.agg #[.string (ai a),.string (ai b),.string (ai (iM a b sp dp m))]) ?_ rfl ?_;{simp[results,results258,go_sem,x0,x1,x2,z0,z1,z2]};{exact⟨rfl,(((aR.setCell av _).setCell (by show w.heap.size<=w.heap.size+2;omega) _).setCell (by show w.heap.size<=w.heap.size+2;omega) _).setCell (by show w.heap.size<=w.heap.size+2;omega) _⟩}):P:=h
theorem S9(a b r m:ah)(sp dp:Nat)(w:World)(G:a.length<=1000)(H:b.length<=1000)(M:m.length<=60000)(J:sp<65536)(D:dp<65536):az 258 #[.agg #[au a,au b,au r],.agg #[ak sp,ak dp,au m]] w (aP (.agg #[au a,au b,au (iM a b sp dp m)]) w):=by
 have N:=a7 m;obtain⟨j,A⟩:=a2 (8+m.length);have Q:(8:Int)+(m.length:Int)=(j:Int):=ae;have S:IntKind.u16.wrap (j:Int)=(j:Int):=iF
 have R:IntKind.u16.wrap (sp:Int)=(sp:Int):=iF
 have P:IntKind.u16.wrap (dp:Int)=(dp:Int):=iF
 have n:Hid (∀(g:Nat) (c:World),g=c.heap.size->az 199 #[aF g 0 3 3] (c.alloc (.cells #[.iface 284 (.int .u16 sp),.iface 284 (.int .u16 dp),.iface 284 (.int .u16 j)] 297)) fun e w'=>e=.returned (au (jf sp dp m))/\Below g c w'):=fun g c k=>by{subst k;have:=pS [cq sp,cq dp,cq j] c (fc (gG sp J) (fc (gG dp D) (iB (gG j ae)))) am (by simp[bv,cq]);rw[jf,<- A];exact this};obtain⟨d,hh⟩:=a2 (jf sp dp m);have E:d.length=6:=by rw[hh];rfl
 rw[<- hh]at n;have B:Hid (∀(g:Nat) (c:World),g=c.heap.size->az 199 #[aF g 0 3 3] (c.alloc (.cells #[.iface 224 (.string (ai d)),.iface 284 (.int .u16 0),.iface 224 (.string (ai m))] 297)) fun e w'=>e=.returned (au (d++[0,0]++m))/\Below g c w'):=fun g c k=>by{subst k;have:=pS [bE d,cq 0,bE m] c (fc (fu d) (fc (gG 0 ae) (iB (fu m)))) am ss;rw[show bv [bE d,cq 0,bE m]=d++[0,0]++m by simp[bv,bE,cq];exact dX]at this;exact this};have C:=af (fun c=>II a b r (d++[0,0]++m) c G H aA);have l:Hid (mL a b sp dp m=if 65535-jc a b (d++[0,0]++m)=0 then 65535 else 65535-jc a b (d++[0,0]++m)):=yA
 have o:Hid (iM a b sp dp m=d++[ao (mL a b sp dp m),aV (mL a b sp dp m)]++m):=yA
 have T:jc a b (d++[0,0]++m)<=65535:=nW _;generalize jc a b (d++[0,0]++m)=f at *;generalize d++[0,0]++m=U at *;obtain⟨h,z⟩:=a2 (mL a b sp dp m);rw[<- z]at l o;have I:h<65536:=by rw[ag l];split<;>omega
 have rN:Hid (∀(g:Nat) (c:World),g=c.heap.size->az 199 #[aF g 0 3 3] (c.alloc (.cells #[.iface 224 (.string (ai d)),.iface 284 (.int .u16 h),.iface 224 (.string (ai m))] 297)) fun e w'=>e=.returned (au (iM a b sp dp m))/\Below g c w'):=fun g c k=>by{subst k;have:=pS [bE d,cq h,bE m] c (fc (fu d) (fc (gG h I) (iB (fu m)))) am ss;rw[show bv [bE d,cq h,bE m]=iM a b sp dp m by rw[ag o];simp[bv,bE,cq]]at this;exact this};clear o hh z A E;have t:=af (E5.asx w a b r m sp dp);go_enter func258,ntmps258;go_wp2_with fail;refine(n _ _ cu).mono ?_;rintro e V ⟨rfl,u⟩;have p:=af (t.next (u.mono cu));clear u t n;have y2:=p.d.cell 2 am;simp at y2;go_wp2_with fail;refine(B _ _ cu).mono ?_;rintro e W ⟨rfl,x⟩;have i:=af (p.next x);clear x p B y2;have x0:=i.p.cell 0 am;have x1:=i.p.cell 1 am;have x2:=i.p.cell 2 am;have y2:=i.d.cell 2 am;simp at x0 x1 x2 y2;go_wp2_with fail;refine(C _).mono ?_;rintro e X ⟨rfl,y⟩;have gV:=af (i.next y);clear y i C x0 x1 x2 y2;have x0:=gV.p.cell 0 am;have x1:=gV.p.cell 1 am;have x2:=gV.p.cell 2 am;have y2:=gV.d.cell 2 am;simp at x0 x1 x2 y2;by_cases F:f=65535;{
 subst F;have q:h=65535:=by rw[ag l];rfl
 subst q;exact FB};{
 have q:h=65535-f:=by rw[ag l,ar ae]
 have O:(65535:Int)-(f:Int)=(h:Int):=ae;have K:¬(h:Int)=0:=ae;have L:IntKind.u16.wrap (h:Int)=(h:Int):=iF
 clear q;exact FB}
theorem wd(b:UInt8)(s:ah)(a:Bool):bZ (b::s) a=(b.toNat,s,a):=rfl
theorem ms(b d:UInt8)(s:ah)(a:Bool):bS (b::d::s) a=(b.toNat*256+d.toNat,s,a):=rfl
theorem IK(a b e d:UInt8)(s:ah)(c:Bool):bX (a::b::e::d::s) c 4=([a,b,e,d],s,c):=by unfold bX;rw[ay am];rfl
abbrev zP:List Value:=[.string ⟨#[]⟩,.string ⟨#[]⟩,.string ⟨#[]⟩]
structure HB(w W:World)(s:ah)(bs:Bool)(t:ah)(bt:Bool):Prop where
 z:cH W w.heap.size zP 307
 r:cS W (w.heap.size+1) s bs
 h:cS W (w.heap.size+2) t bt
 size:W.heap.size=w.heap.size+3
 below:ax w W
theorem HB.call{w c b:World}{s t h:ah}{g i e:Bool}(a:HB w c s g t i)(j:cS b (w.heap.size+2) h e)(d:dz (w.heap.size+2) c b)(k:b.heap.size=c.heap.size):HB w b s g h e :=
 ⟨a.z.kept d ae,a.r.kept d ae,j,k.trans a.size,a.below.trans (d.below ae (by have:=a.size;omega))⟩
theorem S_(a:ah)(c:Nat)(b:World)(g:c=b.heap.size)(h:a.length<=1000):az 256 #[aF c 0 1 1] (b.alloc (.cells #[.iface 224 (.string (ai a))] 297)) fun e w'=>e=.returned (ak (dy (aD true a)))/\Below c b w':=by subst g;have:=AE [bE a] b (by intro f d;simp at d;subst d;exact fu a) am (by simp[bv,bE];omega);rw[show bv [bE a]=a by simp[bv,bE]]at this;exact this
structure yv(w W:World)(s:ah)(bs:Bool)(a b r:ah):Prop where
 z:cH W w.heap.size zP 307
 Nt:cS W (w.heap.size+1) s bs
 p:cH W (w.heap.size+3) [au a,au b,au r] 307
 below:ax w W
theorem HB.next{w c:World}{s t:ah}{e g:Bool}(a:HB w c s e t g)(d b:ah):yv w (c.alloc (.cells #[.string (ai d),.string (ai b),.string ⟨#[]⟩] 307)) s e d b [] :=
 ⟨a.z.alloc _,(bx _ _ _ a.r.lt).trans a.r,by rw[<- a.size];exact cH.jM _ _ _,a.below.alloc (by have:=a.size;omega) _⟩
theorem yv.size{w W:World}{s a b r:ah}{c:Bool}(h:yv w W s c a b r):w.heap.size+3<W.heap.size:=h.p.lt
theorem yv.next{w d e:World}{s g b i:ah}{h:Bool}(a:yv w d s h g b i)(c:ax d e):yv w e s h g b i :=
 ⟨a.z.below c a.z.lt,(c.block _ a.Nt.lt).trans a.Nt,a.p.below c a.p.lt,a.below.trans (c.mono (by have:=a.size;omega))⟩
theorem yv.call{w e c:World}{s g b i j:ah}{k h:Bool}(a:yv w e s k g b i)(l:cS c (w.heap.size+1) j h)(d:dz (w.heap.size+1) e c):yv w c j h g b i :=
 ⟨a.z.kept d ae,l,a.p.kept d ae,a.below.trans (d.below ae (by have:=a.size;omega))⟩
theorem yv.asA{w c:World}{s d b h:ah}{e:Bool}(a:yv w c s e d b h)(g:ah):yv w (c.setCell ⟨w.heap.size+3,2,none⟩ (.string (ai g))) s e d b g :=
 ⟨(bC _ _ _ _ (by show w.heap.size≠w.heap.size+3;omega)).trans a.z,(bC _ _ _ _ (by show w.heap.size+1≠w.heap.size+3;omega)).trans a.Nt,a.p.set 2 _,a.below.setCell (by show w.heap.size<=w.heap.size+3;omega) _⟩
theorem SL(a:Nat)(c:a<65536):bits .and .i64 (a:Int) 16383=(a:Int)%16384:=by have b:bits .and .i64 (a:Int) 16383=((a%16384:Nat):Int):=by{show IntKind.i64.wrap ((BitVec.ofInt 64 (a:Int) &&& BitVec.ofInt 64 16383).toNat:Int)=_;rw[zr,nU a ae,show(16383:Int)=((16383:Nat):Int)from rfl,nU 16383 ae,show(16383:Nat)=2 ^ 14-1 from rfl,GY];exact sK};rw[b];omega
def nY(c g:Nat)(t d b:ah)(e:Bool)(a:Ending):Prop :=
 if c<28\/g≠65535 then a=.returned (.tuple #[.agg #[.string ⟨#[]⟩,.string ⟨#[]⟩,.string ⟨#[]⟩],.bool false])
 else if c-20<=t.length then a=.returned (.tuple #[.agg #[au d,au b,au (t.take (c-20))],.bool e])
 else ∃m:ah,a=.returned (.tuple #[.agg #[au d,au b,au m],.bool false])
theorem BI{P:Prop}(h:P:=by go_wp2_with fail;go_region;all_goals(go_wp2;refine cc (v:=.tuple #[.agg #[.string (ai [b12,b13,b14,b15]),.string (ai [b16,b17,b18,b19]),.string (ai m)],.bool (false)]) ?_ rfl ?_;{simp[results,results210,go_sem,z0,z1,z2]};{exact⟨ag bz _ rfl,(((aR.drew).setCell av _).setCell av _).setCell av _⟩})):P:=h
theorem SM(h x o q r u k l n e i j b12 b13 b14 b15 b16 b17 b18 b19:UInt8)(t:ah)(w:World)(bB:t.length<=140737488351232)(y H I:Nat)(aO:y=o.toNat*256+q.toNat)(aH:H=k.toNat*256+l.toNat)(K:I=dy (aD true [h,x,o,q,r,u,k,l,n,e,i,j,b12,b13,b14,b15,b16,b17,b18,b19]))(B:Bool)(z:B=(h.toNat==69&&(H%16384==0&&e.toNat==17))):az 210 #[au (h::x::o::q::r::u::k::l::n::e::i::j::b12::b13::b14::b15::b16::b17::b18::b19::t)] w fun g w'=>nY y I t [b12,b13,b14,b15] [b16,b17,b18,b19] B g/\ax w w':=by
 have aw:=af (fun a9 a2 ba=>S_ [h,x,o,q,r,u,k,l,n,e,i,j,b12,b13,b14,b15,b16,b17,b18,b19] a9 a2 ba am);rw[<- K]at aw;have aM:=af aO;have aT:=af aH;have G:=af z;have bF:y<65536:=by have:=dt o;have:=dt q;omega
 have a7:H<65536:=by have:=dt k;have:=dt l;omega
 have bt:I<=65535:=by rw[K];exact nW _
 clear aO aH z K;have aQ:cH ((w.alloc (.cells #[.string ⟨#[]⟩,.string ⟨#[]⟩,.string ⟨#[]⟩] 307)).alloc (.cells #[.string (ai (h::x::o::q::r::u::k::l::n::e::i::j::b12::b13::b14::b15::b16::b17::b18::b19::t)),.bool false] 215)) w.heap.size zP 307:=(cH.jM w _ _).alloc _;have aU:cS ((w.alloc (.cells #[.string ⟨#[]⟩,.string ⟨#[]⟩,.string ⟨#[]⟩] 307)).alloc (.cells #[.string (ai (h::x::o::q::r::u::k::l::n::e::i::j::b12::b13::b14::b15::b16::b17::b18::b19::t)),.bool false] 215)) (w.heap.size+1) (h::x::o::q::r::u::k::l::n::e::i::j::b12::b13::b14::b15::b16::b17::b18::b19::t) false:=by{have:=World.alloc_heap_new (w.alloc (.cells #[.string ⟨#[]⟩,.string ⟨#[]⟩,.string ⟨#[]⟩] 307)) (.cells #[.string (ai (h::x::o::q::r::u::k::l::n::e::i::j::b12::b13::b14::b15::b16::b17::b18::b19::t)),.bool false] 215);simpa [cS]using this};have aN:=af (((bk w.heap.size w).alloc av (.cells #[.string ⟨#[]⟩,.string ⟨#[]⟩,.string ⟨#[]⟩] 307)).alloc am (.cells #[.string (ai (h::x::o::q::r::u::k::l::n::e::i::j::b12::b13::b14::b15::b16::b17::b18::b19::t)),.bool false] 215));have an:=af (jF _ 20 (h::x::o::q::r::u::k::l::n::e::i::j::b12::b13::b14::b15::b16::b17::b18::b19::t) false _ aU ae aA);rw[show bX (h::x::o::q::r::u::k::l::n::e::i::j::b12::b13::b14::b15::b16::b17::b18::b19::t) false 20=([h,x,o,q,r,u,k,l,n,e,i,j,b12,b13,b14,b15,b16,b17,b18,b19],t,false)from by unfold bX;rw[ay am];rfl]at an;have aV:=af aQ;clear aQ aU;generalize (h::x::o::q::r::u::k::l::n::e::i::j::b12::b13::b14::b15::b16::b17::b18::b19::t)=bs at *;generalize ad : [h,x,o,q,r,u,k,l,n,e,i,j,b12,b13,b14,b15,b16,b17,b18,b19]=T at *;go_enter func210,ntmps210;go_wp2_with fail;refine an.mono ?_;rintro g S ⟨rfl,ak,aa,aP⟩;have al:S.heap.size=w.heap.size+2:=by rw[aP];simp
 have O:Hid (HB w (S.alloc (.cells #[.string (ai T),.bool false] 215)) t false T false) := ⟨(aV.kept aa ae).alloc _,(bx _ _ _ ak.lt).trans ak,by rw[<- al];exact Co,aA,(aN.trans (aa.below ae aA)).alloc ae _⟩;have a1:=af al;clear ak aa aP an aV aN;go_wp2_with fail;generalize S.alloc (.cells #[.string (ai T),.bool false] 215)=bg at *;clear al a1 S;rw[<- ad]at O;have br:=af ad;clear ad;have a:=af (i6 (w.heap.size+2) [h,x,o,q,r,u,k,l,n,e,i,j,b12,b13,b14,b15,b16,b17,b18,b19] false bg O.h am);rw[wd]at a;refine a.mono ?_;rintro g bh ⟨rfl,c,b,d⟩;have ab:=af (O.call c b d);clear c b d a O;have a:=af (i6 (w.heap.size+2) [x,o,q,r,u,k,l,n,e,i,j,b12,b13,b14,b15,b16,b17,b18,b19] false bh ab.h am);rw[wd]at a;go_wp2_with fail;refine a.mono ?_;rintro g bi ⟨rfl,c,b,d⟩;have Y:=af (ab.call c b d);clear c b d a ab;have a:=af (gF (w.heap.size+2) [o,q,r,u,k,l,n,e,i,j,b12,b13,b14,b15,b16,b17,b18,b19] false bi Y.h am);rw[ms,<- ag aM]at a;go_wp2_with fail;refine a.mono ?_;rintro g bj ⟨rfl,c,b,d⟩;have ac:=af (Y.call c b d);clear c b d a Y;have a:=af (gF (w.heap.size+2) [r,u,k,l,n,e,i,j,b12,b13,b14,b15,b16,b17,b18,b19] false bj ac.h am);rw[ms]at a;go_wp2_with fail;refine a.mono ?_;rintro g bl ⟨rfl,c,b,d⟩;have Z:=af (ac.call c b d);clear c b d a ac;have a:=af (gF (w.heap.size+2) [k,l,n,e,i,j,b12,b13,b14,b15,b16,b17,b18,b19] false bl Z.h am);rw[ms,<- ag aT]at a;go_wp2_with fail;refine a.mono ?_;rintro g bm ⟨rfl,c,b,d⟩;have aB:=af (Z.call c b d);clear c b d a Z;have a:=af (i6 (w.heap.size+2) [n,e,i,j,b12,b13,b14,b15,b16,b17,b18,b19] false bm aB.h am);rw[wd]at a;go_wp2_with fail;refine a.mono ?_;rintro g bn ⟨rfl,c,b,d⟩;have ao:=af (aB.call c b d);clear c b d a aB;have a:=af (i6 (w.heap.size+2) [e,i,j,b12,b13,b14,b15,b16,b17,b18,b19] false bn ao.h am);rw[wd]at a;go_wp2_with fail;refine a.mono ?_;rintro g bo ⟨rfl,c,b,d⟩;have aC:=af (ao.call c b d);clear c b d a ao;have a:=af (gF (w.heap.size+2) [i,j,b12,b13,b14,b15,b16,b17,b18,b19] false bo aC.h am);rw[ms]at a;go_wp2_with fail;refine a.mono ?_;rintro g bp ⟨rfl,c,b,d⟩;have aE:=af (aC.call c b d);clear c b d a aC;have a:=af (jF (w.heap.size+2) 4 [b12,b13,b14,b15,b16,b17,b18,b19] false bp aE.h ae am);rw[IK]at a;go_wp2_with fail;refine a.mono ?_;rintro g bq ⟨rfl,c,b,d⟩;have aG:=af (aE.call c b d);clear c b d a aE;have a:=af (jF (w.heap.size+2) 4 [b16,b17,b18,b19] false bq aG.h ae am);rw[IK]at a;go_wp2_with fail;refine a.mono ?_;rintro g aF ⟨rfl,c,b,d⟩;have E:=af (aG.call c b d);clear c b d a aG;have a3:=E.size;have U:=af (E.next [b12,b13,b14,b15] [b16,b17,b18,b19]);have aX:=E.z.cell 0 am;have aY:=E.z.cell 1 am;have aZ:=E.z.cell 2 am;have a4:=E.z.frozen;simp only[zP,cw,cF]at aX aY aZ;have L:=af ((((E.z.set 0 (.string ⟨#[]⟩)).set 1 (.string ⟨#[]⟩)).set 2 (.string ⟨#[]⟩)).alloc (.cells #[.string (ai [b12,b13,b14,b15]),.string (ai [b16,b17,b18,b19]),.string ⟨#[]⟩] 307));have aI:=af ((((E.below.setCell av (p:=⟨w.heap.size,0,none⟩) (.string ⟨#[]⟩)).setCell av (p:=⟨w.heap.size,1,none⟩) (.string ⟨#[]⟩)).setCell av (p:=⟨w.heap.size,2,none⟩) (.string ⟨#[]⟩)).alloc (by simp[World.setCell];omega) (.cells #[.string (ai [b12,b13,b14,b15]),.string (ai [b16,b17,b18,b19]),.string ⟨#[]⟩] 307));clear E aM aT;by_cases a5:y<28;{have bz:Hid (∀g:Ending,g=.returned (.tuple #[.agg #[.string ⟨#[]⟩,.string ⟨#[]⟩,.string ⟨#[]⟩],.bool false])->nY y I t [b12,b13,b14,b15] [b16,b17,b18,b19] B g):=fun g J=>by{unfold nY;rw[ay (.inl a5)];exact J};clear U;go_wp2;refine cc (v:=.tuple #[.agg #[.string ⟨#[]⟩,.string ⟨#[]⟩,.string ⟨#[]⟩],.bool false]) ?_ rfl ?_;{have bd:((((aF.setCell ⟨w.heap.size,0,none⟩ (.string ⟨#[]⟩)).setCell ⟨w.heap.size,1,none⟩ (.string ⟨#[]⟩)).setCell ⟨w.heap.size,2,none⟩ (.string ⟨#[]⟩)).alloc (.cells #[.string (ai [b12,b13,b14,b15]),.string (ai [b16,b17,b18,b19]),.string ⟨#[]⟩] 307)).cell? (aq w.heap.size 0)=some (.string ⟨#[]⟩):=L.cell 0 am;have be:((((aF.setCell ⟨w.heap.size,0,none⟩ (.string ⟨#[]⟩)).setCell ⟨w.heap.size,1,none⟩ (.string ⟨#[]⟩)).setCell ⟨w.heap.size,2,none⟩ (.string ⟨#[]⟩)).alloc (.cells #[.string (ai [b12,b13,b14,b15]),.string (ai [b16,b17,b18,b19]),.string ⟨#[]⟩] 307)).cell? (aq w.heap.size 1)=some (.string ⟨#[]⟩):=L.cell 1 am;have bf:((((aF.setCell ⟨w.heap.size,0,none⟩ (.string ⟨#[]⟩)).setCell ⟨w.heap.size,1,none⟩ (.string ⟨#[]⟩)).setCell ⟨w.heap.size,2,none⟩ (.string ⟨#[]⟩)).alloc (.cells #[.string (ai [b12,b13,b14,b15]),.string (ai [b16,b17,b18,b19]),.string ⟨#[]⟩] 307)).cell? (aq w.heap.size 2)=some (.string ⟨#[]⟩):=L.cell 2 am;simp[results,results210,go_sem,bd,be,bf]};{exact⟨ag bz _ rfl,aI⟩}};have bu:¬(y:Int)<28:=ae;go_wp2_with fail;refine(aw _ _ cu).mono ?_;rintro g a6 ⟨rfl,aJ⟩;have F:=af (U.next (aJ.mono cu));clear aJ U aw a3 aX aY aZ a4 aI L;by_cases K:I=65535;{
 subst K;obtain⟨D,bC⟩:∃D,y=D+20:=⟨y-20,ae⟩;have bD:(y:Int)-20=(D:Int):=ae;have bE:=SL H a7;have P:=dt h;have R:=dt e;have a:=af (jF (w.heap.size+1) D t false a6 F.Nt ae ae);have X:Hid (∀(m:ah) (A:Bool),bX t false D=(m,(bX t false D).2.1,A)->∀g:Ending,g=.returned (.tuple #[.agg #[au [b12,b13,b14,b15],au [b16,b17,b18,b19],au m],.bool (B && !A)])->nY y 65535 t [b12,b13,b14,b15] [b16,b17,b18,b19] B g):=fun m A Q g J=>by{
 unfold nY;rw[ar ae,show y-20=D by omega];unfold bX at Q;split at Q;{
 rename_i aj;rw[ay aj];obtain⟨rfl,rfl⟩:t.take D=m/\A=false:=by simpa using Q
 rw[J];simp};{
 rename_i aj;rw[ar aj];obtain⟨rfl,rfl⟩:m=[]/\A=true:=by simpa using Q
 exact⟨_,by rw[J,zs,rd]⟩}};obtain⟨m,aW,A,aS⟩:∃m aW A,bX t false D=(m,aW,A):=⟨_,_,_,rfl⟩;rw[aS]at a X;have bz:=af (X m A rfl);simp only at a;clear X aS;go_wp2_with fail;refine a.mono ?_;rintro g bH ⟨rfl,c,b,-⟩;have M:=af (F.call c b);have bv:=M.p.frozen;have a0:=M.p.cell 2 am;simp only[cw,cF]at a0;have C:=af (M.asA m);clear c b a F M;have bG:=C.Nt.cells.2;have bb:=C.p.cell 0 am;have bc:=C.p.cell 1 am;have cK:=C.p.cell 2 am;have z0:=C.z.cell 0 am;have z1:=C.z.cell 1 am;have z2:=C.z.cell 2 am;have a_:=C.z.frozen;simp only[zP,cw,cF]at z0 z1 z2 bb bc cK;have aR:=af C.below;clear C;by_cases ap:h.toNat=69;{
 by_cases N:H%16384=0;{
 by_cases W:e.toNat=17;{
 have z:B=true:=by rw[ag G];simp[ap,N,W]
 have V:(h.toNat:Int)=69:=ae;have aK:(H:Int)%16384=0:=ae;have aL:(e.toNat:Int)=17:=ae;subst z;rw[nI]at bz;clear G ap N W P R;go_wp2_with fail;go_region;all_goals(go_wp2;refine cc (v:=.tuple #[.agg #[.string (ai [b12,b13,b14,b15]),.string (ai [b16,b17,b18,b19]),.string (ai m)],.bool (!A)]) ?_ rfl ?_;{simp[results,results210,go_sem,z0,z1,z2]};{exact⟨ag bz _ rfl,(((aR.drew).setCell av _).setCell av _).setCell av _⟩})};{
 have z:B=false:=by rw[ag G];simp[W]
 have V:(h.toNat:Int)=69:=ae;have aK:(H:Int)%16384=0:=ae;have aL:¬(e.toNat:Int)=17:=ae;have bA:((e.toNat:Int)==17)=false:=by simpa using aL
 subst z;rw[nH]at bz;clear G ap N P R;exact BI}};{
 have z:B=false:=by rw[ag G];simp[N]
 have V:(h.toNat:Int)=69:=ae;have aK:¬(H:Int)%16384=0:=ae;subst z;rw[nH]at bz;clear G ap P R;exact BI}};{
 have z:B=false:=by rw[ag G];simp[ap]
 have V:¬(h.toNat:Int)=69:=ae;subst z;rw[nH]at bz;clear G P R;exact BI}};{
 have a8:¬(I:Int)=65535:=ae;have bw:((I:Int) != 65535)=true:=by simpa using a8
 have bz:Hid (∀g:Ending,g=.returned (.tuple #[.agg #[.string ⟨#[]⟩,.string ⟨#[]⟩,.string ⟨#[]⟩],.bool false])->nY y I t [b12,b13,b14,b15] [b16,b17,b18,b19] B g):=fun g J=>by{unfold nY;rw[ay (.inr K)];exact J};have z0:=F.z.cell 0 am;have z1:=F.z.cell 1 am;have z2:=F.z.cell 2 am;have a_:=F.z.frozen;simp only[zP,cw,cF]at z0 z1 z2;have aR:=af F.below;go_wp2;refine cc (v:=.tuple #[.agg #[.string ⟨#[]⟩,.string ⟨#[]⟩,.string ⟨#[]⟩],.bool false]) ?_ rfl ?_;{simp[results,results210,go_sem,z0,z1,z2]};{exact⟨ag bz _ rfl,((aR.setCell av _).setCell av _).setCell av _⟩}}
structure E9(w W:World)(a b r s:ah)(bs:Bool):Prop where
 p:cH W w.heap.size [au a,au b,au r] 307
 z:cH W (w.heap.size+1) [ak 0,ak 0,.string ⟨#[]⟩] 349
 r:cS W (w.heap.size+2) s bs
 size:W.heap.size=w.heap.size+3
 below:ax w W
theorem E9.call{w d c:World}{g b i s t:ah}{j h:Bool}(a:E9 w d g b i s j)(k:cS c (w.heap.size+2) t h)(e:dz (w.heap.size+2) d c)(l:c.heap.size=d.heap.size):E9 w c g b i t h :=
 ⟨a.p.kept e ae,a.z.kept e ae,k,l.trans a.size,a.below.trans (e.below ae (by have:=a.size;omega))⟩
theorem E9.asF(w:World)(a b r:ah):E9 w (((w.alloc (.cells #[.string (ai a),.string (ai b),.string (ai r)] 307)).alloc (.cells #[.int .i64 0,.int .i64 0,.string ⟨#[]⟩] 349)).alloc (.cells #[.string (ai r),.bool false] 215)) a b r r false where
 p:=((cH.jM w _ _).alloc _).alloc _
 z:=by
  have:=(cH.jM (w.alloc (.cells #[.string (ai a),.string (ai b),.string (ai r)] 307)) [ak 0,ak 0,.string ⟨#[]⟩] 349).alloc (.cells #[.string (ai r),.bool false] 215);simpa using this
 r:=by
  have:=World.alloc_heap_new ((w.alloc (.cells #[.string (ai a),.string (ai b),.string (ai r)] 307)).alloc (.cells #[.int .i64 0,.int .i64 0,.string ⟨#[]⟩] 349)) (.cells #[.string (ai r),.bool false] 215);simpa [cS]using this
 size:=am
 below:=((aE.alloc av _).alloc am _).alloc aA _
structure HE(w W:World)(a b r s:ah)(bs:Bool)(sp dp:Nat)(m:ah):Prop where
 p:cH W w.heap.size [au a,au b,au r] 307
 z:cH W (w.heap.size+1) [ak 0,ak 0,.string ⟨#[]⟩] 349
 r:cS W (w.heap.size+2) s bs
 d:cH W (w.heap.size+3) [ak sp,ak dp,au m] 349
 size:W.heap.size=w.heap.size+4
 below:ax w W
theorem HE.call{w e c:World}{g b j s t m:ah}{l h:Bool}{k i:Nat}(a:HE w e g b j s l k i m)(n:cS c (w.heap.size+2) t h)(d:dz (w.heap.size+2) e c)(o:c.heap.size=e.heap.size):HE w c g b j t h k i m :=
 ⟨a.p.kept d ae,a.z.kept d ae,n,a.d.kept d ae,o.trans a.size,a.below.trans (d.below ae (by have:=a.size;omega))⟩
theorem E9.next{w c:World}{d b h s:ah}{e:Bool}(a:E9 w c d b h s e)(i g:Nat):HE w (c.alloc (.cells #[.int .i64 i,.int .i64 g,.string ⟨#[]⟩] 349)) d b h s e i g [] :=
 ⟨a.p.alloc _,a.z.alloc _,(bx _ _ _ a.r.lt).trans a.r,by rw[<- a.size];exact cH.jM _ _ _,by have:=a.size;simp;omega,a.below.alloc (by have:=a.size;omega) _⟩
theorem HE.afG{w c:World}{d b i s m:ah}{e:Bool}{j g:Nat}(a:HE w c d b i s e j g m)(h:ah):HE w (c.setCell ⟨w.heap.size+3,2,none⟩ (.string (ai h))) d b i s e j g h :=
 ⟨(bC _ _ _ _ (by show w.heap.size≠w.heap.size+3;omega)).trans a.p,(bC _ _ _ _ (by show w.heap.size+1≠w.heap.size+3;omega)).trans a.z,(bC _ _ _ _ (by show w.heap.size+2≠w.heap.size+3;omega)).trans a.r,a.d.set 2 _,by have:=a.size;simpa [World.setCell]using this,a.below.setCell (by show w.heap.size<=w.heap.size+3;omega) _⟩
def pK(e c a d:Nat)(t:ah)(g:Nat)(b:Ending):Prop :=
 if a<8\/t.length<a-8 then b=.returned (.tuple #[.agg #[ak 0,ak 0,.string ⟨#[]⟩],.bool false])
 else b=.returned (.tuple #[.agg #[ak e,ak c,au (t.take (a-8))],.bool (d==0||g==65535)])
theorem SN(q b:ah)(G ap H I aK b9 cm C:UInt8)(t:ah)(w:World)(X:q.length<=1000)(z:b.length<=1000)(aJ:t.length<=100000)(o n i r l:Nat)(aN:o=G.toNat*256+ap.toNat)(an:n=H.toNat*256+I.toNat)(aL:i=aK.toNat*256+b9.toNat)(d:r=cm.toNat*256+C.toNat)(F:l=jc q b ((G::ap::H::I::aK::b9::cm::C::t).take i)):az 257 #[.agg #[au q,au b,au (G::ap::H::I::aK::b9::cm::C::t)]] w fun h w'=>pK o n i r t l h/\ax w w':=by
 have ad:=af aN;have P:=af an;have S:=af aL;have O:=af d;have bn:i<65536:=by have:=dt aK;have:=dt b9;omega
 have a3:r<65536:=by have:=dt cm;have:=dt C;omega
 have aW:l<=65535:=by rw[F];exact nW _
 obtain⟨j,c⟩:=a2 (G::ap::H::I::aK::b9::cm::C::t);have bi:j.length=8+t.length:=by rw[c];simp;omega
 have aU:=a7 j;rw[<- c]at F ⊢;have aj:=af (fun aV=>II q b j (j.take i) aV X z aA);rw[<- F]at aj;have U:=af (E9.asF w q b j);have R:=af c;clear aN an aL d F c;go_enter func257,ntmps257;go_wp2_with fail;rw[show w.heap.size+1+1=w.heap.size+2 from rfl];generalize ((w.alloc (.cells #[.string (ai q),.string (ai b),.string (ai j)] 307)).alloc (.cells #[.int .i64 0,.int .i64 0,.string ⟨#[]⟩] 349)).alloc (.cells #[.string (ai j),.bool false] 215)=bo at *;have e:=af (gF (w.heap.size+2) j false bo U.r ae);rw[ag R,ms,<- ag ad]at e;refine e.mono ?_;rintro h bp ⟨rfl,c,d,g⟩;have V:=af (U.call c d g);clear c d g e U;have e:=af (gF (w.heap.size+2) _ false bp V.r aA);rw[ms,<- ag P]at e;go_wp2_with fail;refine e.mono ?_;rintro h bq ⟨rfl,c,d,g⟩;have T:=af (V.call c d g);clear c d g e V;have bj:=T.size;have al:=af (T.next o n);clear T;go_wp2_with fail;generalize bq.alloc (.cells #[.int .i64 o,.int .i64 n,.string ⟨#[]⟩] 349)=u0 at *;clear bj;have e:=af (gF (w.heap.size+2) _ false u0 al.r aA);rw[ms,<- ag S]at e;refine e.mono ?_;rintro h u1 ⟨rfl,c,d,g⟩;have ab:=af (al.call c d g);clear c d g e al;have e:=af (gF (w.heap.size+2) _ false u1 ab.r aA);rw[ms,<- ag O]at e;go_wp2_with fail;refine e.mono ?_;rintro h u2 ⟨rfl,c,d,g⟩;have k:=af (ab.call c d g);clear c d g e ab;by_cases W:i<8
 ·have L:=k.z.cell 0 am;have M:=k.z.cell 1 am;have N:=k.z.cell 2 am;have bh:=k.z.frozen;simp at L M N;have Q:=af k.below;go_wp2;refine cc (v:=.tuple #[.agg #[.int .i64 0,.int .i64 0,.string ⟨#[]⟩],.bool false]) (by simp[results,results257,go_sem,L,M,N]) rfl ⟨?_,?_⟩
  ·unfold pK;rw[ay (.inl W)]
  ·exact((Q.setCell c9 _).setCell c9 _).setCell c9 _
 obtain⟨y,aM⟩:∃y,i=y+8:=⟨i-8,ae⟩
 have aO:(i:Int)-8=(y:Int):=ae;have av:¬(i:Int)<8:=ae;have B:=af aM;have bt:y<=65536:=ae;clear aM;have e:=af (jF (w.heap.size+2) y t false u2 k.r ae ae);by_cases K:y<=t.length
 ·rw[bX,ay K]at e;have A:Hid (∀h:Ending,h=.returned (.tuple #[.agg #[ak o,ak n,au (t.take y)],.bool (r==0||l==65535)])->pK o n i r t l h):=fun h Y=>by
   unfold pK;have:=ag B;rw[ar ae,show i-8=y by omega];exact Y
  generalize t.take y=m at *;go_wp2_with fail;refine e.mono ?_;rintro h u3 ⟨rfl,c,d,g⟩;have p:=af ((k.call c d g).afG m);have aQ:=(k.call c d g).d.frozen;have E:=(k.call c d g).d.cell 2 am;simp at E;clear c d g e k;have aP:=p.r.cells.2;have ao:i<=j.length:=by have:=ag B;omega
  have aa:=pG j i ao;go_wp2_with fail;clear aQ E;generalize u3.setCell ⟨w.heap.size+3,2,none⟩ (.string (ai m))=u4 at *;have aw:(u4.drew.cell? (aq w.heap.size 0)=some (au q)/\u4.drew.cell? (aq w.heap.size 1)=some (au b)/\u4.drew.cell? (aq w.heap.size 2)=some (au j)/\u4.drew.cell? (aq (w.heap.size+3) 0)=some (ak o)/\u4.drew.cell? (aq (w.heap.size+3) 1)=some (ak n)/\u4.drew.cell? (aq (w.heap.size+3) 2)=some (au m)):=by
   have a:=ag p;exact⟨a.p.cell 0 am,a.p.cell 1 am,a.p.cell 2 am,a.d.cell 0 am,a.d.cell 1 am,a.d.cell 2 am⟩
  have aB:(u4.cell? (aq w.heap.size 0)=some (au q)/\u4.cell? (aq w.heap.size 1)=some (au b)/\u4.cell? (aq w.heap.size 2)=some (au j)/\u4.cell? (aq (w.heap.size+1) 0)=some (ak 0)/\u4.cell? (aq (w.heap.size+1) 1)=some (ak 0)/\u4.cell? (aq (w.heap.size+1) 2)=some (.string ⟨#[]⟩)/\u4.cell? (aq (w.heap.size+3) 0)=some (ak o)/\u4.cell? (aq (w.heap.size+3) 1)=some (ak n)/\u4.cell? (aq (w.heap.size+3) 2)=some (au m)/\u4.frozen? (aq (w.heap.size+1) 0)=false/\u4.frozen? (aq (w.heap.size+1) 1)=false/\u4.frozen? (aq (w.heap.size+1) 2)=false/\ax w u4):=by
   have a:=ag p;exact⟨a.p.cell 0 am,a.p.cell 1 am,a.p.cell 2 am,a.z.cell 0 am,a.z.cell 1 am,a.z.cell 2 am,a.d.cell 0 am,a.d.cell 1 am,a.d.cell 2 am,a.z.frozen 0,a.z.frozen 1,a.z.frozen 2,a.below⟩
  have aC:Hid (az 282 #[.agg #[au q,au b,au j],au (j.take i)] u4.drew fun h w'=>h=.returned (ak l)/\(w'.cell? (aq w.heap.size 0)=some (au q)/\w'.cell? (aq w.heap.size 1)=some (au b)/\w'.cell? (aq w.heap.size 2)=some (au j)/\w'.cell? (aq (w.heap.size+3) 0)=some (ak o)/\w'.cell? (aq (w.heap.size+3) 1)=some (ak n)/\w'.cell? (aq (w.heap.size+3) 2)=some (au m))/\(w'.cell? (aq (w.heap.size+1) 0)=some (ak 0)/\w'.cell? (aq (w.heap.size+1) 1)=some (ak 0)/\w'.cell? (aq (w.heap.size+1) 2)=some (.string ⟨#[]⟩)/\w'.frozen? (aq (w.heap.size+1) 0)=false/\w'.frozen? (aq (w.heap.size+1) 1)=false/\w'.frozen? (aq (w.heap.size+1) 2)=false/\ax w w')):=by
   refine(aj u4.drew).mono ?_;rintro h w' ⟨rfl,z⟩;have a:=ag p;obtain⟨bb,bc,bd,be,bf,bg⟩:=aw;have x:∀(u:Addr) (v:Value),u4.drew.cell? u=some v->w'.cell? u=some v:=fun u v a=>(z.cell (ef u4.drew u a)).trans a;have ac:∀u:Addr,u.block<u4.heap.size->w'.frozen? u=u4.frozen? u:=fun u aa=>lZ (z.block u.block aa);exact⟨rfl,⟨x _ _ bb,x _ _ bc,x _ _ bd,x _ _ be,x _ _ bf,x _ _ bg⟩,x _ _ (a.z.cell 0 am),x _ _ (a.z.cell 1 am),x _ _ (a.z.cell 2 am),(ac _ a.z.lt).trans (a.z.frozen 0),(ac _ a.z.lt).trans (a.z.frozen 1),(ac _ a.z.lt).trans (a.z.frozen 2),a.below.drew.trans (z.mono a.below.size)⟩
  clear aj p aP;by_cases Z:r=0
  ·obtain⟨a4,a5,a6,aF,aG,aH,a8,a9,a_,aZ,a0,a1,J⟩:=aB;have Q:=af J.drew;clear J aC aw;subst Z;clear ad P S O aW bn a3 W aO av K bi aU aa aJ X z R ao B
   go_region
   all_goals
    go_wp2;refine cc (v:=.tuple #[.agg #[.int .i64 o,.int .i64 n,.string (ai m)],.bool true]) ?_ rfl ?_
    ·simp[results,results257,go_sem,aF,aG,aH]
    ·refine⟨ag A _ rfl,?_⟩;exact((Q.setCell c9 _).setCell c9 _).setCell c9 _
  ·have aX:¬(r:Int)=0:=ae;have bs:((r:Int)==0)=false:=by simpa using aX
   have aI:(r==0||l==65535)=(l==65535):=by simp[Z]
   rw[aI]at A;obtain⟨a4,a5,a6,aF,aG,aH,a8,a9,a_,aZ,a0,a1,J⟩:=aB;clear ad P S O W aO av K aJ X z R aI Z J B
   go_region_held (fun w'=>(w'.cell? (aq w.heap.size 0)=some (au q)/\w'.cell? (aq w.heap.size 1)=some (au b)/\w'.cell? (aq w.heap.size 2)=some (au j)/\w'.cell? (aq (w.heap.size+3) 0)=some (ak o)/\w'.cell? (aq (w.heap.size+3) 1)=some (ak n)/\w'.cell? (aq (w.heap.size+3) 2)=some (au m))) (first|assumption|go_keep)
    (first|(go_at_call 282;go_loud (refine aC.mono ?_;rintro h w' ⟨rfl,bw,bk,bl,bm,bu,bx,bv,aD⟩)))
   all_goals
    have aY:=af aD;have aE:((l:Int)==65535)=(l==65535):=by
     by_cases a:l=65535
     ·subst a;rfl
     ·have ba:¬(l:Int)=65535:=ae;rw[eW.2 a,eW.2 ba]
    rw[<- aE]at A;clear aD aE;go_wp2;refine cc (v:=.tuple #[.agg #[.int .i64 o,.int .i64 n,.string (ai m)],.bool ((l:Int)==65535)]) ?_ rfl ?_
    ·simp[results,results257,go_sem,bk,bl,bm]
    ·refine⟨ag A _ rfl,?_⟩;exact((aY.setCell c9 _).setCell c9 _).setCell c9 _
 ·rw[bX,ar K]at e;have A:Hid (∀h:Ending,h=.returned (.tuple #[.agg #[ak 0,ak 0,.string ⟨#[]⟩],.bool false])->pK o n i r t l h):=fun h Y=>by
   unfold pK;have:=ag B;rw[ay (.inr ae)];exact Y
  go_wp2_with fail;refine e.mono ?_;rintro h u3 ⟨rfl,c,d,g⟩;have p:=af ((k.call c d g).afG []);have aQ:=(k.call c d g).d.frozen;have E:=(k.call c d g).d.cell 2 am;simp at E;have D:=(k.call c d g).z;have L:=D.cell 0 am;have M:=D.cell 1 am;have N:=D.cell 2 am;have bh:=D.frozen;simp only[cw,cF]at L M N;have aR:=p.z.cell 0 am;have aS:=p.z.cell 1 am;have aT:=p.z.cell 2 am;have br:=p.z.frozen;simp only[cw,cF]at aR aS aT;clear c d g e k D;have aP:=p.r.cells.2;go_wp2;refine cc (v:=.tuple #[.agg #[.int .i64 0,.int .i64 0,.string ⟨#[]⟩],.bool false]) ?_ rfl ?_
  ·simp[results,results257,go_sem,aR,aS,aT]
  ·exact⟨ag A _ rfl,((p.below.setCell c9 _).setCell c9 _).setCell c9 _⟩
end Go.Proofs.YtkkpahmoljiepaaGreatDoor
