import Derived.Test.YtkkpahmoljiepaaGreatDoorJ14
import Derived.Test.YtkkpahmoljiepaaGreatDoorJ31
import Derived.Test.YtkkpahmoljiepaaGreatDoorJ32
set_option maxRecDepth 1000000
set_option maxHeartbeats 12800000
set_option linter.unusedSimpArgs false
set_option linter.unusedVariables false
namespace Go.Proofs.YtkkpahmoljiepaaGreatDoor
open Go.RowKit Go.Proofs.Tryz
theorem EI{P:Prop}(h:P:=by simp[results,results207,go_sem,z0,z1,z2,z3,z4]):P:=h
theorem Jm(s:ah)(a:World)(az:s.length<=140737488355328){F o p ar q au av d b e c:ah}{g:Nat}{u w K x L k:Bool}(Q:bX s false 6=(F,o,u))(R:bS o u=(g,p,w))(S:bX p w 6=(d,ar,K))(T:bX ar K 4=(b,q,x))(U:bX q x 6=(e,au,L))(V:bX au L 4=(c,av,k))(aC:o.length<=140737488355328)(aD:p.length<=140737488355328)(aE:q.length<=140737488355328):Calls prog 207 #[.string (ai s)] a fun i w'=>i=.returned (.tuple #[tC g d b e c,.bool ((ai F).toList==[0,1,8,0,6,4] && !k)])/\Below a.heap.size a w':=by
 have ad:cH ((a.alloc (.cells #[.int .i64 0,.string ⟨#[]⟩,.string ⟨#[]⟩,.string ⟨#[]⟩,.string ⟨#[]⟩] 303)).alloc (.cells #[.string (ai s),.bool false] 215)) a.heap.size [.int .i64 0,.string ⟨#[]⟩,.string ⟨#[]⟩,.string ⟨#[]⟩,.string ⟨#[]⟩] 303:=(cH.jM a _ _).alloc _;have aj:cS ((a.alloc (.cells #[.int .i64 0,.string ⟨#[]⟩,.string ⟨#[]⟩,.string ⟨#[]⟩,.string ⟨#[]⟩] 303)).alloc (.cells #[.string (ai s),.bool false] 215)) (a.heap.size+1) s false:=by{have:=World.alloc_heap_new (a.alloc (.cells #[.int .i64 0,.string ⟨#[]⟩,.string ⟨#[]⟩,.string ⟨#[]⟩,.string ⟨#[]⟩] 303)) (.cells #[.string (ai s),.bool false] 215);simpa [cS]using this};have P:=af (((bk a.heap.size a).alloc (bb _) (.cells #[.int .i64 0,.string ⟨#[]⟩,.string ⟨#[]⟩,.string ⟨#[]⟩,.string ⟨#[]⟩] 303)).alloc am (.cells #[.string (ai s),.bool false] 215));have D:=af (jF _ 6 s false _ aj ae az);rw[Q]at D;have aq:=af ad;have ak:=af R;have r:=af (aQ S T);have t:=af (aQ U V);clear ad aj Q R S T U V;go_enter func207,ntmps207;go_wp2_with (fail);refine(ag D).mono ?_;rintro i aw ⟨rfl,Y,y,ab⟩;have E:=af (gF _ o u aw Y aC);rw[ag ak]at E;have an:=af ((ag aq).kept y ae);have M:=af ((ag P).trans (y.below ae aA));have z:Hid (a.heap.size+2<=aw.heap.size):=by rw[Hid,ab];simp
 clear Y y ab D aq P ak;go_wp2_with (fail);refine(ag E).mono ?_;rintro i ax ⟨rfl,Z,B,ac⟩;have al:=af (Jk _ p w ax Z aD (ag r).1 (ag r).2);have G:=af ((ag an).kept B ae);have N:=af ((ag M).trans (B.below ae (by have:=ag z;omega)));have dw:Hid (a.heap.size+2<=ax.heap.size):=by rw[Hid,ac];exact ag z
 clear Z B ac E an M z r;go_wp2_with (fail);refine(ag al).mono ?_;rintro i ay ⟨rfl,aa,l⟩;have ap:=af (Jk _ q x ay aa aE (ag t).1 (ag t).2);have H:=af ((ag G).kept l ae);have O:=af ((ag N).trans (l.below ae qm));have A:Hid (a.heap.size+2<=ay.heap.size):=aZ (ag dw) l.size;clear aa l al G N dw t;go_wp2_with (fail);refine(ag ap).mono ?_;rintro i j ⟨rfl,C,n⟩;have I:=af ((ag H).kept n ae);have X:=af ((ag O).trans (n.below ae (by have:=ag A;omega)));have aB:a.heap.size+2<=j.heap.size:=aZ (ag A) n.size;have ao:cS (j.alloc (.cells #[.int .i64 g,.string (ai d),.string (ai b),.string (ai e),.string (ai c)] 303)) (a.heap.size+1) av k:=(bx _ _ _ C.lt).trans C;have h:=(ag I).alloc (.cells #[.int .i64 g,.string (ai d),.string (ai b),.string (ai e),.string (ai c)] 303);have W:=af ((ag X).alloc ae (.cells #[.int .i64 g,.string (ai d),.string (ai b),.string (ai e),.string (ai c)] 303));have aJ:=ao.cells.2;have z0:=h.cell 0 am;have z1:=h.cell 1 am;have z2:=h.cell 2 am;have z3:=h.cell 3 am;have z4:=h.cell 4 am;simp only[cw,cF]at z0 z1 z2 z3 z4;have aG:=h.frozen;have aH:a.heap.size≠j.heap.size:=ae;have aI:a.heap.size+1≠j.heap.size:=ae;have aF:a.heap.size<=j.heap.size:=ae;clear C n ap H O A I aB X ao h;go_wp2_with (fail);cases J:((ai F).toList==[0,1,8,0,6,4])with
 | true =>{go_region;all_goals(go_wp2;refine cc (v:=.tuple #[tC g d b e c,.bool (!k)]) EI rfl ⟨by rw[J,nI],?_⟩;exact((((((ag W).drew).setCell (bb _) _).setCell (bb _) _).setCell (bb _) _).setCell (bb _) _).setCell (bb _) _)}
 | false =>{go_region;all_goals(go_wp2;refine cc (v:=.tuple #[tC g d b e c,.bool false]) EI rfl ⟨by rw[J,nH],?_⟩;exact((((((ag W).drew).setCell (bb _) _).setCell (bb _) _).setCell (bb _) _).setCell (bb _) _).setCell (bb _) _)}
theorem yD{P:Prop}(h:P:=by go_ret;exact⟨rfl,ag aR⟩):P:=h
theorem Jn(n p l o b A y B a:ah)(z c:Nat)(k:Bool)(e:World)(x:k=false\/c≠1\/a≠b)(t:∀i,Calls prog 207 #[.string (ai l)] i fun g w'=>g=.returned (.tuple #[tC c A y B a,.bool k])/\Below i.heap.size i w'):Calls prog 149 #[g7 n p z l,fv o b] e fun g w'=>g=.returned (.string ⟨#[]⟩)/\Below e.heap.size e w':=by
 have q:=af t;have u:=af (pU.C6 e n p z l o b);have r:=af x;clear t x;go_enter func149,ntmps149;go_wp2_with (fail);refine(ag q _).mono ?_;rintro g F ⟨rfl,w⟩;have h:=(ag u).next w;have I:=h.size;have j:=h.alloc (.cells #[.int .i64 c,.string (ai A),.string (ai y),.string (ai B),.string (ai a)] 303);have ap:=j.c.cell 1 am;simp only[cw,cF]at ap;have C:=h.c.cell 1 am;simp only[cw,cF]at C;have aR:=af j.below;have H:e.heap.size+1≠F.heap.size:=ae;clear w u q h j;cases k with
 | false =>{go_wp2;exact yD}
 | true =>{
 by_cases D:c=1;{
 subst D;have ao:a≠b:=by{rcases ag r with d|d|d;{cases d};{exact absurd rfl d};{exact d}};have t1:¬(ai a).toList=(ai b).toList:=by rw[c7,c7];exact ao
 have G:((ai a).toList==(ai b).toList)=false:=yO
 clear ao r;go_wp2;exact yD};{
 have E:¬(c:Int)=1:=ae;have J:((c:Int) != 1)=true:=by simpa using E
 go_wp2;exact yD}}
theorem pN(s:ah)(c:Bool)(d:Nat):∃a e b,bX s c d=(a,e,b):=⟨_,_,_,rfl⟩
theorem Jo(s:ah)(b:Bool):∃c d a,bS s b=(c,d,a):=⟨_,_,_,rfl⟩
theorem TB(d e g m:ah)(j:Nat)(B:Value)(w:World)(p:∀a,Calls prog 257 #[gN d e g] a fun b w'=>b=.returned (.tuple #[AF j 53 m,.bool true])/\Below a.heap.size a w')(q:∀a,Below w.heap.size w a->Calls prog 27 #[B,.string (ai m)] a fun b w'=>b=.returned (.string ⟨#[]⟩)/\Below a.heap.size a w'):Calls prog 211 #[gN d e g,B] w fun b w'=>b=.returned (.tuple #[gN [] [] [],.bool false])/\Below w.heap.size w w':=by have k:=af p;have l:=af q;have o:=af (sW.XU w d e g);clear p q;go_enter func211,ntmps211;go_wp2_with (fail);refine(ag k _).mono ?_;rintro b u ⟨rfl,r⟩;have i:=(ag o).next r;have E:=i.size;have h:Nx w (u.alloc (.cells #[.int .i64 j,.int .i64 53,.string (ai m)] 349)) d e g u.heap.size j m:=⟨i.alloc _,cH.jM _ _ _⟩;have n:=af h;have x:=af (ag l _ h.pa.below);clear r o k i h l;go_wp2_with (fail);refine(ag x).mono ?_;rintro b F ⟨rfl,t⟩;have c:=((ag n).next t).pa;clear t n x;have y:=c.z.cell 0 am;have z:=c.z.cell 1 am;have A:=c.z.cell 2 am;have D:=c.z.frozen;simp only[cw,cF]at y z A;have C:=af c.below;clear c;go_wp2;refine cc (v:=.tuple #[.agg #[.string ⟨#[]⟩,.string ⟨#[]⟩,.string ⟨#[]⟩],.bool false]) ?_ rfl ?_;{simp[results,results211,go_sem,y,z,A]};{exact⟨rfl,(((ag C).setCell c9 _).setCell c9 _).setCell c9 _⟩}
theorem TC(j l i k a u b w:ah)(t:Nat)(y:Value)(e:World)(r:b≠a)(o:∀g,Calls prog 210 #[.string (ai i)] g fun c w'=>c=.returned (.tuple #[gN u b w,.bool true])/\Below g.heap.size g w'):Calls prog 150 #[g7 j l t i,y,fv k a] e fun c w'=>c=.returned (.string ⟨#[]⟩)/\Below e.heap.size e w':=by
 have n:=af o;have p:=af (pU.C6 e j l t i k a);have t1:¬(ai b).toList=(ai a).toList:=by rw[c7,c7];exact r
 have z:((ai b).toList==(ai a).toList)=false:=yO
 clear o r;go_enter func150,ntmps150;go_wp2_with (fail);refine(ag n _).mono ?_;rintro c B ⟨rfl,q⟩;have d:=(ag p).next q;have A:=d.size;have h:=d.alloc (.cells #[.string (ai u),.string (ai b),.string (ai w)] 307);have ap:=d.c.cell 1 am;have x:=h.c.cell 1 am;simp only[cw,cF]at ap x;have aR:=af h.below;clear q p n d h;go_wp2_with (fail);exact yD
theorem TE(s a g j b h E:ah)(i:Nat)(F:Value)(d:World)(A:a=[255,255,255,255,255,255])(C:a≠b)(z:∀c,az 79 #[au s] c (aP (.tuple #[g7 a g i j,.bool true]) c))(x:∀c,ax d c->az 80 #[g7 a g i j,F,fv b h] c (aP (au E) c)):az 37 #[F,fv b h,au s] d (aP (au E) d):=by
 have t:=af z;have y:=(bk d.heap.size d).alloc av (.cells #[.string (ai b),.string (ai h)] 62);have w:=af y;have r:=af (cH.jM d [au b,au h] 62);have u:=af x;have t1:¬(ai a).toList=(ai b).toList:=by rw[c7,c7];exact C
 have q:(ai a).toList=[255,255,255,255,255,255]:=by rw[c7];exact A
 have M:((ai a).toList==(ai b).toList)=false:=yO
 have N:((ai a).toList==[255,255,255,255,255,255])=true:=by rw[q];rfl
 have O:((ai a).toList==(⟨#[255,255,255,255,255,255]⟩:ByteArray).toList)=true:=by rw[q,c7];rfl
 clear z y x A C t1 q;go_enter func37,ntmps37;go_wp2_with fail;refine(t _).mono ?_;rintro K Q ⟨rfl,p⟩;have l:=w.trans (p.mono am);have L:=l.size;have n:=l.alloc L (.cells #[.string (ai a),.string (ai g),.int .i64 i,.string (ai j)] 150);have D:=af (u _ n);have k:=af n;have e:=r.below p am;have o:=e.alloc (.cells #[.string (ai a),.string (ai g),.int .i64 i,.string (ai j)] 150);have H:=e.cell 0 am;have ap:=e.cell 1 am;have I:=o.cell 0 am;have J:=o.cell 1 am;simp only[cw,cF]at H I ap J;have P:=e.lt;clear p t w l r e o u n;go_wp2_with fail;refine D.mono ?_;rintro K R ⟨rfl,B⟩;have G:=af (k.trans (B.mono k.size));clear B k D;go_wp2;go_ret;exact⟨rfl,G⟩
theorem fw(d:Nat)(c:ah)(h:d+1<=c.length):∃b a,c=b::a/\d<=a.length:=by
 cases c with
 | nil=>simp at h
 | cons b a=>exact⟨b,a,rfl,kI⟩
theorem Jp(e:ah)(g:8<=e.length):∃a ap b c aK b9 cm d p,e=a::ap::b::c::aK::b9::cm::d::p:=by obtain⟨a,u0,rfl,h⟩:=fw 7 e g;obtain⟨ap,u1,rfl,i⟩:=fw 6 u0 h;obtain⟨b,u2,rfl,j⟩:=fw 5 u1 i;obtain⟨c,u3,rfl,k⟩:=fw 4 u2 j;obtain⟨aK,u4,rfl,l⟩:=fw 3 u3 k;obtain⟨b9,u5,rfl,n⟩:=fw 2 u4 l;obtain⟨cm,u6,rfl,o⟩:=fw 1 u5 n;obtain⟨d,u7,rfl,q⟩:=fw 0 u6 o;exact⟨a,ap,b,c,aK,b9,cm,d,u7,rfl⟩
theorem TF(y:ah)(H:20<=y.length):∃a b o p q r t u w x c d e g h i j k l n U,y=a::b::o::p::q::r::t::u::w::x::c::d::e::g::h::i::j::k::l::n::U:=by obtain⟨a,u0,rfl,I⟩:=fw 19 y H;obtain⟨b,u1,rfl,J⟩:=fw 18 u0 I;obtain⟨o,u2,rfl,M⟩:=fw 17 u1 J;obtain⟨p,u3,rfl,N⟩:=fw 16 u2 M;obtain⟨q,u4,rfl,O⟩:=fw 15 u3 N;obtain⟨r,u5,rfl,P⟩:=fw 14 u4 O;obtain⟨t,u6,rfl,Q⟩:=fw 13 u5 P;obtain⟨u,u7,rfl,R⟩:=fw 12 u6 Q;obtain⟨w,u8,rfl,S⟩:=fw 11 u7 R;obtain⟨x,u9,rfl,z⟩:=fw 10 u8 S;obtain⟨c,u10,rfl,K⟩:=fw 9 u9 z;obtain⟨d,u11,rfl,L⟩:=fw 8 u10 K;obtain⟨e,u12,rfl,T⟩:=fw 7 u11 L;obtain⟨g,u13,rfl,B⟩:=fw 6 u12 T;obtain⟨h,u14,rfl,A⟩:=fw 5 u13 B;obtain⟨i,u15,rfl,W⟩:=fw 4 u14 A;obtain⟨j,u16,rfl,V⟩:=fw 3 u15 W;obtain⟨k,C,rfl,F⟩:=fw 2 u16 V;obtain⟨l,D,rfl,G⟩:=fw 1 C F;obtain⟨n,E,rfl,X⟩:=fw 0 D G;exact⟨a,b,o,p,q,r,t,u,w,x,c,d,e,g,h,i,j,k,l,n,E,rfl⟩
theorem TG(n o:ah)(c ap d e aK b9 cm g:UInt8)(b:ah)(l j a h i:Nat)(F:l=c.toNat*256+ap.toNat)(w:j=d.toNat*256+e.toNat)(E:a=aK.toNat*256+b9.toNat)(D:h=cm.toNat*256+g.toNat)(u:i=jc n o ((c::ap::d::e::aK::b9::cm::g::b).take a)):l5 n o (c::ap::d::e::aK::b9::cm::g::b)=if a<8\/b.length<a-8 then none else if(h==0||i==65535)=true/\j=53 then some (b.take (a-8),l)else none:=by
 have y:aG (c::ap::d::e::aK::b9::cm::g::b) 0=l:=by rw[F];show 256*c.toNat+ap.toNat=_;omega
 have z:aG (c::ap::d::e::aK::b9::cm::g::b) 2=j:=by rw[w];show 256*d.toNat+e.toNat=_;omega
 have A:aG (c::ap::d::e::aK::b9::cm::g::b) 4=a:=by rw[E];show 256*aK.toNat+b9.toNat=_;omega
 have B:aG (c::ap::d::e::aK::b9::cm::g::b) 6=h:=by rw[D];show 256*cm.toNat+g.toNat=_;omega
 unfold l5;rw[y,z,A,B];have r:(c::ap::d::e::aK::b9::cm::g::b).length=b.length+8:=rfl;rw[r];by_cases p:a<8\/b.length<a-8;{rw[ay p,ay ae]};{
 rw[ar p];have C:dy (aD true (n++o++[0,17]++[ao a,aV a]++(c::ap::d::e::aK::b9::cm::g::b).take a))=i:=by{rw[u,jc,de,r,kb ae];exact sB};rw[C];by_cases q:j=53;{
 rw[ar ae];by_cases h3:(h==0||i==65535)=true;{
 have x:h=0\/i=65535:=yM
 rw[ar (show ¬(h≠0/\i≠65535) by omega),ay ⟨h3,q⟩];obtain⟨t,rfl⟩:∃t,a=t+8:=⟨a-8,ae⟩;rw[vN];rfl};{
 have x:¬(h=0\/i=65535):=yM
 rw[ay (show h≠0/\i≠65535 by omega),ar (fun k=>h3 k.1)]}};{rw[ay ae,ar (fun k=>q k.2)]}}
theorem TH(D:ah)(g t o p x y q r z h u w j k l n a b c d:UInt8)(e:ah)(i B F:Nat)(R:i=o.toNat*256+p.toNat)(L:B=q.toNat*256+r.toNat)(S:F=dy (aD true [g,t,o,p,x,y,q,r,z,h,u,w,j,k,l,n,a,b,c,d]))(E:Bool)(O:E=(g.toNat==69&&(B%16384==0&&h.toNat==17))):jg D (g::t::o::p::x::y::q::r::z::h::u::w::j::k::l::n::a::b::c::d::e) =
   if i<28\/F≠65535 then none else if i-20<=e.length then if E=true/\[a,b,c,d]=D then l5 [j,k,l,n] [a,b,c,d] (e.take (i-20))else none else none:=by
 unfold jg;have Q:(g::t::o::p::x::y::q::r::z::h::u::w::j::k::l::n::a::b::c::d::e).length=e.length+20:=rfl;rw[Q];have P:(g::t::o::p::x::y::q::r::z::h::u::w::j::k::l::n::a::b::c::d::e).take 20=[g,t,o,p,x,y,q,r,z,h,u,w,j,k,l,n,a,b,c,d]:=rfl;have M:aG (g::t::o::p::x::y::q::r::z::h::u::w::j::k::l::n::a::b::c::d::e) 2=i:=by rw[R];show 256*o.toNat+p.toNat=_;omega
 have N:aG (g::t::o::p::x::y::q::r::z::h::u::w::j::k::l::n::a::b::c::d::e) 6=B:=by rw[L];show 256*q.toNat+r.toNat=_;omega
 rw[P,<- S,M,N];show(if e.length+20<28\/g.toNat≠69\/F≠65535 then none else if i<28\/e.length+20<i\/B%16384≠0\/h.toNat≠17\/[a,b,c,d]≠D then none else l5 [j,k,l,n] [a,b,c,d] (e.take (i-20)))=_;have G:E=true ↔ g.toNat=69/\B%16384=0/\h.toNat=17:=by rw[O];simp
 generalize [a,b,c,d]=K at *;generalize g.toNat=U at *;generalize h.toNat=T at *;by_cases H:i<28\/F≠65535;{rw[ay H];split;{rfl};{rw[ay ae]}};{rw[ar H];by_cases I:i-20<=e.length;{rw[ay I];by_cases C:E=true/\K=D;{have:=G.1 C.1;rw[ay C,ar ae,ar (by rintro(A|A|A|A|A)<;>first|omega|exact A C.2)]};{rw[ar C];split;{rfl};{rw[ay];by_cases J:K=D;{have V:¬(U=69/\B%16384=0/\T=17):=fun A=>C ⟨G.2 A,J⟩;omega};{exact .inr (.inr (.inr (.inr J)))}}}};{rw[ar I];split;{rfl};{rw[ay ae]}}}
def tE(f:Nat)(b:Array Value)(c:World)(d:ah):Prop:=∀a,ax c a->az f b a (aP (au d) a)
theorem tE.next{f:Nat}{b:Array Value}{d a:World}{e:ah}(i:tE f b d e)(c:ax d a):tE f b a e:=fun h g=>i h (c.trans (g.mono c.size))
def A5(ρ:ah->ah)(a b:ah):Option (ah×Nat)->Value
 | none=>.tuple #[gN [] [] [],.bool false]
 | some (m,c)=>if ρ m=[]then .tuple #[gN [] [] [],.bool false]else .tuple #[gN b a (iM b a 53 c (ρ m)),.bool true]
def tF(ρ:ah->ah)(d c a b:ah):Option (ah×Nat)->ah
 | none=>[]
 | some (m,e)=>if ρ m=[]then []else d++c++[8,0]++jd a b (iM a b 53 e (ρ m))
def mM(ρ:ah->ah)(f:Nat)(b:Value)(a:World):Prop:=∀m:ah,m.length<=100000->(ρ m).length<=1232/\tE f #[b,au m] a (ρ m)
theorem mM.next{ρ:ah->ah}{f:Nat}{e:Value}{d a:World}(b:mM ρ f e d)(g:ax d a):mM ρ f e a:=fun m c=>⟨(b m c).1,(b m c).2.next g⟩
theorem TI(ρ:ah->ah)(a b k:ah)(i:Value)(d:World)(y:a.length<=1000)(z:b.length<=1000)(G:8<=k.length)(w:k.length<=70000)(H:mM ρ 27 i d):az 211 #[gN a b k,i] d (aP (A5 ρ a b (l5 a b k)) d):=by
 obtain⟨e,ap,l,n,aK,b9,cm,o,h,rfl⟩:=Jp k G;have c:=fun C=>SN a b e ap l n aK b9 cm o h C y z (by simp at w;omega) _ _ _ _ _ rfl rfl rfl rfl rfl;rw[TG a b e ap l n aK b9 cm o h _ _ _ _ _ rfl rfl rfl rfl rfl];have D:e.toNat*256+ap.toNat<65536:=by have:=dt e;have:=dt ap;omega
 generalize e.toNat*256+ap.toNat=r at *;generalize l.toNat*256+n.toNat=u at *;generalize aK.toNat*256+b9.toNat=j at *;generalize cm.toNat*256+o.toNat=x at *;generalize jc a b ((e::ap::l::n::aK::b9::cm::o::h).take j)=B at *;unfold pK at c;by_cases p:j<8\/h.length<j-8;{rw[ay p];simp only[ay p]at c;exact IL a b _ [] 0 0 false i d (.inl rfl) c};{
 rw[ar p];simp only[ar p]at c;by_cases g:(x==0||B==65535)=true/\u=53;{rw[ay g];obtain⟨g,rfl⟩:=g;rw[g]at c;obtain⟨I,t⟩:=H (h.take (j-8)) (by simp at w;rw[de];omega);unfold A5;simp only;generalize ρ (h.take (j-8))=A at *;by_cases q:A=[];{subst q;rw[ay rfl];exact TB a b _ _ r i d c t};{rw[ar q];exact SP a b _ _ A r i d y z D q ae c t}};{
 rw[ar g];refine IL a b _ _ r u _ i d ?_ c;cases F:(x==0||B==65535)with
 | false=>exact nj
 | true=>exact .inr fun E=>g ⟨F,E⟩}}
theorem Ti(ρ:ah->ah)(i e l d a:ah)(k:Nat)(h:Value)(g:World)(ad:e.length<=6)(ag:d.length=6)(af:a.length=4)(Y:l.length<=140737488351232)(T:mM ρ 27 h g):az 150 #[g7 i e k l,h,fv d a] g (aP (au (tF ρ e d a ((l.drop 12).take 4) (jg a l))) g):=by
 by_cases V:l.length<20;{rw[show jg a l=none by unfold jg;rw[ay (.inl ae)]];exact we i e l d a k h g fun n=>(Tz l n V).mono fun w K b=>⟨⟨[],[],[],b.1⟩,b.2⟩};{
 obtain⟨y,M,t,u,P,Q,D,E,R,F,N,O,o,p,q,r,z,A,B,C,x,rfl⟩:=TF l ae;have c:=fun L=>SM y M t u P Q D E R F N O o p q r z A B C x L (by simp at Y;omega) _ _ _ rfl rfl rfl _ rfl;rw[TH a y M t u P Q D E R F N O o p q r z A B C x _ _ _ rfl rfl rfl _ rfl];have aj:t.toNat*256+u.toNat<65536:=by have:=dt t;have:=dt u;omega
 show Calls _ _ _ _ fun w K=>w=.returned (au (tF ρ e d a [o,p,q,r] _))/\_;generalize t.toNat*256+u.toNat=J at *;generalize dy (aD true [y,M,t,u,P,Q,D,E,R,F,N,O,o,p,q,r,z,A,B,C])=ab at *;generalize (y.toNat==69&&((D.toNat*256+E.toNat)%16384==0&&F.toNat==17))=aa at *;unfold nY at c;by_cases G:J<28\/ab≠65535;{rw[ay G];simp only[ay G]at c;exact we i e _ d a k h g fun n=>(c n).mono fun w K b=>⟨⟨[],[],[],b.1⟩,b.2⟩};{
 rw[ar G];simp only[ar G]at c;by_cases H:J-20<=x.length;{
 rw[ay H];simp only[ay H]at c;cases aa with
 | false =>{rw[ar (fun b=>Bool.noConfusion b.1)];exact we i e _ d a k h g fun n=>(c n).mono fun w K b=>⟨⟨_,_,_,b.1⟩,b.2⟩}
 | true =>{
 by_cases I : [z,A,B,C]=a;{
 rw[ay ⟨rfl,I⟩];rw[I]at c ⊢;have j:=fun L W=>TI ρ [o,p,q,r] a (x.take (J-20)) h L am ae jX jX (T.next W);cases S:l5 [o,p,q,r] a (x.take (J-20))with
 | none =>{rw[S]at j;exact IM i e _ d a _ _ k h g c j}
 | some Z =>{obtain⟨m,ai⟩:=Z;rw[S]at j;unfold A5 at j;unfold tF;simp only at j ⊢;by_cases U:ρ m=[];{simp only[ay U]at j ⊢;exact IM i e _ d a _ _ k h g c j};{simp only[ar U]at j ⊢;have ac:=(T m (aZ (IP S).1 ae)).1;exact SQ i e _ d a _ _ a _ _ k h g ae ae ae am (by simp[iM,jf];omega) c j}}};{rw[ar (fun b=>I b.2)];exact TC i e _ d a _ _ _ k h g I c}}};{rw[ar H];simp only[ar H]at c;exact we i e _ d a k h g fun n=>(c n).mono fun w K b=>⟨b.1.elim fun m X=>⟨_,_,m,X⟩,b.2⟩}}}
theorem pO(s:ah)(b:Bool)(a:Nat)(c:a<=s.length):bX s b a=(s.take a,s.drop a,b):=ay c
theorem Jq(s:ah)(a:Bool)(d:2<=s.length):bS s a=(aG s 0,s.drop 2,a):=by
 match s,d with
 | b::c::s,_=>rw[ms];show(_,s,a)=(256*b.toNat+c.toNat,s,a);rw[mV]
theorem pP{s e d:ah}{b:Bool}{c:Nat}(a:bX s b c=(e,d,false)):b=false/\d.length+c=s.length:=by unfold bX at a;split at a;{cases a;exact⟨rfl,o2⟩};{cases a}
theorem Jr{s e:ah}{c:Bool}{g:Nat}(d:bS s c=(g,e,false)):c=false/\e.length+2=s.length:=by
 have b:=bP (·.2.1) d;have a:=bP (·.2.2) d;cases s with
 | nil=>rw[tD]at a;cases a
 | cons h s =>{
 cases s with
 | nil=>simp[bS,bZ]at a
 | cons i s =>{rw[ms]at b a;simp only at b a;exact⟨a,by rw[<- b];rfl⟩}}
theorem Tj(b:ah)(a:8<=b.length):b.take 8=[0,1,8,0,6,4,0,1] ↔ b.take 6=[0,1,8,0,6,4]/\aG (b.drop 6) 0=1:=by obtain⟨d,ap,e,g,aK,b9,cm,c,k,rfl⟩:=Jp b a;show [d,ap,e,g,aK,b9,cm,c]=_ ↔ [d,ap,e,g,aK,b9]=_/\256*cm.toNat+c.toNat=1;constructor;{intro a;cases a;exact dX};{rintro⟨a,j⟩;cases a;have h:cm=0:=lX (by show cm.toNat=0;omega);have i:c=1:=lX (by show c.toNat=1;omega);rw[h,i]}
theorem Tk(j k a g e:ah)(o:Nat)(i:World)(ab:a.length<=140737488351232)(ac:g.length=6)(ad:e.length=4):az 149 #[g7 j k o a,fv g e] i (aP (au (od g e a)) i):=by
 unfold od;by_cases L:a.length<28;{
 obtain⟨an,I,w,q⟩:=pN a false 6;obtain⟨Y,J,x,r⟩:=Jo I w;obtain⟨W,K,y,t⟩:=pN J x 6;obtain⟨U,Z,M,u⟩:=pN K y 4;obtain⟨X,aa,N,A⟩:=pN Z M 6;obtain⟨V,ap,z,B⟩:=pN aa N 4;have D:=oh a false 6;have E:=lH I w;have F:=oh J x 6;have G:=oh K y 4;rw[q]at D;rw[r]at E;rw[t]at F;rw[u]at G;simp only at D E F G;have c:=fun p=>Jm a p ae q r t u A B ae ae ae;have T:z=true:=by{
 cases z with
 | true=>rfl
 | false =>{obtain⟨rfl,am⟩:=pP B;obtain⟨rfl,al⟩:=pP A;obtain⟨rfl,ak⟩:=pP u;obtain⟨rfl,aj⟩:=pP t;obtain⟨rfl,ag⟩:=Jr r;obtain⟨-,af⟩:=pP q;omega}};rw[ay (.inl L)];exact Jn j k a g e W U X V o Y _ i (.inl (by rw[T];simp)) c};{
 have b:=fun H=>(c8:(a.drop H).length=a.length-H);have c:=fun p=>Jm a p ae (pO a false 6 ae) (Jq _ false (by rw[b];omega)) (pO _ false 6 (by rw[eR,b];omega)) (pO _ false 4 (by rw[eR,eR,b];omega)) (pO _ false 6 (by rw[eR,eR,eR,b];omega)) (pO _ false 4 (by rw[eR,eR,eR,eR,b];omega)) (by rw[b];omega) (by rw[eR,b];omega) (by rw[eR,eR,eR,b];omega);simp only[eR,uT,uS,Nat.reduceAdd]at c;have C:=Tj a ae;have S:((ai (a.take 6)).toList==[0,1,8,0,6,4])=decide (a.take 6=[0,1,8,0,6,4]):=by rw[c7];exact Bool.beq_eq_decide_eq _ _
 rw[S]at c;by_cases h:a.take 8=[0,1,8,0,6,4,0,1]/\(a.drop 24).take 4=e;{
 obtain⟨h,R⟩:=h;obtain⟨l,n⟩:=C.1 h;rw[ar (by rintro(d|d|d)<;>contradiction)];rw[l,n,R]at c;have P:a.take 7=[0,1,8,0,6,4,0]:=by rw[show a.take 7=(a.take 8).take 7 by rw[GX];rfl,h];rfl
 have O:(a.drop 8).take 10=(a.drop 8).take 6++(a.drop 14).take 4:=by rw[show(10:Nat)=6+4 from rfl,vM,eR]
 rw[P,O];have:=Tx j k a g e ((a.drop 8).take 6) ((a.drop 14).take 4) _ o i jX ae ae jX c;simpa [kE,ao,aV]using this};{rw[ay (by by_cases d:a.take 8=[0,1,8,0,6,4,0,1];exact .inr (.inr fun Q=>h ⟨d,Q⟩);exact .inr (.inl d))];refine Jn j k a g e _ _ _ _ o _ _ i ?_ c;by_cases l:a.take 6=[0,1,8,0,6,4];{by_cases n:aG (a.drop 6) 0=1;{exact .inr (.inr fun d=>h ⟨C.2 ⟨l,n⟩,d⟩)};{exact .inr (.inl n)}};{exact .inl (by simp[l])}}}
theorem Tm(ρ:ah->ah)(e d b c a:ah)(g:Nat)(h:Value)(r:World)(w:d.length<=6)(q:c.length=6)(p:a.length=4)(o:b.length<=140737488351232)(u:mM ρ 27 h r):tE 80 #[g7 e d g b,h,fv c a] r (if g=2054 then od c a b else if g=2048 then tF ρ d c a ((b.drop 12).take 4) (jg a b)else []):=fun k n=>by
 by_cases i:g=2054
 ·rw[ay i];subst i;exact Ty e d b c a _ h k fun l _=>Tk e d b c a 2054 l o q p
 ·rw[ar i];by_cases j:g=2048
  ·rw[ay j];subst j;exact SS e d b c a _ h k fun l t=>Ti ρ e d b c a 2048 h l w q p o (u.next (n.trans (t.mono n.size)))
  ·rw[ar j];exact SR e d b c a g h k i j
theorem Js(s:ah)(e:14<=s.length)(d a:UInt8):(s.drop 12).take 2=[d,a] ↔ aG (s.drop 12) 0=256*d.toNat+a.toNat:=by
 match hs:s.drop 12 with
 | []=>have:=bP List.length hs;rw[c8]at this;exact nh
 | [b]=>have:=bP List.length hs;rw[c8]at this;exact nh
 | b::c::g =>{show [b,c]=[d,a] ↔ 256*b.toNat+c.toNat=_;constructor;{intro e;cases e;rfl};{intro e;have:=dt c;have:=dt a;rw[lX (show b.toNat=d.toNat by omega),lX (show c.toNat=a.toNat by omega)]}}
theorem Jt(ρ:ah->ah)(f b a:ah)(g:Value)(d:World)(G:b.length=6)(F:a.length=4)(L:f.length<=140737488351232)(D:mM ρ 27 g d):az 37 #[g,fv b a,au f] d (aP (au (lq ρ b a f)) d):=by
 unfold lq;by_cases l:f.length<14;{
 rw[ay (.inl l)];obtain⟨x,I,A,p⟩:=pN f false 6;obtain⟨z,J,B,q⟩:=pN I A 6;obtain⟨E,K,C,r⟩:=Jo J B;have e:=fun n=>IH f n ae p q r;cases C with
 | true=>exact ST f x z K b a E g d e
 | false =>{obtain⟨rfl,O⟩:=Jr r;obtain⟨rfl,N⟩:=pP q;obtain⟨-,M⟩:=pP p;omega}};{have o:=fun w=>(c8:(f.drop w).length=f.length-w);have e:=fun n=>IH f n ae (pO f false 6 ae) (pO _ false 6 (by rw[o];omega)) (Jq _ false (by rw[eR,o];omega));simp only[eR,Nat.reduceAdd,uT]at e;have k:=Tm ρ (f.take 6) ((f.drop 6).take 6) (f.drop 14) b a (aG (f.drop 12) 0) g d jX G F (by rw[o];omega) D;have t:(f.drop 12).take 2=[8,6] ↔ aG (f.drop 12) 0=2054:=Js f ae 8 6;have u:(f.drop 12).take 2=[8,0] ↔ aG (f.drop 12) 0=2048:=Js f ae 8 0;have y:(if aG (f.drop 12) 0=2054 then od b a (f.drop 14)else if aG (f.drop 12) 0=2048 then tF ρ ((f.drop 6).take 6) b a (((f.drop 14).drop 12).take 4) (jg a (f.drop 14))else [])=(if(f.drop 12).take 2=[8,6]then od b a (f.drop 14)else if(f.drop 12).take 2≠[8,0]then []else match jg a (f.drop 14)with|none=>[]|some (m,H)=>if ρ m=[]then []else(f.drop 6).take 6++b++[8,0]++jd a ((f.drop 26).take 4) (iM a ((f.drop 26).take 4) 53 H (ρ m))):=by{by_cases ap:(f.drop 12).take 2=[8,6];{rw[ay ap,ay (t.1 ap)]};{rw[ar ap,ar (fun c=>ap (t.2 c))];by_cases i:(f.drop 12).take 2=[8,0];{rw[ay (u.1 i),ar (fun c=>c i),eR];rfl};{rw[ar (fun c=>i (u.2 c)),ay i]}}};rw[y]at k;by_cases h:f.take 6=b;{rw[ar (by rintro(c|c);exact l c;exact c.1 h)];rw[h]at e k;exact SV f _ _ b a _ _ g d e k};{by_cases j:f.take 6=[255,255,255,255,255,255];{rw[ar (by rintro(c|c);exact l c;exact c.2 j)];exact TE f _ _ _ b a _ _ g d j h e k};{rw[ay (.inr ⟨h,j⟩)];exact SU f _ _ _ b a _ g d h j e}}}
theorem N0(e g h i j k:Int)(o n:ah)(l d a c:Int)(b:World):az 138 #[cP e g h i j k o n l d true a c] b (aP (ak (min (max a 512) 1232)) b):=by unfold cP;go_enter func138,ntmps138;go_wp2;go_ret;refine⟨?_,aE.alloc av _⟩;rfl
theorem N1(h e:Nat)(d:World->Prop)(b:List eF)(a:World)(p:∀t,ax a t->d t)(r:rJ a.heap.size (a.heap.size+1) d)(l:∀f∈b,f.zH a.heap.size (a.heap.size+1) d)(k:h8 a.heap.size a h b)(x:b.length<=e) (u:b.length<=1000000) (w:(cL b [] []).1.length<=50000) (j:(cL b [] []).2.length<=20000):az 199 #[aF h 0 b.length e] a (aP (au (cL b [] []).1) a):=by have q:=World.alloc_heap_new a (.cells #[.slice none 0 0,.slice none 0 0] 283);have g:ax a (a.alloc (.cells #[.slice none 0 0,.slice none 0 0] 283)):=aE.alloc av _;have n:=af (AH a.heap.size (a.heap.size+1) h e d b [] [] (a.alloc (.cells #[.slice none 0 0,.slice none 0 0] 283)) (p _ g) r ⟨_,_,q,e8 _ _ _ _,e8 _ _ _ _⟩ am (fun E j=>by cases j) l (k.tg (base:=a.heap.size+1) (bR.qB g)) x u w j);clear q l k p r g;go_enter func199,ntmps199;go_wp2_with fail;refine n.mono ?_;rintro A z ⟨rfl,⟨G,J,o,i,_⟩,c⟩;have B:=o.cells.1;have C:=tb i;have aR:Hid (ax a z):=(aE.alloc av _).trans ⟨c.os,c.tape,c.output,c.size,fun y D=>c.block y aA ae (.inl ae)⟩;obtain⟨F,I,H,rfl⟩:=i8 i;clear o i c n;go_wp2;go_ret;exact mw
def qf(a:Nat)(b:UInt8):List eF:=[lp [],fa (cq 41),fa (cq 1232),fa (gc b),fa (bE [0,0,0]),wv a 0 []]
def k9(a:UInt8):ah:=[0,0,41,4,208,a,0,0,0,0,0]
theorem C9(c:Nat)(a:UInt8):cL (qf c a) [] []=(k9 a,[]):=by
 have b:bo ([]:ah)=[]:=by first|rfl|simp[bo]|decide
 simp[cL,qf,lp,b,dM,fa,cq,gc,bE,wv,mP,mN,ao,aV,k9]
theorem sE{P:Prop}(h:P:=by unfold World.cell?; rw[h1];rfl):P:=h
theorem DB(g c:Nat)(i:UInt8)(a:World)(p:bT a)(l:0<a.heap.size)(h1:a.heap[g]? = some (.cells #[.iface 291 (.string ⟨#[]⟩),.iface 284 (.int .u16 41),.iface 284 (.int .u16 1232),.iface 292 (.int .u8 i.toNat),.iface 224 (.string ⟨#[0,0,0]⟩),.iface 293 (.slice (some ⟨c,0,none⟩) 0 0)] 297))(j:a.heap[c]? = some (.cells #[] 297)):az 199 #[aF g 0 6 6] a (aP (au (k9 i)) a):=by
 have t:=(bn.1 h1).1;have q:=(bn.1 j).1;have n:rJ a.heap.size (a.heap.size+1) (fun b=>bT b/\h8 a.heap.size b c []):=fun b r d o=>⟨d.1.tg o ae l,d.2.tg o⟩;have:=N1 g 6 (fun b=>bT b/\h8 a.heap.size b c []) (qf c i) a (fun b k=>⟨p.below k,ae,⟨_,_,(k.block c q).trans j,ba,ba⟩,fun h hj=>qk⟩) n (fun f e=>?_) ⟨ae,⟨_,_,h1,ba,ba⟩,fun h hj=>?_⟩ (by simp[qf]) (by simp[qf]) (by rw[C9];simp[k9]) (by rw[C9];simp);{rw[C9]at this;exact this};{simp only[qf,co,lE,kd]at e;rcases e with rfl|rfl|rfl|rfl|rfl|rfl;{exact rM _ am _ _ _ (fun _ d=>d.1) ae l};{exact iR (gG _ ae) _ _ _};{exact iR (gG _ ae) _ _ _};{exact iR (mj _) _ _ _};{exact iR (fu _) _ _ _};{exact Id _ _ c 0 _ [] n (fun _ d=>d.2) (fun f e=>by cases e) am am}};{
 match h,hj with
 | 0,_=>exact sE
 | 1,_=>exact sE
 | 2,_=>exact sE
 | 3,_=>exact sE
 | 4,_=>exact sE
 | 5,_=>exact sE
 | h+6,hj=>simp[qf]at hj;omega}
theorem yp{P:Prop}(h:P:=by have hb1:∀o,ax w (w.alloc o):=fun o=>aE.alloc av _;have HG:Hid (∀W,ax w W->bT W):=fun W hb=>hG.below hb;clear hG;unfold cP;go_enter func136,ntmps136;go_wp2_with fail;refine(DB (w.heap.size+1+1) (w.heap.size+1) 0 _ (HG _ (((hb1 _).alloc am _).alloc cu _)) am ?_ ?_).mono ?_;{have:=World.alloc_heap_new ((w.alloc (.cells #[.int .i64 h0,.int .i64 h1,.int .i64 h2,.int .i64 h3,.int .i64 h4,.int .i64 h5,.string (ai q),.string (ai n),.int .i64 k,.int .i64 c,.bool true,.int .i64 sz,.int .i64 bV] 137)).alloc (.cells #[] 297)) (.cells #[.iface 291 (.string ⟨#[]⟩),.iface 284 (.int .u16 41),.iface 284 (.int .u16 1232),.iface 292 (.int .u8 (0:UInt8).toNat),.iface 224 (.string ⟨#[0,0,0]⟩),.iface 293 (.slice (some ⟨w.heap.size+1,0,none⟩) 0 0)] 297);simp only[cv]at this;exact this};{have:=World.alloc_heap_new (w.alloc (.cells #[.int .i64 h0,.int .i64 h1,.int .i64 h2,.int .i64 h3,.int .i64 h4,.int .i64 h5,.string (ai q),.string (ai n),.int .i64 k,.int .i64 c,.bool true,.int .i64 sz,.int .i64 bV] 137)) (.cells #[] 297);simp only[cv]at this;exact(bx _ _ _ am).trans this};rintro e w2 ⟨rfl,hb2⟩;have aR:Hid (ax w w2):=(((hb1 _).alloc am _).alloc cu _).trans (hb2.mono cu);clear hb2 hb1 HG;go_wp2;go_ret;exact⟨rfl,aR⟩):P:=h
theorem N2(h0 h1 h2 h3 h4 h5:Int)(q n:ah)(k c sz bV:Int)(w:World)(hG:bT w):az 136 #[cP h0 h1 h2 h3 h4 h5 q n k c true sz bV,ak 0] w (aP (au (k9 0)) w):=by exact yp
theorem N3(h0 h1 h2 h3 h4 h5:Int)(q n:ah)(k c sz bV:Int)(w:World)(hG:bT w):az 136 #[cP h0 h1 h2 h3 h4 h5 q n k c true sz bV,ak 2] w (aP (au (k9 0)) w):=by exact yp
theorem N4(h0 h1 h2 h3 h4 h5:Int)(q n:ah)(k c sz bV:Int)(w:World)(hG:bT w):az 136 #[cP h0 h1 h2 h3 h4 h5 q n k c true sz bV,ak 3] w (aP (au (k9 0)) w):=by exact yp
theorem N5(h0 h1 h2 h3 h4 h5:Int)(q n:ah)(k c sz bV:Int)(w:World)(hG:bT w):az 136 #[cP h0 h1 h2 h3 h4 h5 q n k c true sz bV,ak 5] w (aP (au (k9 0)) w):=by exact yp
theorem Nz(e g h i j k:Int)(p o:ah)(n d q c:Int)(a:World)(t:bT a):az 136 #[cP e g h i j k p o n d true q c,ak 16] a (aP (au (k9 1)) a):=by have l:∀w,ax a (a.alloc w):=fun w=>aE.alloc av _;have r:Hid (∀b,ax a b->bT b):=fun b x=>t.below x;clear t;unfold cP;go_enter func136,ntmps136;go_wp2_with fail;refine(DB (a.heap.size+1+1) (a.heap.size+1) 1 _ (r _ (((l _).alloc am _).alloc cu _)) am ?_ ?_).mono ?_;{have:=World.alloc_heap_new ((a.alloc (.cells #[.int .i64 e,.int .i64 g,.int .i64 h,.int .i64 i,.int .i64 j,.int .i64 k,.string (ai p),.string (ai o),.int .i64 n,.int .i64 d,.bool true,.int .i64 q,.int .i64 c] 137)).alloc (.cells #[] 297)) (.cells #[.iface 291 (.string ⟨#[]⟩),.iface 284 (.int .u16 41),.iface 284 (.int .u16 1232),.iface 292 (.int .u8 (1:UInt8).toNat),.iface 224 (.string ⟨#[0,0,0]⟩),.iface 293 (.slice (some ⟨a.heap.size+1,0,none⟩) 0 0)] 297);simp only[cv]at this;exact this};{have:=World.alloc_heap_new (a.alloc (.cells #[.int .i64 e,.int .i64 g,.int .i64 h,.int .i64 i,.int .i64 j,.int .i64 k,.string (ai p),.string (ai o),.int .i64 n,.int .i64 d,.bool true,.int .i64 q,.int .i64 c] 137)) (.cells #[] 297);simp only[cv]at this;exact(bx _ _ _ am).trans this};rintro z y ⟨rfl,u⟩;have aR:Hid (ax a y):=(((l _).alloc am _).alloc cu _).trans (u.mono cu);clear u l r;go_wp2;go_ret;exact mw
theorem xU{size:Int}{aM:aj->List eF}{i:Nat}: ∀(a:List (List aj)) (b:my),(ex size aM i a b).cs.length=b.cs.length
 | [],_=>rfl
 | c::a,b=>by unfold ex;split;{rfl};{split;{rfl};{rw[xU a];simp}}
theorem Mb{k:Int}{i:aj->List eF}{h:Nat}: ∀(e:List (List aj)) (g:my) (d:Nat),(∀a∈g.cs,a<=d)->∀a∈(ex k i h e g).cs,a<=d+(e.map (·.length)).sum
 | [],_,_,c=>fun a b=>aZ (c a b) (nF _ _)
 | j::e,g,d,c=>by unfold ex;split;{exact fun a b=>aZ (c a b) (nF _ _)};{split;{exact fun a b=>aZ (c a b) (nF _ _)};{intro a b;have:=Mb e _ (d+j.length) (fun a b=>by{rcases zJ b with b|b;{have:=c a b;omega};{rw[b,fh];by_cases ao:h<g.cs.length;{rw[dV ao];have:=c _ (bM ao);simp only[zS];omega};{rw[zD ae];simp}}}) a b;simp only[fl,tj];omega}}
theorem Mc{size:Int}{aM:aj->List eF}{i:Nat}: ∀(d:List (List aj)) (a:my) (c:Nat),(∀b∈d,∀h∈b,qD h (aM h))->size<=c->a.S.1.length<=c->a.S.1.length<=(ex size aM i d a).S.1.length/\(ex size aM i d a).S.1.length<=c
 | [],_,_,_,_,e=>⟨bb _,e⟩
 | b::d,a,c,g,k,e=>by unfold ex;split;{exact⟨bb _,e⟩};{split;{exact⟨bb _,e⟩};{rename_i o p;have j:=(rO aM b (g b am) a.S.1 a.S.2).1;have:=Mc (size:=size) (aM:=aM) (i:=i) d { a with S:=bB aM b a.S.1 a.S.2,cs:=a.cs.set i (a.cs.getD i 0+b.length) } c (fun n l=>g n (by simp[l])) k (by show(bB aM b a.S.1 a.S.2).1.length<=c;omega);exact⟨aZ j this.1,this.2⟩}}
theorem NA(a:List aj):(((be bH a).map (·.2)).map (·.length)).sum<=a.length:=by have b:=AK a (be bH a).length;unfold g4 at b;rw[dK,List.length_flatMap]at b;rw[fT];exact b
theorem Md{e:Int}{d:aj->List eF}: ∀(a:Nat) (b:List (List aj)) (c:my),(gy e d a b c).cs.length=c.cs.length
 | _,[],_=>rfl
 | a,g::b,c=>by unfold gy;rw[Md (a+1) b,xU]
theorem Me{k:Int}{i:aj->List eF}: ∀(h:Nat) (c:List (List aj)) (d:my) (b:Nat),(∀a∈d.cs,a<=b)->∀a∈(gy k i h c d).cs,a<=b+(c.map (·.length)).sum
 | _,[],_,_,e=>fun a g=>aZ (e a g) (nF _ _)
 | h,j::c,d,b,e=>by unfold gy;intro a g;have:=Me (h+1) c _ _ (Mb _ d b e) a g;have l:=NA j;simp only[fl,tj];omega
theorem C_{size:Int}{aM:aj->List eF}: ∀(i:Nat) (c:List (List aj)) (b:my) (a:Nat),(∀d∈c,∀e∈d,qD e (aM e))->size<=a->b.S.1.length<=a->b.S.1.length<=(gy size aM i c b).S.1.length/\(gy size aM i c b).S.1.length<=a
 | _,[],_,_,_,_,g=>⟨bb _,g⟩
 | i,d::c,b,a,l,n,g=>by unfold gy;have j:=Mc (size:=size) (aM:=aM) (i:=i) ((be bH d).map (·.2)) b a (fun r q e p=>by{obtain⟨o,h,rfl⟩:=fz.1 q;exact l d am e (AL h p)}) n g;have k:=C_ (i+1) c _ a (fun o h=>l o (by simp[h])) n j.2;exact⟨aZ j.1 k.1,k.2⟩
def jb(a:Bool)(b:Int):Int:=if a=true then min (max b 512) 1232 else 512
def jS(a:Bool)(b:Int):ah:=if a=true then k9 (UInt8.ofNat (b.toNat/16))else []
def m6(a:Bool)(i h:Int)(g d:ah)(c e b:List aj):my:=gy (jb a i-((jS a h).length:Int)) dB 0 [c,e,b] ⟨(List.replicate 12 0++g,et 12 d),[0,0,0],false⟩
def sa(a:my)(b c:List aj):Bool:=decide (((a.cs.getD 0 0:Nat):Int)<(b.length:Int))||decide (((a.cs.getD 1 0:Nat):Int)<(c.length:Int))
def Da(a:Nat)(c:Int)(b d:Bool):Int:=ks (ks (ko a c) 1024 b) 512 d
def qg(l j:Nat)(a k:Bool)(i b:Int)(h g:ah)(c d e:List aj):ah :=
 bv (ei l (Da j b k (sa (m6 a i b h g c d e) c d)).toNat 1 ((m6 a i b h g c d e).cs.getD 0 0) ((m6 a i b h g c d e).cs.getD 1 0) (cond a ((m6 a i b h g c d e).cs.getD 2 0+1) ((m6 a i b h g c d e).cs.getD 2 0)))++((m6 a i b h g c d e).S.1++jS a b).drop 12
theorem NB(e g h i j k:Int)(o n:ah)(l d p c b:Int)(r:Bool)(a:World)(q:bT a)(t:b=0\/b=2\/b=3\/b=5\/b=16):az 136 #[cP e g h i j k o n l d r p c,ak b] a (aP (au (jS r b)) a):=by
 cases r with
 | false=>exact Ra e g h i j k o n l d p c b a
 | true =>{rcases t with rfl|rfl|rfl|rfl|rfl;{exact N2 e g h i j k o n l d p c a q};{exact N3 e g h i j k o n l d p c a q};{exact N4 e g h i j k o n l d p c a q};{exact N5 e g h i j k o n l d p c a q};{exact Nz e g h i j k o n l d p c a q}}
theorem NC(e g h i j k:Int)(p n:ah)(l d a c:Int)(o:Bool)(b:World):az 138 #[cP e g h i j k p n l d o a c] b (aP (ak (jb o a)) b):=by
 cases o with
 | false=>exact Q9 e g h i j k p n l d a c b
 | true=>exact N0 e g h i j k p n l d a c b
theorem Db{d:World}{v:Value}{c:List aj}(i:eZ d v c)(k:bT d):∃e g a b,v=.slice e c.length g/\qW v a b c/\cy d a b c:=by rcases i with⟨rfl,rfl⟩|⟨a,b,h,rfl,j,l⟩;{exact⟨none,0,0,0,rfl,.inl ⟨rfl,rfl⟩,k.1,fun n hj=>qk⟩};{exact⟨_,_,a,b,rfl,.inr ⟨h,rfl,j⟩,l⟩}
theorem ND{a:List Nat}(b:a.length=3):a=[a.getD 0 0,a.getD 1 0,a.getD 2 0]:=by
 match a,b with
 | [c,d,e],_=>rfl
def PU(c:List aj):Prop:=∀b∈be bH c,∀(s:ah) (a:cY),jk a->s.length<=1300->a.length<=s.length+300->(bB dB b.2 s a).1.length<=50000/\(bB dB b.2 s a).2.length<=20000/\(bB dB b.2 s a).2.length<=(bB dB b.2 s a).1.length+300
structure LP(l:List aj):Prop where
 rr:∀r∈l,qD r (dB r)
 set:PU l
 len:l.length<=1000
theorem NE(n p z:Nat)(L M U V aa ab:Int)(i g:ah)(b r:Bool)(j T c:Int)(d e h:List aj)(ad af ag:Value)(k:World)(l:bT k)(ai:n<65536)(aS:eZ k ad d) (aT:eZ k af e) (aU:eZ k ag h) (w:LP d) (x:LP e) (y:LP h) (a7:g.length<=300) (aJ:i.length<=300) (a8:(et 12 g).length<=300)(aR:c=0\/c=2\/c=3\/c=5\/c=16) (W:ks (ko p c) 1024 r=(z:Int)) (aF:z<65536) (aW:∀aV,∃q:Nat,ks z 512 aV=(q:Int)/\q<65536):az 73 #[cP n p L M U V i g aa ab b j T,.agg #[ak c,.bool r,ad,af,ag]] k (aP (au (qg n p b r j c i g d e h)) k):=by
 obtain⟨F,I,ay,am,rfl,aL,O⟩:=Db aS l;obtain⟨G,J,aB,aQ,rfl,aM,P⟩:=Db aT l;obtain⟨H,K,aC,an,rfl,aN,Q⟩:=Db aU l;have aY:(jS b c).length<=11:=by unfold jS;split<;>simp[k9]
 have aX:jb b j<=1232/\512<=jb b j:=by unfold jb;split<;>omega
 have D:((List.replicate 12 0++i,et 12 g):ah×cY).1.length=12+i.length:=by rw[a6,PN]
 obtain⟨a,t⟩:∃a,m6 b j c i g d e h=a:=⟨_,rfl⟩;have ap:a.cs.length=3:=by rw[<- t];exact Md _ _ _
 have aq:∀A∈a.cs,A<=3000:=fun A C=>by{rw[<- t]at C;have:=Me 0 [d,e,h] _ 0 (fun A C=>by simp at C;omega) A C;have a5:=w.len;have L:=x.len;have M:=y.len;simp only[fl,kK,tj,List.sum_nil]at this;omega};have aZ:12+i.length<=a.S.1.length/\a.S.1.length<=1300:=by{rw[<- t,<- D];exact C_ 0 [d,e,h] ⟨(List.replicate 12 0++i,et 12 g),[0,0,0],false⟩ 1300 (fun a_ Z S N=>by{simp only[co,lE,kd]at Z;rcases Z with rfl|rfl|rfl;{exact w.rr S N};{exact x.rr S N};{exact y.rr S N}}) ae (by rw[D];omega)};have R:∀u,a.cs.getD u 0<=3000:=fun u=>by{rw[fh];by_cases ao:u<a.cs.length;{rw[dV ao];exact aq _ (bM ao)};{rw[zD ae];simp}};obtain⟨q,X,ar⟩:=aW (sa a d e);have av:=ND ap;have al:qg n p b r j c i g d e h=bv (ei n q 1 (a.cs.getD 0 0) (a.cs.getD 1 0) (cond b (a.cs.getD 2 0+1) (a.cs.getD 2 0)))++(a.S.1++jS b c).drop 12:=by{unfold qg Da;rw[t,W,X];rfl};rw[al];have a2:=R 0;have a3:=R 1;have a4:=R 2;refine So n z q d.length e.length h.length (a.cs.getD 0 0) (a.cs.getD 1 0) (a.cs.getD 2 0) I J K F G H p L M U V aa ab c i g j T (jb b j) (jS b c) a.S k l ae ae ae b r _ rfl ai aF W ae aJ (sa a d e) rfl X ar ?_ (fun o aE=>NB _ _ _ _ _ _ _ _ _ _ _ _ _ _ o aE aR) (fun o=>NC _ _ _ _ _ _ _ _ _ _ _ _ _ o) ae ae ae ae ae;intro o aO aA aw B E aD a0 ax aG aI;have a9:=l.1;have Y:=Tp aO aA aw (jb b j-((jS b c).length:Int)) dB (.slice F d.length I) (.slice G e.length J) (.slice H h.length K) d e h (List.replicate 12 0++i,et 12 g) o ax (R4 g ae) (l.below B) aD ae ae aG aI (fun u ao=>by{
 have ba:=w.len;have bb:=x.len;have bc:=y.len;match u,ao with
 | 0,_=>exact⟨F,_,I,d,ay,am,rfl,rfl,aL,O.below B,cp O.1 E,by have:=O.1;omega,ae,w.rr,rfl,w.set⟩
 | 1,_=>exact⟨G,_,J,e,aB,aQ,rfl,rfl,aM,P.below B,cp P.1 E,by have:=P.1;omega,ae,x.rr,rfl,x.set⟩
 | 2,_=>exact⟨H,_,K,h,aC,an,rfl,rfl,aN,Q.below B,cp Q.1 E,by have:=Q.1;omega,ae,y.rr,rfl,y.set⟩}) ae (by rw[D];omega) (by rw[D];show(et 12 g).length<=_;omega)
 rw[show gy (jb b j-((jS b c).length:Int)) dB 0 [d,e,h] ⟨(List.replicate 12 0++i,et 12 g),[0,0,0],false⟩=a from t]at Y;refine Y.mono ?_;rintro a1 bd ⟨rfl,ac,aH,aK⟩;refine⟨rfl,?_,aH,aK⟩;rw[av]at ac;exact ac
theorem Dc(a b:Nat)(c:a<9223372036854775808)(d:b<9223372036854775808):bits .and .i64 (a:Int) (b:Int)=((a &&& b:Nat):Int):=by have e:a &&& b<2 ^ 63:=py Nat.and_le_left ae;show IntKind.i64.wrap ((BitVec.ofInt 64 (a:Int) &&& BitVec.ofInt 64 (b:Int)).toNat:Int)=_;rw[zr,nU a ae,nU b ae];generalize a &&& b=g at *;exact sK
def ky(a b:Nat):Nat:=(32768 ||| (a &&& 30976)) ||| (b &&& 15)
theorem sc(a b:Nat):ky a b<65536:=by have c:a &&& 30976<2 ^ 16:=py vP ae;have d:b &&& 15<2 ^ 16:=py vP ae;exact tl (tl ae c) d
theorem xV(a b:Nat)(g:a<65536)(h:b<65536):ko (a:Int) (b:Int)=(ky a b:Int):=by
 have c:a &&& 30976<2 ^ 16:=py vP ae;have d:b &&& 15<2 ^ 16:=py vP ae;have e:32768 ||| (a &&& 30976)<2 ^ 16:=tl ae c
 unfold ko;rw[show bits .and .i64 (a:Int) 30976=((a &&& 30976:Nat):Int)from Dc a 30976 ae ae,show bits .and .i64 (b:Int) 15=((b &&& 15:Nat):Int)from Dc b 15 ae ae];rw[show bits .or .i64 32768 ((a &&& 30976:Nat):Int)=((32768 ||| (a &&& 30976):Nat):Int)from tv 32768 _ ae ae];exact tv _ _ ae ae
def lk(a m:Nat)(b:Bool):Nat:=if b=true then a ||| m else a
theorem Dd{a m:Nat}{b:Bool}(c:a<65536)(d:m<65536):lk a m b<65536:=by unfold lk;split;{exact tl (n:=16) ae ae};{exact c}
theorem xW(a m:Nat)(b:Bool)(d:a<65536)(c:m<65536):ks (a:Int) (m:Int) b=(lk a m b:Int):=by unfold ks lk;split;{exact tv a m ae ae};{rfl}
theorem De(s:ah)(i:Nat):aG s i<65536:=by exact F3
theorem NF{m:ah}(a:12<=m.length):pp m=([aG m 0,aG m 2,aG m 4,aG m 6,aG m 8,aG m 10],true):=by
 match m,a with
 | b::c::g::h::i::j::k::l::n::o::d::e::p,_ =>{simp only[pp,hC,qd,aG,List.getD_cons_zero,List.getD_cons_succ,uT,mV]}
theorem Ep{P:Prop}(h:P:=by intro s;show(hC k _ (bS s true).2.2).2.2=true;rw[Pj];exact ih _):P:=h
theorem Mf:∀(k:Nat) (s:ah) (a:Bool),s.length<2*k->(hC k s a).2.2=true
 | 0,_,_,b=>by omega
 | k+1,s,a,b=>by
  show(hC k (bS s a).2.1 (bS s a).2.2).2.2=true
  match s,b with
  | [],_=>
   have c:∀k s,(hC k s true).2.2=true:=by
    intro k;induction k with
    | zero=>intro s;rfl
    | succ k ih=>exact Ep
   exact c k _
  | [d],_ =>
   have c:∀k s,(hC k s true).2.2=true:=by
    intro k;induction k with
    | zero=>intro s;rfl
    | succ k ih=>exact Ep
   exact c k _
  | d::e::s,b=>exact Mf k s a (by simp only[bi]at b;omega)
theorem NG{m:ah}(h:m.length<12):∃a b c d e f:Nat,pp m=([a,b,c,d,e,f],false):=by have g:=Mf 6 m false ae;refine⟨_,_,_,_,_,_,rm rfl ?_⟩;show(!(hC 6 m false).2.2)=false;rw[g];rfl
def xJ(a:Int):Prop:=a=0\/a=2\/a=3\/a=5\/a=16
theorem Mg(b:ah)(c:List aj)(g:Int)(first d:Bool)(e:List aj)(a:ah):xJ (cC b (aS c) g first d e a).1:=by
 unfold cC;split;{
 cases first
 {exact nj};{exact .inr (.inr (.inr (.inl rfl)))}};{
 split;{exact nj};{
 split;{split;{exact .inr (.inl rfl)};{exact nj}};{
 show xJ (gE b (aS c) a);unfold gE;repeat' split
 all_goals first|exact .inl rfl|exact .inr (.inr (.inl rfl))|exact .inr (.inl rfl)|exact .inr (.inr (.inr (.inl rfl)))}}}
theorem Mh(d:ah)(e:List aj)(g:Int):∀(f:Nat) (first a:Bool) (b:List aj) (c:ah),xJ (jP d (aS e) g f first a b c).1
 | 0,first,a,b,c=>Mg d e g first a b c
 | f+1,first,a,b,c=>by
  have h:=Mg d e g first a b c
  unfold jP;generalize cC d (aS e) g first a b c=n at h
  obtain⟨p,j,l,o,k⟩:=n;cases k with
  | none=>exact h
  | some i=>exact Mh d e g f false j l i
theorem NH(c:ah)(d:List aj)(b:ah)(a g:Int)(h:Bool)(e:Int):xJ (ce c d b a g h e).1.1:=by unfold ce;split;{exact .inr (.inr (.inr (.inr rfl)))};{split;{exact .inr (.inr (.inr (.inl rfl)))};{exact Mh c d a 9 true false [] b}}
theorem NI{m i:ah}{h:List ah}{k g:Nat}{d:Bool}{j e:Nat}(a:cR m=some (i,h,k,g,d,j,e)):aG m 4=1/\aG m 6=0/\aG m 8=0/\aG m 10=if d=true then 1 else 0:=by unfold cR at a;split at a;{cases a};{rename_i l;have b:aG m 4=1/\aG m 6=0/\aG m 8=0/\aG m 10<=1:=ae;refine⟨b.1,b.2.1,b.2.2.1,?_⟩;split at a;{cases a};{split at a;{cases a};{split at a;{rename_i c;split at a;{have:=cZ a;simp only[rn]at this;rw[<- this.2.2.2.2.1,c];rfl};{cases a}};{rename_i c;split at a;{cases a};{have:=cZ a;simp only[rn]at this;rw[<- this.2.2.2.2.1];show aG m 10=1;omega}}}}}
def h9(e:ah)(g:List aj)(m i:ah):Prop :=
 if m.length<12\/aG m 2 &&& 32768≠0 then i=[]
 else if aG m 2 &&& 30720≠0 then i=bv (ei (aG m 0) (ky (aG m 2) 4) 0 0 0 0)
 else match cR m with
  | none=>i=bv (ei (aG m 0) (ky (aG m 2) 1) 0 0 0 0)
  | some (j,a,h,d,b,k,c)=>i=qg (aG m 0) (aG m 2) b (ce e g (aU a) h d b c).1.2.1 k (ce e g (aU a) h d b c).1.1 j (aU a) (ce e g (aU a) h d b c).1.2.2.1 (ce e g (aU a) h d b c).1.2.2.2 (ce e g (aU a) h d b c).2
def Mi(g:ah)(h:List aj)(m:ah):Prop:=∀i a e c d j b,cR m=some (i,a,e,c,d,j,b)->PU (ce g h (aU a) e c d b).1.2.2.1/\PU (ce g h (aU a) e c d b).1.2.2.2/\PU (ce g h (aU a) e c d b).2/\(et 12 (aU a)).length<=300
theorem Mj(a b:Nat)(d:a<65536)(e:b<65536):(bits .and .i64 (a:Int) (b:Int) != 0)=decide (a &&& b≠0):=by rw[Dc a b ae ae];by_cases c:a &&& b=0;{rw[c];rfl};{rw[eC c];simp only[o9,ne_eq];omega}
theorem NJ(k al aw an:Nat)(t m:ah)(u:List aj)(e:World)(am:kG t u)(aM:e6 e k t al aw an (aS u))(aq:bT e)(a7:m.length<=2000000)(aC:Mi t u m):az 27 #[aO k,.string (ai m)] e fun g j=>(∃ac,g=.returned (.string (ai ac))/\h9 t u m ac)/\ax e j:=by
 have r:=Q3 m e ae;by_cases Q:m.length<12;{obtain⟨aN,aE,aF,ap,aH,aI,q⟩:=NG Q;rw[q]at r;refine(L8 (aO k) m aN aE aF ap aH aI false e (.inl rfl) r).mono ?_;rintro g j ⟨rfl,a⟩;exact⟨⟨[],rfl,by unfold h9;rw[ay (.inl Q)]⟩,a⟩};rw[NF ae]at r;have A:=De m 2;have ao:=De m 0;have x:=Mj (aG m 2) 32768 A ae;have C:=Mj (aG m 2) 30720 A ae;by_cases I:aG m 2 &&& 32768≠0;{rw[eC I]at x;refine(L8 (aO k) m _ _ _ _ _ _ true e (.inr ⟨rfl,x⟩) r).mono ?_;rintro g j ⟨rfl,a⟩;exact⟨⟨[],rfl,by unfold h9;rw[ay (.inr I)]⟩,a⟩};rw[eD I]at x;have M:¬(m.length<12\/aG m 2 &&& 32768≠0):=fun h=>h.elim Q I;by_cases z:aG m 2 &&& 30720≠0;{rw[eC z]at C;refine(M6 (aO k) m (aG m 0) (aG m 2) (ky (aG m 2) 4) _ _ _ _ e ao (sc _ _) (xV _ 4 A ae) x C r).mono ?_;rintro g j ⟨rfl,a⟩;exact⟨⟨_,rfl,by unfold h9;rw[ar M,ay z]⟩,a⟩};rw[eD z]at C;have au:=fun b=>NY m (aG m 0) (aG m 2) b ae ae;cases l:cR m with
 | none =>{refine(M7 (aO k) m (aG m 0) (aG m 2) (ky (aG m 2) 1) _ _ _ _ e ao (sc _ _) (xV _ 1 A ae) x C r (fun b=>(au b).mono ?_)).mono ?_;{rintro g j ⟨h,a⟩;unfold qe at h;rw[l]at h;exact⟨h,a⟩};{rintro g j ⟨rfl,a⟩;exact⟨⟨_,rfl,by unfold h9;rw[ar M,ar z,l]⟩,a⟩}}
 | some aD =>{obtain⟨D,c,w,p,i,F,o⟩:=aD;obtain⟨aP,aQ,aR,aT⟩:=NI l;obtain⟨aZ,av,a9,a_,a4,a5,a6,_⟩:=rT l;obtain⟨U,V,W,a2⟩:=aC D c w p i F o l;obtain⟨_,y,ad,af,ag⟩:=rY am aZ (fun aa P=>(av aa P).1) w p i o;have K:=NH t u (aU c) w p i o;have a8:(aU c).length<=254:=by{by_cases q:c=[];{subst q;exact b6 _};{have:=qc c q;omega}};have aV:aU c=[]\/gp (aU c):=by{by_cases q:c=[];{subst q;exact nj};{exact .inr (uf q (fun aa P=>(av aa P).1))}};obtain⟨ab,N⟩:∃ab,ce t u (aU c) w p i o=ab:=⟨_,rfl⟩;rw[N]at y ad af ag K U V W;obtain⟨⟨a1,n,H,L⟩,G⟩:=ab;simp only at y ad af ag K U V W;have aW:LP H:=⟨fun E B=>uk (y E (by simp[B])).1.wr,U,ae⟩;have aX:LP L:=⟨fun E B=>uk (y E (by simp[B])).1.wr,V,ae⟩;have aY:LP G:=⟨fun E B=>uk (y E (by simp[B])).1.wr,W,ae⟩;have a0:∃d:Nat,d<65536/\a1=(d:Int):=by{rcases K with rfl|rfl|rfl|rfl|rfl;{exact sr};{exact⟨2,ae,rfl⟩};{exact⟨3,ae,rfl⟩};{exact⟨5,ae,rfl⟩};{exact⟨16,ae,rfl⟩}};obtain⟨d,aL,rfl⟩:=a0;have aK:ks (ko (aG m 2:Nat) (d:Int)) 1024 n=(lk (ky (aG m 2) d) 1024 n:Int):=by{rw[xV _ d A aL];exact xW _ 1024 n (sc _ _) ae};have O:lk (ky (aG m 2) d) 1024 n<65536:=Dd (sc _ _) ae;refine(NZ k (aG m 0) (aG m 2) _ _ _ _ w p F o i m D (aU c) (qg (aG m 0) (aG m 2) i n F d D (aU c) H L G) (fun b aA aB X Y Z=>aA=ak d/\aB=.bool n/\eZ b X H/\eZ b Y L/\eZ b Z G) e x C r (fun b=>(au b).mono ?_) (fun b J=>?_) (fun b aA aB X Y Z J aJ=>?_)).mono ?_;{rintro g j ⟨h,a⟩;unfold qe at h;rw[l]at h;rw[aP,aQ,aR,aT];refine⟨h.trans ?_,a⟩;cases i<;>rfl};{refine(Vq k al aw an w p t (aU c) D _ _ _ _ _ _ i F o u b am (aM.below J) (aq.below J) aV ae).mono ?_;rintro g j ⟨⟨v,rfl,ba,bb,bc,rfl,R,S,T,_⟩,a⟩;rw[N]at *;exact⟨⟨_,_,_,_,_,rfl,rfl,rfl,R.rv,S.rv,T.rv⟩,a⟩};{obtain⟨rfl,rfl,R,S,T⟩:=aJ;exact NE (aG m 0) (aG m 2) _ _ _ _ _ w p D (aU c) i n F o d H L G X Y Z b (aq.below J) ao R S T aW aX aY ae ae a2 K aK O (fun a3=>⟨_,xW _ 512 a3 O ae,Dd O ae⟩)};{rintro g j ⟨rfl,a⟩;exact⟨⟨_,rfl,by unfold h9;rw[ar M,ar z,l];simp only[N]⟩,a⟩}}
theorem Df(d e c:Nat)(i:e<256):(256*d+e) &&& (256*c)=256*(d &&& c):=by have g:=Nat.and_div_two_pow (a:=256*d+e) (b:=256*c) (n:=8);have h:=Nat.and_mod_two_pow (a:=256*d+e) (b:=256*c) (n:=8);rw[show(2 ^ 8:Nat)=256 from rfl,show(256*d+e)/256=d by omega,show 256*c/256=c by omega]at g;rw[show(2 ^ 8:Nat)=256 from rfl,show 256*c%256=0 by omega,Nat.and_zero]at h;omega
theorem Dg(a b d c:Nat)(i:b<256)(h:c<256):(256*a+b) ||| (256*d+c)=256*(a ||| d)+(b ||| c):=by have e:=Nat.or_div_two_pow (a:=256*a+b) (b:=256*d+c) (n:=8);have g:=Nat.or_mod_two_pow (a:=256*a+b) (b:=256*d+c) (n:=8);rw[show(2 ^ 8:Nat)=256 from rfl,show(256*a+b)/256=a by omega,show(256*d+c)/256=d by omega]at e;rw[show(2 ^ 8:Nat)=256 from rfl,show(256*a+b)%256=b by omega,show(256*d+c)%256=c by omega]at g;omega
theorem NK:∀a:Nat,a<17->a &&& 15=a%16:=by decide +kernel
theorem NL(a c b:Nat)(g:c<256)(h:b<17):ky (256*a+c) b=256*(128 ||| (a &&& 121))+b%16:=by unfold ky;rw[NK b h,show(30976:Nat)=256*121 from rfl,Df a c 121 g];have d:=Dg 128 0 (a &&& 121) 0 ae ae;simp only[dT,Nat.or_self]at d;rw[show(32768:Nat)=256*128 from rfl,d];have e:=Dg (128 ||| (a &&& 121)) 0 0 (b%16) ae ae;simp only[dT,Nat.mul_zero,cT,Nat.or_zero,Nat.zero_or]at e;exact e
theorem NM:∀a:Nat,a<256->(128 ||| (a &&& 121)=jU a false false/\(128 ||| (a &&& 121)) ||| 4=jU a true false/\(128 ||| (a &&& 121)) ||| 2=jU a false true/\((128 ||| (a &&& 121)) ||| 4) ||| 2=jU a true true):=by decide +kernel
theorem Mk(a b c:Nat)(g:b<256)(e:Bool):lk (256*a+b) (256*c) e=256*(if e=true then a ||| c else a)+b:=by unfold lk;split;{have d:=Dg a b c 0 g ae;simp only[dT,Nat.or_zero]at d;exact d};{rfl}
theorem NN(a e c:Nat)(b d:Bool)(l:a<256)(g:e<256)(n:c<17):lk (lk (ky (256*a+e) c) 1024 b) 512 d=256*jU a b d+c%16:=by
 obtain⟨h,i,j,k⟩:=NM a l;rw[NL a e c g n,show(1024:Nat)=256*4 from rfl,Mk _ _ 4 ae b,show(512:Nat)=256*2 from rfl,Mk _ _ 2 ae d];generalize 128 ||| (a &&& 121)=o at *;cases b<;>cases d<;>simp only[pr,pA,gC];{rw[h]};{rw[j]};{rw[i]};{rw[k]}
theorem NO:∀a:Nat,a<256->∀b c:Bool,jU a b c<256:=by decide +kernel
theorem Ml{m:ah}(u:12<=m.length)(c d:Bool)(g i ap j k:Nat)(x:g<17):bv (ei (aG m 0) (lk (lk (ky (aG m 2) g) 1024 c) 512 d) i ap j k)=iu m c d g [i,ap,j,k]:=by
 match m,u with
 | b::e::a::h::n,_ =>{
 have y:=dt b;have z:=dt e;have l:=dt a;have w:=dt h;have t:aG (b::e::a::h::n) 2=256*a.toNat+h.toNat:=rfl;have r:aG (b::e::a::h::n) 0=256*b.toNat+e.toNat:=rfl;have A:=NO a.toNat l c d;rw[t,r,NN _ _ g c d l w x];unfold iu;have cU:ao (256*b.toNat+e.toNat)=b:=by unfold ao;rw[show(256*b.toNat+e.toNat)/256=b.toNat by omega];simp
 have o:aV (256*b.toNat+e.toNat)=e:=by{unfold aV;apply nG.1;rw[iZ];omega};have p:ao (256*jU a.toNat c d+g%16)=UInt8.ofNat (jU a.toNat c d):=by unfold ao;rw[show(256*jU a.toNat c d+g%16)/256=jU a.toNat c d by omega]
 have q:aV (256*jU a.toNat c d+g%16)=UInt8.ofNat (g%16):=by{unfold aV;apply nG.1;rw[iZ,iZ];omega};simp only[bv,ei,cq,eT,rj,cU,o,p,q,ir];rfl}
theorem Mm{m:ah}(e:12<=m.length)(a b ap c d:Nat)(g:a<17):bv (ei (aG m 0) (ky (aG m 2) a) b ap c d)=iu m false false a [b,ap,c,d]:=Ml e false false a b ap c d g
theorem LM:∀a:Nat,a<256->((a &&& 128≠0 ↔ 128<=a)/\(a &&& 120≠0 ↔ a/8%16≠0)):=by decide +kernel
theorem LN(m:ah):aG m 2 &&& 32768≠0 ↔ 128<=(m.getD 2 0).toNat:=by have a:=dt (m.getD 2 0);have b:=dt (m.getD 3 0);have:=(LM _ a).1;show(256*(m.getD 2 0).toNat+(m.getD 3 0).toNat) &&& (256*128)≠0 ↔ _;rw[Df _ _ 128 b,<- this];omega
theorem LO(m:ah):aG m 2 &&& 30720≠0 ↔ (m.getD 2 0).toNat/8%16≠0:=by have a:=dt (m.getD 2 0);have b:=dt (m.getD 3 0);have:=(LM _ a).2;show(256*(m.getD 2 0).toNat+(m.getD 3 0).toNat) &&& (256*120)≠0 ↔ _;rw[Df _ _ 120 b,<- this];omega
end Go.Proofs.YtkkpahmoljiepaaGreatDoor
