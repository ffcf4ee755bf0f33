import Derived.Test.YtkkpahmoljiepaaGreatDoorJ17
set_option maxRecDepth 1000000
set_option maxHeartbeats 12800000
set_option linter.unusedSimpArgs false
set_option linter.unusedVariables false
namespace Go.Proofs.YtkkpahmoljiepaaGreatDoor
open Go.RowKit Go.Proofs.Tryz
def wG(a:World)(b o:Nat)(r:aj):Prop:=∃d c,a.cell? (aq b o)=some d/\a.cell? (aq b (o+1))=some (ak r.aI)/\a.cell? (aq b (o+2))=some (ak r.type)/\a.cell? (aq b (o+3))=some (au r.data)/\a.cell? (aq b (o+4))=some c/\eY a d (aC 46 r.owner)/\eY a c (aC 32 r.data)
theorem wG.below{w g:World}{b o:Nat}{r:aj}(d:wG w b o r)(e:ax w g):wG g b o r:=by obtain⟨t,h,i,j,k,l,n,p,q⟩:=d;have a:∀(c:Addr) (v:Value),w.cell? c=some v->g.cell? c=some v:=fun c v d=>(e.cell (ef w c d)).trans d;exact⟨t,h,a _ _ i,a _ _ j,a _ _ k,a _ _ l,a _ _ n,p.below e,q.below e⟩
def oR(e:World)(c d:Nat)(b:List aj):Prop:=∀a (g:a<b.length),wG e c (d+a*5) b[a]
theorem oR.below{w c:World}{b a:Nat}{rs:List aj}(d:oR w b a rs)(e:ax w c):oR c b a rs:=fun h g=>(d h g).below e
def nC(b:World)(h:Nat)(o:ah)(a:List aj):Prop:=∃g c e d,b.heap[h]? = some (.cells #[g,.slice (some ⟨c,e,none⟩) a.length d] 117)/\eY b g (aC 46 o)/\a.length<=d/\oR b c e a
theorem nC.below{w d:World}{b:Nat}{o:ah}{rs:List aj}(h:nC w b o rs)(a:ax w d):nC d b o rs:=by obtain⟨n,e,l,g,c,i,j,k⟩:=h;exact⟨n,e,l,g,(a.block b (bn.1 c).1).trans c,i.below a,j,k.below a⟩
def nb(o:ah)(a:List aj):Prop:=o.length<=900/\a.length<=3001/\∀r∈a,r.owner.length<=900
theorem iz{s:ah}(a:s.length<=900):(aC 46 s).length<=1000:=by have:=iq 46 s;omega
theorem oS(s:ah):0<(aC 46 s).length:=by
 have:=io 46 s;cases a:aC 46 s with
 | nil=>exact absurd a this
 | cons b c=>simp
def eE(c:List aj)(b:List ah)(a:Int):Bool:=c.any fun r=>decide (aC 46 r.owner=b)&&(a==255||r.type==a)
theorem JE(p:aj->Bool)(b:List aj)(a:Nat)(c:a<b.length)(d:(b.take a).any p=false)(e:p b[a]=false):(b.take (a+1)).any p=false:=by rw[du c,List.any_append,d];simp[e]
theorem wH(h:Nat)(o:ah)(a:List aj)(x:Value)(c:List ah)(b:Int)(g:World)(F:nC g h o a)(t:nb o a)(E:eY g x c)(R:c.length<=1000):az 118 #[aO h,x,ak b] g (aP (.bool (eE a c b)) g):=by
 have K:=af E;have aa:=af F;obtain⟨ai,A,H,O,y,X,am,I⟩:=F;have S:=(bn.1 y).1;have M:=af I;have W:=af y;have ad:=t.2.1;have L:=af t;clear y X I E t;go_enter func118,ntmps118;go_wp2_with fail;go_loopw [7] (fun w wr=>∃k:Nat,k<=a.length/\w=ak k/\(a.take k).any (fun r=>decide (aC 46 r.owner=c)&&(b==255||r.type==b))=false/\ax g wr) (fun w _=>a.length-(intOf w).toNat);case atStart=>exact Cu
 case round =>(obtain⟨k,ac,rfl,l,e⟩:=hrel;have V:=af l;have q:=af e;have J:wr.cell? (aq h 1)=some (aF A H a.length O):=by{have:=(e.block h S).trans W;unfold World.cell?; rw[this];rfl};by_cases j:k<a.length;{have P:(k:Int)<(a.length:Int):=ae;obtain⟨U,rw',Z,ap,B,N,aK,b9,cm⟩:=((ag M) k j).below e;have D:=L.2.2 a[k] (bM j);have G:=af (JE (fun r=>decide (aC 46 r.owner=c)&&(b==255||r.type==b)) a k j l);have n:Hid ((decide (aC 46 a[k].owner=c)&&(b==255||a[k].type==b))=true->eE a c b=true):=fun Q=>hM.2 ⟨a[k],bM j,Q⟩;have z:=af (lJ U x (aC 46 a[k].owner) c wr b9 (K.below e) (iz D) R);generalize a[k]=r at *;clear ap N aK b9 cm l e D;go_wp2_with fail;refine z.mono ?_;rintro ab al ⟨rfl,i⟩;have bN:=af (q.trans (i.mono q.size));have Y:=(i.cell (p:=⟨h,1,none⟩) (ef _ _ J)).trans J;have JG:=(i.cell (p:=⟨A,H+k*5+2,none⟩) (ef _ _ B)).trans B;clear i z;cases d:decide (aC 46 r.owner=c);{have bz:Hid ((a.take (k+1)).any (fun r=>decide (aC 46 r.owner=c)&&(b==255||r.type==b))=false):=ag G (by show(decide (aC 46 r.owner=c)&&_)=false;rw[d];rfl);clear d;go_wp2;exact BQ};{rw[d]at n;cases u:(b==255);{rw[u]at n;cases C:(r.type==b);{have bz:Hid ((a.take (k+1)).any (fun r=>decide (aC 46 r.owner=c)&&(b==255||r.type==b))=false):=ag G (by show(decide (aC 46 r.owner=c)&&(b==255||r.type==b))=false;rw[d,u,C];rfl);clear d;go_wp2;exact BQ};{have bz:=af (n (by rw[C];rfl));clear d;go_wp2;go_ret;exact⟨cd bz.symm,bN⟩}};{have bz:=af (n (by rw[u];rfl));clear d;go_wp2;go_ret;exact⟨cd bz.symm,bN⟩}}};{have P:¬(k:Int)<(a.length:Int):=ae;have T:k=a.length:=ae;have bz:Hid (eE a c b=false):=by{have:=ag V;rw[T,dK]at this;exact this};clear l e;go_wp2;go_ret;exact⟨cd bz.symm,q⟩})
def qF(b a:Value)(r:aj):Value:=.agg #[b,ak r.aI,ak r.type,au r.data,a]
def nd(o:ah)(r:aj):Bool:=r.type==2 && !decide (aC 46 r.owner=aC 46 o)
theorem TM(d:Nat)(o:ah)(L:List aj)(r:aj)(c l:Value)(a:World)(J:nC a d o L)(H:o.length<=900)(C:eY a c (aC 46 r.owner))(I:r.owner.length<=900):az 185 #[aO d,qF c l r] a (aP (.bool (nd o r)) a):=by
 obtain⟨e,P,U,Q,n,E,V,M⟩:=J;have K:=(bn.1 n).1;obtain⟨b,h⟩:=a2 (a.alloc (.cells #[c,.int .i64 r.aI,.int .i64 r.type,.string (ai r.data),l] 119));have g:ax a b:=by rw[h];exact qx
 have hnew:b.heap[a.heap.size]? = some (.cells #[c,.int .i64 r.aI,.int .i64 r.type,.string (ai r.data),l] 119):=by rw[h];exact World.alloc_heap_new a _
 have y:b.cell? (aq a.heap.size 0)=some c:=by exact gA
 have G:b.cell? (aq a.heap.size 2)=some (ak r.type):=by exact gA
 have q:b.cell? (aq d 0)=some e:=by
  have:=(g.block d K).trans n;unfold World.cell?; rw[this];rfl
 have A:=(bn.1 hnew).1;have F:=af (fun u (z:ax b u)=>lJ c e (aC 46 r.owner) (aC 46 o) u ((C.below g).below z) ((E.below g).below z) (iz I) (iz H));have w:=af g;have N:=af h;have t:Hid (nd o r=(r.type==2 && !decide (aC 46 r.owner=aC 46 o))):=rfl;clear n E M C g hnew;generalize decide (aC 46 r.owner=aC 46 o)=bh at *;unfold qF;go_enter func185,ntmps185;go_upto_region 1 with fail;rw[<- h];clear h;have T:b.drew.cell? (aq a.heap.size 0)=some c/\b.drew.cell? (aq d 0)=some e:=⟨y,q⟩
 go_region_held (fun D=>D.cell? (aq a.heap.size 0)=some c/\D.cell? (aq d 0)=some e) (first|assumption|go_keep)
  (first|(go_at_call 117;go_loud (refine(F _ aE.drew).mono ?_;rintro R j ⟨rfl,i⟩;have S:j.cell? (aq a.heap.size 0)=some c/\j.cell? (aq d 0)=some e:=⟨(i.cell (p:=⟨a.heap.size,0,none⟩) A).trans y,(i.cell (p:=⟨d,0,none⟩) (ef _ _ q)).trans q⟩)))
 have wJ:=(i.cell (p:=⟨a.heap.size,2,none⟩) A).trans G;have O:j.cell? (aq a.heap.size 2)=some (ak r.type):=wJ;have x:Hid (ax a j):=w.trans ((show ax b j from(bk b.heap.size b).drew.trans i).mono w.size);clear i wJ;cases B:(r.type==2)
 ·have k:=af B;go_wp2;go_ret;exact⟨cd (by rw[ag t,ag k];rfl),x⟩
 ·have k:=af B;go_wp2;go_ret;exact⟨cd (by rw[ag t,ag k];simp),x⟩
def gr(s:ah):ah:=(aC 46 s).headD []
def A0(a h bh e g b oT c d:Bool):Bool:=if a&&h then false else if bh then(if e then false else g&&(!a||b))else !a || !oT||(c&&d)
def mE(o:ah)(r a:aj):Bool:=A0 (nd o a) (gr a.owner==[42]) (decide (aC 46 r.owner=aC 46 a.owner)) (r.type==a.type&&(r.data==a.data||(r.aI:Int) != (a.aI:Int))) (a.type != 5) (r.type==2) (gq (aC 46 r.owner) (aC 46 a.owner)) (r.type==1) (!(gr r.owner==[42]))
theorem JH{h:World}{v:Value}{s:ah}(j:eY h v (aC 46 s)):∃a b g c,v=aF a b (g+1) c/\g+1<=c/\h.cell? (aq a b)=some (au (gr s)):=by
 obtain⟨a,b,i,rfl,hc,e⟩:=j;have k:=io 46 s;unfold gr;cases d:aC 46 s with
 | nil=>exact absurd d k
 | cons n l =>{rw[d]at e hc;have:=e.2 0 am;rw[dT]at this;exact⟨a,b,l.length,i,rfl,sy,this⟩}
theorem TN(a b:ah):((ai a).toList==(ai b).toList)=(a==b):=I_ a b
theorem Ph(O:Nat)(o:ah)(ar:List aj)(r a:aj)(p t q h:Value)(b:World)(X:nC b O o ar)(aN:o.length<=900)(u:eY b p (aC 46 r.owner))(W:r.owner.length<=900)(j:eY b q (aC 46 a.owner))(K:a.owner.length<=900):az 120 #[aO O,qF p t r,qF q h a] b (aP (.bool (mE o r a)) b):=by
 obtain⟨g,n⟩:=a2 ((b.alloc (.cells #[p,.int .i64 r.aI,.int .i64 r.type,.string (ai r.data),t] 119)).alloc (.cells #[q,.int .i64 a.aI,.int .i64 a.type,.string (ai a.data),h] 119));have d:ax b g:=by rw[n];exact BB
 have aa:g.heap[b.heap.size]? = some (.cells #[p,.int .i64 r.aI,.int .i64 r.type,.string (ai r.data),t] 119):=by{rw [n]; exact (bx _ _ _ am).trans (World.alloc_heap_new b _)};have M:g.heap[b.heap.size+1]? = some (.cells #[q,.int .i64 a.aI,.int .i64 a.type,.string (ai a.data),h] 119):=by{rw [n];have:=World.alloc_heap_new (b.alloc (.cells #[p,.int .i64 r.aI,.int .i64 r.type,.string (ai r.data),t] 119)) (.cells #[q,.int .i64 a.aI,.int .i64 a.type,.string (ai a.data),h] 119);rwa [cv] at this};obtain ⟨z,y,N,L,rfl,aZ,G⟩:=JH u;obtain ⟨l,k,B,A,rfl,a0,H⟩:=JH j;have aM:=(bn.1 M).1
 have C:Hid (∀c,ax g c->(c.cell? (aq b.heap.size 0)=some (aF z y (N+1) L)/\c.cell? (aq b.heap.size 1)=some (ak r.aI)/\c.cell? (aq b.heap.size 2)=some (ak r.type)/\c.cell? (aq b.heap.size 3)=some (au r.data))/\(c.cell? (aq (b.heap.size+1) 0)=some (aF l k (B+1) A)/\c.cell? (aq (b.heap.size+1) 1)=some (ak a.aI)/\c.cell? (aq (b.heap.size+1) 2)=some (ak a.type)/\c.cell? (aq (b.heap.size+1) 3)=some (au a.data)/\c.cell? (aq (b.heap.size+1) 4)=some h)/\c.cell? (aq z y)=some (au (gr r.owner))/\c.cell? (aq l k)=some (au (gr a.owner))):=fun c e=>by{have aQ:=(e.block b.heap.size ae).trans aa;have aR:=(e.block (b.heap.size+1) aM).trans M;have T:=d.trans (e.mono d.size);refine⟨⟨?_,?_,?_,?_⟩,⟨?_,?_,?_,?_,?_⟩,(T.cell (ef _ _ G)).trans G,(T.cell (ef _ _ H)).trans H⟩;all_goals first|(unfold World.cell?; rw[aQ];rfl)|(unfold World.cell?; rw[aR];rfl)};have Q:=af (TM O o ar a (aF l k (B+1) A) h g (X.below d) aN (j.below d) K);have aB:=af (fun c (e:ax g c)=>lJ (aF z y (N+1) L) (aF l k (B+1) A) _ _ c ((u.below d).below e) ((j.below d).below e) (iz W) (iz K));have aD:=af (fun c (e:ax g c)=>wN (aF z y (N+1) L) (aF l k (B+1) A) _ _ c ((u.below d).below e) ((j.below d).below e) (iz W) (iz K) (oS a.owner));have i:=af d;have E:Hid (mE o r a=A0 (nd o a) (gr a.owner==[42]) (decide (aC 46 r.owner=aC 46 a.owner)) (r.type==a.type&&(r.data==a.data||(r.aI:Int) != (a.aI:Int))) (a.type != 5) (r.type==2) (gq (aC 46 r.owner) (aC 46 a.owner)) (r.type==1) (!(gr r.owner==[42]))):=rfl;have a5:=Bc (gr a.owner);have a4:=Bc (gr r.owner);have aV:=TN r.data a.data;clear aa M G H X u j d;generalize decide (aC 46 r.owner=aC 46 a.owner)=bh at *;generalize gq (aC 46 r.owner) (aC 46 a.owner)=oT at *;generalize nd o a=aH at *;generalize (gr a.owner==[42])=aW at *;generalize (gr r.owner==[42])=t7 at *;generalize gr a.owner=a3 at *;generalize gr r.owner=a1 at *;unfold qF at *;go_enter func120,ntmps120;go_wp2_with fail;rw[<- n];refine Q.mono ?_;rintro R aw ⟨rfl,J⟩;have aS:=af (C aw J);have x:=af J;obtain⟨⟨ab,ac,cK,cx⟩,⟨ad,al,an,ao,ap⟩,Y,Z⟩:=ag aS;clear J n Q;cases aH<;>cases aW;case true.true =>(go_wp2;go_ret;exact⟨cd (by rw[ag E];rfl),i.trans (x.mono i.size)⟩)
 all_goals(go_wp2_with fail;refine(aB aw x).mono ?_;rintro R ay ⟨rfl,U⟩;have w:=x.trans (U.mono x.size);have F:=af w;have aA:=af (i.trans (w.mono i.size));obtain⟨⟨ab,ac,cK,cx⟩,⟨ad,al,an,ao,ap⟩,Y,Z⟩:=ag C ay w;clear U w;cases bh;{go_wp2_with fail;refine(aD ay F).mono ?_;rintro R aX ⟨rfl,V⟩;have P:=F.trans (V.mono F.size);have aL:=af (i.trans (P.mono i.size));obtain⟨⟨ab,ac,cK,cx⟩,⟨ad,al,an,ao,ap⟩,Y,Z⟩:=ag C aX P;clear V P;cases oT<;>cases I:(r.type==1)<;>cases t7;all_goals(have D:=af I;go_wp2;go_ret;exact⟨cd (by rw[ag E,ag D];rfl),aL⟩)};{cases I:(r.type==a.type)<;>cases S:(r.data==a.data)<;>cases aI:((r.aI:Int) != (a.aI:Int))<;>cases aJ:(a.type != 5)<;>cases aK:(r.type==2);all_goals(rw[S]at aV;have D:=af I;have aU:=af S;have aY:=af aI;have aT:=af aJ;have aG:=af aK;go_wp2;go_ret;exact⟨cd (by rw[ag E,ag D,ag aU,ag aY,ag aT,ag aG];rfl),aA⟩)})
def pb(o:ah)(b:List aj)(a:Nat):Prop:=∀d:a<b.length,gq (aC 46 b[a].owner) (aC 46 o)=true/\¬(0<a/\b[a].type=6)/\∀c (e:c<b.length),c≠a->mE o b[a] b[c]=true
def mH(o:ah)(a:List aj):Prop:=(∃c:0<a.length,a[0].type=6/\aC 46 a[0].owner=aC 46 o)/\eE a (aC 46 o) 2=true/\∀b,pb o a b
def wK(o:ah)(c:List aj)(b:Ending):Prop:=∃a,b=.returned (.bool a)/\(a=true ↔ mH o c)
theorem wL{o:ah}{a:List aj}(b:¬mH o a):wK o a (.returned (.bool false)):=⟨false,rfl,by simp[b]⟩
theorem TO{o:ah}{a:List aj}(b:mH o a):wK o a (.returned (.bool true)):=⟨true,rfl,by simp[b]⟩
structure ahE(w:World)(b o:Nat)(vo eG:Value)(r:aj):Prop where
 c0:w.cell? (aq b o)=some vo
 c1:w.cell? (aq b (o+1))=some (ak r.aI)
 c2:w.cell? (aq b (o+2))=some (ak r.type)
 c3:w.cell? (aq b (o+3))=some (au r.data)
 c4:w.cell? (aq b (o+4))=some eG
theorem Pi{a b:World}{g h j k l n o p q r i:Addr}{t u x y z A B C D E w:Value}(Q:ax a b)(e:a.cell? g=some t/\a.cell? h=some u/\a.cell? j=some x/\a.cell? k=some y/\a.cell? l=some z/\a.cell? n=some A/\a.cell? o=some B/\a.cell? p=some C/\a.cell? q=some D/\a.cell? r=some E/\a.cell? i=some w):b.cell? g=some t/\b.cell? h=some u/\b.cell? j=some x/\b.cell? k=some y/\b.cell? l=some z/\b.cell? n=some A/\b.cell? o=some B/\b.cell? p=some C/\b.cell? q=some D/\b.cell? r=some E/\b.cell? i=some w:=by have c:∀(d:Addr) (v:Value),a.cell? d=some v->b.cell? d=some v:=fun d v e=>(Q.cell (ef a d e)).trans e;obtain⟨F,G,I,J,K,L,M,N,O,P,H⟩:=e;exact⟨c _ _ F,c _ _ G,c _ _ I,c _ _ J,c _ _ K,c _ _ L,c _ _ M,c _ _ N,c _ _ O,c _ _ P,c _ _ H⟩
theorem FW{P:Prop}(h:P:=by
 go_wp2_with fail
 go_loopg [8] rs.length (fun g2 pW wk=>∃(k:Nat),pW=ak k/\k+g2=rs.length/\(∀j (hj:j<rs.length),j<k->j≠i->mE o r rs[j]=true)/\Hid (ax W wk))
 case atStart=>exact⟨0,rfl,ae,fun j _ hj=>ae,hE⟩
 case round =>
  obtain⟨k,rfl,avd,Oe,xt⟩:=hrel;have aN:=af Oe;have uu:ax w wr:=sG.trans (xt.mono sG.size);have Ih:=af uu;obtain⟨y0,y1⟩:=ag KQ wr uu;clear Oe;by_cases hlk:k<rs.length
  ·have Q_:(k:Int)<(rs.length:Int):=ae;by_cases Dh:k=i
   ·have YQ:((k:Int)==(i:Int))=true:=by rw[dE];omega
    have Ii:=af Dh;clear Dh uu;go_wp2_with fail;go_quiet (fail);go_wp2_with fail
    go_roundg (rs.length-(k+1))
    case measure=>omega
    case rel=>exact⟨k+1,by first|rfl|go_num,ae,fun j hj hjk pY=>ag aN j hj (by have:=ag Ii;omega) pY,fm (ag xt) nq⟩
   ·have YQ:((k:Int)==(i:Int))=false:=by rw[eW];omega
    obtain⟨xo,xv,q,hq,⟨xa,iX,xc,rfl⟩,⟨ya,yn,rS,rfl⟩⟩:=ag RC wr uu k hlk;have iH:=a_.2.2 rs[k] (bM hlk);obtain⟨x,hx⟩:=a2 (rs[k]);rw[<- hx]at q hq iH;obtain⟨cU,d1,d2,d3,d4⟩:=q;obtain⟨e0,e1,e2,e3,e4⟩:=ag R5 wr (ag xt);rw[cT]at e1 e2 e3 e4;have Ij:=Ph zb o rs r x (.slice oa on oc) (.slice wa wn wc) (.slice xa iX xc) (.slice ya yn rS) wr.drew (dm.below uu.drew) gO ((mA wr xt).below aE.drew) hrl (hq.below aE.drew) iH;unfold qF at Ij;have SZ:=af Ij;have Bd:=af hx;have Ii:=af Dh;have hS:wr.drew.cell? (aq rb 0)=some (.slice oa on oc)/\wr.drew.cell? (aq rb 1)=some (ak r.aI)/\wr.drew.cell? (aq rb 2)=some (ak r.type)/\wr.drew.cell? (aq rb 3)=some (au r.data)/\wr.drew.cell? (aq rb 4)=some (.slice wa wn wc)/\wr.drew.cell? (aq zb 1)=some (aF b off rs.length cap)/\wr.drew.cell? (aq b (off+k*5))=some (.slice xa iX xc)/\wr.drew.cell? (aq b (off+k*5+1))=some (ak x.aI)/\wr.drew.cell? (aq b (off+k*5+2))=some (ak x.type)/\wr.drew.cell? (aq b (off+k*5+3))=some (au x.data)/\wr.drew.cell? (aq b (off+k*5+4))=some (.slice ya yn rS):=⟨e0,e1,e2,e3,e4,y1,cU,d1,d2,d3,d4⟩
    clear Dh Ij hq hx uu;go_wp2_with fail
    go_region_held (fun w'=>w'.cell? (aq rb 0)=some (.slice oa on oc)/\w'.cell? (aq rb 1)=some (ak r.aI)/\w'.cell? (aq rb 2)=some (ak r.type)/\w'.cell? (aq rb 3)=some (au r.data)/\w'.cell? (aq rb 4)=some (.slice wa wn wc)/\w'.cell? (aq zb 1)=some (aF b off rs.length cap)/\w'.cell? (aq b (off+k*5))=some (.slice xa iX xc)/\w'.cell? (aq b (off+k*5+1))=some (ak x.aI)/\w'.cell? (aq b (off+k*5+2))=some (ak x.type)/\w'.cell? (aq b (off+k*5+3))=some (au x.data)/\w'.cell? (aq b (off+k*5+4))=some (.slice ya yn rS)) (first|assumption|go_keep)(first|(go_at_call 120;go_loud (refine SZ.mono ?_;rintro e w5 ⟨rfl,hb5⟩;have fe:=Pi hb5 hS)))
    have oy:ax wr w5:=(bk wr.heap.size wr).drew.trans hb5;have fG:=af (xt.trans (oy.mono xt.size));have je:=af (Ih.trans (oy.mono Ih.size));clear hb5 fe hS oy;cases Di:mE o r x
    ·have Ik:=af Di;clear Di;go_wp2;go_ret;exact⟨ag SY (fun h=>by
      have h1:=(Ig h).2.2 k hlk (ag Ii);rw[<- ag Bd,ag Ik]at h1;cases h1),ag je⟩
    ·have Ik:=af Di;clear Di;go_wp2_with fail
     go_roundg (rs.length-(k+1))
     case measure=>omega
     case rel=>exact⟨k+1,by first|rfl|go_num,ae,fun j hj hjk pY=>by
      by_cases YR:j=k
      ·subst YR;rw[<- ag Bd];exact Ik
      ·exact aN j hj ae pY,ag fG⟩
  ·have Q_:¬(k:Int)<(rs.length:Int):=ae;have YS:=af (ag ahJ ⟨aL,YP,fun j hj pY=>ag aN j hj ae pY⟩);clear uu;go_wp2_with fail
   go_roundg (rs.length-(i+1))
   case measure=>omega
   case rel=>exact⟨i+1,by first|rfl|go_num,ae,fun j hj=>by
    by_cases pY:j=i
    ·subst pY;exact YS
    ·exact cB j ae,ag Ih⟩):P:=h
theorem T0(zb:Nat)(o:ah)(rs:List aj)(w:World)(aB:nC w zb o rs)(D:nb o rs)(V:0<rs.length):az 65 #[aO zb] w fun e w'=>wK o rs e/\ax w w':=by
 have dm:=af aB;obtain⟨d,b,off,cap,ab,aI,bj,aJ⟩:=aB;have Z:=(bn.1 ab).1;have a_:=af D;have gO:=D.1;have hrl:=D.2.1;have KQ:Hid (∀a,ax w a->a.cell? (aq zb 0)=some d/\a.cell? (aq zb 1)=some (aF b off rs.length cap)):=fun a c=>by
  have:=(c.block zb Z).trans ab;constructor<;>(unfold World.cell?; rw[this];rfl)
 have RC:Hid (∀a,ax w a->∀k (L:k<rs.length),∃n gw,ahE a b (off+k*5) n gw rs[k]/\eY a n (aC 46 rs[k].owner)/\(∃S aa y,n=.slice S aa y)/\∃S aa y,gw=.slice S aa y):=fun a c k L=>by
  obtain⟨n,gw,l,a7,E,a8,a9,aG,ba⟩:=(aJ k L).below c;refine⟨n,gw,⟨l,a7,E,a8,a9⟩,aG,?_,?_⟩
  ·obtain⟨aW,a6,y,h,_⟩:=aG;exact⟨_,_,_,h⟩
  ·obtain⟨aW,a6,y,h,_⟩:=ba;exact⟨_,_,_,h⟩
 have P:Hid (∀a,ax w a->eY a d (aC 46 o)):=fun a c=>aI.below c;have a4:=D.2.2 rs[0] (bM V);have bf:((rs.length:Int)==0)=false:=eP
 have bg:(0:Int)<(rs.length:Int):=ae;obtain⟨F,bd,q,hq,_,_⟩:=ag RC w aE 0 V;rw[i4,dT]at q;have l:=q.c0;have E:=q.c2;obtain⟨y0,y1⟩:=ag KQ w aE;have ay:=af hq;clear ab aI aJ D q hq;by_cases t:rs[0].type=6
 ·have Q:(rs[0].type != 6)=false:=by rw[bne_eq_false_iff_eq];exact t
  have R:=af t;have ad:=af (fun a (c:ax w a)=>lJ F d (aC 46 rs[0].owner) (aC 46 o) a (ay.below c) (P a c) (iz a4) (iz gO));have am:=af (fun a (c:ax w a)=>wH zb o rs d (aC 46 o) 2 a (dm.below c) (ag a_) (P a c) (iz gO));obtain⟨bb,A⟩:=a2 (rs[0].type);rw[<- A]at E Q;clear t A;go_enter func65,ntmps65;go_upto_region 3 with fail;have hS:w.drew.cell? (aq zb 0)=some d/\w.drew.cell? (aq zb 1)=some (aF b off rs.length cap)/\w.drew.cell? (aq b off)=some F:=⟨y0,y1,l⟩
  go_region_held (fun w'=>w'.cell? (aq zb 0)=some d/\w'.cell? (aq zb 1)=some (aF b off rs.length cap)/\w'.cell? (aq b off)=some F) (first|assumption|go_keep)
   (first|(go_at_call 117;go_loud (refine(ad _ aE.drew).mono ?_;rintro e u ⟨rfl,B⟩;have fe:u.cell? (aq zb 0)=some d/\u.cell? (aq zb 1)=some (aF b off rs.length cap)/\u.cell? (aq b off)=some F:=⟨(B.cell (p:=⟨zb,0,none⟩) Z).trans y0,(B.cell (p:=⟨zb,1,none⟩) Z).trans y1,(B.cell (p:=⟨b,off,none⟩) (ef _ _ l)).trans l⟩)))
  have I:ax w u:=(bk w.heap.size w).drew.trans B;obtain⟨y0,y1⟩:=ag KQ u I;have T:=af I;have an:=af (am u I);clear B I fe hS;have ac:Hid (mH o rs->decide (aC 46 rs[0].owner=aC 46 o)=true/\eE rs (aC 46 o) 2=true):=fun h=>⟨eC (by obtain⟨_,h1⟩:=h.1;exact h1.2),h.2.1⟩
  have aR:Hid (decide (aC 46 rs[0].owner=aC 46 o)=true->eE rs (aC 46 o) 2=true->(∀i,pb o rs i)->mH o rs):=fun h1 aZ a0=>⟨⟨V,R,qN h1⟩,aZ,a0⟩
  generalize decide (aC 46 rs[0].owner=aC 46 o)=bh at *;generalize eE rs (aC 46 o) 2=a3 at *;go_wp2_with fail;refine an.mono ?_;rintro e bi ⟨rfl,aA⟩;have G:=af (T.trans (aA.mono T.size));clear aA an am ad;cases bh
  ·go_wp2;go_ret;exact⟨wL (fun h=>by have:=(ac h).1;cases this),G⟩
  cases a3
  ·go_wp2;go_ret;exact⟨wL (fun h=>by have:=(ac h).2;cases this),G⟩
  go_wp2_with fail
  go_loopg [5] rs.length (fun aX bc wr=>∃(i:Nat),bc=ak i/\i+aX=rs.length/\(∀j,j<i->pb o rs j)/\Hid (ax w wr))
  case atStart=>exact⟨0,rfl,ae,fun j hj=>ae,G⟩
  case round =>
   obtain⟨i,rfl,be,aw,C⟩:=hrel;have cB:=af aw;obtain⟨y0,y1⟩:=ag KQ wr (ag C);clear aw ay l E T G;by_cases X:i<rs.length
   ·have aY:(i:Int)<(rs.length:Int):=ae;obtain⟨n,gw,q,hq,⟨oa,on,oc,rfl⟩,⟨wa,wn,wc,rfl⟩⟩:=ag RC wr (ag C) i X;have hrl:=a_.2.2 rs[i] (bM X);obtain⟨r,M⟩:=a2 (rs[i]);rw[<- M]at q hq hrl;obtain⟨z,ap,aT,aU,aK⟩:=q;obtain⟨W,J⟩:=a2 (wr.alloc (.cells #[(.slice oa on oc),.int .i64 r.aI,.int .i64 r.type,.string (ai r.data),(.slice wa wn wc)] 119));have U:ax wr W:=by rw[J];exact qx
    have Y:W.heap[wr.heap.size]? = some (.cells #[(.slice oa on oc),.int .i64 r.aI,.int .i64 r.type,.string (ai r.data),(.slice wa wn wc)] 119):=by rw[J];exact World.alloc_heap_new wr _
    have ao:=(bn.1 Y).1;have N:ax w W:=C.trans (U.mono C.size);have R5:Hid (∀a,ax W a->ahE a wr.heap.size 0 (.slice oa on oc) (.slice wa wn wc) r):=fun a c=>by
     have:=(c.block wr.heap.size ao).trans Y;constructor<;>(unfold World.cell?; rw[this];rfl)
    have sG:=af N;have mA:Hid (∀a,ax W a->eY a (.slice oa on oc) (aC 46 r.owner)):=fun a c=>(hq.below U).below c;have al:=af (fun a (c:ax W a)=>wN (.slice oa on oc) d (aC 46 r.owner) (aC 46 o) a (mA a c) (P a (N.trans (c.mono N.size))) (iz hrl) (iz gO) (oS o));have Ig:Hid (pb o rs i->gq (aC 46 r.owner) (aC 46 o)=true/\¬(0<i/\r.type=6)/\∀k (L:k<rs.length),k≠i->mE o r rs[k]=true):=fun h=>by rw[M];exact h X
    have ahJ:Hid ((gq (aC 46 r.owner) (aC 46 o)=true/\¬(0<i/\r.type=6)/\∀k (L:k<rs.length),k≠i->mE o r rs[k]=true)->pb o rs i):=fun h _=>by rw[<- M];exact h
    have SY:Hid (¬pb o rs i->wK o rs (.returned (.bool false))):=fun h=>wL (fun a1=>h (a1.2.2 i));clear Y U hq M N;go_upto_region 11 with fail;rw[<- J];clear J z ap aT aU aK;have aH:=ag R5 W aE;have z:=aH.c0;obtain⟨y0,y1⟩:=ag KQ W (ag sG);have hS:W.drew.cell? (aq wr.heap.size 0)=some (.slice oa on oc)/\W.drew.cell? (aq zb 0)=some d:=⟨z,y0⟩
    have aM:zb<W.heap.size:=ef _ _ y0
    go_region_held (fun w'=>w'.cell? (aq wr.heap.size 0)=some (.slice oa on oc)/\w'.cell? (aq zb 0)=some d) (first|assumption|go_keep)
     (first|(go_at_call 119;go_loud (refine(al _ aE.drew).mono ?_;rintro e O ⟨rfl,K⟩;have fe:O.cell? (aq wr.heap.size 0)=some (.slice oa on oc)/\O.cell? (aq zb 0)=some d:=⟨(K.cell (p:=⟨wr.heap.size,0,none⟩) ao).trans z,(K.cell (p:=⟨zb,0,none⟩) aM).trans y0⟩)))
    have H:ax W O:=(bk W.heap.size W).drew.trans K;have hE:=af H;have ar:=af (sG.trans (H.mono sG.size));have a5:=(R5 O H).c2;rw[cT]at a5;clear K hS fe H aH z y0 y1 al;generalize gq (aC 46 r.owner) (aC 46 o)=oT at *;generalize wr.heap.size=rb at *;cases oT
    ·go_wp2;go_ret;exact⟨ag SY (fun h=>by have:=(Ig h).1;cases this),ar⟩
    by_cases aD:0<i
    case' neg=>have aS:¬(0:Int)<(i:Int):=ae
    case' pos=>have aS:(0:Int)<(i:Int):=ae
    case pos =>
     by_cases g:r.type=6
     ·have aQ:(r.type==6)=true:=by rw[dE];exact g
      have aV:=af g;clear g;go_wp2;go_ret;exact⟨ag SY (fun h=>(Ig h).2.1 ⟨aD,aV⟩),ar⟩
     ·have aQ:(r.type==6)=false:=by rw[eW];exact g
      have YP:Hid (¬(0<i/\r.type=6)):=fun h=>g h.2;clear g;exact FW
    case neg =>
     have YP:Hid (¬(0<i/\r.type=6)):=fun h=>aD h.1;exact FW
   ·have aY:¬(i:Int)<(rs.length:Int):=ae;have aP:=af (ag aR aL aL (fun j hj=>ag cB j ae hj));go_wp2;go_ret;exact⟨TO (ag aP),C⟩
 ·have Q:(rs[0].type != 6)=true:=by rw[o9];exact t
  have R:=af t;obtain⟨bb,A⟩:=a2 (rs[0].type);rw[<- A]at E Q;clear t A;go_enter func65,ntmps65;go_wp2;go_ret;refine⟨wL ?_,bk _ _⟩;rintro⟨⟨_,h,_⟩,_⟩;have:=ag R;rw[h]at this
  revert this;decide
theorem JI{a:ah}(j:jh a=true):i5 a=true ↔ gr a=[42]:=by
 unfold gr;have n:=io 46 a;cases g:aC 46 a with
 | nil=>exact absurd g n
 | cons d w =>{
 unfold jh at j;rw[bW,g,jA,bW]at j;have c:=j.2.1;unfold l0 at c;rw[lN]at c;show i5 a=true ↔ d=[42];unfold i5 Lib.hasPrefix;rcases c with e|o;{
 have c:d≠[]:=by rintro rfl;simp[fA]at e
 have b:=wP g c;cases d with
 | nil=>exact absurd rfl c
 | cons t r =>{
 unfold fA at e;simp only[bW,nN]at e;have p:=e.2.1;have k:t≠42:=by rintro rfl;revert p;decide
 constructor;{
 intro i;cases a with
 | nil=>cases i
 | cons u q =>{simp at b;subst b;simp[List.isPrefixOf]at i;exact absurd i.symm k}};{intro l;exact absurd (rh l).1 k}}};{
 have h:d=[42]:=by simpa using o
 have b:=wP g (by rw[h];simp);rw[h]at b;refine⟨fun _=>h,fun _=>?_⟩;cases a with
 | nil=>simp at b
 | cons u q=>simp at b;subst b;simp[List.isPrefixOf]}}
theorem UN(o:ah)(b:aj):nd o b=true ↔ b.type=2/\b.owner≠o:=by unfold nd;rw[bW,dE,lS,ro];exact and_congr sY (not_congr ⟨fun a=>ru a,fun a=>by rw[a]⟩)
def qG(o:ah)(r a:aj):Prop :=
 (a.type=2/\a.owner≠o->gr a.owner≠[42]) /\
 (r.owner=a.owner->¬(r.type=a.type/\(r.data=a.data\/r.aI≠a.aI))/\a.type≠5/\(a.type=2/\a.owner≠o->r.type=2)) /\
 (r.owner≠a.owner->a.type=2/\a.owner≠o->dU r.owner a.owner=true->r.type=1/\gr r.owner≠[42])
theorem JJ(o:ah)(r a:aj):mE o r a=true ↔ qG o r a:=by unfold mE qG A0;rw[tH];have h:(aC 46 r.owner=aC 46 a.owner) ↔ r.owner=a.owner:=⟨fun b=>ru b,fun b=>by rw[b]⟩;have l:=UN o a;rw[<- l];have ao:((r.aI:Int)=(a.aI:Int)) ↔ r.aI=a.aI:=Int.ofNat_inj;by_cases c:r.owner=a.owner;{rw[eC (h.2 c)];cases nd o a<;>by_cases d:gr a.owner=[42]<;>by_cases e:r.type=a.type<;>by_cases g:r.data=a.data<;>by_cases i:r.aI=a.aI<;>by_cases j:a.type=5<;>by_cases k:r.type=2<;>(try simp[c,d,e,g,i,j,k,ao])<;>first|done|omega|(intros;omega)|simp_all};{rw[eD (fun b=>c (h.1 b))];cases nd o a<;>cases dU r.owner a.owner<;>by_cases d:gr a.owner=[42]<;>by_cases e:r.type=1<;>by_cases g:gr r.owner=[42]<;>simp[c,d,e,g]}
theorem A1(j:Nat):∀(d c:List aj),kl j c d=true ↔ (∀r∈d,r.aI=j)/\d.Pairwise (·≠·)/\∀r∈d,r ∉ c
 | [],c=>by simp[kl]
 | r::d,c=>by
  rw[kl,bW,bW,dE,A1 j d (c++[r]),lO];have o:(!c.any (r == ·))=true ↔ r ∉ c:=by{
  rw[lS,<- iU,hM];refine not_congr ⟨?_,fun n=>⟨r,n,am⟩⟩;rintro⟨q,p,he⟩;have:r=q:=sJ
  rw[this];exact p};rw[o];constructor;{rintro⟨⟨e,h⟩,i,g,k⟩;refine⟨fun b a=>?_,⟨fun b a l=>?_,g⟩,fun b a=>?_⟩;{rcases co.1 a with rfl|a;{exact e};{exact i b a}};{exact k b a (by rw[<- l];simp)};{rcases co.1 a with rfl|a;{exact h};{exact fun hc=>k b a (vC _ hc)}}};{
  rintro⟨e,⟨h,i⟩,g⟩;refine⟨⟨e r am,g r am⟩,fun b a=>e b (by simp[a]),i,fun b a hc=>?_⟩;rcases dv.1 hc with hc|hc;{exact g b (by simp[a]) hc};{
  have:b=r:=sy
  exact h b a this.symm}}
theorem JK(o:ah)(c:List aj):(∀a (ao:a<c.length) b (d:b<c.length),b≠a->qG o c[a] c[b]) ↔ c.Nodup/\∀i∈c,∀j∈c,i≠j->qG o i j:=by constructor;{intro g;refine⟨?_,fun i p j h n=>?_⟩;{rw[List.Nodup,vI];intro a r ao q t e;have h:=g a ao r q ae;rw[<- e]at h;exact(h.2.1 rfl).1 ⟨rfl,.inl rfl⟩};{obtain⟨a,ao,rfl⟩:=vE.1 p;obtain⟨b,d,rfl⟩:=vE.1 h;exact g a ao b d (by rintro rfl;exact n rfl)}};{rintro⟨k,g⟩ a ao b d n;refine g _ (bM ao) _ (bM d) fun e=>?_;rw[List.Nodup,vI]at k;rcases zO a b with l|l;{exact k a b ao d l e};{exact k b a d ao ae e.symm}}
theorem UO{F:List aj}(l:gD bF F):0<(gU F 2).length ↔ ∃a∈F,a.type=2:=by
 unfold gU;cases j:(be bH F).find? (fun a=>gu a==2)with
 | some a =>{
 have g:=th j;have k:=zB j;obtain⟨r,hr,c,e⟩:=(p5 l).1 a g;have i:r.type=2:=by{
 unfold gu at k;cases b:a.2 with
 | nil=>rw[b]at c;cases c
 | cons d o =>{
 rw[b]at c;have:d=r:=by simpa using c
 simp[b]at k;rw[<- this];exact k}};refine⟨fun _=>⟨r,hr,i⟩,fun _=>?_⟩;show 0<a.2.length;cases b:a.2 with
 | nil=>rw[b]at c;cases c
 | cons d o=>simp}
 | none =>{
 refine⟨fun h=>o5,?_⟩;rintro⟨r,hr,i⟩;obtain⟨a,b,e⟩:=(p5 l).2 r hr;have q:=zA.1 j a b;refine absurd ?_ q;have g:r∈a.2:=Cg
 unfold gu;cases n:a.2 with
 | nil=>rw[n]at g;cases g
 | cons d o =>{
 have p:d∈F.filter (bH r):=by rw[<- e,n];simp
 have:=(ev ((mB r d).1 (dg.1 p).2)).2;simp[<- this,i]}}
theorem UP{a:List aj}{b c:aj}(ha:b∈a)(hb:c∈a)(h:b≠c):1<a.length:=by
 match a,ha,hb with
 | [d],ha,hb =>{
 have e:b=d:=sL
 have g:c=d:=sx
 exact absurd (e.trans g.symm) h}
 | _::_::_,_,_=>simp
theorem A2(a:ah):dU a a=true:=by unfold dU;simp
section
variable {L:List aj} (hL:gD bF L) (hval : ∀ r∈L,jh r.owner=true) (o:ah)
structure YV(L:List aj)(o:ah):Prop where
 avi:∀r∈L,rf (L.filter (bH r))=true
 und:∀r∈L,dU r.owner o=true
 cn:∀r∈L,∀c∈L,c.owner=r.owner->c.type=5->¬1<(L.filter (di r)).length
 YW:∀r∈L,r.owner≠o->r.type=2->rE L r.owner=true
 ns:∃x∈L,x.owner=o/\x.type=2
include hL in
theorem JL:mO o L=true ↔ YV L o:=by unfold mO;rw[bW,bW,TK hL,TL hL (fun y x=>gv o L y x),J3 hL,jy];rw[UO (F:=L.filter (fun r=>r.owner==o)) (sR _ hL)];have j:∀r∈L,gv o L r.owner (L.filter (di r))=true ↔ dU r.owner o=true/\(∀g∈L,g.owner=r.owner->g.type=5->¬1<(L.filter (di r)).length)/\(r.owner=o\/(∀a∈L,a.owner=r.owner->a.type≠2)\/rE L r.owner=true):=by{intro r e;unfold gv;rw[bW,bW,and_assoc,lN,lN,dE,or_assoc];have l:∀k:Int,(L.filter (di r)).any (gt k)=true ↔ ∃a∈L,a.owner=r.owner/\a.type=k:=by{intro k;rw[hM];constructor;{rintro⟨a,c,d⟩;obtain⟨h1,b⟩:=dg.1 c;exact⟨a,h1,((le r a).1 b).symm,by unfold gt at d;simpa using d⟩};{rintro⟨a,c,h1,b⟩;exact⟨a,dg.2 ⟨c,(le r a).2 h1.symm⟩,by unfold gt;simpa using b⟩}};refine and_congr sY (and_congr ?_ (or_congr sY (or_congr ?_ sY)));{rw[lS,<- iU,bW,l,jy];constructor;{intro d g h h1 b h3;exact d ⟨⟨g,h,h1,b⟩,h3⟩};{rintro d ⟨⟨g,h,h1,b⟩,h3⟩;exact d g h h1 b h3}};{rw[lS,<- iU,l];constructor;{intro d a c h1 b;exact d ⟨a,c,h1,b⟩};{rintro d ⟨a,c,h1,b⟩;exact d a c h1 b}}};have u:(∃a∈L.filter (fun r=>r.owner==o),a.type=2) ↔ ∃a∈L,a.owner=o/\a.type=2:=by{constructor;{rintro⟨a,c,b⟩;obtain⟨h1,h3⟩:=dg.1 c;exact⟨a,h1,yM,b⟩};{rintro⟨a,c,h1,b⟩;exact⟨a,dg.2 ⟨c,qq⟩,b⟩}};rw[u];constructor;{rintro⟨h1,b,h3⟩;refine⟨h1,fun r e=>((j r e).1 (b r e)).1,fun r e=>((j r e).1 (b r e)).2.1,fun r e i w=>?_,h3⟩;rcases((j r e).1 (b r e)).2.2 with d|d|d;{exact absurd d i};{exact absurd w (d r e rfl)};{exact d}};{rintro⟨h1,b,h3,q,t⟩;refine⟨h1,fun r e=>(j r e).2 ⟨b r e,h3 r e,?_⟩,t⟩;by_cases i:r.owner=o;{exact .inl i};{by_cases c:∀a∈L,a.owner=r.owner->a.type≠2;{exact .inr (.inl c)};{refine .inr (.inr ?_);have:∃a∈L,a.owner=r.owner/\a.type=2:=nJ fun h=>c fun a c h1 b=>h ⟨a,c,h1,b⟩;obtain⟨a,c,n,p⟩:=this;have:=q a c (by rw[n];exact i) p;rw[n]at this;exact this}}}
include hL hval in
theorem JM(k:YV L o):L.Nodup/\∀b∈L,∀a∈L,b≠a->qG o b a:=by
 have z:∀r∈L,∃F,(∀i∈L,i.owner=r.owner->i.type=r.type->i.aI=F)/\(L.filter (bH r)).Pairwise (·≠·):=by{
 intro r u;have e:=k.avi r u;have A:=dg.2 ⟨u,(mB r r).2 rfl⟩;cases w:L.filter (bH r)with
 | nil=>rw[w]at A;cases A
 | cons x Q =>{rw[w]at e;unfold rf at e;obtain⟨H,I,_⟩:=(A1 x.aI (x::Q) []).1 e;refine⟨x.aI,fun i N q t=>H i ?_,I⟩;rw[<- w];exact dg.2 ⟨N,(mB r i).2 (rm q.symm t.symm)⟩}};have y:∀r∈L,i5 r.owner=false->gr r.owner≠[42]:=by{intro r u D p;rw[(JI (hval r u)).2 p]at D;cases D};refine⟨?_,fun b d a c B=>⟨?_,?_,?_⟩⟩;{rw[List.Nodup,vI];intro O P ao K G p;obtain⟨_,_,C⟩:=z _ (bM ao);rw[List.pairwise_filter,vI]at C;exact C O P ao K G ((mB _ _).2 rfl) (by rw[<- p];exact(mB _ _).2 rfl) p};{rintro⟨l,n⟩;have g:=(wF hL a.owner).1 (k.YW a c n l) a c (A2 _);exact y a c g.1};{intro h;refine⟨?_,?_,?_⟩;{rintro⟨E,j⟩;obtain⟨F,e,_⟩:=z b d;have q:=e b d rfl rfl;have t:=e a c h.symm E.symm;rcases j with j|j;{exact B (rm h (rm (q.trans t.symm) (rm E j)))};{exact j (q.trans t.symm)}};{intro J;exact k.cn a c a c rfl J (UP (dg.2 ⟨d,(le a b).2 h.symm⟩) (dg.2 ⟨c,(le a a).2 rfl⟩) B)};{rintro⟨l,n⟩;have g:=(wF hL a.owner).1 (k.YW a c n l) a c (A2 _);have:=g.2 b d h;exact kJ}};{intro h;rintro⟨l,n⟩ M;have g:=(wF hL a.owner).1 (k.YW a c n l) b d M;refine⟨?_,y b d g.1⟩;have:=g.2 b d rfl;simpa [h]using this}
include hL hval in
theorem UQ(D:L.Nodup)(g:∀z∈L,∀B∈L,z≠B->qG o z B)(W:∀r∈L,dU r.owner o=true)(R:∃a∈L,a.type=6)(G:∃a∈L,a.owner=o/\a.type=2):YV L o:=by
 have H:∀r∈L,gr r.owner≠[42]->i5 r.owner=false:=by{intro r d p;rw[<- iU];exact fun c=>p ((JI (hval r d)).1 c)};refine⟨fun r d=>?_,W,fun r d k c C Q n=>?_,fun r d V h=>?_,G⟩;{
 have i:(L.filter (bH r)).Nodup:=sR _ D;have u:∀a∈L.filter (bH r),a∈L/\a.owner=r.owner/\a.type=r.type:=by{intro a j;obtain⟨P,h⟩:=dg.1 j;obtain⟨N,O⟩:=ev ((mB r a).1 h);exact⟨P,N.symm,O.symm⟩};cases U:L.filter (bH r)with
 | nil=>rfl
 | cons e F =>{rw[U]at i u;unfold rf;refine(A1 e.aI (e::F) []).2 ⟨fun a j=>?_,i,fun _ _ c=>by cases c⟩;by_cases b:a=e;{rw[b]};{obtain⟨aa,ab,ac⟩:=u a j;obtain⟨X,Y,Z⟩:=u e am;have S:=((g a aa e X b).2.1 (ab.trans Y.symm)).1;exact nJ fun c=>S ⟨ac.trans Z.symm,.inr c⟩}}};{
 have i:(L.filter (di r)).Nodup:=sR _ D;have ad:=dg.2 ⟨c,(le r k).2 C.symm⟩;have T:∃l∈L.filter (di r),l≠k:=by{
 match hF:L.filter (di r)with
 | []=>rw[hF]at n;simp at n
 | [a]=>rw[hF]at n;simp at n
 | a::e::F =>{rw[hF]at i;by_cases b:a=k;{refine⟨e,am,?_⟩;rintro rfl;have:=(lO.1 i).1 e am;exact this b};{exact⟨a,am,b⟩}}};obtain⟨l,I,J⟩:=T;obtain⟨K,M⟩:=dg.1 I;exact((g l K k c J).2.1 (((le r l).1 M).symm.trans C.symm)).2.1 Q};{
 refine(wF hL r.owner).2 fun s p w=>?_;have hcut:r.type=2/\r.owner≠o:=⟨h,V⟩;constructor;{refine H s p ?_;by_cases b:s.owner=r.owner;{obtain⟨a,j,A⟩:=R;rw[b];exact(g a j r d (by rintro rfl;rw[h]at A;exact absurd A ba)).1 hcut};{exact((g s p r d (by rintro rfl;exact b rfl)).2.2 b hcut w).2}};{
 intro q x t;by_cases b:s.owner=r.owner;{rw[ay b];by_cases y:q=r;{rw[y];exact h};{exact((g q x r d y).2.1 (t.trans b)).2.2 hcut}};{
 rw[ar b];have E:q.owner≠r.owner:=by rw[t];exact b
 exact((g q x r d (by rintro rfl;exact E rfl)).2.2 E hcut (by rw[t];exact w)).1}}}
end
theorem JN(o:ah)(a:List aj)(hval:∀r∈a,jh r.owner=true):(mH o a/\a.length<=60) ↔ (mI o a&&mO o (aS a))=true:=by
 have E:=l_ a;have hL:=p4 a;have d:∀ {r:aj},r∈aS a ↔ r∈a:=E.mem_iff;have H:=fun r h=>hval r (d.1 h);rw[bW,JL hL];have Q:eE a (aC 46 o) 2=true ↔ ∃b∈a,b.owner=o/\b.type=2:=by{unfold eE;rw[hM];constructor;{rintro⟨b,e,c⟩;simp at c;exact⟨b,e,ru c.1,c.2⟩};{rintro⟨b,e,K,L⟩;exact⟨b,e,by simp[K,L]⟩}};unfold mH pb;rw[Q];constructor;{
 rintro⟨⟨⟨I,J,R⟩,q,F⟩,C⟩;have i:=(JK o a).1 fun g ao G B D=>(JJ o _ _).1 ((F g ao).2.2 G B D);have t:∀r∈a,dU r.owner o=true:=by{intro r h;obtain⟨g,ao,rfl⟩:=vE.1 h;have:=(F g ao).1;rw[tH]at this;exact this};refine⟨?_,UQ hL H o (E.nodup_iff.2 i.1) (fun u A w j=>i.2 u (d.1 A) w (d.1 j)) (fun r h=>t r (d.1 h)) ⟨a[0],d.2 (bM I),J⟩ ?_⟩;{
 cases a with
 | nil=>simp at I
 | cons r n =>{unfold mI;have x:r.owner=o:=ru R;have y:r.type=6:=J;have z:n.any (gt 6)=false:=by{rw[<- iU,hM];rintro⟨b,e,c⟩;obtain⟨g,ao,rfl⟩:=vE.1 e;refine(F (g+1) (by simpa using ao)).2.1 ⟨ae,?_⟩;unfold gt at c;simpa using c};simp only[x,y,z,eC C];simp}};{obtain⟨b,e,c⟩:=q;exact⟨b,d.2 e,c⟩}};{
 rintro⟨k,p⟩;have j:=JM hL H o p;have O:=E.nodup_iff.1 j.1;have P:=fun u A w N=>j.2 u (d.2 A) w (d.2 N);have i:=(JK o a).2 ⟨O,P⟩;have q:∃b∈a,b.owner=o/\b.type=2:=by{obtain⟨b,e,c⟩:=p.ns;exact⟨b,d.1 e,c⟩};have t:=fun r h=>p.und r (d.2 h);cases a with
 | nil=>cases k
 | cons r n =>{unfold mI at k;rw[bW,bW,bW,jy,dE,dE,lS,<- iU,hM]at k;obtain⟨C,⟨x,y⟩,z⟩:=k;refine⟨⟨⟨am,y,by show aC 46 r.owner=_;rw[x]⟩,q,fun g ao=>⟨?_,?_,fun G B D=>(JJ o _ _).2 (i g ao G B D)⟩⟩,C⟩;{rw[tH];exact t _ (bM ao)};{rintro⟨S,M⟩;obtain⟨l,rfl⟩:∃l,g=l+1:=⟨g-1,ae⟩;refine z ⟨n[l]'(by simpa using ao),bM _,?_⟩;unfold gt;have:(n[l]'(by simpa using ao)).type=6:=M;simp[this]}}}
theorem xn:prog.underlying 115=some (.slice 119):=aB
theorem A3:(prog.info? 119).map (fun a=>(a.zero,a.size,a.bytes))=some (some (.agg #[aJ,ak 0,ak 0,.string ⟨#[]⟩,aJ]),5,80):=aB
def rC(d:World)(a c b:Nat):Value:=(d.cell? (aq a (c+b*5+4))).getD (aJ)
def oU(g:World)(c d:Nat)(e:Value)(b:List aj)(a:Nat):List Value:=[e,ak (b[a]?.getD aj.zero).aI,ak (b[a]?.getD aj.zero).type,au (b[a]?.getD aj.zero).data,rC g c d a]
def p6(b:List aj)(d:List ah)(c:Int)(a:Nat):Bool:=decide (aC 46 (b[a]?.getD aj.zero).owner=d)&&(b[a]?.getD aj.zero).type==c
def fU(d:List aj)(c:List ah)(b:Int)(a:Nat):List Nat:=(List.range a).filter (p6 d c b)
def gd(b:List aj)(d:List ah)(c:Int):Nat->List Nat
 | 0=>[]
 | a+1=>gd b d c a++if c≠255/\c≠(a:Int)then []else if a=0 then []else fU b d a b.length
theorem JO(d:List aj)(c:List ah)(b:Int)(a:Nat):fU d c b (a+1)=fU d c b a++if p6 d c b a then [a]else []:=by unfold fU;rw[ti,kP];by_cases e:p6 d c b a=true<;>simp[e]
theorem JP(d:List aj)(c:List ah)(b:Int)(a:Nat):(fU d c b a).length<=a:=by unfold fU;exact aZ (nS _ _) am
theorem JQ(b:List aj)(c:List ah)(d:Int):∀a,(gd b c d a).length<=a*b.length
 | 0=>by simp[gd]
 | a+1=>by rw[gd,a6,Nat.succ_mul];have:=JQ b c d a;have e:=JP b c a b.length;split;{simp;omega};{split;{simp;omega};{omega}}
theorem UR(c:World)(j:Nat)(l:j=c.heap.size)(d e g h i:Value)(k:TypeId):∀(a:Nat) (b:Value),[d,e,g,h,i][a]? = some b->(c.alloc (.cells #[d,e,g,h,i] k)).cell? (((aq j 0):Addr).add a)=some b:=fun a b n=>by
 subst l;exact World.news_of_block (World.alloc_heap_new c (.cells #[d,e,g,h,i] k)) a b n
theorem US(c d:Option Addr)(i e j g:Nat)(k l:Int)(h:ByteArray):∀b∈[Value.slice c i e,ak k,ak l,.string h,.slice d j g],b.oneCell'=true:=by intro b a;simp at a;rcases a with rfl|rfl|rfl|rfl|rfl<;>rfl
theorem Fi{P:Prop}(h:P:=by have h4:=ag ic;rw[h3]at h4;exact(by simpa using h4:fU rs ns kn (i+1)=_)):P:=h
theorem DP{P:Prop}(h:P:=by{have h3:=ag CN;rw[hs,en]at h3;exact Fi}):P:=h
theorem UT(A:Nat)(o:ah)(rs:List aj)(W:Value)(g:Option Addr)(j h:Nat)(ns:List ah)(b:Int)(a:World)(c d G:Nat)(bp:Value)(X:a.heap[A]? = some (.cells #[bp,.slice (some ⟨c,d,none⟩) rs.length G] 117))(bR:rs.length<=G)(aQ:oR a c d rs)(R:nb o rs)(aB:eY a W ns)(bb:ns.length<=1000):az 237 #[aO A,W,ak b,.slice g j h] a fun ac aL=>(∃v,ac=.returned v/\aL.ownsRow a.heap.size 119 5 v (gd rs ns b 17).length ((gd rs ns b 17).flatMap (oU a c d (.slice g j h) rs)))/\ax a aL:=by
 obtain⟨bh,bi,be,bf,bg⟩:=fO A3;have aD:=(bn.1 X).1;have aR:=af aB;have a1:=af aQ;have aI:=af X;have bj:=R.2.1;have aW:=af R;clear X aQ aB R;go_enter func237,ntmps237;go_wp2_with fail;go_loopw [9,10] (fun F n wr=>∃kn:Nat,1<=kn/\kn<=17/\n=ak kn/\(∃e E C,F=.slice e E C)/\wr.ownsRow a.heap.size 119 5 F (gd rs ns b kn).length ((gd rs ns b kn).flatMap (oU a c d (.slice g j h) rs))/\ax a wr) (fun _ n _=>17-(intOf n).toNat);case atStart =>(
 refine⟨1,ae,ae,rfl,⟨_,_,_,rfl⟩,?_,bk _ _⟩;have:gd rs ns b 1=[]:=by simp[gd]
 rw[this];exact⟨rfl,.inl ⟨rfl,rfl⟩⟩)
 case round =>(
 obtain⟨kn,bH,bs,rfl,⟨bu,bw,bv,rfl⟩,D,l⟩:=hrel;have t:=af D;have p:=af l;clear D l;by_cases bK:kn<17;{
 have a8:(kn:Int)<17:=ae;have bI:=JQ rs ns b kn;have bN:kn*rs.length<=17*3001:=Nat.mul_le_mul ae bj;by_cases u:b≠255/\b≠(kn:Int);{
 have h1:(b != 255)=true:=by simpa using u.1
 have P:(b != (kn:Int))=true:=by simpa using u.2
 have H:gd rs ns b (kn+1)=gd rs ns b kn:=by rw[gd,ay u,eu]
 clear u;go_wp2_with fail;refine⟨⟨kn+1,ae,ae,bq,⟨_,_,_,rfl⟩,by rw[H];exact t,p⟩,ci⟩};{
 have H:gd rs ns b (kn+1)=gd rs ns b kn++fU rs ns kn rs.length:=by rw[gd,ar u,ar ae]
 have a5:=af H;clear H;have bo:(b != 255)=false\/((b != 255)=true/\(b != (kn:Int))=false):=by{by_cases h1:b=255;{left;simp[h1]};{right;have P:=nJ fun y=>u ⟨h1,y⟩;exact⟨qq,by simp[P]⟩}};clear u;generalize gd rs ns b kn=x at *;rcases bo with h1|⟨h1,P⟩;all_goals(
 go_wp2_with fail;go_loopw [9,11] (fun F S aP=>∃i:Nat,i<=rs.length/\S=ak i/\(∃e E C,F=.slice e E C)/\aP.ownsRow a.heap.size 119 5 F (x++fU rs ns kn i).length ((x++fU rs ns kn i).flatMap (oU a c d (.slice g j h) rs))/\ax a aP) (fun _ S _=>rs.length-(intOf S).toNat);case atStart =>(refine⟨0,ae,rfl,⟨_,_,_,rfl⟩,?_,p⟩;have:fU rs ns kn 0=[]:=rfl;rw[this,eu];exact t)
 case round =>(
 clear t p;obtain⟨i,ao,rfl,⟨bx,bL,bz,rfl⟩,D,l⟩:=hrel;have t:=af D;have p:=af l;have br:wr.cell? (aq A 1)=some (aF c d rs.length G):=by{have:=(l.block A aD).trans aI;unfold World.cell?; rw[this];rfl};by_cases L:i<rs.length;{
 have aX:(i:Int)<(rs.length:Int):=ae;obtain⟨bl,gw,Z,ap,aa,ab,aK,b9,cm⟩:=(ag a1) i L;have aw:=aW.2.2 rs[i] (bM L);have Y:=af (lJ bl W (aC 46 rs[i].owner) ns wr (b9.below l) (aR.below l) (iz aw) bb);have aY:Hid (oU a c d (.slice g j h) rs i=[.slice g j h,ak rs[i].aI,ak rs[i].type,.string (ai rs[i].data),gw]):=by{unfold Hid oU rC;rw[aK,dV L];rfl};have CN:Hid (p6 rs ns kn i=(decide (aC 46 rs[i].owner=ns)&&rs[i].type==(kn:Int))):=by{unfold Hid p6;rw[dV L];rfl};have ic:=af (JO rs ns kn i);obtain⟨V,M,U,rfl,_,_⟩:=cm;obtain⟨aS,aU,aV,rfl,_,_⟩:=b9;generalize a0:(aC 32 rs[i].data).length=O at *;have T:∀(k:World),ax a k->k.cell? (aq c (d+i*5))=some (aF aS aU (aC 46 rs[i].owner).length aV)/\k.cell? (aq c (d+i*5+1))=some (ak rs[i].aI)/\k.cell? (aq c (d+i*5+2))=some (ak rs[i].type)/\k.cell? (aq c (d+i*5+3))=some (.string (ai rs[i].data))/\k.cell? (aq c (d+i*5+4))=some (aF V M O U)/\k.cell? (aq A 1)=some (aF c d rs.length G):=fun k an=>by{have n:∀(e:Addr) (v:Value),a.cell? e=some v->k.cell? e=some v:=fun e v al=>(an.cell (ef a e al)).trans al;refine⟨n _ _ Z,n _ _ ap,n _ _ aa,n _ _ ab,n _ _ aK,?_⟩;have:=(an.block A aD).trans aI;unfold World.cell?; rw[this];rfl};have bm:=af T;have cU:=(T wr l).1;clear Z ap aa ab aK T D l aw a0;generalize rs[i]=r at *;go_wp2_with fail;refine Y.mono ?_;rintro ac K ⟨rfl,Q⟩;have q:=af (p.trans (Q.mono p.size));have J:=af (eg (ag t) Q);obtain⟨bB,bC,bD,bE,bF,bG⟩:=ag bm K (ag q);clear Q Y cU br;cases hs:decide (aC 46 r.owner=ns);{have B:Hid (fU rs ns kn (i+1)=fU rs ns kn i):=by{have h3:=ag CN;rw[hs]at h3;exact Fi};clear hs;go_wp2;exact⟨⟨i+1,ae,bq,⟨_,_,_,rfl⟩,by rw[ag B];exact J,q⟩,ci⟩};{
 cases en:(r.type==(kn:Int));{have B:Hid (fU rs ns kn (i+1)=fU rs ns kn i):=DP;clear hs;go_wp2;exact⟨⟨i+1,ae,bq,⟨_,_,_,rfl⟩,by rw[ag B];exact J,q⟩,ci⟩};{
 have B:Hid (fU rs ns kn (i+1)=fU rs ns kn i++[i]):=DP;clear hs;have bt:(x++fU rs ns kn i).length<=60000:=by{have:=JP rs ns kn i;rw[a6];omega};have bA:=q.size;go_wp2_with (at_builtin;go_loud (refine oe _ rfl (.tmp 66) (.tmp 68) 115 rfl a.heap.size 119 bh (.agg #[aJ,ak 0,ak 0,.string ⟨#[]⟩,aJ]) 5 80 xn bi be bf bg rfl ba _ (x++fU rs ns kn i).length _ rfl (eg (ag J) ((aE.alloc av _).alloc am _)) (aq (K.heap.size+1) 0) 1 1 [.slice g j h,ak r.aI,ak r.type,au r.data,aF V M O U] rfl rfl (UR _ _ am _ _ _ _ _ _) (US _ _ _ _ _ _ _ _ _) gW ae aA ?_));intro aH aM aN z bc a9;have N:aM.ownsRow a.heap.size 119 5 aH (x++fU rs ns kn (i+1)).length ((x++fU rs ns kn (i+1)).flatMap (oU a c d (.slice g j h) rs)):=by{rw[ag B,<- c_,a6,jt];have : [i].flatMap (oU a c d (.slice g j h) rs)=[.slice g j h,ak r.aI,ak r.type,au r.data,aF V M O U]:=by{rw[eT,rj,eu];exact aY};rw[this,a6,jt,c_];exact aN};have aG:ax a aM:=⟨z.os.trans q.os,z.tape.trans q.tape,z.output.trans q.output,aZ aA z.size,fun I bd=>by{
 refine(z.block I aA (fun y=>?_)).trans ?_;{
 obtain⟨_,⟨w,_⟩|⟨ad,a3,a4,w,bJ,_⟩⟩:=ag J;{rw[w]at y;cases y};{
 rw[w]at y;have:I=ad:=by simpa [Value.ownBlock]using y
 omega}};{exact(((bk K.heap.size K).alloc av _).alloc am _).block I ae |>.trans (q.block I bd)}}⟩
 have a2:=af aG;have a7:=af N;obtain⟨bP,bQ,bO,rfl⟩:∃e E C,aH=.slice e E C:=by{obtain⟨_,⟨w,_⟩|⟨ad,a3,a4,w,_⟩⟩:=N;{exact⟨_,_,_,w⟩};{exact⟨_,_,_,w⟩}};clear aN z bc a9 N aG;go_wp2;exact⟨⟨i+1,ae,bq,⟨_,_,_,rfl⟩,a7,a2⟩,ci⟩}}};{have aX:¬(i:Int)<(rs.length:Int):=ae;have aT:i=rs.length:=ae;subst aT;go_wp2_with fail;refine⟨⟨kn+1,ae,ae,bq,⟨_,_,_,rfl⟩,by rw[ag a5];exact t,p⟩,ci⟩}))}};{have a8:¬(kn:Int)<17:=ae;have a_:kn=17:=ae;subst a_;go_wp2;go_ret;exact⟨⟨_,rfl,t⟩,p⟩})
def xp(b:List aj)(c:ah)(a:Nat):aj:=(c,(b[a]?.getD aj.zero).aI,(b[a]?.getD aj.zero).type,(b[a]?.getD aj.zero).data)
theorem UU(g:List aj)(e:List ah)(d:Int)(b c:Nat)(a:c∈fU g e d b):c<b:=by unfold fU at a;exact vG.1 (dg.1 a).1
theorem JR(d:List aj)(e:List ah)(g:Int):∀c,∀b∈gd d e g c,b<d.length
 | 0,b,a=>by simp[gd]at a
 | c+1,b,a=>by rw[gd,dv]at a;rcases a with a|a;{exact JR d e g c b a};{split at a;{cases a};{split at a;{cases a};{exact UU _ _ _ _ _ a}}}
def lr(a:UInt8):UInt8:=if a=80 then 46 else a
def xq(a:UInt8):UInt8:=if a=46 then 80 else a
def aY(t:ah):List ah:=(aC 46 t).map (List.map lr)
theorem xr:∀(f:Nat) (c:ah),c.length<=f->∀d∈aC 46 c,(46:UInt8) ∉ d/\∀e∈d,e∈c
 | f,c,a,d,b=>by
  rcases hP 46 c with⟨i,h⟩|⟨n,l,g,i,h⟩;{
  rw[h]at b;obtain rfl:d=c:=by simpa using b
  exact⟨i,fun _ a=>a⟩};{
  rw[h]at b;rcases co.1 b with rfl|b;{exact⟨i,fun e j=>by rw[g];exact vC _ j⟩};{
  match f,a with
  | 0,a=>rw[g]at a;simp at a
  | f+1,a =>{have k:=xr f l (by rw[g]at a;simp at a;omega) d b;exact⟨k.1,fun e j=>by rw[g];exact zI _ (fs _ (k.2 e j))⟩}}}
theorem AM:∀(f:Nat) (c:ah) (d:UInt8),c.length<=f->d∈c->d=46\/∃i∈aC 46 c,d∈i
 | f,c,d,b,h=>by
  rcases hP 46 c with⟨_,e⟩|⟨j,k,g,_,e⟩;{exact .inr ⟨c,by rw[e];simp,h⟩};{
  rw[g]at h;rcases dv.1 h with a|a;{exact .inr ⟨j,by rw[e];simp,a⟩};{
  rcases co.1 a with a|a;{exact .inl a};{
  match f,b with
  | 0,b=>rw[g]at b;simp at b
  | f+1,b =>{rcases AM f k d (by rw[g]at b;simp at b;omega) a with a|⟨i,h1,h2⟩;{exact .inl a};{exact .inr ⟨i,by rw[e];exact fs _ h1,h2⟩}}}}}
theorem lu(a:ah):(aY a).length=(aC 46 a).length:=by simp[aY]
theorem xu(a:ah):aY a≠[]:=fun b=>io 46 a (by simpa [aY]using b)
theorem t8(a:ah):(aY a).map (List.map xq)=aC 46 a:=by
 unfold aY;rw[fT];conv=>rhs;rw[<- pw (aC 46 a)]
 refine hN (fun b j=>?_);have g:=(xr _ a av b j).1;show(b.map lr).map xq=b;rw[fT];conv=>rhs;rw[<- pw b]
 refine hN (fun c h=>?_);show xq (lr c)=c;have i:c≠46:=fun d=>g (d ▸ h);unfold lr;split;{rename_i e;subst e;rfl};{unfold xq;rw[ar i]}
theorem rD{a b:ah}(c:aY a=aY b):a=b:=ru (by rw[<- t8 a,<- t8 b,c])
theorem JS{a b:ah}: aY a=aY b ↔ a=b:=⟨rD,fun c=>by rw[c]⟩
theorem lv{t:ah}(d:(80:UInt8) ∉ t):aY t=aC 46 t:=by
 unfold aY;conv=>rhs;rw[<- pw (aC 46 t)]
 refine hN (fun a g=>?_);show a.map lr=a;conv=>rhs;rw[<- pw a]
 refine hN (fun b e=>?_);have:b≠80:=fun c=>d (c ▸ (xr _ t av a g).2 b e);unfold lr;rw[ar this];rfl
theorem bh{r n:ah}(a:(80:UInt8) ∉ r):aC 46 r=aY n ↔ r=n:=by rw[<- lv a];exact JS
theorem UV(b o:ah)(c:Nat):(aY b).drop c=aY o ↔ (aC 46 b).drop c=aC 46 o:=by constructor;{intro a;rw[<- t8 b,<- t8 o,<- a,tf]};{intro a;unfold aY;rw[<- a,tf]}
theorem oT(a o:ah):gq (aY a) (aY o)=dU a o:=by rw[<- tH];unfold gq;rw[lu,lu,i0];simp only[bW,jy,UV]
theorem AN{r:ah}(b:(80:UInt8) ∉ r)(a:ah):gq (aC 46 r) (aY a)=dU r a:=by rw[<- lv b];exact oT r a
theorem UW{o:ah}(b:(80:UInt8) ∉ o)(a:ah):gq (aY a) (aC 46 o)=dU a o:=by rw[<- lv b];exact oT a o
theorem UX(a:ah):aY (42::46::a)=[42]::aY a:=by unfold aY;have:aC 46 (42::46::a)=[42]::aC 46 a:=Bf 46 a [42];rw[this];rfl
end Go.Proofs.YtkkpahmoljiepaaGreatDoor
