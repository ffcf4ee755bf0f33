import Derived.Test.YtkkpahmoljiepaaGreatDoorJ06
set_option maxRecDepth 1000000
set_option maxHeartbeats 12800000
set_option linter.unusedSimpArgs false
set_option linter.unusedVariables false
namespace Go.Proofs.YtkkpahmoljiepaaGreatDoor
open Go.RowKit Go.Proofs.Tryz
def z_(l:FuncId)(n:Value)(h:ah):Prop:=∀(c b:Nat) (i j:Value) (d:ah) (a:World),bJ a c i j->dA a b i d->b<=a.heap.size->d.length+h.length<=1000000 ->
 az l #[n,aO c] a fun k e=>k=.returned (.tuple #[])/\(∃g,bJ e c g j/\dA e b g (d++h))/\lK c b a e
structure kR where
 t:TypeId
 x:Value
 fn:FuncId
 out:ah
def kR.ry (f : kR) : Prop := (∀ a : World, (method 521 f.t f.x "beacon/wire.writeTo").run prog a = .ok (f.fn, f.x) a) ∧ (∀ (b : Array Value) (a : World), (callFunc f.fn b).run prog a = .ok (.enter f.fn b) a) ∧ z_ f.fn f.x f.out
def bv(a:List kR):ah:=a.flatMap (·.out)
theorem Hl(a:List kR)(b:Nat)(c:b<a.length):bv (a.take (b+1))=bv (a.take b)++a[b].out:=by rw[bv,du c,jt];simp[bv]
theorem QF(a:List kR)(b:Nat):(bv (a.take b)).length<=(bv a).length:=by
 have:bv a=bv (a.take b)++bv (a.drop b):=by rw[bv,bv,bv,<- jt,ft]
 rw[this];simp
theorem ta(e c g D:Nat)(a:List kR)(y p:Value)(o:ah)(w:World)(h:bJ w e y p)(j:dA w c y o)(Z:c<=w.heap.size)(C:∀f∈a,f.ry) (V:g<w.heap.size) (W:g≠e) (B:g<c\/∀R,w.heap[g]?≠some (.cells R 5 (0,0))) (I:∀n (aa:n<a.length),w.cell? (aq g n)=some (.iface a[n].t a[n].x))(aj:a.length<=D) (ab:a.length<=1000000) (ai:o.length+(bv a).length<=1000000):az 139 #[aO e,aF g 0 a.length D] w fun E z=>E=.returned (.tuple #[])/\(∃d,bJ z e d p/\dA z c d (o++bv a))/\lK e c w z:=by
 have S:=af h;have N:=af j;have Q:=af C;have L:=af I;have M:=af B;clear h j C I B;go_enter func139,ntmps139;go_wp2_with fail;go_loopw [8] (fun i wr=>∃(b:Nat) (d:Value),i=ak b/\b<=a.length/\bJ wr e d p/\dA wr c d (o++bv (a.take b))/\lK e c w wr) (fun i _=>a.length-(intOf i).toNat);case atStart=>exact⟨0,y,rfl,b6 _,S,by simpa [bv]using ag N,lK.refl _ _ _⟩
 case round =>(obtain⟨b,d,rfl,ad,h,j,u⟩:=hrel;have J:=af h;have K:=af j;have x:=af u;have al:=u.size;clear h j u;by_cases l:b<a.length;{have ac:=(b7 (w:=w) (x.block g V W (ag M))).trans (L b l);have k:=ag Q a[b] (bM l);have P:=af (Hl a b l);have F:=af (QF a (b+1));rw[Hl a b l,a6]at F;generalize a[b]=f at *;have Y:=k.1;have X:=k.2.1;have A:=af (k.2.2 e c d p _ wr (ag J) (ag K) ae (by rw[a6];have:=ag F;omega));clear k;go_wp2_with fail;refine A.mono ?_;rintro E am ⟨rfl,⟨O,G,t⟩,H⟩;rw[c_,<- ag P]at t;have q:=af (aQ G (aQ t (x.trans H)));clear G t H A;go_wp2;exact⟨⟨b+1,O,bq,ae,q.1,q.2.1,q.2.2⟩,ci⟩};{have T:b=a.length:=ae;subst T;have r:=ag K;rw[dK]at r;have U:=af r;clear r;go_wp2;refine iI (v:=.tuple #[]) (by simp[results,results139]) rfl ?_;exact⟨rfl,⟨d,J,U⟩,x⟩})
def gc(c:UInt8):kR:=⟨292,.int .u8 c.toNat,341,[c]⟩
def bE(s:ah):kR:=⟨224,au s,336,s⟩
theorem QG (b : Int) (a : World) : (method 521 292 (.int .u8 b) "beacon/wire.writeTo").run prog a = .ok (341, .int .u8 b) a := by kernel_rfl
theorem QH (s : ByteArray) (a : World) : (method 521 224 (.string s) "beacon/wire.writeTo").run prog a = .ok (336, .string s) a := by kernel_rfl
theorem QI(b:Array Value)(a:World):(callFunc 341 b).run prog a=.ok (.enter 341 b) a:=aB
theorem QJ(b:Array Value)(a:World):(callFunc 336 b).run prog a=.ok (.enter 336 b) a:=aB
theorem mj(c:UInt8):(gc c).ry :=
 ⟨QG _,QI,fun i a j k h l e g b d=>QD i a c j k h l e g b (by simp[gc]at d;omega)⟩
theorem fu(s:ah):(bE s).ry :=
 ⟨QH _,QJ,fun h b i j g k d e c a=>QE h b s i j g k d e c (by simp[bE]at a;omega) (by simp[bE]at a;omega)⟩
def ao(n:Nat):UInt8:=UInt8.ofNat (n/256)
def aV(a:Nat):UInt8:=UInt8.ofNat a
def cq(a:Nat):kR:=⟨284,.int .u16 a,337,[ao a,aV a]⟩
theorem QK (b : Int) (a : World) : (method 521 284 (.int .u16 b) "beacon/wire.writeTo").run prog a = .ok (337, .int .u16 b) a := by kernel_rfl
theorem QL(b:Array Value)(a:World):(callFunc 337 b).run prog a=.ok (.enter 337 b) a:=aB
theorem QM(a:Nat)(H:a<65536):z_ 337 (.int .u16 a) [ao a,aV a]:=by
 intro e b D w u g d r E B;have A:=af d;have x:=af r;have C:=d.lt;clear d r;go_enter func337,ntmps337;go_wp2_with fail;have k:(a:Int)/256=((ao a).toNat:Int):=BM
 have l:(a:Int)%256=((aV a).toNat:Int):=Cv
 rw[k,l];have hnew:=World.alloc_heap_new g (.cells #[.iface 292 (.int .u8 (ao a).toNat),.iface 292 (.int .u8 (aV a).toNat)] 297);refine(ta e b g.heap.size 2 [gc (ao a),gc (aV a)] D w u _ ((bx _ _ _ C).trans A) (x.alloc _) aA ?_ am ae (.inr ?_) ?_ am am ?_).mono ?_;{intro f q;simp at q;rcases q with rfl|rfl<;>exact mj _};{intro F h;exact yg};{
 intro t c;match t,c with
 | 0,_=>exact gA
 | 1,_=>exact gA
 | t+2,c=>simp at c;omega};{simp[bv,gc]at B ⊢; omega};rintro G i ⟨rfl,⟨y,n,o⟩,p⟩;have z:Hid ((∃j,bJ i e j w/\dA i b j (u++[ao a,aV a]))/\lK e b g i) := ⟨⟨y,n,o⟩,(lK.WE (aE.alloc av _)).trans p⟩;clear n o p hnew k l;go_wp2_with fail;refine iI (v:=.tuple #[]) (by simp[results,results337]) rfl ?_;exact⟨rfl,z⟩
theorem gG(a:Nat)(b:a<65536):(cq a).ry:=⟨QK _,QL,QM a b⟩
def lI(a:Nat):kR:=⟨344,.int .u32 a,343,[ao (a/65536),aV (a/65536),ao (a%65536),aV (a%65536)]⟩
theorem QN (b : Int) (a : World) : (method 521 344 (.int .u32 b) "beacon/wire.writeTo").run prog a = .ok (343, .int .u32 b) a := by kernel_rfl
theorem QO(b:Array Value)(a:World):(callFunc 343 b).run prog a=.ok (.enter 343 b) a:=aB
theorem QP(a:Nat)(H:a<4294967296):z_ 343 (.int .u32 a) [ao (a/65536),aV (a/65536),ao (a%65536),aV (a%65536)]:=by
 intro e b D w u g d r E B;have A:=af d;have x:=af r;have C:=d.lt;clear d r;go_enter func343,ntmps343;go_wp2_with fail;have k:(a:Int)/65536=((a/65536:Nat):Int):=ae;have l:IntKind.u16.wrap (a:Int)=((a%65536:Nat):Int):=by rw[IntKind.wrap_u16];omega
 rw[k,l];have hnew:=World.alloc_heap_new g (.cells #[.iface 284 (.int .u16 (a/65536:Nat)),.iface 284 (.int .u16 (a%65536:Nat))] 297);refine(ta e b g.heap.size 2 [cq (a/65536),cq (a%65536)] D w u _ ((bx _ _ _ C).trans A) (x.alloc _) aA ?_ am ae (.inr ?_) ?_ am am ?_).mono ?_;{intro f q;simp at q;rcases q with rfl|rfl<;>exact gG _ ae};{intro F h;exact yg};{
 intro t c;match t,c with
 | 0,_=>exact gA
 | 1,_=>exact gA
 | t+2,c=>simp at c;omega};{simp[bv,cq]at B ⊢; omega};rintro G i ⟨rfl,⟨y,n,o⟩,p⟩;have z:Hid ((∃j,bJ i e j w/\dA i b j (u++[ao (a/65536),aV (a/65536),ao (a%65536),aV (a%65536)]))/\lK e b g i) := ⟨⟨y,n,o⟩,(lK.WE (aE.alloc av _)).trans p⟩;clear n o p hnew k l;go_wp2_with fail;refine iI (v:=.tuple #[]) (by simp[results,results343]) rfl ?_;exact⟨rfl,z⟩
theorem q9(a:Nat)(b:a<4294967296):(lI a).ry:=⟨QN _,QO,QP a b⟩
theorem tb{b:World}{base:Nat}{v:Value}{a:ah}(h:dA b base v a):(convert 58 9 v).run prog b=.ok (au a) b:=by
 obtain⟨q,⟨rfl,n⟩|⟨d,g,i,rfl,r,e,u,t,w,p⟩⟩:=h;{obtain rfl:a=[]:=df n;kernel_rfl};{
 refine y9 (P:=prog) b 58 9 5 (aq d 0) g a underlying58 underlying5 underlying9 fun j o=>?_;have k:((aq d 0):Addr).add j=(aq d j):=BT
 rw[k];have l:i.toList[j]? = (a.map fun c=>Value.int .u8 (c.toNat:Int))[j]?:=by{rw[<- p,lU,ay ae]};simp only[World.cell?,e];rw[<- GH,l];simp[o]}
theorem Aa(d e:Nat)(a:List kR)(w:World)(i:∀f∈a,f.ry)(r:d<w.heap.size)(n:∀c (h:c<a.length),w.cell? (aq d c)=some (.iface a[c].t a[c].x))(t:a.length<=e) (o:a.length<=1000000) (hl:(bv a).length<=1000000):az 199 #[aF d 0 a.length e] w (aP (au (bv a)) w):=by have l:=World.alloc_heap_new w (.cells #[.slice none 0 0,.slice none 0 0] 283);have j:=af (ta w.heap.size (w.heap.size+1) d e a (aJ) (aJ) [] (w.alloc (.cells #[.slice none 0 0,.slice none 0 0] 283)) l (e8 _ _ _ _) am i aA ae (.inl ae) (fun c q=>(b7 (w:=w) (bx _ _ _ r)).trans (n c q)) t o uG);clear l i n;go_enter func199,ntmps199;go_wp2_with fail;refine j.mono ?_;rintro y x ⟨rfl,⟨C,k,g⟩,b⟩;have z:=k.cells.1;have p:=tb g;have aR:Hid (ax w x):=(aE.alloc av _).trans ⟨b.os,b.tape,b.output,b.size,fun u A=>b.block u aA ae (.inl ae)⟩;rw[dJ]at p;obtain⟨B,E,D,rfl⟩:=i8 g;clear k g b j;go_wp2;go_ret;exact mw
theorem pf(b:World)(a:ah)(d:Nat)(g:d=a.length)(e:a.length<=maxLen):(convert 58 9 (aF b.heap.size 0 d d)).run prog (b.alloc (.cells ((a.map fun c=>Value.int .u8 c.toNat).toArray) 5))=.ok (au a) (b.alloc (.cells ((a.map fun c=>Value.int .u8 c.toNat).toArray) 5)):=by subst g;refine tb (base:=0) ⟨am,.inr ⟨b.heap.size,a.length,(a.map fun c=>Value.int .u8 c.toNat).toArray,rfl,b6 _,World.alloc_heap_new b _,bb _,e,am,by rw[lV];exact ie am⟩⟩
theorem iC(a:Nat)(b:World)(g:a<65536):az 83 #[ak a] b (aP (au [ao a,aV a]) b):=by
 have e:=pf b [ao a,aV a] 2 rfl mv;have c:((ao a).toNat:Int)=(a:Int)/256:=BM
 have d:((aV a).toNat:Int)=(a:Int)%256:=Cv
 simp only[fl,kK,c,d]at e;go_enter func83,ntmps83;go_wp2;go_ret;exact uB
def cN(a:Nat):ah:=[ao (a/65536),aV (a/65536),ao (a%65536),aV (a%65536)]
theorem q_(a:Nat)(e:World)(u:a<4294967296):az 205 #[ak a] e (aP (au (cN a)) e):=by
 obtain⟨b,h⟩:=a2 (a/65536);obtain⟨c,i⟩:=a2 (a%65536);have r:(a:Int)/65536=(b:Int):=ae;have t:(a:Int)%65536=(c:Int):=ae;have g:=af (iC b e ae);have l:=af (fun n=>iC c n ae);have y:(ai [ao b,aV b]).size=2:=rfl;have z:(ai [ao c,aV c]).size=2:=rfl;have w:ai [ao b,aV b]++ai [ao c,aV c]=ai (cN a):=by rw[cN,<- h,<- i];rfl
 clear h i;go_enter func205,ntmps205;go_wp2_with fail;refine g.mono ?_;rintro p q ⟨rfl,j⟩;have d:=af j;clear j g;go_wp2_with fail;refine(l q).mono ?_;rintro p x ⟨rfl,k⟩;have o:=af (d.trans (k.mono d.size));clear k l d;go_wp2;go_ret;exact⟨rfl,o⟩
def aG(s:ah)(i:Nat):Nat:=256*(s.getD i 0).toNat+(s.getD (i+1) 0).toNat
theorem pg(s:ah)(i:Nat)(p:World)(ao:i+1<s.length)(y:s.length<=140737488355328):az 141 #[au s,ak i] p fun r u=>r=.returned (ak (aG s i))/\∃t,u=p.drewN t:=by
 obtain⟨b,k⟩:∃b:UInt8,b=s[i]:=⟨_,rfl⟩;obtain⟨c,l⟩:∃c:UInt8,c=s[i+1]:=⟨_,rfl⟩;have o:Hid (aG s i=256*b.toNat+c.toNat):=by{rw[Hid,aG,fh,fh,dV ao,dV ae,k,l];rfl};obtain⟨h,n⟩:=a2 (i+1);have w:∀j:i<(ai s).size,(ai s)[i]=b:=fun j=>k.symm;have x:∀j:h<(ai s).size,(ai s)[h]=c:=fun j=>by subst n;exact l.symm
 have z:=a7 s;have I:IntKind.i64.wrap ((i:Int)+1)=(h:Int):=cX
 have C:(i:Int)<(s.length:Int):=ae;have D:(h:Int)<(s.length:Int):=ae;have E:i<s.length:=ae;have F:h<s.length:=ae;obtain⟨a,e⟩:=a2 b.toNat;obtain⟨d,g⟩:=a2 c.toNat;have A:a<256:=by rw[e];exact dt b
 have B:d<256:=by rw[g];exact dt c
 have J:IntKind.i64.wrap (a:Int)=(a:Int):=cX
 have K:IntKind.i64.wrap (d:Int)=(d:Int):=cX
 have L:IntKind.i64.wrap (256*(a:Int))=256*(a:Int):=cX
 have M:IntKind.i64.wrap (256*(a:Int)+(d:Int))=256*(a:Int)+(d:Int):=cX
 have q:Hid ((aG s i:Int)=256*(a:Int)+(d:Int)):=by rw[Hid,ag o,e,g];simp
 rw[<- e,<- g]at o;have G:(b.toNat:Int)=(a:Int):=by rw[e]
 have H:(c.toNat:Int)=(d:Int):=by rw[g]
 clear k l n e g ao;go_enter func141,ntmps141;go_wp2_with fail;go_quiet (fail);go_wp2;go_ret;exact⟨by rw[ag q];rfl,_,rfl⟩
theorem G1(s:ah)(i:Nat)(a:World)(ao:i+1<s.length)(e:s.length<=140737488355328):az 141 #[au s,ak i] a fun b d=>b=.returned (ak (aG s i))/\ax a d :=
 (pg s i a ao e).mono fun b d c=>⟨c.1,c.2.elim fun h g=>g ▸ fm aE h⟩
def fM(c:UInt8):UInt8:=if 65<=c.toNat/\c.toNat<=90 then UInt8.ofNat (c.toNat+32)else c
theorem QQ(b:ah)(a:Nat)(c:UInt8)(d:a<b.length):((b.take a).map fM++b.drop a).set a (fM b[a])=(b.take (a+1)).map fM++b.drop (a+1):=by have e:((b.take a).map fM).length=a:=aA;rw[fQ d,du d,vJ,ar ae,e,i3,d0,c_,c5];rfl
theorem QR(b:ah)(a:Nat)(c:a<b.length)(d:fM b[a]=b[a]):(b.take (a+1)).map fM++b.drop (a+1)=(b.take a).map fM++b.drop a:=by rw[fQ c,du c,d0,c_];simp only[fl,kK,d,GU]
theorem G2(a:ah)(b:World)(O:a.length<=1000000):az 142 #[au a] b (aP (au (a.map fM)) b):=by
 have S:=y8 (P:=prog) b 9 58 5 (ai a) underlying9 underlying58 underlying5;have x:=af (Av b a (grownCap b (ai a).size 0 5));have u:=af ((bk b.heap.size b).drew.alloc (bb b.heap.size) (.cells (bytesRow (ai a) (grownCap b (ai a).size 0 5)) 5 ((bytesRow (ai a) (grownCap b (ai a).size 0 5)).size,(bytesRow (ai a) (grownCap b (ai a).size 0 5)).size+1)));have H:a.length<=grownCap b (ai a).size 0 5:=by{have:=vT b (ai a).size 0 5;rw[a7]at this ⊢;exact this};generalize grownCap b (ai a).size 0 5=l at *;generalize b.drew.alloc (.cells (bytesRow (ai a) l) 5 ((bytesRow (ai a) l).size,(bytesRow (ai a) l).size+1))=G at *;have R:=a7 a;go_enter func142,ntmps142;go_wp2_with fail;go_loopw [4] (fun i wr=>∃k:Nat,i=ak k/\k<=a.length/\ou wr b.heap.size ((a.take k).map fM++a.drop k)/\ax b wr) (fun i _=>a.length-(intOf i).toNat);case atStart=>exact⟨0,rfl,b6 _,by simpa using ag x,u⟩
 case round =>(
 obtain⟨k,rfl,hk,e,p⟩:=hrel;have nL:=af e;have nk:=af p;clear e p;by_cases q:k<a.length;{
 have D:((a.take k).map fM++a.drop k).length=a.length:=aA;have M:wr.cell? (aq b.heap.size k)=some (.int .u8 a[k].toNat):=FZ;have N:=nL.2.2 k ae;have y:=af (QQ a k 0 q);have HS:=af (nL.set k (fM a[k]) ae);have w:=af (QR a k q);generalize a[k]=c at *;have L:=dt c;have E:Hid (((fM c).toNat:Int)=if 65<=c.toNat/\c.toNat<=90 then(c.toNat:Int)+32 else c.toNat):=by{unfold Hid fM;split;{simp[iZ];omega};{rfl}};have t:Hid (fM c=c->ou wr b.heap.size ((a.take (k+1)).map fM++a.drop (k+1))):=fun h=>by rw[ag w h];exact nL
 rw[ag y]at HS;have A:Hid (¬(65<=c.toNat/\c.toNat<=90)->fM c=c):=fun d=>by unfold fM;rw[ar d]
 generalize Q:c.toNat=g at *;clear D;by_cases d:65<=g/\g<=90;{
 have r:((fM c).toNat:Int)=(g:Int)+32:=by rw[ag E,ay d]
 rw[r]at HS;clear r;obtain⟨d,I⟩:=d;go_wp2;exact BF};{have a_:=af (t (A d));by_cases J:65<=g;{have K:¬g<=90:=ae;clear d;go_wp2;exact yI};{clear d;go_wp2;exact yI}}};{
 have o:k=a.length:=ae;have B:Hid ((a.take k).map fM++a.drop k=a.map fM):=by rw[Hid,o];simp
 have e:=ag nL;rw[ag B]at e;have n:(a.map fM).length=a.length:=am;have F:=y9 (P:=prog) wr 58 9 5 (aq b.heap.size 0) l (a.map fM) underlying58 underlying5 underlying9 (fun j C=>by{
 have z:((aq b.heap.size 0):Addr).add j=(aq b.heap.size j):=BT
 rw[z];exact e.2.1 j C})
 rw[n]at F;clear e n;subst o;go_wp2;go_ret;exact⟨rfl,nk⟩})
def m5(c:UInt8)(s:ah)(i f:Nat)(L:List ah):Prop:=(i<=s.length/\f<=i/\c ∉ (s.drop f).take (i-f)/\aC c s=L++aC c (s.drop f))\/(i=s.length+1/\L=aC c s)
section
variable {c:UInt8} {s:ah} {i f:Nat} {L:List ah}
theorem m5.Q4(a:m5 c s i f L)(ao:i<=s.length):f<=i/\c ∉ (s.drop f).take (i-f)/\aC c s=L++aC c (s.drop f):=by rcases a with a|a;{exact a.2};{omega}
theorem QT(d:m5 c s s.length f L):m5 c s (s.length+1) (s.length+1) (L++[(s.drop f).take (s.length-f)]):=by obtain⟨g,a,e⟩:=d.Q4 av;have b:(s.drop f).take (s.length-f)=s.drop f:=ie am;rw[b]at a ⊢;exact .inr ⟨rfl,by rw[e,m0 c _ a]⟩
theorem QU(b:m5 c s i f L)(ao:i<s.length)(g:s[i]=c):m5 c s (i+1) (i+1) (L++[(s.drop f).take (i-f)]):=by
 obtain⟨h,d,e⟩:=b.Q4 ae;refine .inl ⟨ae,bb _,am,?_⟩;have a:s.drop f=(s.drop f).take (i-f)++c::s.drop (i+1):=by{have:=(ft (i-f) (s.drop f)).symm;rw[eR,show f+(i-f)=i by omega,fQ ao,g]at this;exact this};rw[e];conv=>lhs;rw[a,m1 c _ _ d]
 simp
theorem QV(a:m5 c s i f L)(ao:i<s.length)(g:s[i]≠c):m5 c s (i+1) f L:=by obtain⟨h,d,e⟩:=a.Q4 ae;refine .inl ⟨ae,ae,?_,e⟩;have b:(s.drop f).take (i+1-f)=(s.drop f).take (i-f)++[s[i]]:=by{rw[show i+1-f=i-f+1 by omega,du aA,o_];simp only[show f+(i-f)=i by omega]};rw[b,dv];rintro(a|a);{exact d a};{simp at a;exact g a.symm}
end
theorem qH(s:ah)(i c:Nat):(ai s).extract i c=ai ((s.drop i).take (c-i)):=by
 have ext:∀ {a b:ByteArray},a.data=b.data->a=b:=fun {a b} d=>by cases a;cases b;exact bP _ d
 apply ext;apply Array.ext';simp[ai,uV,List.extract_eq_take_drop]
theorem Fx{P:Prop}(h:P:=by{rw[Hid,a6,d0];refine⟨by rw[ag bY]at hown';exact hown',⟨fun h=>absurd h (by simpa using zC),fun h=>by simp at h⟩,?_⟩;have hB:=HO.2.2;exact(hB.alloc ct _).trans ⟨hgrow.os,hgrow.tape,hgrow.output,hgrow.size,fun k hk=>hgrow.block k aA (fun e=>by have:=(e9 HO.1 k e.symm).1;omega)⟩}):P:=h
theorem qI(s:ah)(c:UInt8)(a:World)(W:s.length<=2000000):az 62 #[au s,.int .u8 c.toNat] a fun e I=>(∃v,e=.returned v/\nM I a.heap.size v (aC c s))/\ax a I:=by
 obtain⟨G,H,D,E,F⟩:=fO qU;have X:=a7 s;go_enter func62,ntmps62;go_wp2_with fail;go_loopw [5,6,7] (fun v P Q wr=>∃(i f:Nat) (L:List ah),Q=ak i/\P=ak f/\i<=s.length+1/\f<=s.length+1/\L.length<=i/\m5 c s i f L/\wr.ownsRow a.heap.size 9 1 v L.length (L.map fun l=>au l)/\(v=aJ ↔ L=[])/\ax a wr) (fun _ _ i _=>s.length+1-(intOf i).toNat);case atStart=>exact⟨0,0,[],rfl,rfl,ae,ae,am,.inl ⟨ae,ae,am,rfl⟩,e8 _ _ _ _,am,bk _ _⟩
 case round =>(
 obtain⟨i,f,L,rfl,rfl,ao,V,S,z,C,B,u⟩:=hrel;have n:=af z;have HO:=af (aQ C (aQ B u));have ct:=u.size;clear z C B u;by_cases N:i<=s.length;{
 have M:(i:Int)<=(s.length:Int):=ae;obtain⟨U,_,_⟩:=n.Q4 N;have bY:=af (qH s f i);by_cases w:i=s.length;{
 have J:((i:Int)==(s.length:Int))=true:=ni
 have K:=af w;clear w;go_wp2_with (at_builtin;go_loud (refine oe _ rfl (.tmp 25) (.tmp 30) 49 rfl a.heap.size 9 G (.string ⟨#[]⟩) 1 16 vj H D E F rfl ba _ L.length _ rfl (HO.1.alloc _) (aq wr.heap.size 0) 1 1 [.string ((ai s).extract f i)] rfl rfl (vW _ _ _) (fun O hu=>qw) gW ae aA ?_));intro o p hown' hgrow zC _;have t:Hid (p.ownsRow a.heap.size 9 1 o (L++[(s.drop f).take (i-f)]).length ((L++[(s.drop f).take (i-f)]).map fun l=>au l)/\(o=aJ ↔ L++[(s.drop f).take (i-f)]=[])/\ax a p):=Fx;clear hown' hgrow zC;go_wp2_with fail;obtain⟨b,d,g⟩:=ag t;exact⟨⟨i+1,i+1,_,bq,bq,ae,ae,aA,by have h:=ag n;rw[ag K]at h ⊢; exact QT h,b,d,g⟩,ci⟩};{
 have J:((i:Int)==(s.length:Int))=false:=eP
 have A:i<s.length:=ae;obtain⟨q,x⟩:=a2 (s[i]);have T:∀h:i<(ai s).size,(ai s)[i]=q:=fun h=>x.symm;have y:=af x;clear w x;by_cases j:q=c;{
 have R:((q.toNat:Int)==(c.toNat:Int))=true:=by rw[j];simp
 have r:=af j;clear j;go_wp2_with (at_builtin;go_loud (refine oe _ rfl (.tmp 25) (.tmp 30) 49 rfl a.heap.size 9 G (.string ⟨#[]⟩) 1 16 vj H D E F rfl ba _ L.length _ rfl (HO.1.alloc _) (aq wr.heap.size 0) 1 1 [.string ((ai s).extract f i)] rfl rfl (vW _ _ _) (fun O hu=>qw) gW ae aA ?_));intro o p hown' hgrow zC _;have t:Hid (p.ownsRow a.heap.size 9 1 o (L++[(s.drop f).take (i-f)]).length ((L++[(s.drop f).take (i-f)]).map fun l=>au l)/\(o=aJ ↔ L++[(s.drop f).take (i-f)]=[])/\ax a p):=Fx;clear hown' hgrow zC;go_wp2_with fail;obtain⟨b,d,g⟩:=ag t;exact⟨⟨i+1,i+1,_,bq,bq,ae,ae,aA,QU (ag n) A (y.symm.trans r),b,d,g⟩,ci⟩};{have R:((q.toNat:Int)==(c.toNat:Int))=false:=by{rw[eW];intro h;exact j (nG.1 ae)};have r:=af j;clear j;go_wp2_with fail;obtain⟨b,d,g⟩:=ag HO;exact⟨⟨i+1,f,L,bq,rfl,ae,ae,ae,QV (ag n) A (fun h=>ag r (y.trans h)),b,d,g⟩,ci⟩}}};{have M:¬(i:Int)<=(s.length:Int):=ae;go_wp2;go_ret;obtain⟨b,d,g⟩:=ag HO;rcases ag n with h|⟨_,h⟩;{omega};{rw[<- h];exact⟨⟨_,rfl,b,d⟩,g⟩}})
theorem G3(s:ah)(a:Nat)(b:a<s.length):s.take (a+1)=s.take a++[s[a]]:=du b
theorem Qx(a:UInt8):(ka a=true/\((97<=(a.toNat:Int)/\(a.toNat:Int)<=122)\/(48<=(a.toNat:Int)/\(a.toNat:Int)<=57)\/(a.toNat:Int)=45\/(a.toNat:Int)=95)) \/
  (ka a=false/\(((a.toNat:Int)<45)\/(45<(a.toNat:Int)/\(a.toNat:Int)<48)\/(57<(a.toNat:Int)/\(a.toNat:Int)<95)\/((a.toNat:Int)=96)\/(122<(a.toNat:Int)))):=by unfold ka vY;generalize (a.toNat:Int)=b;by_cases c:97<=b/\b<=122;{left;simp[c]};by_cases d:48<=b/\b<=57;{left;simp[d]};by_cases e:b=45;{left;simp[e]};by_cases g:b=95;{left;simp[g]};right;refine⟨?_,ae⟩;rw[Bool.eq_false_iff];simp only[ne_eq,lN,bW,jy,dE];omega
theorem BH{P:Prop}(h:P:=by go_wp2;go_ret;refine⟨cd ?_,rfl⟩;unfold fA;rw[ag a_];simp;omega):P:=h
theorem Qy(s:ah)(k:World)(I:s.length<=2000000):az 113 #[au s] k fun t E=>t=.returned (.bool (fA s))/\E=k:=by
 have J:=a7 s;go_enter func113,ntmps113;go_wp2_with fail;go_loopw [3] (fun i wr=>∃a:Nat,a<=s.length/\i=ak a/\(s.take a).all ka=true/\wr=k) (fun i _=>s.length-(intOf i).toNat);case atStart=>exact⟨0,b6 _,rfl,rfl,rfl⟩
 case round =>(
 obtain⟨a,H,rfl,p,rfl⟩:=hrel;have l:=af p;clear p;by_cases q:a<s.length;{
 have w:(a:Int)<(s.length:Int):=ae;have F:=af (G3 s a q);obtain⟨b,j⟩:=a2 (s[a]);have G:∀h:a<(ai s).size,(ai s)[a]=b:=fun h=>j.symm;have n:=af j;clear j;rcases Qx b with⟨c,h⟩|⟨c,h⟩;{
 have e:=af c;clear c;have o:∀v:Value,v=ak ((a:Int)+1)->∃d:Nat,d<=s.length/\v=ak d/\(s.take d).all ka=true:=fun v y=>⟨a+1,ae,by rw[y];go_num,by rw[ag F,pu,ag l,<- ag n];simp[ag e]⟩;have u:=af o;clear o;rcases h with h|h|h|h;case' inr.inr.inl=>have r:((b.toNat:Int) != 45)=false:=ng
 case' inr.inr.inr =>(
 have r:((b.toNat:Int) != 45)=true:=ng
 have C:((b.toNat:Int) != 95)=false:=ng)
 all_goals(go_wp2_with fail;obtain⟨d,z,A,B⟩:=ag u _ rfl;exact⟨⟨d,z,A,B,o7⟩,ci⟩)};{
 have e:=af c;clear c;have r:((b.toNat:Int) != 45)=true:=o3
 have C:((b.toNat:Int) != 95)=true:=o3
 rcases h with h|h|h|h|h;all_goals(go_wp2;go_ret;refine⟨cd ?_,rfl⟩;have x:s[a]∈s:=bM q;symm;unfold fA;rw[pq];right;rw[rg];exact⟨_,x,by rw[<- ag n,ag e];simp⟩)}};{have w:¬(a:Int)<(s.length:Int):=ae;have D:a=s.length:=ae;have g:=ag l;rw[D,dK]at g;have a_:=af g;clear g;by_cases K:(0:Int)<(s.length:Int);{by_cases L:(s.length:Int)<=20;{exact BH};{exact BH}};{exact BH}})
def gK:Nat->ah->Option Nat
 | a,[]=>some a
 | a,c::b=>if jp c.toNat then gK (10*a+(c.toNat-48)) b else none
theorem Ab:∀(e:ah) (a v:Nat),gK a e=some v->a*10 ^ e.length<=v
 | [],a,v,b=>by simp[gK]at b;simp[b]
 | c::d,a,v,b=>by
  unfold gK at b;split at b
  ·have:=Ab d _ v b;rw[bi,GZ]
   calc a*(10 ^ d.length*10)=(10*a)*10 ^ d.length:=by rw[mV (10 ^ d.length) 10,<- Nat.mul_assoc,mV a 10]
    _<=(10*a+(c.toNat-48))*10 ^ d.length:=pz _ ae
    _<=v:=this
  ·cases b
theorem Ac(b:Nat):∀(g:ah) (a:Nat),a<=b->g1 b a g=(match gK a g with
  | some v=>if v<=b then some v else none
  | none=>none)
 | [],a,e=>by simp[g1,gK,e]
 | c::d,a,e=>by
  unfold g1 gK;split;{
  split;{exact Ac b d _ ‹_›};{
  rename_i i;cases h:gK (10*a+(c.toNat-48)) d with
  | none=>rfl
  | some v =>{have:=Ab d _ v h;have j:1<=10 ^ d.length:=Nat.one_le_pow _ _ ae;have:10*a+(c.toNat-48)<=v:=aZ (Nat.le_mul_of_pos_right _ ae) this;simp;omega}}};{rfl}
def jn(s:ah):Option Nat:=if 1<=s.length/\s.length<=10/\¬(s.head? = some 48/\1<s.length)then gK 0 s else none
theorem G6(d:Nat)(p:d<10000000000)(s:ah):jz d s=(match jn s with
  | some v=>if v<=d then some v else none
  | none=>none):=by
 unfold jn;cases s with
 | nil=>simp[jz]
 | cons c a =>
  show(if c.toNat=48/\a≠[]then none else g1 d 0 (c::a))=_;by_cases b:c.toNat=48/\a≠[]
  ·have k:c=48:=nG.1 b.1;have o:1<(c::a).length:=by
    rcases a with _|⟨t,r⟩
    ·exact absurd rfl b.2
    ·simp
   rw[ay b,ar (fun e=>e.2.2 ⟨by rw[k];rfl,o⟩)]
  ·rw[ar b];have n:¬((c::a).head? = some 48/\1<(c::a).length):=by
    rintro⟨h1,l⟩;refine b ⟨?_,?_⟩
    ·have:c=48:=qq
     rw[this];rfl
    ·rintro rfl;simp at l
   by_cases h:(c::a).length<=10
   ·rw[ay ⟨am,h,n⟩];exact Ac d _ 0 (b6 _)
   ·rw[ar (fun e=>h e.2.1),Ac d _ 0 (b6 _)];cases g:gK 0 (c::a)with
    | none=>rfl
    | some v =>
     unfold gK at g;split at g
     ·rename_i i;have:=Ab a _ v g;have j:10<=a.length:=by simp at h;omega
      have q:10000000000<=10 ^ a.length:=by
       calc 10000000000=10 ^ 10:=rfl
        _<=10 ^ a.length:=Nat.pow_le_pow_right ae j
      have k:1<=c.toNat-48:=by
       unfold jp at i;simp at i;have:c.toNat≠48:=fun e=>b ⟨e,by rintro rfl;simp at j⟩;omega
      have:10 ^ a.length<=v:=aZ (by
       calc 10 ^ a.length=1*10 ^ a.length:=(vR _).symm
        _<=(10*0+(c.toNat-48))*10 ^ a.length:=pz _ ae) this
      simp;omega
     ·cases g
theorem uZ(a:Nat)(c:a<10000000000)(s:ah):cf a s=(match jn s with
  | some v=>decide (v<=a)
  | none=>false):=by
 unfold cf;rw[G6 a c];cases jn s with
 | none=>rfl
 | some v=>by_cases b:v<=a<;>simp[b]
theorem Ad(a:Nat)(c:a<10000000000)(s:ah)(v:Nat)(b:jn s=some v)(d:v<=a):e_ a s=v:=by unfold e_;rw[G6 a c,b];simp[d]
theorem FA{P:Prop}(h:P:=by go_enter func115,ntmps115;go_wp2;go_ret2;exact⟨ag rA (ag hf),rfl⟩):P:=h
theorem Fo{P:Prop}(h:P:=by have hn:Hid (jn s=none):=by{rw[Hid,ag hf,<- ag HD,ag HC,gK,ar (by unfold jp;simp;omega)]};go_wp2;go_ret2;exact⟨ag rA (ag hn),rfl⟩):P:=h
theorem F1{P:Prop}(h:P:=by have hf:Hid (jn s=none):=ar (fun h=>ae);exact FA):P:=h
theorem ph(s:ah)(c:Nat)(o:World)(X:s.length<=1000000)(w:c<10000000000):az 115 #[au s,ak c] o fun F O=>(∃v:Nat,F=.returned (.tuple #[ak v,.bool (cf c s)])/\(cf c s=true->v=e_ c s))/\O=o:=by
 have Y:=a7 s;have q:=af (uZ c w s);have B:=af (Ad c w s);have z:jn s=none->∃v:Nat,Ending.returned (.tuple #[ak 0,.bool false])=.returned (.tuple #[ak v,.bool (cf c s)])/\(cf c s=true->v=e_ c s):=fun h=>by{have d:=ag q;rw[h]at d;refine⟨0,by rw[d];rfl,fun u=>?_⟩;rw[d]at u;cases u};have rA:=af z;clear z;by_cases aa:(s.length:Int)<1;{exact F1};by_cases ab:(10:Int)<(s.length:Int);{exact F1};have I:0<s.length:=ae;obtain⟨e,k⟩:∃b,b=s[0]:=⟨_,rfl⟩;have G:∀h:0<(ai s).size,(ai s)[0]=e:=fun h=>k.symm;have g:s.head? = some e:=by rw[k,List.head?_eq_getElem?,dV I]
 by_cases p:(e.toNat:Int)=48/\(1:Int)<(s.length:Int);{have hf:Hid (jn s=none):=ar (fun h=>h.2.2 ⟨by rw[g];exact bP some (nG.1 (by show e.toNat=48;omega)),ae⟩);obtain⟨A,Q⟩:=p;clear g k;exact FA};have hf:Hid (jn s=gK 0 s):=ay ⟨ae,ae,fun h=>p ⟨by{
 have h1:=h.1;rw[g]at h1;have:e=48:=qq
 rw[this];rfl},ae⟩⟩
 have R:((e.toNat:Int)=48/\(s.length:Int)<=1)\/¬(e.toNat:Int)=48:=ae;clear p g k;rcases R with⟨A,Q⟩|A;all_goals(
 go_enter func115,ntmps115;go_wp2_with fail;go_loopw [6,7] (fun N M wr=>∃a m:Nat,a<=s.length/\M=ak a/\N=ak m/\m<10 ^ a/\gK m (s.drop a)=gK 0 s/\wr=o) (fun _ i _=>s.length-(intOf i).toNat);case atStart=>exact⟨0,0,b6 _,rfl,rfl,am,by rw[kg],rfl⟩
 case round =>(
 obtain⟨a,m,W,rfl,rfl,x,r,rfl⟩:=hrel;have C:10 ^ a<=10 ^ 10:=Nat.pow_le_pow_right ae ae;have D:(10:Nat) ^ 10=10000000000:=rfl;have S:m<10000000000:=ae;clear C D;have HD:=af r;have P:=af x;clear r x G;by_cases J:a<s.length;{
 have H:(a:Int)<(s.length:Int):=ae;obtain⟨b,n⟩:=a2 (s[a]);have V:∀h:a<(ai s).size,(ai s)[a]=b:=fun h=>n.symm;have HC:Hid (s.drop a=b::s.drop (a+1)):=by rw[Hid,n];exact fQ J
 clear n;by_cases ap:(b.toNat:Int)<48;{exact Fo};by_cases U:(57:Int)<(b.toNat:Int);{exact Fo};have T:IntKind.u8.wrap ((b.toNat:Int)-48)=((b.toNat-48:Nat):Int):=by rw[sO];omega
 have E:Hid (gK (10*m+(b.toNat-48)) (s.drop (a+1))=gK 0 s):=by{rw[Hid,<- ag HD,ag HC,gK,ay (by unfold jp;simp;omega)]};have L:Hid (10*m+(b.toNat-48)<10 ^ (a+1)):=by{have:=ag P;rw[Hid,GZ];omega};have l:Hid ((10:Int)*(m:Int)+((b.toNat:Int)-48)=((10*m+(b.toNat-48):Nat):Int)):=by rw[Hid];omega
 go_wp2_with fail;refine⟨⟨a+1,10*m+(b.toNat-48),ae,bq,?_,L,E,o7⟩,ci⟩;first|exact bP (Value.int .i64) (ag l)|exact bP (Value.int .i64) ae|(rw[<- ag l])|trace_state};{have H:¬(a:Int)<(s.length:Int):=ae;have K:a=s.length:=ae;have j:jn s=some m:=by{have:=ag HD;rw[K,kN]at this;rw[ag hf,<- this];rfl};have Z:=af j;have d:=ag q;rw[j]at d;have y:=ag B m j;have t:=af d;have l:=af y;clear d y j;go_wp2_with fail;all_goals(go_ret2;refine⟨⟨m,by rw[ag t];first|rfl|simp[*],fun h=>?_⟩,rfl⟩;have h1:=ag t;rw[h]at h1;exact(l (by simpa using h1.symm)).symm)}))
theorem Qz(s:ah)(a:World):az 114 #[au s] a fun b c=>b=.returned (ak (d_ s))/\c=a:=by go_enter func114,ntmps114;go_wp2;all_goals(go_ret;refine⟨sP ?_,rfl⟩;unfold d_;simp only[c7,jC,dE,eW,ne_eq]at *;simp[*])
theorem j9(a b:ah):ai a++ai b=ai (a++b):=by unfold ai;apply uW;simp
theorem u_(s:ah)(a:World)(e:s.length<=1000000)(g:cf 4294967295 s=true):az 206 #[.string (ai s)] a fun c i=>c=.returned (ak (e_ 4294967295 s))/\i=a:=by have b:=af (ph s 4294967295 a e ae);go_enter func206,ntmps206;go_wp2_with fail;refine b.mono ?_;rintro c j ⟨⟨v,rfl,d⟩,rfl⟩;have h:=d g;subst h;clear b d;go_wp2;go_ret;exact dX
def jU(c:Nat)(a b:Bool):Nat:=128+c/8%16*8+c%2+(if a=true then 4 else 0)+(if b=true then 2 else 0)
def ir(b:List Nat):ah:=b.flatMap fun a=>[ao a,aV a]
theorem Ae:∀a:List Nat,(ir a).length=2*a.length
 | []=>rfl
 | b::a=>by have:=Ae a;unfold ir at this ⊢; simp only[eT,a6,bi,cW];omega
def iu(s:ah)(a d:Bool)(c:Nat)(b:List Nat):ah:=s.take 2++[UInt8.ofNat (jU (s.getD 2 0).toNat a d),UInt8.ofNat (c%16)]++ir b
theorem G7(s:ah)(i j:Bool)(o y aG:Nat)(b:List Nat)(k:World)(bc:12<=s.length)(ba:s.length<=1000000000)(bp:o<4096)(ab:b.length=4)(B:∀c∈b,c<65536)(aJ:y<k.heap.size)(aa:∀M (X:M<b.length),k.cell? (aq y M)=some (ak (b[M]:Nat))):az 75 #[.string (ai s),.bool i,.bool j,ak o,aF y 0 4 aG] k (aP (.string (ai (iu s i j o b))) k):=by
 obtain⟨c,J⟩:∃c:UInt8,c=s[2]:=⟨_,rfl⟩;have bf:=a7 s;have aH:∀X:2<(ai s).size,(ai s)[2]=c:=fun X=>J.symm;obtain⟨e,G⟩:=a2 c.toNat;have be:e<256:=by rw[G];exact dt c
 have P:Hid ((s.getD 2 0).toNat=e):=by rw[Hid,fh,dV ae,G,J];rfl
 have aX:(c.toNat:Int)=(e:Int):=by rw[G]
 obtain⟨n,S⟩:∃g,g=e/8:=⟨_,rfl⟩;obtain⟨l,T⟩:∃g,g=n%16:=⟨_,rfl⟩;obtain⟨H,ad⟩:∃g,g=e%2:=⟨_,rfl⟩;obtain⟨w,Y⟩:∃g,g=128+l*8+H:=⟨_,rfl⟩;have aK:IntKind.i64.wrap (e:Int)=(e:Int):=cX
 have aL:(e:Int).tdiv 8=(n:Int):=by rw[GL ae];omega
 have av:(e:Int)/8=(n:Int):=ae;have aw:IntKind.i64.wrap (n:Int)=(n:Int):=cX
 have aM:(n:Int).tmod 16=(l:Int):=by rw[zw ae];omega
 have ay:(n:Int)%16=(l:Int):=ae;have aN:IntKind.i64.wrap ((l:Int)*8)=(l:Int)*8:=cX
 have aO:IntKind.i64.wrap (128+(l:Int)*8)=128+(l:Int)*8:=cX
 have aQ:(e:Int).tmod 2=(H:Int):=by rw[zw ae];omega
 have aA:(e:Int)%2=(H:Int):=ae;have aR:IntKind.i64.wrap (128+(l:Int)*8+(H:Int))=(w:Int):=cX
 have aZ:(2:Int)<(s.length:Int):=ae;have bb:2<s.length:=ae;have aB:=af (fun u=>fm (bk k.heap.size k) u);obtain⟨r,A⟩:∃g,g=w+(if i=true then 4 else 0):=⟨_,rfl⟩;obtain⟨t,C⟩:∃g,g=r+(if j=true then 2 else 0):=⟨_,rfl⟩;have U:Hid (t=jU (s.getD 2 0).toNat i j):=by rw[Hid,jU,ag P,C,A,Y,T,S,ad]
 have a1:w<256:=ae;have a3:r<256+8:=by rw[A];cases i<;>simp<;>omega
 have a4:t<256+16:=by rw[C];cases j<;>simp<;>omega
 obtain⟨D,V⟩:∃g,g=o%16:=⟨_,rfl⟩;have bg:(o:Int).tmod 16=(D:Int):=by rw[zw ae];omega
 have bh:(o:Int)%16=(D:Int):=ae;obtain⟨d,hu⟩:∃d:UInt8,d=UInt8.ofNat t:=⟨_,rfl⟩;obtain⟨v,K⟩:∃v:UInt8,v=UInt8.ofNat D:=⟨_,rfl⟩;have bi:IntKind.u8.wrap (t:Int)=(d.toNat:Int):=uA
 have bj:IntKind.u8.wrap (D:Int)=(v.toNat:Int):=by rw[sO,K,iZ];omega
 have Q:Hid (iu s i j o b=s.take 2++[d,v]++ir b):=by rw[Hid,iu,<- ag U,hu,K,V]
 have am:=af aa;have aS:=af B;have O:=af ab;have a5:D<16:=ae;have N:Hid ((i=true/\(w:Int)+4=(r:Int))\/(i=false/\r=w)):=by{unfold Hid;cases i;{exact .inr ⟨rfl,by rw[A];rfl⟩};{exact .inl ⟨rfl,by rw[A];simp⟩}};have aj:Hid ((j=true/\(r:Int)+2=(t:Int))\/(j=false/\t=r)):=by{unfold Hid;cases j;{exact .inr ⟨rfl,by rw[C];rfl⟩};{exact .inl ⟨rfl,by rw[C];simp⟩}};clear J G S T ad Y A C P U V hu K aa B ab;go_enter func75,ntmps75;go_wp2_with fail;go_quiet (fail);have W:=af (aB nq);generalize k.drewN nq=q at *;have aU:=pG s 2 ae;have au:(ai (s.take 2)).size=2:=by rw[a7,de];omega
 have aT:=pf q [d,v] 2 rfl mv;have ap:(convert 58 9 (aF q.heap.size 0 2 2)).run prog (q.alloc (.cells #[.int .u8 d.toNat,.int .u8 v.toNat] 5)).drew=.ok (.string (ai [d,v])) (q.alloc (.cells #[.int .u8 d.toNat,.int .u8 v.toNat] 5)).drew:=pf q.drew [d,v] 2 rfl mv;have ar:(ai [d,v]).size=2:=rfl;have aY:ai (s.take 2)++ai [d,v]=ai (s.take 2++[d,v]):=j9 _ _;have aD:Hid (ax k (q.alloc (.cells #[.int .u8 d.toNat,.int .u8 v.toNat] 5)).drew):=(W.alloc W.size _).drew;clear aT aH aX aK aL av aw aM ay aN aO aQ aA aR;rcases ag N with⟨rfl,bn⟩|⟨rfl,rfl⟩<;>rcases ag aj with⟨rfl,bo⟩|⟨rfl,rfl⟩;all_goals(clear N aj;go_wp2_with fail;go_region)
 all_goals(
 generalize (q.alloc (.cells #[.int .u8 d.toNat,.int .u8 v.toNat] 5)).drew=br at *;obtain⟨h,E⟩:∃h:ah,h=s.take 2++[d,v]:=⟨_,rfl⟩;have aC:Hid (h.length=4):=by rw[Hid,E,a6,de];simp;omega
 rw[<- E]at Q;rw[<- E];clear E aY aU ap au ar;go_wp2_with fail;go_loopw [12,13] (fun aW L wr=>∃a:Nat,aW=.string (ai (h++ir (b.take a)))/\L=ak a/\a<=4/\ax k wr) (fun _ L _=>4-(intOf L).toNat);case atStart=>exact⟨0,by simp[ir],rfl,ae,aD⟩
 case round =>(
 obtain⟨a,rfl,rfl,ac,z⟩:=hrel;by_cases F:a<4;{
 have I:a<b.length:=by rw[ag O];exact F
 have a_:wr.cell? (aq y a)=some (ak (b[a]:Nat)):=(z.cell (p:=⟨y,a,none⟩) aJ).trans (am a I);have B:=ag aS b[a] (bM I);have R:=af (iC b[a] wr B);have an:Hid (ir (b.take (a+1))=ir (b.take a)++[ao b[a],aV b[a]]):=by{rw[Hid,du I,ir,ir,jt];simp};have bd:(ai (h++ir (b.take a))).size<=100:=by{rw[a7,a6,ag aC];rw[Ae,de];omega};generalize b[a]=u at *;have a8:(ai [ao u,aV u]).size=2:=rfl;have bl:ai (h++ir (b.take a))++ai [ao u,aV u]=ai (h++ir (b.take (a+1))):=by rw[ag an,<- c_];exact iD
 generalize ai (h++ir (b.take a))=bm at *;have x:=af z;have a0:(a:Int)<4:=ae;have al:=af F;clear z ac F B;go_wp2_with fail;refine R.mono ?_;rintro a9 bs ⟨rfl,Z⟩;have aI:=af (x.trans (Z.mono x.size));clear Z R x;go_wp2;exact⟨⟨a+1,rfl,bq,by have:=ag al;omega,aI⟩,by have:=ag al;exact gz⟩};{
 obtain rfl:a=4:=ae;have aE:Hid (h++ir (b.take 4)=h++ir b):=by rw[Hid,ie (by rw[ag O];omega)]
 have x:=af z;clear z ac F;go_wp2;go_ret;exact⟨bP (fun e=>Ending.returned (.string (ai e))) (aE.trans Q.symm),x⟩}))
section
attribute [local go_sem] Oper.semAt_some
def i9(a:Int)(b:aj):Bool:=b.type != a
def ln(b:ah)(a:Nat×List aj):Bool:=!i5 (bO a) && !a.2.any (i9 (if bO a==b then 2 else 1))
def rE(a:List aj)(n:ah):Bool:=(km n a).all (ln n)
theorem Ag{p:Nat×List aj->Bool}{a:List (Nat×List aj)}{i:Nat}{b:Nat×List aj}(c:a[i]? = some b):(a.drop i).all p=(p b&&(a.drop (i+1)).all p):=by obtain⟨ao,rfl⟩:=fy.1 c;rw[fQ ao,nN]
theorem RI(a:aj)(d:Int)(c:Nat)(b:World)(g:b.cell? (aq c 0)=some (ak d))(e:c<b.heap.size):az 183 #[.agg #[au a.owner,ak a.aI,ak a.type,au a.data],aO c] b (aP (.bool (i9 d a)) b):=by go_enter func183,ntmps183;go_wp2;go_ret;exact uB
theorem RJ(b:Int)(a:Nat)(c:World)(h:c.cell? (aq a 0)=some (ak b))(d:a<c.heap.size):PredBelow prog 183 #[aO a] (fun j=>.agg (aj.aX j).toArray) (i9 b) c:=by intro g i hB;refine(RI i b a g ((hB.cell (p:=⟨a,0,none⟩) d).trans h) (cp d hB.size)).mono ?_;exact EO
theorem Im(d:Int)(c e g h:Nat)(b:List aj)(a:World)(l:a.cell? (aq c 0)=some (ak d))(k:c<a.heap.size)(i:cy a e g b)(o:b.length<=3001):az 171 #[aF e g b.length h,.func (.func 183) #[] #[aO c]] a fun j n=>j=.returned (.bool (b.any (i9 d)))/\ax a n:=by have:=AnyQ.slices_ContainsFunc Tryz.acN 4 Tryz.isAgg47 Tryz.sizeOf47 aj.aX (fun _=>rfl) (i9 d) 183 #[aO c] (enters_of func183 aB rfl) e g b.length h b a (RJ d c a l k) av ae i.1 i.2;rw[dK]at this;exact this
theorem RK{a:ah}{c:List aj}{i:Nat}{b:Nat×List aj}(d:Int)(h:Hid (rE c a=(ln a b&&((km a c).drop (i+1)).all (ln a))))(l:i5 (bO b)=false)(k:(if bO b==a then(2:Int)else 1)=d):(b.2.any (i9 d)=false->((km a c).drop (i+1)).all (ln a)=rE c a)/\(b.2.any (i9 d)=true->rE c a=false):=by have g:=ag h;have j:ln a b = !b.2.any (i9 d):=by{unfold ln;rw[l,k];rfl};rw[j]at g;refine⟨fun e=>?_,fun e=>?_⟩;{rw[g,e];rfl};{rw[g,e];rfl}
theorem FG{P:Prop}(h:P:=by gi_wp2_with fail;obtain⟨r1,r2⟩:=bj.2 hm;exact⟨r1,rfl,r2⟩):P:=h
theorem RL(B G W:Nat)(n:ah)(k:List aj)(w:World)(aa:cy w B G k)(aV:k.length<=W)(a3:k.length<=3001)(a4:n.length<=3000)(y:∀r∈k,r.owner.length<=3000):az 111 #[au n,aF B G k.length W] w (aP (.bool (rE k n)) w):=by
 refine(bK (n:=0)).1 ?_;refine callsIn_of_wp_marks func111 rfl aL ?_;simp only[ntmps111,ib,bi,cW,Nat.reduceAdd,Nat.reduceSub,h_,ik,im,il,dJ,dF];have ar:=af aa;have aS:=af y;have E:=aa.1;clear aa y;gi_wp2_with fail;refine⟨aL,rfl,?_⟩;refine(bK.2 (Gf _ _ _ _ _)).mono ?_;rintro u W2 ⟨rfl,aZ,Y,aC,aD⟩;have aX:aW W2 w.heap.size (au n) 9:=((aW.mZ _ _ _).alloc _).below Y cu;have aY:aW W2 (w.heap.size+1) (.bool false) 4:=by
  have:=(aW.mZ (w.alloc (.cells #[.string (ai n)] 9)) (.bool false) 4).below Y cu
  rwa [cv]at this
 have aG:ax w W2:=((aE.alloc av _).alloc am _).trans (Y.mono cu);simp only[cv]at aZ aC aD;gi_wp2_with fail;have a5:=af (ar.below aG);have a2:∀r,ax W2 ((W2.alloc (.deferred (some []))).alloc (.loop r)):=fun r=>(aE.alloc av _).alloc am _;have GN:∀r,((W2.alloc (.deferred (some []))).alloc (.loop r)).heap.size=W2.heap.size+2:=fun r=>by simp
 refine pF (xs:=km n k) (encs:=fun e:Nat×List aj=>#[au (bO e),aF B (G+e.1*4) e.2.length e.2.length]) (St:=fun z A=>Below (W2.heap.size+2) z A) (Kp:=fun z A=>(A.heap[B]? = z.heap[B]?/\A.heap[w.heap.size+1+1+1]? = z.heap[w.heap.size+1+1+1]?)/\bw (W2.heap.size+2) z A) (Kx:=fun z A=>bw (W2.heap.size+2) z A)
  (gf:=235) (lb:=#[aO (w.heap.size+1+1),aO (w.heap.size+1+1+1)]) rfl (enters_of func235 aB rfl) (fun _=>rfl) ?seq
  [B,w.heap.size+1+1+1] aA (fun _ _ _ j=>j) (fun z A j a0=>⟨⟨j _ am,j _ am⟩,a0⟩) (fun _ _ j=>j)
  (fun i b=>((km n k).drop i).all (ln n)=rE k n/\ax w b/\aW b w.heap.size (au n) 9/\aW b (w.heap.size+1) (.bool false) 4)
  (fun c b=>c=.ret/\rE k n=false/\ax w b/\aW b (w.heap.size+1) (.bool false) 4)
  (fun i z A j E=>⟨j.1,j.2.1.trans (E.mono ae),j.2.2.1.below E ae,j.2.2.2.below E ae⟩)
  (fun c z A j E=>⟨j.1,j.2.1,j.2.2.1.trans (E.mono ae),j.2.2.2.below E ae⟩)
  ⟨rfl,aG,aX,aY⟩
  ?round ?done ?stop
 case seq =>
  intro r;have hg:=a2 r;have:=GC B G W (w.heap.size+1+1) (w.heap.size+1+1+1) n k ((W2.alloc (.deferred (some []))).alloc (.loop r)) (a5.below hg) aV ((hg.cell (p:=⟨w.heap.size+1+1,0,none⟩) sI).trans aC) ((hg.cell (p:=⟨w.heap.size+1+1+1,0,none⟩) Cm).trans aD) ij ij a3 a4 (ag aS);exact yH
 case round =>
  intro Q i e a8 b aK K aJ;gi_wp2_with fail;refine⟨aL,?_⟩;obtain⟨M,x,N,C⟩:=K;have ba:=N.cell;have Z:=(dg.1 (ki aK)).1;have ay:=pj (ar.below x) Z;have bb:=oo Z;have ab:=Ag (p:=ln n) aK;rw[M]at ab;have an:=af ab;have aR:=af N;have O:=af C;have aw:=af ay;have ad:((ai (bO e)).toList==(ai n).toList)=(bO e==n):=oi;have aT:=N.lt;have F:=C.lt;clear M ab N C Z ay;have aH:=fun R=>Gs (ai (bO e)) R;have U:Hid (∀R,az 124 #[au (bO e)] R fun u a7=>u=.returned (.bool (i5 (bO e)))/\a7=R):=aH;clear aH
  -- what follows a tested owner,at a world that only has In
  have J:∀(P:Int) (g l:World),ax b g->ax g l->i5 (bO e)=false->(if bO e==n then(2:Int)else 1)=P ->
    Hid ((e.2.any (i9 P)=false->bw W2.heap.size b l/\(∀T∈[B,w.heap.size+1+1+1],l.heap[T]? = b.heap[T]?)/\(((km n k).drop (i+1)).all (ln n)=rE k n/\ax w l/\aW l w.heap.size (au n) 9/\aW l (w.heap.size+1) (.bool false) 4)) /\
     (e.2.any (i9 P)=true->bw W2.heap.size b (l.setCell ⟨w.heap.size+1,0,none⟩ (.bool false))/\rE k n=false/\ax w (l.setCell ⟨w.heap.size+1,0,none⟩ (.bool false))/\aW (l.setCell ⟨w.heap.size+1,0,none⟩ (.bool false)) (w.heap.size+1) (.bool false) 4)):=by
   intro P g l h a1 H y;have aI:=RK P an H y;have D:=h.trans (a1.mono h.size);have a9:=D.size;refine⟨fun u=>⟨bw.zq D,fun T hk=>D.block T ux,aI.1 u,x.trans (D.mono x.size),aR.below D aT,O.below D F⟩,fun u=>⟨(bw.zq D).trans (bw.setCell l _ _ ae),aI.2 u,(x.trans (D.mono x.size)).setCell c9 _,(O.below D F).set _⟩⟩
  cases H:i5 (bO e)
  ·cases y:bO e==n
   ·rw[y]at ad;gi_wp2_with fail;refine⟨aL,rfl,?_⟩;refine(CallsIn.inRound Q (bK.2 (U _))).mono ?_;rintro u g ⟨rfl,t⟩;have h:ax b g:=by rw[t];exact qx
    have V:g.cell? (aq b.heap.size 0)=some (ak 1):=by rw[t];go_simp
    have ac:b.heap.size<g.heap.size:=by rw[t];simp
    clear t;have al:=af (Im 1 b.heap.size B (G+e.1*4) e.2.length e.2 g V ac (aw.below h) ae);gi_wp2_with fail;refine⟨aL,rfl,?_⟩;refine(CallsIn.inRound Q (bK.2 (ag al))).mono ?_;rintro u l ⟨rfl,L⟩;have bj:=J 1 g l h L H (by rw[y];rfl);have q:=((O.below h F).below L (cp F h.size))
    have ao:=q.cell;have ap:=q.frozen;clear J q;cases hm:e.2.any (i9 1)
    ·gi_wp2_with fail;exact bj.1 hm
    ·exact FG
   ·rw[y]at ad;gi_wp2_with fail;refine⟨aL,rfl,?_⟩;refine(CallsIn.inRound Q (bK.2 (U _))).mono ?_;rintro u g ⟨rfl,t⟩;have h:ax b g:=by rw[t];exact qx
    have V:g.cell? (aq b.heap.size 0)=some (ak 2):=by rw[t];go_simp
    have ac:b.heap.size<g.heap.size:=by rw[t];simp
    clear t;have al:=af (Im 2 b.heap.size B (G+e.1*4) e.2.length e.2 g V ac (aw.below h) ae);gi_wp2_with fail;refine⟨aL,rfl,?_⟩;refine(CallsIn.inRound Q (bK.2 (ag al))).mono ?_;rintro u l ⟨rfl,L⟩;have bj:=J 2 g l h L H (by rw[y];rfl);have q:=((O.below h F).below L (cp F h.size))
    have ao:=q.cell;have ap:=q.frozen;clear J q;cases hm:e.2.any (i9 2)
    ·gi_wp2_with fail;exact bj.1 hm
    ·exact FG
  ·have I:Hid (rE k n=false):=by
    rw[Hid,ag an,ln,H];rfl
   clear J;cases y:bO e==n
   all_goals
    rw[y]at ad;gi_wp2_with fail;refine⟨aL,rfl,?_⟩;refine(CallsIn.inRound Q (bK.2 (U _))).mono ?_;rintro u g ⟨rfl,t⟩;have h:ax b g:=by
     rw[t]
     first
     | exact aE.alloc av _
     | exact((Below.refl _ _).alloc (Nat.le_refl _) _).setCell (p:=⟨b.heap.size,0,none⟩) (Nat.le_refl b.heap.size) _
    clear t;have q:=O.below h F;have ao:=q.cell;have ap:=q.frozen;have aQ:=af q;clear q;have bc:=h.size;gi_wp2_with fail;refine⟨aL,?_⟩;gi_wp2_with fail;exact⟨(bw.zq h).trans (bw.setCell g _ _ ae),rfl,I,(x.trans (h.mono x.size)).setCell c9 _,aQ.set _⟩
 case done =>
  intro b K S aJ;obtain⟨M,x,N,C⟩:=K;have aU:=C.cell;have a_:=C.frozen;have I:Hid (rE k n=true):=by
   rw[Hid,<- M,jr av];rfl
  clear M;gi_wp2_with fail;have aN:=(bC b (aq (w.heap.size+1) 0) (.bool true) W2.heap.size Ct).trans S;refine⟨am,.inl ⟨_,_,rfl,run_takeDeferred aN,?_⟩⟩;have X:=((C.set (.bool true)).put (d:=W2.heap.size) (o:=.deferred none) ae).cell;refine⟨.bool true,by simp[results,results111,go_sem,X],by rw[ag I],?_⟩;exact(x.setCell c9 _).trans (belowK_b (w:=W2) ae _ _ _ _ av aN rfl rfl)
 case stop =>
  intro c b K S aJ;obtain⟨rfl,aM,x,C⟩:=K;have I:=af aM;clear aM;have aU:=C.cell;gi_wp2_with fail;refine⟨am,.inl ⟨_,_,rfl,run_takeDeferred S,?_⟩⟩;have X:=(C.put (d:=W2.heap.size) (o:=.deferred none) ae).cell;have a6:=x.trans (belowK_b (w:=W2) (show w.heap.size<=W2.heap.size by omega) b _ _ (.deferred none) av S rfl rfl);exact⟨.bool false,by simp[results,results111,go_sem,X],by rw[ag I],a6⟩
end
end Go.Proofs.YtkkpahmoljiepaaGreatDoor
