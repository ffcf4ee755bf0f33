import Derived.Test.YtkkpahmoljiepaaGreatDoorJ11
set_option maxRecDepth 1000000
set_option maxHeartbeats 12800000
set_option linter.unusedSimpArgs false
set_option linter.unusedVariables false
namespace Go.Proofs.YtkkpahmoljiepaaGreatDoor
open Go.RowKit Go.Proofs.Tryz
theorem I_(a b:ah):((ai a).toList==(ai b).toList)=(a==b):=by rw[c7,c7];rfl
theorem Ts{b c:List ah}{a:Nat}(e:a<b.length)(g:a<c.length)(d:b.take a=c.take a)(h:b[a]=c[a]):b.take (a+1)=c.take (a+1):=by rw[du e,du g,d,h]
theorem lJ(v z:Value)(b c:List ah)(h:World)(H:eY h v b)(I:eY h z c)(W:b.length<=1000)(X:c.length<=1000):az 117 #[v,z] h (aP (.bool (decide (b=c))) h):=by
 obtain⟨P,Y,N,rfl,R,t⟩:=H;obtain⟨Q,Z,O,rfl,S,j⟩:=I;have T:=t.1;have U:=j.1;by_cases o:b.length=c.length;{
 have E:((b.length:Int) != (c.length:Int))=false:=by rw[bne_eq_false_iff_eq];omega
 have K:=af t;have L:=af j;have u:=af o;clear o t j;go_enter func117,ntmps117;go_wp2_with fail;go_loopw [5] (fun r wr=>∃a:Nat,a<=b.length/\r=ak a/\b.take a=c.take a/\ax h wr) (fun r _=>b.length-(intOf r).toNat);case atStart=>exact Cu
 case round =>(
 obtain⟨a,V,rfl,n,g⟩:=hrel;have w:=af n;have k:=af g;by_cases x:a<b.length;{
 have G:(a:Int)<(b.length:Int):=ae;have y:a<c.length:=by have:=ag u;omega
 have M:(a:Int)<(c.length:Int):=ae;have ap:=(K.below g).2 a x;have F:=(L.below g).2 a y;obtain⟨A,p⟩:=a2 (b[a]);obtain⟨B,q⟩:=a2 (c[a]);rw[<- p]at ap;rw[<- q]at F;have C:=I_ A B;have i:=af (aQ p q);clear p q n g;cases e:(A==B);{have l:=af e;rw[e]at C;clear e;go_wp2_with fail;go_quiet (fail);go_wp2;go_ret;refine⟨cd ?_,fm (ag k) nq⟩;rw[eD];rintro rfl;have d:=ag l;rw[i.1,i.2]at d;simp at d};{have l:=af e;rw[e]at C;clear e;go_wp2_with fail;go_quiet (fail);go_wp2_with fail;refine⟨⟨a+1,ae,bq,Ts x y (ag w) ?_,fm (ag k) nq⟩,ci⟩;have d:=ag l;rw[i.1,i.2]at d;simpa using d}};{have G:¬(a:Int)<(b.length:Int):=ae;have J:a=b.length:=ae;have D:Hid (b=c):=by{have d:=ag w;rw[J,dK,ag u,dK]at d;exact d};clear n g;go_wp2;go_ret;exact⟨cd (by rw[eC (ag D)]),k⟩})};{
 have E:((b.length:Int) != (c.length:Int))=true:=o3
 go_enter func117,ntmps117;go_wp2;go_ret;exact⟨cd (by rw[eD (fun d=>o (by rw[d]))]),bk _ _⟩}
def gq(a b:List ah):Bool:=decide (b.length<=a.length)&&decide (a.drop (a.length-b.length)=b)
theorem wM{g:World}{c d cap:Nat}{b:List ah}(e:gJ g c d b)(j:b.length<=cap)(a:Nat)(k:a<=b.length):eY g (aF c (d+a) (b.length-a) (cap-a)) (b.drop a):=by refine⟨c,d+a,cap-a,by rw[c8],o2,e.1,fun i h=>?_⟩;rw[c8]at h;rw[nE,e.2 (a+i) ae,o_]
theorem wN(v l:Value)(b a:List ah)(c:World)(q:eY c v b)(k:eY c l a)(F:b.length<=1000)(u:a.length<=1000)(C:0<a.length):az 119 #[v,l] c (aP (.bool (gq b a)) c):=by
 have o:=af k;obtain⟨A,H,p,rfl,t,g⟩:=q;obtain⟨B,I,y,rfl,D,_⟩:=k;have E:=g.1;by_cases e:a.length<=b.length;{
 have n:¬(b.length:Int)<(a.length:Int):=ae;have h:=af (lJ _ _ _ a c (wM g t (b.length-a.length) ae) (ag o) o2 u);have i:Hid (gq b a=decide (b.drop (b.length-a.length)=a)):=by unfold gq;rw[Hid,eC e];rfl
 obtain⟨d,j⟩:=a2 (b.length-a.length);rw[<- j]at h i;have x:(b.length:Int)-(a.length:Int)=(d:Int):=ae;have G:d<=b.length:=ae;clear g j e;go_enter func119,ntmps119;have w:¬p=d:=ae;go_wp2_with fail;refine h.mono ?_;rintro z J ⟨rfl,r⟩;go_wp2;go_ret;exact⟨cd i.symm,r⟩};{have n:(b.length:Int)<(a.length:Int):=ae;go_enter func119,ntmps119;go_wp2;go_ret;exact⟨cd (by unfold gq;rw[eD e];rfl),bk _ _⟩}
def oK:List ah->ah
 | []=>[]
 | [a]=>a
 | a::c::b=>a++46::oK (c::b)
theorem wO(a:ah):oK (aC 46 a)=a:=by
 have n:∀(e:Nat) (a:ah),a.length<=e->oK (aC 46 a)=a:=by{
 intro e;induction e with
 | zero=>intro a h;obtain rfl:a=[]:=df ae;rfl
 | succ e l =>{
 intro a h;cases a with
 | nil=>rfl
 | cons p d =>{
 have b:=l d (by simp at h;omega);unfold aC;split;{
 rename_i k;subst k;have j:=io 46 d;cases c:aC 46 d with
 | nil=>exact absurd c j
 | cons i g =>{rw[c]at b;rw[oK,b];rfl}};{
 cases c:aC 46 d with
 | nil=>exact absurd c (io 46 d)
 | cons i g =>{
 rw[c]at b;cases g with
 | nil=>simp only[oK]at b ⊢; rw[b]
 | cons o g=>simp only[oK]at b ⊢; rw[dF,b]}}}}};exact n a.length a av
theorem Ja:∀(b:List ah) (a:Nat),fZ true a b=jA a b
 | [],_=>rfl
 | d::c,a=>by rw[fZ,jA,Ja c (a+1)];unfold k_ l0;rw[uS]
theorem Jb:∀(b:List ah) (a:Nat),fZ false a b=b.all fA
 | [],_=>rfl
 | d::c,a=>by rw[fZ,Jb c (a+1)];unfold k_;rw[rd,zt,nN]
theorem Jc:∀(b:List ah) (a:Nat),0<a->jA a b=b.all fA
 | [],_,_=>rfl
 | d::c,a,ao=>by rw[jA,Jc c (a+1) ae,nN];unfold l0;rw[show(a==0)=false by simp;omega];simp
theorem tG(s:ah):(dS true s).isSome=jh s:=by unfold dS jh;rw[Ja];by_cases a:s.length<=60<;>cases b:jA 0 (aC 46 s)<;>simp[a]
theorem wP{a:ah}{b:List ah}{s:ah}(c:aC 46 s=a::b)(d:a≠[]):s.head? = a.head?:=by
 have:=wO s;rw[c]at this;rw[<- this];cases b with
 | nil=>rfl
 | cons e b =>{
 rw[oK];cases a with
 | nil=>exact absurd rfl d
 | cons h g=>rfl}
theorem l7(s:ah):(dS false s).isSome=dQ s:=by
 unfold dS dQ jh i5 Lib.hasPrefix;rw[Jb];by_cases g:s.length<=60;{
 have j:=io 46 s;cases d:aC 46 s with
 | nil=>exact absurd d j
 | cons a i =>{
 rw[jA,Jc i 1 ae,nN];unfold l0;cases b:fA a;{
 -- no fA: a name only where it is the star
 simp only[nH,mF];by_cases e:a=[42];{
 have:=wP d (by rw[e];simp);rw[e]at this;have c:([42]:ah).isPrefixOf s=true:=by{
 cases s with
 | nil=>simp at this
 | cons n l=>simp at this;subst this;simp[List.isPrefixOf]};rw[c];simp};{rw[show(a==[42])=false by simpa using e];simp}};{
 have c:([42]:ah).isPrefixOf s=false:=by{
 have h:a≠[]:=by rintro rfl;simp[fA]at b
 have:=wP d h;cases a with
 | nil=>exact absurd rfl h
 | cons n l =>{
 cases s with
 | nil=>rfl
 | cons o p =>{
 simp at this;subst this;unfold fA at b;simp only[bW,nN]at b;have k:=b.2.1;have:o≠42:=by rintro rfl;revert k;decide
 simp[List.isPrefixOf,rl this]}}};rw[c];cases i.all fA<;>simp[g]}}};{simp[g]}
theorem wQ(s:ah)(e:World)(n:s.length<=1000000):az 63 #[au s,.bool false] e fun c h=>((dQ s=true/\∃d l i,c=.returned (aF d 0 l i))\/(dQ s=false/\c=.returned (aJ)))/\ax e h:=by
 refine(rt s false e ae).mono ?_;rintro c h ⟨⟨v,rfl,b⟩,k⟩;refine⟨?_,k⟩;have a:=l7 s;cases g:dS false s with
 | none =>{rw[g]at b a;obtain rfl:v=aJ:=b;exact .inr ⟨a.symm,rfl⟩}
 | some o =>{rw[g]at b a;obtain⟨_,d,j,rfl,_⟩:=b;exact .inl ⟨a.symm,d,_,j,rfl⟩}
def wR(f:ah->Bool):List ah->Bool
 | [a]=>f a
 | _=>false
def Jd(f c:ah->Bool):List ah->Bool
 | [a,b]=>f a&&c b
 | _=>false
def Je(f:ah->ah->ah->ah->Bool):List ah->Bool
 | [a,b,c,d]=>f a b c d
 | _=>false
theorem DI{f:ah->Bool}{b:List ah}(a:b.length≠1):wR f b=false:=by
 match b,a with
 | [],_=>rfl
 | [c],a=>exact absurd rfl a
 | c::e::d,_=>rfl
theorem Tt{f d:ah->Bool}{b:List ah}(a:b.length≠2):Jd f d b=false:=by
 match b,a with
 | [],_=>rfl
 | [c],_=>rfl
 | [c,e],a=>exact absurd rfl a
 | c::e::h::g,_=>rfl
theorem Tu{f:ah->ah->ah->ah->Bool}{c:List ah}(b:c.length≠4):Je f c=false:=by
 match c,b with
 | [],_=>rfl
 | [a],_=>rfl
 | [a,d],_=>rfl
 | [a,d,e],_=>rfl
 | [a,d,e,g],b=>exact absurd rfl b
 | a::d::e::g::v::h,_=>rfl
theorem Tv(a:Int)(c:a=2\/a=5)(b:List ah):cQ a b=wR dQ b:=by
 rcases c with rfl|rfl;all_goals(
 match b with
 | []=>rfl
 | [d]=>rfl
 | d::g::e=>rfl)
theorem Ta(a:List ah):cQ 1 a=wR m2 a:=by
 match a with
 | []=>rfl
 | [b]=>rfl
 | b::d::c=>rfl
theorem Tb(a:List ah):cQ 16 a=wR iL a:=by
 match a with
 | []=>rfl
 | [b]=>rfl
 | b::d::c=>rfl
theorem Tc(a:List ah):cQ 15 a=Jd (cf 65535) dQ a:=by
 match a with
 | []=>rfl
 | [b]=>rfl
 | [b,c]=>rfl
 | b::c::e::d=>rfl
theorem Td(b:List ah):cQ 6 b=Je (fun e g h i=>dQ e&&dQ g&&cf 4294967295 h&&cf 86400 i) b:=by
 match b with
 | []=>rfl
 | [a]=>rfl
 | [a,c]=>rfl
 | [a,c,d]=>rfl
 | [a,c,d,j]=>rfl
 | a::c::d::j::v::k=>rfl
theorem lc{e:World}{b d:Nat}{c:List ah}(h:gJ e b d c)(a:Nat)(g:ah)(j:c[a]? = some g):e.cell? (aq b (d+a))=some (au g):=by obtain⟨i,rfl⟩:=fy.1 j;exact h.2 a i
theorem BZ{P:Prop}(h:P:=by have:=ag HW x am;omega):P:=h
theorem Fn{P:Prop}(h:P:=by have px:=af hp;clear hp;go_wp2;go_ret;exact⟨cd (by rw[ag HD];exact px.symm),hb1⟩):P:=h
theorem Jf(b:Int)(g:b=2\/b=5)(i l h:Nat)(a:List ah)(d:World)(e:gJ d i l a)(r:a.length<=3001)(q:a.length<=h)(k:∀x∈a,x.length<=3000):az 116 #[ak b,aF i l a.length h] d (aP (.bool (cQ b a)) d):=by
 have z:=e.1;have n:=af e;have HW:=af k;clear e k;have HD:=af (Tv b g a);by_cases c:a.length=1;{
 obtain⟨x,rfl⟩:∃x,a=[x]:=by{
 match a,c with
 | [x],_=>exact⟨x,rfl⟩};have p:=lc (ag n) 0 x rfl;rw[dT]at p;have o:=af (wQ x d BZ);have j:([x]:List ah).length=1:=rfl;rw[j]at q ⊢;clear c r j;rcases g with rfl|rfl;all_goals(go_enter func116,ntmps116;go_wp2_with fail;refine o.mono ?_;rintro w C ⟨⟨hp,y,A,u,rfl⟩|⟨hp,rfl⟩,hb1⟩;{exact Fn};{exact Fn})};{
 have B:((a.length:Int)==1)=false:=eP
 have t:=af (HD.trans (DI c));clear c;rcases g with rfl|rfl;all_goals(go_enter func116,ntmps116;go_wp2;go_ret;exact⟨cd t.symm,bk _ _⟩)}
theorem EE{P:Prop}(h:P:=by have px:=af hp;clear hp;go_wp2;go_ret;exact⟨cd (by rw[ag nB,ag zT,ag px];rfl),hb2⟩):P:=h
theorem Cc{P:Prop}(h:P:=by clear h1;go_enter func116,ntmps116;go_wp2;go_ret;exact⟨cd zX.symm,bk _ _⟩):P:=h
theorem Te(j n i:Nat)(a:List ah)(c:World)(e:gJ c j n a)(u:a.length<=3001)(t:a.length<=i)(l:∀x∈a,x.length<=3000):az 116 #[ak 15,aF j n a.length i] c (aP (.bool (cQ 15 a)) c):=by
 have A:=e.1;have g:=af e;have HW:=af l;clear e l;have h:=af (Tc a);by_cases h1:a.length=2;{
 obtain⟨x,b,rfl⟩:∃x b,a=[x,b]:=by{
 match a,h1 with
 | [x,b],_=>exact⟨x,b,rfl⟩};have p:=lc (ag g) 0 x rfl;have ap:=lc (ag g) 1 b rfl;rw[dT]at p;have o:=af (wQ b c (by have:=ag HW b am;omega));have q:=af (ph x 65535 c BZ ae);have k:([x,b]:List ah).length=2:=rfl;rw[k]at t ⊢;have nB:Hid (cQ 15 [x,b]=(cf 65535 x&&dQ b)):=ag h;clear h1 u k;go_enter func116,ntmps116;go_wp2_with fail;refine q.mono ?_;rintro r D ⟨⟨v,rfl,_⟩,w⟩;subst w;cases d:cf 65535 x;{have zT:=af d;clear d;go_wp2;go_ret;exact⟨cd (by rw[ag nB,ag zT];rfl),bk _ _⟩};{have zT:=af d;clear d;go_wp2_with fail;refine o.mono ?_;rintro r E ⟨⟨hp,z,B,y,rfl⟩|⟨hp,rfl⟩,hb2⟩;{exact EE};{exact EE}}};{
 have C:((a.length:Int) != 2)=true:=o3
 have zX:=af (h.trans (Tt h1));exact Cc}
theorem DM{P:Prop}(h:P:=by go_wp2;go_ret;exact⟨cd (by rw[ag nB,ag zT];simp),bk _ _⟩):P:=h
theorem ET{P:Prop}(h:P:=by have Yo:=af hp;clear hp;go_wp2;go_ret;exact⟨cd (by rw[ag nB,ag agV,ag agW,ag px,ag Yo];rfl),hb2.trans (hb3.mono hb2.size)⟩):P:=h
theorem Tf(k o r:Nat)(a:List ah)(e:World)(l:gJ e k o a)(D:a.length<=3001)(B:a.length<=r)(u:∀x∈a,x.length<=3000):az 116 #[ak 6,aF k o a.length r] e (aP (.bool (cQ 6 a)) e):=by
 have C:=l.1;have h:=af l;have HW:=af u;clear l u;have q:=af (Td a);by_cases h1:a.length=4;{
 obtain⟨x,d,c,b,rfl⟩:∃x d c b,a=[x,d,c,b]:=by{
 match a,h1 with
 | [x,d,c,b],_=>exact⟨x,d,c,b,rfl⟩};have A:=lc (ag h) 0 x rfl;have ap:=lc (ag h) 1 d rfl;have J:=lc (ag h) 2 c rfl;have L:=lc (ag h) 3 b rfl;rw[dT]at A;have y:=af (wQ x e BZ);have w:=af (fun z=>wQ d z (by have:=ag HW d am;omega));have E:=af (ph c 4294967295 e (by have:=ag HW c am;omega) ae);have G:=af (ph b 86400 e (by have:=ag HW b am;omega) ae);have t:([x,d,c,b]:List ah).length=4:=rfl;rw[t]at B ⊢;have nB:Hid (cQ 6 [x,d,c,b]=(dQ x&&dQ d&&cf 4294967295 c&&cf 86400 b)):=ag q;clear h1 D t;go_enter func116,ntmps116;go_wp2_with fail;refine E.mono ?_;rintro j F ⟨⟨v,rfl,_⟩,n⟩;subst n;go_wp2_with fail;refine G.mono ?_;rintro j F ⟨⟨R,rfl,_⟩,n⟩;subst n;cases g:cf 4294967295 c;{have zT:=af g;clear g;exact DM};cases i:cf 86400 b;{have zT:=af i;clear i g;exact DM};have agV:=af g;have agW:=af i;clear g i;go_wp2_with fail;refine y.mono ?_;rintro j S ⟨⟨hp,M,O,H,rfl⟩|⟨hp,rfl⟩,hb2⟩;{have px:=af hp;have I:=(hb2.cell (p:=⟨k,o+1,none⟩) C).trans ap;clear hp;go_wp2_with fail;refine(w _).mono ?_;rintro j T ⟨⟨hp,N,P,K,rfl⟩|⟨hp,rfl⟩,hb3⟩;{exact ET};{exact ET}};{have px:=af hp;clear hp;go_wp2;go_ret;exact⟨cd (by rw[ag nB,ag px];rfl),hb2⟩}};{
 have Q:((a.length:Int) != 4)=true:=o3
 have zX:=af (q.trans (Tu h1));exact Cc}
theorem Tg(a:UInt8):(mY a.toNat=true/\33<=(a.toNat:Int)/\(a.toNat:Int)<=126)\/(mY a.toNat=false/\((a.toNat:Int)<33\/126<(a.toNat:Int))):=by unfold mY;by_cases b:33<=(a.toNat:Int)/\(a.toNat:Int)<=126;{left;exact⟨aA,b⟩};{right;refine⟨?_,ae⟩;rw[pq,ro,ro];omega}
theorem D7{P:Prop}(h:P:=by
 have a_:Hid (iL x=false):=by unfold iL;rw[Hid];simp;omega
 go_enter func116,ntmps116;go_wp2;go_ret;exact⟨cd (by rw[ag nB,ag a_]),bk _ _⟩):P:=h
theorem E1{P:Prop}(h:P:=by
 {
 have qy:((ls.length:Int) != 1)=true:=o3
 have zX:=af (HD.trans (DI h1));exact Cc}):P:=h
theorem Th(o w n:Nat)(ls:List ah)(d:World)(b:gJ d o w ls)(C:ls.length<=3001)(B:ls.length<=n)(t:∀x∈ls,x.length<=3000):az 116 #[ak 16,aF o w ls.length n] d (aP (.bool (cQ 16 ls)) d):=by
 have H:=b.1;have j:=af b;have k:=af t;clear b t;have HD:=af (Tb ls);by_cases h1:ls.length=1;{
 obtain⟨x,rfl⟩:∃x,ls=[x]:=by{
 match ls,h1 with
 | [x],_=>exact⟨x,rfl⟩};have z:=lc (ag j) 0 x rfl;rw[dT]at z;have J:=ag k x am;have K:=a7 x;have q:([x]:List ah).length=1:=rfl;rw[q]at B ⊢;have nB:Hid (cQ 16 [x]=iL x):=ag HD;clear h1 C q HD k j;by_cases L:(x.length:Int)<1;{
 exact D7};by_cases M:(40:Int)<(x.length:Int);{
 exact D7};go_enter func116,ntmps116;go_wp2_with fail;go_loopw [11] (fun i wr=>∃a:Nat,a<=x.length/\i=ak a/\(x.take a).all (fun g=>mY g.toNat)=true/\wr=d) (fun i _=>x.length-(intOf i).toNat);case atStart=>exact⟨0,b6 _,rfl,rfl,rfl⟩
 case round =>(obtain⟨a,I,rfl,p,rfl⟩:=hrel;have l:=af p;clear p;by_cases r:a<x.length;{have A:(a:Int)<(x.length:Int):=ae;have F:=af (G3 x a r);obtain⟨y,h⟩:=a2 (x[a]);have G:∀b:a<(ai x).size,(ai x)[a]=y:=fun b=>h.symm;have u:=af h;clear h;rcases Tg y with⟨c,b⟩|⟨c,b⟩;{have e:=af c;clear c;go_wp2;exact⟨⟨a+1,ae,bq,by rw[ag F,pu,ag l,<- ag u];simp[ag e],o7⟩,ci⟩};{have e:=af c;clear c;have a_:Hid (iL x=false):=by{have D:x[a]∈x:=bM r;rw[Hid];unfold iL;have:x.all (fun g=>mY g.toNat)=false:=by{rw[rg];exact⟨_,D,by rw[<- ag u,ag e];simp⟩};rw[this];rfl};rcases b with b|b;all_goals(go_wp2;go_ret;exact⟨cd (by rw[ag nB,ag a_]),bk _ _⟩)}};{have A:¬(a:Int)<(x.length:Int):=ae;have E:a=x.length:=ae;have a_:Hid (iL x=true):=by{have:=ag l;rw[E,dK]at this;rw[Hid];unfold iL;rw[this];simp;omega};go_wp2;go_ret;exact⟨cd (by rw[ag nB,ag a_]),bk _ _⟩})};exact E1
theorem T1(w H u:Nat)(ls:List ah)(c:World)(l:gJ c w H ls)(R:ls.length<=3001)(Q:ls.length<=u)(D:∀x∈ls,x.length<=3000):az 116 #[ak 1,aF w H ls.length u] c (aP (.bool (cQ 1 ls)) c):=by
 have ac:=l.1;have p:=af l;have q:=af D;clear l D;have HD:=af (Ta ls);by_cases h1:ls.length=1;{
 obtain⟨x,rfl⟩:∃x,ls=[x]:=by{
 match ls,h1 with
 | [x],_=>exact⟨x,rfl⟩};have r:=lc (ag p) 0 x rfl;rw[dT]at r;have aj:=ag q x am;have G:Hid (az 62 #[au x,.int .u8 46] c fun j I=>(∃v,j=.returned v/\nM I c.heap.size v (aC 46 x))/\ax c I):=qI x 46 c ae;have Y:(aC 46 x).length<=3001:=by have:=iq 46 x;omega
 have V:Hid (∀y∈aC 46 x,y.length<=3000):=fun y hy=>B7
 have U:=af (io 46 x);have B:([x]:List ah).length=1:=rfl;rw[B]at Q ⊢;have F:Hid (cQ 1 [x]=((aC 46 x).all (cf 255)&&(aC 46 x).length==4)):=ag HD;clear h1 R B HD q p;generalize aC 46 x=a at *;go_enter func116,ntmps116;go_wp2_with fail;refine G.mono ?_;rintro j W ⟨⟨v,rfl,C⟩,A⟩;obtain⟨O,ab,rfl,Z,_,k⟩:=l6 C (ag U);have J:=af k;have i:=af A;have ad:=k.1;clear C A k G r;go_wp2_with fail;go_loopw [13] (fun n wr=>∃b:Nat,b<=a.length/\n=ak b/\(a.take b).all (cf 255)=true/\wr=W) (fun n _=>a.length-(intOf n).toNat);case atStart=>exact⟨0,b6 _,rfl,rfl,rfl⟩
 case round =>(
 obtain⟨b,ai,rfl,z,rfl⟩:=hrel;have t:=af z;clear z;by_cases g:b<a.length;{
 have P:(b:Int)<(a.length:Int):=ae;have X:=af (du g);obtain⟨y,hy⟩:=a2 (a[b]);have ap:wr.cell? (aq O b)=some (au y):=by{have:=J.2 b g;rw[cT]at this;rw[hy];exact this};have aa:y.length<=3000:=by rw[hy];exact V _ (bM g)
 have N:=af (fun M=>ph y 255 M ae ae);have E:=af hy;clear hy;go_wp2_with fail;refine(N _).mono ?_;rintro j al ⟨⟨v,rfl,_⟩,S⟩;subst S;cases h:cf 255 y;{have d:Hid (cQ 1 [x]=false):=by{rw[Hid,ag F];have:a.all (cf 255)=false:=by{rw[rg];exact⟨a[b],bM g,by rw[<- ag E,h];simp⟩};rw[this];rfl};clear h;go_wp2;go_ret;exact⟨cd d.symm,i⟩};{
 have L:Hid ((a.take (b+1)).all (cf 255)=true):=by rw[Hid,ag X,pu,ag t,<- ag E];simp[h]
 clear h;go_wp2;exact⟨⟨b+1,ae,bq,L,o7⟩,ci⟩}};{
 have P:¬(b:Int)<(a.length:Int):=ae;have T:b=a.length:=ae;have d:Hid (cQ 1 [x]=(a.length==4)):=by{have:=ag t;rw[T,dK]at this;rw[Hid,ag F,this];rfl};by_cases e:a.length=4;{
 have K:((a.length:Int)==4)=true:=ni
 have o:=af e;clear e;go_wp2;go_ret;exact⟨cd (by rw[ag d,ag o];rfl),i⟩};{
 have K:((a.length:Int)==4)=false:=eP
 have o:=af e;clear e;go_wp2;go_ret;exact⟨cd (by rw[ag d];exact(eW.2 (ag o)).symm),i⟩}})};exact E1
theorem Jh(a:ah):d_ a=0\/d_ a=1\/d_ a=2\/d_ a=5\/d_ a=6\/d_ a=15\/d_ a=16:=by unfold d_;split;{simp};split;{simp};split;{simp};split;{simp};split;{simp};split;{simp};{simp}
theorem T2(l:ah)(o:0<d_ l)(e g d:Nat)(b:List ah)(c:World)(h:gJ c e g b)(j:b.length<=3001)(i:b.length<=d)(k:∀n∈b,n.length<=3000):az 116 #[ak (d_ l),aF e g b.length d] c (aP (.bool (cQ (d_ l) b)) c):=by rcases Jh l with a|a|a|a|a|a|a;{omega};{rw[a];exact T1 e g d b c h j i k};{rw[a];exact Jf 2 (.inl rfl) e g d b c h j i k};{rw[a];exact Jf 5 (.inr rfl) e g d b c h j i k};{rw[a];exact Tf e g d b c h j i k};{rw[a];exact Te e g d b c h j i k};{rw[a];exact Th e g d b c h j i k}
theorem T3(a:List ah):cQ 0 a=false:=by unfold cQ;rw[ar ba,ar ba,ar ba,ar ba,ar ba]
theorem hP(a:UInt8):∀(g:ah),(a ∉ g/\aC a g=[g])\/∃b d,g=b++a::d/\a ∉ b/\aC a g=b::aC a d
 | []=>.inl ⟨am,rfl⟩
 | c::i=>by
  by_cases k:c=a;{subst k;exact .inr ⟨[],i,rfl,am,m1 c [] i am⟩};{
  rcases hP a i with⟨h,_⟩|⟨b,d,h,l,_⟩;{
  have e:a ∉ c::i:=by simp only[co,pB];exact⟨fun j=>k j.symm,h⟩
  exact .inl ⟨e,m0 a _ e⟩};{
  have e:a ∉ c::b:=by simp only[co,pB];exact⟨fun j=>k j.symm,l⟩
  refine .inr ⟨c::b,d,by rw[h];rfl,e,?_⟩;rw[h];exact m1 a (c::b) d e}}
def dd(b:UInt8):List ah->ah
 | []=>[]
 | [a]=>a
 | a::d::c=>a++b::dd b (d::c)
theorem oM(a:UInt8)(s:ah):dd a (aC a s)=s:=by
 have k:∀(b:Nat) (s:ah),s.length<=b->dd a (aC a s)=s:=by{
 intro b;induction b with
 | zero=>intro s e;obtain rfl:s=[]:=df ae;rfl
 | succ b j =>{
 intro s e;rcases hP a s with⟨_,d⟩|⟨l,c,g,_,d⟩;{rw[d];rfl};{
 have h:=j c (by rw[g]at e;simp at e;omega);rw[d];cases i:aC a c with
 | nil=>exact absurd i (io a c)
 | cons o n =>{rw[i]at h;rw[dd,h,g]}}}};exact k s.length s av
theorem Be(a:UInt8)(c:ah):∀(b:List ah),b≠[]->dd a (b++[c])=dd a b++a::c
 | [],d=>absurd rfl d
 | [g],_=>rfl
 | g::h::e,_=>by rw[dF,dF,dd,<- dF,Be a c (h::e) am,dd];simp
def uQ:List ah->Option aj
 | b::c::d::e::a=>if jh b&&cf 86400 c&&cQ (d_ d) (e::a)then some (b,e_ 86400 c,d_ d,dd 32 (e::a))else none
 | _=>none
theorem T4(s:ah):ea s=uQ (aC 32 s):=by
 unfold ea Lib.splitN;rcases hP 32 s with⟨k,h⟩|⟨b,e,u,k,h⟩;{rw[v7 32 _ s k,h];rfl};have C:s.length=b.length+1+e.length:=by rw[u];simp;omega
 obtain⟨q,z⟩:∃p,min 4 (s.length+1)-1=p+1:=⟨min 4 (s.length+1)-2,ae⟩;rw[z,h];conv=>lhs;rw[u]
 rw[ve 32 q b e k];rcases hP 32 e with⟨l,i⟩|⟨c,g,w,l,i⟩;{rw[v7 32 _ e l,i];rfl};have D:e.length=c.length+1+g.length:=by rw[w];simp;omega
 obtain⟨t,y⟩:∃p,q=p+1:=⟨q-1,ae⟩;rw[y,i];conv=>lhs;rw[w]
 rw[ve 32 t c g l];rcases hP 32 g with⟨n,j⟩|⟨d,a,x,n,j⟩;{rw[v7 32 _ g n,j];rfl};have E:g.length=d.length+1+a.length:=by rw[x];simp;omega
 obtain rfl:t=1:=ae;rw[j];conv=>lhs;rw[x]
 rw[ve 32 0 d a n];have r:=oM 32 a;cases o:aC 32 a with
 | nil=>exact absurd o (io 32 a)
 | cons B A =>{rw[o]at r;show(if jh b&&cf 86400 c&&cQ (d_ d) (aC 32 a)then some (b,e_ 86400 c,d_ d,a)else none)=uQ (b::c::d::B::A);rw[o,uQ,r]}
theorem Bf(b:UInt8)(c:ah):∀(a:ah),aC b (a++b::c)=aC b a++aC b c:=by
 intro a;have k:∀(d:Nat) (a:ah),a.length<=d->aC b (a++b::c)=aC b a++aC b c:=by{
 intro d;induction d with
 | zero=>intro a g;obtain rfl:a=[]:=df ae;exact m1 b [] c am
 | succ d j =>{intro a g;rcases hP b a with⟨h,e⟩|⟨l,n,i,h,e⟩;{rw[e,m1 b a c h];rfl};{rw[e,i,c_,dF,m1 b l _ h,j n (by rw[i]at g;simp at g;omega)];rfl}}};exact k a.length a av
theorem ru{b:UInt8}{a c:ah}(d:aC b a=aC b c):a=c:=by rw[<- oM b a,d,oM]
theorem Ji(b:UInt8):∀(c a:List ah),c≠[]->a≠[]->dd b (c++a)=dd b c++b::dd b a
 | [],_,h,_=>absurd rfl h
 | [i],a,_,d=>by
  cases a with
  | nil=>exact absurd rfl d
  | cons g e=>rfl
 | i::g::e,a,_,d=>by rw[dF,dF,dd,<- dF,Ji b (g::e) a am d,dd];simp
theorem tH(a b:ah):gq (aC 46 a) (aC 46 b)=dU a b:=by
 have j:=io 46 b;unfold gq dU Lib.hasSuffix;rw[i0];simp only[bW,jy,lN,dE,GT];constructor;{
 rintro⟨k,h⟩;have c:=ft ((aC 46 a).length-(aC 46 b).length) (aC 46 a);rw[h]at c;cases e:(aC 46 a).take ((aC 46 a).length-(aC 46 b).length)with
 | nil =>{rw[e,dJ]at c;exact .inl (ru c.symm)}
 | cons d g =>{rw[e]at c;refine .inr ⟨dd 46 (d::g),?_⟩;have:=Ji 46 (d::g) (aC 46 b) am j;rw[c,oM,oM]at this;exact this.symm}};{rintro(rfl|⟨d,i⟩);{exact⟨bb _,am⟩};{rw[<- i,Bf];exact⟨am,am⟩}}
section
variable {κ:Type}
def ld(a:aj->κ):List aj->Prop
 | []=>True
 | d::e=>(∀b c,e=b++c->(∃g∈b,a g≠a d)->∀h∈c,a h≠a d)/\ld a e
theorem ld.drop{k:aj->κ}: ∀(l:List aj) (n:Nat),ld k l->ld k (l.drop n)
 | [],n,a=>by simp;trivial
 | b::t,0,a=>a
 | b::t,n+1,a=>by rw[List.drop_succ_cons];exact ld.drop t n a.2
theorem T5{a b c:List aj}(d:a++b=c):b=c.drop a.length:=by subst d;simp
theorem Jj{b c d:List aj}(e:b++c=d)(a:aj->Bool):d.filter a=b.filter a++c.filter a:=by subst e;simp
theorem T6{b:aj->κ}{a:aj}{c:List aj}(o:ld b (a::c))(bh:aj->aj->Bool)(q:∀j n,bh j n=true ↔ b j=b n):∀i∈c.dropWhile (bh a),b i≠b a:=by
 intro i d;cases g:c.dropWhile (bh a)with
 | nil=>rw[g]at d;cases d
 | cons e t =>{have r:bh a e=false:=by{have:=List.head?_dropWhile_not (bh a) c;rw[g]at this;simpa using this};have k:b e≠b a:=fun h=>by{have:=(q a e).2 h.symm;rw[r]at this;cases this};rw[g]at d;rcases co.1 d with rfl|d;{exact k};{have h:c=(c.takeWhile (bh a)++[e])++t:=by{have:=(lP (p:=bh a) (l:=c)).symm;rw[g]at this;simpa using this};exact o.1 _ _ h ⟨e,am,k⟩ i d}}
theorem Bg{q:aj->κ}(bh:aj->aj->Bool)(d:∀x z,bh x z=true ↔ q x=q z):∀(f j:Nat) (l:List aj),l.length<=f->ld q l->(∀g∈fd bh f j l,∃a∈l,g.2.head? = some a/\g.2=l.filter (bh a))/\(∀a∈l,∃g∈fd bh f j l,g.2=l.filter (bh a))
 | 0,j,l,D,_=>by obtain rfl:l=[]:=df ae;exact⟨fun g e=>(by cases e),fun a u=>(by cases u)⟩
 | f+1,j,[],_,_=>⟨fun g e=>(by cases e),fun a u=>(by cases u)⟩
 | f+1,j,a::b,D,C=>by
  have Q:=(d a a).2 rfl;have E:=T6 C bh d;have i:=lP (p:=bh a) (l:=b);have F:ld q (b.dropWhile (bh a)):=by{have k:=T5 i;rw[k];exact ld.drop b _ C.2};have L:(b.dropWhile (bh a)).length<=f:=by{have:=bP List.length i;rw[a6]at this;simp at D;omega};obtain⟨O,P⟩:=Bg bh d f (j+1+(b.takeWhile (bh a)).length) (b.dropWhile (bh a)) L F;have r:∀c∈b.takeWhile (bh a),bh a c=true:=fun c n=>by{have:=List.all_takeWhile (p:=bh a) (l:=b);exact kM.1 this c n};have w:(a::b).filter (bh a)=a::b.takeWhile (bh a):=by{rw[i1 Q];congr 1;rw[Jj i,nP.2 r,i2.2 (fun c n t=>E c n ((d a c).1 t).symm),eu]};have y:∀s∈b.dropWhile (bh a),(a::b).filter (bh s)=(b.dropWhile (bh a)).filter (bh s):=fun s h=>by{have A:=E s h;have N:bh s a=false:=by{rw[<- iU,d];exact A};rw[kh (by rw[N];simp)];rw[Jj i,i2.2 (fun c n t=>?_),dJ];have G:=(d a c).1 (r c n);have H:=(d s c).1 t;exact A (H.trans G.symm)};have M:∀s∈b.dropWhile (bh a),s∈b:=fun s h=>by rw[<- i];exact zI _ h
  refine⟨fun g e=>?_,fun s h=>?_⟩;{rw[fd]at e;rcases co.1 e with rfl|e;{exact⟨a,am,rfl,w.symm⟩};{obtain⟨s,B,I,J⟩:=O g e;exact⟨s,by simp[M s B],I,by rw[J,y s B]⟩}};{rw[fd];rcases co.1 h with rfl|h;{exact⟨_,List.mem_cons_self,w.symm⟩};{rw[<- i]at h;rcases dv.1 h with o|o;{refine⟨_,List.mem_cons_self,?_⟩;have k:bh s=bh a:=by{funext c;have K:=(d a s).1 (r s o);rw[i0,d,d,K]};rw[k];exact w.symm};{obtain⟨g,e,k⟩:=P s o;exact⟨g,fs _ e,by rw[k,y s o]⟩}}}
end
section
open Go.RowKit Go.Sort
section
variable {α:Type} (lt:α->α->Bool)
def bA:List α->List α->List α
 | [],c=>c
 | a::b,[]=>a::b
 | a::b,d::c=>if lt d a then d::bA (a::b) c else a::bA b (d::c)
termination_by b c=>b.length+c.length
structure oP:Prop where
 tr:∀x y z,lt x y=true->lt y z=true->lt x z=true
 nt:∀x y z,lt x y=false->lt y z=false->lt x z=false
def gD(l:List α):Prop:=l.Pairwise fun a b=>lt b a=false
@[simp] theorem Bh (a:List α):bA lt [] a=a:=by unfold bA;rfl
@[simp] theorem wS (a:List α):bA lt a []=a:=by cases a<;>simp[bA]
theorem wT(a b:α)(c d:List α):bA lt (a::c) (b::d)=if lt b a then b::bA lt (a::c) d else a::bA lt c (b::d):=by conv=>lhs;unfold bA
theorem iy{a b:α}(c d:List α)(e:lt b a=true):bA lt (a::c) (b::d)=b::bA lt (a::c) d:=by rw[wT,ay e]
theorem ji{a b:α}(c d:List α)(e:lt b a=false):bA lt (a::c) (b::d)=a::bA lt c (b::d):=by rw[wT,ar (by simp[e])]
theorem na(g h:List α):∀(d e:List α),(∀b∈e,∀a∈g,lt b a=true)->(∀a∈d,∀b∈h,lt b a=false)->bA lt (d++g) (e++h)=bA lt d e++bA lt g h
 | [],[],_,_=>by simp
 | [],b::e,i,j=>by
  have c:=na g h [] e (fun b n=>i b (by simp[n])) j;cases g with
  | nil=>simp
  | cons a g =>{simp only[dJ,Bh,dF]at c ⊢;rw[iy lt _ _ (i b am a am),c]}
 | a::d,[],i,j=>by
  have c:=na g h d [] i (fun a l=>j a (by simp[l]));cases h with
  | nil=>simp
  | cons b h =>{simp only[dJ,wS,dF]at c ⊢;rw[ji lt _ _ (j a am b am),c]}
 | a::d,b::e,i,j=>by cases k:lt b a;{have c:=na g h d (b::e) i (fun a l=>j a (by simp[l]));simp only[dF]at c ⊢;rw[ji lt _ _ k,ji lt _ _ k,c,dF]};{have c:=na g h (a::d) e (fun b n=>i b (by simp[n])) j;simp only[dF]at c ⊢;rw[iy lt _ _ k,iy lt _ _ k,c,dF]}
termination_by d e=>d.length+e.length
theorem tI(l:oP lt):∀(a b c:List α),bA lt (bA lt a b) c=bA lt a (bA lt b c)
 | [],b,c=>by simp
 | i::a,[],c=>by simp
 | i::a,e::b,[]=>by simp
 | i::a,e::b,j::c=>by cases g:lt e i;{cases h:lt j i;{have k:=tI l a (e::b) (j::c);rw[ji lt _ _ g,ji lt _ _ h,k];cases d:lt j e;{rw[ji lt _ _ d,ji lt _ _ g]};{rw[iy lt _ _ d,ji lt _ _ h]}};{have d:lt j e=true:=by{cases n:lt j e;{have:=l.nt _ _ _ n g;rw[h]at this;cases this};{rfl}};have k:=tI l (i::a) (e::b) c;rw[iy lt _ _ d,iy lt _ _ h,<- k,ji lt _ _ g,iy lt _ _ h]}};{cases d:lt j e;{have k:=tI l (i::a) b (j::c);rw[iy lt _ _ g,ji lt _ _ d,ji lt _ _ d,iy lt _ _ g,k]};{have h:=l.tr _ _ _ d g;have k:=tI l (i::a) (e::b) c;rw[iy lt _ _ d,iy lt _ _ h,<- k,iy lt _ _ g,iy lt _ _ d]}}
termination_by a b c=>a.length+b.length+c.length
def ez(l:List α):List α:=l.foldl (fun s a=>bA lt s [a]) []
theorem pI(a:List α)(b:α):ez lt (a++[b])=bA lt (ez lt a) [b]:=by simp[ez]
theorem T7(g:oP lt)(c a:List α):ez lt (c++a)=bA lt (ez lt c) (ez lt a):=by
 obtain⟨d,b⟩:=a2 a.length;induction d generalizing a with
 | zero=>have:a=[]:=jx.1 b.symm;subst this;simp[ez]
 | succ d h =>{rcases js a with rfl|⟨e,i,rfl⟩;{simp at b};{rw[jq]at b ⊢;rw[<- c_,pI,pI,h e (by simp at b;omega),tI lt g]}}
theorem tJ:∀(a b:List α),(bA lt a b).length=a.length+b.length
 | [],b=>by simp
 | c::a,[]=>by simp
 | c::a,d::b=>by cases e:lt d c;{rw[ji lt _ _ e,bi,tJ a (d::b)];simp;omega};{rw[iy lt _ _ e,bi,tJ (c::a) b];simp;omega}
termination_by a b=>a.length+b.length
theorem tK(l:List α):(ez lt l).length=l.length:=by
 obtain⟨b,a⟩:=a2 l.length;induction b generalizing l with
 | zero=>have:l=[]:=jx.1 a.symm;subst this;simp[ez]
 | succ b c =>{rcases js l with rfl|⟨d,e,rfl⟩;{simp at a};{rw[jq]at a ⊢;rw[pI,tJ,c d (by simp at a;omega)];simp}}
theorem wU(d:α):∀(b c:List α),d∈bA lt b c->d∈b\/d∈c
 | [],c,a=>by simpa using a
 | e::b,[],a=>by simpa using a
 | e::b,g::c,a=>by cases h:lt g e;{rw[ji lt _ _ h]at a;rcases co.1 a with a|a;{exact .inl (by simp[a])};{exact(wU d b (g::c) a).imp (fun a=>fs _ a) id}};{rw[iy lt _ _ h]at a;rcases co.1 a with a|a;{exact .inr (by simp[a])};{exact(wU d (e::b) c a).imp id (fun a=>fs _ a)}}
termination_by b c=>b.length+c.length
theorem T8(g:oP lt){a b:α}(e:lt a b=true)(c:lt a a=false):lt b a=false:=by cases d:lt b a;{rfl};{have:=g.tr _ _ _ e d;rw[c]at this;cases this}
theorem Bi(g:oP lt)(l:∀r,lt r r=false):∀(b c:List α),gD lt b->gD lt c->gD lt (bA lt b c)
 | [],c,_,a=>by simpa using a
 | h::b,[],a,_=>by simpa using a
 | h::b,i::c,o,p=>by have j:=lO.1 o;have n:=lO.1 p;cases e:lt i h;{rw[ji lt _ _ e];refine lO.2 ⟨fun d k=>?_,Bi g l b (i::c) j.2 p⟩;rcases wU lt d _ _ k with a|a;{exact j.1 d a};{rcases co.1 a with rfl|a;{exact e};{exact g.nt _ _ _ (n.1 d a) e}}};{rw[iy lt _ _ e];refine lO.2 ⟨fun d k=>?_,Bi g l (h::b) c o n.2⟩;have q:=T8 lt g e (l i);rcases wU lt d _ _ k with a|a;{rcases co.1 a with rfl|a;{exact q};{exact g.nt _ _ _ (j.1 d a) q}};{exact n.1 d a}}
termination_by b c=>b.length+c.length
theorem tL(d:oP lt)(g:∀b,lt b b=false)(l:List α):gD lt (ez lt l):=by
 obtain⟨c,a⟩:=a2 l.length;induction c generalizing l with
 | zero=>have:l=[]:=jx.1 a.symm;subst this;simp[ez,gD]
 | succ c e =>{rcases js l with rfl|⟨h,b,rfl⟩;{simp at a};{rw[jq]at a ⊢;rw[pI];exact Bi lt d g _ _ (e h (by simp at a;omega)) (by simp[gD])}}
theorem T9(i:oP lt){c:List α}{b a:α}(h:gD lt (c++[a]))(e:lt b a=false):bA lt (c++[a]) [b]=c++[a]++[b]:=by
 have:=na lt [] [b] (c++[a]) [] am (fun d ha g hb=>by{
 obtain rfl:g=b:=sx
 rcases dv.1 ha with ha|ha;{exact i.nt _ _ _ e ((hO.1 h).2.2 d ha a am)};{
 obtain rfl:d=a:=sL
 exact e}})
 exact kJ
theorem T_{c:List α}{a b:α}(g:lt a b=true):bA lt (c++[b]) [a]=bA lt c [a]++[b]:=by
 have:=na lt [b] [] c [a] (fun e hb d ha=>by{
 obtain rfl:e=a:=sx
 obtain rfl:d=b:=sL
 exact g}) am
 exact kJ
end
section
variable {α:Type} [Inhabited α] (lt:α->α->Bool)
theorem rx{d:Array α}{X Z:List α}{u:α}(a:d.toList=X++u::Z):d[X.length]! = u:=by
 obtain rfl:d=(X++u::Z).toArray:=by rw[<- a]
 simp
theorem wV{d:Array α}{X Y Z:List α}{u v:α}(h:d.toList=X++u::(Y++v::Z)):(swp d X.length (X.length+1+Y.length)).toList=X++v::(Y++u::Z):=by have a:=rx h;have b:d[X.length+1+Y.length]! = v:=by{have:=rx (d:=d) (X:=X++u::Y) (u:=v) (Z:=Z) qj;rw[<- this];congr 1;simp;omega};unfold swp;rw[a,b,yW,yW,h];rw[mU _ _ ae,i3,c5];rw[mU _ _ ae,show X.length+1+Y.length-X.length=Y.length+1 from ae,dl,mU _ _ ae,i3,c5]
theorem IX(d:Array α)(a b:Nat)(c:a≠b):swp d a b=swp d b a:=by unfold swp;rw[Array.setIfInBounds_comm _ _ c]
def iT:Nat->Nat->Nat->Array α->Array α
 | _,_,0,a=>a
 | b,c,d+1,a=>iT (b+1) (c+1) d (swp a b c)
theorem wW:∀(b d:List α) (h:Array α) (a c g:List α),b.length=d.length->h.toList=a++(b++(c++(d++g)))->(iT a.length (a.length+b.length+c.length) b.length h).toList=a++(d++(c++(b++g)))
 | [],[],h,a,c,g,_,e=>by simpa [iT]using e
 | [],i::d,_,_,_,_,e,_=>by simp at e
 | j::b,[],_,_,_,_,e,_=>by simp at e
 | j::b,i::d,h,a,c,g,hl,e=>by
  have o:h.toList=a++j::((b++c)++i::(d++g)):=by rw[e];simp
  have p:=wV o;have k:=wW b d (swp h a.length (a.length+1+(b++c).length)) (a++[i]) (c++[j]) g uG (by rw[p];simp);rw[bi,iT];rw[show a.length+(b.length+1)+c.length=a.length+1+(b++c).length from aA];have n:(a++[i]).length=a.length+1:=am;have l:(a++[i]).length+b.length+(c++[j]).length=a.length+1+(b++c).length+1:=aA;rw[n]at k l;rw[l]at k;rw[k];simp
theorem IY(p:oP lt):∀(b:Nat) (g:List α) (d:Array α) (a e:List α) (c:α),g.length=b->gD lt g->d.toList=a++(g++c::e)->(insInner lt a.length (a.length+b) d).toList=a++(bA lt g [c]++e)
 | 0,g,d,a,e,c,k,_,i=>by
  obtain rfl:g=[]:=jx.1 k;have:insInner lt a.length (a.length+0) d=d:=by{
  cases l:a.length with
  | zero=>rfl
  | succ w=>rw[dT,insInner,ar am]};rw[this,i];simp
 | b+1,g,d,a,e,c,k,o,i=>by
  rcases js g with rfl|⟨h,j,rfl⟩;{simp at k};{
  rw[jq]at *;have q:h.length=b:=by simpa using k
  have t:d[a.length+b]! = j:=by{have:=rx (d:=d) (X:=a++h) (u:=j) (Z:=c::e) (by rw[i];simp);rw[<- this];congr 1;simp;omega};have r:d[a.length+b+1]! = c:=by{have:=rx (d:=d) (X:=a++h++[j]) (u:=c) (Z:=e) (by rw[i];simp);rw[<- this];congr 1;simp;omega};rw[<- nE,insInner,r,t];cases l:lt c j;{rw[ar am,T9 lt p o l,i];simp};{rw[ay aA,T_ lt l,IX _ _ _ ae];have n:=wV (d:=d) (X:=a++h) (Y:=[]) (Z:=e) (u:=j) (v:=c) (by rw[i];simp);rw[show(a++h).length=a.length+b from aA,show a.length+b+1+([]:List α).length=a.length+b+1 from rfl]at n;have:=IY p b h _ a (j::e) c q (hO.1 o).1 (by rw[n];simp);rw[this];simp}}
theorem IZ(j:oP lt)(n:∀d,lt d d=false)(b h:List α):∀(f:Nat) (a c:List α) (e:Array α),c.length=f->e.toList=b++(ez lt a++(c++h))->(insOuter lt b.length (b.length+a.length+c.length) (b.length+a.length) e).toList=b++(ez lt (a++c)++h)
 | 0,a,c,e,g,i=>by obtain rfl:c=[]:=jx.1 g;rw[insOuter,ar am,i];simp
 | f+1,a,[],e,g,i=>by simp at g
 | f+1,a,d::c,e,g,i=>by rw[insOuter,ay am];have k:=IY lt j a.length (ez lt a) e b (c++h) d (tK lt _) (tL lt j n _) (by rw[i];simp);rw[<- pI]at k;have l:=IZ j n b h f (a++[d]) c _ (by simpa using g) k;rw[show b.length+(a++[d]).length=b.length+a.length+1 from aA]at l;rw[show b.length+a.length+(d::c).length=b.length+a.length+1+c.length from aA,l];simp
theorem I0(h:oP lt)(i:∀c,lt c c=false)(a b d:List α)(e:Array α)(g:e.toList=a++(b++d)):(insertionSort lt e a.length (a.length+b.length)).toList=a++(ez lt b++d):=by
 unfold insertionSort;cases b with
 | nil=>rw[insOuter,ar am,g];simp[ez]
 | cons c b =>{have:=IZ lt h i a d b.length [c] b e rfl (by rw[g];simp[ez]);rw[show a.length + [c].length=a.length+1 from rfl,show a.length+1+b.length=a.length+(c::b).length from aA]at this;rw[this];simp}
end
end
section
open Go.RowKit Go.Sort Go.Shelf
theorem wX:∀(b c d:Nat) (a:Array aj),(iT c d b a).size=a.size
 | 0,_,_,_=>rfl
 | b+1,c,d,a=>by rw[iT,wX b,size_swp]
theorem tM(b:aj):∀v∈aj.aX b,v.oneCell'=true:=fun v a=>by simp[aj.aX]at a;rcases a with rfl|rfl|rfl|rfl<;>rfl
theorem EM{P:Prop}(h:P:=by exact run_loadCellsFrom_list _ _ _ _ k (HK.out _) (HoldsK.cells sZ HK.out ae)):P:=h
theorem Ua(b k a am o l j:Nat)(T:∀n,(aj.aX n).length=k)(aC:∀h,Sem.run prog (Go.sizeOf 47) h=.ok k h)(g:Array aj)(h:World)(K:HoldsK aj.aX k h a b g)(L:a<h.heap.size)(F:o+j<=l)(G:l+j<=g.size)(D:g.size<=3001):az 288 #[aF a b g.size am,ak o,ak l,ak j,.func (.func 103) #[] #[]] h fun an aA=>an=.returned (.tuple #[])/\∃p,aA=sortWorldK aj.aX k h a b p (iT o l j g) #[]:=by
 have av:prog.follows Departure.mixedOrders=true:=aB;have ad:=Tryz.isAgg47;have HK:=af T;clear T;have aa:Hid (h=sortWorldK aj.aX k h a b 0 g #[]):=by show h=_;unfold sortWorldK;rw[grow_empty];exact(putRowK_self aj.aX k h a b g K).symm
 have Z:=af K;have Y:=af L;clear K;go_enter func288,ntmps288;go_wp2;go_loopg [10] j (fun S ay wr=>∃(e p:Nat) (d:Array aj),ay=ak e/\e+S=j/\d.size=g.size/\wr=sortWorldK aj.aX k h a b p d #[]/\Hid (iT (o+e) (l+e) S d=iT o l j g));case atStart=>exact⟨0,0,g,rfl,ae,rfl,aa,rfl⟩
 case round =>(
 obtain⟨e,p,d,rfl,ao,t,rfl,O⟩:=hrel;by_cases H:e<j;{
 have N:(e:Int)<(j:Int):=ae;obtain⟨C,rfl⟩:∃C,gk=C+1:=⟨gk-1,ae⟩;obtain⟨c,y⟩:=a2 (o+e);obtain⟨i,z⟩:=a2 (l+e);have ap:(o:Int)+e=c:=ae;have ar:(l:Int)+e=i:=ae;have ab:(c:Int)<(g.size:Int):=ae;have ac:(i:Int)<(g.size:Int):=ae;obtain⟨x,u⟩:∃n,d[c]! = n:=⟨_,rfl⟩;obtain⟨r,w⟩:∃n,d[i]! = n:=⟨_,rfl⟩;have sZ:HoldsK aj.aX k (sortWorldK aj.aX k h a b p d #[]).drew a b d:=holdsK_sortWorldK_c aj.aX k h a b g d _ _ (ag Z) L t;obtain⟨q,I⟩:=a2 (sortWorldK aj.aX k h a b p d #[]);rw[<- I]at sZ ⊢;have U:Sem.run prog (loadCellsFrom (aq a (b+c*k)) 0 k #[]) q.drew=.ok (aj.aX x).toArray q.drew:=by rw[<- u];exact EM
 have V:Sem.run prog (loadCellsFrom (aq a (b+i*k)) 0 k #[]) q.drew=.ok (aj.aX r).toArray q.drew:=by rw[<- w];exact EM
 have E:∀n,n<d.size->n*k+k<=d.size*k:=fun n au=>by{have:=pz k (show n+1<=d.size from au);rwa [rk,vR]at this};have W:Sem.run prog (storeCells (aq a (b+c*k)) (aj.aX r) 0) q.drew=.ok () (q.drew.setCells a (b+c*k) (aj.aX r)):=stores_of_holds _ sZ (c*k) _ (by rw[HK.out,size_flatK];exact E c ae) (tM _);have X:Sem.run prog (storeCells (aq a (b+i*k)) (aj.aX x) 0) (q.drew.setCells a (b+c*k) (aj.aX r))=.ok () ((q.drew.setCells a (b+c*k) (aj.aX r)).setCells a (b+i*k) (aj.aX x)) := stores_of_holds _ (holds_setCells_c sZ (c*k) _ (by rw[HK.out,size_flatK];exact E c ae)) (i*k) _ (by rw[HK.out,size_setMany,size_flatK];exact E i ae) (tM _);have al:=af I;clear sZ I E;obtain⟨Q,A⟩:∃J,J=aj.aX x:=⟨_,rfl⟩;obtain⟨R,B⟩:∃J,J=aj.aX r:=⟨_,rfl⟩;have aD:Q.length=k:=by rw[A];exact HK.out _
 have aE:R.length=k:=by rw[B];exact HK.out _
 rw[<- B]at W V;rw[<- A]at U;rw[<- A,<- B]at X;have M:Hid (Q=aj.aX x/\R=aj.aX r):=⟨A,B⟩;clear A B;have ah:IntKind.i64.wrap (c:Int)=(c:Int):=cX
 have ai:IntKind.i64.wrap (i:Int)=(i:Int):=cX
 have aw:(0:Int)<=(c:Int):=ae;have ax:(0:Int)<=(i:Int):=ae;have P:Hid (e+(C+1)=j/\c=o+e/\i=l+e/\d[c]! = x/\d[i]! = r/\d.size=g.size/\e<j/\o+j<=l/\l+j<=g.size/\g.size<=3001):=⟨ao,y,z,u,w,t,H,F,G,D⟩;go_wp2_with fail;clear ao y z u w t H F G D N L;go_big_region_o;all_goals(
 clear U V W X ad aC av ah ai aw ax ap ar ab ac;have aG:e<=3001:=by obtain⟨ao,y,z,u,w,t,H,F,G,D⟩:=ag P;omega
 go_wp2;go_roundg C;case measure=>omega
 case rel =>(obtain⟨ao,y,z,u,w,t,H,F,G,D⟩:=ag P;refine⟨e+1,p+1,swp d c i,bq,ae,by rw[size_swp];exact t,?_,(show Hid _ from ?_)⟩;{rw[M.out.1,M.out.2,ag al,<- u,<- w];exact sortWorldK_swp_c aj.aX k h a b HK.out p d #[] (ag Y) c i ae ae};{show _=_;rw[<- ag O,y,z,iT];rfl}))};{have N:¬(e:Int)<(j:Int):=ae;obtain rfl:gk=0:=ae;go_wp2;go_end0;exact⟨rfl,p,by rw[<- ag O];rfl⟩})
theorem Ub(c h g b d:Nat)(a:Array aj)(e:World)(k:HoldsK aj.aX 4 e c 0 a)(o:c<e.heap.size)(l:g+d<=b)(n:b+d<=a.size)(i:a.size<=3001):az 288 #[aF c 0 a.size h,ak g,ak b,ak d,.func (.func 103) #[] #[]] e fun j q=>j=.returned (.tuple #[])/\∃p,q=sortWorldK aj.aX 4 e c 0 p (iT g b d a) #[] :=
 Ua 0 4 c h g b d (fun _=>rfl) Tryz.sizeOf47 a e k o l n i
end
section
open Go.RowKit Go.Sort Go.Shelf
theorem Uc{a:World}{c:Nat}{b:Array aj}(d:HoldsK aj.aX 4 a c 0 b):a=sortWorldK aj.aX 4 a c 0 0 b #[]:=by unfold sortWorldK;rw[grow_empty];exact(putRowK_self aj.aX 4 a c 0 b d).symm
theorem I1(c:World)(a e m:Nat)(d b:Array aj)(g h:Array Obj)(j:a<c.heap.size)(i:b.size=d.size):sortWorldK aj.aX 4 (sortWorldK aj.aX 4 c a 0 e d g) a 0 m b h=sortWorldK aj.aX 4 c a 0 (e+m) b (g++h):=grow_step_growK aj.aX 4 c g h e m a 0 d b j i
theorem Ud(a n h d g j:Nat)(e b:Array aj)(i:Array Obj)(c:World)(u:HoldsK aj.aX 4 c a 0 e)(l:a<c.heap.size)(q:b.size=e.size)(w:h+g<=d)(y:d+g<=e.size)(x:e.size<=3001):az 288 #[aF a 0 e.size n,ak h,ak d,ak g,.func (.func 103) #[] #[]] (sortWorldK aj.aX 4 c a 0 j b i) fun o r=>o=.returned (.tuple #[])/\∃k,r=sortWorldK aj.aX 4 c a 0 k (iT h d g b) i:=by have t:=holdsK_sortWorldK_c aj.aX 4 c a 0 e b j i u l q;have p:=Ub a n h d g b _ t (cp l (size_sortWorldK_c aj.aX 4 c a 0 j b i)) w ae ae;rw[q]at p;refine p.mono ?_;rintro o r ⟨rfl,k,rfl⟩;refine⟨rfl,j+k,?_⟩;rw[I1 c a j k b (iT h d g b) i #[] l (wX _ _ _ _)];simp
theorem sD{P:Prop}(h:P:=by first|rfl|go_num):P:=h
theorem Ue(k aC A m B t:Nat)(q h:Array aj)(r:Array Obj)(u o p z:List aj)(n:World)(aD:HoldsK aj.aX 4 n k 0 q)(aS:k<n.heap.size)(E:h.size=q.size)(aB:q.size<=3001)(O:h.toList=u++(o++(p++z))) (ab:u.length=A) (ad:A+o.length=m) (ac:m+p.length=B) (ah:0<o.length) (ai:0<p.length):az 267 #[aF k 0 q.size aC,ak A,ak m,ak B,.func (.func 103) #[] #[]] (sortWorldK aj.aX 4 n k 0 t h r) fun S aZ=>S=.returned (.tuple #[])/\∃l L,aZ=sortWorldK aj.aX 4 n k 0 l L r/\L.toList=u++(p++(o++z)):=by
 have an:q.size=u.length+(o.length+(p.length+z.length)):=by rw[<- E,<- kf,O];simp
 have I:=af (fun t h E A B au (aP:A+au<=B) (aR:B+au<=q.size)=>Ud k aC A B au t q h r n aD aS E aP aR aB);have ba:B<=3001:=ae;have aK:(m:Int)-A=(o.length:Int):=ae;have aG:(B:Int)-m=(p.length:Int):=ae;obtain⟨aq,V⟩:∃a,a=o.length:=⟨_,rfl⟩;obtain⟨ar,U⟩:∃a,a=p.length:=⟨_,rfl⟩;rw[<- V]at aK;rw[<- U]at aG;have aH:=af (aQ an (aQ E (aQ O (aQ ab (aQ ad (aQ ac (aQ ah (aQ ai (aQ V U)))))))));have bd:m<=3001:=ae;have a4:A<=m:=ae;have a0:aq<=3001:=ae;have a7:ar<=3001:=ae;clear aD an E O ab ad ac ah ai aB V U;obtain⟨bc,ap⟩:=a2 (sortWorldK aj.aX 4 n k 0 t h r);rw[<- ap];have W:=af ap;clear ap;go_enter func267,ntmps267;go_wp2_with fail;go_loopg [10,11] (aq+ar) (fun aO aX aY wr=>∃(a b:Nat),aX=ak a/\aY=ak b/\0<a/\0<b/\a+b<=aO/\a<=m/\a<=3001/\b<=3001/\Hid (∃(t:Nat) (h:Array aj) (e c d i:List aj),e.length+a=m/\c.length=a/\d.length=b/\h.size=q.size/\h.toList=e++(c++(d++i))/\e++(d++(c++i))=u++(p++(o++z))/\wr=sortWorldK aj.aX 4 n k 0 t h r));case atStart =>(obtain⟨an,E,O,ab,ad,ac,ah,ai,V,U⟩:=ag aH;exact⟨aq,ar,sD,sD,ae,ae,bb _,ae,ae,ae,t,h,u,o,p,z,ae,ae,ae,E,O,rfl,W⟩)
 case round =>(
 obtain⟨a,b,rfl,rfl,ao,aT,a1,a5,aI,aM,R⟩:=hrel;obtain⟨av,w,e,c,d,i,T,M,aa,x,D,F,G⟩:=ag R;have Z:q.size=e.length+(c.length+(d.length+i.length)):=by rw[<- x,<- kf,D];simp
 obtain⟨j,a9⟩:∃j:Nat,j+a=m:=⟨e.length,T⟩;have a8:(m:Int)-a=(j:Int):=ae;by_cases aU:a=b;{subst aU;have aJ:((a:Int) != (a:Int))=false:=am;have y:=af (I av w x j m a ae ae);have K:Hid (∀l,∃aW L,sortWorldK aj.aX 4 n k 0 l (iT j m a w) r=sortWorldK aj.aX 4 n k 0 aW L r/\L.toList=u++(p++(o++z))):=fun l=>by{refine⟨l,_,rfl,?_⟩;have:=wW c d w e [] i ae (by simpa using D);rw[M,show e.length=j from ae,show j+a+([]:List aj).length=m from aA]at this;rw[this,<- F];rfl};rw[<- G]at y;clear R T M aa x D F G Z I W;go_wp2_with fail;refine y.mono ?_;rintro S aE ⟨rfl,Q,C⟩;have N:=af C;clear C;go_wp2_with fail;go_end0;refine⟨rfl,?_⟩;rw[ag N];exact K Q};{
 have aJ:((a:Int) != (b:Int))=true:=o3
 by_cases a3:b<a;{
 have aN:(b:Int)<(a:Int):=ae;obtain⟨g,aV⟩:∃g:Nat,g+b=a:=⟨a-b,ae⟩;have aL:(a:Int)-b=(g:Int):=ae;have y:=af (I av w x j m b ae ae);have K:Hid (∀l,∃(t:Nat) (h:Array aj) (e c d i:List aj),e.length+g=m/\c.length=g/\d.length=b/\h.size=q.size/\h.toList=e++(c++(d++i))/\e++(d++(c++i))=u++(p++(o++z))/\sortWorldK aj.aX 4 n k 0 l (iT j m b w) r=sortWorldK aj.aX 4 n k 0 t h r):=fun l=>by{have aw:c=c.take b++c.drop b:=(ft _ _).symm;have H:(c.take b).length=b:=aA;have P:(c.drop b).length=g:=aA;generalize c.take b=ax at aw H;generalize c.drop b=X at aw P;subst aw;have:=wW ax d w e X i ae (by rw[D];simp);rw[H,show e.length=j from ae,show j+b+X.length=m from ae]at this;refine⟨l,_,e++d,X,ax,i,aA,P,H,by rw[wX];exact x,by rw[this];simp,?_,rfl⟩;rw[<- F];simp};rw[<- G]at y;clear R T M aa x D F G Z I W;go_wp2_with fail;refine y.mono ?_;rintro S aE ⟨rfl,Q,C⟩;have N:=af C;clear C;go_wp2_with fail;go_roundg (g+b);case measure=>omega
 case rel =>(refine⟨g,b,sD,sD,ae,aT,bb _,ae,ae,aM,?_⟩;rw[ag N];exact K Q)};{
 have aN:¬(b:Int)<(a:Int):=ae;obtain⟨g,aV⟩:∃g:Nat,g+a=b:=⟨b-a,ae⟩;have aL:(b:Int)-a=(g:Int):=ae;obtain⟨J,a_⟩:∃J:Nat,J+a=m+b:=⟨m+b-a,ae⟩;have a6:(m:Int)+b-a=(J:Int):=ae;have y:=af (I av w x j J a ae ae);have K:Hid (∀l,∃(t:Nat) (h:Array aj) (e c d i:List aj),e.length+a=m/\c.length=a/\d.length=g/\h.size=q.size/\h.toList=e++(c++(d++i))/\e++(d++(c++i))=u++(p++(o++z))/\sortWorldK aj.aX 4 n k 0 l (iT j J a w) r=sortWorldK aj.aX 4 n k 0 t h r):=fun l=>by{have al:d=d.take g++d.drop g:=(ft _ _).symm;have H:(d.take g).length=g:=aA;have P:(d.drop g).length=a:=aA;generalize d.take g=Y at al H;generalize d.drop g=ay at al P;subst al;have:=wW c ay w e Y i ae (by rw[D];simp);rw[M,show e.length=j from ae,show j+a+Y.length=J from ae]at this;refine⟨l,_,e,ay,Y,c++i,ae,P,H,by rw[wX];exact x,by rw[this],?_,rfl⟩;rw[<- F];simp};rw[<- G]at y;clear R T M aa x D F G Z I W;go_wp2_with fail;refine y.mono ?_;rintro S aE ⟨rfl,Q,C⟩;have N:=af C;clear C;go_wp2_with fail;go_roundg (a+g);case measure=>omega
 case rel =>(refine⟨a,g,sD,sD,ao,ae,bb _,ae,aI,ae,?_⟩;rw[ag N];exact K Q)}})
end
section
open Go.RowKit Go.Sort
section
variable {α:Type} (lt:α->α->Bool)
theorem I2(j:oP lt){e:List α}{d c:α}(i:gD lt (e++[c]))(g:lt c d=true):∀b∈e++[c],lt b d=true:=fun b a=>by
 rcases dv.1 a with a|a
 ·cases h:lt b d
  ·have:=j.nt _ _ _ ((hO.1 i).2.2 b a c am) h;rw[g]at this;cases this
  ·rfl
 ·obtain rfl:b=c:=by simpa using a
  exact g
theorem Uf(n:oP lt){b c:List α}{d:α}(l:gD lt (b++c))(h:∀a,b.getLast? = some a->lt a d=true)(i:∀a,c.head? = some a->lt a d=false):bA lt [d] (b++c)=b++d::c:=by
 have j:∀a∈b,lt a d=true:=by{rcases js b with rfl|⟨p,o,rfl⟩;{simp};{rw[jq]at *;exact I2 lt n (hO.1 l).1 (h o am)}};have:=na lt [d] c [] b (fun g k e ha=>by obtain rfl:e=d:=sL;exact j g k) am;rw[dJ,Bh]at this;rw[this];congr 1;cases c with
 | nil=>simp
 | cons a c=>rw[ji lt _ _ (i a rfl),Bh]
theorem Ug(q:oP lt){b c:List α}{d:α}(p:gD lt (b++c))(k:∀a,b.getLast? = some a->lt d a=false)(l:∀a,c.head? = some a->lt d a=true):bA lt (b++c) [d]=b++d::c:=by
 have o:∀a∈b,lt d a=false:=by{
 rcases js b with rfl|⟨r,g,rfl⟩;{simp};{
 rw[jq]at *;intro a e;have h:=k g am;rcases dv.1 e with e|e;{exact q.nt _ _ _ h ((hO.1 (hO.1 p).1).2.2 a e g am)};{
 obtain rfl:a=g:=by simpa using e
 exact h}}};have:=na lt c [d] b [] am (fun i n j hb=>by obtain rfl:j=d:=sx;exact o i n);rw[dJ,wS]at this;rw[this];congr 1;cases c with
 | nil=>simp
 | cons a c=>rw[iy lt _ _ (l a rfl),wS]
theorem Uh(l:oP lt){g b h c:List α}(q:gD lt (g++b))(r:gD lt (h++c))(w:∀e a,g.getLast? = some e->c.head? = some a->lt a e=false)(x:∀e a,b.head? = some e->h.getLast? = some a->lt a e=true):bA lt (g++b) (h++c)=bA lt g h++bA lt b c:=by
 refine na lt b c g h (fun k d i ha=>?_) (fun i ha k d=>?_);{
 rcases js h with rfl|⟨A,j,rfl⟩;{simp at d};rw[jq]at *;cases b with
 | nil=>simp at ha
 | cons e b =>{have y:=x e j rfl am;have p:=I2 lt l (hO.1 r).1 y k d;rcases co.1 ha with rfl|ha;{exact p};{have t:=(lO.1 (hO.1 q).2.1).1 i ha;cases u:lt k i;{have:=l.nt _ _ _ u t;rw[p]at this;cases this};{rfl}}}};{
 rcases js g with rfl|⟨z,j,rfl⟩;{simp at ha};rw[jq]at *;cases c with
 | nil=>simp at d
 | cons a c =>{
 have n:=w j a am rfl;have o:lt a i=false:=by{
 rcases dv.1 ha with ha|ha;{exact l.nt _ _ _ n ((hO.1 (hO.1 q).1).2.2 i ha j am)};{
 obtain rfl:i=j:=sL
 exact n}};rcases co.1 d with rfl|d;{exact o};{exact l.nt _ _ _ ((lO.1 (hO.1 r).2.1).1 k d) o}}}
end
section
variable {α:Type} [Inhabited α]
theorem wY{d:Array α}{X B Z:List α}(b:d.toList=X++(B++Z)){a:Nat}(c:a<B.length):d[X.length+a]! = B[a]:=by
 obtain rfl:d=(X++(B++Z)).toArray:=by rw[<- b]
 simp[lT,pv,c]
omit [Inhabited α]in
theorem wZ{c:List α}{b:Nat}{d:α}(e:b<=c.length)(a:(c.take b).getLast? = some d):∃(g:b-1<c.length),0<b/\c[b-1]=d:=by
 cases b with
 | zero=>simp at a
 | succ h =>{refine⟨ae,ae,?_⟩;rw[List.getLast?_eq_getElem?]at a;simp only[de,kb e]at a;rw[kS ae]at a;obtain⟨_,a⟩:=fy.1 a;exact a}
omit [Inhabited α]in
theorem w_{a:List α}{b:Nat}{d:α}(c:(a.drop b).head? = some d):∃(e:b<a.length),a[b]=d:=by rw[List.head?_drop]at c;exact fy.1 c
end
end
end Go.Proofs.YtkkpahmoljiepaaGreatDoor
