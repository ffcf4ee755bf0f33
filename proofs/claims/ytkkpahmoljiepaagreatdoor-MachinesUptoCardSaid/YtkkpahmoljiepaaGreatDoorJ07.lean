import Derived.Test.YtkkpahmoljiepaaGreatDoorJ03
import Derived.Test.YtkkpahmoljiepaaGreatDoorJ06
import Derived.Deep.AppendLies
import Derived.Test.YtkkpahmoljiepaaGreatDoorJ04
import Derived.Test.YtkkpahmoljiepaaGreatDoorJ05
set_option maxRecDepth 1000000
set_option maxHeartbeats 12800000
set_option linter.all false
open Array renaming size->U
open Bool renaming false->ao,true->aE
open ByteArray renaming size->cf
open Decidable renaming decide->dQ
open Eq renaming symm->bZ,trans->c_
open Go renaming Addr->kC,Calls->bd,TypeId->d_,Value->bm,World->aQ,bytesRow->ii,maxLen->hC,results->dr
open Go.Ending renaming returned->bg
open Go.IntKind renaming i64->am,u16->fs,u8->ck
open Go.Obj renaming cells->aS
open Go.Proofs renaming intOf->fJ
open Go.Proofs.Tryz renaming prog->aK
open Go.RowKit renaming Below->cB,Hid->ax
open Go.RowKit.Below renaming alloc->ct,mono->bV,setCell->fk,trans->bN
open Go.Value renaming agg->ci,bool->aG,iface->cV,int->ak,ownBlock->bW,slice->aL,string->amz,tuple->bX
open Go.World renaming alloc->aO,alloc_heap_new->du,cell?->aD,drew->bq,frozen?->io,setCell->a_
open Int renaming toNat->c7
open List renaming drop->bh,filter->ed,flatMap->fA,length->E,map->b9,take->amA,toArray->dl
open Option renaming none->ai,some->ag
open Or renaming inl->bG,inr->bE
open UInt8 renaming toNat->be
namespace Go.Proofs.YtkkpahmoljiepaaGreatDoor
open Go.RowKit Go.Proofs.Tryz
variable{f m u:World}{e:Value}{i p:Int}{j y:List D}{H:Bool}{C:List ap}{z:TypeId}{B Z:Nat → Prop}{Q:List UInt8}{T:ByteArray}
def pu(c:aQ)(a:Nat)(b:List ap):Prop:=c.1[a]? = ag (aS (dl<|b.map λd=>amz<|O d) 9)
section
variable {w:World} {g:Nat} {l:List ap}
def pu.lt(a:pu w g l):g<U w.1:=(ea.1 a).1
def pu.cell(a:pu w g l)(i)(aN:i<E l):aD w (M g i)=ag (amz<|O l[i]):=by unfold pu at a;simp[aD,a,aN]
def pu.frozen(h:pu w g l)(a):io w (M g a)=ao:=by unfold pu at h;exact tb
def pu.set(c:pu w g l)(a b):pu (a_ w ⟨g,a,ai⟩<|amz<|O b) g (l.set a b):=by unfold pu at *; simp only[a_];rw[xP,b7 af,c];simp
def pu.below(a:pu w g l)(c:a7 w f):pu f g l:=(c.5 g a.lt).trans a
end
def ST(e:aQ)(v:bm)(a:List ap):Prop:=(v=bY/\a=[])\/∃b d,v=bC b 0 (E a) d/\E a<=d/\b<U e.1/\∀c (g:c<E a),aD e (M b c)=ag (amz<|O a[c])
def mn(a:ap):ap:=b9 lN a
def D4{a}:E (mn a)=E a:=by simp[mn]
def c8(a:List ap):ap:=Lib.join (b9 mn a) [46]
def ak8(b:aQ)(a):pu (aO b<|aS (madeCells (amz ⟨#[]⟩).cells a) 9) (U b.1) (List.replicate a []):=by have c:madeCells (amz ⟨#[]⟩).cells a=dl ((List.replicate a ([]:ap)).map λd=>amz<|O d):=by{apply Array.ext';simp only[madeCells,Value.cells,Array.toList_map,Array.toList_range];apply List.ext_getElem;{simp};{intro h e g;simp[O,Nat.mod_one]}};rw[c];exact du b _
def ak9{a}(d:a<E C):((b9 mn<|amA a C)++List.replicate (E C-a) []).set a (mn C[a])=(b9 mn<|amA (a+1) C)++List.replicate (E C-(a+1)) []:=by
 have c:E (b9 mn<|amA a C)=a:=by grind
 rw[K5,bJ G,c,sm,iH d,show E C-a=(E C-(a+1))+1 from G,List.replicate_succ,kH,kq,jI];rfl
def SU:b9 (·.data.1) (b9 O C)=C:=by rw[nu];exact List.map_id' C
def SV(c):∀d:List ap,(∀a∈d,E a<=c)->E (Lib.join d [46])<=E d*(c+1)
 | [],_=>by simp[Lib.join,List.intercalate]
 | [a],b=>by have:=b a aA;simp[Lib.join,List.intercalate];omega
 | a::i::h,b=>by have e:=SV c (i::h) λj g=>b j<|nU _ g;have k:=b a aA;simp only[Lib.join,List.intercalate]at e ⊢;rw[List.intersperse];simp only[List.flatten_cons,dE,ey,h8]at e ⊢;{grind};simp
def ak_(x:ST f e C)(aj:E C<=1000)(X:∀aa∈C,E aa<=1000):bd aK 200 #[e] f (cQ (aZ<|c8 C) f):=by
 have⟨i0,aN,hz0,hz1,hz2⟩:=jN zF;have k:=run_make (P:=aK) f 49 9 i0 (amz ⟨#[]⟩) D1 aN hz0 am am (E C) (E C) G (Int.le_refl _) (by grind) G;rw[hz1]at k;simp only[vi,uJ]at k;have L:=ae<|ak8 f<|E C;have l:=ae<|(dz (U f.1) f).alloc bv<|aS (madeCells (amz ⟨#[]⟩).cells<|E C) 9;have Z:=ae<|Any.strings_Join Tryz.lays156 Tryz.Builder_Extra_156;have:=ae x;have w:=ae X;generalize aO f (aS (madeCells (amz ⟨#[]⟩).cells<|E C) 9)=h at *;rcases x with⟨rfl,rfl⟩|⟨R,ac,rfl,ad,T,q⟩;{
 have K:=ae λh:aQ=>Any.strings_Join_none Tryz.lays156 Tryz.Builder_Extra_156 (ag<|M (U f.1) 0) 0 ⟨#[46]⟩ h;simp only[h8]at k L l;have:(Instr.makeSlice 49 (J 0)<|J 0).run aK f=.ok (bC (U f.1) 0 0 0) h:=k;go_wp2;go_loopw [11] (λc wr=>c=J 0/\wr=h) λ_ _=>0;·simp
 ·(obtain⟨rfl,rfl⟩:=hrel;go_wp21;refine(K _).m ?_;rintro z rfl;go_wp2;go_ret;exact⟨af,l⟩)};{
 replace q:=ae q;go_wp2;go_loopw [11] (λc wr=>∃b:Nat,c=J b/\b<=E C/\pu wr (U f.1) ((b9 mn<|amA b C)++List.replicate (E C-b) [])/\a7 f wr) λc _=>E C-c7 (fJ c);·exact⟨0,af,eb _,fN,l⟩
 ·(
 obtain⟨b,rfl,ah,a,S⟩:=hrel;have D:=ae a;have g:=ae S;by_cases n:b<E C;{
 have:=(g.cell (p:=⟨R,b,ai⟩) T).trans (q b n);have B:=ae<|ak9 n;have F:=V w C[b]<|eP n;have:E ((b9 mn<|amA b C)++List.replicate (E C-b) [])=E C:=by grind
 generalize C[b]=d at *;have I:=ae (show bd aK 252 #[aZ d] wr λQ ab=>Q=bg (aZ<|mn d)/\a7 wr ab from ak6 wr F);go_wp21;refine I.m λz i=>?_;have r:=D.below i;have:=r.cell b G;have:=r.frozen b;have y:=ae<|r.set b<|mn d;have H:=ae<|(bN g<|bV i g.4).setCell (p:=⟨U f.1,b,ai⟩) bv (aZ<|mn d);rw[V B]at y;go_wp2;exact⟨⟨b+1,dH,G,y,H⟩,ee⟩};{
 have N:b=E C:=G;subst N;have u:ax (pu wr (U f.1)<|b9 mn C):=by{grind};have t:=ae<|Z (U f.1) 0 (E C) (b9 O<|b9 mn C) ⟨#[46]⟩ wr ?bA u.lt ?c2 ?c3 ?cD;case bA =>(intro Y d j;rw[g8];rw[vy,Option.map_eq_some_iff]at j;obtain⟨A,o,rfl⟩:=j;obtain⟨W,rfl⟩:=j_.1 o;exact u.cell Y W)
 case c2=>grind
 case c3=>simp
 case cD =>(rw[SU];refine cU (SV 1000 _ ?_) ?_;{intro d j;obtain⟨A,o,rfl⟩:=lZ.1 j;rw[D4];exact w A o};grind)
 rw[SU,fC,fC]at t;go_wp21;refine t.m λz i=>?_;go_wp2;go_ret;exact⟨af,bN g<|bV i g.4⟩})}
def iB(q:aQ)(a:Nat)(d e g h i j:Int)(o l:ap)(k b:Int)(n:Bool)(p c:Int):Prop :=
 q.1[a]? = ag (aS #[ak am d,ak am e,ak am g,ak am h,ak am i,ak am j,amz<|O o,amz<|O l,ak am k,ak am b,aG n,ak am p,ak am c] 137)
section
variable {w:World} {b:Nat} {h0 h1 h2 h3 h4 h5:Int} {q n:ap} {k c:Int} {opt:Bool} {sz cK:Int}
def iB.lt(a:iB w b h0 h1 h2 h3 h4 h5 q n k c opt sz cK):b<U w.1:=(ea.1 a).1
def iB.frozen(h:iB w b h0 h1 h2 h3 h4 h5 q n k c opt sz cK)(a):io w (M b a)=ao:=by unfold iB at h;exact tb
def iB.cells(a:iB w b h0 h1 h2 h3 h4 h5 q n k c opt sz cK):aD w (M b 0)=ag (J h0)/\aD w (M b 1)=ag (J h1)/\aD w (M b 2)=ag (J h2)/\aD w (M b 3)=ag (J h3)/\aD w (M b 4)=ag (J h4)/\aD w (M b 5)=ag (J h5)/\aD w (M b 6)=ag (aZ q)/\aD w (M b 7)=ag (aZ n)/\aD w (M b 8)=ag (J k)/\aD w (M b 9)=ag (J c)/\aD w (M b 10)=ag (aG opt)/\aD w (M b 11)=ag (J sz)/\aD w (M b 12)=ag (J cK):=by unfold iB at a;refine⟨?_,?_,?_,?_,?_,?_,?_,?_,?_,?_,?_,?_,?_⟩<;>simp[aD,a]
def Dq{P:Prop}(h:P:=by unfold iB at *;exact PC):P:=h
def iB.yA(h:iB w b h0 h1 h2 h3 h4 h5 q n k c opt sz cK)(a):iB (a_ w ⟨b,6,ai⟩<|amz<|O a) b h0 h1 h2 h3 h4 h5 a n k c opt sz cK:=by exact Dq
def iB.azw(h:iB w b h0 h1 h2 h3 h4 h5 q n k c opt sz cK)(a):iB (a_ w ⟨b,7,ai⟩<|amz<|O a) b h0 h1 h2 h3 h4 h5 q a k c opt sz cK:=by exact Dq
def iB.azx(h:iB w b h0 h1 h2 h3 h4 h5 q n k c opt sz cK)(a):iB (a_ w ⟨b,8,ai⟩<|ak am a) b h0 h1 h2 h3 h4 h5 q n a c opt sz cK:=by exact Dq
def iB.azy(h:iB w b h0 h1 h2 h3 h4 h5 q n k c opt sz cK)(a):iB (a_ w ⟨b,9,ai⟩<|ak am a) b h0 h1 h2 h3 h4 h5 q n k a opt sz cK:=by exact Dq
def iB.kept{w'}(a:iB w b h0 h1 h2 h3 h4 h5 q n k c opt sz cK)(d:w'.1[b]? = w.1[b]?):iB w' b h0 h1 h2 h3 h4 h5 q n k c opt sz cK:=c_ d a
end
def amx{g}(k:nE f g e C):ST f e C:=by obtain⟨⟨r,l⟩,n⟩:=k;rcases l with⟨a,_⟩|⟨j,h,i,a,t,c,o,w,x,y⟩;{exact .inl ⟨a,n.1 a⟩};{refine .inr ⟨j,h,a,o,(ea.1 c).1,λd u=>?_⟩;have q:i.1[d]? = (C.map λp=>amz<|O p)[d]?:=by{grind};simp only[aD,c];grind}
def alY(s b a):E (e_ s b a).1<=a:=by grind[e_]
def Su:∀(f a:Nat) (s:ap) (b:Bool) (size:Nat) (c:List ap),(∀e∈c,E e<=63)->E c<=size->size<=255->(∀e∈(oV f a s b size c).1,E e<=63)/\E (oV f a s b size c).1<=255/\E (oV f a s b size c).2.1<=E s
 | 0,a,s,b,size,c,g,h,i=>⟨g,by simp only[oV];omega,cW _⟩
 | f+1,a,s,b,size,c,g,h,i=>by rw[oV];split;{grind};{split;{simp};{rename_i k j;have:=Su f (fe (e_ s b a).2.1 (e_ s b a).2.2).1 (fe (e_ s b a).2.1 (e_ s b a).2.2).2.1 (fe (e_ s b a).2.1 (e_ s b a).2.2).2.2 (size+1+a) (c++[(e_ s b a).1]) ?_ (by grind) G;{exact⟨this.1,this.2.1,cU this.2.2<|cU (vP _ _)<|yy _ _ _⟩};{intro e d;rcases lc.1 d with d|d;{grind};{rw[BU.1 d];have:=alY s b a;omega}}}}
def Sv(s a):(∀b∈(r_ s a).1,E b<=63)/\E (r_ s a).1<=255/\E (r_ s a).2.1<=E s:=by have:=Su 256 (fe s a).1 (fe s a).2.1 (fe s a).2.2 1 [] aA aA G;exact⟨this.1,this.2.1,cU this.2.2<|vP _ _⟩
def Sw{b d s}{J M P Q a2 aY aU ay ad aj L}(T:iB f b J i p M P Q a2 aY aU ay ad aj L)(W:eB f d s H)(l:b≠d)(r:E s<=1000000000){Y B j w e h o al}(D:r_ s H=(C,j,h))(F:fj j h=(Y,w,o))(g:fj w o=(B,e,al)):bd aK 133 #[N b,N d] f λk x=>k=bg (bX #[])/\iB x b J i p M P Q (amA (E s-E e) s) (c8 C) Y B ad aj L/\eB x d e al/\cL (λa=>a≠b/\a≠d) f x:=by have t:=ae<|alc W r;have A:=Sv s H;rw[D]at A;rw[ax,D]at t;obtain⟨rK,a1,au⟩:=A;simp only at t rK a1 au;have Z:=uN j h;have aa:=uN w o;rw[F]at Z;rw[g]at aa;simp only at Z aa;have:=W.cells.1;have aA:=ae T;have aP:=ae F;have a3:=ae g;have aw:=ae rK;have aI:=T.lt;go_in;go_wp21;refine t.mono ?_;rintro k a4 ⟨v,rfl,aN,aJ,I⟩;have a0:=ae<|ak_ (amx aN) G λaV r=>cj<|V aw aV r;have ab:=ae<|aA.kept<|I.5 b aI l;have X:=ae aJ;have aB:ax (cL (λa=>a≠b/\a≠d) f a4):=(cL.CO I).mono λa _ c=>c.2;go_wp21;refine a0.m λn q=>?_;have u:=ae<|ab.kept<|q.5 b ab.lt;have aT:ax (eB n d j h):=(q.5 d X.lt).trans X;have aC:=ae<|aB.trans<|cL.zY q;have aF:=u.frozen;have:=u.cells.2.2.2.2.2.2.2.1;go_wp21;have ac:=ae<|u.azw<|c8 C;have aW:ax (eB (a_ n ⟨b,7,ai⟩<|amz<|O<|c8 C) d j h):=(dJ _ _ _ _<|by grind).trans<|V aT;have aR:ax (cL (λa=>a≠b/\a≠d) f<|a_ n ⟨b,7,ai⟩<|amz<|O<|c8 C):=aC.trans<|cL.j9 _ λa c=>c.1;generalize a_ n ⟨b,7,ai⟩ (amz<|O<|c8 C)=bb at *;have an:=nD h (V aW) G;rw[V aP]at an;refine an.m λbc ⟨aM,R,ba⟩=>?_;have ap:=ae<|ac.kept<|R.5 b ac.lt l;have aq:=ae aM;have aZ:=ae<|aR.trans<|(cL.CO R).mono λa _ c=>c.2;go_wp21;have z:=nD o (V aq) G;rw[V a3]at z;refine z.m λbf ⟨ar,S,a9⟩=>?_;have y:=ae<|ap.kept<|S.5 b ap.lt l;have ah:=ae ar;have aX:=ae<|aZ.trans<|(cL.CO S).mono λa _ c=>c.2;have aF:=y.frozen;obtain⟨-,-,-,-,-,-,a5,-,a6,a7,-,-,-⟩:=y.cells;have:=ah.cells.1;have:=de s;have:=de e;have:(E s:Int)-E e=((E s-E e:Nat):Int):=G;have aH:E s-E e<=E s:=G;have az:=ae<|z8 s (E s-E e) aH;have:d≠b:=λk=>l<|bZ k;generalize av:E s-E e=a8 at *;go_wp2;refine lG (v:=bX #[]) (by simp[dr,results133]) af ?_;rw[V az,av];exact⟨af,((y.azx _).azy _).yA _,(dJ _ _ _ _ fN).trans<|(dJ _ _ _ _ fN).trans<|(dJ _ _ _ _ fN).trans<|V ah,((aX.trans<|cL.j9 _ λa c=>c.1).trans<|cL.j9 _ λa c=>c.1).trans<|cL.j9 _ λa c=>c.1⟩
def ir(c d e g h i:Int)(n k:ap)(j a:Int)(l:Bool)(o b:Int):bm :=
 ci #[J c,J d,J e,J g,J h,J i,amz<|O n,amz<|O k,J j,J a,aG l,J o,J b]
def al0(a):(Op.equalIn 10000 131 (ci #[J 1,J 0,J 0,J 0])<|ci #[J 1,J 0,J 0,J 0]).run aK a=.ok aE a:=b8
def DI(c:aQ)(b a:Int)(s:ap):aQ :=
 (((aO c<|aS #[ak am b,ak am a,ak am 1,ak am 0,ak am 0,ak am 0] 133).alloc
   (aS #[ak am 0,ak am 0,ak am 0,ak am 0,ak am 0,ak am 0,amz ⟨#[]⟩,amz ⟨#[]⟩,ak am 0,ak am 0,aG ao,ak am 0,ak am 0] 137)).alloc
   (aS #[ak am b,ak am a,ak am 1,ak am 0,ak am 0,ak am 0,amz ⟨#[]⟩,amz ⟨#[]⟩,ak am 0,ak am 0,aG ao,ak am 0,ak am 0] 137)).alloc
   (aS #[amz<|O s,aG ao] 215)
def al2(a c b s):iB (DI a c b s) (U a.1+1+1) c b 1 0 0 0 [] [] 0 0 ao 0 0/\iB (DI a c b s) (U a.1+1) 0 0 0 0 0 0 [] [] 0 0 ao 0 0/\eB (DI a c b s) (U a.1+1+1+1) s ao/\a7 a (DI a c b s):=by refine⟨?_,?_,?_,?_⟩;{refine(dT _ _ _ aA).trans ?_;have:=du (aO (aO a<|aS #[ak am c,ak am b,ak am 1,ak am 0,ak am 0,ak am 0] 133)<|aS #[ak am 0,ak am 0,ak am 0,ak am 0,ak am 0,ak am 0,amz ⟨#[]⟩,amz ⟨#[]⟩,ak am 0,ak am 0,aG ao,ak am 0,ak am 0] 137)<|aS #[ak am c,ak am b,ak am 1,ak am 0,ak am 0,ak am 0,amz ⟨#[]⟩,amz ⟨#[]⟩,ak am 0,ak am 0,aG ao,ak am 0,ak am 0] 137;simpa [O]using this};{refine(dT _ _ _ aA).trans<|(dT _ _ _ aA).trans ?_;have:=du (aO a<|aS #[ak am c,ak am b,ak am 1,ak am 0,ak am 0,ak am 0] 133)<|aS #[ak am 0,ak am 0,ak am 0,ak am 0,ak am 0,ak am 0,amz ⟨#[]⟩,amz ⟨#[]⟩,ak am 0,ak am 0,aG ao,ak am 0,ak am 0] 137;simpa [O]using this};{have:=du (aO (aO (aO a<|aS #[ak am c,ak am b,ak am 1,ak am 0,ak am 0,ak am 0] 133)<|aS #[ak am 0,ak am 0,ak am 0,ak am 0,ak am 0,ak am 0,amz ⟨#[]⟩,amz ⟨#[]⟩,ak am 0,ak am 0,aG ao,ak am 0,ak am 0] 137)<|aS #[ak am c,ak am b,ak am 1,ak am 0,ak am 0,ak am 0,amz ⟨#[]⟩,amz ⟨#[]⟩,ak am 0,ak am 0,aG ao,ak am 0,ak am 0] 137)<|aS #[amz<|O s,aG ao] 215;simpa [eB,DI]using this};{exact Qt}
def Pr{P:Prop}(h:P:=by go_region;all_goals(go_wp2;refine eh (v:=bX #[ir id bits 1 0 0 0 q nm k' c' ao 0 0,aG ao]) (by simp[dr,results72,go_sem,ir,cS,d1,d2,iZ,d4,d5,d6,d7,d8,d9,d10,d11,d12]) af ⟨V Mn ao af,?_⟩;first|exact(aW _ (aW _ (aW _ (aW _ (aW _ (aW _ (aW _ (aW _ (aW _ (aW _ (aW _ (aW _ (aW _ bM _ _) _ _) _ _) _ _) _ _) _ _) _ _) _ _) _ _) _ _) _ _) _ _) _ _).drew|exact(aW _ (aW _ (aW _ (aW _ (aW _ (aW _ (aW _ (aW _ (aW _ (aW _ (aW _ (aW _ (aW _ bM.drew _ _) _ _) _ _) _ _) _ _) _ _) _ _) _ _) _ _) _ _) _ _) _ _) _ _))):P:=h
def Rt{id bits m}(Y:12<=E m)(X:E m<=1000000000){k' c' t u a x b}(d:r_ (bh 12 m) ao=(C,t,H))(k:fj t H=(k',u,x))(l:fj u x=(c',a,b)):bd aK 72 #[ci #[J id,J bits,J 1,J 0,J 0,J 0],amz<|O m] f λD S=>D=bg (bX #[ir id bits 1 0 0 0 (amA (E (bh 12 m)-E a)<|bh 12 m) (c8 C) k' c' ao 0 0,aG<|!b&&a.isEmpty])/\a7 f S:=by
 have:=de m;have z:=ae<|Cf m 12 af;have:=al0;have T:=ae d;have K:=ae k;have R:=ae l;have⟨Mm,JD,mh,hb0⟩:=al2 f id bits<|bh 12 m;have y:=ae<|Sw Mm mh G (by grind) (V T) (V K)<|V R;have j:=ae JD;have n:=ae hb0;go_in;go_wp21;rw[V z];refine y.m λaa ⟨W,I,r⟩=>?_;have o:=ae<|j.kept<|r.5 _ j.lt ⟨G,G⟩;have bM:=ae<|bN n<|r.below (λZ aN=>⟨G,G⟩) n.4;have M:=ae W;have L:=ae I;generalize A:amA (E (bh 12 m)-E a) (bh 12 m)=q,iN:c8 C=nm at *;have B:=ae A;have N:=ae iN;have:=M.cells;have⟨cS,d1,d2,iZ,d4,d5,d6,d7,d8,d9,d10,d11,d12⟩:=o.cells;have:=o.frozen;have⟨r0,r1⟩:=L.cells;go_wp2;have Q:∀i:Bool,(!b&&a.isEmpty)=i->bg (bX #[ir id bits 1 0 0 0 q nm k' c' ao 0 0,aG i])=bg (bX #[ir id bits 1 0 0 0 (amA (E (bh 12 m)-E a)<|bh 12 m) (c8 C) k' c' ao 0 0,aG<|!b&&a.isEmpty]):=λi e=>by{rw[V B,V N,e]};have Mn:=ae Q;have aW:=ae fun(w:aQ) (F:a7 f w) (P:Nat) (v:bm)=>fk F (p:=⟨U f.1+1,P,ai⟩) aA v;cases b;{
 cases a with
 | nil =>{have d:O []=⟨#[]⟩:=af;rw[d]at r0;go_region;all_goals(go_wp2;refine eh (v:=bX #[ir id bits 1 0 0 0 q nm k' c' ao 0 0,aG aE]) (by simp[dr,results72,go_sem,ir,cS,d1,d2,iZ,d4,d5,d6,d7,d8,d9,d10,d11,d12]) af ⟨V Mn aE af,?_⟩;first|exact(aW _ (aW _ (aW _ (aW _ (aW _ (aW _ (aW _ (aW _ (aW _ (aW _ (aW _ (aW _ (aW _ bM _ _) _ _) _ _) _ _) _ _) _ _) _ _) _ _) _ _) _ _) _ _) _ _) _ _).drew|exact(aW _ (aW _ (aW _ (aW _ (aW _ (aW _ (aW _ (aW _ (aW _ (aW _ (aW _ (aW _ (aW _ bM.drew _ _) _ _) _ _) _ _) _ _) _ _) _ _) _ _) _ _) _ _) _ _) _ _) _ _))}
 | cons h g =>{
 have d:((O (h::g)).toList==(⟨#[]⟩:ByteArray).toList)=ao:=by rw[BX];rfl
 have k:(O (h::g)).toList.isEmpty=ao:=by simp_all
 have l:¬cf (O (h::g))=0:=by rw[de];simp
 generalize O (h::g)=gF at *;exact Pr}};{exact Pr}
def vr(a:Int):Bool:=a != 0&&a != 41&&(dQ (a<249)||dQ (254<a))
def sT(a b:Int):Int:=bits .or am (bits .or am 32768<|bits .and am a 30976)<|bits .and am b 15
def Dy{P:Prop}(h:P:=by show w.heap.size<=w.heap.size+1;omega):P:=h
def Sx(b a d bA e g c w):bd aK 132 #[ci #[J b,J a,J d,J bA,J e,J g],J c] w λh i=>h=bg (ci #[J b,J<|sT a c,J 0,J 0,J 0,J 0])/\a7 w i:=by go_wp2;refine eh (v:=ci #[ak am b,ak am<|sT a c,ak am 0,ak am 0,ak am 0,ak am 0]) (by simp[dr,results132,go_sem,sT]) af ⟨af,?_⟩;first|exact(ct cd bv _).alloc aA _|exact(((((((((Below.refl _ _).alloc (Nat.le_refl _) _).alloc aA _).setCell Dy _).setCell Dy _).setCell Dy _).setCell Dy _).setCell Dy _).setCell Dy _)
def al3{e g h j n l k b o c}:bd aK 138 #[ir p e g h i j n l k b ao o c] f (cQ (J 512) f):=by unfold ir;go_wp2;go_ret;exact FL
def al4{d e g h j n l k b c o}:bd aK 136 #[ir d e g h i j n l k b ao p c,J o] f (cQ (amz ⟨#[]⟩) f):=by unfold ir;go_wp2;go_ret;exact FL
section
open Go
def AB:bm->Nat
 | .slice _ a _=>a
 | _=>0
structure jE(w w':World)(t:TypeId)(sz:Nat)(v v':Value):Prop where
 row:∀(i:Nat) (cur:Array Value),w.heap[i]? = some (.cells cur t (0,0))->∃cur',w'.heap[i]? = some (.cells cur' t (0,0))/\cur'.size=cur.size/\∀j,(v.ownBlock=some i->j<AB v*sz)->cur'[j]? = cur[j]?
 own:∀g,v'.ownBlock=some g->(v.ownBlock=some g/\AB v<=AB v')\/w.heap.size<=g
section
variable {w w' w1:World} {t:TypeId} {sz:Nat} {v v' v1:Value}
def jE.same(v sz)(d:∀(a:Nat) (b:Array bm),w.1[a]? = ag (aS b t (0,0))->w'.1[a]? = w.1[a]?):jE w w' t sz v v :=
 ⟨λa b c=>⟨b,(d a b c).trans c,af,λ_ _=>af⟩,λ_ e=>bG ⟨e,cW _⟩⟩
def jE.refl(w)(t:d_)(sz v):jE w w t sz v v:=jE.same v sz λ_ _ _=>af
def jE.trans(b:jE w w1 t sz v v1)(j:jE w1 w' t sz v1 v')(q:U w.1<=U w1.1):jE w w' t sz v v':=by refine⟨λc l g=>?_,λe o=>?_⟩;{have⟨bA,h1,h2,h3⟩:=b.1 c l g;have⟨c2,k1,k2,k3⟩:=j.1 c bA h1;have:=(ea.1 g).1;refine⟨c2,k1,c_ k2 h2,λi h=>(k3 i λn=>?_).trans<|h3 i h⟩;rcases b.2 c n with⟨a,d⟩|a;{exact e8 (h a)<|ys _ d};{omega}};{rcases j.2 e o with⟨a,d⟩|a;{rcases b.2 e a with⟨k,p⟩|k;{grind};omega};omega}
def jE.alV(i:jE w w' t sz v v'){a d e}(c:w.ownsRow a t sz v d e):w'.ownsRow a t sz v d e:=by refine⟨c.1,?_⟩;rcases c.2 with u|⟨b,g,h,rfl,o,p,j,k,l,n⟩;{grind};{have⟨cur',k1,k2,k3⟩:=i.1 b h p;refine bE ⟨b,g,cur',af,o,k1,j,k,c_ k2 l,?_⟩;rw[<- n];apply List.ext_getElem?;intro r;rw[DH,DH];split;{rename_i q;have:=k3 r λ_=>q;grind};{rfl}}
end
def al5{c a}(aN:a<U f.1):(aO (bq f) c).1[a]? = f.1[a]?:=dT (bq f) c a aN
def Zq{g c}{v}(k:bW c=ag (U f.1)):jE f (aO (bq f) v) z g e c :=
 ⟨λl d b=>⟨d,(al5 (ea.1 b).1).trans b,af,λ_ _=>af⟩,λi j=>bE<|by grind⟩
def Sy{sz b n k cap a news}(j:f.1[b]? = ag (aS a z (0,0)))(t:n*sz+E news<=U a)(o:n<=k):jE f (f.setRow b<|dl<|amA (n*sz) a.1++news++bh (n*sz+E news) a.1) z sz (bC b 0 n cap) (bC b 0 k cap):=by
 refine⟨λd g i=>?_,λr q=>bG ⟨q,o⟩⟩;by_cases h:d=b;{
 subst h;rw[j]at i;obtain rfl:a=g:=by grind
 refine⟨_,setRow_heap f d a _ z _ j,by grind,λp l=>?_⟩;have:p<n*sz:=l af;grind};{exact⟨g,(setRow_other f b d _ h).trans i,af,λ_ _=>af⟩}
section
variable {P:Program} (w:World)
theorem H5{P:Prop}(h:P:=by rw[q]at hr;cases hr;exact Zq af):P:=h
theorem al6{I}{k c:d_}{a:TypeInfo}{size u}(r:P.underlying z=ag (.slice c))(aN:P.info? c=ag a)(A:a.8=ag e)(R:a.3=size)(K:a.4=u)(X:0<size){v b H}(p:w.ownsRow I c size v b H){h m i}{d:List bm}(j:E d=m*size)(o:∀B l,d[B]? = ag l->aD w (h.add B)=ag l)(J:∀l∈d,l.oneCell'=aE)(T:b+m<=hC)(L:(b+m)*u<=140737488355328){D}(hr:(Builtin.append_ #[z,z] k #[v,aL (ag h) m i]).run P w=.ok D f)(O:0<m):jE w f c size v D:=by
 subst R;subst K;have:b+m<=9223372036854775807:=fN
 rcases p.2 with⟨rfl,rfl⟩|⟨g,n,x,rfl,V,y,Y,W,N,S⟩;{have q:=run_append_nil (P:=P) w z k c a e r aN A h m i d j o O G (by grind);exact H5};{
 by_cases F:b+m<=n;{
 have C:b*a.3+E d<=U x:=by rw[j,N,<- K6];exact ys _ F
 have q:=run_append_room (P:=P) w z k c a r aN g b n x y h m i d j o J F C;rw[q]at hr;cases hr;exact Sy y C G};{have Q:=p.cells (g:=g) af;have q:=run_append_grow (P:=P) w z k c a e r aN A (M g 0) b n H p.1 Q h m i d j o G G (growslice_fits G L);exact H5}}
theorem al7{A}{d s a:d_}{b:TypeInfo}(h:P.underlying z=ag (.slice a))(i:P.underlying d=ag .string)(aN:P.info? a=ag b)(x:b.8=ag (ak ck 0))(u:b.3=1)(B:b.4=1){n l}(j:w.ownsRow A a 1 e n l)(H:n+cf T<=hC)(J:n+cf T<=140737488355328){y}(hr:(Builtin.append_ #[z,d] s #[e,amz T]).run P w=.ok y f):jE w f a 1 e y:=by
 have:n+cf T<=9223372036854775807:=fN
 have:E l=n:=by simpa using j.1
 rcases j.2 with⟨rfl,rfl⟩|⟨g,cap,o,rfl,I,r,N,K,L,F⟩;{by_cases t:cf T=0;{have p:=Lib.run_firstCells_string (P:=P) w 1 T;rw[t]at p;have q:(Builtin.append_ #[z,d] s #[bY,amz T]).run P w=.ok (bY) w:=by{simp[Builtin.append_,KR h,KR i,sizeOf,typeInfo,aN,u,Builtin.lenOf,t,p]};rw[q]at hr;cases hr;exact jE.refl _ _ _ _};{have q:=run_append_nil_string (P:=P) w z d s a b (ak ck 0) h i aN x T G G (by grind);exact H5}};{have:U o=cap:=G;by_cases D:n+cf T<=cap;{have q:=Lib.run_append_room_string (P:=P) w z d s a b h i aN u g n cap o r T D G;rw[q]at hr;cases hr;have:=Sy (sz:=1) (n:=n) (k:=n+cf T) (cap:=cap) (news:=Lib.strCells T) r (by rw[Lib.strCells_length];omega) G;rw[uJ,Lib.strCells_length]at this;omega};{have C:=j.cells (g:=g) af;have q:=Lib.run_append_grow_string (P:=P) w z d s a b (ak ck 0) h i aN x (M g 0) n cap l (by grind) C T G G (B▸growslice_fits G G);exact H5}}
theorem Sz{J rest h i r}(Q:h.6=ai)(s K)(S:h.2=.call { callee:=.builtin .append,args:=#[s,K],argTypes:=#[z,z] })(j){b:d_}{d:TypeInfo}{size o}(G:P.underlying z=ag (.slice b))(aN:P.info? b=ag d)(H:d.8=ag e)(D:d.3=size)(y:d.4=o)(W:U e.cells=size)(F:0<size){v}(k){p}(T:i.eval s=v)(C:w.ownsRow j b size v k p)(n){m}(t g)(R:0<m)(V:i.eval K=aL (ag n) m t)(A:E g=m*size)(B:∀I l,g[I]? = ag l->aD w (n.add I)=ag l)(u:∀l∈g,l.oneCell'=aE)(x:k+m<=hC)(q:(k+m)*o<=140737488355328)(O:j<=U w.1)(L:∀a c,c.ownsRow j b size a (k+m) (p++g)->w.grownBy c (bW v)->jE w c b size v a->(bW a=bW v\/bW a=ag (U w.1))->wpList P J r rest (i.put h.1 a) c):wpList P J r (h::rest) i w:=by refine wpList_plain Q λX N=>?_;have⟨a,c,hr,h2,h3,_,h5⟩:=run_append_own_at (P:=P) w j z h.3 b d e size o G aN H D y W F v k p C n m t g A B u x q O;have M:=al6 (P:=P) w G aN H D y F C A B u x q hr R;simp only[Oper.wp,execOp,S,resolve,invoke,builtin,Sem.run_bind,DS,zI,Eb,nr,u_,T,V,hr];exact N _ _<|L a c h2 h3 M h5
theorem al8{z rest v h n}(H:v.6=ai)(A B)(j k:d_)(I:v.2=.call { callee:=.builtin .append,args:=#[A,B],argTypes:=#[j,k] })(i)(a:d_)(c:TypeInfo)(u:P.underlying j=ag (.slice a))(x:P.underlying k=ag .string)(aN:P.info? a=ag c)(y:c.8=ag (ak ck 0))(t:c.3=1)(p:c.4=1)(d){l}(J:h.eval A=e)(r:w.ownsRow i a 1 e d l)(s)(K:h.eval B=amz s)(o:d+cf s<=hC)(q:d+cf s<=140737488355328)(G:i<=U w.1)(C:∀g b,b.ownsRow i a 1 g (d+cf s) (l++Lib.strCells s)->w.grownBy b (bW e)->jE w b a 1 e g->wpList P z n rest (h.put v.1 g) b):wpList P z n (v::rest) h w:=by refine wpList_plain H λL F=>?_;have⟨g,b,hr,h2,h3,_⟩:=Lib.run_append_own_string (P:=P) w i j k v.3 a c u x aN y t p e d l r s o q G;have D:=al7 (P:=P) w u x aN y t p r o q hr;simp only[Oper.wp,execOp,I,resolve,invoke,builtin,Sem.run_bind,DS,zI,Eb,nr,u_,J,K,hr];exact F _ _<|C g b h2 h3 D
end
end
def eJ(d:aQ)(a:Nat)(b c:bm):Prop:=d.1[a]? = ag (aS #[b,c] 283)
section
variable {w:World} {b:Nat} {vb vp:Value}
def eJ.lt(a:eJ w b vb vp):b<U w.1:=(ea.1 a).1
def eJ.cells(a:eJ w b vb vp):aD w (M b 0)=ag vb/\aD w (M b 1)=ag vp:=by unfold eJ at a;constructor<;>simp[aD,a]
def eJ.frozen(h:eJ w b vb vp)(a):io w (M b a)=ao:=by unfold eJ at h;exact tb
def eJ.set0(a:eJ w b vb vp)(v):eJ (a_ w ⟨b,0,ai⟩ v) b v vp:=by unfold eJ at *;exact Dk
def eJ.set1(a:eJ w b vb vp)(v):eJ (a_ w ⟨b,1,ai⟩ v) b vb v:=by unfold eJ at *;exact Dk
def eJ.kept{w'}(a:eJ w b vb vp)(c:w'.1[b]? = w.1[b]?):eJ w' b vb vp:=c_ c a
end
def ya{a n}{t:d_}(h:eJ f a e n)(p:t≠283)(j k v c):jE f (a_ f ⟨a,j,ai⟩ k) t c v v :=
 jE.same v c λi o g=>dJ _ _ _ _ λd=>by
  have l:i=a:=d;rw[l,h]at g
  grind
def SA(b d)(e:d_)(a v):jE b (aO b d) e a v v :=
 jE.same v a λ_ _ c=>dT _ _ _ (ea.1 c).1
def ib(d:aQ)(b:Nat)(v:bm)(a:ap):Prop:=d.ownsRow b 5 1 v (E a)<|a.map λc=>ak ck<|be c
def Cr:(aK.info? 5).map (λa=>(a.8,a.3,a.4))=ag (ag<|ak ck 0,1,1):=b8
def AC:aK.underlying 58=ag (.slice 5):=b8
def sU{b a}{g v j}(q:f.ownsRow b z g e v j)(k:ag a≠bW e)(w x):(a_ f ⟨a,w,ai⟩ x).ownsRow b z g e v j:=by obtain⟨r,d⟩:=q;refine⟨r,?_⟩;rcases d with d|⟨c,n,o,rfl,t,l,u⟩;{grind};{exact bE ⟨c,n,o,af,t,(dJ _ _ _ _ (by show c≠a;intro p;subst p;exact k af)).trans l,u⟩}
def Ex{b j k v i}(g:eJ f b e k)(h:ib f j v i):ag b≠bW v:=λa=>by
 obtain⟨_,⟨rfl,_⟩|⟨o,l,n,rfl,_,d,_⟩⟩:=h
 ·simp[bW]at a
 ·simp only[bW,ug]at a;subst a;rw[g]at d
  grind
def qk{b}{g v j}(d:f.ownsRow b z g e v j):∃a m c,e=aL a m c:=by obtain⟨_,⟨rfl,_⟩|⟨n,k,l,rfl,_⟩⟩:=d;{simp};simp
def al9{d a n C l}(p:eJ f d e C)(L:ib f a e l)(R:a<=U f.1)(S:E l<=1000000):bd aK 341 #[ak ck<|be n,N d] f λI o=>I=bg (bX #[])/\∃g,eJ o d g C/\ib o a g (l++[n])/\(bW g=bW e\/∃h,bW g=ag h/\U f.1<=h)/\jE f o 5 1 e g/\cL (λb=>b≠d/\ag b≠bW e) f o:=by
 have⟨i0,aN,hz0,hz1,hz2⟩:=jN Cr;have:=p.cells.1;have y:=ae p;have x:=ae L;have K:=p.lt;go_in;go_wp2_with (at_builtin;go_loud (refine Sz _ af (.tmp 8) (.tmp 10) af a AC aN hz0 hz1 hz2 af bL (E l) af (x.alloc _) (M (U f.1) 0) 1 [ak ck<|be n] bL af af ?bA ?c2 ?c3 ?cD ?fB ?_))
 case bA =>
  intro Q u hj
  match Q,hj with
  | 0,hj=>exact Dn
  | T+1,hj=>grind
 case c2=>exact H0
 case c3=>exact uW
 case cD=>omega
 case fB=>simp;omega
 intro W D O k F J;obtain⟨r,w,t,rfl⟩:=qk O;have z:ax (ib D a (aL r w t)<|l++[n]):=by
  unfold ax ib
  grind
 have A:=λb aN q =>
  (k.5 b cx q).trans (dT _ _ _ aN)
 have q:=Ex (V y)<|V x;have i:=ae<|y.kept<|A d K q;have B:ax (cL (λb=>b≠d/\ag b≠bW e) f D) :=
  ⟨k.1,k.2,k.3,cU aA k.4,λb aN P=>A b aN P.2⟩
 have H:ax (bW (aL r w t)=bW e\/∃h,bW (aL r w t)=ag h/\U f.1<=h):=by
  rcases J with j|j
  ·exact bG j
  ·exact bE ⟨_,j,aA⟩
 have G:=ae<|(SA f _ _ _ _).trans F aA;have:=i.frozen;have:=i.cells.1;go_wp2;exact lG (v:=bX #[]) (by simp[dr,results341]) af ⟨af,_,i.set0 _,sU (V z) (Ex (V i)<|V z) _ _,H,G.trans (ya (V i) bL _ _ _ _) B.4,B.trans<|cL.j9 _ λb j=>j.1⟩
def lw(e:Nat)(a b:aQ):Prop:=∀g h,eJ a e g h->∃c d,eJ b e c d/\jE a b 5 1 g c/\jE a b 343 2 h d
def lw.of{c g h d}(i:eJ f c g h)(k:eJ m c d e)(l:jE f m 5 1 g d)(n:jE f m 343 2 h e):lw c f m:=λo p j=>by
 unfold eJ at i j
 grind
def lw.trans{a b}(i:lw a b f)(k:lw a f m)(d:U b.1<=U f.1):lw a b m:=λp q j=>by
 obtain⟨g,o,l,r,u⟩:=i p q j;obtain⟨h,fz,n,t,w⟩:=k g o l;exact⟨h,fz,n,r.trans t d,u.trans w d⟩
def lw.same{d}(o:lw d f m)(p:∀a,a<U f.1->u.1[a]? = m.1[a]?):lw d f u:=λx y g=>by
 obtain⟨l,w,h,j,k⟩:=o x y g;have q:=g.lt;refine⟨l,w,h.kept<|p d q,⟨λa b c=>?_,j.2⟩,⟨λa b c=>?_,k.2⟩⟩
 ·obtain⟨n,r,t⟩:=j.1 a b c
  grind
 ·obtain⟨n,r,t⟩:=k.1 a b c
  grind
def lw.refl(c a):lw c a a:=λd e b=>⟨d,e,b,jE.refl _ _ _ _,jE.refl _ _ _ _⟩
def lw.below{b}(d:a7 f m):lw b f m:=(lw.refl b f).same λe aN=>d.5 e aN
def lw.azN{c r k q}(y:lw c f m)(p:eJ f c e r)(A:eJ m c k q){b l}(z:bW k=ag b)(I:AB e<=l){x}(w:m.1[b]? = ag (aS x 5 (0,0)))(j):lw c f (a_ m ⟨b,l,ai⟩ j):=by
 have⟨b1,q1,m1,x1,y1⟩:=y e r p;obtain⟨rfl,rfl⟩:b1=k/\q1=q:=by{unfold eJ at m1 A;grind};have B:∀a,a≠b->(a_ m ⟨b,l,ai⟩ j).1[a]? = m.1[a]?:=λa aN=>dJ _ _ _ _ aN;have u:c≠b:=λh=>by rw[<- h,m1]at w;grind
 refine lw.of p (m1.kept<|B c u) ⟨λa g i=>?_,x1.2⟩ ⟨λa g i=>?_,y1.2⟩;{have⟨o,k1,k2,k3⟩:=x1.1 a g i;by_cases h:a=b;{subst h;refine⟨o.setIfInBounds l j,?_,by grind,λC G=>?_⟩;{simp only[a_];grind};{have H:l≠C:=λF=>by{rcases x1.2 a z with⟨t,D⟩|t;{grind};grind};grind}};grind};{have o:=y1.1 a g i;grind}
structure Lp(mb base:Nat)(w w':World):Prop where
 os:w'.os=w.os
 tape:w'.tape=w.tape
 output:w'.output=w.output
 size:w.heap.size<=w'.heap.size
 block:∀i,i<w.heap.size->i≠mb->(i<base\/∀cur,w.heap[i]?≠some (.cells cur 5 (0,0)))->w'.heap[i]? = w.heap[i]?
structure mp(mb base:Nat)(w w':World):Prop where
 os:w'.os=w.os
 tape:w'.tape=w.tape
 output:w'.output=w.output
 size:w.heap.size<=w'.heap.size
 block:∀i,i<w.heap.size->i≠mb->(i<base\/∀cur,w.heap[i]?≠some (.cells cur 5 (0,0)))->w'.heap[i]? = w.heap[i]?
 kp:lw mb w w'
def mp.refl(c b a):mp c b a a:=⟨af,af,af,cW _,λ_ _ _ _=>af,lw.refl _ _⟩
def mp.trans{d c}(a:mp d c f m)(b:mp d c m u):mp d c f u :=
 ⟨c_ b.1 a.1,c_ b.2 a.2,c_ b.3 a.3,cU a.4 b.4,λj aN i l=>by
  have k:=a.5 j aN i l;refine(b.5 j (e8 aN a.4) i ?_).trans k
  grind,a.6.trans b.6 a.4⟩
def mp.adJ{g d}(a:a7 f m):mp g d f m:=⟨a.1,a.2,a.3,a.4,λe aN _ _=>a.5 e aN,lw.below a⟩
def mp.alZ{h i x}(k:ib f i e x)(b:cL (λc=>c≠h/\ag c≠bW e) f m){n l}(g:eJ f h e n)(o:eJ m h l n)(w:jE f m 5 1 e l):mp h i f m :=
 ⟨b.1,b.2,b.3,b.4,λc aN g z=>b.5 c aN ⟨g,λa=>by
  obtain⟨_,⟨rfl,_⟩|⟨t,q,r,rfl,u,p,_⟩⟩:=k
  ·simp[bW]at a
  ·simp only[bW,ug]at a
   grind⟩,lw.of g o w (jE.same _ _ λc r j=>b.5 c (ea.1 j).1 ⟨λa=>by rw[a,g]at j;grind,λa=>by
  obtain⟨_,⟨rfl,_⟩|⟨t,q,y,rfl,u,p,_⟩⟩:=k
  ·simp[bW]at a
  ·simp only[bW,ug]at a
   grind⟩)⟩
def al_{d b}(h){n g}(j:eJ f d e n)(k:ib f b e g)(o:b<=U f.1)(u:E g<=1000000):bd aK 341 #[ak ck<|be h,N d] f λp a=>p=bg (bX #[])/\(∃c,eJ a d c n/\ib a b c (g++[h]))/\mp d b f a:=by exact(al9 j k o u).m λa ⟨c,i,q,_,r,t⟩=>⟨af,⟨c,i,q⟩,mp.alZ k t j i r⟩
def ama{g b}(s){r d}(j:eJ f g e r)(B:ib f b e d)(w:b<=U f.1)(K:E d<=1000000)(L:E s<=1000000000):bd aK 336 #[aZ s,N g] f λx k=>x=bg (bX #[])/\(∃l,eJ k g l r/\ib k b l (d++s))/\mp g b f k:=by
 have⟨i0,aN,hz0,hz1,hz2⟩:=jN Cr;have:=j.cells.1;have i:=ae j;have h:=ae B;have z:=j.lt;have D:=de s;have t:ax (aK.underlying 224=ag .string):=dS;go_in;go_wp2_with (at_builtin;go_loud (refine al8 _ af (.tmp 8) (.tmp 9) 58 224 af b 5 i0 AC (V t) aN hz0 hz1 hz2 (E d) af (V h) (O s) af ?c3 ?cD w ?_));case c3=>exact uW
 case cD=>omega
 intro M J o a u;obtain⟨G,I,H,rfl⟩:=qk o;have n:ax (ib J b (aL G I H)<|d++s):=by{rw[ax,ib,dE,kq,<- D];exact o};have A:=Ex (V i)<|V h;have c:=ae<|i.kept<|a.5 g z A;have F:=ae<|mp.alZ (V h) (cL.trans ⟨a.1,a.2,a.3,a.4,λp aN C=>a.5 p aN C.2⟩<|cL.j9 _ λp y=>y.1) (V i) (c.set0 _)<|u.trans (ya (V c) bL _ _ _ _) a.4;have:=c.frozen;have:=c.cells.1;go_wp2;refine lG (v:=bX #[]) (by simp[dr,results336]) af ⟨af,⟨_,c.set0 _,sU (V n) (Ex (V c)<|V n) _ _⟩,F⟩
def Lq(l:FuncId)(n:bm)(h:ap):Prop:=∀(c b:Nat) (i j:bm) (d:ap) (a:aQ),eJ a c i j->ib a b i d->b<=U a.1->E d+E h<=1000000 ->
 bd aK l #[n,N c] a λk e=>k=bg (bX #[])/\(∃g,eJ e c g j/\ib e b g (d++h))/\mp c b a e
structure oz where
 t:TypeId
 x:Value
 fn:FuncId
 out:ap
def oz.Ok (f : oz) : Prop := (∀ a : aQ, (method 521 f.1 f.2 "beacon/wire.writeTo").run aK a = .ok (f.3, f.2) a) ∧ (∀ (b : Array bm) (a : aQ), (callFunc f.3 b).run aK a = .ok (.enter f.3 b) a) ∧ Lq f.3 f.2 f.4
def ew(a:List oz):ap:=fA (·.out) a
def Se{a:List oz}{b}(c:b<E a):ew (amA (b+1) a)=ew (amA b a)++a[b].4:=by rw[ew,iH c,rR];simp[ew]
def amb(a b):E (ew<|amA b a)<=E (ew a):=by
 have:ew a=ew (amA b a)++ew (bh b a):=by rw[ew,ew,ew,<- rR,lP]
 grind
def Ez{u}(c g z a){l}(k w)(p:eJ w u e l)(q:ib w c e k)(ad:c<=U w.1)(P:∀f∈a,f.Ok)(aa:g<U w.1)(ac:g≠u)(O:g<c\/∀T,w.1[g]?≠ag (aS T 5 (0,0)))(ab:∀j (ah:j<E a),aD w (M g j)=ag (cV a[j].1 a[j].2))(ap:E a<=z)(aj:E a<=1000000)(an:E k+E (ew a)<=1000000):bd aK 139 #[N u,bC g 0 (E a) z] w λX x=>X=bg (bX #[])/\(∃d,eJ x u d l/\ib x c d (k++ew a))/\mp u c w x:=by
 have S:=ae p;have I:=ae q;have Q:=ae P;have F:=ae ab;have H:=ae O;go_wp2;go_loopw [8] (λr wr=>∃(b:Nat) (d:bm),r=J b/\b<=E a/\eJ wr u d l/\ib wr c d (k++ew (amA b a))/\mp u c w wr) λr _=>E a-c7 (fJ r);·exact⟨0,e,af,eb _,S,by simpa [ew]using V I,mp.refl _ _ _⟩
 ·(obtain⟨b,d,rfl,al,p,q,C⟩:=hrel;have A:=ae p;have D:=ae q;have t:=ae C;have:=C.4;by_cases i:b<E a;{have:=(ev (w:=w) (t.5 g aa ac<|V H)).trans (F b i);have n:=V Q a[b]<|eP i;have R:=ae<|Se i;have y:=ae<|amb a<|b+1;rw[Se i,dE]at y;generalize a[b]=f at *;have:=n.1;have:=n.2.1;have K:=ae<|n.2.2 u c d l _ wr (V A) (V D) G (by rw[dE];have:=V y;omega);go_wp21;refine K.m λaq ⟨⟨L,Y,B⟩,Z⟩=>?_;rw[jI,<- V R]at B;have o:=ae<|cv Y<|cv B<|t.trans Z;go_wp2;exact⟨⟨b+1,L,dH,G,o.1,o.2.1,o.2.2⟩,ee⟩};{have W:b=E a:=G;subst W;have h:=V D;rw[ld]at h;replace h:=ae h;go_wp2;exact lG (v:=bX #[]) (by simp[dr,results139]) af ⟨af,⟨d,A,h⟩,t⟩})
def nL(a:UInt8):oz:=⟨292,ak ck<|be a,341,[a]⟩
def eI(s:ap):oz:=⟨224,aZ s,336,s⟩
theorem amc (b a) : (method 521 292 (ak ck b) "beacon/wire.writeTo").run aK a = .ok (341, ak ck b) a := by kernel_rfl
theorem amd (s a) : (method 521 224 (amz s) "beacon/wire.writeTo").run aK a = .ok (336, amz s) a := by kernel_rfl
def ame(b a):(callFunc 341 b).run aK a=.ok (.enter 341 b) a:=b8
def amf(b a):(callFunc 336 b).run aK a=.ok (.enter 336 b) a:=b8
def vv(a):(nL a).Ok :=
 ⟨amc _,ame,λi e j k h l c d b g=>al_ a c d b G⟩
def lD(s):(eI s).Ok :=
 ⟨amd _,amf,λh e i j g k c d a b=>ama s c d a G (by simp[eI]at b;omega)⟩
def aN(a:Nat):UInt8:=UInt8.ofNat<|a/256
def cO(a:Nat):UInt8:=UInt8.ofNat a
def gs(a:Nat):oz:=⟨284,ak fs a,337,[aN a,cO a]⟩
theorem amg (b a) : (method 521 284 (ak fs b) "beacon/wire.writeTo").run aK a = .ok (337, ak fs b) a := by kernel_rfl
def amh(b a):(callFunc 337 b).run aK a=.ok (.enter 337 b) a:=b8
def ami{a:Nat}(F:a<65536):Lq 337 (ak fs a) [aN a,cO a]:=by
 intro l b H A k c i z B D;have q:=ae i;have n:=ae z;have y:=i.lt;go_in;go_wp21;have r:(a:Int)/256=(be (aN a):Int):=by rw[aN,rJ];omega
 have t:(a:Int)%256=(be (cO a):Int):=dS;rw[r,t];have hnew:=du c<|aS #[cV 292<|ak ck<|be<|aN a,cV 292<|ak ck<|be<|cO a] 297;refine(Ez b (U c.1) 2 [nL<|aN a,nL<|cO a] k _ ((dT _ _ _ y).trans q) (n.alloc _) (by grind) ?_ aA G (bE ?_) ?_ aA aA ?_).mono ?_;{intro f g;simp at g;rcases g with rfl|rfl<;>exact vv _};{grind};{
 intro j h;match j,h with
 | 0,_=>exact m8
 | 1,_=>exact m8
 | j+2,h=>grind};{assumption};rintro C d ⟨rfl,⟨o,u,w⟩,x⟩;have p:ax ((∃e,eJ d l e A/\ib d b e (k++[aN a,cO a]))/\mp l b c d) := ⟨⟨o,u,w⟩,(mp.adJ<|ct cd bv _).trans x⟩;go_wp2;exact lG (v:=bX #[]) (by simp[dr,results337]) af ⟨af,p⟩
def nM(a)(b:a<65536):(gs a).Ok:=⟨amg _,amh,ami b⟩
def uO(a:Nat):oz:=⟨344,ak .u32 a,343,[aN<|a/65536,cO<|a/65536,aN<|a%65536,cO<|a%65536]⟩
theorem alO (b a) : (method 521 344 (ak .u32 b) "beacon/wire.writeTo").run aK a = .ok (343, ak .u32 b) a := by kernel_rfl
def alP(b a):(callFunc 343 b).run aK a=.ok (.enter 343 b) a:=b8
def alQ{a:Nat}(F:a<4294967296):Lq 343 (ak .u32 a) [aN<|a/65536,cO<|a/65536,aN<|a%65536,cO<|a%65536]:=by
 intro l b H A k c i z B D;have q:=ae i;have n:=ae z;have y:=i.lt;go_in;go_wp21;have r:(a:Int)/65536=((a/65536:Nat):Int):=G;have t:fs.wrap (a:Int)=((a%65536:Nat):Int):=dS;rw[r,t];have hnew:=du c<|aS #[cV 284<|ak fs (a/65536:Nat),cV 284<|ak fs (a%65536:Nat)] 297;refine(Ez b (U c.1) 2 [gs<|a/65536,gs<|a%65536] k _ ((dT _ _ _ y).trans q) (n.alloc _) (by grind) ?_ aA G (bE ?_) ?_ aA aA ?_).mono ?_;{intro f g;simp at g;rcases g with rfl|rfl<;>exact nM _ G};{grind};{
 intro j h;match j,h with
 | 0,_=>exact m8
 | 1,_=>exact m8
 | j+2,h=>grind};{assumption};rintro C d ⟨rfl,⟨o,u,w⟩,x⟩;have p:ax ((∃e,eJ d l e A/\ib d b e (k++[aN<|a/65536,cO<|a/65536,aN<|a%65536,cO<|a%65536]))/\mp l b c d) := ⟨⟨o,u,w⟩,(mp.adJ<|ct cd bv _).trans x⟩;go_wp2;exact lG (v:=bX #[]) (by simp[dr,results343]) af ⟨af,p⟩
def B5{a}(b:a<4294967296):(uO a).Ok:=⟨alO _,alP,alQ b⟩
def yc{base a}(k:ib f base e a):(convert 58 9 e).run aK f=.ok (aZ a) f:=by
 obtain⟨o,⟨rfl,l⟩|⟨d,h,i,rfl,p,v,t,r,u,w⟩⟩:=k;{obtain rfl:a=[]:=iM l;kernel_rfl};{
 refine Gm (P:=aK) f 58 9 5 (M d 0) h a underlying58 underlying5 underlying9 λb q=>?_;have j:((M d 0):kC).add b=(M d b):=by grind[Addr.add]
 rw[j];have n:i.1[b]? = (a.map λg=>ak ck (be g:Int))[b]?:=by{grind};simp only[aD,v];grind}
def Ls{d e a}(w)(h:∀f∈a,f.Ok)(o:d<U w.1)(t:∀b (u:b<E a),aD w (M d b)=ag (cV a[b].1 a[b].2))(p:E a<=e)(k:E a<=1000000)(y:E (ew a)<=1000000):bd aK 199 #[bC d 0 (E a) e] w (cQ (aZ<|ew a) w):=by have q:=du w<|aS #[aL ai 0 0,aL ai 0 0] 283;have i:=ae<|Ez (U w.1+1) d e a [] (aO w<|aS #[aL ai 0 0,aL ai 0 0] 283) q (jO _ _ _ _) aA h (by grind) G (bG G) (λb n=>(ev (w:=w) (dT _ _ _ o)).trans (t b n)) p k (by grind);go_in;go_wp21;refine i.m λD ⟨⟨A,j,g⟩,c⟩=>?_;have:=j.cells.1;have l:=yc g;have aT:=ae<|(ct cd bv _).trans ⟨c.1,c.2,c.3,c.4,λr x=>c.5 r cx G<|bG G⟩;rw[jz]at l;obtain⟨z,C,B,rfl⟩:=qk g;go_wp2;go_ret;exact BD
def ch:Bool->ap->Nat
 | _,[]=>0
 | true,a::s=>be a*256+ch ao s
 | false,a::s=>be a+ch aE s
def yG(a:Bool)(b:Nat):Bool:=if b%2=0 then a else !a
def M0(b){a d}:ch b (a++d)=ch b a+ch (yG b<|E a) d:=by
 induction a generalizing b with
 | nil=>simp[ch,yG]
 | cons c a g =>{have e:yG b (E (c::a))=yG (!b) (E a):=by{grind[yG]};rw[e];cases b;{show be c+ch aE (a++d)=be c+ch aE a+_;grind};{show be c*256+ch ao (a++d)=be c*256+ch ao a+_;grind}}
def VN(a){b}(c)(d:E b%2=0):ch a (b++c)=ch a b+ch a c:=by rw[M0,yG,b7 d]
def iQ(a:Nat):Nat:=if a=0 then 0 else(a-1)%65535+1
def yH(a):iQ a<=65535:=by grind[iQ]
def VO(b a)(c:a<=65535):(iQ b+a)%65536+(iQ b+a)/65536=iQ (b+a):=by grind[iQ]
def M1(s:ap)(a)(b:a<E s):ch aE (amA (a+1) s)=ch aE (amA a s)+(if a%2=0 then s[a].toNat*256 else s[a].toNat):=by rw[iH b,M0,jF,uI G,yG];split<;>simp[ch]
def aeR{s:ap}{a}(b:a+1<E s)(c:a%2=0):ch aE (amA (a+2) s)=ch aE (amA a s)+(256*s[a].toNat+s[a+1].toNat):=by rw[M1 s (a+1) b,M1 s a G,b7 c,bJ G];omega
def qS(a:List D):Bool:=E a==1&&(a.headD D.zero).type==5
def nh(c:ap)(b:List D)(a:ap):Int:=if(fV c b a).length=0 then(if(er b a).2 then 0 else 3)else 0
def oo(d:ap)(b:List D)(c:Int)(a:ap):List D:=if(fV d b a).length=0 then(if(er b a).2 then mi c (er b a).1 else [])else []
def pm(c:ap)(a:List D)(d:Int)(b:ap):List D :=
 if(fV c a b).length=0 then(if(er a b).2 then(if wM d (er a b).1 then []else lr c a)else lr c a)else fV c a b
def Tt(a:kN f e j)(o:E j<=3001):bd aK 246 #[e] f λg k=>g=bg (aG<|qS j)/\k=f:=by
 rcases a with⟨rfl,rfl⟩|⟨l,ay,n,rfl,h,i⟩;{go_wp2;go_ret;exact pf};{
 by_cases d:E j=1;{
 obtain⟨c,rfl⟩:=GJ.1 d;have⟨c0,bA,c2,c3⟩:=i.four 0 aA;simp only[rW,jn,e9]at c2;have b:ax (qS [c]=(c.type==5)):=by rw[qS,ax];simp
 simp only[ey,h8]at h ⊢;go_wp2;go_ret;exact⟨fy<|bZ b,af⟩};{
 have b:ax (qS j=ao):=by rw[qS,ax,kE.2 d];rfl
 have p:((E j:Int)==1)=ao:=kB
 go_wp2;go_ret;exact⟨fy<|bZ b,af⟩}}
def Tu(h:ap)(b:List D)(g:ap):E (fV h b g)<=E b:=by
 unfold fV;generalize (ei g).takeWhile (λe=>!(e==h))=a;have:∀(a:List ap) (c:List D),E c<=E b->E (a.foldl (pv b) c)<=E b:=by{
 intro a;induction a with
 | nil=>intro c d;exact d
 | cons e j i =>{intro c d;rw[GH];refine i _ ?_;unfold pv;split;{exact d};{exact cU (F6 _ _)<|D2 _ _}}};exact this a [] aA
def aat(b:Nat)(a)(k:b<=10000):bd aK 249 #[bY,J b] a λd c=>∃v,d=bg v/\ec c (U a.1) v []/\a7 a c:=by have⟨i0,aN,hz0,hz1,hz2⟩:=jN Cj;by_cases h:b=0;{subst h;refine(Any8.slices_Grow_room Tryz.al1 ai 0 0 0 a bv G G G).m ?_;rintro c rfl;exact⟨_,af,jO _ _ _ _,dz _ _⟩};{refine(Any8.slices_Grow_grow Tryz.al1 i0 _ aN hz0 G ai 0 0 b [] a bv G (by grind) G aA (λ_=>af) λj g=>by cases g).m ?_;rintro c rfl;have:=Gh a (0+b) 0<|Tryz.adL.2 25;have i:=grownCap_le_maxLen a (0+b) 0 (Tryz.adL.2 25) DB;refine⟨_,af,⟨af,bE ⟨U a.1,_,_,af,cW _,Gi (bq a) _,eb _,i,?_,af⟩⟩,(cd.drew).alloc bv _⟩;have e:U (Value.cells<|ci #[amz ⟨#[]⟩,ak am 0,ak am 0,amz ⟨#[]⟩])=4:=af;rw[Array.size_append,Array.size_append,size_zeroCells,size_zeroCells,e];grind}
def Tv{a w}(g:ec f a e j)(p:kN f w y)(i:a<=U f.1)(n:E j+E y<=100000):∃c b,(Builtin.append_ #[41,41] 41 #[e,w]).run aK f=.ok c b/\ec b a c (j++y)/\cB a f b:=by rcases p with⟨rfl,rfl⟩|⟨r,ay,k,rfl,t,o⟩;{have⟨i0,aN,hz0,hz1,hz2⟩:=jN Cj;exact⟨e,f,run_append_owned_none (P:=aK) (w:=f) a 41 41 47 i0 4 Gz aN e _ _ g,by grind,dz _ _⟩};{have⟨c,b,h1,h2,h3,_⟩:=Lo k g o i n;exact⟨c,b,h1,h2,(dz _ f).grown h3 i λq l=>(g.Ya q l).1⟩}
def xX{d g rest a b v}(p:a.6=ai)(s k)(c:d_)(q:a.2=.call { callee:=.builtin .append,args:=#[s,k],argTypes:=#[c,c] }){l h}(t:b.eval s=e)(u:b.eval k=l)(r:(Builtin.append_ #[c,c] a.3 #[e,l]).run d f=.ok h m)(n:wpList d g v rest (b.put a.1 h) m):wpList d g v (a::rest) b f:=by refine wpList_plain p λw o=>?_;simp only[Oper.wp,execOp,q,resolve,invoke,builtin,Sem.run_bind,DS,zI,Eb,nr,u_,t,u,r];exact o _ _ n
def aau(i){u}(r:i<U f.1)(B:aD f (M i 0)=ag e)(C:aD f (M i 1)=ag u)(o:kN f e j)(q:kN f u y)(F:E j<=4000)(P:E y<=4000):bd aK 195 #[bC i 0 2 2] f λn g=>∃v,n=bg v/\ec g (U f.1) v (j++y)/\a7 f g:=by
 have A:=ae o;have w:=ae q;obtain⟨H,K,rfl⟩:=Aw o;obtain⟨I,L,rfl⟩:=Aw q;have x:=ae<|aat (E j+E y) f G;go_wp2;go_loop [3,11] (λl c=>(l=J 0/\c=J 0)\/(l=J (E j)/\c=J 1)\/(l=J ((E j+E y:Nat):Int)/\c=J 2)) λ_ c=>2-c7 (fJ c);·simp
 ·(
 rcases hrel with⟨rfl,rfl⟩|⟨rfl,rfl⟩|⟨rfl,rfl⟩;{
 go_wp2;go_round;·simp
 ·simp[fJ]};{
 go_wp2;go_round;·simp
 ·simp[fJ]};{
 go_wp21;refine x.mono ?_;rintro n O ⟨N,rfl,k,D⟩;replace k:=ae k;go_wp2;go_loopw [6,27] (λv c wr=>(c=J 0/\ec wr (U f.1) v []/\a7 f wr)\/(c=J 1/\ec wr (U f.1) v j/\a7 f wr)\/(c=J 2/\ec wr (U f.1) v (j++y)/\a7 f wr)) λ_ c _=>2-c7 (fJ c);·exact bG ⟨af,k,D⟩
 ·(
 rcases hrel with⟨rfl,a,b⟩|⟨rfl,a,b⟩|⟨rfl,a,b⟩;{
 have⟨v',g,hrun,JL,hb'⟩:=Tv a (A.below b) b.4 (by grind);obtain⟨d,z,rfl⟩:=a.slice;have:=(b.cell (p:=⟨i,0,ai⟩) r).trans B;have h:ax (ec g (U f.1) v' j/\a7 f g):=⟨JL,bN b hb'⟩;go_wp2_with (at_builtin;refine xX af _ _ 41 af af af hrun ?_);go_roundw;·exact bE<|bG ⟨dH,h⟩
 ·simp[fJ]};{
 have⟨v',g,hrun,JL,hb'⟩:=Tv a (w.below b) b.4 G;obtain⟨d,z,rfl⟩:=a.slice;have:=(b.cell (p:=⟨i,1,ai⟩) r).trans C;have h:ax (ec g (U f.1) v' (j++y)/\a7 f g):=⟨JL,bN b hb'⟩;go_wp2_with (at_builtin;refine xX af _ _ 41 af af af hrun ?_);go_roundw;·exact bE<|bE ⟨dH,h⟩
 ·simp[fJ]};{replace a:=ae a;go_wp2;go_ret;exact⟨_,af,a,b⟩})})
def Tw:bm->Nat
 | .bool true=>1
 | _=>0
def gB(e:aQ)(d:Nat)(a bA b c cD:bm):Prop:=e.1[d]? = ag (aS #[a,bA,b,c,cD] 43)
def gB.cells{a c bA d cD}(h:gB f a c bA d e cD):aD f (M a 0)=ag c/\aD f (M a 1)=ag bA/\aD f (M a 2)=ag d/\aD f (M a 3)=ag e/\aD f (M a 4)=ag cD:=by unfold gB at h;exact J7
def gB.frozen{a c bA d cD}(h:gB f a c bA d e cD)(g):io f (M a g)=ao:=by unfold gB at h;exact tb
def FZ{P:Prop}(h:P:=by unfold gB at *;exact Dk):P:=h
def gB.set0{a bA b c cD}(h:gB f a e bA b c cD)(g):gB (a_ f ⟨a,0,ai⟩ g) a g bA b c cD:=by exact FZ
def gB.set1{a bA c d cD}(h:gB f a e bA c d cD)(g):gB (a_ f ⟨a,1,ai⟩ g) a e g c d cD:=by exact FZ
def gB.set2{a bA g c cD}(h:gB f a e bA g c cD)(b):gB (a_ f ⟨a,2,ai⟩ b) a e bA b c cD:=by exact FZ
def gB.lM{a bA c g cD}(h:gB f a e bA c g cD)(b):gB (a_ f ⟨a,3,ai⟩ b) a e bA c b cD:=by exact FZ
def gB.o6{a bA c d cD}(h:gB f a e bA c d cD)(g):gB (a_ f ⟨a,4,ai⟩ g) a e bA c d g:=by exact FZ
def VQ(a:Nat)(c:a<9223372036854775808):bits .and am (a:Int) 65535=(a:Int)%65536:=by have b:bits .and am (a:Int) 65535=((a%65536:Nat):Int):=by{show am.wrap ((BitVec.ofInt 64 (a:Int) &&& BitVec.ofInt 64 65535).toNat:Int)=_;rw[Lh,yv a G,show(65535:Int)=((65535:Nat):Int)from af,yv 65535 G,show(65535:Nat)=2 ^ 16-1 from af,RO,wL];omega};omega
def aeh{n w d}(t:∀g∈d,g.Ok)(N:n<U f.1)(A:∀i (Y:i<E d),aD f (M n i)=ag (cV d[i].1 d[i].2))(Q:E d<=w)(x:E d<=1000000)(L:E (ew d)<=1000000):bd aK 256 #[bC n 0 (E d) w] f (cQ (J<|iQ<|ch aE<|ew d) f):=by
 have r:=ae<|Ls f t N A Q x L;clear t A;generalize ew d=l at *;go_in;go_wp2_with fail;refine r.m λc o=>?_;have:=Gl (P:=aK) c 9 58 5 (O l) underlying9 underlying58 underlying5;have H:=ae<|F_ c l<|grownCap c (cf<|O l) 0 5;have D:ax (a7 f _):=bN o<|(((dz (U c.1) c).drew.alloc (cW<|U c.1)<|aS (ii (O l)<|grownCap c (cf<|O l) 0 5) 5 (U<|ii (O l)<|grownCap c (cf<|O l) 0 5,U (ii (O l)<|grownCap c (cf<|O l) 0 5)+1)).mono o.4);have X:E l<=grownCap c (cf<|O l) 0 5:=by{have:=Gh c (cf<|O l) 0 5;assumption};generalize grownCap c (cf<|O l) 0 5=k at *;generalize aO (bq c) (aS (ii (O l) k) 5 (U<|ii (O l) k,U (ii (O l) k)+1))=B at *;generalize T:U c.1=W at *;have:=de l;clear o r T;go_wp2;go_loopw [3,10] (λS p wr=>∃a:Nat,S=J (iQ (ch aE<|amA a l):Nat)/\p=J a/\a<=E l/\wr=B) λ_ p _=>E l-c7 (fJ p);·exact⟨0,af,af,eb _,af⟩
 ·(obtain⟨a,rfl,rfl,Z,rfl⟩:=hrel;by_cases z:a<E l;{have:=H.2.1 a z;have e:=ae<|M1 l a z;generalize l[a]=u at *;have x:=gY u;generalize be u=b at *;have h:=ae λq R=>VO (ch aE<|amA a l) q R;have:=yH<|ch aE<|amA a l;generalize ch aE (amA a l)=C at *;generalize iQ C=g at *;by_cases y:a%2=0;{have K:(a:Int)%2=0:=G;rw[b7 y]at e;have I:bits .and am ((g:Int)+b*256) 65535=((g:Int)+b*256)%65536:=by{rw[show(g:Int)+(b:Int)*256=((g+b*256:Nat):Int) by omega,VQ _ G]};have j:ax (((g:Int)+(b:Int)*256)%65536+((g:Int)+(b:Int)*256)/65536=((iQ (ch aE<|amA (a+1) l):Nat):Int)):=by{have:=V h (b*256) G;rw[<- V e]at this;rw[ax];omega};clear e h;go_wp2;rw[V j];exact⟨⟨a+1,af,dH,G,cE⟩,ee⟩};{have K:¬(a:Int)%2=0:=G;rw[bJ y]at e;have I:bits .and am ((g:Int)+b) 65535=((g:Int)+b)%65536:=by{rw[show(g:Int)+(b:Int)=((g+b:Nat):Int) by omega,VQ _ G]};have j:ax (((g:Int)+(b:Int))%65536+((g:Int)+(b:Int))/65536=((iQ (ch aE<|amA (a+1) l):Nat):Int)):=by{have:=V h b G;rw[<- V e]at this;rw[ax];omega};clear e h;go_wp2;rw[V j];exact⟨⟨a+1,af,dH,G,cE⟩,ee⟩}};{have F:a=E l:=G;subst F;have e:=ae<|fE (λq=>iQ<|ch aE q)<|ld (l:=l);generalize iQ (ch aE<|amA (E l) l)=g at *;go_wp2;go_ret;refine⟨?_,D⟩;rw[V e];rfl})
def bk(c:aQ)(b:Nat)(a:List bm)(t:d_):Prop:=c.1[b]? = ag (aS (dl a) t)
section
variable {w w':World} {b d:Nat} {cs:List Value} {t:TypeId}
def bk.lt(a:bk w b cs t):b<U w.1:=(ea.1 a).1
def bk.cell(a:bk w b cs t)(i)(aN:i<E cs):aD w (M b i)=ag cs[i]:=by unfold bk at a;simp[aD,a,aN]
def bk.frozen(h:bk w b cs t)(a):io w (M b a)=ao:=by unfold bk at h;exact tb
def bk.set(c:bk w b cs t)(a v):bk (a_ w ⟨b,a,ai⟩ v) b (cs.set a v) t:=by unfold bk at *;exact Dk
def bk.kept(a:bk w b cs t)(e:eL d w w')(c:b≠d):bk w' b cs t:=(e.5 b a.lt c).trans a
def bk.below(c:bk w b cs t)(e:cB d w w')(a:b<d):bk w' b cs t:=(e.5 b a).trans c
def bk.alloc(a:bk w b cs t)(c):bk (aO w c) b cs t:=(dT _ _ _ a.lt).trans a
def bk.fF(w:aQ)(cs)(t:d_):bk (aO w<|aS (dl cs) t) (U w.1) cs t:=du _ _
end
def CE(a:List oz):List bm:=a.map λf=>cV f.1 f.2
def VR(a)(c:aQ)(b)(d:b<E a):aD (aO c<|aS (dl<|CE a) 297) (M (U c.1) b)=ag (cV a[b].1 a[b].2):=by have:=(bk.fF c (CE a) 297).cell b (by simpa [CE]using d);rw[this];simp[CE]
def AQ(a b)(c:∀f∈a,f.Ok)(e:E a<=1000000)(g:E (ew a)<=1000000):bd aK 199 #[bC (U b.1) 0 (E a)<|E a] (aO b<|aS (dl<|CE a) 297) (cQ (aZ<|ew a) b):=by exact(Ls _ c aA (VR a b) bv e g).m λh d=>⟨af,(ct cd bv _).trans<|bV d aA⟩
def M2(a b)(c:∀f∈a,f.Ok)(e:E a<=1000000)(g:E (ew a)<=1000000):bd aK 256 #[bC (U b.1) 0 (E a)<|E a] (aO b<|aS (dl<|CE a) 297) (cQ (J<|iQ<|ch aE<|ew a) b):=by exact(aeh c aA (VR a b) bv e g).m λh d=>⟨af,(ct cd bv _).trans<|bV d aA⟩
def VS{s}(b)(Y:E s<=1000000000){c q d L j e l i}(z:e_ s ao 6=(c,q,H))(A:e_ q H 6=(d,L,l))(T:fj L l=(e,j,i)):bd aK 79 #[aZ s] b (cQ (bX #[ci #[aZ c,aZ d,J e,aZ j],aG<|!i]) b):=by
 have I:=yy s ao 6;have K:=yy q H 6;rw[z]at I;rw[A]at K;simp only at I K;have ad:bk (aO (aO b<|aS #[amz ⟨#[]⟩,amz ⟨#[]⟩,ak am 0,amz ⟨#[]⟩] 150)<|aS #[amz<|O s,aG ao] 215) (U b.1) [amz ⟨#[]⟩,amz ⟨#[]⟩,J 0,amz ⟨#[]⟩] 150:=(bk.fF b _ _).alloc _;have an:eB (aO (aO b<|aS #[amz ⟨#[]⟩,amz ⟨#[]⟩,ak am 0,amz ⟨#[]⟩] 150)<|aS #[amz<|O s,aG ao] 215) (U b.1+1) s ao:=by{have:=du (aO b<|aS #[amz ⟨#[]⟩,amz ⟨#[]⟩,ak am 0,amz ⟨#[]⟩] 150)<|aS #[amz<|O s,aG ao] 215;simpa [eB]using this};have W:=ae<|((dz (U b.1) b).alloc bv<|aS #[amz ⟨#[]⟩,amz ⟨#[]⟩,ak am 0,amz ⟨#[]⟩] 150).alloc aA<|aS #[amz<|O s,aG ao] 215;have F:=ae<|r9 6 an G Y;rw[z]at F;have av:=ae ad;have aj:=ae A;have ap:=ae T;go_in;go_wp21;refine F.m λar ⟨Z,B,ac⟩=>?_;have k:=ae<|r9 6 Z G G;rw[V aj]at k;have aq:=ae<|av.kept B G;have S:=ae<|bN W<|B.below G cx;have X:ax (U ar.1=U b.1+2):=by rw[ax,ac];simp
 go_wp2_with fail;refine k.m λau ⟨aa,C,aw⟩=>?_;have p:=ae<|nD l aa G;rw[V ap]at p;have t:=ae<|aq.kept C G;have w:=ae<|bN S<|C.below G<|cj<|V X;have y:ax (U au.1=U b.1+2):=by grind
 go_wp2_with fail;refine p.m ?_;rintro g ⟨o,n,D⟩;have u:=ae<|t.kept n G;have x:=ae<|bN w<|n.below G<|cj<|V y;have ab:U g.1=U b.1+2:=by rw[D];assumption
 have r:∀a,eB (aO g<|aS #[amz<|O c,amz<|O d,ak am e,a] 150) (U b.1+1) j i:=λa=>(dT _ _ _ o.lt).trans o;have h:=λa=>u.alloc<|aS #[amz<|O c,amz<|O d,ak am e,a] 150;have al:=ae λa=>ct x G<|aS #[amz<|O c,amz<|O d,ak am e,a] 150;have:=λa=>(r a).cells.1;have:=λa=>(r a).cells.2;have N:∀a,aD (aO g<|aS #[amz<|O c,amz<|O d,ak am e,a] 150) (M (U b.1) 0)=_:=λa=>(h a).cell 0 aA;have P:∀a,aD (aO g<|aS #[amz<|O c,amz<|O d,ak am e,a] 150) (M (U b.1) 1)=_:=λa=>(h a).cell 1 aA;have Q:∀a,aD (aO g<|aS #[amz<|O c,amz<|O d,ak am e,a] 150) (M (U b.1) 2)=_:=λa=>(h a).cell 2 aA;have R:∀a,aD (aO g<|aS #[amz<|O c,amz<|O d,ak am e,a] 150) (M (U b.1) 3)=_:=λa=>(h a).cell 3 aA;simp only[e9,fw]at N P Q R;have:=λa ah=>(h a).frozen ah;have:U b.1≠U g.1:=G;have:U b.1+1≠U g.1:=G;have:U b.1<=U g.1:=G;clear o n D p t w y u ab x r h;go_wp2;go_region;all_goals(go_wp2;exact eh (v:=bX #[ci #[amz<|O c,amz<|O d,ak am e,amz<|O j],aG<|!i]) (by simp[dr,results79,go_sem,N,P,Q,R]) af ⟨af,(((((al _).drew).setCell bv _).setCell bv _).setCell bv _).setCell bv _⟩)
structure M3 where
 b:Bool
 vp:Value
 ns:List Int->Prop
instance:Coe Bool M3:=⟨λb=>⟨b,bY,λ_=>True⟩⟩
def iR(i:aQ)(e b:Nat)(g h:bm)(a:M3)(iG:Nat)(d cS c:Bool)(aH:Nat):Prop :=
 bk i e [bC b 0 25600 25600,g,aG a.1,a.2,J iG,h,aG d,aG cS,aG c,J aH] 84
def oM(d:aQ)(b:Nat)(a:ap):Prop:=E a=25600/\bk d b (a.map λc=>ak ck<|be c) 5
def I2(c:aQ)(b:Nat)(v:bm)(a:List Int):Prop:=c.ownsRow b 3 1 v (E a)<|b9 (ak am) a
def xK(d:aQ)(c:Nat)(v:bm)(a:List<|Int×Int):Prop:=d.ownsRow c 177 2 v (E a)<|a.flatMap λb=>[J b.1,J b.2]
section
variable {w w':World} {mb bb:Nat} {vl vm:Value} {kL:M3} {early cS d1:Bool} {iG aH:Nat}
def rH(a:iR w mb bb vl vm kL iG early cS d1 aH):aD w (M mb 0)=ag (bC bb 0 25600 25600):=bk.cell a 0 aA
def I3(a:iR w mb bb vl vm kL iG early cS d1 aH):aD w (M mb 1)=ag vl:=bk.cell a 1 aA
def aei(a:iR w mb bb vl vm kL iG early cS d1 aH):aD w (M mb 2)=ag (aG kL.1):=bk.cell a 2 aA
def uo(a:iR w mb bb vl vm kL iG early cS d1 aH):aD w (M mb 3)=ag kL.2:=bk.cell a 3 aA
def CF(a:iR w mb bb vl vm kL iG early cS d1 aH):aD w (M mb 4)=ag (J iG):=bk.cell a 4 aA
def CG(a:iR w mb bb vl vm kL iG early cS d1 aH):aD w (M mb 5)=ag vm:=bk.cell a 5 aA
def VU(a:iR w mb bb vl vm kL iG early cS d1 aH):aD w (M mb 6)=ag (aG early):=bk.cell a 6 aA
def VV(a:iR w mb bb vl vm kL iG early cS d1 aH):aD w (M mb 7)=ag (aG cS):=bk.cell a 7 aA
def VW(a:iR w mb bb vl vm kL iG early cS d1 aH):aD w (M mb 8)=ag (aG d1):=bk.cell a 8 aA
def VX(a:iR w mb bb vl vm kL iG early cS d1 aH):aD w (M mb 9)=ag (J aH):=bk.cell a 9 aA
def aej(a:iR w mb bb vl vm kL iG early cS d1 aH)(v):iR (a_ w ⟨mb,1,ai⟩ v) mb bb v vm kL iG early cS d1 aH:=bk.set a 1 v
def aek(b:iR w mb bb vl vm kL iG early cS d1 aH)(a:Nat):iR (a_ w ⟨mb,4,ai⟩<|ak am a) mb bb vl vm kL a early cS d1 aH:=bk.set b 4<|J a
def ael(a:iR w mb bb vl vm kL iG early cS d1 aH)(v):iR (a_ w ⟨mb,5,ai⟩ v) mb bb vl v kL iG early cS d1 aH:=bk.set a 5 v
def aem(a:iR w mb bb vl vm kL iG early cS d1 aH)(v):iR (a_ w ⟨mb,6,ai⟩<|aG v) mb bb vl vm kL iG v cS d1 aH:=bk.set a 6<|aG v
def VY(a:iR w mb bb vl vm kL iG early cS d1 aH)(v):iR (a_ w ⟨mb,7,ai⟩<|aG v) mb bb vl vm kL iG early v d1 aH:=bk.set a 7<|aG v
def VZ(a:iR w mb bb vl vm kL iG early cS d1 aH)(v):iR (a_ w ⟨mb,8,ai⟩<|aG v) mb bb vl vm kL iG early cS v aH:=bk.set a 8<|aG v
def aen(b:iR w mb bb vl vm kL iG early cS d1 aH)(a:Nat):iR (a_ w ⟨mb,9,ai⟩<|ak am a) mb bb vl vm kL iG early cS d1 a:=bk.set b 9<|J a
def rp(b:iR w mb bb vl vm kL iG early cS d1 aH)(a):io w (M mb a)=ao:=bk.frozen b a
def sF(a:iR w mb bb vl vm kL iG early cS d1 aH):mb<U w.1:=bk.lt a
def pW(a:iR w mb bb vl vm kL iG early cS d1 aH)(b:w'.1[mb]? = w.1[mb]?):iR w' mb bb vl vm kL iG early cS d1 aH:=c_ b a
end
def aeo:(aK.info? 3).map (λa=>(a.8,a.3,a.4))=ag (ag<|J 0,1,8):=b8
def aep:aK.underlying 56=ag (.slice 3):=b8
def lk{g b}{d:d_}{l k n h}(i:bk f b h d)(j:f.ownsRow g z l e k n)(t:d≠z):ag b≠bW e:=λa=>by
 obtain⟨_,⟨rfl,_⟩|⟨r,p,q,rfl,_,o,_⟩⟩:=j
 ·simp[bW]at a
 ·simp only[bW,ug]at a;subst a;unfold bk at i
  grind
def jj{a b g h}{d:d_}(j:bk f a g z)(k:bk f b h d)(l:z≠d):a≠b:=λi=>by
 subst i;unfold bk at j k
 grind
def V1{b c j h cS k iG aH}(a:iR f b c e j h iG H cS k aH):bd aK 47 #[N b] f λl d=>l=bg (bX #[])/\iR d b c e j h iG H ao ao aH/\eL b f d/\U d.1=U f.1:=by have:=VV a;have:=VW a;have:=rp a;replace a:=ae a;go_wp2;exact lG (v:=bX #[]) (by simp[dr,results47]) af ⟨af,VZ (VY (V a) ao) ao,kI (kI (mT _ _) _ _) _ _,aA⟩
def sG{b}{j i a k}(h:f.ownsRow b z j e i k)(d:bW e=ag a):b<=a/\∃c,f.1[a]? = ag (aS c z (0,0)):=by obtain⟨_,⟨rfl,_⟩|⟨o,n,c,rfl,p,l,_⟩⟩:=h;{simp[bW]at d};{simp only[bW,ug]at d;grind}
def mN{b}{v d j}(o:f.ownsRow b z v e d j)(q:∀a,bW e=ag a->m.1[a]? = f.1[a]?):m.ownsRow b z v e d j:=by obtain⟨p,c⟩:=o;refine⟨p,?_⟩;rcases c with c|⟨a,l,n,rfl,t,k,r⟩;{grind};{exact bE ⟨a,l,n,af,t,(q a af).trans k,r⟩}
def pX{c}{h g a j}(d:f.ownsRow c z h e g j)(v:bW e=ag a):a<U f.1:=by have⟨_,cur,hc⟩:=sG d v;grind
def V2{a}{d:d_}{o p l n b v q r}(i:f.ownsRow a z o v l q)(j:f.ownsRow a d p e n r)(y:z≠d)(k:bW v=ag b):ag b≠bW e:=λh=>by
 obtain⟨_,t,w⟩:=sG i k;obtain⟨_,u,x⟩:=sG j<|bZ h
 grind
def EW{a d}(e:oM f a d)(c b):oM (a_ f ⟨a,c,ai⟩<|ak ck<|be b) a (d.set c b) :=
 ⟨by rw[rU];exact e.1,by have:=e.2.set c<|ak ck<|be b;simp_all⟩
def t7{a b}(c:oM f a b)(g:m.1[a]? = f.1[a]?):oM m a b:=⟨c.1,c_ g c.2⟩
def aeq:aK.underlying 80=ag (.slice 174):=b8
abbrev kb:=Int×Int×UInt8
structure cw where
 b:ap
 l:List Int
 p:List kb
 c:Nat
 m:List (Int×Int)
 e:Bool
 d0:Bool
 d1:Bool
 s:Nat
variable{A:cw}
def qv(c:Nat):ap->List kb->ap×List kb
 | b,[]=>(b,[])
 | b,a::d=>if a.1<=(c:Int)then qv c (if 0<=a.2.1/\a.2.1<25600 then b.set (c7 a.2.1) a.2.2 else b) d else(b,a::d)
def cw.rest(a:cw):cw:={ a with d0:=ao,d1:=ao }
def cw.uA(a:cw)(b:Nat):cw:=⟨(qv a.4 a.1 a.3).1,a.2++[(b:Int)],(qv a.4 a.1 a.3).2,a.4+1,a.5,a.6,ao,ao,a.9⟩
def cw.tL(a:cw)(b:Nat):UInt8:=(qv a.4 a.1 a.3).1.getD b 0
def M4(m:List<|Int×Int)(a:Int×Int):List (Int×Int):=if m.getLast? = ag a then m else m++[a]
def o0(a:Nat):Nat:=if a<512\/(1024<=a/\a<13312)then 0 else 1
def p5(a:Nat):Bool:=a=130+512*o0 a\/a=131+512*o0 a
def cw.qH(a:cw)(b:Nat):Bool:=if b=0 then a.7 else a.8
def cw.st(a:cw)(b:Nat)(c:UInt8):cw :=
 ⟨a.1.set b c,a.2,a.3,a.4,if p5 b then M4 a.5 ((o0 b:Int),(a.4:Int))else a.5,a.6||(!p5 b&&a.qH (o0 b)),a.7||(p5 b&&o0 b==0),a.8||(p5 b&&o0 b==1),a.9+1⟩
def wx(h:aQ)(v:bm)(b:List kb):Prop:=∃d e,v=aL d (E b) e/\E b<=e/\((d=ai/\b=[])\/∃g ay c,d=ag (M g ay)/\bk h g c 174/\∀a (i:a<E b),c[ay+3*a]? = ag (J b[a].1)/\c[ay+3*a+1]? = ag (J b[a].2.1)/\c[ay+3*a+2]? = ag (ak ck b[a].2.2.toNat))
def o7(b:aQ)(h c:Nat)(d e g:bm)(a:cw):Prop:=iR b h c d e ⟨ao,g,λ_=>True⟩ a.4 a.6 a.7 a.8 a.9/\oM b c a.1/\I2 b 0 d a.2/\xK b 0 e a.5/\wx b g a.3
def dg(h:aQ)(c:Nat)(a:cw):Prop:=∃b d e g,o7 h c b d e g a
def eO(d:aQ)(b a:Nat):Prop:=a=b\/∃c v,aD d (M b c)=ag v/\bW v=ag a
structure cI(L:Nat->Prop)(mb:Nat)(A B:World):Prop where
 os:B.os=A.os
 tape:B.tape=A.tape
 output:B.output=A.output
 size:A.heap.size<=B.heap.size
 block:∀i,i<A.heap.size->¬L i->¬eO A mb i->B.heap[i]? = A.heap[i]?
 own:∀i,eO B mb i->eO A mb i\/A.heap.size<=i
abbrev bH:Nat->Prop:=λ_=>False
def tl(b d a):cI b d a a:=⟨af,af,af,cW _,λ_ _ _ _=>af,λ_ c=>bG c⟩
def dC{g}(a:cI B g f m)(c:cI B g m u):cI B g f u :=
 ⟨c_ c.1 a.1,c_ c.2 a.2,c_ c.3 a.3,cU a.4 c.4,λb aN k l=>(c.5 b (e8 aN a.4) k λd=>(a.6 b d).elim l λn=>G).trans<|a.5 b aN k l,λb d=>(c.6 b d).elim (λd=>a.6 b d) λn=>bE<|cU a.4 n⟩
def jk{K g}(a:cI B g f m)(h:∀b,B b->K b):cI K g f m:=⟨a.1,a.2,a.3,a.4,λb aN i j=>a.5 b aN (λk=>i<|h b k) j,a.6⟩
def oB{a}(h:m.1[a]? = f.1[a]?){b}(j:eO m a b):eO f a b:=j.imp id λ⟨i,v,e,g⟩=>⟨i,v,(ev<|bZ h).trans e,g⟩
def qc{L c b}(a:a7 b f)(e:c<U b.1):cI L c b f:=⟨a.1,a.2,a.3,a.4,λg aN _ _=>a.5 g aN,λ_ h=>bG<|oB (a.5 c e) h⟩
def l7{c}: cI B c f (bq f):=⟨af,af,af,cW _,λ_ _ _ _=>af,λ_ d=>bG d⟩
def wy{L b d}(a:eL d f m)(i:L d)(g:b≠d)(k:b<U f.1):cI L b f m:=⟨a.1,a.2,a.3,a.4,λl aN j _=>a.5 l aN λh=>j<|h ▸ i,λ_ n=>bG<|oB (a.5 b k g) n⟩
def AR{g}(k:wx f e g)(q:∀b a,bW e=ag b->bk f b a 174->m.1[b]? = f.1[b]?):wx m e g:=by obtain⟨i,j,l,n,o⟩:=k;subst l;refine⟨i,j,af,n,o.imp id ?_⟩;rintro⟨v,ay,a,rfl,d,p⟩;exact⟨v,ay,a,af,(q v a af d).trans d,p⟩
section
variable {w w':World} {mb bb:Nat} {vl vm vp:Value} {S:cw}
def tP(b:o7 w mb bb vl vm vp S){i}: eO w mb i ↔ i=mb\/i=bb\/bW vl=ag i\/bW vm=ag i\/bW vp=ag i:=by
 obtain⟨b,-⟩:=b;refine⟨?_,?_⟩;{
 rintro(rfl|⟨e,v,d,a⟩);{omega};{
 have g:e<10:=Nat.lt_of_not_le λh=>by{have:=d;unfold iR bk at b;simp only[aD,b]at this;simp_all};obtain rfl:=ih<|(bZ d).trans<|bk.cell b e fN;clear d;match e,g,a with
 | 0,_,a=>exact bE<|bG<|bZ<|ih a
 | 1,_,a=>grind
 | 3,_,a=>grind
 | 5,_,a=>grind
 | 2,_,a|4,_,a|6,_,a|7,_,a|8,_,a|9,_,a=>cases a}};{rintro(c|c|c|c|c);{exact bG c};{exact bE ⟨0,_,rH b,by rw[c];rfl⟩};{exact bE ⟨1,_,I3 b,c⟩};{exact bE ⟨5,_,CG b,c⟩};{exact bE ⟨3,_,uo b,c⟩}}
def V3(g:o7 w mb bb vl vm vp S)(a:∀b,eO w mb b->w'.1[b]? = w.1[b]?):o7 w' mb bb vl vm vp S:=by have c:=@tP _ _ _ _ _ _ _ g;obtain⟨h,i,j,k,l⟩:=g;exact⟨pW h<|a mb<|bG af,t7 i<|a bb<|c.2<|bE<|bG af,mN j λd e=>a d<|c.2<|bE<|bE<|bG e,mN k λd e=>a d<|c.2<|bE<|bE<|bE<|bG e,AR l λb _ aN _=>a b<|c.2<|bE<|bE<|bE<|bE aN⟩
def CH(a:dg w mb S)(c:∀b,eO w mb b->w'.1[b]? = w.1[b]?):dg w' mb S:=by obtain⟨bb,vl,vm,vp,a⟩:=a;exact⟨bb,vl,vm,vp,V3 a c⟩
def xL(a:dg w mb S){e}(d:eO w mb e):∃c b,w.1[e]? = ag (aS c b (0,0))/\(b=84\/b=5\/b=3\/b=177\/b=174):=by obtain⟨bb,vl,vm,vp,a⟩:=a;have d:=(tP a).1 d;obtain⟨g,h,i,j,o,p,k,-,l⟩:=a;rcases d with rfl|rfl|a|a|a;{exact⟨_,_,g,bG af⟩};{exact⟨_,_,h.2,bE<|bG af⟩};{have⟨_,c,hc⟩:=sG i a;grind};{have⟨_,c,hc⟩:=sG j a;grind};{subst k;rcases l with⟨rfl,-⟩|⟨r,ay,q,rfl,n,-⟩;{cases a};{cases a;exact⟨_,_,n,bE<|bE<|bE<|bE af⟩}}
end
def aeu{c:List kb}(d:wx f e c):∃a b,e=aL a (E c) b:=by obtain⟨a,b,v,-⟩:=d;exact⟨a,b,v⟩
def V4{n:kb}{i:List kb}(w:wx f e (n::i)):∃(c ay d:Nat) (h:List bm),e=aL (ag ⟨c,ay,ai⟩) (E i+1) (d+1)/\E i<=d/\bk f c h 174/\aD f ⟨c,ay,ai⟩=ag (ak am n.1)/\aD f ⟨c,ay+1,ai⟩=ag (ak am n.2.1)/\aD f ⟨c,ay+2,ai⟩=ag (ak ck<|be n.2.2)/\∀r:aQ,r.1[c]? = f.1[c]?->wx r (aL (if d+1=1 then ag ⟨c,ay,ai⟩else ag ⟨c,ay+3,ai⟩) (E i) d) i:=by obtain⟨z,d,rfl,x,q⟩:=w;obtain⟨-,q⟩|⟨c,ay,h,rfl,j,t⟩:=q;{cases q};rw[ey]at x;obtain⟨d,rfl⟩:∃o,d=o+1:=⟨d-1,G⟩;have⟨a,b,o⟩:=t 0 aA;have p:∀(l:Nat) (e:bm),h[l]? = ag e->aD f ⟨c,l,ai⟩=ag e:=λl e y=>by{have⟨hj,v⟩:=j_.1 y;rw[<- v];exact j.cell l hj};refine⟨c,ay,d,h,af,G,j,p _ _ a,p _ _ b,p _ _ o,λr u=>⟨_,_,af,G,bE ?_⟩⟩;by_cases A:d=0;{refine⟨c,ay,h,b7 G,c_ u j,λk aN=>G⟩};{refine⟨c,ay+3,h,bJ G,c_ u j,λk aN=>?_⟩;have:=t (k+1) (by simpa using aN);rwa [show ay+3*(k+1)=ay+3+3*k by omega]at this}
abbrev xN(k wr:aQ)(g c:Nat)(h i j d:bm)(a:cw)(b:ap)(p:List kb):Prop:=o7 wr g c h i d { a with b:=b,p:=p }/\qv a.4 b p=qv a.4 a.1 a.3/\bW d=bW j/\cL (λe=>e≠g/\e≠c) k wr
def xN.heap{j h:Nat}{n o i:bm}{g:ap}{k:List kb}(c:xN f m j h e n o i A g k)(d:u.1=m.1)(q:u.4=m.4)(r:u.2=m.2)(t:u.5=m.5):xN f u j h e n o i A g k :=
 ⟨V3 c.1 λ_ _=>by rw[d],c.2.1,c.2.2.1,c.2.2.2.trans ⟨q,r,t,by rw[d];exact cW _,λ_ _ _=>by rw[d]⟩⟩
def QS{P:Prop}(h:P:=by
 first|go_roundg (E l)|go_roundg 0
 case measure=>simp
 ·exact⟨_,_,_,af,V yD _ _ (λi aN=>af) af af af af (V jC)<|by rw[bJ G]⟩):P:=h
def aev{c g j:Nat}{D K:bm}(a:o7 f c g e D K A)(bR:j<25600)(b5:E A.2<=1000000000000)(b6:A.4<=1000000000000):bd aK 159 #[.pointer<|ag ⟨c,0,ai⟩,ak am j] f λd bp=>d=bg (ak ck<|be<|A.tL j)/\dg bp c (A.uA j)/\cI bH c f bp:=by
 have⟨i0,aN,hz0,hz1,hz2⟩:=jN aeo;have F:=ae λi=>tP a (i:=i);have br:ax (xN f f c g e D K K A A.1 A.3):=⟨a,af,af,cL.refl _ _⟩
 have ah:=jj a.1 a.2.1.2 bL;have⟨bA,hc1⟩:=bi<|A.4+1;have bt:ax ((A.4:Int)+1=bA):=by rw[ax,hc1];rfl
 have bU:=ae hc1;clear a hc1;go_wp2
 go_loopg [5] (E A.3) (λp _ wr=>∃b k w,E w=p/\ax (xN f wr c g e D K b A k w))
 ·exact⟨K,A.1,A.3,af,br⟩
 ·clear br;obtain⟨b,k,w,rfl,q⟩:=hrel;have c3:aD wr ⟨c,3,ai⟩=ag b:=uo (V q).1.1;have cD:aD wr ⟨c,4,ai⟩=ag (ak am A.4):=CF (V q).1.1;have ar:=rp (V q).1.1;have a6:=ae<|aeu (V q).1.2.2.2.2;have aH:ax (∀bo,ax<|xN f (wr.drewN bo) c g e D K b A k w):=λbo=>xN.heap (V q) af af af af;go_wp2
  go_cut [25]from 6 to 61 (λv wc=>∃aa:Bool,v=aG aa/\(aa=aE->∃o l,w=o::l/\o.1<=(A.4:Int))/\(aa=ao->qv A.4 k w=(k,w))/\ax (xN f wc c g e D K b A k w))
  ·cases w with
   | nil =>
    obtain⟨b8,Q,rfl⟩:=V a6;simp only[h8]at *;go_quiet (fail);go_wp2;go_meet
    ·exact⟨ao,af,λa=>(Bool.noConfusion a),λ_=>af,V aH _⟩
   | cons o l =>
    obtain⟨x,ay,Q,aF,rfl,bF,B,aZ,a0,a1,_⟩:=V4 (V q).1.2.2.2.2;have bQ:(0:Int)<((E l+1:Nat):Int):=G;go_quiet (fail);go_wp2;go_meet
    ·exact⟨_,af,λa=>⟨o,l,af,yu a⟩,λa=>by rw[qv,bJ<|of_decide_eq_false a],V aH _⟩
  ·clear q aH c3 cD ar a6;obtain⟨aa,rfl,aJ,aT,q⟩:=hcut;have c3:aD wc ⟨c,3,ai⟩=ag b:=uo (V q).1.1;have cD:aD wc ⟨c,4,ai⟩=ag (ak am A.4):=CF (V q).1.1;have bb:=rH (V q).1.1;have ar:=rp (V q).1.1;have bl:=sF (V q).1.1;cases aa with
   | true =>
    obtain⟨o,l,rfl,a7⟩:=aJ af;clear cD aT;obtain⟨x,ay,Q,aF,rfl,bF,B,aZ,a0,a1,aY⟩:=V4 (V q).1.2.2.2.2;have bC:=jj B (V q).1.1 bL;have bQ:(0:Int)<((E l+1:Nat):Int):=G;have W:Q=0\/Q≠0:=G;have a8:ax (∀z,z=(if 0<=o.2.1/\o.2.1<25600 then k.set (c7 o.2.1) o.2.2 else k)->qv A.4 z l=qv A.4 A.1 A.3):=λz d=>by rw[<- (V q).2.1,qv,b7 a7,d]
    have a9:=ae B;rcases W with W|W
    all_goals
     (first
      | (subst W;obtain rfl:l=[]:=iM G;have aV:ax (∀h:aQ,h.1[x]? = wc.1[x]?->wx h (aL (ag ⟨x,ay,ai⟩) 0 0) []):=λh a=>by simpa using aY h a)
      | (have aV:Hid (∀h:World,h.heap[x]? = wc.1[x]?->wx h (aL (ag ⟨x,ay+3,ai⟩) (E l) Q) l):=λh a=>by simpa [W]using aY h a))
     clear aY B aJ a7;obtain⟨al,r,P⟩:=o;simp only at aZ a0 a1 a8;simp only[ey,h8]at *;go_wp2
     first
      | (clear W;generalize aU:aL (ag ⟨x,ay+3,ai⟩) (E l) Q=X at *)
      | generalize aU:aL (ag ⟨x,ay,ai⟩) 0 0=X at *
     have⟨h,hW⟩:=bi<|aO (a_ wc ⟨c,3,ai⟩ X)<|aS #[ak am al,ak am r,ak ck<|be P] 174;have aW:∀i,i<U wc.1->i≠c->h.1[i]? = wc.1[i]?:=λi aN t=>by
      rw[hW];exact(dT _ _ _<|by simpa [a_]using aN).trans<|dJ _ _ _ _ t
     have aw:=bk.alloc (bk.set (V q).1.1 3 X)<|aS #[ak am al,ak am r,ak ck<|be P] 174;rw[<- hW]at aw;have yD:ax (∀(y:aQ) z,(∀i,i≠g->y.1[i]? = h.1[i]?)->U y.1=U h.1->y.4=h.4->y.2=h.2->y.5=h.5->oM y g z->z=(if 0<=r/\r<25600 then k.set (c7 r) P else k)->xN f y c g e D K X A z _):=λy z bf bT bY b0 b1 bS bM=>by
      have⟨⟨m1,m2,m3,m4,m5⟩,bc,h3,h4⟩:=V q;have an:=λi aN bK bc=>(bf i bc).trans<|aW i aN bK;refine⟨⟨pW aw<|bf c ah,bS,mN m3 λp n=>an p (pX m3 n) (λd=>lk m1 m3 bL<|by rw[n,d]) λd=>lk m2.2 m3 bL<|by rw[n,d],mN m4 λp n=>an p (pX m4 n) (λd=>lk m1 m4 bL<|by rw[n,d]) λd=>lk m2.2 m4 bL<|by rw[n,d],V aV y<|an x (V a9).lt bC<|jj (V a9) m2.2 bL⟩,V a8 z bM,by rw[<- h3,<- aU];rfl,h4.trans ⟨by rw[bY,hW];rfl,by rw[b0,hW];rfl,by rw[b1,hW];rfl,by rw[bT,hW];simp[a_],λi aN a=>an i aN a.1 a.2⟩⟩
     have aq:=t7 (V q).1.2.1<|aW g (V q).1.2.1.2.lt λd=>ah<|bZ d;have ba:bk h (U wc.1) [ak am al,ak am r,ak ck<|be P] 174:=by
      have:=bk.fF (a_ wc ⟨c,3,ai⟩ X) [ak am al,ak am r,ak ck<|be P] 174;rw[<- hW]at this;simpa [a_]using this
     have b3:=ba.cell 1 aA;have fz:=ba.cell 2 aA;simp only[e9,fw]at b3 fz;have b4:aD h ⟨c,0,ai⟩=ag (aL (ag ⟨g,0,ai⟩) 25600 25600):=bk.cell aw 0 aA;have:g≠U wc.1:=cj<|(V q).1.2.1.2.lt
     rw[<- hW];have B:=aq.1;have Y:=aq.2;have jC:=ae aq;clear hW aW aw aV q bb c3 ar bl aZ a0 a1 aU aq;by_cases bO:(0:Int)<=r
     ·by_cases bP:r<25600
      ·obtain⟨N,rfl⟩:∃N:Nat,r=(N:Int):=⟨c7 r,G⟩
       have hj:N<E k:=by rw[B];omega
       have bD:=Y.cell N Do;have:=Y.frozen;simp only[rS]at bD;clear Y B;go_quiet (fail);go_wp2
       go_region
       go_wp2
       first|go_roundg (E l)|go_roundg 0
       case measure=>simp
       ·exact⟨_,_,_,af,V yD _ _ (λi aN=>dJ _ _ _ _ aN) oF af af af (EW (V jC) N P) (by rw[b7 G];rfl)⟩
      ·have bz:=gD bP;clear Y B;go_quiet (fail);go_wp2
       exact QS
     ·have bz:=gD bO;clear Y B;go_quiet (fail);go_wp2
      exact QS
   | false =>
    have⟨⟨m1,m2,m3,m4,m5⟩,hq,hvp,UW⟩:=V q;rw[aT af]at hq;have a2:=ae λh (a:iR h c g e D ⟨ao,b,λ_=>True⟩ bA A.6 A.7 A.8 A.9)=>V1 a;have:=V bt;have t:=lk m1 m3 bL;have bB:=lk m2.2 m3 bL;have aj:=ae m1;clear aJ c3 bb aT q m1;go_wp2_with (fail);refine(V a2 _<|aek (V aj) bA).m ?_;rintro L ⟨ab,Z,bn⟩;have O:∀i,i<U wc.1->i≠c->L.1[i]? = wc.1[i]?:=λi aN t=>(Z.5 i (by simpa [a_]using aN) t).trans<|dJ _ _ _ _ t;have bs:U L.1=U wc.1:=by rw[bn];simp[a_]
    have az:ax (I2 L 0 e A.2):=mN m3 λp n=>O p (pX m3 n) (λd=>t<|by rw[n,d]);have a3:ax (oM L g k/\xK L 0 D A.5/\wx L b w/\cL (λi=>i≠c/\i≠g) f L) :=
     ⟨t7 m2<|O g m2.2.lt λd=>ah<|bZ d,mN m4 λp n=>O p (pX m4 n) λd=>lk (V aj) m4 bL<|by rw[n,d],AR m5 λi aF _ a=>O i a.lt<|jj a (V aj) bL,UW.trans ⟨Z.1,Z.2,Z.3,G,λi aN aR=>O i aN aR.1⟩⟩
    have ap:=ae ab;have bv:=I3 ab;have b2:=rp ab;have a4:=sF ab;have aC:=ae<|cv hq hvp;clear ab Z bn O a2 aj m2 m3 m4 m5 ar bl bs hq hvp UW;go_wp2_with (at_builtin;go_loud (refine vL _ af (.tmp 75) (.tmp 77) 56 af 0 3 i0 (ak am 0) 1 8 aep aN hz0 hz1 hz2 af bL _ (E A.2) _ af ((V az).alloc _) ⟨U L.1,0,ai⟩ 1 1 [ak am j] af af ?bA ?c2 ?c3 ?cD ?fB ?_))
    case bA =>
     intro N u hj
     match N,hj with
     | 0,hj=>exact Dn
     | j+1,hj=>simp at hj
    case c2=>exact H0
    case c3=>exact uW
    case cD=>omega
    case fB=>simp
    intro ca M aP T _ bj;obtain⟨H,J,I,rfl⟩:=qk aP;have aB:I2 M 0 (aL H J I) (A.2++[(j:Int)]):=by
     unfold I2;rw[dE,kq];exact aP
    have S:=λi aN t =>
     (T.5 i cx t).trans (dT _ _ _ aN)
    have R:=pW (V ap)<|S c a4 t;have bu:=lk R aB bL;have:=rp R;have:=I3 R;have:=rH R;have aX:=aej R<|aL H J I;have b4:=rH aX;have⟨r1,r2,r3,r4⟩:=V a3;have av:=t7 r1<|S g r1.2.lt bB;have aM:j<E k:=by rw[av.1];omega
    have bw:aD M ⟨g,j,ai⟩=ag (ak ck<|be<|k[j]):=by
     have:=av.2.cell j (by simpa using aM);rw[this];simp
    have:aD (a_ M ⟨c,1,ai⟩<|aL H J I) ⟨g,j,ai⟩=ag (ak ck<|be<|k[j]):=by
     rw[DM _ _ _ _ λo=>ah (by have:=fE Addr.block o;exact this),bw]
    have au:∀i,i≠c->(a_ M ⟨c,1,ai⟩<|aL H J I).1[i]? = M.1[i]?:=λi aN=>dJ _ _ _ _ aN;have bI:ax (k[j]=A.tL j):=by
     show k[j]=(qv A.4 A.1 A.3).1.getD j 0;rw[<- (V aC).1,jw,gw aM];rfl
    have a5:ax (o7 (a_ M ⟨c,1,ai⟩<|aL H J I) c g (aL H J I) D b<|A.uA j):=by
     unfold cw.uA;rw[<- (V aC).1,<- V bU];exact⟨aX,t7 av<|au g λd=>ah<|bZ d,sU aB bu _ _,mN r2 λp n=>(au p λd=>lk (V ap) r2 bL<|by rw[n,d]).trans<|S p (pX r2 n)<|V2 r2 (V az) bL n,AR r3 λi aF _ a=>(au i<|jj a (V ap) bL).trans<|S i a.lt<|lk a (V az) bL⟩
    have bx:ax (cI bH c f<|a_ M ⟨c,1,ai⟩<|aL H J I):=by
     have ad:cL (λi=>i≠c/\i≠g/\ag i≠bW e) f (a_ M ⟨c,1,ai⟩<|aL H J I):=((r4.mono λi _ a=>⟨a.1,a.2.1⟩).trans ⟨T.1,T.2,T.3,cU aA T.4,λi aN aR=>S i aN aR.2.2⟩).trans<|cL.j9 _ λi a=>a.1;refine⟨ad.1,ad.2,ad.3,ad.4,λi aN _ ac=>ad.5 i aN ⟨λd=>ac<|((V F) i).2<|bG d,λd=>ac<|((V F) i).2<|bE<|bG d,λd=>ac<|((V F) i).2<|bE<|bE<|bG<|bZ d⟩,λi ac=>?_⟩;rcases(tP<|V a5).1 ac with a|a|a|a|a
     ·exact bG<|((V F) i).2<|bG a
     ·exact bG<|((V F) i).2<|bE<|bG a
     ·rcases bj with aI|aI
      ·exact bG<|((V F) i).2<|bE<|bE<|bG<|aI ▸ a
      ·have:=r4.4;rw[aI]at a;cases a;exact bE G
     ·exact bG<|((V F) i).2<|bE<|bE<|bE<|bG a
     ·exact bG<|((V F) i).2<|bE<|bE<|bE<|bE<|(V aC).2 ▸ a
    generalize k[j]=b_ at *;have:=bR;clear aP T bj S t aX ap az bv b2 a4 aM au r1 r2 r3 r4 a3 aB R av;go_wp2;go_ret;exact⟨fE (λo:UInt8=>bg<|ak ck<|be o)<|V bI,⟨_,_,_,_,V a5⟩,V bx⟩
def I4{b:Nat}(c:Nat)(e:aQ)(d:dg e b A)(k:c<25600)(h:E A.2<=1000000000000)(i:A.4<=1000000000000):bd aK 159 #[.pointer<|ag ⟨b,0,ai⟩,ak am c] e λj g=>j=bg (ak ck<|be<|A.tL c)/\dg g b (A.uA c)/\cI bH b e g:=by obtain⟨l,n,o,p,d⟩:=d;exact aev d k h i
def AG(c:aQ)(a d)(g:d=E a)(e:E a<=hC):(convert 58 9<|bC (U c.1) 0 d d).run aK (aO c<|aS (dl<|a.map λb=>ak ck<|be b) 5)=.ok (aZ a) (aO c<|aS (dl<|a.map λb=>ak ck<|be b) 5):=by subst g;refine yc (base:=0) ⟨aA,bE ⟨U c.1,E a,dl<|a.map λb=>ak ck<|be b,af,eb _,du c _,cW _,e,aA,by rw[uJ];exact oT aA⟩⟩
def qa(a:Nat)(b)(g:a<65536):bd aK 83 #[J a] b (cQ (aZ [aN a,cO a]) b):=by
 have e:=AG b [aN a,cO a] 2 af Bu;have c:(be (aN a):Int)=(a:Int)/256:=by rw[aN,rJ];omega
 have d:(be (cO a):Int)=(a:Int)%256:=dS;simp only[nr,u_,c,d]at e;go_wp2;go_ret;exact FL
def g9(a:Nat):ap:=[aN<|a/65536,cO<|a/65536,aN<|a%65536,cO<|a%65536]
def B7(a:Nat)(d)(n:a<4294967296):bd aK 205 #[J a] d (cQ (aZ<|g9 a) d):=by
 have⟨c,ha⟩:=bi<|a/65536;have⟨b,hb⟩:=bi<|a%65536;have:(a:Int)/65536=(c:Int):=G;have:(a:Int)%65536=b:=G;have g:=ae<|qa c d G;have i:=ae λh=>qa b h G;have:cf (O [aN c,cO c])=2:=af;have:cf (O [aN b,cO b])=2:=af;have o:O [aN c,cO c]++O [aN b,cO b]=O (g9 a):=by rw[g9,<- ha,<- hb];rfl
 clear ha hb;go_in;go_wp2_with fail;refine g.m ?_;intro l j;have e:=ae j;go_wp21;refine(i l).m λp k=>?_;have bU:=ae<|bN e<|bV k e.4;go_wp2;go_ret;exact FK
def cG(s:ap)(a:Nat):Nat:=256*be (s.getD a 0)+be (s.getD (a+1) 0)
def AH(s:ap)(c j)(aN:c+1<E s)(q:E s<=1000000000):bd aK 141 #[aZ s,J c] j λl o=>l=bg (J<|cG s c)/\∃n,o=j.drewN n:=by
 have⟨a,ha⟩:=bi<|s[c];have⟨b,hb⟩:=bi<|s[c+1];have i:ax (cG s c=256*be a+be b):=by{rw[ax,cG,jw,jw,gw aN,gw G,ha,hb];rfl};have⟨g,CU⟩:=bi<|c+1;have:∀h:c<cf (O s),(O s)[c]=a:=λh=>bZ ha;have p:∀h:g<cf (O s),(O s)[g]=b:=λh=>by subst CU;exact bZ hb
 have:=de s;have r:am.wrap ((c:Int)+1)=(g:Int):=fT
 have:(c:Int)<E s:=G;have:(g:Int)<E s:=G;have⟨d,hx⟩:=bi<|be a;have⟨e,hy⟩:=bi<|be b;have:d<256:=hx▸gY a
 have:e<256:=hy▸gY b
 have:=jW (d:Int)
 have:=jW (e:Int)
 have:=jW<|256*(d:Int)
 have:=jW<|256*(d:Int)+e
 have k:ax ((cG s c:Int)=256*(d:Int)+(e:Int)):=by rw[ax,V i,hx,hy];simp
 rw[<- hx,<- hy]at i;have:(be a:Int)=d:=by rw[hx]
 have:(be b:Int)=e:=by rw[hy]
 clear ha hb CU hx hy aN;go_wp2;go_quiet (fail);go_wp2;go_ret;exact⟨by rw[V k];rfl,_,af⟩
def Tx{s:ap}{a}(b)(aN:a+1<E s)(g:E s<=1000000000):bd aK 141 #[aZ s,J a] b λc e=>c=bg (J<|cG s a)/\a7 b e :=
 (AH s a b aN g).mono λc e d=>⟨d.1,d.2.elim λi h=>h ▸ kv cd i⟩
def gW(a:UInt8):UInt8:=if 65<=be a/\be a<=90 then UInt8.ofNat (be a+32)else a
def aaB{b:ap}{a}(e:UInt8)(c:a<E b):(b9 gW (amA a b)++bh a b).set a (gW b[a])=b9 gW (amA (a+1) b)++bh (a+1) b:=by
 have d:E (b9 gW<|amA a b)=a:=by grind
 rw[lA c,iH c,K5,bJ G,d,sm,kq,jI,kH];rfl
def aaC{b:ap}{a}(c:a<E b)(d:gW b[a]=b[a]):b9 gW (amA (a+1) b)++bh (a+1) b=b9 gW (amA a b)++bh a b:=by rw[lA c,iH c,kq,jI];grind
def Ty(a b)(R:E a<=1000000):bd aK 142 #[aZ a] b (cQ (aZ<|b9 gW a) b):=by
 have:=Gl (P:=aK) b 9 58 5 (O a) underlying9 underlying58 underlying5;have:=ae<|F_ b a<|grownCap b (cf<|O a) 0 5;have q:=ae<|(dz (U b.1) b).drew.alloc (cW<|U b.1)<|aS (ii (O a)<|grownCap b (cf<|O a) 0 5) 5 (U<|ii (O a)<|grownCap b (cf<|O a) 0 5,U (ii (O a)<|grownCap b (cf<|O a) 0 5)+1);have I:E a<=grownCap b (cf<|O a) 0 5:=by{have:=Gh b (cf<|O a) 0 5;assumption};generalize grownCap b (cf<|O a) 0 5=g at *;generalize aO (bq b) (aS (ii (O a) g) 5 (U<|ii (O a) g,U (ii (O a) g)+1))=H at *;have:=de a;go_wp2;go_loopw [4] (λj wr=>∃k:Nat,j=J k/\k<=E a/\vS wr (U b.1) (b9 gW (amA k a)++bh k a)/\a7 b wr) λj _=>E a-c7 (fJ j);·exact⟨0,af,eb _,fN,q⟩
 ·(
 obtain⟨k,rfl,Q,h,z⟩:=hrel;have i:=ae h;have mg:=ae z;by_cases o:k<E a;{
 have:E (b9 gW (amA k a)++bh k a)=E a:=by grind
 have N:aD wr (M (U b.1) k)=ag (ak ck a[k].toNat):=by{rw[i.2.1 k G];grind};have:=i.2.2 k G;have t:=ae<|aaB 0 o;have HS:=ae<|i.set k (gW a[k]) G;have r:=ae<|aaC o;generalize a[k]=c at *;have:=gY c;have x:ax ((be (gW c):Int)=if 65<=be c/\be c<=90 then(be c:Int)+32 else be c):=by{unfold ax gW;split;{simp;omega};{rfl}};have p:ax (gW c=c->vS wr (U b.1) (b9 gW (amA (k+1) a)++bh (k+1) a)):=λy=>by rw[V r y];assumption
 rw[V t]at HS;have u:ax (¬(65<=be c/\be c<=90)->gW c=c):=λd=>by grind[gW]
 generalize S:be c=e at *;by_cases d:65<=e/\e<=90;{
 have C:(be (gW c):Int)=(e:Int)+32:=by rw[V x,b7 d]
 rw[C]at HS;obtain⟨d,K⟩:=d;go_wp2;exact Kr};{have bn:=ae<|p<|u d;by_cases L:65<=e;{have:¬e<=90:=G;go_wp2;exact Ik};{go_wp2;exact Ik}}};{
 have n:k=E a:=G;have A:ax (b9 gW (amA k a)++bh k a=b9 gW a):=by rw[ax,n];simp
 have h:=V i;rw[V A]at h;have F:E (b9 gW a)=E a:=aA;have D:=Gm (P:=aK) wr 58 9 5 (M (U b.1) 0) g (b9 gW a) underlying58 underlying5 underlying9 (λl B=>by{
 have w:((M (U b.1) 0):kC).add l=(M (U b.1) l):=by unfold Addr.add;simp_all
 rw[w];exact h.2.1 l B})
 rw[F]at D;subst n;go_wp2;go_ret;exact⟨af,mg⟩})
def ua(a b):O a++O b=O (a++b):=by rfl
def Hm{s}(a)(d:E s<=1000000)(e:fY 4294967295 s=aE):bd aK 206 #[amz<|O s] a λb i=>b=bg (J<|kZ 4294967295 s)/\i=a:=by have c:=ae<|AI s 4294967295 a d G;go_in;go_wp21;refine c.mono ?_;rintro b j ⟨⟨v,rfl,g⟩,rfl⟩;have h:=g e;subst h;go_wp2;go_ret;simp
def uc(a:Nat)(b c:Bool):Nat:=128+a/8%16*8+a%2+(if b=aE then 4 else 0)+(if c=aE then 2 else 0)
def pO(b:List Nat):ap:=b.flatMap λa=>[aN a,cO a]
def Ly:∀a:List Nat,E (pO a)=2*E a
 | []=>af
 | b::a=>by have:=Ly a;unfold pO at this ⊢; grind
def qi(s:ap)(a d:Bool)(c:Nat)(b:List Nat):ap:=amA 2 s++[UInt8.ofNat<|uc (be<|s.getD 2 0) a d,UInt8.ofNat<|c%16]++pO b
def TB{s}(e g){n w:Nat}(ar:Nat){a}(aX:12<=E s)(aW:E s<=1000000000)(a8:n<4096)(S:E a=4)(t:∀k∈a,k<65536)(av:w<U f.1)(R:∀B (P:B<E a),aD f (M w B)=ag (J (a[B]:Nat))):bd aK 75 #[amz<|O s,aG e,aG g,J n,bC w 0 4 ar] f (cQ (amz<|O<|qi s e g n a) f):=by
 have⟨k,hc⟩:=bi<|s[2];have:=de s;have au:∀P:2<cf (O s),(O s)[2]=k:=λP=>bZ hc;have⟨c,hx⟩:=bi<|be k;have:c<256:=hx▸gY k
 have H:ax (be (s.getD 2 0)=c):=by rw[ax,jw,gw G,hx,hc];rfl
 have aT:(be k:Int)=c:=by rw[hx]
 have⟨i,amt⟩:=bi<|c/8;have⟨o,amu⟩:=bi<|i%16;have⟨y,hx2⟩:=bi<|c%2;have⟨q,hb0⟩:=bi<|128+o*8+y;have ay:=jW (c:Int)
 have az:(c:Int).tdiv 8=(i:Int):=by grind
 have ac:(c:Int)/8=(i:Int):=G;have ad:=jW (i:Int)
 have aA:(i:Int).tmod 16=(o:Int):=by grind
 have ah:(i:Int)%16=o:=G;have aB:=jW<|(o:Int)*8
 have aC:=jW<|128+(o:Int)*8
 have aF:(c:Int).tmod 2=(y:Int):=by grind
 have aj:(c:Int)%2=y:=G;have aH:am.wrap (128+(o:Int)*8+y)=(q:Int):=fT
 have:2<(E s:Int):=G;have X:=ae λl=>kv (dz (U f.1) f) l;have⟨j,hb4⟩:=bi<|q+(if e=aE then 4 else 0);have⟨gF,wE⟩:=bi<|j+(if g=aE then 2 else 0);have L:ax (gF=uc (be<|s.getD 2 0) e g):=by rw[ax,uc,V H,wE,hb4,hb0,amu,amt,hx2]
 have:q<256:=G;have:j<256+8:=by grind
 have⟨C,amw⟩:=bi<|n%16;have:(n:Int).tmod 16=(C:Int):=by grind
 have⟨u,hu⟩:=bi<|UInt8.ofNat gF;have⟨v,hv⟩:=bi<|UInt8.ofNat C;have aZ:ck.wrap (gF:Int)=(be u:Int):=FN
 have a0:ck.wrap (C:Int)=(be v:Int):=by rw[xT,hv,rJ];omega
 have I:ax (qi s e g n a=amA 2 s++[u,v]++pO a):=by rw[ax,qi,<- V L,hu,hv,amw]
 have Y:=ae R;have aP:=ae t;have F:=ae S;have D:ax ((e=aE/\(q:Int)+4=j)\/(e=ao/\j=q)):=by{grind[ax]};have W:ax ((g=aE/\(j:Int)+2=gF)\/(g=ao/\gF=j)):=by{grind[ax]};clear hc hx amt amu hx2 hb0 hb4 wE H L amw hu hv R t S;go_wp2;go_quiet (fail);have N:=ae<|X nq;generalize f.drewN nq=h at *;have aM:=z8 s 2 G;have an:cf (O<|amA 2 s)=2:=by rw[de,jF];omega
 have aJ:=AG h [u,v] 2 af Bu;have aa:(convert 58 9<|bC (U h.1) 0 2 2).run aK (bq<|aO h<|aS #[ak ck<|be u,ak ck<|be v] 5)=.ok (amz<|O [u,v]) (bq<|aO h<|aS #[ak ck<|be u,ak ck<|be v] 5):=AG (bq h) [u,v] 2 af Bu;have ab:cf (O [u,v])=2:=af;have aV:O (amA 2 s)++O [u,v]=O (amA 2 s++[u,v]):=ua _ _;have ap:ax (a7 f<|bq<|aO h<|aS #[ak ck<|be u,ak ck<|be v] 5):=(ct N N.4 _).drew;clear aJ au aT ay az ac ad aA ah aB aC aF aj aH;rcases V D with⟨rfl,a3⟩|⟨rfl,rfl⟩<;>rcases V W with⟨rfl,a4⟩|⟨rfl,rfl⟩;all_goals(clear D W;go_wp2;go_region)
 all_goals(
 generalize bq (aO h<|aS #[ak ck<|be u,ak ck<|be v] 5)=a5 at *;have⟨p4,wF⟩:=bi<|amA 2 s++[u,v];have al:ax (E p4=4):=by rw[ax,wF,dE,jF];grind
 rw[<- wF]at I;rw[<- wF];clear wF aV aM aa an ab;go_wp2;go_loopw [12,13] (λaR A wr=>∃b:Nat,aR=amz (O<|p4++pO (amA b a))/\A=J b/\b<=4/\a7 f wr) λ_ A _=>4-c7 (fJ A);·exact⟨0,by simp[pO],af,G,ap⟩
 ·(
 obtain⟨b,rfl,rfl,aw,x⟩:=hrel;by_cases T:b<4;{
 have z:b<E a:=by rw[V F];omega
 have:=(x.cell (p:=⟨w,b,ai⟩) av).trans (Y b z);have t:=V aP a[b]<|eP z;have K:=ae<|qa a[b] wr t;have Z:ax (pO (amA (b+1) a)=pO (amA b a)++[aN a[b],cO a[b]]):=by{rw[ax,iH z,pO,pO,rR];simp};have aY:cf (O<|p4++pO (amA b a))<=100:=by{rw[de,dE,V al];rw[Ly,jF];omega};generalize a[b]=l at *;have:cf (O [aN l,cO l])=2:=af;have a1:O (p4++pO (amA b a))++O [aN l,cO l]=O (p4++pO (amA (b+1) a)):=by rw[V Z,<- jI];rfl
 generalize O (p4++pO (amA b a))=a2 at *;have r:=ae x;have:(b:Int)<4:=G;have aU:=ae T;clear x aw T t;go_wp2_with fail;refine K.m ?_;intro a6 Q;have aI:=ae<|bN r<|bV Q r.4;clear Q K r;go_wp2;exact⟨⟨b+1,af,dH,fN,aI⟩,by have:=V aU;exact Bz⟩};{
 obtain rfl:b=4:=G;have aq:ax (p4++pO (amA 4 a)=p4++pO a):=by rw[ax,oT (by rw[V F];omega)]
 have r:=ae x;go_wp2;go_ret;exact⟨fE (λc=>bg<|amz<|O c)<|c_ aq<|bZ I,r⟩}))
def Z8{g}(j:g=U f.1)(b)(h:d_):∀(e:Nat) (i:bm),(jL [b])[e]? = ag i->aD (aO f<|aS #[amz<|O b.owner,ak am b.aP,ak am b.type,amz<|O b.data] h) (((M g 0):kC).add e)=ag i:=λe i a=>by
 subst j;simp only[jL,D.bz,l5,D_,mw]at a;have c:=du f<|aS #[amz<|O b.owner,ak am b.aP,ak am b.type,amz<|O b.data] h;generalize aO f (aS #[amz<|O b.owner,ak am b.aP,ak am b.type,amz<|O b.data] h)=k at c ⊢;generalize U f.1=g at c ⊢
 match e,a with
 | 0,a=>simp at a;subst a;simp[Addr.add,aD,c]
 | 1,a=>simp at a;subst a;simp[Addr.add,aD,c]
 | 2,a=>simp at a;subst a;simp[Addr.add,aD,c]
 | 3,a=>simp at a;subst a;simp[Addr.add,aD,c]
 | l+4,a=>grind
def Z9{c h F aa ay ab P Q g}(b)(z:gH f c h i 0 H e P Q F)(C:ec f (c+1) e y)(J:iL f h g aa ay ab j)(aC:h<c)(au:E b.data<=3000)(av:E g<=3000)(aw:E y<8):bd aK 247 #[N c,b.zN] f λL an=>L=bg (bX #[aZ b.data,aG<|fZ b.data g])/\(∃a,gH an c h i 0 H a P Q F/\ec an (c+1) a (y++[b]))/\cB c f an:=by
 have⟨i0,aN,hz0,hz1,hz2⟩:=jN Cj;obtain⟨u,w,rfl⟩:=C.slice;have ar:=z.lt;have I:=C.ue;have ad:ag c≠bW (aL u (E y) w):=λL=>by grind
 have ah:ag h≠bW (aL u (E y) w):=λL=>by grind
 have T:ag (U f.1)≠bW (aL u (E y) w):=λL=>by grind
 obtain⟨aH,aI,aJ,aM,aP,aR,aT,aU⟩:=z.cells;have:((E y:Int)==8)=ao:=by grind
 have B:ax (∀t,bd aK 110 #[aZ b.data,aZ g] t λL an=>L=bg (aG<|fZ b.data g)/\an=t):=λt=>by
  have:=DY (O b.data) (O g) t m7 m7;rw[r8,r8]at this;exact this
 generalize fZ b.data g=aV at B ⊢;have S:=ae z;have R:=ae C;have ap:=ae I;have al:=J.2.1;have Z:=J.1;unfold D.zN;go_in;go_upto_region 4 with fail
 go_region_law (first|(refine step_append_lies _ rfl (.tmp 25) (.tmp 27) 41 rfl (c+1) 47 i0 _ 4 48 Gz aN hz0 hz1 hz2 rfl bL _ y.length (jL y) rfl ((R.alloc _).alloc _) _ 1 1 (jL [b]) rfl rfl (Z8 aA b _) Lm bL FT G cx (f.heap.size+2) aA ?_;intro l n r I o az aB;have x:∀d,d<f.heap.size+1->some d≠(Value.slice u y.length w).ownBlock->r.heap[d]? = (aO f<|aS #[amz<|O b.owner,ak am b.aP,ak am b.type,amz<|O b.data] 47).1[d]?:=(λd aN ac=>(o.5 d cx ac).trans<|dT _ _ _ cx);have A:=S.kept<|(x c G ad).trans<|dT _ _ _ ar;have:=A.frozen;have:=A.cells.2.2.2.2.1))
 all_goals
  have aj:ec r (c+1) (bC l 0 (E y+1) n) (y++[b]):=by
   rw[ec,dE,Sr];omega
  have:bW (aL (ag<|M l 0) (E y+1) n)=ag l:=af;have X:=(x (U f.1) G T).trans<|du f _;have:=(ev<|(x h G ah).trans<|dT _ _ _ Z).trans al;have Y:ax (cB c f r):=⟨o.1,o.2,o.3,cU cx o.4,λd aN=>(x d G λL=>cj<|V ap d<|bZ L).trans<|dT _ _ _ G⟩
  have K:=ae<|A.o6<|bC l 0 (E y+1) n;have W:=ae<|aj.ri (k:=c) (i:=4) G (bC l 0 (E y+1) n);have:aD (a_ r ⟨c,4,ai⟩<|aL (ag ⟨l,0,ai⟩) (E y+1) n) (M (U f.1) 3)=ag (aZ b.data):=by
   rw[DM _ _ _ _ λaq=>by grind];simp[aD,X]
  have aF:aD (a_ r ⟨c,4,ai⟩<|aL (ag ⟨l,0,ai⟩) (E y+1) n) (M h 0)=ag (aZ g):=by
   rw[DM _ _ _ _ λaq=>by grind];omega
  have:=K.cells.1;go_wp2
  go_region_held (λan=>aD an (M (U f.1) 3)=ag (aZ b.data)/\aD an (M c 0)=ag (N h)/\aD an (M h 0)=ag (aZ g)) (first|assumption|simp_all|go_keep)
   (first|(go_at_call 110;refine(B _).m ?_;rintro an rfl))
  all_goals
   go_wp2;go_ret2;have q:=fk Y (p:=⟨c,4,ai⟩) (cW c) (bC l 0 (E y+1) n);exact⟨af,⟨_,K,W⟩,⟨q.1,q.2,q.3,q.4,q.5⟩⟩
def Z_{c w n d t u}{a:D}(b:gH f c w i 0 H e t u n)(K:ec f (c+1) e j)(h:pw f n d ao)(J:n≠d)(V:d<c)(T:E j=8):bd aK 247 #[N c,a.zN] f λo k=>o=bg (bX #[aZ a.data,aG aE])/\gH k c w i 0 H e t u n/\pw k n d aE/\∀g,g<=d->cB g f k:=by
 obtain⟨R,S,rfl⟩:=K.slice;have Q:=b.lt;have x:=h.lt;obtain⟨Y,Z,aa,ab,ac,ad,ah,aj⟩:=b.cells
 have p:a7 f (aO f<|aS #[amz<|O a.owner,ak am a.aP,ak am a.type,amz<|O a.data] 47):=ct cd bv _;have y:=ae<|aaA (h.below p h.1 x) J;have A:(aO f<|aS #[amz<|O a.owner,ak am a.aP,ak am a.type,amz<|O a.data] 47).1[U f.1]? = ag (aS #[amz<|O a.owner,ak am a.aP,ak am a.type,amz<|O a.data] 47):=du f _;have z:=ae b;unfold D.zN;go_in;go_wp2_with fail;refine y.mono ?_;rintro o P ⟨⟨v,rfl⟩,l,q,W,F⟩;have X:aD P (M (U f.1) 3)=ag (aZ a.data):=by{have:=(q (U f.1) G).trans A;simp[aD,this]};have C:=ae<|z.kept<|(q c G).trans<|dT _ _ _ Q;have L:=ae l;have B:=ae F;go_wp2;go_ret2;exact⟨af,C,L,λg I=>(bV p G).trans<|B g I⟩
def kj(c:ap)(b:List D)(a:ap):Option D:=if(fV c b a).length=0/\(er b a).2=aE/\qS (er b a).1=aE then ag ((er b a).1.headD D.zero)else ai
def iO(b:ap)(d:List D):Nat->ap->Option (List D×Option ap)
 | 0,a=>match kj b d a with
  | none=>ag ([],ag a)
  | some _=>ai
 | m+1,a=>match kj b d a with
  | none=>ag ([],ag a)
  | some c=>if fZ c.data b=aE then(iO b d m c.data).map (λe=>(c::e.1,e.2))else ag ([c],ai)
def xo(a:ap)(b:List D):Option ap->Int
 | some c=>nh a b c
 | none=>0
def vw(b:ap)(c:List D)(a:Int):Option ap->List D
 | some d=>oo b c a d
 | none=>[]
def wX(b:ap)(c:List D)(a:Int):Option ap->List D
 | some d=>pm b c a d
 | none=>[]
def TC{d w z S ay X:Nat}{y:Bool}{J L:bm}{l b:ap}{c:D}{x:aQ->Prop}(p:gH f d w i 0 y J e L z)(F:iL f w l S ay X j)(B:d3 f)(au:xk l j)(ah:E b<=2900)(ab:(i==5)=ao)(aq:(i==255)=ao)(aM:E (fV l j b)=0)(ad:(er j b).2=aE)(o:(er j b).1=[c])(O:qS [c]=aE)(W:∀a,a7 f a->bd aK 247 #[N d,c.zN] a λh r=>h=bg (bX #[aZ c.data,aG H])/\x r):bd aK 194 #[N d,aZ b] f λh r=>h=bg (bX #[aZ c.data,aG H])/\x r:=by
 obtain⟨C,Z,al⟩:=au;have aC:(i != 5)=aE:=by rw[bne,ab];rfl
 have aH:(i != 255)=aE:=by rw[bne,aq];rfl
 have aB:=p.lt;have⟨s0,s1,_⟩:=p.cells;have Y:=ae F;have Q:=ae B;have P:=ae<|GA b F B C G Z;have I:ax (∀a,a7 f a->gH a d w i 0 y J e L z):=λa g=>p.kept<|g.5 d aB;have aw:=ae W;have:¬(0:Int)<(E (fV l j b):Int):=G;have T:=ae λa (g:a7 f a)=>Ln (Y.below g) (Q.below g) C ah λc o=>(al c o).1;go_in;go_wp21;refine P.mono ?_;rintro h M ⟨⟨aP,rfl,ar⟩,k⟩;obtain⟨aF,bA,rfl⟩:=ar.slice;have⟨t0,t1,_⟩:=(I M k).cells;go_wp21;refine(T M k).mono ?_;rintro h t ⟨⟨aR,rfl,q⟩,ac⟩;rw[ad];rw[o]at q;have A:=bN k<|bV ac k.4;have an:=V I t A;obtain⟨u0,u1,u2,u3,u4,u5,u6,u7⟩:=an.cells;have u:=ae<|Tt q.rv aA;rw[O]at u;have az:=q.rv;rcases az with⟨_,aa⟩|⟨aI,aN,aJ,rfl,av,aj⟩;{cases aa};have⟨c0,c1',c2,c3⟩:=aj.four 0 aA;simp only[rW,jn,e9]at c0 c1' c2 c3;have R:=ae<|aw t A;simp only[ey,h8]at av u ⊢;go_wp21;refine u.m ?_;rintro t rfl;go_wp21;refine R.m λaT n=>?_;replace n:=ae n;go_wp2;go_ret2;exact⟨af,n⟩
def aaa{b:Nat}(e:d3 f)(a:cB b f m)(g:0<b):d3 m:=by obtain⟨h,d,i⟩:=e;exact⟨e8 h a.4,d,(a.cell (p:=⟨0,0,ai⟩) g).trans i⟩
def LD{h:ap}{b:ap}{e:D}(a:kj h j b=ag e):E (fV h j b)=0/\(er j b).2=aE/\(er j b).1=[e]/\qS [e]=aE:=by unfold kj at a;split at a;{rename_i k;obtain⟨i,c,d⟩:=k;have g:=d;simp only[qS,fx,jy]at g;have⟨x,hx⟩:=GJ.1 g.1;rw[hx]at a d;simp only[List.headD_cons,ug]at a;subst a;exact⟨i,c,hx,d⟩};{cases a}
def aab{d:ap}{a:ap}(c:kj d j a=ai):E (fV d j a)=0->(er j a).2=aE->qS (er j a).1=ao:=λg h=>by
 unfold kj at c;split at c
 ·cases c
 ·rename_i i;cases e:qS (er j a).1
  ·rfl
  ·exact absurd ⟨g,h,e⟩ i
def TN{a}(i:kr a=aE):rd a=aE ↔ oA a=[42]:=by
 unfold oA;have:=pM 46 a;cases e:I 46 a with
 | nil=>grind
 | cons b t =>{
 rw[kr,fx,e,rY,fx]at i;have c:=i.2.1;rw[vM,vY]at c;show rd a=aE ↔ b=[42];unfold rd Lib.hasPrefix;rcases c with d|q;{
 have c:b≠[]:=by rintro rfl;simp[lL]at d
 have h:=GZ e c;cases b with
 | nil=>grind
 | cons n r =>{
 simp only[lL,fx,yo]at d;have k:=d.2.1;have p:n≠42:=by rintro rfl;revert k;decide
 constructor;{
 intro j;cases a with
 | nil=>cases j
 | cons o l =>{grind}};grind}};{
 have g:b=[42]:=by grind
 have h:=GZ e (by grind);rw[g]at h;refine⟨λ_=>g,λ_=>?_⟩;cases a with
 | nil=>grind
 | cons o l=>grind}}
def abP(c b):At c b=aE ↔ b.type=2/\b.owner≠c:=by rw[At,fx,jy,zH,Ei];exact and_congr Iff.rfl<|not_congr ⟨λa=>Ca a,λa=>by rw[a]⟩
def BP(c:ap)(b a:D):Prop :=
 (a.type=2/\a.owner≠c->oA a.owner≠[42]) /\
 (b.owner=a.owner->¬(b.type=a.type/\(b.data=a.data\/b.aP≠a.aP))/\a.type≠5/\(a.type=2/\a.owner≠c->b.type=2)) /\
 (b.owner≠a.owner->a.type=2/\a.owner≠c->fZ b.owner a.owner=aE->b.type=1/\oA b.owner≠[42])
def TO(d b a):us d b a=aE ↔ BP d b a:=by rw[us,BP,Ms,ED];have:(I 46 b.owner=I 46 a.owner) ↔ b.owner=a.owner:=⟨λc=>Ca c,λc=>by rw[c]⟩;have:=abP d a;grind
def LW(d):∀(a b:List D),sR d b a=aE ↔ (∀c∈a,c.aP=d)/\a.Pairwise (·≠·)/\∀c∈a,c ∉ b
 | [],b=>by simp[sR]
 | c::a,b=>by rw[sR,fx,fx,jy,LW d a<|b++[c],vB];grind
def TP(k)(b:List D):(∀a (aN:a<E b) c (i:c<E b),c≠a->BP k b[a] b[c]) ↔ b.Nodup/\∀e∈b,∀g∈b,e≠g->BP k e g:=by constructor;{intro h;refine⟨?_,λe l g d p=>?_⟩;{rw[List.Nodup,GO];intro a q aN n r j;have d:=h a aN q n G;rw[<- j]at d;exact(d.2.1 af).1 ⟨af,bG af⟩};{obtain⟨a,aN,rfl⟩:=GL.1 l;obtain⟨c,i,rfl⟩:=GL.1 d;grind}};{rintro⟨o,h⟩ a aN c i p;refine h _ (eP aN) _ (eP i) λj=>?_;rw[List.Nodup,GO]at o;grind}
def abQ{F}(g:il cZ F):0<E (jb F 2) ↔ ∃a∈F,a.type=2:=by
 unfold jb;cases c:(dw dj F).find? (λa=>nK a==2)with
 | some a =>{have h:=Ed c;have n:=List.find?_some c;have⟨b,d,hh,e⟩:=(Aq g).1 a h;have k:b.type=2:=by{unfold nK at n;grind};grind}
 | none =>{
 refine⟨λo=>by grind,?_⟩;rintro⟨b,d,k⟩;have⟨a,hx,e⟩:=(Aq g).2 b d;have l:=R9.1 c a hx;refine absurd ?_ l;have h:=e▸jo.2 ⟨d,(ur b b).2 af⟩
 unfold nK;cases p:a.2 with
 | nil=>grind
 | cons i q =>{
 have j:i∈ed (dj b) F:=by grind
 have:=(lR<|(ur b i).1 (jo.1 j).2).2;grind}}
def abR{b c}(d:b∈j)(e:c∈j)(g:b≠c):1<E j:=by
 match j,d,e with
 | [h],d,e =>{grind}
 | _::_::_,_,_=>simp
def Ru(a):fZ a a=aE:=by simp[fZ]
section
variable {L:List D} (hL:il cZ L) (hval : ∀ r∈L,kr r.owner=true) (o:ap)
structure LX(L:List D)(o:ap):Prop where
 aCg:∀r∈L,qR (L.filter (dj r))=true
 und:∀r∈L,fZ r.owner o=true
 cn:∀r∈L,∀c∈L,c.owner=r.owner->c.type=5->¬1<(L.filter (fd r)).length
 aeF:∀r∈L,r.owner≠o->r.type=2->p6 L r.owner=true
 ns:∃x∈L,x.owner=o/\x.type=2
include hL in
theorem TQ:mC o L=aE ↔ LX L o:=by rw[mC,fx,fx,aaE hL,aaG hL λp n=>mW o L p n,Uk hL,sq,abQ (F:=ed (λr=>r.owner==o) L) (DN _ hL)];have j:∀r∈L,mW o L r.owner (ed (fd r) L)=aE ↔ fZ r.owner o=aE/\(∀h∈L,h.owner=r.owner->h.type=5->¬1<E (ed (fd r) L))/\(r.owner=o\/(∀a∈L,a.owner=r.owner->a.type≠2)\/p6 L r.owner=aE):=by{intro r b;rw[mW,fx,fx,and_assoc,vY,vY,jy,or_assoc];have q:∀g:Int,(ed (fd r) L).any (mU g)=aE ↔ ∃a∈L,a.owner=r.owner/\a.type=g:=by{intro g;rw[pr];constructor;{rintro⟨a,e,k⟩;have⟨c,d⟩:=jo.1 e;exact⟨a,c,bZ<|(tt r a).1 d,by unfold mU at k;grind⟩};{rintro⟨a,e,c,d⟩;exact⟨a,jo.2 ⟨e,(tt r a).2<|bZ c⟩,by unfold mU;grind⟩}};grind};have l:(∃a∈ed (λr=>r.owner==o) L,a.type=2) ↔ ∃a∈L,a.owner=o/\a.type=2:=by{grind};rw[l];constructor;{rintro⟨c,d,i⟩;refine⟨c,λr b=>((j r b).1<|d r b).1,λr b=>((j r b).1<|d r b).2.1,λr b w x=>?_,i⟩;grind};{rintro⟨c,d,i,t,u⟩;grind}
theorem Qi{P:Prop}(h:P:=by rintro⟨h2,ho⟩;have hc:=(JQ hL b.owner).1 (h.4 b hb ho h2) b hb<|Ru _;grind):P:=h
include hL hval in
theorem TR(h:LX L o):L.Nodup/\∀a∈L,∀b∈L,a≠b->BP o a b:=by
 have q:∀r∈L,∃y,(∀c∈L,c.owner=r.owner->c.type=r.type->c.aP=y)/\(ed (dj r) L).Pairwise (·≠·):=by{
 intro r k;have d:=h.1 r k;have:=jo.2 ⟨k,(ur r r).2 af⟩;cases t:ed (dj r) L with
 | nil=>grind
 | cons p H =>{rw[t]at d;have⟨a1,a2,_⟩:=(LW p.aP (p::H) []).1 d;refine⟨p.aP,λc D l n=>a1 c ?_,a2⟩;rw[<- t];exact jo.2 ⟨D,(ur r c).2<|Eh (bZ l)<|bZ n⟩}};have I:∀r∈L,rd r.owner=ao->oA r.owner≠[42]:=by{intro r k w g;rw[(TN<|hval r k).2 g]at w;cases w};refine⟨?_,λa i b hb u=>⟨?_,?_,?_⟩⟩;{rw[List.Nodup,GO];intro F G aN B z g;have⟨_,_,hp⟩:=q _<|eP aN;rw[List.pairwise_filter,GO]at hp;exact hp F G aN B z ((ur _ _).2 af) (g▸(ur _ _).2 af) g};{exact Qi};{intro j;refine⟨?_,?_,?_⟩;{rintro⟨x,e⟩;have⟨y,d,_⟩:=q a i;have l:=d a i af af;have n:=d b hb (bZ j)<|bZ x;rcases e with e|e;{exact u<|Eh j<|Eh (c_ l<|bZ n)<|Eh x e};omega};{intro A;exact h.3 b hb b hb af A<|abR (jo.2 ⟨i,(tt b a).2<|bZ j⟩) (jo.2 ⟨hb,(tt b b).2 af⟩) u};{exact Qi}};{intro j;rintro⟨h2,ho⟩ C;have hc:=(JQ hL b.owner).1 (h.4 b hb ho h2) a i C;grind}
include hL hval in
theorem abS(y:L.Nodup)(e:∀u∈L,∀w∈L,u≠w->BP o u w)(O:∀r∈L,fZ r.owner o=aE)(I:∃a∈L,a.type=6)(A:∃a∈L,a.owner=o/\a.type=2):LX L o:=by
 have G:∀r∈L,oA r.owner≠[42]->rd r.owner=ao:=by{intro r c l;rw[<- vU];exact λg=>l<|(TN<|hval r c).1 g};refine⟨λr c=>?_,O,λr c i g x H R=>?_,λr c N p=>?_,A⟩;{
 have k:(ed (dj r) L).Nodup:=DN _ y;have q:∀a∈ed (dj r) L,a∈L/\a.owner=r.owner/\a.type=r.type:=by{intro a h;have⟨h1,p⟩:=jo.1 h;have:=lR<|(ur r a).1 p;grind};cases K:ed (dj r) L with
 | nil=>rfl
 | cons d z =>{rw[K]at k q;refine(LW d.aP (d::z) []).2 ⟨λa h=>?_,k,λ_ _ g=>by cases g⟩;by_cases b:a=d;{rw[b]};{have⟨m1,m2,m3⟩:=q a h;have⟨k1,k2,k3⟩:=q d aA;have:=((e a m1 d k1 b).2.1<|c_ m2<|bZ k2).1;omega}}};{
 have k:(ed (fd r) L).Nodup:=DN _ y;have:=jo.2 ⟨g,(tt r i).2<|bZ x⟩;have J:∃j∈ed (fd r) L,j≠i:=by{
 match hF:ed (fd r) L with
 | []=>grind
 | [a]=>grind
 | a::d::z =>{rw[hF]at k;by_cases b:a=i;{refine⟨d,aA,?_⟩;grind};{exact⟨a,aA,b⟩}}};obtain⟨j,F,C⟩:=J;have⟨d1,d2⟩:=jo.1 F;exact((e j d1 i g C).2.1<|(bZ<|(tt r j).1 d2).trans<|bZ x).2.1 H};{
 refine(JQ hL r.owner).2 λs l P=>?_;have hcut:r.type=2/\r.owner≠o:=⟨p,N⟩;constructor;{refine G s l ?_;by_cases b:s.owner=r.owner;{obtain⟨a,h,Q⟩:=I;rw[b];exact(e a h r c<|by grind).1 hcut};{exact((e s l r c<|by grind).2.2 b hcut P).2}};{
 intro n t D;by_cases b:s.owner=r.owner;{rw[b7 b];by_cases B:n=r;{grind};{exact((e n t r c B).2.1<|c_ D b).2.2 hcut}};{
 rw[bJ b];have M:n.owner≠r.owner:=by grind
 exact((e n t r c<|by grind).2.2 M hcut<|by grind).1}}}
end
def TS(c)(T:∀b∈j,kr b.owner=aE):(wU c j/\E j<=60) ↔ (na c j&&mC c (cq j))=aE:=by
 have u:=wt j;have p:=An j;have g:∀ {b:D},b∈cq j ↔ b∈j:=u.mem_iff;have C:=λb h=>T b<|g.1 h;rw[fx,TQ p];have S:kl j (I 46 c) 2=aE ↔ ∃e∈j,e.owner=c/\e.type=2:=by{rw[kl,pr];constructor;{rintro⟨e,x,i⟩;simp at i;exact⟨e,x,Ca i.1,i.2⟩};grind};unfold wU zA;rw[S];constructor;{
 rintro⟨⟨⟨O,M,V⟩,B,w⟩,K⟩;have a:=(TP c j).1 λd aN z r t=>(TO c _ _).1<|(w d aN).2.2 z r t;have F:∀b∈j,fZ b.owner c=aE:=by{intro b h;obtain⟨d,aN,rfl⟩:=GL.1 h;have:=(w d aN).1;rw[ED]at this;omega};refine⟨?_,abS p C c (u.nodup_iff.2 a.1) (λn q o k=>a.2 n (g.1 q) o<|g.1 k) (λb h=>F b<|g.1 h) ⟨j[0],g.2<|eP O,M⟩ ?_⟩;{
 cases j with
 | nil=>grind
 | cons b A =>{unfold na;have N:b.owner=c:=Ca V;have H:b.type=6:=M;have J:A.any (mU 6)=ao:=by{rw[<- vU,pr];rintro⟨e,x,i⟩;obtain⟨d,aN,rfl⟩:=GL.1 x;refine(w (d+1)<|by grind).2.1 ⟨G,?_⟩;unfold mU at i;grind};grind}};grind};{
 rintro⟨L,l⟩;have k:=TR p C c l;have Q:=u.nodup_iff.1 k.1;have R:=λn q o P=>k.2 n (g.2 q) o<|g.2 P;have a:=(TP c j).2 ⟨Q,R⟩;have B:∃e∈j,e.owner=c/\e.type=2:=by{have e:=l.5;grind};have F:=λb h=>l.2 b<|g.2 h;cases j with
 | nil=>grind
 | cons b A =>{rw[na,fx,fx,fx,sq,jy,jy,zH,<- vU,pr]at L;obtain⟨K,⟨N,H⟩,J⟩:=L;refine⟨⟨⟨aA,H,by grind⟩,B,λd aN=>⟨?_,?_,λz r t=>(TO c _ _).2<|a d aN z r t⟩⟩,K⟩;{rw[ED];grind};{rintro⟨X,W⟩;obtain⟨y,rfl⟩:∃y,d=y+1:=⟨d-1,G⟩;refine J ⟨A[y]'(by grind),eP _,?_⟩;grind[mU]}}}
def HJ:aK.underlying 115=ag (.slice 119):=b8
def LY:(aK.info? 119).map (λa=>(a.8,a.3,a.4))=ag (ag<|ci #[bY,J 0,J 0,amz ⟨#[]⟩,bY],5,80):=b8
def Cc(c:aQ)(a ay b:Nat):bm:=(aD c<|M a<|ay+b*5+4).getD<|bY
def xY(e:aQ)(c ay:Nat)(d:bm)(b:List D)(a:Nat):List bm:=[d,J (b[a]?.getD D.zero).aP,J (b[a]?.getD D.zero).type,aZ (b[a]?.getD D.zero).data,Cc e c ay a]
def CM(b:List D)(d:List ap)(c:Int)(a:Nat):Bool:=dQ (I 46 (b[a]?.getD D.zero).owner=d)&&(b[a]?.getD D.zero).type==c
def nj(d:List D)(c:List ap)(b:Int)(a:Nat):List Nat:=ed (CM d c b)<|List.range a
def mD(b:List D)(d:List ap)(c:Int):Nat->List Nat
 | 0=>[]
 | a+1=>mD b d c a++if c≠255/\c≠(a:Int)then []else if a=0 then []else nj b d a (E b)
def TT(d c b a):nj d c b (a+1)=nj d c b a++if CM d c b a then [a]else []:=by unfold nj;rw[BV,tG];grind
def TU(d c b a):E (nj d c b a)<=a:=by grind[nj]
def TV(b c d):∀a,E (mD b c d a)<=a*E b
 | 0=>by simp[mD]
 | a+1=>by rw[mD,dE,Nat.succ_mul];have:=TV b c d a;have e:=TU b c a<|E b;grind
def abT{j}(l:j=U f.1){d g h i}(k:d_):∀(a:Nat) (b:bm),[d,e,g,h,i][a]? = ag b->aD (aO f<|aS #[d,e,g,h,i] k) (((M j 0):kC).add a)=ag b:=λa b n=>by
 subst l;exact World.news_of_block (du f<|aS #[d,e,g,h,i] k) a b n
def abU{c d h e j g}:∀b∈[aL c h e,J i,J p,amz T,aL d j g],b.oneCell'=aE:=by intro b a;simp at a;rcases a with rfl|rfl|rfl|rfl|rfl<;>rfl
def Q_{P:Prop}(h:P:=by have bj:ax (nj rs ns kn (i+1)=nj rs ns kn i):=by{have h3:=V MX;simp_all};clear hs;go_wp2;exact⟨⟨i+1,G,dH,⟨_,_,_,af⟩,by rw[V bj];assumption,bM⟩,ee⟩):P:=h
def abV{r bc rs a h g ns c ay z bf}(az:f.1[r]? = ag (aS #[bf,aL (ag ⟨c,ay,ai⟩) (E rs) z] 117))(bK:E rs<=z)(bi:yj f c ay rs)(ac:wZ bc rs)(a6:gG f e ns)(a3:E ns<=1000):bd aK 237 #[N r,e,J p,aL a h g] f λaX au=>(∃v,aX=bg v/\au.ownsRow (U f.1) 119 5 v (E<|mD rs ns p 17) (fA (xY f c ay (aL a h g) rs)<|mD rs ns p 17))/\a7 f au:=by
 have⟨i0,oI,hz0,hz1,hz2⟩:=jN LY;have aj:=(ea.1 az).1;have aC:=ae a6;have aM:=ae bi;have W:=ae az;have a8:=ac.2.1;have aT:=ae ac;go_wp2;go_loopw [9,10] (λy k wr=>∃kn:Nat,1<=kn/\kn<=17/\k=J kn/\(∃d x t,y=aL d x t)/\wr.ownsRow (U f.1) 119 5 y (E<|mD rs ns p kn) (fA (xY f c ay (aL a h g) rs)<|mD rs ns p kn)/\a7 f wr) λ_ k _=>17-c7 (fJ k);·(
 refine⟨1,G,G,af,⟨_,_,_,af⟩,?_,dz _ _⟩;have:mD rs ns p 1=[]:=by simp[mD]
 rw[this];exact⟨af,bG ⟨af,af⟩⟩)
 ·(
 obtain⟨kn,bw,bn,rfl,⟨bp,bs,br,rfl⟩,B,l⟩:=hrel;have F:=ae B;have o:=ae l;by_cases bB:kn<17;{
 have a9:(kn:Int)<17:=G;have:=TV rs ns p kn;have:kn*E rs<=17*3001:=Nat.mul_le_mul G a8;by_cases ah:p≠255/\p≠(kn:Int);{
 have aa:(p != 255)=aE:=by grind
 have a0:(p != (kn:Int))=aE:=by grind
 have u:mD rs ns p (kn+1)=mD rs ns p kn:=by rw[mD,b7 ah,mw]
 go_wp2;refine⟨⟨kn+1,G,G,dH,⟨_,_,_,af⟩,by rw[u];assumption,o⟩,ee⟩};{
 have u:mD rs ns p (kn+1)=mD rs ns p kn++nj rs ns kn (E rs):=by rw[mD,bJ ah,bJ G]
 replace u:=ae u;have bb:(p != 255)=ao\/((p != 255)=aE/\(p != (kn:Int))=ao):=by{grind};generalize mD rs ns p kn=b at *;rcases bb with aa|⟨aa,a0⟩;all_goals(
 go_wp2;go_loopw [9,11] (λy Q aw=>∃i:Nat,i<=E rs/\Q=J i/\(∃d x t,y=aL d x t)/\aw.ownsRow (U f.1) 119 5 y (E<|b++nj rs ns kn i) (fA (xY f c ay (aL a h g) rs)<|b++nj rs ns kn i)/\a7 f aw) λ_ Q _=>E rs-c7 (fJ Q);·(refine⟨0,G,af,⟨_,_,_,af⟩,?_,o⟩;have:nj rs ns kn 0=[]:=af;rw[this,mw];assumption)
 ·(
 obtain⟨i,aN,rfl,⟨bt,bD,bu,rfl⟩,B,l⟩:=hrel;have F:=ae B;have o:=ae l;have bk:aD wr (M r 1)=ag (bC c ay (E rs) z):=by{have:=(l.5 r aj).trans W;unfold aD; simp_all};by_cases ap:i<E rs;{
 have aI:(i:Int)<E rs:=G;have⟨ro,m6,c0,bA,c2,c3,cD,fB,gE⟩:=(V aM) i ap;have ad:=aT.2.2 rs[i]<|eP ap;have X:=ae<|up (fB.below l) (aC.below l) (pQ ad) a3;have bl:ax (xY f c ay (aL a h g) rs i=[aL a h g,J rs[i].aP,J rs[i].type,amz<|O rs[i].data,m6]):=by{unfold ax xY Cc;simp_all};have MX:ax (CM rs ns kn i=(dQ (I 46 rs[i].owner=ns)&&rs[i].type==(kn:Int))):=by{unfold ax CM;simp_all};have:=ae<|TT rs ns kn i;obtain⟨T,H,S,rfl,_,_⟩:=gE;obtain⟨aF,aP,aR,rfl,_,_⟩:=fB;generalize aJ:E (I 32 rs[i].data)=L at *;have R:∀(j:aQ),a7 f j->aD j (M c<|ay+i*5)=ag (bC aF aP (E<|I 46 rs[i].owner) aR)/\aD j (M c<|ay+i*5+1)=ag (J rs[i].aP)/\aD j (M c<|ay+i*5+2)=ag (J rs[i].type)/\aD j (M c<|ay+i*5+3)=ag (amz<|O rs[i].data)/\aD j (M c<|ay+i*5+4)=ag (bC T H L S)/\aD j (M r 1)=ag (bC c ay (E rs) z):=λj ab=>by{have k:∀(d:kC) (v:bm),aD f d=ag v->aD j d=ag v:=λd v Z=>(ab.cell<|i8 f d Z).trans Z;refine⟨k _ _ c0,k _ _ bA,k _ _ c2,k _ _ c3,k _ _ cD,?_⟩;have:=(ab.5 r aj).trans W;unfold aD; simp_all};have ba:=ae R;have cS:=(R wr l).1;clear c0 bA c2 c3 cD R B l ad aJ;generalize rs[i]=n at *;go_wp2_with fail;refine X.m ?_;intro D P;have bM:=ae<|bN o<|bV P o.4;have an:=ae<|jG (V F) P;have:=V ba D<|V bM;clear P X cS bk;cases hs:dQ<|I 46 n.owner=ns;{exact Q_};{
 cases bx:(n.type==(kn:Int));{exact Q_};{
 have bj:ax (nj rs ns kn (i+1)=nj rs ns kn i++[i]):=by{have h3:=V MX;simp_all};clear hs;have bo:E (b++nj rs ns kn i)<=60000:=by{have:=TU rs ns kn i;rw[dE];omega};have:=bM.4;go_wp2_with (at_builtin;go_loud (refine vL _ af (.tmp 66) (.tmp 68) 115 af (U f.1) 119 i0 (ci #[bY,J 0,J 0,amz ⟨#[]⟩,bY]) 5 80 HJ oI hz0 hz1 hz2 af bL _ (E<|b++nj rs ns kn i) _ af (jG (V an)<|(ct cd bv _).alloc aA _) (M (U D.1+1) 0) 1 1 [aL a h g,J n.aP,J n.type,aZ n.data,bC T H L S] af af (abT aA _) (abU) m9 G cx ?_));intro ar av aB q a4 a1;have K:av.ownsRow (U f.1) 119 5 ar (E<|b++nj rs ns kn (i+1)) (fA (xY f c ay (aL a h g) rs)<|b++nj rs ns kn (i+1)):=by{rw[V bj,<- jI,dE,rR];have : [i].flatMap (xY f c ay (aL a h g) rs)=[aL a h g,J n.aP,J n.type,aZ n.data,bC T H L S]:=by{assumption};simp_all};have al:a7 f av:=⟨c_ q.1 bM.1,c_ q.2 bM.2,c_ q.3 bM.3,cU cx q.4,λC a5=>by{
 refine(q.5 C cx λA=>?_).trans ?_;{
 obtain⟨_,⟨w,_⟩|⟨Y,aU,aV,w,bz,_⟩⟩:=V an;{rw[w]at A;cases A};{
 rw[w]at A;have:C=Y:=by simpa [bW]using A
 omega}};{exact(((dz (U D.1) D).alloc bv _).alloc aA _).5 C G |>.trans (bM.5 C a5)}}⟩
 have aW:=ae al;have aY:=ae K;obtain⟨bH,bI,bF,rfl⟩:∃d x t,ar=aL d x t:=by{obtain⟨_,⟨w,_⟩|⟨Y,aU,aV,w,_⟩⟩:=K;{simp_all};simp_all};clear aB q a4 a1 K al;go_wp2;exact⟨⟨i+1,G,dH,⟨_,_,_,af⟩,aY,aW⟩,ee⟩}}};{have aI:¬(i:Int)<E rs:=G;have aH:i=E rs:=G;subst aH;go_wp2;refine⟨⟨kn+1,G,G,dH,⟨_,_,_,af⟩,by rw[V u];assumption,o⟩,ee⟩}))}};{have a9:¬(kn:Int)<17:=G;have a2:kn=17:=G;subst a2;go_wp2;go_ret;exact⟨⟨_,af,F⟩,o⟩})
def HL(b:List D)(c:ap)(a:Nat):D:=(c,(b[a]?.getD D.zero).aP,(b[a]?.getD D.zero).type,(b[a]?.getD D.zero).data)
def abW{a b}(c:b∈nj j C i a):b<a:=by unfold nj at c;grind
def TW(d e g):∀c,∀b∈mD d e g c,b<E d
 | 0,b,a=>by simp[mD]at a
 | c+1,b,a=>by rw[mD,lc]at a;rcases a with a|a;{exact TW d e g c b a};{split at a;{cases a};{split at a;{cases a};{exact abW a}}}
def gN(d:List D)(c:ap)(b:Int):List D:=d.filter λa=>a.owner==c&&a.type==b
def hM(b:List D)(a:ap)(c:Int):List D:=if c=255 then(List.range 17).flatMap λd:Nat=>gN b a (d:Int)else gN b a c
def q8(b:List D):Prop:=∀a∈b,1<=a.type/\a.type<=16/\(80:UInt8) ∉ a.owner
def T3{α:Type}(d)(k:nX d)(a c):∀(b:List α),il d b->(∀e∈b,a e=aE->a c=aE->d c e=ao)->ed a (eE d b [c])=ed a b++[c].filter a
 | [],_,_=>by simp
 | e::b,o,i=>by rw[G3];have j:=vB.1 o;split;{rename_i t;rw[G2];by_cases p:a c=aE;{have r:ed a (e::b)=[]:=by{rw[sj];intro h g n;have l:=i h g n p;rcases gC.1 g with rfl|q;{grind};{have:=k.2 _ _ _ l<|j.1 h q;grind}};grind};grind};{have u:=T3 d k a c b j.2 λh g=>i h<|nU _ g;grind}
def ab2{α:Type}{b}(i:nX b)(p:∀e,b e e=ao){c}(l:∀g e,c g=aE->c e=aE->b e g=ao){a:List α}:ed c (kT b a)=ed c a:=by
 have:∀(d:Nat) (a:List α),E a=d->ed c (kT b a)=ed c a:=by{
 intro d;induction d with
 | zero=>intro a h;obtain rfl:a=[]:=iM h;rfl
 | succ d o =>{
 intro a h;have n:a≠[]:=by grind
 have k:=KT n;have j:E a.dropLast=d:=by grind
 rw[<- k,Aj,T3 b i c _ _ (EJ b i p _) λg _=>l g _,o _ j,tG]}};grind
def L1{e}:gN (cq j) e i=gN j e i:=by rw[gN,Hd];refine ab2 ws B3 λh d b c=>?_;simp only[fx,jy]at b c;rw[<- vU];intro g;rcases(Am d h).1 g with a|⟨_,a⟩;{rw[b.1,c.1,Hc]at a;cases a};omega
def L2{d}:ed (λa=>a.type==i) (j.filter λa=>a.owner==d)=gN j d i:=by rw[gN,List.filter_filter];grind
def ab3(c:il cZ j){b}:il cZ (ed b j):=DN b c
section
variable {F:List D} (hF:il cZ F) (hn : ∀ a∈F,∀ b∈F,a.owner=b.owner)
include hF
theorem Iu{a}(d:a∈dw dj F):(∀b∈a.2,b.type=nK a)/\a.2≠[]/\(∀b∈a.2,b∈F):=by have⟨b,hr,hh,e⟩:=(Aq hF).1 a d;have g:nK a=b.type:=by{grind[nK]};refine⟨λs c=>?_,?_,λs c=>?_⟩;{rw[e]at c;have:=(lR<|(ur b s).1 (jo.1 c).2).2;omega};{grind};grind
theorem Iv(c):mi c F=if c=255 then F else ed (λa=>a.type==c) F:=by
 have g:=DX dj (E F) 0 F bv;unfold mi oZ;split;{rename_i h;rw[yp.2 (λb _=>by unfold me;simp[h])];exact g};{
 rename_i h;have p:∀(d:List<|Nat×List D),(∀b∈d,∀a∈b.2,a.type=nK b)->fA (·.2) (ed (me c) d)=ed (λa=>a.type==c) (fA (·.2) d):=by{
 intro d;induction d with
 | nil=>simp
 | cons b d o =>{intro i;have n:=o λq l=>i q<|nU _ l;have j:=i b aA;rw[l5,tG,<- n];by_cases e:me c b=aE;{rw[zK e,l5];congr 1;symm;rw[yp];intro a k;unfold me at e;grind};{rw[BS fN];have:ed (λa=>a.type==c) b.2=[]:=by{rw[sj];intro a k r;refine e ?_;grind[me]};grind}}};rw[p _ λb j=>(Iu hF j).1];exact fE _ g}
theorem ab6(b):wM b F = !(mi b F).isEmpty:=by
 have e:∀(a:List<|Nat×List D),(∀c∈a,c.2≠[])->a.any (me b) = !(fA (·.2)<|ed (me b) a).isEmpty:=by{
 intro a;induction a with
 | nil=>simp
 | cons c a i =>{intro g;rw[List.any_cons];by_cases h:me b c=aE;{simp_all};grind}};exact e _ λc d=>(Iu hF d).2.1
include hn in
theorem T4(c):jb F c=ed (λa=>a.type==c) F:=by
 unfold jb;cases i:(dw dj F).find? (λb=>nK b==c)with
 | some b =>{
 have h:=Ed i;have:nK b=c:=by grind
 have⟨a,d,hh,e⟩:=(Aq hF).1 b h;have g:a∈b.2:=by grind
 have j:=(Iu hF h).1 a g;show b.2=_;rw[e];refine List.filter_congr λn l=>?_;rw[sd,ur,jy,Ge];grind}
 | none =>{
 show []=_;symm;rw[sj];intro a d k;have⟨b,hx,e⟩:=(Aq hF).2 a d;have g:=e▸jo.2 ⟨d,(ur a a).2 af⟩
 have j:=(Iu hF hx).1 a g;grind}
include hn in
theorem ab7(m:Nat):ed (λc=>dQ<|c.type<(m:Int)) F++ed (λc=>c.type==(m:Int)) F=ed (λc=>dQ<|c.type<((m+1:Nat):Int)) F:=by
 have:∀(F:List D),il cZ F->(∀a∈F,∀b∈F,a.owner=b.owner)->ed (λc=>dQ<|c.type<(m:Int)) F++ed (λc=>c.type==(m:Int)) F=ed (λc=>dQ<|c.type<((m+1:Nat):Int)) F:=by{
 intro F;induction F with
 | nil=>simp
 | cons a F j =>{
 intro hF hn;have g:=vB.1 hF;have i:=j g.2 λk h d e=>hn k (nU _ h) d<|nU _ e;by_cases l:a.type<(m:Int);{rw[zK<|by grind,BS<|by grind,zK<|by grind,g_,i]};{
 rw[BS<|by grind];have:ed (λc=>dQ<|c.type<(m:Int)) F=[]:=by{
 rw[sj];intro d e n;have:d.type<(m:Int):=by grind
 have:=(Hf<|g.1 d e).2<|hn d (nU _ e) a aA;omega};grind}}};grind
include hn in
theorem ab9(m)(d:∀a∈F,0<=a.type):fA (λc:Nat=>ed (λa=>a.type==(c:Int)) F) (List.range m)=ed (λa=>dQ<|a.type<(m:Int)) F:=by
 induction m with
 | zero =>{simp_all}
 | succ m b =>{rw[BV,rR,b,<- ab7 hF hn m];simp}
end
def x7{a}:dF (cq j) a=ed (λc=>c.owner==a) (cq j):=Uk (An j) a
def Ev(d c):∀a∈dF (cq d) c,∀b∈dF (cq d) c,a.owner=b.owner:=λa e b g=>by
 rw[x7]at e g
 grind
def Au(a b):il cZ (dF (cq a) b):=x7▸ab3 (An a)
def CP(b a c):jb (dF (cq b) a) c=gN b a c:=by rw[T4 (Au b a)<|Ev b a,x7,L2,L1]
def Ew{d a}(c:a∈dF (cq j) d):a∈j/\a.owner=d:=by rw[x7]at c;have:=jo.1 c;exact⟨(wt j).mem_iff.1 this.1,by grind⟩
def L3(b g)(e:q8 j):mi g (dF (cq j) b)=hM j b g:=by rw[Iv<|Au j b];unfold hM;split;{have:=ab9 (Au j b) (Ev j b) 17 λd c=>cj<|(e d (Ew c).1).1;rw[yp.2 (λd c=>by have:=(e d (Ew c).1).2;grind)]at this;rw[<- this];congr 1;funext k;rw[x7,L2,L1]};{rw[x7,L2,L1]}
def T5(e:il cZ j)(k:∀b∈j,∀c∈j,b.owner=c.owner)(m):il cZ (b9 (h6 m) j):=by rw[il,List.pairwise_map];refine List.Pairwise.imp_of_mem (λ{b c} g i h=>?_) e;rw[<- vU];intro a;rcases(Am _ _).1 a with d|⟨_,d⟩;{rw[show(h6 m c).owner=m from af,show(h6 m b).owner=m from af,Hc]at d;cases d};{exact(Hf h).2 (k c i b g) d}
def ab_(b:il cZ j)(g:∀d∈j,∀e∈j,d.owner=e.owner)(m c):mi c (b9 (h6 m) j)=b9 (h6 m) (mi c j):=by rw[Iv<|T5 b g m,Iv b];split;{rfl};{rw[List.filter_map];rfl}
def L4(a m c)(d:q8 j):mi c (b9 (h6 m)<|dF (cq j) a)=b9 (h6 m) (hM j a c):=by rw[ab_ (Au j a)<|Ev j a,L3 a c d]
def aca{c}(g:q8 j):b9 (λe=>j[e]?.getD D.zero) (nj j (cJ c) i<|E j)=gN j c i:=by
 have:∀b,b<=E j->b9 (λe=>j[e]?.getD D.zero) (nj j (cJ c) i b)=gN (amA b j) c i:=by{
 intro b;induction b with
 | zero=>intro _;rfl
 | succ b h =>{intro aN;rw[TT,kq,h G,iH G];unfold gN;rw[tG];congr 1;have d:CM j (cJ c) i b=(j[b].owner==c&&j[b].type==i):=by{rw[CM,gw G];show(dQ (I 46 j[b].owner=cJ c)&&_)=_;congr 1;rw[sd,Gf,jy];exact dZ (g _<|eP _).2.2};grind}};grind
def T6(c:q8 j)(e)(a:i<1\/16<i):gN j e i=[]:=by rw[gN,sj];intro g d h;have:=c g d;grind
def abt(c a)(e:q8 j):b9 (λh=>j[h]?.getD D.zero) (mD j (cJ c) a 17)=hM j c a:=by
 have k:∀m,b9 (λh=>j[h]?.getD D.zero) (mD j (cJ c) a m)=(List.range m).flatMap λd:Nat=>if a≠255/\a≠(d:Int)then []else gN j c (d:Int):=by{
 intro m;induction m with
 | zero=>rfl
 | succ m g =>{rw[mD,kq,g,BV,rR];congr 1;simp only[l5,D_,mw];split;{rfl};{split;{rename_i i;subst i;rw[T6 e c<|bG G];rfl};{exact aca e}}}}
 rw[k];unfold hM;split;{simp_all};{
 rename_i i;have b:∀m:Nat,((List.range m).flatMap λd:Nat=>if a≠255/\a≠(d:Int)then []else gN j c (d:Int))=if 0<=a/\a<(m:Int)then gN j c a else []:=by{
 intro m;induction m with
 | zero=>grind
 | succ m g =>{rw[BV,rR,g];simp only[l5,D_,mw];grind}}
 rw[b];split;{rfl};{rename_i l;exact(T6 e c G).symm}}
def abu{m}{a:List Nat}:b9 (HL j m) a=b9 (h6 m) (b9 (λc=>j[c]?.getD D.zero) a):=by rw[nu];rfl
def abv(b m c)(d:q8 j):b9 (HL j m) (mD j (cJ b) c 17)=b9 (h6 m) (hM j b c):=by rw[abu,abt b c d]
def T7{a}:b9 (h6 a) (hM j a i)=hM j a i:=by
 have:∀c,b9 (h6 a) (gN j a c)=gN j a c:=λc=>by{
 conv=>rhs;rw[<- zM (gN j a c)]
 refine pt λg e=>?_;have:=(jo.1 e).2;simp only[fx,jy]at this;rw[h6,<- this.1];rfl};unfold hM;split;{rw[List.map_flatMap];grind};grind
def L5(h i)(c:q8 j):kl j (cJ h) i = !(hM j h i).isEmpty:=by
 rw[sd];have e:∀(d:List D),(!d.isEmpty)=aE ↔ ∃a,a∈d:=λd=>by cases d<;>simp
 rw[e];rw[kl,hM,gN,pr];constructor;{rintro⟨a,b,g⟩;rw[fx,Gf,vY]at g;have n:=(dZ (c a b).2.2).1 g.1;refine⟨a,?_⟩;split;{rw[xV];have:=c a b;refine⟨c7 a.type,by grind,jo.2 ⟨b,?_⟩⟩;grind};grind};{rintro⟨a,b⟩;split at b;{rename_i l;have⟨k,_,hk⟩:=xV.1 b;have:=jo.1 hk;simp only[fx,jy]at this;exact⟨a,this.1,by simp[l,(dZ (c a this.1).2.2).2 this.2.1]⟩};{have:=jo.1 b;simp only[fx,jy]at this;exact⟨a,this.1,by simp[(dZ (c a this.1).2.2).2 this.2.1,this.2.2]⟩}}
def h9(a:ap):Prop:=∀b∈I 46 a,b≠[]
def i7(b:ap)(a:Nat):ap:=yd<|bh a<|I 46 b
def tu(c:List D)(b:List ap):Nat->Option Nat
 | 0=>ai
 | a+1=>if kl c (bh a b) 2 then ag a else tu c b a
def T8:∀(c:Nat) (a:ap),c<E (I 46 a)->∃m,I 46 m=bh c (I 46 a)
 | 0,a,_=>⟨a,af⟩
 | c+1,a,b=>by rcases pe 46 a with⟨_,d⟩|⟨h,e,_,_,d⟩;{rw[d]at b;simp at b};{rw[d]at b ⊢;obtain⟨m,g⟩:=T8 c e (by simpa using b);exact⟨m,by rw[g];rfl⟩}
def T9{b:ap}{a:Nat}(c:a<E (I 46 b)):I 46 (i7 b a)=bh a (I 46 b):=by have⟨m,hm⟩:=T8 a b c;rw[i7,<- hm,GY]
def Iw{n:ap}{i:Nat}(a:i<E (I 46 n)):cJ (i7 n i)=bh i (cJ n):=by unfold cJ;rw[T9 a,Ea]
def T_{a:ap}:i7 a 0=a:=by rw[i7,sk,GY]
def L7{a:ap}(b:h9 a):a≠[]:=by rintro rfl;exact b [] bL af
def Ua:∀(f:Nat) (a:ap),E a<=f->h9 a->ei a=b9 (i7 a) (List.range<|E<|I 46 a)
 | 0,a,e,d=>absurd (iM G)<|L7 d
 | f+1,a,e,d=>by
  rw[qG<|L7 d];rcases pe 46 a with⟨g,c⟩|⟨p,b,h,g,c⟩;{rw[Ay g,rg,c];show _=[i7 a 0];rw[T_]};{
  have k:h9 b:=λo n=>d o (by rw[c];exact nU _ n);have l:E b<=f:=by rw[h]at e;simp at e;omega
  have j:jA a=b:=by rw[h];exact yC b g
  rw[j,Ua f b l k,c,ey,K4,nr,nu,T_];congr 1;refine pt λi _=>?_;show i7 b i=i7 a (i+1);unfold i7;rw[c];rfl}
def Ub{a:ap}(b:h9 a):ei a=b9 (i7 a) (List.range<|E<|I 46 a):=Ua _ a bv b
def abD{a:ap}(d:h9 a):ei (jA a)=b9 (λg=>i7 a<|g+1) (List.range<|E (I 46 a)-1):=by have b:=Ub d;rw[qG<|L7 d]at b;obtain⟨e,c⟩:∃e,E (I 46 a)=e+1:=⟨E (I 46 a)-1,cj<|yk a⟩;rw[c,K4,nr,nu]at b;rw[c];exact(D7 b).2
def L8{a b:ap}(c:fZ a b=aE):E (I 46 b)<=E (I 46 a)/\bh (E (I 46 a)-E (I 46 b)) (I 46 a)=I 46 b:=by rw[<- ED]at c;unfold ni at c;simpa using c
def abE{a b:ap}(c:fZ a b=aE):i7 a (E (I 46 a)-E (I 46 b))=b:=by rw[i7,(L8 c).2,GY]
def Ab(a:List D)(c:ap):Nat->List D
 | 0=>[]
 | b+1=>pv a (Ab a c b)<|i7 c b
def TE(b:List D)(c:ap):∀a,(b9 (i7 c)<|List.range a).foldl (pv b) []=Ab b c a
 | 0=>af
 | a+1=>by rw[BV,kq,zL,TE b c a];rfl
def abF{a b:ap}(c:List D)(j:h9 a)(d:fZ a b=aE):fV b c a=Ab c a (E (I 46 a)-E (I 46 b)):=by have:=(L8 d).1;have:=yk b;rw[fV,Ub j];have i:E (I 46 a)-E (I 46 b)<E (I 46 a):=G;rw[LR _ _ (E (I 46 a)-E (I 46 b)) b (by rw[vy,List.getElem?_range i];exact fE ag<|abE d) ?_ aA,<- K1,List.take_range,uI G,TE];rw[<- K1,List.take_range,uI G,uB];intro n h;obtain⟨k,aN,rfl⟩:=lZ.1 h;have:=GN.1 aN;have:i7 a k≠b:=λg=>by{have e:=fE (λl=>E<|I 46 l) g;rw[T9 G,js]at e;omega};simpa using this
def TF{a:ap}:hM j a 2=gN j a 2:=by rw[hM,bJ bL]
def TG(c:List D)(e:q8 c)(b:ap):∀a,a<=E (I 46 b)->(tu c (cJ b) a=ai/\Ab (cq c) b a=[])\/∃d,d<a/\tu c (cJ b) a=ag d/\Ab (cq c) b a=gN c (i7 b d) 2/\gN c (i7 b d) 2≠[]
 | 0,_=>bG ⟨af,af⟩
 | a+1,p=>by
  have o:=TG c e b a G;have n:kl c (bh a<|cJ b) 2 = !(gN c (i7 b a) 2).isEmpty:=by{rw[<- Iw G,L5 _ 2 e,TF]};have l:Ab (cq c) b (a+1)=if(gN c (i7 b a) 2).length=0 then Ab (cq c) b a else gN c (i7 b a) 2:=by{show pv _ _ _=_;unfold pv;rw[CP]}
  rw[l];unfold tu;rw[n];cases g:gN c (i7 b a) 2 with
  | nil =>{simp only[List.isEmpty_nil,Bool.not_true,GE,if_false,h8,pi];rcases o with h|⟨d,aN,i,j,k⟩;{exact bG h};{exact bE ⟨d,G,i,j,k⟩}}
  | cons r q =>{refine bE ⟨a,G,aA,?_,?_⟩;{rw[g];simp};{rw[g];simp}}
def Ix(e:q8 j){a c:ap}(g:h9 a)(h:fZ a c=aE):(tu j (cJ a) (E (cJ a)-E (I 46 c))=ai/\fV c (cq j) a=[]) \/
  ∃d,d<E (cJ a)-E (I 46 c)/\tu j (cJ a) (E (cJ a)-E (I 46 c))=ag d/\fV c (cq j) a=gN j (i7 a d) 2/\gN j (i7 a d) 2≠[]:=by rw[abF _ g h,uw];exact TG j e a _ G
def TH: ∀a,(∀b,b<a->kl j (bh b C) 2=ao)->tu j C a=ai
 | 0,_=>af
 | a+1,c=>by unfold tu;rw[c a G,bJ aA];exact TH a λb g=>c b G
def TI{b:Nat}(aN:kl j (bh b C) 2=aE):∀a,b<a->(∀c,b<c->c<a->kl j (bh c C) 2=ao)->tu j C a=ag b
 | 0,g,_=>absurd g G
 | a+1,g,h=>by unfold tu;by_cases i:b=a;{subst i;rw[aN,b7 af]};{rw[h a G G,bJ aA];exact TI aN a G λc d k=>h c d G}
def abG{c:ap}{v ay i:Nat}(k:CR c j C v ay i e):(e=bY/\tu j C (E C-E (I 46 c))=ai) \/
  ∃a,a+E (I 46 c)<E C/\tu j C (E C-E (I 46 c))=ag a/\e=bC v (ay+a) (E C-a) (i-a):=by rcases k with⟨d,b⟩|⟨a,d,b,l,n⟩;{exact .inl ⟨d,TH _ λg p=>b g G⟩};{exact bE ⟨a,d,TI b _ G λg o q=>l g o G,n⟩}
def L_(a:q8 j)(l:ap):lf (cq j) l=sA j (cJ l):=by rw[sd];rw[lf,sA,uL,zH,<- vU,List.isEmpty_iff,sj,pr];constructor;{intro n;refine BR λg=>n λi h d=>g ?_;have⟨c,b,_,e⟩:=(yi<|An j).1 i h;rw[yg b e]at d;exact⟨c,(wt j).mem_iff.1 b,by rw[L0 (a c<|(wt j).mem_iff.1 b).2.2];exact d⟩};{rintro⟨c,b,d⟩ g;have k:=(wt j).mem_iff.2 b;have⟨i,h,e⟩:=(yi<|An j).2 c k;refine g i h ?_;rw[yg k e,<- L0 (a c b).2.2];exact d}
def TJ(c:q8 j)(a:ap):dF (cq j) a=hM j a 255:=by rw[<- L3 a 255 c,Iv<|Au j a,b7 af]
def abJ(c:q8 j)(a:ap):kl j (cJ a) 255=dQ (0<E (dF (cq j) a)):=by rw[L5 a 255 c,TJ c];cases hM j a 255<;>simp
def TK(b:List D)(d:q8 b)(n:ap):∀(f a:Nat),a+f=E (I 46 n)->((b9 (λi=>i7 n<|a+i)<|List.range f).find? (lf<|cq b)=ai/\ry b (cJ n) a f=ai) \/
  ∃c,(b9 (λi=>i7 n<|a+i)<|List.range f).find? (lf<|cq b)=ag c/\ry b (cJ n) a f=if 0<E (dF (cq b) (42::46::c)) then ag (cJ (42::46::c))else ai
 | 0,a,_=>bG ⟨af,af⟩
 | f+1,a,l=>by
  have k:=TK b d n f (a+1) G;have j:=Iw (n:=n) (i:=a) G;rw[K4,nr,nu,KV,jn];unfold ry;rw[<- j,<- L_ d];by_cases e:lf (cq b) (i7 n a)=aE;{rw[e];refine bE ⟨i7 n a,af,?_⟩;rw[b7 af,<- ab1,abJ d];simp};{
  have g:lf (cq b) (i7 n a)=ao:=by simpa using e
  rw[g,bJ aA];have h:(λi=>i7 n<|a+i) ∘ Nat.succ=λi=>i7 n (a+1+i):=by{funext i;show i7 n (a+(i+1))=_;rw[show a+(i+1)=a+1+i by omega]};rw[h];exact k}
def abK{c:ap}(d:∀b∈j,b.owner=c):b9 (h6 c) j=j:=by
 conv=>rhs;rw[<- zM j]
 refine pt λb e=>?_;rw[h6,<- d b e];rfl
def Ma(h:q8 j){a:ap}(k:h9 a):(qo j (cJ a)=ai/\(er (cq j) a).2=ao) \/
  ∃s,qo j (cJ a)=ag (cJ s)/\(er (cq j) a).2=aE/\(er (cq j) a).1=b9 (h6 a) (dF (cq j) s):=by
 rw[qo,er,<- L_ h];by_cases d:lf (cq j) a=aE;{rw[b7 d,b7 d];exact bE ⟨a,af,af,bZ<|abK λn l=>(Ew l).2⟩};{
 rw[bJ d,bJ d,abD k,uw];have c:=TK j h a (E (I 46 a)-1) 1<|cj<|yk a;have b:(λe=>i7 a<|e+1)=λe=>i7 a (1+e):=by funext e;rw[Nat.add_comm]
 rw[b];rcases c with⟨c,g⟩|⟨i,c,g⟩;{rw[c,g];exact bG ⟨af,af⟩};{rw[c,g];by_cases hl:0<E (dF (cq j) (42::46::i));{rw[b7 hl];exact bE ⟨_,af,Ii,af⟩};{rw[bJ hl];exact bG ⟨af,Ii⟩}}}
structure CV(r:D):Prop where
 Al:kr r.owner=true
 aP:r.aP<=86400
 dat:eG r.type (I 32 r.data)=true
 len:r.data.length<=3000
structure jJ(o:ap)(rs:List D):Prop where
 org:fI o=true
 recs:∀r∈rs,CV r
 Zn:na o rs=true
 aCY:mC o (cq rs)=true
def TL:∀(d:ap) (b:Nat),n6 b d=Lib.decFrom b d
 | [],b=>af
 | a::g,b=>by
  unfold n6 Lib.decFrom Lib.digitVal;by_cases e:48<=be a/\be a<=57;{
  have c:rN (be a)=aE:=by unfold rN;grind
  rw[b7 c,b7 e,TL g,zR]};{
  have c:¬rN (be a)=aE:=by unfold rN;grind
  grind}
def TM{s}(c:fY 86400 s=aE):E s<=10/\Lib.atoi s=ag (kZ 86400 s:Int)/\kZ 86400 s<=86400:=by
 have l:=c;rw[Hl 86400 G]at c;cases b:rL s with
 | none=>grind
 | some v =>{
 rw[b]at c;have e:v<=86400:=by grind
 rw[Lx 86400 G s v b e];unfold rL at b;split at b;{
 rename_i i;refine⟨i.2.1,?_,e⟩;cases s with
 | nil=>grind
 | cons a g =>{
 have d:rN (be a)=aE:=by{refine BR λd=>?_;unfold n6 at b;grind};have n:48<=be a/\be a<=57:=by unfold rN at d;grind
 have j:(a==45)=ao:=by rw[kE];rintro rfl;grind
 have k:(a==43)=ao:=by rw[kE];rintro rfl;grind
 have h:Lib.atoi (a::g)=(Lib.decNat (a::g)).map (λm:Nat=>(m:Int)):=by{grind[Lib.atoi]};rw[h];rw[Lib.decNat,bJ aA,<- TL,b];rfl}};grind}
def LS{b}{a:Nat}:(O b).1[a]! = b[a]?.getD default:=by show (dl b)[a]! = _;simp
def abO{b}(g:(32:UInt8) ∉ b):jm (Q++32::b)=b:=by
 have:Lib.lastIndexByte (O (Q++32::b)) 32=(E Q:Int):=by{
 unfold Lib.lastIndexByte;have k:cf (O (Q++32::b))=E Q+1+E b:=by rw[de];grind
 have j:(be ((O (Q++32::b)).1[E Q]!):Int)=32:=by rw[LS];simp
 rcases Lib.lastIdx_spec (O (Q++32::b)) 32 (cf<|O (Q++32::b)) with⟨_,d⟩|⟨c,h,d,e,i⟩;{grind};{rw[d];rcases Nat.lt_trichotomy c (E Q) with aN|aN|aN;{grind};{rw[aN]};{exfalso;rw[LS,uC G,show c-E Q=(c-E Q-1)+1 by omega,List.getElem?_cons_succ,gw G]at e;have:b[c-E Q-1]' G∈b:=eP _;have:b[c-E Q-1]' G=32:=by{apply zT.1;grind};grind}}};unfold jm;simp_all
def abj{a}(g:(32:UInt8) ∉ a):jm a=a:=by have e:Lib.lastIndexByte (O a) 32 = -1:=by{rcases Lib.lastIdx_spec (O a) 32 (cf<|O a) with⟨b,_⟩|⟨c,b,h,d,i⟩;{exact b};{exfalso;rw[de]at b;rw[LS,gw b]at d;have:a[c]∈a:=eP _;have:a[c]=32:=by{apply zT.1;grind};grind}};unfold jm;simp_all
theorem Uc(a):∀(f:Nat) (s:ap),E s<=f->∀c∈I a s,a ∉ c
 | f,s,j,c,b=>by
  rcases pe a s with⟨g,e⟩|⟨h,d,i,g,e⟩;{grind};{
  rw[e]at b;rcases gC.1 b with rfl|b;{exact g};{
  have k:E d<f:=by grind
  exact Uc a (f-1) d G c b}}
termination_by f=>f
decreasing_by omega
def LT{a}(ch){c}(e:I 32 a=ch++[c]):jm a=c:=by
 have d:=Uc 32 (E a) a bv c (by grind);have b:=ye 32 a;rw[e]at b;cases ch with
 | nil=>rw[<- b];exact abj d
 | cons h g =>{rw[Mc 32 c (h::g) aA]at b;rw[<- b];exact abO d}
def x9{ch}(b:eG i ch=aE):i=1\/i=2\/i=5\/i=6\/i=15\/i=16:=by unfold eG at b;grind
def abk{ch}(e:eG 6 ch=aE):∃b c d a,ch=[b,c,d,a]/\fY 86400 a=aE:=by unfold eG at e;grind
def Uy{ch}(d:i=2\/i=5)(c:eG i ch=aE):∃b,ch=[b]/\fI b=aE:=by unfold eG at c;grind
def abl{ch}(c:eG 15 ch=aE):∃b a,ch=[b,a]/\fI a=aE:=by unfold eG at c;grind
def vf{a b}(c:I 32 a=[b]):a=b:=by have:=ye 32 a;rw[c]at this;exact bZ this
def abm{d}(i:CV d)(c:d.type=2\/d.type=15):∃ch h,I 32 d.data=ch++[h]/\jm d.data=h/\fI h=aE:=by have g:=i.3;rcases c with c|c;{rw[c]at g;have⟨a,e,hp⟩:=Uy (bG af) g;exact⟨[],a,e,LT [] e,hp⟩};{rw[c]at g;have⟨a,b,e,hp⟩:=abl g;exact⟨[a],b,e,LT [a] e,hp⟩}
def UA{d}(a:(je H d).isSome=aE):h9 d/\E d<=60:=by
 unfold je at a;split at a;{
 rename_i i;refine⟨λe c=>?_,i.1⟩;have l:∀(b:List ap) (g:Nat),mm H g b=aE->∀e∈b,e≠[]:=by{
 intro b;induction b with
 | nil=>simp
 | cons j b k =>{intro g a e c;rw[mm,fx]at a;rcases gC.1 c with rfl|c;{rintro rfl;have:=a.1;unfold tB lL at this;grind};grind}};grind};grind
def UD{star c}(a:(je star c).isSome=aE):(80:UInt8) ∉ c:=by
 intro i;unfold je at a;split at a;{
 rename_i n;have p:∀(b:List ap) (e:Nat),mm star e b=aE->∀g∈b,(80:UInt8) ∉ g:=by{
 intro b;induction b with
 | nil=>simp
 | cons j b o =>{intro e a g d;rw[mm,fx]at a;rcases gC.1 d with rfl|d;{intro h;have:=a.1;rw[tB,vY]at this;rcases this with this|this;{rw[lL,fx,uB]at this;exact absurd (this.2 80 h) bL};grind};grind}};rcases LZ _ c 80 bv i with a|⟨b,k,l⟩;{grind};grind};grind
def Iz{a}(b:fI a=aE):(80:UInt8) ∉ a:=UD (star:=ao) (by rw[vT];exact b)
def IC{a}(b:kr a=aE):(80:UInt8) ∉ a:=UD (star:=aE) (by rw[EA];exact b)
def jp{a}(b:fI a=aE):h9 a/\E a<=60:=UA (by rw[vT];exact b)
def x_{a}(b:kr a=aE):h9 a/\E a<=60:=UA (by rw[EA];exact b)
theorem Kb{P:Prop}(h:P:=by have:=hz.3;unfold na at this;grind):P:=h
section
variable {o:ap} {rs:List D} (hz:jJ o rs)
include hz
theorem rz:q8 rs:=λb a=>by have:=x9 (hz.2 b a).3;exact⟨G,G,IC (hz.2 b a).1⟩
theorem ID:wZ o rs:=by refine⟨cj<|(jp hz.1).2,?_,λb a=>cj<|(x_ (hz.2 b a).1).2⟩;exact Kb
theorem Ad:E rs<=60:=by exact Kb
theorem tp:0<E rs:=by exact Kb
theorem UE{b}:E (gN rs b i)<=60:=cU (vA _ _)<|Ad hz
theorem abn:gN rs o 6=[rs[0]'(tp hz)]/\(rs[0]'(tp hz)).type=6/\(rs[0]'(tp hz)).owner=o:=by
 have a:=hz.3;unfold na at a;cases rs with
 | nil=>grind
 | cons c j =>{simp only[fx,sq,jy,zH]at a;obtain⟨_,⟨d,e⟩,b⟩:=a;refine⟨?_,e,d⟩;rw[gN,zK<|by grind];show c::_=[c];congr 1;rw[sj];intro i h g;simp only[fx,jy]at g;rw[<- vU]at b;exact b<|pr.2 ⟨i,h,by unfold mU;grind⟩}
theorem IE:∃c d g a,I 32 (rs[0]'(tp hz)).data=[c,d,g,a]/\fY 86400 a=aE/\E a<=1000000/\lr o (cq rs)=[CT (rs[0]'(tp hz)) a]/\(∀b∈jb (dF (cq rs) o) 6,Az b/\E b.data<=3000/\b.aP<=1000000000):=by
 have⟨h1,h2,h3⟩:=abn hz;have h:=hz.2 _<|eP<|tp hz;have i:=h.3;rw[h2]at i;have⟨c,d,g,a,e,hn⟩:=abk i;have:=TM hn;have:=LT [c,d,g] e;refine⟨c,d,g,a,e,hn,G,?_,?_⟩;{rw[lr,CP,h1];show [uM _]=_;grind[uM,Ll,CT]};{
 rw[CP,h1];intro b j;have:b=rs[0]'(tp hz):=by grind
 subst this;refine⟨⟨by grind,kZ 86400 a,by grind,G⟩,h.4,cj h.2⟩}
theorem abo{s a}(b:a∈dF (cq rs) s)(q:a.type=5):dF (cq rs) s=[a]:=by
 have k:=λa b=>(hz.2 a<|(wt rs).mem_iff.1 b).1;have i:=(TQ (An rs) o).1 hz.4;have⟨jY,hb⟩:=TR (An rs) k o i;rw[x7]at b ⊢;have d:∀c∈ed (λa=>a.owner==s) (cq rs),c=a:=λc l=>by{refine BR λh=>?_;have n:=jo.1 l;have j:=jo.1 b;have:=(hb c n.1 a j.1 h).2.1 (by grind);omega};have e:(ed (λa=>a.owner==s)<|cq rs).Nodup:=DN _ jY;generalize ed (λa=>a.owner==s) (cq rs)=g at *;match g,b,d,e with
 | [],b,_,_=>cases b
 | [c],_,d,_=>grind
 | c::p::r,_,d,e =>{have:=d c aA;have:=d p aA;grind}
theorem LU(s b):kl rs (cJ s) 5=qS (b9 (h6 b)<|dF (cq rs) s)/\(kl rs (cJ s) 5=aE->∃a,a.type=5/\a∈rs/\dF (cq rs) s=[a]/\hM rs s 5=[a]):=by
 have k:hM rs s 5=gN rs s 5:=dS;rw[L5 s 5<|rz hz,k];have d:=CP rs s 5;rw[T4 (Au rs s)<|Ev rs s]at d;cases i:gN rs s 5 with
 | nil =>{
 refine⟨?_,λn=>by grind⟩;rw[i,sj]at d;cases o:dF (cq rs) s with
 | nil=>rfl
 | cons c e =>{have:=d c (by grind);show ao=(E (List.map (h6 b) (c::e))==1&&(h6 b c).type==5);have:((h6 b c).type==5)=ao:=by{show(c.type==5)=ao;grind};grind}}
 | cons a e =>{
 rw[i]at d;have l:a∈ed (λa=>a.type==5) (dF (cq rs) s):=by grind
 have⟨m1,m2⟩:=jo.1 l;have g:a.type=5:=by grind
 have h:=abo hz m1 g;have j:a::e=[a]:=by grind
 refine⟨?_,λ_=>⟨a,g,(Ew m1).1,h,j⟩⟩;rw[h];show aE=((1:Nat)==1&&(h6 b a).type==5);have:((h6 b a).type==5)=aE:=fN
 grind}
end
def jB(d:aQ)(e:Nat->Prop)(v:bm)(b:List ap):Prop:=∃a ay c,v=bC a ay (E b) c/\E b<=c/\iy d a ay b/\¬e a
def tX(a:bm×bm×D):List bm:=[a.1,J a.2.2.aP,J a.2.2.type,aZ a.2.2.data,a.2.1]
def fS(e:Nat->Prop)(d:aQ)(g:Nat)(v:bm)(h:List D):Prop :=
 ∃b:List<|bm×bm×D,b9 (·.2.2) b=h/\d.ownsRow g 119 5 v (E b) (fA tX b) /\
  ∀c∈b,jB d (λa=>e a\/ag a=bW v) c.1 (cJ c.2.2.owner)/\jB d (λa=>e a\/ag a=bW v) c.2.1 (I 32 c.2.2.data)
def abq(a:aQ)(h:Nat->Prop)(b c:Nat)(d:D):Prop:=∃g e,aD a (M b c)=ag g/\aD a (M b<|c+1)=ag (J d.aP)/\aD a (M b<|c+2)=ag (J d.type)/\aD a (M b<|c+3)=ag (aZ d.data)/\aD a (M b<|c+4)=ag e/\jB a h g (cJ d.owner)/\jB a h e (I 32 d.data)
def gz(h:aQ)(b:Nat)(c:Int)(a:Bool)(d g e:bm):Prop:=h.1[b]? = ag (aS #[ak am c,aG a,d,g,e] 123)
section
theorem FP{P:Prop}(h:P:=by unfold gz at *;exact H1):P:=h
section
variable {w w':World} {ab:Nat} {rc:Int} {aa:Bool} {va vu vd:Value} (h:gz w ab rc aa va vu vd)
include h
theorem gz.lt:ab<U w.1:=(ea.1 h).1
theorem gz.cells:aD w (M ab 0)=ag (J rc)/\aD w (M ab 1)=ag (aG aa)/\aD w (M ab 2)=ag va/\aD w (M ab 3)=ag vu/\aD w (M ab 4)=ag vd:=by unfold gz at h;exact J7
theorem gz.frozen(a):io w (M ab a)=ao:=by unfold gz at h;exact tb
theorem gz.kept(a:w'.1[ab]? = w.1[ab]?):gz w' ab rc aa va vu vd:=c_ a h
theorem gz.set0(a):gz (a_ w ⟨ab,0,ai⟩<|ak am a) ab a aa va vu vd:=by exact FP
theorem gz.set1(a):gz (a_ w ⟨ab,1,ai⟩<|aG a) ab rc a va vu vd:=by exact FP
theorem gz.set2(a):gz (a_ w ⟨ab,2,ai⟩ a) ab rc aa a vu vd:=by exact FP
theorem gz.lM(a):gz (a_ w ⟨ab,3,ai⟩ a) ab rc aa va a vd:=by exact FP
theorem gz.o6(a):gz (a_ w ⟨ab,4,ai⟩ a) ab rc aa va vu a:=by exact FP
end
def iy.fr{p B b ay}(c:iy f b ay C)(e:cL p f B)(j:p b):iy B b ay C :=
 ⟨e8 c.1 e.4,λg i=>(ev (a:=⟨b,ay+g,ai⟩) (e.5 b c.1 j)).trans (c.2 g i)⟩
def jB.nm(a:jB f B e C):gG f e C:=by obtain⟨d,ay,c,g,h,i,_⟩:=a;exact⟨d,ay,c,g,h,i⟩
def jB.fr{p B}(i:jB f Z e C)(n:cL p f B)(o:∀g,¬Z g->p g):jB B Z e C:=by obtain⟨c,ay,h,j,k,l,d⟩:=i;exact⟨c,ay,h,j,k,l.fr n<|o c d,d⟩
def jB.imp{y}(i:jB f B e C)(n:∀b,b<U f.1->¬B b->¬y b):jB f y e C:=by obtain⟨c,ay,h,j,k,d,l⟩:=i;exact⟨c,ay,h,j,k,d,n c d.1 l⟩
def fS.nil(d b a):fS d b a (bY) []:=⟨[],af,jO b a _ 5,λe c=>by cases c⟩
theorem Qo{P:Prop}(h:P:=by rcases h1.2 with⟨rfl,h0⟩|⟨g,cap,_,rfl,_⟩;{grind};simp):P:=h
section
variable {x:Nat->Prop} {w:World} {base:Nat} {v:Value} {l:List D} (h:fS x w base v l)
include h
theorem fS.slice:∃a b,v=aL a (E l) b:=by obtain⟨c,rfl,h1,_⟩:=h;rw[fC];exact Qo
theorem fS.lt:∀a,bW v=ag a->base<=a/\a<U w.1:=by obtain⟨c,_,b,_⟩:=h;exact kX b
theorem fS.fr{p}(c:cL p w f)(r:∀a,a<U w.1->¬x a->ag a≠bW v->p a)(C:∀a,bW v=ag a->p a):fS x f base v l:=by obtain⟨D,A,n,o⟩:=h;have q:cL (λa=>a<U w.1->p a) w f:=⟨c.1,c.2,c.3,c.4,λa b d=>c.5 a b<|d b⟩;refine⟨D,A,⟨n.1,?_⟩,λu t=>⟨(o u t).1.fr q λa b d=>r a d (λi=>b<|bG i) λg=>b<|bE g,(o u t).2.fr q λa b d=>r a d (λi=>b<|bG i) λg=>b<|bE g⟩⟩;rcases n.2 with F|⟨e,y,z,rfl,B,k,rest⟩;{grind};{exact bE ⟨e,y,z,af,B,(c.5 e (ea.1 k).1<|C e af).trans k,rest⟩}
theorem fS.below(b:a7 w f):fS x f base v l:=h.fr (p:=λ_=>True) (cL.zY b) (λ_ _ _ _=>cE) λ_ _=>cE
theorem fS.set{a}(c)(j:x a.1)(i:a.1<base):fS x (a_ w a c) base v l :=
 h.fr (p:=λb=>b≠a.1) (cL.j9 c λ_ h=>h) (λb _ e _ d=>e<|by grind) (λb g d=>by have:=(h.lt b g).1;omega)
theorem fS.imp{y}(o:∀a,a<U w.1->¬x a->ag a≠bW v->¬y a):fS y w base v l:=by obtain⟨i,e,g,b⟩:=h;have aN:∀a,a<U w.1->¬(x a\/ag a=bW v)->¬(y a\/ag a=bW v):=λa k n j=>by{grind};exact⟨i,e,g,λd c=>⟨(b d c).1.imp aN,(b d c).2.imp aN⟩⟩
theorem fS.TX:(v=bY/\l=[])\/∃c j,v=bC c 0 (E l) j/\base<=c/\E l<=j/\∀a (d:a<E l),abq w (λa=>x a\/ag a=bW v) c (a*5) l[a]:=by
 obtain⟨i,rfl,o,p⟩:=h;rcases o.2 with⟨r,k⟩|⟨c,j,z,r,q,y,A,_,B,t⟩;{grind};{
 refine bE ⟨c,j,by grind,q,by grind,λa d=>?_⟩;rw[fC]at d;have n:∀(e:List<|bm×bm×D) (a b:Nat) (d:a<E e),b<5->(fA tX e)[a*5+b]? = (tX e[a])[b]?:=by{
 intro e;induction e with
 | nil=>simp
 | cons u e C =>{intro a b d aN;have:E (tX u)=5:=af;grind}};have g:∀b,b<5->aD w (M c<|a*5+b)=(tX i[a])[b]?:=by{intro b aN;rw[<- n i a b d aN,<- t,uD G];grind[aD]};have k:=p i[a]<|eP d;rw[rS];exact⟨i[a].1,i[a].2.1,g 0 G,g 1 G,g 2 G,g 3 G,g 4 G,k.1,k.2⟩}
theorem fS.recs(d:∀n∈l,(80:UInt8) ∉ n.owner):(v=bY/\l=[])\/∃a b,v=bC a 0 (E l) b/\base<=a/\E l<=b/\yj w a 0 l:=by rcases h.TX with h|⟨a,b,e,g,i,j⟩;{grind};{refine .inr ⟨a,b,e,g,i,λk c=>?_⟩;have⟨vo,fL,c0,bA,c2,c3,cD,n0,n1⟩:=j k c;rw[g8];exact⟨vo,fL,c0,bA,c2,c3,cD,(ux<|d _<|eP c)▸n0.nm,n1.nm⟩}
end
end
def abs{x h ay q v}{i:List Nat}(O:yj u h ay j)(o:a7 u f)(y:a7 f m)(M:∀c,c<U u.1->¬B c)(G:x<=U f.1)(C:∀a∈i,a<E j)(K:jB f B e<|cJ q)(A:m.ownsRow (U f.1) 119 5 v (E i)<|fA (xY f h ay e j) i):fS B m x v (b9 (HL j q) i):=by
 refine⟨i.map λa=>(e,Cc f h ay a,HL j q a),aA,?_,?_⟩;{rw[fC,List.flatMap_map];exact z_ A G};{
 intro Q N;obtain⟨a,J,rfl⟩:=lZ.1 N;have z:∀c,c<U f.1->ag c≠bW v:=λc P F=>cj<|(kX A c<|bZ F).1
 have:=o.4;refine⟨?_,?_⟩;{obtain⟨d,r,k,l,n,g,H⟩:=K;exact⟨d,r,k,l,n,g.below y,λp=>p.elim H<|z d g.1⟩};{
 have t:=C a J;have⟨vo,fL,q0,q1,q2,q3,q4,q5,q6⟩:=O a t;have:=(o.cell<|i8 _ _ q4).trans q4;have L:Cc f h ay a=fL:=by grind[Cc]
 show jB m _ (Cc f h ay a) (I 32 (j[a]?.getD D.zero).data);rw[L,gw t];obtain⟨d,r,k,l,n,g⟩:=q6;exact⟨d,r,k,l,n,(g.below o).below y,λp=>p.elim (M d g.1)<|z d<|cj g.1⟩}}
def DK{J n T I}(ae:fS B f n e j)(ah:fS J f T I y)(aP:∀a,a<U f.1->(B a\/ag a=bW e)->J a)(Z:n<=U f.1)(ac:E j+E y<=100000)(av:∀a,B a->a<U f.1):∃h k,(Builtin.append_ #[115,115] 115 #[e,I]).run aK f=.ok h k/\fS B k n h (j++y)/\f.grownBy k (bW e)/\(bW h=bW e\/bW h=ag (U f.1)):=by
 have⟨i0,aN,hz0,hz1,hz2⟩:=jN LY;obtain⟨t,rfl,u,L⟩:=ae;obtain⟨x,rfl,R,S⟩:=ah;have K:∀(g:List<|bm×bm×D),(∀b∈g,b.1.oneCell'=aE/\b.2.1.oneCell'=aE)->∀c∈fA tX g,c.oneCell'=aE:=by{intro g Q c i;have⟨b,d,i⟩:=xV.1 i;have:=Q b d;simp only[tX,gC,List.not_mem_nil,tf]at i;rcases i with rfl|rfl|rfl|rfl|rfl;{grind};{rfl};{rfl};{rfl};grind};have N:∀(g:List<|bm×bm×D),E (fA tX g)=E g*5:=by{
 intro g;induction g with
 | nil=>rfl
 | cons b g aj=>rw[l5,dE,aj,ey];show 5+_=_;omega};rw[fC,fC]at ac;rcases R.2 with⟨rfl,Y⟩|⟨F,W,ay,rfl,aF,aw,aB,aI,aM,al⟩;{have:x=[]:=iM Y;subst this;refine⟨e,f,run_append_owned_none (P:=aK) (w:=f) n 115 115 119 i0 5 HJ aN e _ _ u,?_,⟨af,af,af,cW _,λ_ _ _=>af⟩,bG af⟩;rw[u_,mw];exact⟨t,af,u,L⟩};{have au:∀r c,(fA tX x)[r]? = ag c->aD f (((M F 0):kC).add r)=ag c:=by{intro r c ab;rw[DR,g8];have ar:r<E x*5:=by{grind};rw[<- al,uD ar]at ab;grind[aD]};have O:∀b∈x,b.1.oneCell'=aE/\b.2.1.oneCell'=aE:=by{intro b d;have⟨⟨_,_,_,w,_⟩,⟨_,_,_,z,_⟩⟩:=S b d;rw[w,z];exact pf};have⟨h,k,h1,h2,h3,_,h5⟩:=run_append_own_at (P:=aK) f n 115 115 119 i0 _ 5 80 HJ aN hz0 hz1 hz2 af G e (E t) (fA tX t) u (M F 0) (E x) W (fA tX x) (N x) au (K x O) DB G Z;refine⟨h,k,h1,⟨t++x,aA,by grind,?_⟩,h3,h5⟩;have aa:=cL.Yg h3 λ_ X=>X;have ad:∀a,a<U f.1->ag a≠bW e->ag a≠bW h:=λa aH aJ az=>by{grind};have aC:∀(b:Nat->Prop) (c:bm) (A:List ap),(∀a,a<U f.1->B a\/ag a=bW e->b a)->jB f b c A->jB k (λa=>B a\/ag a=bW h) c A:=by{intro b c A d i;obtain⟨q,aq,V,w,z,p,C⟩:=i;have an:=λo=>C<|d q p.1<|bG o;have H:=λo=>C<|d q p.1<|bE o;exact⟨q,aq,V,w,z,p.fr aa H,λo=>o.elim an<|ad q p.1 H⟩};grind}
def CW{e}(a:jJ e j)(s d):E (hM j s d)<=60:=by by_cases c:d=255;{subst c;rw[<- TJ (rz a),x7];have:=(wt j).length_eq;exact cU (vA _ _)<|this▸Ad a};{rw[hM,bJ c];exact UE a}
def UF{d}(i:jJ d j){b}(h:b∈j)(g:b.type=5):I 32 b.data=[b.data]/\fI b.data=aE:=by have c:=(i.2 b h).3;rw[g]at c;have⟨a,e,hp⟩:=Uy (bE af) c;have:=vf e;grind
section
variable {zb:Nat} {o:ap} {rs:List D} {w0 W:World} (hz:nS w0 zb o rs) (aY:jJ o rs) (hb:a7 w0 W) {x:Nat->Prop} (hx : ∀ k,k<w0.heap.size->¬ x k) {base:Nat} (eC:base<=W.heap.size)
include hz aY hb hx eC
theorem LV{s m g}(a)(p:gG W e<|cJ s)(o:E (cJ s)<=1000)(h:jB W x g<|cJ m):bd aK 237 #[N zb,e,J a,g] W λc b=>(∃v,c=bg v/\fS x b base v (b9 (h6 m)<|hM rs s a))/\a7 W b:=by obtain⟨B,u,ay,y,i,C,t,j⟩:=hz;have r:=(hb.5 zb (ea.1 i).1).trans i;have k:=h;obtain⟨z,A,w,rfl,_⟩:=k;refine(abV r t (j.below hb) (ID aY) p o).mono ?_;rintro c b ⟨⟨v,rfl,n⟩,d⟩;refine⟨⟨v,af,?_⟩,d⟩;rw[<- abv s m a (rz aY)];exact abs j hb d hx eC (λq l=>TW rs _ a 17 q l) h n
theorem Rk:bd aK 239 #[N zb] W λe d=>(∃v,e=bg v/\fS x d base v (lr o<|cq rs))/\a7 W d:=by
 obtain⟨Q,J,ay,L,p,R,I,q⟩:=hz;have H:=(hb.5 zb (ea.1 p).1).trans p;have⟨a0,a1,a2,a3,h1,h2,h3,h4,_⟩:=IE aY;refine(abM o H I (q.below hb) (tp aY) h3 h2 h1).mono ?_;rintro e d ⟨⟨c,j,m6,rfl,P,B,K,cD⟩,b⟩;refine⟨⟨_,af,?_⟩,b⟩;rw[h4];have⟨Zt,Zu,q0,_,_,_,q4,q5,q6⟩:=q 0<|tp aY;rw[rW,jn]at q0 q4;have t:j=Zt:=by{have:=(hb.cell<|i8 _ _ q0).trans q0;grind};have y:m6=Zu:=by{have:=(hb.cell<|i8 _ _ q4).trans q4;grind};subst t y;have:=hb.4;refine⟨[(j,m6,CT (rs[0]'(tp aY)) a3)],af,⟨af,bE ⟨c,1,_,af,G,B,cW _,m9,af,af⟩⟩,?_⟩;intro F hy;obtain rfl:F=_:=Il
 have i:∀k,k<U w0.1->¬(x k\/ag k=bW (aL (ag<|M c 0) 1 1)):=λk O a=>by{
 rcases a with a|a;{grind};{
 have:k=c:=by simpa [bW]using a
 omega}};rw[<- ux (rz aY _<|eP<|tp aY).2.2]at q5;obtain⟨g,C,bA,u,z,l⟩:=q5;obtain⟨h,D,r,w,A,n⟩:=q6;exact⟨⟨g,C,bA,u,z,(l.below hb).below b,i g l.1⟩,⟨h,D,r,w,A,(n.below hb).below b,i h n.1⟩⟩
end
def mH(a:D):Bool:=a.type==2||a.type==15
def qp(d c:List D)(s:List ap×List D)(a:D):List ap×List D :=
 if mH a then(if s.1.contains (jm a.data)then s else(s.1++[jm a.data],if c.any (λb=>b.owner==jm a.data&&b.type==1)then s.2 else s.2++gN d (jm a.data) 1))else s
def lT(c a b:List D):List ap×List D:=b.foldl (qp c a) ([],[])
def vg(i:Nat->Prop)(g:aQ)(h:Nat)(v:bm)(b:List ap):Prop :=
 ∃e:List bm,g.ownsRow h 113 1 v (E b) e/\∀a (j:a<E b),∃d,e[a]? = ag d/\jB g (λc=>i c\/ag c=bW v) d (cJ b[a])
structure rA(X:Nat->Prop)(w wr:World)(ab:Nat)(rc:Int)(aa:Bool)(va vu vd vs:Value)(seen:List ap)(add:List D):Prop where
 an:gz wr ab rc aa va vu vd
 fr:cL (λk=>k≠ab) w wr
 sn:vg (λk=>X k\/some k=vd.ownBlock) wr w.heap.size vs seen
 ad:fS (λk=>X k\/some k=vs.ownBlock) wr w.heap.size vd add
 ne:∀k,vs.ownBlock=some k->vd.ownBlock≠some k
 lt:ab<w.heap.size
 Ql:X ab
 xl:∀k,X k->k<=ab
def acq:aK.underlying 328=ag (.slice 113):=b8
def acr:(aK.info? 113).map (λa=>(a.8,a.3,a.4))=ag (ag<|bY,1,24):=b8
def O3{v}{b:Oper}{a d l}(s j)(o:b.2=.call { callee:=.builtin .append,args:=#[s,j],argTypes:=#[z,z] }){k g}(q:a.eval s=e)(r:a.eval j=k)(p:(Builtin.append_ #[z,z] b.3 #[e,k]).run v f=.ok g m)(n:d (a.put b.1 g) m):b.wp v a f d l:=by simp only[Oper.wp,execOp,o,resolve,invoke,builtin,Sem.run_bind,DS,zI,Eb,nr,u_,q,r,p];exact n
section
variable {x:Nat->Prop} {w:World} {base:Nat} {v:Value} {l:List ap} (h:vg x w base v l)
include h
theorem vg.slice:∃a b,v=aL a (E l) b:=by obtain⟨c,h1,_⟩:=h;exact Qo
theorem vg.lt:∀a,bW v=ag a->base<=a/\a<U w.1:=by obtain⟨c,b,_⟩:=h;exact kX b
theorem vg.fr{p}(b:cL p w f)(A:∀a,a<U w.1->¬x a->ag a≠bW v->p a)(z:∀a,bW v=ag a->p a):vg x f base v l:=by obtain⟨D,j,o⟩:=h;have t:cL (λa=>a<U w.1->p a) w f:=⟨b.1,b.2,b.3,b.4,λa c e=>b.5 a c<|e c⟩;refine⟨D,⟨j.1,?_⟩,λC y=>?_⟩;{rcases j.2 with F|⟨d,k,n,rfl,q,i,rest⟩;{grind};{exact .inr ⟨d,k,n,rfl,q,(b.block d (ea.1 i).1<|z d rfl).trans i,rest⟩}};{have⟨u,h3,h4⟩:=o C y;exact⟨u,h3,h4.fr t λa c e=>A a e (λB=>c<|bG B) λr=>c<|bE r⟩}
theorem vg.imp{y}(n:∀a,a<U w.1->¬x a->ag a≠bW v->¬y a):vg y w base v l:=by obtain⟨g,b,c⟩:=h;refine⟨g,b,λe d=>?_⟩;have⟨u,h3,h4⟩:=c e d;refine⟨u,h3,h4.imp λa j k i=>?_⟩;grind
theorem vg.at{a}(j:a<E l):∃c b d,v=bC c 0 (E l) b/\E l<=b/\aD w (M c a)=ag d/\jB w (λa=>x a\/ag a=bW v) d (cJ l[a]):=by obtain⟨u,e,g⟩:=h;have⟨d,h3,h4⟩:=g a j;rcases e.2 with⟨_,q⟩|⟨c,b,p,k,r,o,i,_,t,n⟩;{omega};{refine⟨c,b,d,k,i,?_,h4⟩;rw[<- h3,<- n,uD G];grind[aD]}
theorem acs{s u}(I:jB w (λa=>x a\/ag a=bW v) u<|cJ s)(R:base<=U w.1)(S:E l<=100000):∃b c,(Builtin.append_ #[328,328] 328 #[v,bC (U w.1) 0 1 1]).run aK (aO w<|aS #[u] 113)=.ok b c/\vg (λa=>x a/\a<U w.1) c base b (l++[s])/\cL (λa=>ag a≠bW v) w c/\(bW b=bW v\/bW b=ag (U w.1+1)):=by
 have⟨i0,aN,hz0,hz1,hz2⟩:=jN acr
 obtain⟨j,o,Q⟩:=h;have B:a7 w (aO w<|aS #[u] 113):=ct cd bv _;have N:u.oneCell'=aE:=by obtain⟨_,_,_,rfl,_⟩:=I;rfl
 have H:U (aO w<|aS #[u] 113).1=U w.1+1:=gd w _;have⟨b,c,k1,k2,k3,_,k5⟩:=run_append_own_at (P:=aK) (aO w<|aS #[u] 113) base 328 328 113 i0 _ 1 24 acq aN hz0 hz1 hz2 af G v (E l) j (jG o B) (M (U w.1) 0) 1 1 [u] af (λK d D=>by{rw[DR,g8];simp_all}) (λd t=>by grind) DB G G;rw[H]at k5;have p:cL (λa=>ag a≠bW v) w c:=⟨k3.1,k3.2,k3.3,cU G k3.4,λa q r=>(k3.5 a G r).trans<|dT w _ a q⟩;have F:∀a,a<U w.1->ag a≠bW v->ag a≠bW b:=λa q r e=>by{grind};have O:∀(d:bm) (i:List ap),jB w (λa=>x a\/ag a=bW v) d i->jB c (λa=>(x a/\a<U w.1)\/ag a=bW b) d i:=λd i t=>by{obtain⟨n,L,y,z,A,k,g⟩:=t;exact⟨n,L,y,z,A,k.fr p λe=>g<|bE e,λC=>C.elim (λJ=>g<|bG J.1)<|F n k.1 λe=>g<|bE e⟩};refine⟨b,c,k1,⟨j++[u],by grind,λK D=>?_⟩,p,k5⟩;have:E j=E l:=cj o.1
 grind
end
theorem PR{P:Prop}(h:P:=by intro k hk e;rcases k5 with h5|h5;{rw[h5]at hk;exact h.ne k hk e};grind):P:=h
section
variable {X:Nat->Prop} {w wr:World} {ab:Nat} {rc:Int} {aa:Bool} {va vu vd vs:Value} {seen:List ap} {add:List D} (h:rA X w wr ab rc aa va vu vd vs seen add)
include h
theorem rA.below{w1}(a:a7 wr w1):rA X w w1 ab rc aa va vu vd vs seen add :=
 ⟨h.1.kept<|a.5 ab h.1.lt,h.2.trans<|cL.zY a,h.3.fr (p:=λ_=>True) (cL.zY a) (λ_ _ _ _=>cE) λ_ _=>cE,h.4.below a,h.5,h.6,h.7,h.8⟩
theorem rA.Zv(b:a7 f w)(d:U f.1<=ab):a7 f wr :=
 bN b ((h.2.below (n:=U f.1) (λg e c=>G) b.4))
theorem rA.own(c:fS X w (ab+1) e j):fS X wr (ab+1) e j :=
 c.fr h.2 (λd _ a _ b=>a (by rw[b];exact h.7)) (λd a b=>by have:=(c.lt d a).1;omega)
theorem rA.aDd{s u}(p:jB wr (λk=>X k\/ag k=bW vd\/ag k=bW vs) u<|cJ s)(z:E seen<=100000):∃c d,(Builtin.append_ #[328,328] 328 #[vs,bC (U wr.1) 0 1 1]).run aK (aO wr<|aS #[u] 113)=.ok c d/\rA X w d ab rc aa va vu vd c (seen++[s]) add/\jB d (λk=>X k\/ag k=bW vd\/ag k=bW c) u (cJ s)/\U wr.1<=U d.1:=by
 have o:=h.2.4;have⟨c,d,k1,k2,k3,k5⟩:=acs h.3 (s:=s) (u:=u) (p.imp λk _ g a=>g<|by grind) o z;have:=h.3.lt;have:=h.4.lt;have:=h.6;have x:ag ab≠bW vs:=λe=>by grind
 have A:∀k,k<U wr.1->ag k≠bW vs->ag k≠bW c:=λk hk g e=>by{grind};refine⟨c,d,k1,⟨h.1.kept<|k3.5 ab G x,⟨c_ k3.1 h.2.1,c_ k3.2 h.2.2,c_ k3.3 h.2.3,cU o k3.4,λk hk g=>(k3.5 k G λe=>by grind).trans<|h.2.5 k hk g⟩,?_,?_,?_,h.6,h.7,h.8⟩,?_,k3.4⟩;{exact k2.imp λk _ b _ a=>by{rcases a with a|a;{exact b ⟨.inl a,cj<|h.xl k a⟩};grind}};{have:fS (λk=>X k\/ag k=bW vs) d (U w.1) vd add:=h.4.fr k3 (λk _ b _ e=>b<|bE e) λk hk e=>h.5 k (bZ e) hk;have n:=h.4.imp (y:=λk=>(X k\/ag k=bW vs)\/ag k=bW c) (λk hk b n a=>by{grind});exact(n.fr k3 (λk _ b _ e=>b<|bG<|bE e) λk hk e=>h.5 k (bZ e) hk).imp λk _ b _ a=>b<|by grind};{exact PR};{obtain⟨l,B,q,r,t,i,j⟩:=p;exact⟨l,B,q,r,t,i.fr k3 λe=>j<|bE<|bE e,λa=>by{rcases a with a|a|a;{grind};{grind};{exact A l i.1 (λe=>j<|bE<|bE e) a}}⟩}
theorem rA.add1{x}(I:fS (λb=>(X b\/ag b=bW vs)\/ag b=bW vd) wr x e j)(F:E add+E j<=100000):∃t g,(Builtin.append_ #[115,115] 115 #[vd,e]).run aK wr=.ok t g/\gz g ab rc aa va vu vd/\rA X w (a_ g ⟨ab,4,ai⟩ t) ab rc aa va vu t vs seen (add++j)/\(∃a z,t=aL a (E add+E j) z):=by
 have r:=h.2.4;have u:=h.3.lt;have:=h.4.lt;have H:=h.6;have⟨t,g,k1,k2,k3,k5⟩:=DK h.4 I (λb _ l=>l) r F (λb c=>by{rcases c with c|c;{have:=h.8 b c;omega};grind});have C:ag ab≠bW vd:=λd=>by grind
 have n:=h.1.kept<|k3.5 ab G C;have D:=cL.Yg k3 λ_ h=>h;have J:∀b,b<U wr.1->ag b≠bW vd->ag b≠bW t:=λb c q d=>by{grind};have o:cL (λb=>b≠ab) g (a_ g ⟨ab,4,ai⟩ t):=cL.j9 (a:=⟨ab,4,ai⟩) t λ_ h=>h;refine⟨t,g,k1,n,⟨n.o6 t,?_,?_,?_,?_,h.6,h.7,h.8⟩,?_⟩;{have k:cL (λb=>b≠ab) w g:=⟨c_ k3.1 h.2.1,c_ k3.2 h.2.2,c_ k3.3 h.2.3,cU r k3.4,λb c q=>(k3.5 b G λd=>by grind).trans<|h.2.5 b c q⟩;exact k.trans o};{have A:=h.3.imp (y:=λb=>(X b\/ag b=bW vd)\/ag b=bW t) (λb c i K l=>by{grind});have k:=A.fr D (λb _ i _ d=>i<|bG<|bE d) λb c d=>h.5 b c<|bZ d;have B:=k.fr o (λb _ i _ d=>i<|bG<|bG<|d▸h.7) (λb c d=>by grind);exact B.imp λb _ i _ l=>i<|by grind};{exact k2.set (a:=⟨ab,4,ai⟩) t (bG h.7) H};{intro b c d;have:=u b c;rcases k5 with p|p;{rw[p]at d;exact h.5 b c d};grind};{have a:=k2.slice;grind}
end
def uy(b d:List D)(s:List ap×List D)(a:D):List ap×List D :=
 if mH a && !s.1.contains (jm a.data)then(s.1++[jm a.data],s.2++ed (λc=>!d.any (c == ·)) (jb (dF b<|jm a.data) 1))else s
def pE(a b c:List D):List ap×List D:=c.foldl (uy a b) ([],[])
def IF{c d}:pE j y (c++[d])=uy j y (pE j y c) d:=by simp[pE]
def act{s a}(d:mH a=ao):uy j y s a=s:=by grind[uy]
def acu{s a}(d:s.1.contains (jm a.data)=aE):uy j y s a=s:=by grind[uy]
def acv{s a}(g:mH a=aE)(e:s.1.contains (jm a.data)=ao):uy j y s a=(s.1++[jm a.data],s.2++ed (λd=>!y.any (d == ·)) (jb (dF j<|jm a.data) 1)):=by grind[uy]
def acw(c)(k:E j<=60):∀(a:List D),E (pE j c a).1<=E a/\E (pE j c a).2<=E a*60:=by
 intro a;have⟨d,hn⟩:=dK<|E a;induction d generalizing a with
 | zero=>obtain rfl:a=[]:=iM hn;exact⟨cW _,eb _⟩
 | succ d b =>{
 rcases si a with rfl|⟨g,e,rfl⟩;{grind};{
 rw[se]at *;have i:E g=d:=by grind
 have:=b g i;rw[IF];have:=vA (λh:D=>!c.any (h == ·))<|jb (dF j<|jm e.data) 1;have:=cU (F6 (dF j<|jm e.data) 1)<|D2 j<|jm e.data;unfold uy;split;{grind};omega}}
def acx(b:D)(a):bd aK 234 #[aL ai 0 0,ci #[amz<|O b.owner,ak am b.aP,ak am b.type,amz<|O b.data]] a λe h=>e=bg (ak am<|-1)/\cB (U a.1) a h:=by
 have c:∀d,cB (U a.1) a (aO a d):=λd=>(dz _ _).alloc (cW _) _;replace c:=ae c;go_wp2;go_loopw [8] (λg wr=>g=ak am 0/\cB (U a.1) a wr) λ_ _=>0;·exact⟨af,V c _⟩
 ·(obtain⟨rfl,i⟩:=hrel;go_wp2;go_ret;simp_all)
def acy{b:D}:bd aK 178 #[aL ai 0 0,ci #[amz<|O b.owner,ak am b.aP,ak am b.type,amz<|O b.data]] f λh j=>h=bg (aG ao)/\cB (U f.1) f j:=by have c:∀d,cB (U f.1) f (aO f d):=λd=>(dz _ _).alloc (cW _) _;have g:=ae λe=>acx b e;replace c:=ae c;go_in;go_wp21;refine(V g _).m λk i=>?_;go_wp2;go_ret;exact⟨af,(V c _).trans<|bV i aA⟩
def acz(a)(i:kN f e j)(g:E j<=3001):bd aK 178 #[e,ci #[amz<|O a.owner,ak am a.aP,ak am a.type,amz<|O a.data]] f λb c=>b=bg (aG (j.any (a == ·)))/\cB (U f.1) f c:=by rcases i with⟨rfl,rfl⟩|⟨k,ay,d,rfl,_,h⟩;{exact acy};{exact RE a d h g}
def Ae(c:aQ)(b:Nat)(v:bm)(a:List ap):Prop:=c.ownsRow b 9 1 v (E a)<|a.map λs=>amz<|O s
def Ae.slice{c}(a:Ae f c e C):∃b d,e=aL b (E C) d:=by rcases a.2 with⟨rfl,j⟩|⟨i,h,_,rfl,_⟩;{grind};simp
def acA(b){k}(o:Ae f k e C)(F:E C<=100000):bd aK 197 #[e,amz<|O b] f λg x=>g=bg (aG<|C.contains b)/\x=f:=by
 have y:∀d c:ap,O d=O c->d=c:=λd c g=>by{have:=fE (λi:ByteArray=>i.1.1) g;exact this};have q:∀(h:Nat),h=E C->Lib.containsS (amA h<|b9 O C) (O b)=C.contains b:=λh u=>by{rw[u,show E C=E (b9 O C) by simp,ld,sd,Lib.containsS_iff,List.contains_iff_mem,lZ];grind};rcases o.2 with⟨rfl,p⟩|⟨n,l,A,rfl,B,z,a,_,H,w⟩;{have:=Tryz.slices_Contains_string_empty ai 0 (O b) f;have t:=iM p;subst t;exact this};{
 have:=Tryz.slices_Contains_string n 0 (E C) l (b9 O C) (O b) f aA G (λj D=>by{
 have r:j<E C:=by grind
 have:=fE (λi:List bm=>i[j]?) w;rw[uD G,vy,gw r]at this;grind[aD]})
 rw[q (E C) af]at this;exact this}
def acB:(aK.info? 9).map (λa=>(a.8,a.3,a.4))=ag (ag<|amz ⟨#[]⟩,1,16):=b8
def acC:aK.underlying 49=ag (.slice 9):=b8
def acD{v h}(k:Ae f v e h)(b)(p:v<=U f.1)(r:E h<=100000):∃c d,(Builtin.append_ #[49,49] 49 #[e,aL (ag ⟨U f.1,0,ai⟩) 1 1]).run aK (aO f<|aS #[amz<|O b] 9)=.ok c d/\Ae d v c (h++[b])/\cL (λg=>ag g≠bW e) f d/\(bW c=bW e\/bW c=ag (U f.1+1)):=by
 have⟨i0,aN,hz0,hz1,hz2⟩:=jN acB;have j:cB (U f.1) f (aO f<|aS #[amz<|O b] 9):=(dz _ _).alloc (cW _) _;have o:U (aO f<|aS #[amz<|O b] 9).1=U f.1+1:=gd f _;have⟨c,d,k1,k2,k3,_,k5⟩:=run_append_own_at (P:=aK) (aO f<|aS #[amz<|O b] 9) v 49 49 9 i0 _ 1 16 acC aN hz0 hz1 hz2 af G e (E h) _ (jG k j) ⟨U f.1,0,ai⟩ 1 1 [amz<|O b] af (λu i q=>by{rw[DR,g8];simp_all}) (λi t=>by{
 have:i=amz (O b):=by grind
 rw[this];rfl}) DB G G
 rw[o]at k5;refine⟨c,d,k1,?_,⟨k3.1,k3.2,k3.3,cU G k3.4,λg l n=>(k3.5 g G n).trans<|dT f _ g l⟩,k5⟩;grind[Ae]
structure uz(w wr:World)(vt vl:Value)(tg:List ap)(add:List D):Prop where
 tg:Ae wr w.heap.size vt tg
 ad:ec wr w.heap.size vl add
 ne:∀k,vt.ownBlock=some k->vl.ownBlock≠some k
 bl:Below w.heap.size w wr
def uz.below{w1 g}(a:uz f m g e C j)(b:cB (U m.1) m w1):uz f w1 g e C j :=
 ⟨jG a.1 b,a.2.below b,a.3,bN a.4<|bV b a.4.4⟩
def uz.aDp{o n}(h:uz f m o n C j)(g)(t:E C<=100000):∃a c,(Builtin.append_ #[49,49] 49 #[o,aL (ag ⟨U m.1,0,ai⟩) 1 1]).run aK (aO m<|aS #[amz<|O g] 9)=.ok a c/\uz f c a n (C++[g]) j/\(∃i r,a=aL i (E C+1) r):=by have:=kX h.1;have q:=h.2.Ya;have⟨a,c,k1,k2,k3,k5⟩:=acD h.1 g h.4.4 t;refine⟨a,c,k1,⟨k2,?_,?_,?_⟩,?_⟩;{refine h.2.kept λd l=>k3.5 d (q d l).2 λe=>h.3 d (bZ e) l};{exact PR};{exact h.bl.trans ⟨k3.os,k3.tape,k3.output,k3.size,λk hk=>k3.5 k (cj h.4.4) λe=>by grind⟩};{have i:=k2.slice;simp_all}
def uz.aDq{r}(a:uz f m e r C j){l}(p)(x:gr m l 0 [p])(y:E j<=90000):∃g c,(Builtin.append_ #[41,41] 41 #[r,aL (ag ⟨l,0,ai⟩) 1 1]).run aK m=.ok g c/\uz f c e g C (j++[p])/\(∃k w,g=aL k (E j+1) w)/\cB (U f.1) m c:=by
 have u:=kX a.1;have:=a.2.Ya;have⟨g,c,k1,k2,k3,k5⟩:=Lo 1 a.2 x a.4.4 (by grind);have o:cB (U f.1) m c:=⟨k3.1,k3.2,k3.3,k3.4,λb i=>k3.5 b (cj a.4.4) λd=>by grind⟩;refine⟨g,c,k1,⟨?_,k2,?_,bN a.4 o⟩,?_,o⟩;{
 refine El a.1 k3 ?_;cases t:bW e with
 | none=>simp
 | some b=>exact bE λd=>a.3 b t<|bZ d};{intro b i d;have:=(u b i).2;rcases k5 with n|n;{rw[n]at d;exact a.3 b i d};grind};{have k:=k2.slice;grind}
def UG{a ay b v i}(h:iL f v i a ay b j)(g:nW a ay j e y):kN f e y:=g.rv h.2.2.2.2
def acE(b:aQ)(a)(d:d_):gr (aO b<|aS #[amz<|O a.owner,ak am a.aP,ak am a.type,amz<|O a.data] d) (U b.1) 0 [a]:=by
 have c:=du b<|aS #[amz<|O a.owner,ak am a.aP,ak am a.type,amz<|O a.data] d;refine⟨(ea.1 c).1,λe g h v aN=>?_⟩;have:e=0:=by grind
 subst this;unfold aD;rw[c];simpa [D.bz]using aN
def HU{P:Prop}(h:P:=by unfold aD; simp_all):P:=h
def Pe{P:Prop}(h:P:=by go_wp2;exact⟨⟨k+1,dH,G,⟨_,_,_,af⟩,⟨_,_,_,af⟩,by rw[V bt];assumption⟩,ee⟩):P:=h
def acF{br bL ay bP i}(an X){bk}(ar){h}(b3:iL f br i bL ay bP j)(ba:E j<=60)(aX:kN f e y)(aY:kN f bk h)(b_:E y<=500)(cK:E h<=500)(ah:∀g∈y++h,E g.data<=3000):bd aK 128 #[N br,ci #[J an,aG X,e,bk,ar]] f λaa bn=>(∃v,aa=bg v/\ec bn (U f.1) v (pE j y<|y++h).2)/\a7 f bn:=by
 obtain⟨t,w,rfl⟩:=Aw aX;obtain⟨C,F,rfl⟩:=Aw aY;have aT:=ae aX;have bI:=ae aY;have aJ:=ae ah;have bQ:=ae b3;go_in;go_wp2_with fail;have ac:a7 f (aO (aO f<|aS #[ak am an,aG X,aL t (E y) w,aL C (E h) F,ar] 43)<|aS #[aL t (E y) w,aL C (E h) F] 41):=(ct cd bv _).alloc aA _;have bJ:aD (aO (aO f<|aS #[ak am an,aG X,aL t (E y) w,aL C (E h) F,ar] 43)<|aS #[aL t (E y) w,aL C (E h) F] 41) (M (U f.1) 2)=ag (aL t (E y) w):=by go_simp
 refine(aau (U f.1+1) aA (by go_simp) (by go_simp) (aT.below ac) (bI.below ac) G G).mono ?_;rintro aa bo ⟨cG,rfl,a2,a0⟩;have H:=bN ac<|bV a0 hV;have bc:=(a0.cell (p:=⟨U f.1,2,ai⟩) cx).trans bJ;obtain⟨cb,bA,rfl⟩:=a2.slice;have bb:=ae a2.rv;have b7:E (y++h)<=1000:=by grind
 have b8:=ae<|aT.below H;have ap:=ae<|bQ.below H;have bM:=ae H;have bR:=ae bc;have a4:=H.4;have b2:=i8 _ _ bc;have⟨L,hL⟩:=dK<|y++h;rw[hL]at bb b7 aJ ⊢;replace hL:=ae hL;go_wp2;go_loopw [5,6,19] (λB bl n wr=>∃k:Nat,n=J k/\k<=E L/\(∃a A u,B=aL a A u)/\(∃a A u,bl=aL a A u)/\uz bo wr bl B (pE j y<|amA k L).1 (pE j y<|amA k L).2) λ_ _ n _=>E L-c7 (fJ n);·exact⟨0,af,eb _,⟨_,_,_,af⟩,⟨_,_,_,af⟩,⟨jO _ _ _ _,jO _ _ _ _,(λk a1=>by cases a1),dz _ _⟩⟩
 ·(
 obtain⟨k,rfl,a1,⟨cp,cr,cq,rfl⟩,⟨cD,cF,cE,rfl⟩,q⟩:=hrel;have⟨d3,hG⟩:=dK<|pE j y<|amA k L;have a3:=acw y ba<|amA k L;have:E (amA k L)<=1000:=by grind
 rw[hG]at q a3;obtain⟨dP,l⟩:=d3;simp only at q a3;have:E dP<=1000:=G;have:E l<=60000:=G;have P:=ae hG;have Y:=ae q;have:=q.4.4;by_cases z:k<E L;{
 have Z:=ae<|iH z;have b6:=bb.below q.4;rcases b6 with⟨b,ab⟩|⟨ce,cv,cg,b,cl,b1⟩;{rw[ab]at z;simp at z};{
 cases b;have aj:=b1.four k z;have ah:=V aJ L[k]<|eP z;have az:=ae λR=>Sl R ah;generalize L[k]=g at *;go_wp2_with fail;refine(az _).m ?_;intro bp a5;have ad:a7 wr bp:=by rw[a5];exact Bt
 have:aD bp (M (U wr.1) 2)=ag (J g.type):=by simp_all
 have r:=Y.below ad;have bz:=ae r;have⟨x,hx⟩:=dK<|jm g.data;rw[hx];have W:=ae hx;have aC:=ae<|acA x r.1 G;have⟨_,_,et⟩:=r.1.slice;obtain⟨-,bB,-⟩:=np et;have⟨_,_,el⟩:=r.2.slice;obtain⟨-,bC,-⟩:=np el;subst bB bC;have:=ad.4;generalize U wr.1=cA at *;clear a5 az aj ad r et el hx;by_cases I:mH g=ao;{
 have a8:(g.type != 2)=aE:=by unfold mH at I;simp_all
 have bD:(g.type != 15)=aE:=by unfold mH at I;simp_all
 have bt:ax (pE j y (amA (k+1) L)=(dP,l)):=by rw[ax,V Z,IF,V P,act I]
 clear I;exact Pe};{
 have av:mH g=aE:=by simp_all
 have bT:(g.type != 2)=ao\/((g.type != 2)=aE/\(g.type != 15)=ao):=by{by_cases cj:g.type=2;{simp_all};{right;unfold mH at av;simp_all}};have bs:=ae av;have⟨hc,ae7⟩:=dK<|dP.contains x;rw[ae7]at aC;replace ae7:=ae ae7;rcases bT with a8|⟨a8,bD⟩;all_goals(
 go_wp2_with fail;refine aC.m ?_;rintro cI rfl;cases hc with
 | true =>{
 have bt:ax (pE j y (amA (k+1) L)=(dP,l)):=by rw[ax,V Z,IF,V P,acu (by rw[V W];assumption)]
 exact Pe}
 | false =>{
 have⟨S,hS⟩:=dK<|jb (dF j x) 1;have bt:ax (pE j y (amA (k+1) L)=(dP++[x],l++ed (λa=>!y.any (a == ·)) S)):=by{rw[ax,V Z,IF,V P,acv (V bs) (by rw[V W];assumption),V W,hS]};have⟨v6,w6,hrun,ae8,a6,gE,aDw⟩:=bz.aDp x G;subst aDw;have aq:=ae hrun;have bK:=ae ae8;have aw:=ae<|LP x 1 (ap.below ae8.4) G;rw[hS]at aw;go_wp2_with (at_builtin;go_loud (refine xX dS (.tmp 39) (.tmp 41) 49 dS dS dS (V aq) ?_));refine aw.mono ?_;rintro aa cJ ⟨⟨cH,rfl,aF⟩,bS⟩;have aH:=bK.below bS;have:=ae aH;have bw:=UG (ap.below aH.4) aF;obtain⟨cC,cc,rfl⟩:=Aw bw;have b5:=ae aF;have ca:E S<=60:=by rw[<- hS];exact cU (cU (F6 _ _)<|D2 _ _) ba
 go_wp2;go_loopw [5,47] (λB n wr=>∃c:Nat,n=J c/\c<=E S/\(∃a A u,B=aL a A u)/\uz bo wr (aL a6 (E dP+1) gE) B (dP++[x]) (l++ed (λa=>!y.any (a == ·)) (amA c S))) λ_ n _=>E S-c7 (fJ n);·exact⟨0,af,eb _,⟨_,_,_,af⟩,(by rw[tH,List.filter_nil,mw];assumption)⟩
 ·(
 obtain⟨c,rfl,cn,⟨cs,cu,lU,rfl⟩,d⟩:=hrel;have aM:=UG (ap.below d.4)<|V b5;have bF:=ae d;have:=d.4.4;have aV:=(d.4.cell (p:=⟨U f.1,2,ai⟩) b2).trans (V bR);have co:E (ed (λa=>!y.any (a == ·))<|amA c S)<=60:=by{have:=vA (λa:D=>!y.any (a == ·))<|amA c S;rw[jF]at this;omega};by_cases K:c<E S;{
 have aN:=ae<|iH K;rcases aM with⟨b,ab⟩|⟨bO,cw,ch,b,cm,al⟩;{rw[ab]at K;simp at K};{
 cases b;have aj:=al.four c K;have:=al.1;have T:=ae λR (bY:a7 wr R)=>acz S[c] ((b8.below d.4).below bY) G;generalize S[c]=a at *;have:¬bO=U wr.1:=G;have:¬U f.1=U wr.1:=G;have aI:∀(i:Obj) (a:kC) (v:bm),aD wr a=ag v->aD (aO wr i) a=ag v:=λi a v aW=>(ev<|dT wr i a.1<|i8 _ _ aW).trans aW;have bU:=λi=>aI i _ _ aV;have aU:∀i,a7 wr (aO wr i):=λi=>ct cd bv _;have bf:=ae aU;have⟨hin,afb⟩:=dK (y.any (a == ·));have aB:=ae afb;rw[afb]at T;have⟨_,_,em⟩:=d.2.slice;obtain⟨-,aP,-⟩:=np em;rw[dE]at aP;subst aP;clear al d aI aU afb em;go_wp2_with fail;refine(T _<|bf _).m ?_;intro o au;have bu:=(bf<|aS #[amz<|O a.owner,ak am a.aP,ak am a.type,amz<|O a.data] 47).trans<|bV au aA;have aR:=bF.below bu;have bH:=ae aR;have bx:=(au.5 (U wr.1) aA).trans<|du wr _;have cy:aD o (M (U wr.1) 0)=ag (aZ a.owner):=HU
 have cz:aD o (M (U wr.1) 1)=ag (J a.aP):=HU
 have fz:aD o (M (U wr.1) 2)=ag (J a.type):=HU
 have gg:aD o (M (U wr.1) 3)=ag (aZ a.data):=HU
 clear au aR bx aj aV bU T;cases hin with
 | true =>{have Q:ax (ed (λa=>!y.any (a == ·)) (amA (c+1) S)=ed (λa=>!y.any (a == ·)) (amA c S)):=by{rw[ax,V aN,tG,BS (by rw[V aB];simp)];simp};go_wp2;exact⟨⟨c+1,dH,G,⟨_,_,_,af⟩,by rw[V Q];assumption⟩,ee⟩}
 | false =>{have Q:ax (ed (λa=>!y.any (a == ·)) (amA (c+1) S)=ed (λa=>!y.any (a == ·)) (amA c S)++[a]):=by{rw[ax,V aN,tG,zK (by rw[V aB];rfl)];rfl};have bi:a7 o (aO o<|aS #[amz<|O a.owner,ak am a.aP,ak am a.type,amz<|O a.data] 47):=ct cd bv _;have⟨v9,w9,hrun,aou,⟨a9,c9,aov⟩,aDz⟩:=(bH.below bi).aDq a (acE o a _) (by rw[dE];omega);rw[dE]at aov;subst aov;have aq:=ae hrun;have:=ae aou;clear hrun aou aDz bi;go_wp2_with (at_builtin;go_loud (refine xX dS (.tmp 56) (.tmp 58) 41 dS dS dS (V aq) ?_));go_wp2;exact⟨⟨c+1,dH,G,⟨_,_,_,af⟩,by rw[V Q,<- jI];assumption⟩,ee⟩}}};{have:c=E S:=G;have b0:¬(c:Int)<E S:=G;have b4:ax (pE j y (amA (k+1) L)=(dP++[x],l++ed (λa=>!y.any (a == ·)) (amA c S))):=zv;clear d aM;go_wp2;exact⟨⟨k+1,dH,G,⟨_,_,_,af⟩,⟨_,_,_,af⟩,by rw[V b4];assumption⟩,ee⟩})})}}};{have:k=E L:=G;have b0:¬(k:Int)<E L:=G;have bt:ax (pE j y L=(dP,l)):=by{grind};clear q;go_wp2;go_ret;exact⟨⟨_,af,by rw[V hL,V bt];exact Y.2.base a4⟩,bN bM<|bV Y.4 a4⟩})
abbrev ia:=List<|List ap×Nat
def EV(d:aQ)(v:bm)(a:ia):Prop:=(v=bY/\a=[])\/∃c e,v=bC c 0 (E a) e/\E a<=e/\c<U d.1/\∀b (h:b<E a),∃g,aD d (M c<|2*b)=ag g/\gG d g a[b].1/\aD d (M c<|2*b+1)=ag (J (a[b].2:Nat))
def EV.below{es}(c:EV f e es)(a:a7 f m):EV m e es:=by rcases c with c|⟨b,i,j,k,d,l⟩;{exact .inl c};{refine .inr ⟨b,i,j,k,e8 d a.size,λv n=>?_⟩;have⟨u,k1,k2,k3⟩:=l v n;exact⟨u,(a.cell (p:=⟨b,2*v,ai⟩) d).trans k1,k2.below a,(a.cell (p:=⟨b,2*v+1,ai⟩) d).trans k3⟩}
def gb(a:aQ)(b:Nat)(s:ap)(v:bm):Prop:=a.1[b]? = ag (aS #[amz<|O s,v] 229)
section
variable {w:World} {wb:Nat} {s:ap} {v:Value}
def gb.lt(a:gb w wb s v):wb<U w.1:=(ea.1 a).1
def gb.cells(a:gb w wb s v):aD w (M wb 0)=ag (aZ s)/\aD w (M wb 1)=ag v:=by unfold gb at a;exact⟨by simp[aD,a],by simp[aD,a]⟩
def gb.below(a:gb w wb s v)(c:a7 w f):gb f wb s v:=(c.5 wb a.lt).trans a
end
def kV(b:List ap):ia->Option Nat
 | []=>ai
 | a::c=>if a.1=b/\a.2<16384 then ag a.2 else kV b c
def A5(b:Option Nat):Int:=match b with
 | some a=>a
 | none=>-1
def QR{P:Prop}(h:P:=by go_wp2;exact⟨⟨k+1,dH,qq,ng,jg⟩,by have:=V qq;exact Bz⟩):P:=h
def adK{K s I a}(H:gb f K s e)(r:EV f e a)(D:gG f I C)(ac:E C<=1000)(B:∀A∈a,E A.1<=1000/\A.2<=1000000)(Z:E a<=1000000):bd aK 204 #[N K,I] f (cQ (J<|A5<|kV C a) f):=by
 have⟨R,hR⟩:=bi<|A5<|kV C a;rw[<- hR];have ad:=ae hR;obtain⟨u,c,w,F,l⟩:∃u c w,e=aL u c w/\ax (c=E a):=by{rcases r with⟨rfl,rfl⟩|⟨g,cap,rfl,_⟩;{grind};grind};have T:=ae r;have y:=ae H;have Q:=ae D;have S:=ae B;have an:c<=1000000:=by rw[V l];omega
 subst F;clear r H D B hR Z;go_wp2;go_loopw [5] (λt wr=>∃k:Nat,t=J k/\k<=c/\A5 (kV C<|bh k a)=R/\a7 f wr) λt _=>c-c7 (fJ t);·exact⟨0,af,eb _,bZ ad,dz _ _⟩
 ·(
 obtain⟨k,rfl,aq,aa,i⟩:=hrel;have:=(y.below i).cells.2;have h:=ae i;have z:=ae aa;by_cases ab:k<c;{
 have j:k<E a:=by rw[<- V l];omega
 have⟨g,cap,F,eQ,hg,hall⟩:=((T.below i)).resolve_left (λap=>by grind);have⟨apW,k1,k2,k3⟩:=hall k j;have b:=V S a[k]<|eP j;have aj:=ae<|up k2 (Q.below i) b.1 ac;have O:ax (A5 (if a[k].1=C/\a[k].2<16384 then ag a[k].2 else kV C (bh (k+1) a))=R):=by{have:=V z;rw[lA j,kV]at this;grind};obtain⟨rfl,rfl,rfl⟩:u=ag ⟨g,0,ai⟩/\c=E a/\w=cap:=by grind
 generalize a[k].1=X at *;generalize a[k].2=d at *;have:=b.2;have:=ae eQ;have:(k:Int)<E a:=G;have:aD wr (M g<|k*2)=ag apW:=by grind
 have ah:aD wr (M g<|k*2+1)=ag (J d):=by grind
 have P:=ae hg;go_wp2_with fail;refine aj.m ?_;intro al q;have:=((y.below h).below q).cells.2;have:aD al (M g<|k*2+1)=ag (J d):=(q.cell (p:=⟨g,k*2+1,ai⟩) (V P)).trans ah;have jg:=ae<|bN h<|bV q h.4;have qq:=ae ab;by_cases o:X=C;{have n:=mL o;rw[n];by_cases Y:d<16384;{have ng:ax ((d:Int)=R):=by{have:=V O;rw[b7 ⟨o,Y⟩]at this;exact this};have L:(d:Int)<16384:=G;go_wp2;go_ret;exact⟨fE (λx=>bg<|J x)<|V ng,jg⟩};{have ng:ax (A5 (kV C<|bh (k+1) a)=R):=zv;have L:¬(d:Int)<16384:=G;exact QR}};{have n:=gD o;rw[n];have ng:ax (A5 (kV C<|bh (k+1) a)=R):=zv;exact QR}};{have W:k=c:=G;subst W;have ng:ax ((-1:Int)=R):=by{have:=V z;rw[V l,w_]at this;exact this};have:¬(k:Int)<k:=G;go_wp2;go_ret;exact⟨fE (λx=>bg<|J x)<|V ng,h⟩})
def pD(a:Nat)(s:ap)(b:Bool):ap×Bool:=if a<=E s then(bh a s,b)else([],aE)
def aiz(b s a):E (pD b s a).1<=E s:=by grind[pD]
def YQ{b:Nat}(a:Nat){s}(g:eB f b s H)(k:a<=100000)(i:E s<=1000000000):bd aK 148 #[N b,J a] f λh e=>(∃j,h=bg (amz j))/\eB e b (pD a s H).1 (pD a s H).2/\eL b f e/\U e.1=U f.1:=by unfold pD;split;{refine(KH a g G i).mono ?_;grind};{refine(KI a g G G).mono ?_;grind}
section
variable {w:World} {b:Nat} {h0 h1 h2 h3 h4 h5:Int} {q n:ap} {k c:Int} {opt:Bool} {sz cK:Int}
def ww(h:iB w b h0 h1 h2 h3 h4 h5 q n k c opt sz cK)(a):iB (a_ w ⟨b,11,ai⟩<|ak am a) b h0 h1 h2 h3 h4 h5 q n k c opt a cK:=by exact Dq
def pA(h:iB w b h0 h1 h2 h3 h4 h5 q n k c opt sz cK)(a):iB (a_ w ⟨b,12,ai⟩<|ak am a) b h0 h1 h2 h3 h4 h5 q n k c opt sz a:=by exact Dq
end
def Qx{P:Prop}(h:P:=by go_wp2;refine lG (v:=bX #[]) (by simp[dr,results134]) af ?_;exact⟨af,kg.1,q3▸kg.2.1,kg.2.2⟩):P:=h
def aiA{a g D}{r t u w x C A y B bM aN}(aY:iB f a i r t u w x C A y p B bM aN)(e:eB f g D H)(h:a≠g)(b2:E D<=1000000000){I n bY j k S ay az F T W aA a5 aB L M o O P Q aM R}(aP:fe D H=(I,ay,L))(aR:fj ay L=(n,az,M))(aT:fj az M=(j,F,o))(aU:fe F o=(bY,T,O))(aV:fe T O=(k,W,P))(aW:pD 2 W P=(aA,Q))(aX:fj aA Q=(S,a5,aM))(bv:pD S a5 aM=(aB,R))(b3:S<=65535):bd aK 134 #[N a,N g] f λaj aF=>aj=bg (bX #[])/\iB aF a i r t u w x C A y p B j k/\eB aF g aB (R || !(I==0&&n==41))/\cL (λb=>b≠a/\b≠g) f aF:=by
 have aZ:=vP D H;have a0:=uN ay L;have a1:=uN az M;have a2:=vP F o;have a3:=vP T O;have a4:=aiz 2 W P;have aJ:=uN aA Q;rw[aP]at aZ;rw[aR]at a0;rw[aT]at a1;rw[aU]at a2;rw[aV]at a3;rw[aW]at a4;rw[aX]at aJ;simp only at aZ a0 a1 a2 a3 a4 aJ;have bU:=ae aP;have bB:=ae aR;have bO:=ae aT;have bi:=ae aU;have bj:=ae aV;have bo:=ae aW;have bp:=ae aX;have bt:=ae bv;have b1:=ae aY;have bI:=ae e;have a9:=aY.lt;have bc:ax (cL (λb=>b≠a/\b≠g) f f):=⟨af,af,af,cW _,λ_ _ _=>af⟩;have ap:=ae<|rf D H (V bI) G;rw[ax,V bU]at ap;simp only at ap;go_in;go_wp21;refine ap.m λbP ⟨e,c,l⟩=>?_;have bD:=ae e;have bw:=ae<|bc.trans<|(cL.CO c).mono λb _ d=>d.2;have bH:=ae<|b1.kept<|c.5 a a9 h;have ba:a<U bP.1:=G;have aq:=ae<|nD L (V bD) G;rw[ax,V bB]at aq;simp only at aq;go_wp21;refine aq.m λbQ ⟨e,c,l⟩=>?_;have bC:=ae e;have bx:=ae<|bw.trans<|(cL.CO c).mono λb _ d=>d.2;have bF:=ae<|bH.kept<|c.5 a ba h;have bA:a<U bQ.1:=G;have av:=ae<|nD M (V bC) G;rw[ax,V bO]at av;simp only at av;go_wp21;refine av.m λX ⟨e,c,l⟩=>?_;have ar:=ae e;have an:=ae<|bx.trans<|(cL.CO c).mono λb _ d=>d.2;have z:=ae<|bF.kept<|c.5 a bA h;have bz:=z.frozen;have al:=z.cells;have ah:ax (iB (a_ X ⟨a,11,ai⟩<|ak am j) a i r t u w x C A y p B j aN/\eB (a_ X ⟨a,11,ai⟩<|ak am j) g F o/\cL (λb=>b≠a/\b≠g) f (a_ X ⟨a,11,ai⟩<|ak am j)/\a<U (a_ X ⟨a,11,ai⟩<|ak am j).1) := ⟨ww (V z) _,(dJ _ _ _ _<|Ne.symm h).trans ar,an.trans<|cL.j9 _ λb d=>d.1,by simp_all⟩;obtain⟨_,_,_,_,_,_,_,_,_,_,_,BI,BJ⟩:=al;have⟨hQ,hR,hF,hlt3⟩:=V ah;have z:=ae hQ;have ar:=ae hR;have an:=ae hF;have aC:=ae<|rf F o (V ar) G;rw[ax,V bi]at aC;simp only at aC;go_wp21;refine aC.m λbR ⟨e,c,l⟩=>?_;have a6:=ae e;have bJ:=ae<|an.trans<|(cL.CO c).mono λb _ d=>d.2;have bT:=ae<|z.kept<|c.5 a hlt3 h;have bs:a<U bR.1:=G;have Z:=ae<|rf T O (V a6) G;rw[ax,V bj]at Z;simp only at Z;go_wp21;refine Z.m λY ⟨e,c,l⟩=>?_;have aw:=ae e;have au:=ae<|bJ.trans<|(cL.CO c).mono λb _ d=>d.2;have q:=ae<|bT.kept<|c.5 a bs h;have bz:=q.frozen;have al:=q.cells;have ah:ax (iB (a_ Y ⟨a,12,ai⟩<|ak am k) a i r t u w x C A y p B j k/\eB (a_ Y ⟨a,12,ai⟩<|ak am k) g W P/\cL (λb=>b≠a/\b≠g) f (a_ Y ⟨a,12,ai⟩<|ak am k)/\a<U (a_ Y ⟨a,12,ai⟩<|ak am k).1) := ⟨pA (V q) _,(dJ _ _ _ _<|Ne.symm h).trans aw,au.trans<|cL.j9 _ λb d=>d.1,by simp_all⟩;obtain⟨_,_,_,_,_,_,_,_,_,_,_,BI,BJ⟩:=al;have⟨hQ,hR,hF,awf⟩:=V ah;have q:=ae hQ;have aw:=ae hR;have au:=ae hF;have aa:=ae<|YQ 2 (V aw) G G;rw[ax,V bo]at aa;simp only at aa;go_wp21;refine aa.mono ?_;rintro aj bn ⟨⟨_,rfl⟩,e,c,l⟩;have bu:=ae e;have b0:=ae<|au.trans<|(cL.CO c).mono λb _ d=>d.2;have bb:=ae<|q.kept<|c.5 a awf h;have br:a<U bn.1:=G;have ac:=ae<|nD Q (V bu) G;rw[ax,V bp]at ac;simp only at ac;go_wp21;refine ac.m λbS ⟨e,c,l⟩=>?_;have a7:=ae e;have bf:=ae<|b0.trans<|(cL.CO c).mono λb _ d=>d.2;have a8:=ae<|bb.kept<|c.5 a br h;have bk:a<U bS.1:=G;have ab:=ae<|YQ S (V a7) G G;rw[ax,V bt]at ab;simp only at ab;go_wp21;refine ab.mono ?_;rintro aj ad ⟨⟨_,rfl⟩,e,c,l⟩;have J:=ae e;have aH:=ae<|bf.trans<|(cL.CO c).mono λb _ d=>d.2;have aI:=ae<|a8.kept<|c.5 a bk h;have:=J.frozen;have:=J.cells;have kg:ax (iB (a_ ad ⟨g,1,ai⟩<|aG aE) a i r t u w x C A y p B j k/\eB (a_ ad ⟨g,1,ai⟩<|aG aE) g aB aE/\cL (λb=>b≠a/\b≠g) f (a_ ad ⟨g,1,ai⟩<|aG aE)) := ⟨aI.kept<|dJ _ _ _ _ h,J.set1 _,aH.trans<|cL.j9 _ λb d=>d.2⟩;by_cases bK:I=0;{
 subst bK;by_cases bL:n=41;{subst bL;go_wp2;exact lG (v:=bX #[]) (by simp[dr,results134]) af ⟨af,aI,by simpa using V J,aH⟩};{
 have bl:((n:Int) != 41)=aE:=by grind
 have q3:(R || !((0:Nat)==0&&n==41))=aE:=by grind
 exact Qx}};{
 have bl:((I:Int) != 0)=aE:=by grind
 have q3:(R || !(I==0&&n==41))=aE:=by grind
 exact Qx}
def aer{j:Nat}(k:j=U f.1)(d e:Int)(g:UInt8)(h:d_):∀(c:Nat) (i:bm),[ak am d,ak am e,ak ck<|be g][c]? = ag i->aD (aO f<|aS #[ak am d,ak am e,ak ck<|be g] h) (((M j 0):kC).add c)=ag i:=λc i a=>by
 subst k
 match c,a with
 | 0,a=>simp at a;subst a;simp[Addr.add]
 | 1,a=>simp at a;subst a;exact(bk.fF f [ak am d,ak am e,ak ck<|be g] h).cell 1 aA
 | 2,a=>simp at a;subst a;exact(bk.fF f [ak am d,ak am e,ak ck<|be g] h).cell 2 aA
 | l+3,a=>simp at a
def aes(c d:Int)(e:UInt8):∀b∈[ak am c,ak am d,ak ck<|be e],b.oneCell'=aE:=by intro b a;simp at a;rcases a with rfl|rfl|rfl<;>rfl
def aet:(aK.info? 174).map (λa=>(a.8,a.3,a.4))=ag (ag<|ci #[J 0,J 0,ak ck 0],3,24):=b8
def ajW:joinedFacts aK 12 Tryz.f12 (Rows.OpenSpec.upto Rows.machinesSpec).bare Rows.machinesUptoRow=aE:=by simp only[joinedFacts,fx];exact⟨⟨⟨⟨⟨⟨⟨⟨⟨⟨⟨⟨⟨⟨⟨⟨⟨⟨⟨⟨⟨⟨⟨⟨⟨⟨⟨⟨⟨⟨⟨bA,fz⟩,gg⟩,cD⟩,fB⟩,gE⟩,akx⟩,oH⟩,ajI⟩,wS⟩,BI⟩,BJ⟩,Na⟩,ajN⟩,Nq⟩,ajO⟩,ajP⟩,V6⟩,CK⟩,ajQ⟩,akw⟩,GU⟩,ajR⟩,ajS⟩,ajJ⟩,akE⟩,ajT⟩,ajU⟩,dS⟩,OW⟩,JO⟩,ajV⟩
def Zi:aK.funcNamed Rows.machinesUptoRow.3=ag 12:=b8
end Go.Proofs.YtkkpahmoljiepaaGreatDoor
