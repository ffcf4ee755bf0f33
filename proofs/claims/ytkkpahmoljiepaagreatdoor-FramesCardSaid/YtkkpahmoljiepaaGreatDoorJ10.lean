import Derived.Test.YtkkpahmoljiepaaGreatDoorJ09
import Derived.Test.YtkkpahmoljiepaaGreatDoorJ0h
set_option maxRecDepth 1000000
set_option maxHeartbeats 12800000
set_option linter.unusedSimpArgs false
set_option linter.unusedVariables false
namespace Go.Proofs.YtkkpahmoljiepaaGreatDoor
open Go.RowKit Go.Proofs.Tryz
structure bR(mb base:Nat)(w w':World):Prop where
 os:w'.os=w.os
 tape:w'.tape=w.tape
 output:w'.output=w.output
 size:w.heap.size<=w'.heap.size
 block:∀i,i<w.heap.size->i≠mb->(i<base\/((∀cur,w.heap[i]?≠some (.cells cur 5 (0,0)))/\∀cur,w.heap[i]?≠some (.cells cur 343 (0,0))))->w'.heap[i]? = w.heap[i]?
 kp:kQ mb w w'
section
variable {mb base:Nat} {A B C:World}
theorem bR.refl(mb base:Nat)(w:World):bR mb base w w:=⟨rfl,rfl,rfl,bb _,fun _ _ _ _=>rfl,kQ.refl _ _⟩
theorem bR.same{w:World}(a:bR mb base w A)(d:B.os=A.os)(e:B.tape=A.tape)(g:B.output=A.output)(h:A.heap.size<=B.heap.size)(c:∀b,b<w.heap.size->B.heap[b]? = A.heap[b]?):bR mb base w B :=
 ⟨d.trans a.os,e.trans a.tape,g.trans a.output,aZ a.size h,fun b ao i j=>(c b ao).trans (a.block b ao i j),a.kp.same c⟩
theorem bR.trans(h:bR mb base A B)(k:bR mb base B C):bR mb base A C :=
 ⟨k.os.trans h.os,k.tape.trans h.tape,k.output.trans h.output,aZ h.size k.size,fun d ao b c=>by
  have a:=h.block d ao b c;refine(k.block d (cp ao h.size) b ?_).trans a;rw[a];exact c,h.kp.trans k.kp h.size⟩
theorem bR.qB(a:ax A B):bR mb base A B:=⟨a.os,a.tape,a.output,a.size,fun b ao _ _=>a.block b ao,kQ.below a⟩
theorem bR.aeB(a:lK mb base A B):bR mb base A B:=⟨a.os,a.tape,a.output,a.size,fun d ao b c=>a.block d ao b (c.imp id And.left),a.kp⟩
theorem bR.keeps{w:World}{d:Nat}(b:bR mb base w A)(a:dz d A B)(e:w.heap.size<=d):bR mb base w B :=
 b.same a.os a.tape a.output a.size fun c ao=>a.block c (cp ao b.size) ae
theorem bT.tg{w w':World}(c:bT w)(b:bR mb base w w')(d:0<base)(g:0<mb):bT w':=by obtain⟨a,m,e⟩:=c;exact⟨cp a b.size,m,(b7 (b.block 0 a ae (.inl d))).trans e⟩
theorem bR.aeC{w w':World}(a:bR mb base w w'){l t k r:Value}(d:bJ w mb l t)(q:bJ w' mb k r){c i:Nat}(o:k.ownBlock=some c)(p:G5 l<=i)(u:base<=c){cur:Array Value}(e:w'.heap[c]? = some (.cells cur 5 (0,0)))(j:Value):bR mb base w (w'.setCell ⟨c,i,none⟩ j) :=
 ⟨a.os,a.tape,a.output,by simpa [World.setCell]using a.size,fun g ao d b=>by
  by_cases h:g=c
  ·subst h;have n:=a.block g ao d b;rcases b with b|b
   ·omega
   ·rw[n]at e;exact absurd e (b.1 cur)
  ·exact(bC _ _ _ _ h).trans (a.block g ao d b),a.kp.apF d q o p e j⟩
theorem bR.box{w w':World}(k:bR mb base w w'){c:Nat}{e:Array Value}{d:TypeId}(b:w.heap[c]? = some (.cells e d))(j:c≠mb)(h:d≠5)(i:d≠343):w'.heap[c]? = some (.cells e d) :=
 (k.block c (bn.1 b).1 j (.inr ⟨fun g a=>by rw[b]at a;simp at a;exact h a.2,fun g a=>by rw[b]at a;simp at a;exact i a.2⟩)).trans b
end
theorem td{w:World}{d:Nat}{g:Obj}(c:w.heap[d]? = some g)(e:∀i j f,g≠.cells i j f):(∀b,w.heap[d]?≠some (.cells b 5 (0,0)))/\∀b,w.heap[d]?≠some (.cells b 343 (0,0)) :=
 ⟨fun h a=>by rw[c]at a;exact e _ _ _ (cZ a),fun h a=>by rw[c]at a;exact e _ _ _ (cZ a)⟩
theorem bR.other{mb base:Nat}{w w':World}(h:bR mb base w w'){d:Nat}{b:Obj}(a:w.heap[d]? = some b)(e:d≠mb)(g:∀c i f,b≠.cells c i f):w'.heap[d]? = w.heap[d]? :=
 h.block d (bn.1 a).1 e (.inr (td a g))
abbrev cY:=List (ah×Nat)
def oC(w:World)(mb base d:Nat)(l:ah)(ps:cY):Prop:=∃b c,bJ w mb b c/\dA w base b l/\fY w base c ps/\(∀a,b.ownBlock=some a->a≠d)/\∀a,c.ownBlock=some a->a≠d
def cj(w:World)(mb base:Nat)(l:ah)(ps:cY):Prop:=∃a b,bJ w mb a b/\dA w base a l/\fY w base b ps
theorem n5{a:World}{base b:Nat}{v:Value}{ps:cY}(h:fY a base v ps)(hg:v.ownBlock=some b):∃cur,a.heap[b]? = some (.cells cur 343 (0,0)):=by exact BG
section
variable {w w':World} {mb base d:Nat} {l:ah} {ps:cY}
theorem oC.msg(a:oC w mb base d l ps):cj w mb base l ps:=by obtain⟨g,h,b,c,e,_⟩:=a;exact⟨g,h,b,c,e⟩
theorem cj.lt(h:cj w mb base l ps):mb<w.heap.size:=by obtain⟨b,c,a,_⟩:=h;exact a.lt
theorem cj.away(k:cj w mb base l ps)(g:(∀a,w.heap[d]?≠some (.cells a 5 (0,0)))/\∀a,w.heap[d]?≠some (.cells a 343 (0,0))):oC w mb base d l ps:=by obtain⟨o,p,n,h,i⟩:=k;refine⟨o,p,n,h,i,fun j e c=>?_,fun j e c=>?_⟩;{obtain⟨a,b⟩:=nZ h e;rw[c]at b;exact g.1 a b};{obtain⟨a,b⟩:=n5 i e;rw[c]at b;exact g.2 a b}
theorem cj.aqU(c:cj w mb base l ps)(e:w.heap.size<=d):oC w mb base d l ps:=c.away ⟨fun b a=>by have:=(bn.1 a).1;omega,fun b a=>by have:=(bn.1 a).1;omega⟩
theorem cj.below(c:cj w mb base l ps)(a:ax w w'):cj w' mb base l ps:=by obtain⟨g,h,b,d,e⟩:=c;exact⟨g,h,b.kept (a.block mb b.lt),eg d a,eg e a⟩
theorem oC.keeps(k:oC w mb base d l ps)(c:dz d w w')(n:mb≠d):oC w' mb base d l ps:=by obtain⟨o,p,e,g,h,i,j⟩:=k;exact⟨o,p,e.kept (c.block mb e.lt n),iv g fun a b=>c.block a (e9 g a b).2 (i a b),iv h fun a b=>c.block a (e9 h a b).2 (j a b),i,j⟩
theorem oC.put(a:oC w mb base d l ps)(o:Obj)(b:mb≠d):cj (w.putObj d o) mb base l ps:=(a.keeps (dz.put (d:=d) w d o) b).msg
end
theorem H5{w w':World}{mb base:Nat}{k c:Value}{ps:cY}(b:fY w base c ps)(i:bJ w mb k c)(j:lK mb base w w'):fY w' base c ps :=
 iv b fun d g=>by
  obtain⟨n,a⟩:=n5 b g;refine j.block d (e9 b d g).2 (fun h=>?_) (.inr fun l e=>?_)
  ·rw[h,i]at a;simp at a
  ·rw[a]at e;simp at e
theorem s3(mb base b d:Nat)(a:List kR)(l:ah)(ps:cY)(w:World)(y:cj w mb base l ps)(o:base<=w.heap.size)(k:∀f∈a,f.ry) (x:b<w.heap.size) (E:b≠mb) (j:b<base\/∀p,w.heap[b]?≠some (.cells p 5 (0,0))) (C:∀c (F:c<a.length),w.cell? (aq b c)=some (.iface a[c].t a[c].x))(z:a.length<=d) (t:a.length<=1000000) (u:l.length+(bv a).length<=1000000):az 139 #[aO mb,aF b 0 a.length d] w fun e w'=>e=.returned (.tuple #[])/\cj w' mb base (l++bv a) ps/\bR mb base w w':=by obtain⟨D,i,g,q,r⟩:=y;refine(ta mb base b d a D i l w g q o k x E j C z t u).mono ?_;rintro e w' ⟨rfl,⟨n,A,B⟩,h⟩;exact⟨rfl,⟨n,i,A,B,H5 r g h⟩,bR.aeB h⟩
def iQ(ps:cY)(b:ah)(a:Nat):cY:=if a<16384 then ps++[(b,a)]else ps
theorem H6(ps:cY)(b:ah)(a:Nat):(iQ ps b a).length<=ps.length+1:=by unfold iQ;split<;>simp
theorem RD(ps:cY)(b:ah)(a:Nat):ps.length<=(iQ ps b a).length:=by unfold iQ;split<;>simp
theorem RE(mb:Nat)(c:ah)(a:Nat)(w:World)(e:¬a<16384)(g:a<=1000000):az 202 #[aO mb,au c,ak (a:Int)] w fun b w'=>b=.returned (.tuple #[])/\w'=w:=by have d:¬(a:Int)<16384:=ae;go_enter func202,ntmps202;go_wp2;refine iI (v:=.tuple #[]) (by simp[results,results202]) rfl ?_;exact dX
def kC:cY->ah->Option Nat
 | [],_=>none
 | a::b,x=>if a.1==x then some a.2 else kC b x
theorem H7:∀(ps:cY) (d:ah),kC ps d=none->∀a (b:a<ps.length),(ps[a].1==d)=false
 | [],_,_,a,b=>by simp at b
 | h::g,d,c,a,b=>by
  unfold kC at c;split at c;{cases c};{
  rename_i e;match a,b with
  | 0,_=>simpa using e
  | a+1,b=>exact H7 g d c a (by simpa using b)}
theorem Ap:∀(ps:cY) (d:ah) (e:Nat),kC ps d=some e->∃c,∃n:c<ps.length,ps[c].2=e/\ps[c].1=d/\∀a (ao:a<c),(ps[a].1==d)=false
 | [],_,_,b=>by cases b
 | o::l,d,e,b=>by
  unfold kC at b;split at b;{rename_i g;exact⟨0,am,by simpa using b,by simpa using g,fun a ao=>ae⟩};{
  rename_i g;obtain⟨c,k,h,i,j⟩:=Ap l d e b;refine⟨c+1,by simpa using k,by simpa using h,by simpa using i,fun a ao=>?_⟩;match a,ao with
  | 0,_=>simpa using g
  | a+1,ao=>simpa using j a ae}
theorem RF(mb base:Nat)(g:ah)(D u:Value)(ps:cY)(w:World)(e:bJ w mb D u)(d:fY w base u ps)(h:∀r (J:r<ps.length),(ps[r].1==g)=false)(L:ps.length<=30000):az 339 #[aO mb,au g] w fun c w'=>c=.returned (.tuple #[ak 0,.bool false])/\ax w w':=by
 by_cases i:ps=[];{subst i;obtain⟨E,C,F,rfl⟩:=i8 d;obtain rfl:C=0:=by{obtain⟨_,⟨c,hz⟩|⟨g',cap',cur',c,_⟩⟩:=d;{cases c;rfl};{cases c;rfl}};have z:=e.cells.2;clear e d h;go_enter func339,ntmps339;go_wp2_with fail;refine wp_loop_rounds 1 ?_;rw[rounds_succ];go_wp2;go_ret2;exact⟨rfl,bk _ _⟩};obtain⟨n,G,rfl,q,I,o⟩:=IG d i;have z:=e.cells.2;have x:=af o;have y:=af h;clear e d o h i;go_enter func339,ntmps339;go_wp2_with fail;go_loopw [13] (fun j wr=>∃a:Nat,j=ak a/\a<=ps.length/\ax w wr) (fun j _=>ps.length-(intOf j).toNat);case atStart=>exact⟨0,rfl,b6 _,bk _ _⟩
 case round =>(
 obtain⟨a,rfl,K,b⟩:=hrel;have t:=af b;have A:=b.size;by_cases l:a<ps.length;{
 have M:(a:Int)<(ps.length:Int):=ae;obtain⟨k,ap⟩:=ag x a l;have cU:=(b.cell (p:=⟨n,a*2,none⟩) q).trans k;have H:=(b.cell (p:=⟨n,a*2+1,none⟩) q).trans ap;have B:((ai ps[a].1).toList==(ai g).toList)=(ps[a].1==g):=oi;clear k ap b;rw[ag y a l]at B;generalize ps[a].2=O at *;generalize ai ps[a].1=N at *;go_wp2_with fail;go_roundw;case rel=>exact⟨a+1,bq,ae,t.alloc A _⟩
 case measure=>exact gz};{obtain rfl:a=ps.length:=ae;clear b;go_wp2;go_ret2;exact⟨rfl,t⟩})
theorem RG(mb base:Nat)(a:ah)(l:ah)(ps:cY)(w:World)(p:cj w mb base l ps)(e:ps.length<=30000):az 339 #[aO mb,au a] w fun i w'=>i=.returned (.tuple #[ak ((kC ps a).getD 0:Nat),.bool (kC ps a).isSome])/\ax w w':=by
 obtain⟨g,h,b,t,c⟩:=p;cases d:kC ps a with
 | none=>exact RF mb base a g h ps w b c (H7 ps a d) e
 | some r =>{obtain⟨q,o,j,k,n⟩:=Ap ps a r d;have:=Rt mb base q a g h ps w b c o k n e;rw[j]at this;exact this}
section
variable {P:Program} {ops:Array Oper} {Q:Exit->Act->World->Prop} {S:World->Prop} {l:Nat}
def eU(Q:Exit->Act->World->Prop)(b:Exit)(a:Act)(w:World):Prop:=b=.normal/\Q .normal a w
theorem eU.nw{a:Exit}{b:Act}{w:World}(c:eU Q a b w)(d:a≠.normal):False:=d c.1
theorem eU.out(a:LetsOut (eU Q)):False:=by obtain⟨b,w,a⟩:=a;cases a.1
theorem RH{n:Nat}{j k:Act->World->Prop}(c:∀b w,j b w->k b w){b:Act}{w:World}(a:wpOp P ops (eU Q) n j b w):wpOpIn Fence.wide 0 P ops Q n k b w:=by
 unfold wpOp at a;unfold wpOpIn;split
 ·rename_i e;simp only[e]at a;exact c _ _ a
 ·rename_i r e;simp only[e]at a;split
  ·rename_i g;simp only[g,gC]at a;rcases a with a|⟨_,a⟩
   ·unfold Oper.wp at a;unfold Oper.wpIn;refine⟨fun _ _=>aL,?_⟩;rw[show Fence.wide.round=none from rfl,Oper.semAt_none];generalize (execOp b.eval r).run P w=h at *;cases h with
    | ok i w' =>
     cases i<;>simp only[Oper.upon]at a
     all_goals first
      | exact c _ _ a
      | exact a.elim
      | (refine⟨fun h'=>Cr,callsIn_wide.2 (a.mono fun q o d=>?_)⟩
         cases q with
         | returned v=>exact c _ _ d
         | panicked l=>exact(eU.nw d am).elim
         | outgrown=>exact(eU.out d).elim)
      | skip
     exact⟨fun h'=>Cr,fun l p _=>let ⟨v,o,h,s⟩:=a l p;⟨v,o,c _ _ h,stepsIn_wide.2 s⟩⟩
    | halt i w' =>
     cases i<;>simp only[Oper.upon]at a
     all_goals first
      | exact(eU.nw a am).elim
      | exact a.elim
   ·exact(eU.out a).elim
  ·rename_i g;simp only[g]at a;exact⟨fun _ _=>aL,c _ _ a⟩
theorem H8{e:Region.Mode}: ∀(b:Nat) (d:Array Bool) (c:Act) (w:World),wpAnyH P e ops (eU Q) S b d c w->wpAnyIn Fence.wide 0 P e ops Q b d c w
 | 0,_,_,_,a=>⟨a.1,a.2.2⟩
 | b+1,_,_,_,a=>⟨fun i=>(a.1 i).2,fun j ao=>RH (fun g w' h=>H8 b _ g w' h.2) (a.2 j ao)⟩
theorem H9{j:Nat}{a:Act}{w:World}(S:World->Prop)(h:P.follows .mixedOrders=true)(d:∀(i:Nat) (b:Oper),ops[i]? = some b->∀c,b.op≠.defer c)(g:S w.drew)(e:S w.drew->wpAnyH P .any ops (eU Q) S ops.size (Array.replicate ops.size false) a w.drew):(Code.region j ops true).wpIn (Fence.wide.inRound l) 0 P Q a w :=
 pi h d (H8 _ _ _ _ (e g))
end
section
attribute [local go_sem] Oper.semAt_some undef
def mn(a:ah):ah:=(Lib.cut a [46]).1
theorem zV(a b:ah)(c:(46:UInt8) ∉ a):mn (a++46::b)=a:=by unfold mn Lib.cut;rw[Lib.index_one,v6 46 a b c,ay ae];simp[pt]
theorem zW(l:ah)(a:(46:UInt8) ∉ l):mn l=l:=by unfold mn Lib.cut;rw[Lib.index_one,vZ 46 l a,ar ba]
theorem Rd(l:ah):(mn l).length+(eh l).length<=l.length:=by by_cases a:(46:UInt8)∈l;{obtain⟨b,c,rfl,d⟩:=sS a;rw[ot b c d,zV b c d];simp};{rw[pn l a,zW l a];simp}
theorem Aq:∀(f:Nat) (a:ah),a.length<=f->(bo a).length<=a.length
 | 0,a,c=>by obtain rfl:a=[]:=df ae;simp[i7]
 | f+1,a,c=>by by_cases b:a=[];{subst b;simp[i7]};{have d:=pc a b;rw[iO a b,bi];have:=Aq f (eh a) ae;omega}
def iw(a:ah):ah:=UInt8.ofNat (mn a).length::mn a
def jk(ps:cY):Prop:=∀a∈ps,a.2<16384
def dM:List ah->ah->cY->ah×cY
 | [],l,ps=>(l++[0],ps)
 | a::b,l,ps=>match kC ps a with
  | some n=>(l++ws n,ps)
  | none=>dM b (l++iw a) (iQ ps a l.length)
theorem s4{a:ah}{c:List ah}{l:ah}{ps:cY}{b:Nat}(d:kC ps a=some b):dM (a::c) l ps=(l++ws b,ps):=by rw[dM,d]
theorem s5{a:ah}{b:List ah}{l:ah}{ps:cY}(c:kC ps a=none):dM (a::b) l ps=dM b (l++iw a) (iQ ps a l.length):=by rw[dM,c]
theorem H_{ps:cY}(b:jk ps)(g:ah)(e:Nat):jk (iQ ps g e):=by intro c a;unfold iQ at a;split at a;{rename_i d;rw[dv]at a;rcases a with a|a;{exact b c a};{simp at a;subst a;exact d}};{exact b c a}
theorem Re{ps:cY}(d:jk ps){b:ah}{a:Nat}(e:kC ps b=some a):a<16384:=by obtain⟨h,g,c,_⟩:=Ap ps b a e;rw[<- c];exact d _ (bM g)
theorem Rg(mb base:Nat)(n:ah)(d:Nat)(l:ah)(ps:cY)(e k:Value)(w:World)(p:bJ w mb e k)(i:dA w base e l)(c:fY w base k ps)(y:base<=w.heap.size)(z:ps.length<=30000)(A:d<=1000000):az 202 #[aO mb,au n,ak (d:Int)] w fun a w'=>a=.returned (.tuple #[])/\∃h,bJ w' mb e h/\dA w' base e l/\fY w' base h (iQ ps n d)/\bR mb base w w':=by unfold iQ;split;{rename_i q;refine(IF mb base n d e k ps w p c y z q).mono ?_;rintro a w' ⟨rfl,h,B,C,_,D,b⟩;refine⟨rfl,h,B,iv i fun t u=>?_,C,b.os,b.tape,b.output,b.size,fun x ao E j=>?_,D⟩;{obtain⟨F,o⟩:=nZ i u;refine b.block t (e9 i t u).2 ⟨fun a=>?_,fun a=>?_⟩;{rw[a,p]at o;simp at o};{obtain⟨r,g⟩:=n5 c a.symm;rw[o]at g;simp at g}};{refine b.block x ao ⟨E,fun a=>?_⟩;rcases j with j|j;{have:=(e9 c x a.symm).1;omega};{obtain⟨r,g⟩:=n5 c a.symm;exact j.2 r g}}};{rename_i q;refine(RE mb n d w q A).mono ?_;rintro a w' ⟨rfl,rfl⟩;exact⟨rfl,k,p,i,c,bR.refl _ _ _⟩}
theorem Rh(mb base:Nat)(o:ah)(l:ah)(ps:cY)(w:World)(bb:cj w mb base l ps)(T:bT w)(cO:base<=w.heap.size)(a9:0<base)(bN:0<mb)(cw:o.length<=3000)(bB:jk ps)(cS:ps.length+o.length<=30000)(cQ:l.length<=60000):az 338 #[au o,aO mb] w fun j w'=>j=.returned (.tuple #[])/\cj w' mb base (dM (bo o) l ps).1 (dM (bo o) l ps).2/\bR mb base w w':=by
 refine(bK (n:=0)).1 ?_;refine callsIn_of_wp_marks func338 rfl aL ?_;simp only[ntmps338,ib,bi,cW,Nat.reduceAdd,Nat.reduceSub,h_,ik,im,il,dJ,dF];have ck:=af bb;have b1:=af T;have ce:=af bB;have cR:=bb.lt;have cP:=T.1;have ct:prog.follows .mixedOrders=true:=aB;have cL:=Aq _ o av;clear bb T bB;obtain⟨J,a8⟩:=a2 (dM (bo o) l ps);rw[<- a8];have cd:=af a8;clear a8;gi_wp2_with fail;refine⟨aL,rfl,?_⟩;refine(bK.2 (vr _ _)).mono ?_;rintro j b ⟨rfl,bG,a_,bF⟩;have cl:aW b w.heap.size (aO mb) 216:=(aW.mZ _ _ _).below a_ am;have aG:ax w b:=(aE.alloc av _).trans (a_.mono am);simp only[cv]at bG bF;have cV:w.heap.size+2<=b.heap.size:=ae;have cB:=af (ck.below aG);have cy:Hid (bR mb base w b):=bR.qB aG;have bm:=af (b1.below aG);clear bG aG a_;gi_wp2_with fail;have cs:∀V,ax b ((b.alloc (.deferred (some []))).alloc (.loop V)):=fun V=>(aE.alloc av _).alloc am _;refine Ao (xs:=bo o) (encs:=fun j:ah=>#[au j]) (St:=fun A B=>ax A B) (Kp:=fun A B=>A.heap.size<=B.heap.size/\B.heap[0]? = A.heap[0]?) (Kx:=fun _ _=>True) (gf:=241) (lb:=#[aO (w.heap.size+1)]) rfl (enters_of func241 aB rfl) (fun _=>rfl) ?seq [0] aA (fun A B h=>h) (fun A B h cm=>⟨cm,h _ am⟩) (fun _ _=>aL) (fun C a=>(∃g c e,(bo o).drop C=bo g/\J=dM (bo g) c e/\c.length+g.length<=l.length+o.length+C/\e.length<=ps.length+C/\jk e/\oC a mb base (b.heap.size+1) c e)/\bR mb base w a/\aW a w.heap.size (aO mb) 216/\bT a) (fun a4 a=>a4=.ret/\oC a mb base (b.heap.size+1) J.1 J.2/\bR mb base w a) (fun C A B h cn hk=>by{obtain⟨⟨g,c,e,r,t,aM,bg,aN,H⟩,F,D,co⟩:=h;refine⟨⟨g,c,e,r,t,aM,bg,aN,H.keeps hk ae⟩,F.keeps hk ae,aW.kept D (hk.block _ (aW.lt D) ae),?_⟩;obtain⟨bI,m,cr⟩:=co;exact⟨cp bI hk.size,m,(b7 (hk.block 0 bI ae)).trans cr⟩}) (fun a4 A B h cn hk=>⟨h.1,h.2.1.keeps hk ae,h.2.2.keeps hk ae⟩) ⟨⟨o,l,ps,rfl,cd,ae,ae,ce,cB.aqU ae⟩,cy,cl,bm⟩ ?round ?done ?stop;case seq =>(intro V;have T:=cs V;exact vv _ o _ ((T.cell (p:=⟨w.heap.size+1,0,none⟩) (by show w.heap.size+1<b.heap.size;omega)).trans bF) (bm.below T) cw)
 case round =>(
 intro ar C i cM a hy aj bQ bH bV;obtain⟨⟨g,c,e,r,t,aM,bg,aN,H⟩,F,D,aC⟩:=aj;have cX:=(fy.1 hy).1;have cD:=vq (ki hy);have aS:g≠[]:=by{intro h;subst h;rw[i7]at r;have:=bP List.length r;exact nh};have b8:i=g/\(bo o).drop (C+1)=bo (eh g):=by{
 rw[iO g aS]at r;have bJ:((bo o).drop C)[0]? = some i:=sC
 rw[r]at bJ;refine⟨by simpa using bJ.symm,?_⟩;rw[<- eR,r];rfl};obtain⟨rfl,bX⟩:=b8;rw[iO i aS]at t;have b_:=Rd i;have R:=RG mb base i c e a H.msg ae;have aD:=af F;have Y:=af D;have bs:=af aC;have bn:=af H;have cE:=H.msg.lt;have bC:=aW.cell D;have b4:=af bX;have bY:=af aN;have bZ:=af bH;have bh:=af bV;have ca:=F.size;clear F D aC H r bX bH bV hy;cases k:kC e i with
 | some G =>{
 have cC:=Re (ag bY) k;rw[k]at R;have aw:Hid (az 339 #[aO mb,au i] a (aP (.tuple #[ak (G:Int),.bool true]) a)):=R;rw[s4 k]at t;have ap:=af t;clear t k R;gi_wp2_with fail;refine⟨aL,?_⟩;gi_wp2_with fail;refine⟨aL,rfl,?_⟩;refine(CallsIn.inRound ar (bK.2 (ag aw))).mono ?_;rintro j y ⟨rfl,u⟩;have Q:=bn.msg.below u;have bS:=aW.below Y u (aW.lt (ag Y));have bO:=u.size;have aa:=aW.cell bS;have cb:=Rz G cC;have cu:IntKind.u16.wrap ((49152+G:Nat):Int)=((49152+G:Nat):Int):=iF
 have hnew:=World.alloc_heap_new y (.cells #[.iface 284 (.int .u16 ((49152+G:Nat):Int))] 297);have I:=af (s3 mb base y.heap.size 1 [cq (49152+G)] c e (y.alloc (.cells #[.iface 284 (.int .u16 ((49152+G:Nat):Int))] 297)) (Q.below (aE.alloc av _)) aA (fun f k=>by simp at k;subst k;exact gG _ ae) am (by have:=Q.lt;omega) (.inr fun bD h=>uF) (fun M x=>by{
 match M,x with
 | 0,_=>exact gA
 | M+1,x=>simp at x}) am am (by simp[bv,cq];omega))
 obtain⟨cA,bc⟩:=a2 (49152+G);rw[<- bc]at I cu cb;have ci:=af bc;have cf:=af u;clear bc hnew Q bS u aw bC;gi_wp2_with fail;refine⟨aL,rfl,?_⟩;refine(CallsIn.inRound ar (bK.2 (ag I))).mono ?_;rintro j q ⟨rfl,ao,W⟩;have X:=(bR.qB (ag cf)).trans ((bR.qB (aE.alloc av _)).trans W);have ab:=ag bZ;obtain⟨V,O⟩:=ag bh;have ad:q.heap[b.heap.size]? = a.heap[b.heap.size]?:=X.other ab ae (fun _ _ _ h=>by cases h);have P:q.heap[b.heap.size+1]? = a.heap[b.heap.size+1]?:=X.other O ae (fun _ _ _ h=>by cases h);have S:Hid (fi b.heap.size a q/\oC q mb base (b.heap.size+1) J.1 J.2/\bR mb base w q):=by{refine⟨⟨X.size,ad,P⟩,?_,aD.trans X⟩;rw[ag ap,show ws G=bv [cq cA] by rw[ag ci];rfl];exact ao.away (td (P.trans O) (fun _ _ _ h=>by cases h))};clear ao W X ab O ad P I;gi_wp2_with fail;exact⟨S.1,rfl,S.2⟩}
 | none =>{
 rw[k]at R;have aw:Hid (az 339 #[aO mb,au i] a (aP (.tuple #[ak 0,.bool false]) a)):=R;rw[s5 k]at t;have ap:=af t;clear t k R;gi_wp2_with fail;refine⟨aL,?_⟩;gi_wp2_with fail;refine⟨aL,rfl,?_⟩;refine(CallsIn.inRound ar (bK.2 (ag aw))).mono ?_;rintro j y ⟨rfl,u⟩;obtain⟨cH,b3,aJ,Z,cx⟩:=bn.msg.below u;have aY:=aW.below Y u (aW.lt (ag Y));have bO:=u.size;have aa:=aW.cell aY;obtain⟨b6,cz,ch,rfl⟩:=i8 Z;obtain rfl:cz=c.length:=by{obtain⟨_,⟨j,hz⟩|⟨g',cap',cur',j,_⟩⟩:=Z;{cases j;omega};{cases j;rfl}};have bt:=aJ.cells.1;have ay:ax y y.drew:=aE.drew;have bu:aW y.drew w.heap.size (aO mb) 216:=aY;have bp:=af (Rg mb base i c.length c e _ b3 y.drew (aJ.kept rfl) (eg Z ay) (eg cx ay) (by show base<=y.heap.size;omega) ae ae);have bq:bR mb base a y.drew:=bR.qB (u.trans (ay.mono bO));have bW:=af bq;have cU:=af (aQ aJ (aQ Z cx));clear aJ Z cx u ay bq aw bC;gi_wp2_with fail;refine H9 (fun a=>a.cell? (aq w.heap.size 0)=some (aO mb)/\a.cell? (aq mb 0)=some (.slice b6 c.length ch)) ct (m4 aB) ⟨aa,bt⟩ fun E=>?_;refine gP 0 E (fun _ _ _ h=>(eU.nw h am).elim) ?_;refine gP 1 E (fun _ _ _ h=>(eU.nw h am).elim) ?_;refine gP 2 E (fun _ _ _ h=>(eU.nw h am).elim) ?_;refine gP 3 E (fun _ _ _ h=>(eU.nw h am).elim) ?_;refine gP 4 E (fun _ _ _ h=>(eU.nw h am).elim) ?_;refine gP 5 E (fun _ _ _ h=>(eU.nw h am).elim) ?_;refine gP 6 E (fun _ _ _ h=>(eU.nw h am).elim) ?_;refine ec (rs:=[7]) aB am (dr rfl (fun b2 bM=>?_) eb);go_simp;refine bp.mono ?_;rintro j q ⟨rfl,cN,bd,bA,bU,aH⟩;have aR:=aH.box bu ae ba ba;refine bM.out _ _ ⟨aW.cell aR,bd.cells.1⟩ (fun E=>?_);clear bM b2 E;refine mz aB ?_ _;refine⟨rfl,?_⟩;have bw:=(bs.tg (bW.trans aH) a9 bN);have N:=bW.trans aH;have cI:=N.size;have bl:=af (P_ i q bw ae);have bx:Hid (cj q mb base c (iQ e i c.length)):=⟨_,_,bd,bA,bU⟩;have aZ:=af aR;have b5:=af N;have aK:=aW.cell aR;clear bd bA bU aH aR N bw bp aa bt aY bu;gi_wp2_with fail;refine⟨aL,rfl,?_⟩;refine(CallsIn.inRound ar (bK.2 (ag bl))).mono ?_;rintro j aX ⟨rfl,an⟩;have bj:Hid ((Lib.cut i [46]).1=mn i):=rfl;rw[ag bj];have a0:=bx.below an;have a1:=aW.below aZ an (aW.lt (ag aZ));have b9:=aW.cell a1;have cT:=an.size;have cF:=H6 e i c.length;obtain⟨z,be⟩:=a2 (mn i);have aU:Hid (iw i=UInt8.ofNat z.length::z):=by rw[be];rfl
 rw[<- be]at b_ ⊢;obtain⟨U,bf⟩:=a2 (UInt8.ofNat z.length);have cJ:IntKind.u8.wrap (z.length:Int)=(U.toNat:Int):=by rw[sO,bf,iZ];omega
 rw[<- bf]at aU;have cG:=a7 z;have hnew:=World.alloc_heap_new aX (.cells #[.iface 292 (.int .u8 U.toNat),.iface 224 (.string (ai z))] 297);have I:=af (s3 mb base aX.heap.size 2 [gc U,bE z] c _ (aX.alloc (.cells #[.iface 292 (.int .u8 U.toNat),.iface 224 (.string (ai z))] 297)) (a0.below (aE.alloc av _)) aA (fun f k=>by{simp at k;rcases k with rfl|rfl;{exact mj _};{exact fu _}}) am (by have:=a0.lt;omega) (.inr fun bD h=>uF) (fun M x=>by{
 match M,x with
 | 0,_=>exact gA
 | 1,_=>exact gA
 | M+2,x=>simp at x;omega}) am am (by simp[bv,gc,bE];omega))
 have br:=b5.trans (bR.qB an);have cc:=af br;have cK:=af a1;clear be bf hnew a0 a1 an br bl bx aZ aK bj;gi_wp2_with fail;refine⟨aL,rfl,?_⟩;refine(CallsIn.inRound ar (bK.2 (ag I))).mono ?_;rintro j L ⟨rfl,bk,bz⟩;have K:=cc.trans ((bR.qB (aE.alloc av _)).trans bz);have ab:=ag bZ;obtain⟨V,O⟩:=ag bh;have ad:L.heap[b.heap.size]? = a.heap[b.heap.size]?:=K.other ab ae (fun _ _ _ h=>by cases h);have P:L.heap[b.heap.size+1]? = a.heap[b.heap.size+1]?:=K.other O ae (fun _ _ _ h=>by cases h);have S:Hid (fi b.heap.size a L/\(∀aI∈[0],L.heap[aI]? = a.heap[aI]?)/\(∃g c e,(bo o).drop (C+1)=bo g/\J=dM (bo g) c e/\c.length+g.length<=l.length+o.length+(C+1)/\e.length<=ps.length+(C+1)/\jk e/\oC L mb base (b.heap.size+1) c e)/\bR mb base w L/\aW L w.heap.size (aO mb) 216/\bT L):=by{
 refine⟨⟨K.size,ad,P⟩,fun aI hk=>?_,⟨eh i,c++iw i,_,b4,ap,?_,ae,H_ (ag bY) _ _,?_⟩,aD.trans K,K.box (ag Y) ae ba ba,bs.tg K a9 bN⟩;{
 obtain rfl:aI=0:=qt
 exact K.block 0 ae ae (.inl a9)};{rw[ag aU,a6,bi];omega};{
 rw[ag aU];have:c++bv [gc U,bE z]=c++U::z:=by simp[bv,gc,bE]
 rw[<- this];exact bk.away (td (P.trans O) (fun _ _ _ h=>by cases h))}};clear bk bz K ab O ad P I;gi_wp2_with fail;exact⟨S.1,S.2.1,S.2.2⟩})
 case done =>(
 intro a aj ac bQ;obtain⟨⟨g,c,e,r,t,aM,bg,aN,H⟩,F,D,aC⟩:=aj;have aS:g=[]:=by{rw[kN]at r;by_cases h:g=[];{exact h};{rw[iO g h]at r;cases r}};subst aS;rw[i7]at t;have aa:=aW.cell D;have Q:=H.msg;have ca:=F.size;have hnew:=World.alloc_heap_new a (.cells #[.iface 292 (.int .u8 (0:UInt8).toNat)] 297);have I:Hid (az 139 #[aO mb,aF a.heap.size 0 1 1] (a.alloc (.cells #[.iface 292 (.int .u8 0)] 297)) fun j w'=>j=.returned (.tuple #[])/\cj w' mb base (c++[0]) e/\bR mb base (a.alloc (.cells #[.iface 292 (.int .u8 0)] 297)) w') := s3 mb base a.heap.size 1 [gc 0] c e (a.alloc (.cells #[.iface 292 (.int .u8 (0:UInt8).toNat)] 297)) (Q.below (aE.alloc av _)) aA (fun f k=>by simp at k;subst k;exact mj _) am (by have:=Q.lt;omega) (.inr fun bD h=>uF) (fun M x=>by{
 match M,x with
 | 0,_=>exact gA
 | M+1,x=>simp at x}) am am (by simp[bv,gc];simp at aM;omega)
 have ap:=af t;have aD:=af F;have aT:=af ac;clear r t F D aC H Q hnew ac;gi_wp2_with fail;refine⟨aL,rfl,?_⟩;refine(bK.2 (ag I)).mono ?_;rintro j q ⟨rfl,ao,W⟩;have N:=(bR.qB (aE.alloc av _)).trans W;have aV:q.heap[b.heap.size]? = some (.deferred (some [])):=(N.other (ag aT) ae (fun _ _ _ h=>by cases h)).trans (ag aT);have al:=ao.away (d:=b.heap.size) (td aV (fun _ _ _ h=>by cases h));have a3:Hid (oC q mb base b.heap.size J.1 J.2/\bR mb base w q/\q.heap[b.heap.size]? = some (.deferred (some []))):=⟨by rw[ag ap];exact al,aD.trans N,aV⟩;clear ao W N aV al I aT aa;gi_wp2_with fail;refine⟨am,.inl ⟨_,_,rfl,run_takeDeferred a3.2.2,?_⟩⟩;exact⟨.tuple #[],by simp[results,results338],rfl,a3.1.put _ ae,a3.2.1.keeps (dz.put (d:=b.heap.size) q b.heap.size (.deferred none)) ae⟩)
 case stop =>(intro a4 a aj ac bQ;obtain⟨rfl,a5,bL⟩:=aj;have b0:=af (aQ a5 bL);have al:=a5.msg.away (d:=b.heap.size) (td ac (fun _ _ _ h=>by cases h));have cg:=af al;clear a5 bL al;gi_wp2_with fail;refine⟨am,.inl ⟨_,_,rfl,run_takeDeferred ac,?_⟩⟩;exact⟨.tuple #[],by simp[results,results338],rfl,cg.put _ ae,b0.2.keeps (dz.put (d:=b.heap.size) a b.heap.size (.deferred none)) ae⟩)
end
def aeP(mb base:Nat)(b:World->Prop)(d:FuncId)(e:Value)(a:ah->cY->ah×cY):Prop:=∀(l:ah) (ps:cY) (w:World),b w->cj w mb base l ps->base<=w.heap.size->jk ps->(a l ps).1.length<=50000->(a l ps).2.length<=20000 ->
 az d #[e,aO mb] w fun c w'=>c=.returned (.tuple #[])/\cj w' mb base (a l ps).1 (a l ps).2/\bR mb base w w'
structure eF where
 t:TypeId
 x:Value
 fn:FuncId
 Bk:ah->cY->ah×cY
structure eF.zH(f:eF)(mb base:Nat)(I:World->Prop):Prop where
 meth : ∀ W : World, (method 521 f.t f.x "beacon/wire.writeTo").run prog W = .ok (f.fn, f.x) W
 call:∀(args:Array Value) (W:World),(callFunc f.fn args).run prog W=.ok (.enter f.fn args) W
 wr:aeP mb base I f.fn f.x f.Bk
 Rn:∀l ps,l.length<=(f.Bk l ps).1.length/\ps.length<=(f.Bk l ps).2.length/\(jk ps->jk (f.Bk l ps).2)
def cL(a:List eF)(l:ah)(ps:cY):ah×cY:=a.foldl (fun s f=>f.Bk s.1 s.2) (l,ps)
def rJ(mb base:Nat)(a:World->Prop):Prop:=∀w w',a w->bR mb base w w'->a w'
def h8(mb:Nat)(w:World)(g:Nat)(b:List eF):Prop:=g≠mb/\(∃d c,w.heap[g]? = some (.cells d c)/\c≠5/\c≠343)/\∀a (e:a<b.length),w.cell? (aq g a)=some (.iface b[a].t b[a].x)
theorem h8.tg{mb base c:Nat}{b:List eF}{w w':World}(j:h8 mb w c b)(n:bR mb base w w'):h8 mb w' c b:=by obtain⟨d,⟨i,p,e,g,h⟩,k⟩:=j;have a:=n.box e d g h;exact⟨d,⟨i,p,a,g,h⟩,fun o l=>(b7 (a.trans e.symm)).trans (k o l)⟩
theorem Ia(l:ah)(ps:cY):cL [] l ps=(l,ps):=rfl
theorem wt(f:eF)(a:List eF)(l:ah)(ps:cY):cL (f::a) l ps=cL a (f.Bk l ps).1 (f.Bk l ps).2:=rfl
theorem Ib(a b:List eF)(l:ah)(ps:cY):cL (a++b) l ps=cL b (cL a l ps).1 (cL a l ps).2:=by unfold cL;rw[mG]
theorem Ic(a:List eF)(b:Nat)(c:b<a.length)(l:ah)(ps:cY):cL (a.take (b+1)) l ps=a[b].Bk (cL (a.take b) l ps).1 (cL (a.take b) l ps).2:=by rw[du c,Ib];rfl
theorem rL{mb base:Nat}{c:World->Prop}: ∀(a:List eF),(∀f∈a,f.zH mb base c)->∀l ps,l.length<=(cL a l ps).1.length/\ps.length<=(cL a l ps).2.length/\(jk ps->jk (cL a l ps).2)
 | [],_,l,ps=>⟨bb _,bb _,id⟩
 | f::a,b,l,ps=>by have e:=(b f am).Rn l ps;have g:=rL a (fun d h=>b d (by simp[h])) (f.Bk l ps).1 (f.Bk l ps).2;rw[wt];exact⟨ae,ae,fun b=>g.2.2 (e.2.2 b)⟩
theorem Sp{mb base:Nat}{c:World->Prop}(a:List eF)(d:∀f∈a,f.zH mb base c)(l:ah)(ps:cY)(b:Nat):(cL (a.take b) l ps).1.length<=(cL a l ps).1.length/\(cL (a.take b) l ps).2.length<=(cL a l ps).2.length:=by
 have e:cL a l ps=cL (a.drop b) (cL (a.take b) l ps).1 (cL (a.take b) l ps).2:=by rw[<- Ib,ft]
 have:=rL (a.drop b) (fun f g=>d f (vF g)) (cL (a.take b) l ps).1 (cL (a.take b) l ps).2;rw[e];exact⟨this.1,this.2.1⟩
theorem AH(mb base k x:Nat)(i:World->Prop)(a:List eF)(l:ah)(ps:cY)(w:World)(A:i w)(C:rJ mb base i)(B:cj w mb base l ps)(T:base<=w.heap.size)(D:jk ps)(u:∀f∈a,f.zH mb base i) (h:h8 mb w k a) (Y:a.length<=x) (U:a.length<=1000000) (X:(cL a l ps).1.length<=50000) (Z:(cL a l ps).2.length<=20000):az 139 #[aO mb,aF k 0 a.length x] w fun y w'=>y=.returned (.tuple #[])/\cj w' mb base (cL a l ps).1 (cL a l ps).2/\bR mb base w w':=by
 have J:=af B;have j:=af u;have G:=af h;have M:=af A;have H:=af C;have P:=af D;have ab:k<w.heap.size:=by obtain⟨_,⟨S,ac,N,_⟩,_⟩:=h;exact(bn.1 N).1
 clear B u h A C D;go_enter func139,ntmps139;go_wp2_with fail;go_loopw [8] (fun p wr=>∃(b:Nat),p=ak b/\b<=a.length/\cj wr mb base (cL (a.take b) l ps).1 (cL (a.take b) l ps).2/\bR mb base w wr) (fun p _=>a.length-(intOf p).toNat);case atStart=>exact⟨0,rfl,b6 _,J,bR.refl _ _ _⟩
 case round =>(obtain⟨b,rfl,W,F,o⟩:=hrel;have E:=af F;have g:=af o;have aa:=o.size;clear F o;by_cases e:b<a.length;{have V:=(G.tg (ag g)).2.2 b e;have d:=ag j a[b] (bM e);have I:=af (Ic a b e l ps);have c:=Sp a (ag j) l ps (b+1);rw[Ic a b e l ps]at c;have q:=(rL (a.take b) (fun f O=>ag j f (mJ O)) l ps).2.2 (ag P);generalize a[b]=f at *;have R:=d.meth;have Q:=d.call;have r:=af (d.wr _ _ wr (H w wr M g) (ag E) ae q ae ae);clear d c q;go_wp2_with fail;refine r.mono ?_;rintro y ad ⟨rfl,c,z⟩;rw[<- ag I]at c;have t:=af (aQ c (g.trans z));clear c z r;go_wp2;exact⟨⟨b+1,bq,ae,t.1,t.2⟩,ci⟩};{have K:b=a.length:=ae;subst K;have n:=ag E;rw[dK]at n;have L:=af n;clear n;go_wp2;refine iI (v:=.tuple #[]) (by simp[results,results139]) rfl ?_;exact⟨rfl,L,g⟩})
def fa(f:kR):eF:=⟨f.t,f.x,f.fn,fun l ps=>(l++f.out,ps)⟩
theorem iR{f:kR}(a:f.ry)(mb base:Nat)(e:World->Prop):(fa f).zH mb base e where
 meth:=a.1
 call:=a.2.1
 wr:=fun l ps w _ n h _ k _=>by
  obtain⟨q,d,b,i,j⟩:=n;simp only[fa,a6]at k;refine(a.2.2 mb base q d l w b i h ae).mono ?_;rintro r w' ⟨rfl,⟨g,o,p⟩,c⟩;exact⟨rfl,⟨g,d,o,p,H5 j b c⟩,bR.aeB c⟩
 Rn:=fun l ps=>⟨by simp[fa],bb _,id⟩
def lp(a:ah):eF:=⟨291,au a,338,fun l ps=>dM (bo a) l ps⟩
theorem wu:∀(a:List ah) (l:ah) (ps:cY),l.length<=(dM a l ps).1.length/\ps.length<=(dM a l ps).2.length/\(jk ps->jk (dM a l ps).2)
 | [],l,ps=>⟨by simp[dM],bb _,id⟩
 | b::a,l,ps=>by
  cases d:kC ps b with
  | some h=>rw[s4 d];exact⟨am,bb _,id⟩
  | none =>{rw[s5 d];have c:=wu a (l++iw b) (iQ ps b l.length);have g:=RD ps b l.length;rw[a6]at c;exact⟨ae,ae,fun e=>c.2.2 (H_ e _ _)⟩}
theorem rM(a:ah)(p:a.length<=300)(mb base:Nat)(b:World->Prop)(c:∀w,b w->bT w)(g:0<base)(j:0<mb):(lp a).zH mb base b where
 meth:=RA _
 call:=RB
 wr:=fun l ps w e i d n h k=>by
  have o:=wu (bo a) l ps;exact Rh mb base a l ps w i (c w e) d g j ae n (by have:(dM (bo a) l ps).2.length<=20000:=k;omega) (by have:(dM (bo a) l ps).1.length<=50000:=h;omega)
 Rn:=fun l ps=>wu (bo a) l ps
def mN(l:ah)(b:Nat)(a:Nat):ah:=(l.set b (ao a)).set (b+1) (aV a)
theorem AI(l:ah)(b a:Nat):(mN l b a).length=l.length:=by simp[mN]
def mP(a:List eF)(l:ah)(ps:cY):ah×cY :=
 (mN (cL a (l++[0,0]) ps).1 l.length ((cL a (l++[0,0]) ps).1.length-(l.length+2)),(cL a (l++[0,0]) ps).2)
def wv(c b:Nat)(a:List eF):eF:=⟨293,aF c 0 a.length b,342,mP a⟩
theorem Sq(mb base N L:Nat)(n:World->Prop)(d:List eF)(ar:rJ mb base n)(ak:∀w,n w->h8 mb w N d)(J:∀f∈d,f.zH mb base n)(aW:d.length<=L)(aR:d.length<=1000000):aeP mb base n 342 (aF N 0 d.length L) (mP d):=by
 intro l ps w aa Q a_ aB r t;have i:=rL d J (l++[0,0]) ps;rw[a6]at i;simp only[bi,cW]at i;simp only[mP,AI]at r t;have M:=af Q;have ab:=af aa;have F:=af ar;have aP:=af ak;have aN:=af J;have aX:=af aB;have bd:=Q.lt;clear Q aa ar ak J aB;go_enter func342,ntmps342;go_wp2_with fail;have hnew:=World.alloc_heap_new w (.cells #[.iface 284 (.int .u16 0)] 297);refine(s3 mb base w.heap.size 1 [cq 0] l ps _ (M.below (aE.alloc av _)) aA ?_ am ae (.inr ?_) ?_ am am ?_).mono ?_;{intro f an;simp at an;subst an;exact gG _ ae};{intro cur h;exact yg};{
 intro ax P;match ax,P with
 | 0,_=>exact gA
 | ax+1,P=>simp at P};{simp[bv,cq];omega};rintro p E ⟨rfl,y,q⟩;have x:=af ((bR.qB (aE.alloc av _)).trans q);have T:Hid (cj E mb base (l++[0,0]) ps):=y;have aY:Hid (∃D U,bJ w mb D U/\G5 D=l.length):=by{obtain⟨D,U,A,B,_⟩:=ag M;exact⟨D,U,A,Rv B⟩};clear y q hnew M;obtain⟨a0,a3,az,aC,cK⟩:=ag T;obtain⟨bc,a8,aZ,rfl,aQ,aJ,aS,_⟩:=An aC am;have K:=az.cells.1;have be:=x.size;rw[a6]at K;simp only[bi,cW]at K;have ah:=af (AH mb base N L n d (l++[0,0]) ps E (F w E ab x) (ag F) (ag T) ae (ag aX) (ag aN) (aP _ (F w E ab x)) aW aR r t);clear aJ aQ az aC cK aS;go_wp2_with fail;refine ah.mono ?_;rintro p c ⟨rfl,y,q⟩;have aK:=af (x.trans q);clear q ah K;obtain⟨a1,aI,u,e,cx⟩:=y;obtain⟨C,G⟩:=a2 (cL d (l++[0,0]) ps);have H:Hid (mP d l ps=(mN C.1 l.length (C.1.length-(l.length+2)),C.2)):=by rw[Hid,G];rfl
 rw[<- G]at i r t e cx;obtain⟨g,aD⟩:=C;simp only at i r t e cx H;have ap:g≠[]:=by intro h;subst h;simp at i
 obtain⟨b,a9,aL,rfl,al,o,aT,bh⟩:=An e ap;have aM:=u.cells.1;have aG:mb≠b:=fun p=>by{rw[bJ,p,o]at u;simp at u};have bf:c.frozen? (aq b l.length)=false:=by simp[World.frozen?,o]
 have bg:∀k,(c.setCell ⟨b,l.length,none⟩ k).frozen? (aq b (l.length+1))=false:=fun k=>by{simp[World.frozen?,World.setCell,j0,o]};have au:∃k,c.cell? (aq b l.length)=some (.int .u8 k):=⟨_,by{rw[kj e l.length ae];rw[nR,dV ae];rfl}⟩;have aw:∃k,c.cell? (aq b (l.length+1))=some (.int .u8 k):=⟨_,by{rw[kj e (l.length+1) ae];rw[nR,dV ae];rfl}⟩;obtain⟨u0,au⟩:=au;obtain⟨u1,aw⟩:=aw;obtain⟨a,O⟩:∃a,g.length=l.length+2+a:=⟨g.length-(l.length+2),ae⟩;have ac:g.length-(l.length+2)=a:=ae;rw[ac]at H;have S:=af o;have aO:=af e;have R:=af u;have aH:=af cx;have a4:=af O;have aU:l.length<g.length:=ae;have bb:l.length+1<g.length:=ae;rw[O]at aM aT;clear o e u cx G;have ba:(l.length:Int)+2+(a:Int)-((l.length:Int)+2)=(a:Int):=ae;have a5:l.length+a+2<=60000:=ae;clear i r t O ac ap T;go_wp2_with fail;go_region;have ai:(a:Int)/256=((ao a).toNat:Int):=BM
 have aj:(a:Int)%256=((aV a).toNat:Int):=Cv
 rw[ai,aj];have V:=H4 (H4 (ag aO) l.length (ao a) aU) (l.length+1) (aV a) aA;have I:∀j,j≠b->((c.setCell ⟨b,l.length,none⟩ (.int .u8 (ao a).toNat)).setCell ⟨b,l.length+1,none⟩ (.int .u8 (aV a).toNat)).heap[j]? = c.heap[j]?:=fun j z=>(bC _ _ _ _ z).trans (bC _ _ _ _ z);have W:=R.kept (w':=((c.setCell ⟨b,l.length,none⟩ (.int .u8 (ao a).toNat)).setCell ⟨b,l.length+1,none⟩ (.int .u8 (aV a).toNat))) (I mb aG);have X:fY ((c.setCell ⟨b,l.length,none⟩ (.int .u8 (ao a).toNat)).setCell ⟨b,l.length+1,none⟩ (.int .u8 (aV a).toNat)) base aI aD:=iv (ag aH) fun j z=>I j fun p=>by{obtain⟨cur,ad⟩:=n5 (ag aH) z;rw[p,ag S]at ad;simp at ad};have Y:bR mb base w ((c.setCell ⟨b,l.length,none⟩ (.int .u8 (ao a).toNat)).setCell ⟨b,l.length+1,none⟩ (.int .u8 (aV a).toNat)):=by{obtain⟨bj,a7,A,B⟩:=ag aY;exact(aK.aeC A (ag R) rfl (Nat.le_of_eq B) al (ag S) _).aeC A (R.kept (bC _ _ _ _ aG)) rfl (by rw[B];omega) al (cur:=aL.setIfInBounds l.length (.int .u8 (ao a).toNat)) (by simp only[World.setCell];rw[j0,ay rfl,ag S];rfl) _};have Z:Hid (cj ((c.setCell ⟨b,l.length,none⟩ (.int .u8 (ao a).toNat)).setCell ⟨b,l.length+1,none⟩ (.int .u8 (aV a).toNat)) mb base (mN g l.length a) aD/\bR mb base w ((c.setCell ⟨b,l.length,none⟩ (.int .u8 (ao a).toNat)).setCell ⟨b,l.length+1,none⟩ (.int .u8 (aV a).toNat))):=⟨⟨_,_,W,V,X⟩,Y⟩;clear V W X Y ai aj I;generalize ((c.setCell ⟨b,l.length,none⟩ (.int .u8 (ao a).toNat)).setCell ⟨b,l.length+1,none⟩ (.int .u8 (aV a).toNat))=bk at *;go_wp2_with fail;refine iI (v:=.tuple #[]) (by simp[results,results342]) rfl ?_;refine⟨rfl,?_,Z.2.trans (bR.qB aE.drew)⟩;rw[ag H];exact Z.1.below aE.drew
theorem Id(mb base d c:Nat)(b:World->Prop)(a:List eF)(k:rJ mb base b)(h:∀w,b w->h8 mb w d a)(g:∀f∈a,f.zH mb base b)(j:a.length<=c)(i:a.length<=1000000):(wv d c a).zH mb base b where
 meth:=Rw _ _ _
 call:=Rx
 wr:=Sq mb base d c b a k h g j i
 Rn:=fun l ps=>by
  have e:=rL a g (l++[0,0]) ps;rw[a6]at e;refine⟨?_,e.2⟩;show l.length<=(mN _ _ _).length;rw[AI];have:=e.1;simp at this;omega
def kq(w:World)(base:Nat)(v:Value)(a:List kR):Prop:=w.ownsRow base 297 1 v a.length (a.map fun f=>.iface f.t f.x)
theorem Ie:(prog.info? 297).map (fun a=>(a.zero,a.size,a.bytes))=some (some .nilIface,1,16):=aB
theorem Sr:prog.underlying 293=some (.slice 297):=aB
theorem Ss(w:World)(a:TypeId)(s:ByteArray):ax w (Lib.bytesWorld w a s):=Go.Joins.below_bytesWorld _ _ _ _ av
theorem ww(s:ByteArray)(a:Nat)(w:World)(i:s.size<=3000)(b:Lib.parseUintB 64 s.data.toList=.ok a):az 280 #[.string s] w (aP (.int .u64 (a:Int)) w):=by have d:=af (Tryz.strconv_ParseUint_10_at64_ok s ae a b w);clear b;go_enter func280,ntmps280;go_wp2_with fail;refine d.mono ?_;rintro h g ⟨rfl,c⟩;have e:ax w g:=by{rcases c with rfl|rfl;{exact bk _ _};{exact Ss _ _ _}};clear c;go_wp2;go_ret;exact⟨rfl,e⟩
def tP(d:ah)(a:List Nat):Prop:=(aC 46 d).map (Lib.parseUintB 64)=a.map .ok
def gM(b:List Nat):List kR:=b.map fun a=>gc (UInt8.ofNat a)
theorem Su(d:ah)(b:List Nat)(w:World)(H:bT w)(aL:d.length<=3000)(r:tP d b):az 281 #[au d] w fun u w'=>(∃v,u=.returned v/\kq w' w.heap.size v (gM b))/\ax w w':=by
 obtain⟨an,ao,aj,al,am⟩:=fO Ie;have aa:=tp w (Cy 46 (ai d));have P:=l1 (ai d) 46 w H gB;have y:ax w (w.alloc (.cells ((Cy 46 (ai d)).map Value.string).toArray 9)):=aE.alloc av _;have ay:Hid (∀h∈Cy 46 (ai d),h.size<=3000):=fun h ad=>by{have:=tn 46 (ai d) h ad;rw[a7]at this;omega};have F:Hid ((Cy 46 (ai d)).map (fun h=>Lib.parseUintB 64 h.data.toList)=b.map .ok):=by{have:=kY 46 (ai d);rw[jC]at this;unfold tP at r;rw[<- this,fT]at r;exact r};have z:(Cy 46 (ai d)).length=b.length:=by{have:=bP List.length (ag F);simpa using this};have aN:b.length<=3001:=by{have:=iq 46 (ai d).data.toList;rw[<- kY,bD,jC]at this;omega};generalize Cy 46 (ai d)=e at *;generalize w.alloc (.cells (e.map Value.string).toArray 9)=c at *;have E:=af P;have R:=af y;have S:=y.size;rw[z]at E;clear P y;obtain⟨ac,G⟩:=aa;have X:=af G;have Q:=af z;clear G z r H;go_enter func281,ntmps281;go_wp2_with (go_at_call 97;refine E.mono ?_;rintro u c ⟨rfl,rfl⟩);go_loopw [9,3] (fun B v wr=>∃(a:Nat) (j:Option Addr) (i k:Nat),B=ak a/\v=.slice j i k/\a<=b.length/\kq wr c.heap.size (.slice j i k) (gM (b.take a))/\ax c wr) (fun B _ _=>b.length-(intOf B).toNat);case atStart=>exact⟨0,none,0,0,rfl,rfl,b6 _,e8 _ _ _ _,bk _ _⟩
 case round =>(
 obtain⟨a,j,i,k,rfl,rfl,aM,L,o⟩:=hrel;have M:=af L;have K:=af o;have Z:=o.size;clear L;by_cases A:a<b.length;{
 have t:a<e.length:=by rw[ag Q];exact A
 have ab:=(o.cell (p:=⟨w.heap.size,0+a,none⟩) ac).trans ((ag X) a t);rw[cT]at ab;have aP:(a:Int)<(b.length:Int):=ae;have C:Lib.parseUintB 64 e[a].data.toList=.ok b[a]:=by{have:=bP (fun l:List _=>l[a]?) (ag F);simpa [t,A]using this};have V:=af (ww e[a] b[a] wr (ay e[a] (bM t)) C);have W:Hid (gM (b.take (a+1))=gM (b.take a)++[gc (UInt8.ofNat b[a])]):=by{rw[Hid,gM,du A,d0];rfl};have J:(b[a]:Int)%256=((UInt8.ofNat b[a]).toNat:Int):=by{rw[iZ];omega};have aJ:=af J;have aC:(gM (b.take a)).length=a:=by simp[gM];omega
 clear C o J;generalize e[a]=h at *;generalize b[a]=aD at *;go_wp2_with fail;refine V.mono ?_;rintro u N ⟨rfl,n⟩;have g:Hid (kq N c.heap.size (.slice j i k) (gM (b.take a))):=eg (ag M) n;have aO:=n.size;have T:=af (K.trans (n.mono Z));clear n;go_wp2_with (at_builtin;go_loud (refine vV _ rfl (.tmp 13) (.tmp 18) 293 rfl c.heap.size 297 an .nilIface 1 16 Sr ao aj al am rfl ba _ (gM (b.take a)).length _ rfl (g.alloc _) (aq N.heap.size 0) 1 1 [.iface 292 (.int .u8 ((aD:Int)%256))] rfl rfl ?ap ?c2 ?c3 ?aK ?b9 ?_));case ap =>(
 intro aw aF hj;match aw,hj with
 | 0,hj=>exact uz
 | i+1,hj=>simp at hj)
 case c2=>intro aF D;simp at D;subst D;rfl
 case c3=>exact lC
 case aK=>omega
 case b9=>simp;omega
 intro aQ O q I _;obtain⟨aG,aI,aH,rfl⟩:=i8 q;have x:Hid (kq O c.heap.size (.slice aG aI aH) (gM (b.take (a+1)))):=by{unfold Hid kq;rw[ag W,a6,d0,aC];rw[ag aJ]at q;exact q};have U:Hid (ax c O):=(T.alloc ae _).grown I aA (fun aB ar=>(g.lt aB ar).1);clear q I;go_wp2;exact⟨⟨a+1,_,_,_,bq,rfl,ae,x,U⟩,ci⟩};{have Y:a=b.length:=ae;subst Y;have g:=ag M;rw[dK]at g;have x:=af g;clear g;go_wp2;go_ret;exact⟨⟨_,rfl,pH (ag x) ae⟩,R.trans (K.mono S)⟩})
theorem Sv(a:aj)(h:List Nat)(w:World)(e:bT w)(k:a.type=1)(o:a.data.length<=3000)(l:tP a.data h):az 254 #[.agg #[au a.owner,ak a.aI,ak a.type,au a.data]] w fun c w'=>(∃v,c=.returned v/\kq w' w.heap.size v (gM h))/\ax w w':=by have b:ax w (w.alloc (.cells #[.string (ai a.owner),.int .i64 a.aI,.int .i64 a.type,.string (ai a.data)] 47)):=aE.alloc av _;have r:=b.size;have n:=af (l1 (ai a.data) 32 _ (e.below b) gB);have d:ax w ((w.alloc (.cells #[.string (ai a.owner),.int .i64 a.aI,.int .i64 a.type,.string (ai a.data)] 47)).alloc (.cells ((Cy 32 (ai a.data)).map Value.string).toArray 9)):=b.alloc am _;have p:=af (Su a.data h _ (e.below d) o l);rw[k]at *;clear e k l;generalize Cy 32 (ai a.data)=u at *;have i:=af d;clear d b r;go_enter func254,ntmps254;go_wp2_with fail;refine n.mono ?_;rintro c A ⟨rfl,rfl⟩;go_wp2_with fail;refine p.mono ?_;rintro c B ⟨⟨v,rfl,g⟩,q⟩;have t:=af g;obtain⟨x,z,y,rfl⟩:=i8 g;clear g;have j:=i.size;go_wp2;go_ret;exact⟨⟨_,rfl,pH (ag t) j⟩,i.trans (q.mono j)⟩
def CE(w:World)(base:Nat)(v:Value)(a:List eF):Prop:=w.ownsRow base 297 1 v a.length (a.map fun f=>.iface f.t f.x)
theorem wx(w:World)(base:Nat)(b:Array Value)(a:List eF)(e:b.toList=a.map fun f=>.iface f.t f.x)(g:base<=w.heap.size)(i:a.length<=maxLen)(c d:Nat)(j:c=a.length)(h:d=w.heap.size):CE (w.alloc (.cells b 297)) base (aF d 0 c c) a:=by
 subst j h;have k:b.size=a.length:=by rw[<- kf,e,bD]
 exact⟨am,.inr ⟨w.heap.size,a.length,b,rfl,g,World.alloc_heap_new w _,bb _,i,by rw[k,lV],by rw[e,lV];exact ie am⟩⟩
def gw(a:aj):Value:=.agg #[.string (ai a.owner),ak a.aI,ak a.type,.string (ai a.data)]
def n6(d:ah):List eF:=[fa (gc (UInt8.ofNat d.length)),fa (bE d)]
theorem Sw(a:aj)(w:World)(h:bT w)(i:a.type=16)(l:a.data.length<=3000):az 254 #[gw a] w fun g w'=>(∃v,g=.returned v/\CE w' w.heap.size v (n6 a.data))/\ax w w':=by
 obtain⟨d,e⟩:=a2 (UInt8.ofNat a.data.length);have n:IntKind.u8.wrap (a.data.length:Int)=(d.toNat:Int):=by rw[sO,e,iZ];omega
 have j:=af e;clear e;have c:ax w (w.alloc (.cells #[.string (ai a.owner),.int .i64 a.aI,.int .i64 a.type,.string (ai a.data)] 47)):=aE.alloc av _;have b:=af (l1 (ai a.data) 32 _ (h.below c) gB);have o:(ai a.data).size=a.data.length:=a7 _;unfold gw;rw[i]at b c ⊢;clear h i c;generalize Cy 32 (ai a.data)=k at *;go_enter func254,ntmps254;go_wp2_with fail;refine b.mono ?_;rintro g p ⟨rfl,rfl⟩;clear b;go_wp2;go_ret;refine⟨⟨aF (w.heap.size+1+1) 0 2 2,rfl,?_⟩,((aE.alloc av _).alloc am _).alloc cu _⟩;rw[show n6 a.data=[fa (gc d),fa (bE a.data)] by rw[ag j];rfl];refine wx _ _ _ [fa (gc d),fa (bE a.data)] ?_ ?_ ?_ 2 _ rfl ?_;{rfl};{first|omega|(simp only[cv];omega)|(simp;omega)};{simp[maxLen]};{simp only[cv]}
theorem If(a:aj)(w:World)(g:bT w)(b:Int)(h:a.type=b)(l:(b==6)=false)(k:(b==1)=false)(p:(b==16)=false)(q:(b==15)=false)(j:a.data.length<=3000):az 254 #[gw a] w fun e w'=>(∃v,e=.returned v/\CE w' w.heap.size v [lp a.data])/\ax w w':=by have d:ax w (w.alloc (.cells #[.string (ai a.owner),.int .i64 a.aI,.int .i64 a.type,.string (ai a.data)] 47)):=aE.alloc av _;have c:=af (l1 (ai a.data) 32 _ (g.below d) gB);have n:(ai a.data).size=a.data.length:=a7 _;unfold gw;rw[h]at c d ⊢;clear g h d;generalize Cy 32 (ai a.data)=i at *;go_enter func254,ntmps254;go_wp2_with fail;refine c.mono ?_;rintro e o ⟨rfl,rfl⟩;clear c;go_wp2;go_ret;refine⟨⟨aF (w.heap.size+1+1) 0 1 1,rfl,wx _ _ _ [lp a.data] ?_ ?_ ?_ 1 _ rfl ?_⟩,?_⟩;{rfl};{first|omega|(simp only[cv];omega)|(simp;omega)};{simp[maxLen]};{simp only[cv]};exact((aE.alloc av _).alloc am _).alloc cu _
def mQ(c d:ah)(a b:Nat):List eF:=[lp c,lp d,fa (lI (a%4294967296)),fa (lI 3600),fa (lI 600),fa (lI 86400),fa (lI (b%4294967296))]
def mR(a:Nat)(b:ah):List eF:=[fa (cq (a%65536)),lp b]
theorem BN{P:Prop}(h:P:=by rintro e w' ⟨rfl,hb'⟩;exact⟨rfl,yr W w' hb' h,hb.trans (hb'.mono hb.size)⟩):P:=h
theorem Sx(a:aj)(w:World)(q:bT w)(u:a.type=15)(J:a.data.length<=3000)(b c:ah)(d:Nat)(x:Cy 32 (ai a.data)=[ai b,ai c])(z:Lib.parseUintB 64 b=.ok d)(r:b.length<=3000):az 254 #[gw a] w fun e w'=>(∃v,e=.returned v/\CE w' w.heap.size v (mR d c))/\ax w w':=by
 have l:ax w (w.alloc (.cells #[.string (ai a.owner),.int .i64 a.aI,.int .i64 a.type,.string (ai a.data)] 47)):=aE.alloc av _;have i:=af (l1 (ai a.data) 32 _ (q.below l) gB);have K:(ai a.data).size=a.data.length:=a7 _;unfold gw;rw[u]at i l ⊢;clear q u l;rw[x]at i;go_enter func254,ntmps254;go_wp2_with fail;refine i.mono ?_;rintro e H ⟨rfl,rfl⟩;clear i;simp only[fl,kK,bi,cW];have yr:∀W g:World,ax W g->(W.cell? (aq (w.heap.size+1) 0)=some (.string (ai b))/\W.cell? (aq (w.heap.size+1) 1)=some (.string (ai c)))->(g.cell? (aq (w.heap.size+1) 0)=some (.string (ai b))/\g.cell? (aq (w.heap.size+1) 1)=some (.string (ai c))):=fun W g hb h=>by
  have A:∀(j:Addr) (v:Value),W.cell? j=some v->g.cell? j=some v:=fun j v h=>(hb.cell (ef W j h)).trans h;obtain⟨C,D⟩:=h;exact⟨A _ _ C,A _ _ D⟩
 have o:Hid (∀(W:World) (k:Obj),(W.cell? (aq (w.heap.size+1) 0)=some (.string (ai b))/\W.cell? (aq (w.heap.size+1) 1)=some (.string (ai c)))/\ax w W->(((W.alloc k).cell? (aq (w.heap.size+1) 0)=some (.string (ai b))/\(W.alloc k).cell? (aq (w.heap.size+1) 1)=some (.string (ai c)))/\ax w (W.alloc k))):=fun W k h=>⟨yr W _ (aE.alloc av _) h.1,h.2.alloc h.2.size _⟩
 have y:Hid (∀W,(W.cell? (aq (w.heap.size+1) 0)=some (.string (ai b))/\W.cell? (aq (w.heap.size+1) 1)=some (.string (ai c)))->ax w W->az 280 #[.string (ai b)] W fun e w'=>e=.returned (.int .u64 (d:Int))/\(w'.cell? (aq (w.heap.size+1) 0)=some (.string (ai b))/\w'.cell? (aq (w.heap.size+1) 1)=some (.string (ai c)))/\ax w w'):=fun W h hb=>by
  refine(ww (ai b) d W (by rw[a7];exact r) z).mono ?_;exact BN
 have L:IntKind.u16.wrap (d:Int)=((d%65536:Nat):Int):=iF
 have G:((w.alloc (.cells #[.string (ai a.owner),.int .i64 a.aI,.int .i64 15,.string (ai a.data)] 47)).alloc (.cells #[.string (ai b),.string (ai c)] 9)).drew.cell? (aq (w.heap.size+1) 0)=some (.string (ai b))/\((w.alloc (.cells #[.string (ai a.owner),.int .i64 a.aI,.int .i64 15,.string (ai a.data)] 47)).alloc (.cells #[.string (ai b),.string (ai c)] 9)).drew.cell? (aq (w.heap.size+1) 1)=some (.string (ai c)):=by
  have t:=World.alloc_heap_new (w.alloc (.cells #[.string (ai a.owner),.int .i64 a.aI,.int .i64 15,.string (ai a.data)] 47)) (.cells #[.string (ai b),.string (ai c)] 9);rw[cv]at t;refine⟨?_,?_⟩<;>(show(World.cell? _ _)=_;unfold World.cell?; simp only[World.drew];rw[t];rfl)
 have E:ax w ((w.alloc (.cells #[.string (ai a.owner),.int .i64 a.aI,.int .i64 15,.string (ai a.data)] 47)).alloc (.cells #[.string (ai b),.string (ai c)] 9)).drew:=((aE.alloc av _).alloc am _).drew;clear yr x z r;go_wp2_with fail;generalize ((w.alloc (.cells #[.string (ai a.owner),.int .i64 a.aI,.int .i64 15,.string (ai a.data)] 47)).alloc (.cells #[.string (ai b),.string (ai c)] 9))=H at *
 go_region_held (fun w'=>(w'.cell? (aq (w.heap.size+1) 0)=some (.string (ai b))/\w'.cell? (aq (w.heap.size+1) 1)=some (.string (ai c)))/\ax w w') (first|exact⟨gj,gj⟩|(refine ag o _ _ ?_;exact⟨gj,gj⟩)|go_keep)
  (first
   | (go_at_call_of 280 (Value.string (ai b));go_loud (refine(y _ ?_ ?_).mono ?_;assumption;assumption;rintro e w' ⟨rfl,F,n⟩)))
 have I:(d:Int)%65536=((d%65536:Nat):Int):=ae;rw[I];have p:=n.size;have B:=af n;clear o y G E F n;go_wp2;go_ret;refine⟨⟨aF w'.heap.size 0 2 2,rfl,wx _ _ _ (mR d c) ?_ ?_ ?_ 2 _ rfl rfl⟩,?_⟩
 ·rfl
 ·exact p
 ·simp[maxLen,mR]
 ·exact B.alloc p _
theorem Sy(a:aj)(w:World)(y:bT w)(D:a.type=6)(S:a.data.length<=3000)(d g b c:ah)(i j:Nat)(E:Cy 32 (ai a.data)=[ai d,ai g,ai b,ai c])(t:Lib.parseUintB 64 b=.ok i)(F:Lib.parseUintB 64 c=.ok j)(z:b.length<=3000)(A:c.length<=3000):az 254 #[gw a] w fun e w'=>(∃v,e=.returned v/\CE w' w.heap.size v (mQ d g i j))/\ax w w':=by
 have r:ax w (w.alloc (.cells #[.string (ai a.owner),.int .i64 a.aI,.int .i64 a.type,.string (ai a.data)] 47)):=aE.alloc av _;have n:=af (l1 (ai a.data) 32 _ (y.below r) gB);have T:(ai a.data).size=a.data.length:=a7 _;unfold gw;rw[D]at n r ⊢;clear y D r;rw[E]at n;go_enter func254,ntmps254;go_wp2_with fail;refine n.mono ?_;rintro e P ⟨rfl,rfl⟩;clear n;simp only[fl,kK,bi,cW];have yr:∀W k:World,ax W k->(W.cell? (aq (w.heap.size+1) 0)=some (.string (ai d))/\W.cell? (aq (w.heap.size+1) 1)=some (.string (ai g))/\W.cell? (aq (w.heap.size+1) 2)=some (.string (ai b))/\W.cell? (aq (w.heap.size+1) 3)=some (.string (ai c)))->(k.cell? (aq (w.heap.size+1) 0)=some (.string (ai d))/\k.cell? (aq (w.heap.size+1) 1)=some (.string (ai g))/\k.cell? (aq (w.heap.size+1) 2)=some (.string (ai b))/\k.cell? (aq (w.heap.size+1) 3)=some (.string (ai c))):=fun W k hb h=>by
  have p:∀(o:Addr) (v:Value),W.cell? o=some v->k.cell? o=some v:=fun o v h=>(hb.cell (ef W o h)).trans h;obtain⟨J,K,L,M⟩:=h;exact⟨p _ _ J,p _ _ K,p _ _ L,p _ _ M⟩
 have u:Hid (∀(W:World) (l:Obj),(W.cell? (aq (w.heap.size+1) 0)=some (.string (ai d))/\W.cell? (aq (w.heap.size+1) 1)=some (.string (ai g))/\W.cell? (aq (w.heap.size+1) 2)=some (.string (ai b))/\W.cell? (aq (w.heap.size+1) 3)=some (.string (ai c)))/\ax w W->(((W.alloc l).cell? (aq (w.heap.size+1) 0)=some (.string (ai d))/\(W.alloc l).cell? (aq (w.heap.size+1) 1)=some (.string (ai g))/\(W.alloc l).cell? (aq (w.heap.size+1) 2)=some (.string (ai b))/\(W.alloc l).cell? (aq (w.heap.size+1) 3)=some (.string (ai c)))/\ax w (W.alloc l))):=fun W l h=>⟨yr W _ (aE.alloc av _) h.1,h.2.alloc h.2.size _⟩
 have G:Hid (∀W,(W.cell? (aq (w.heap.size+1) 0)=some (.string (ai d))/\W.cell? (aq (w.heap.size+1) 1)=some (.string (ai g))/\W.cell? (aq (w.heap.size+1) 2)=some (.string (ai b))/\W.cell? (aq (w.heap.size+1) 3)=some (.string (ai c)))->ax w W->az 280 #[.string (ai b)] W fun e w'=>e=.returned (.int .u64 (i:Int))/\(w'.cell? (aq (w.heap.size+1) 0)=some (.string (ai d))/\w'.cell? (aq (w.heap.size+1) 1)=some (.string (ai g))/\w'.cell? (aq (w.heap.size+1) 2)=some (.string (ai b))/\w'.cell? (aq (w.heap.size+1) 3)=some (.string (ai c)))/\ax w w'):=fun W h hb=>by
  refine(ww (ai b) i W (by rw[a7];exact z) t).mono ?_;exact BN
 have U:IntKind.u32.wrap (i:Int)=((i%4294967296:Nat):Int):=by rw[vS];omega
 have H:Hid (∀W,(W.cell? (aq (w.heap.size+1) 0)=some (.string (ai d))/\W.cell? (aq (w.heap.size+1) 1)=some (.string (ai g))/\W.cell? (aq (w.heap.size+1) 2)=some (.string (ai b))/\W.cell? (aq (w.heap.size+1) 3)=some (.string (ai c)))->ax w W->az 280 #[.string (ai c)] W fun e w'=>e=.returned (.int .u64 (j:Int))/\(w'.cell? (aq (w.heap.size+1) 0)=some (.string (ai d))/\w'.cell? (aq (w.heap.size+1) 1)=some (.string (ai g))/\w'.cell? (aq (w.heap.size+1) 2)=some (.string (ai b))/\w'.cell? (aq (w.heap.size+1) 3)=some (.string (ai c)))/\ax w w'):=fun W h hb=>by
  refine(ww (ai c) j W (by rw[a7];exact A) F).mono ?_;exact BN
 have V:IntKind.u32.wrap (j:Int)=((j%4294967296:Nat):Int):=by rw[vS];omega
 have O:((w.alloc (.cells #[.string (ai a.owner),.int .i64 a.aI,.int .i64 6,.string (ai a.data)] 47)).alloc (.cells #[.string (ai d),.string (ai g),.string (ai b),.string (ai c)] 9)).drew.cell? (aq (w.heap.size+1) 0)=some (.string (ai d))/\((w.alloc (.cells #[.string (ai a.owner),.int .i64 a.aI,.int .i64 6,.string (ai a.data)] 47)).alloc (.cells #[.string (ai d),.string (ai g),.string (ai b),.string (ai c)] 9)).drew.cell? (aq (w.heap.size+1) 1)=some (.string (ai g))/\((w.alloc (.cells #[.string (ai a.owner),.int .i64 a.aI,.int .i64 6,.string (ai a.data)] 47)).alloc (.cells #[.string (ai d),.string (ai g),.string (ai b),.string (ai c)] 9)).drew.cell? (aq (w.heap.size+1) 2)=some (.string (ai b))/\((w.alloc (.cells #[.string (ai a.owner),.int .i64 a.aI,.int .i64 6,.string (ai a.data)] 47)).alloc (.cells #[.string (ai d),.string (ai g),.string (ai b),.string (ai c)] 9)).drew.cell? (aq (w.heap.size+1) 3)=some (.string (ai c)):=by
  have B:=World.alloc_heap_new (w.alloc (.cells #[.string (ai a.owner),.int .i64 a.aI,.int .i64 6,.string (ai a.data)] 47)) (.cells #[.string (ai d),.string (ai g),.string (ai b),.string (ai c)] 9);rw[cv]at B;refine⟨?_,?_,?_,?_⟩<;>(show(World.cell? _ _)=_;unfold World.cell?; simp only[World.drew];rw[B];rfl)
 have N:ax w ((w.alloc (.cells #[.string (ai a.owner),.int .i64 a.aI,.int .i64 6,.string (ai a.data)] 47)).alloc (.cells #[.string (ai d),.string (ai g),.string (ai b),.string (ai c)] 9)).drew:=((aE.alloc av _).alloc am _).drew;clear yr E t z F A;go_wp2_with fail;generalize ((w.alloc (.cells #[.string (ai a.owner),.int .i64 a.aI,.int .i64 6,.string (ai a.data)] 47)).alloc (.cells #[.string (ai d),.string (ai g),.string (ai b),.string (ai c)] 9))=P at *
 go_region_held (fun w'=>(w'.cell? (aq (w.heap.size+1) 0)=some (.string (ai d))/\w'.cell? (aq (w.heap.size+1) 1)=some (.string (ai g))/\w'.cell? (aq (w.heap.size+1) 2)=some (.string (ai b))/\w'.cell? (aq (w.heap.size+1) 3)=some (.string (ai c)))/\ax w w') (first|exact⟨gj,gj⟩|(refine ag u _ _ ?_;exact⟨gj,gj⟩)|go_keep)
  (first
   | (go_at_call_of 280 (Value.string (ai b));go_loud (refine(G _ ?_ ?_).mono ?_;assumption;assumption;rintro e w' ⟨rfl,C,q⟩))
   | (go_at_call_of 280 (Value.string (ai c));go_loud (refine(H _ ?_ ?_).mono ?_;assumption;assumption;rintro e w' ⟨rfl,C,q⟩)))
 have Q:(i:Int)%4294967296=((i%4294967296:Nat):Int):=ae;have R:(j:Int)%4294967296=((j%4294967296:Nat):Int):=ae;rw[Q,R];have x:=q.size;have I:=af q;clear u G H O N C q;go_wp2;go_ret;refine⟨⟨aF w'.heap.size 0 7 7,rfl,wx _ _ _ (mQ d g i j) ?_ ?_ ?_ 7 _ rfl rfl⟩,?_⟩
 ·rfl
 ·exact x
 ·simp[maxLen,mQ]
 ·exact I.alloc x _
def ars(a:aj):Value:=.agg #[au a.owner,ak a.aI,ak a.type,au a.data]
theorem Sz{mb base:Nat}{w:World}{v:Value}{a:List kR}(h:kq w base v a)(hne:a≠[])(p:mb<base):∃c b,v=aF c 0 a.length b/\a.length<=b/\Ru mb w c a:=by have g:=h;obtain⟨_,⟨rfl,hz⟩|⟨c,b,n,rfl,o,d,i,_⟩⟩:=h;{exact us};{refine⟨c,b,rfl,i,(bn.1 d).1,ae,fun l e=>?_,fun k j=>?_⟩;{rw[d]at e;simp at e};{have:=kj g k ae;rw[this];simp[j]}}
def i_(b:World)(c:Nat)(a:aj):Prop:=b.heap[c]? = some (.cells #[.string (ai a.owner),.int .i64 a.aI,.int .i64 a.type,.string (ai a.data)] 47)
theorem i_.cells{W:World}{b:Nat}{a:aj}(c:i_ W b a):W.cell? (aq b 0)=some (au a.owner)/\W.cell? (aq b 1)=some (ak a.aI)/\W.cell? (aq b 2)=some (ak a.type)/\W.cell? (aq b 3)=some (au a.data):=by unfold i_ at c;refine⟨?_,?_,?_,?_⟩<;>simp[World.cell?,c]
theorem HQ{w:World}{base:Nat}{v:Value}{l:ah}(c:dA w base v l):∃a b,v=.slice a l.length b:=by obtain⟨_,⟨rfl,d⟩|⟨h,e,g,rfl,_⟩⟩:=c;{exact⟨none,0,by rw[d]⟩};{exact qr}
end Go.Proofs.YtkkpahmoljiepaaGreatDoor
