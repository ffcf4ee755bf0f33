import Derived.Test.YtkkpahmoljiepaaGreatDoorJ02
import Derived.Lib.SmallJoins
import Derived.Test.YtkkpahmoljiepaaGreatDoorJ0i
set_option maxRecDepth 1000000
set_option maxHeartbeats 12800000
set_option linter.unusedSimpArgs false
set_option linter.unusedVariables false
namespace Go.Proofs.YtkkpahmoljiepaaGreatDoor
open Go.RowKit Go.Proofs.Tryz
section
attribute [local go_sem] Oper.semAt_some
theorem TC(b off cap bl bs:Nat)(rs:List ai)(W0:World)
  (hl:W0.cell? (ak bl 0)=some (aD b off rs.length cap)) (hs:W0.cell? (ak bs 0)=some (.func (.func 180) #[] #[]))
  (hr:dG W0 b off rs) (h1:bl<W0.heap.size) (h2:bs<W0.heap.size) (hlen:rs.length<=3001) (dt:rs.length<=cap) :
  tD prog 233 #[aM bl,aM bs] (fun x:Nat×List ai=>#[aD b (off+x.1*4) x.2.length x.2.length]) (bz cN rs)
   (fun A B=>au A B) (j_ bl bs b) (fun _ _=>True) W0:=by
 have h3:b<W0.heap.size:=hr.1;intro l J Jx hJ uF hY h0;have ke:=ag hY;have gG:=ag hJ;clear hY hJ uF;refine callsIn_of_wp func233 rfl aQ ?_;simp only[ntmps233,pc,bP,fy,Nat.reduceAdd,Nat.reduceSub,o_,pL,pN,pM,gb,fU];gi_wp2;gi_loopw [4] (fun s wr=>∃i k:Nat,s=aj k/\k<=rs.length/\i<=(bz cN rs).length/\(bz cN rs).drop i=jy cN (rs.drop k).length k (rs.drop k)/\J i wr/\j_ bl bs b W0 wr) (fun s _=>rs.length - (intOf s).toNat);case atStart=>exact⟨0,0,rfl,cV _,cV _,by simp[bz],h0,j_.refl _ _ _ _⟩
 case round =>(
 obtain⟨i,k,rfl,hk,ax,hrun,rQ,hB⟩:=hrel;have bC:=ag hrun;have wB:=ag rQ;clear hrun rQ;have cl:wr.cell? (ak bl 0)=some (aD b off rs.length cap):=(dh hB.2.1).trans hl;have cs:wr.cell? (ak bs 0)=some (.func (.func 180) #[] #[]):=(dh hB.2.2.1).trans hs;by_cases hlt:k<rs.length;{
 have hA:dG wr b off rs:=AW hr hB.1 hB.2.2.2;obtain⟨q0,q1,q2,q3⟩:=hA.four k hlt;have hrt:rs.drop k=rs[k] :: rs.drop (k+1):=ko hlt;have mE:∀m (h:m<rs.length) (h0:k+1<=m),∃h':m - (k+1)<(rs.drop (k+1)).length,(rs.drop (k+1))[m - (k+1)]=rs[m]:=fun m h h0=>⟨by rw[fM];omega,by rw[Cw];congr 1;omega⟩;have kL:(rs.drop (k+1)).length=rs.length - (k+1):=fM;rw[hrt,aar]at bC;have HG:=ag mE;have zn:=ag hr;clear hrt mE hA;obtain⟨T,hT⟩:=bF (((rs.drop (k+1)).takeWhile (cN rs[k])).length);have AX:T<=rs.length - (k+1):=by{rw[hT,<- kL];exact(ZW _).length_le};have zl:=ag (Tz (p:=cN rs[k]) (rs.drop (k+1)));have hend:=ag (TA (p:=cN rs[k]) (rs.drop (k+1)));rw[<- hT]at zl;have cS:=ag hT;clear kL hT q0 q1 q2 q3;generalize hx:rs[k]=r at *;have cu:=ag hx;clear hx;have zo:Hid ((bz cN rs)[i]? = some (k,r :: (rs.drop (k+1)).takeWhile (cN r))):=by{have:=dE (fun l:List (Nat×List ai)=>l[0]?) (af bC);rw[Hid];simpa using this};have E2:Hid (i+1<=(bz cN rs).length):=(jX.1 (af zo)).1;have E3:Hid ((rs.drop (k+1)).dropWhile (cN r)=rs.drop (k+1+T)):=by{
 have h1:rs.drop (k+1+T)=(rs.drop (k+1)).drop T:=by rw[rF]
 rw[Hid,h1,af cS];conv=>rhs;arg 2;rw[<- xM (p:=cN r) (l:=rs.drop (k+1))]
 rw[SE]};gi_wp2_with fail;gi_loopw [5] (fun e wr2=>∃m:Nat,e=aj m/\k+1<=m/\m<=k+1+T/\J i wr2/\j_ bl bs b W0 wr2) (fun e _=>rs.length - (intOf e).toNat);case atStart=>exact⟨k+1,by go_num,bH _,ae,wB,hB⟩
 case round =>(
 clear wB hB cl cs;obtain⟨m,rfl,Kr,ak5,hJ2,hB2⟩:=hrel;have zq:=ag hJ2;clear hJ2;have cl:wr.cell? (ak bl 0)=some (aD b off rs.length cap):=(dh hB2.2.1).trans hl;have cs:wr.cell? (ak bs 0)=some (.func (.func 180) #[] #[]):=(dh hB2.2.2.1).trans hs;have hA:dG wr b off rs:=AW hr hB2.1 hB2.2.2.2;obtain⟨q0,q1,q2,q3⟩:=hA.four k hlt;rw[af cu]at q0 q1 q2 q3;by_cases hm:m<rs.length;{
 obtain⟨p0,p1,fh,eK⟩:=hA.four m hm;obtain⟨pq,hg⟩:=af HG m hm Kr;clear hA;by_cases TB:m - (k+1)<T;{have hsm:cN r rs[m]=true:=by{obtain⟨h',e⟩:=af zl (m - (k+1)) TB;rw[hg]at e;exact e};clear hg pq;generalize rs[m]=s at *;have xS:(m:Int)<(rs.length:Int):=ae;have rR:(k:Int)<(rs.length:Int):=ae;have Ks:decide ((m:Int)<(rs.length:Int))=true:=iy xS;have hmx:prog.follows .mixedOrders=true:=aI;have ij:W0.heap.size<=wr.heap.size:=hB2.1;have gl:∀n os,(Sort.grow (wr.drewN n) os).cell? (ak bl 0)=some (aD b off rs.length cap):=cell_grown (by show bl<_;omega) cl;have gs:∀n os,(Sort.grow (wr.drewN n) os).cell? (ak bs 0)=some (.func (.func 180) #[] #[]):=cell_grown (by show bs<_;omega) cs;have g0:∀n os,(Sort.grow (wr.drewN n) os).cell? (ak b (off+k*4))=some (ay r.owner):=cell_grown (by show b<_;omega) q0;have g1:∀n os,(Sort.grow (wr.drewN n) os).cell? (ak b (off+k*4+1))=some (aj r.aG):=cell_grown (by show b<_;omega) q1;have g2:∀n os,(Sort.grow (wr.drewN n) os).cell? (ak b (off+k*4+2))=some (aj r.type):=cell_grown (by show b<_;omega) q2;have g3:∀n os,(Sort.grow (wr.drewN n) os).cell? (ak b (off+k*4+3))=some (ay r.data):=cell_grown (by show b<_;omega) q3;have e0:∀n os,(Sort.grow (wr.drewN n) os).cell? (ak b (off+m*4))=some (ay s.owner):=cell_grown (by show b<_;omega) p0;have e1:∀n os,(Sort.grow (wr.drewN n) os).cell? (ak b (off+m*4+1))=some (aj s.aG):=cell_grown (by show b<_;omega) p1;have e2:∀n os,(Sort.grow (wr.drewN n) os).cell? (ak b (off+m*4+2))=some (aj s.type):=cell_grown (by show b<_;omega) fh;have e3:∀n os,(Sort.grow (wr.drewN n) os).cell? (ak b (off+m*4+3))=some (ay s.data):=cell_grown (by show b<_;omega) eK;gi_wp2_with fail;refine wpIn_wide.2 ?_;go_quiet_grown ((go_at_call 180;exact Calls.grown_of (aaq r s _)));gi_wp2_with fail;exact⟨⟨m+1,by go_num,ae,ae,af gG i _ _ (af zq) (CO _ _ _),hB2.trans (j_.HF (CO _ _ _) ae ae ae)⟩,by simp[intOf];omega⟩};{
 have hmk:m=k+1+T:=ae;have hsm:cN r rs[m]=false:=by{
 have h':((rs.drop (k+1)).takeWhile (cN r)).length=m - (k+1):=by rw[<- af cS];omega
 have:=af hend (by rw[h'];exact pq);simp only[h']at this;rw[hg]at this;exact this};clear hg pq;generalize rs[m]=s at *;have xS:(m:Int)<(rs.length:Int):=ae;have rR:(k:Int)<(rs.length:Int):=ae;have Ks:decide ((m:Int)<(rs.length:Int))=true:=iy xS;have uG:=ag hmk;clear hmk;have wC:Hid ((r :: (rs.drop (k+1)).takeWhile (cN r)).length=m - k):=by{rw[Hid,bP,<- af cS,af uG];omega};have kN:Hid ((bz cN rs).drop (i+1)=jy cN (rs.drop m).length m (rs.drop m)):=by{rw[Hid,<- rF,af bC,NK,NV,af E3,<- af cS,<- af uG]};have hmx:prog.follows .mixedOrders=true:=aI;have ij:W0.heap.size<=wr.heap.size:=hB2.1;have gl:∀n os,(Sort.grow (wr.drewN n) os).cell? (ak bl 0)=some (aD b off rs.length cap):=cell_grown (by show bl<_;omega) cl;have gs:∀n os,(Sort.grow (wr.drewN n) os).cell? (ak bs 0)=some (.func (.func 180) #[] #[]):=cell_grown (by show bs<_;omega) cs;have g0:∀n os,(Sort.grow (wr.drewN n) os).cell? (ak b (off+k*4))=some (ay r.owner):=cell_grown (by show b<_;omega) q0;have g1:∀n os,(Sort.grow (wr.drewN n) os).cell? (ak b (off+k*4+1))=some (aj r.aG):=cell_grown (by show b<_;omega) q1;have g2:∀n os,(Sort.grow (wr.drewN n) os).cell? (ak b (off+k*4+2))=some (aj r.type):=cell_grown (by show b<_;omega) q2;have g3:∀n os,(Sort.grow (wr.drewN n) os).cell? (ak b (off+k*4+3))=some (ay r.data):=cell_grown (by show b<_;omega) q3;have e0:∀n os,(Sort.grow (wr.drewN n) os).cell? (ak b (off+m*4))=some (ay s.owner):=cell_grown (by show b<_;omega) p0;have e1:∀n os,(Sort.grow (wr.drewN n) os).cell? (ak b (off+m*4+1))=some (aj s.aG):=cell_grown (by show b<_;omega) p1;have e2:∀n os,(Sort.grow (wr.drewN n) os).cell? (ak b (off+m*4+2))=some (aj s.type):=cell_grown (by show b<_;omega) fh;have e3:∀n os,(Sort.grow (wr.drewN n) os).cell? (ak b (off+m*4+3))=some (ay s.data):=cell_grown (by show b<_;omega) eK;gi_wp2_with fail;refine wpIn_wide.2 ?_;go_quiet_grown ((go_at_call 180;exact Calls.grown_of (aaq r s _)));have hJ3:=af gG i _ _ (af zq) (CO wr nq osq);have ig:=hB2.trans (j_.HF (CO wr nq osq) ae ae ae);have mZ:=af ke i (k,r :: (rs.drop (k+1)).takeWhile (cN r)) _ (af zo) hJ3;dsimp only at mZ;rw[af wC]at mZ;obtain⟨fn,tmps,assign,body,hy,hR⟩:=mZ;gi_wp2_with fail;refine⟨rfl,hR.mono ?_⟩;rintro e W3 (⟨rfl,nd,hk4⟩|⟨rfl,qN,_⟩);{have AY:=ag nd;have gH:=ig.trans hk4;clear nd;gi_wp2_with fail;exact⟨⟨i+1,m,by go_num,ae,E2,kN,AY,gH⟩,by simp[intOf];omega⟩};{gi_wp2;refine fB (zg rfl _ _ _) rfl ?_;exact⟨⟨_,rfl⟩,.inr qN⟩}}};{have hmk:m=k+1+T:=ae;have uG:=ag hmk;clear hmk hA;have Ks:decide ((m:Int)<(rs.length:Int))=false:=iB ae;have ak6:m<=rs.length:=ae;have ij:W0.heap.size<=wr.heap.size:=hB2.1;have wC:Hid ((r :: (rs.drop (k+1)).takeWhile (cN r)).length=m - k):=by{rw[Hid,bP,<- af cS,af uG];omega};have kN:Hid ((bz cN rs).drop (i+1)=jy cN (rs.drop m).length m (rs.drop m)):=by{rw[Hid,<- rF,af bC,NK,NV,af E3,<- af cS,<- af uG]};gi_wp2_with fail;refine wpIn_wide.2 ?_;go_quiet (fail);have hJ3:=af gG i _ _ (af zq) (pj (bR _ wr) nq);have ig:=hB2.trans (j_.HF (pj (bR wr.heap.size wr) nq) ae ae ae);have ak7:(wr.drewN nq).cell? (ak bl 0)=some (aD b off rs.length cap):=cl;have mZ:=af ke i (k,r :: (rs.drop (k+1)).takeWhile (cN r)) _ (af zo) hJ3;dsimp only at mZ;rw[af wC]at mZ;obtain⟨fn,tmps,assign,body,hy,hR⟩:=mZ;gi_wp2_with fail;refine⟨rfl,hR.mono ?_⟩;rintro e W3 (⟨rfl,nd,hk4⟩|⟨rfl,qN,_⟩);{have AY:=ag nd;have gH:=ig.trans hk4;clear nd;gi_wp2_with fail;exact⟨⟨i+1,m,by go_num,ae,E2,kN,AY,gH⟩,by simp[intOf];omega⟩};{gi_wp2;refine fB (zg rfl _ _ _) rfl ?_;exact⟨⟨_,rfl⟩,.inr qN⟩}})};{gi_wp2;go_end0;have aY:i=(bz cN rs).length:=by{have:=af bC;rw[sX (show rs.length<=k by omega)]at this;have h':=dE List.length this;rw[fM]at h';have e0:(jy cN (List.length (α:=ai) []) k []).length=0:=rfl;rw[e0]at h';omega};exact⟨⟨_,rfl⟩,.inl (by rw[<- aY];exact wB)⟩})
end
section
variable {P:Program} {ops:Array Oper} {Q:Exit->Act->World->Prop} {l:Nat}
theorem ak9(o:Oper)(a:Act)(next:Act->World->Prop)(r:Result Next):o.uponIn (Fence.wide.inRound l) 0 P a next Q r=o.uponIn Fence.wide 0 P a next Q r:=by
 cases r with
 | ok x w=>cases x <;> rfl
 | halt x w=>cases x <;> rfl
theorem ak_(gz:∀(i:Nat) (o:Oper),ops[i]? = some o->∀c,o.op≠.defer c){i:Nat}{K K':Act->World->Prop}(hK:∀a w,K a w->K' a w){a:Act}{w:World}
  (h:wpOpIn Fence.wide 0 P ops Q i K a w):wpOpIn (Fence.wide.inRound l) 0 P ops Q i K' a w:=by
 unfold wpOpIn at *;cases ho:ops[i]? with
 | none=>simp only[ho]at h ⊢; exact hK a w h
 | some o =>{simp only[ho]at h ⊢;split;{rename_i hw;simp only[hw,gZ]at h;have h':=Oper.wpIn_mono hK h;unfold Oper.wpIn at *;refine⟨h'.1,?_⟩;have h2:=h'.2;rw[Oper.semAt_eq _ _ _ (gz i o ho)]at h2 ⊢;rw[ak9];exact h2};{rename_i hw;simp only[hw]at h;exact⟨h.1,hK _ _ h.2⟩}}
theorem aat(gz:∀(i:Nat) (o:Oper),ops[i]? = some o->∀c,o.op≠.defer c)(md:Region.Mode):∀(fuel:Nat) (listed:Array Bool) (a:Act) (w:World),
  wpAnyIn Fence.wide 0 P md ops Q fuel listed a w->wpAnyIn (Fence.wide.inRound l) 0 P md ops Q fuel listed a w
 | 0,_,_,_,h=>h
 | fuel+1,listed,a,w,h=>⟨h.1,fun i ax=>ak_ gz (fun a w h'=>aat gz md fuel _ a w h') (h.2 i ax)⟩
theorem E5{id:Nat}{a:Act}{w:World}(hm:P.follows .mixedOrders=true)(gz:∀(i:Nat) (o:Oper),ops[i]? = some o->∀c,o.op≠.defer c)
  (h:wpAnyIn Fence.wide 0 P .any ops Q ops.size (Array.replicate ops.size false) a w.drew):(Code.region id ops true).wpIn (Fence.wide.inRound l) 0 P Q a w :=
 wpIn_region_any hm (aat gz _ _ _ _ _ h)
def ala(ops:Array Oper):Bool:=ops.all fun o=>match o.op with
 | .defer _=>false
 | _=>true
theorem AZ(h:ala ops=true):∀(i:Nat) (o:Oper),ops[i]? = some o->∀c,o.op≠.defer c:=by intro i o ho c hc;have hm:o∈ops:=ZM ho;have:=(Array.all_eq_true_iff_forall_mem.1 h) o hm;rw[hc]at this;cases this
end
section
attribute [local go_sem] Oper.semAt_some
def cQ(x:Nat×List ai):ah:=(x.2.headD ai.zero).owner
theorem TD(a:Option Addr)(n c:Nat)(w:World) :
  aB 109 #[.slice a n c] w fun e w'=>e=.returned (.func (.func 179) #[] #[aM w.heap.size])/\w'=w.alloc (.cells #[.slice a n c] 41):=by go_enter func109,ntmps109;go_wp2;go_ret;exact⟨rfl,rfl⟩
theorem aau(bN:ai->ai->Bool):∀(f k:Nat) (l:List ai) (x:Nat×List ai),x∈jy bN f k l->k<=x.1/\x.1+x.2.length<=k+l.length/\0<x.2.length/\x.2=(l.drop (x.1 - k)).take x.2.length
 | 0,k,l,x,h=>by simp[jy]at h
 | f+1,k,[],x,h=>by simp[jy]at h
 | f+1,k,r :: t,x,h=>by
  have hlen:=dE List.length (xM (p:=bN r) (l:=t));rw[bj]at hlen;rw[jy,ei]at h;rcases h with rfl|h;{
  refine⟨bH _,aP,ar,?_⟩;simp only[rJ,Aw,bP,CA];congr 1;conv=>rhs;arg 2;rw[<- xM (p:=bN r) (l:=t)]
  rw[List.take_left]};{
  obtain⟨h1,h2,h3,h4⟩:=aau bN f _ _ x h;refine⟨ae,aP,h3,?_⟩;have hd:(r :: t).drop (x.1 - k)=(t.dropWhile (bN r)).drop (x.1 - (k+1+(t.takeWhile (bN r)).length)):=by{
  conv=>lhs;arg 2;arg 2;rw[<- xM (p:=bN r) (l:=t)]
  rw[show x.1 - k=1+(t.takeWhile (bN r)).length+(x.1 - (k+1+(t.takeWhile (bN r)).length))from ae];rw[<- rF,show 1+(t.takeWhile (bN r)).length=(r :: t.takeWhile (bN r)).length from aP,<- fU,SE]};rw[hd];exact h4}
theorem wD{bN:ai->ai->Bool}{rs:List ai}{x:Nat×List ai}(h:x∈bz bN rs):x.1+x.2.length<=rs.length/\0<x.2.length/\x.2=(rs.drop x.1).take x.2.length:=by obtain⟨h1,h2,h3,h4⟩:=aau bN _ _ _ _ h;exact⟨ae,h3,by simpa using h4⟩
theorem E6{w:World}{b off:Nat}{rs:List ai}(h:dG w b off rs){bN:ai->ai->Bool}{x:Nat×List ai}(hx:x∈bz bN rs):dG w b (off+x.1*4) x.2:=by obtain⟨_,_,h3⟩:=wD hx;rw[h3];exact(h.drop x.1).take _
theorem aav(x:Nat×List ai)(h:0<x.2.length):x.2[0].owner=cQ x:=by
 obtain⟨k,l⟩:=x;cases l with
 | nil=>simp at h
 | cons a t=>rfl
theorem TE(b off cap bo:Nat)(rs:List ai)(W0:World)
  (hl:W0.cell? (ak bo 0)=some (aD b off rs.length cap)) (hr:dG W0 b off rs) (ay6:bo<W0.heap.size) (hlen:rs.length<=3001) (dt:rs.length<=cap) :
  tD prog 179 #[aM bo] (fun x:Nat×List ai=>#[ay (cQ x),aD b (off+x.1*4) x.2.length x.2.length]) (bz cN rs)
   (fun A B=>Below W0.heap.size A B) (fun A B=>B.heap[b]? = A.heap[b]?/\cz W0.heap.size A B) (fun A B=>cz W0.heap.size A B) W0:=by
 intro l J Jx hJ uF hY h0;have ke:=ag hY;have gG:=ag hJ;have E7:=ag uF;clear hY hJ uF;refine N5 func179 rfl aQ ?_;simp only[ntmps179,pc,bP,fy,Nat.reduceAdd,Nat.reduceSub,o_,pL,pN,pM,gb,fU];have hb:b<W0.heap.size:=hr.1;gi_wp2_with (refine⟨aQ,rfl,?_⟩;gi_at_call 176;refine(cj.2 (aas _ _ _ _ _)).mono ?_;rintro e w' ⟨rfl,rfl⟩);have e1:(((W0.alloc (.cells #[.func (.yield l) #[] #[]] 108)).alloc (.cells #[.slice (some ⟨b,off,none⟩) rs.length cap] 41)).alloc (.cells #[.func (.func 180) #[] #[]] 261)).cell? (ak W0.heap.size 0)=some (.func (.yield l) #[] #[]):=by go_simp
 have e2:(((W0.alloc (.cells #[.func (.yield l) #[] #[]] 108)).alloc (.cells #[.slice (some ⟨b,off,none⟩) rs.length cap] 41)).alloc (.cells #[.func (.func 180) #[] #[]] 261)).cell? (ak (W0.heap.size+1) 0)=some (aD b off rs.length cap):=by go_simp
 have e3:(((W0.alloc (.cells #[.func (.yield l) #[] #[]] 108)).alloc (.cells #[.slice (some ⟨b,off,none⟩) rs.length cap] 41)).alloc (.cells #[.func (.func 180) #[] #[]] 261)).cell? (ak (W0.heap.size+1+1) 0)=some (.func (.func 180) #[] #[]):=by go_simp
 have e4:(((W0.alloc (.cells #[.func (.yield l) #[] #[]] 108)).alloc (.cells #[.slice (some ⟨b,off,none⟩) rs.length cap] 41)).alloc (.cells #[.func (.func 180) #[] #[]] 261)).heap.size=W0.heap.size+3:=ar;have e5:au W0 (((W0.alloc (.cells #[.func (.yield l) #[] #[]] 108)).alloc (.cells #[.slice (some ⟨b,off,none⟩) rs.length cap] 41)).alloc (.cells #[.func (.func 180) #[] #[]] 261)) := ((aO.alloc aA _).alloc ar _).alloc aP _;generalize ((W0.alloc (.cells #[.func (.yield l) #[] #[]] 108)).alloc (.cells #[.slice (some ⟨b,off,none⟩) rs.length cap] 41)).alloc (.cells #[.func (.func 180) #[] #[]] 261)=W2 at *;have hgrow:∀r,au W2 ((W2.alloc (.deferred (some []))).alloc (.loop r)):=fun r=>(aO.alloc aA _).alloc ar _;refine ak3 (xs:=bz cN rs) (encs:=fun x:Nat×List ai=>#[aD b (off+x.1*4) x.2.length x.2.length]) (St:=fun A B=>au A B) (Kp:=j_ (W0.heap.size+1) (W0.heap.size+1+1) b) (Kx:=fun _ _=>True) (gf:=233) (lb:=#[aM (W0.heap.size+1),aM (W0.heap.size+1+1)]) rfl (enters_of func233 aI rfl) (fun _=>rfl) ?TC (fun i W=>J i W/\W.heap[W0.heap.size]? = W2.heap[W0.heap.size]?/\W.heap[b]? = W2.heap[b]?/\W2.heap.size<=W.heap.size) (fun c W=>c=.ret/\Jx W/\W2.heap.size<=W.heap.size) ?ku ?hI ?mY ?uD ?rP ?h0 (fun A B=>B.heap[b]? = A.heap[b]?/\cz W0.heap.size A B) ?pU (fun _ _=>True) (fun _ _ _ _ _ _ _ _=>aQ) (fun x=>{ tmps:=#[.func (.yield l) #[] #[],aM bo,aM W0.heap.size,.func (.func 180) #[] #[],aD b (off+x.1*4) x.2.length x.2.length, aD b off rs.length cap,.func (.func 180) #[] #[],.func (.func 233) #[] #[aM (W0.heap.size+1),aM (W0.heap.size+1+1)],aD b (off+x.1*4) x.2.length x.2.length,undef,undef,undef,undef,undef,undef,undef,undef],defers:=[] }) ?assign ?body ?done ?stop;case TC =>(intro r;have hg:=hgrow r;exact TC b off cap _ _ rs _ ((hg.cell (p:=⟨W0.heap.size+1,0,none⟩) (by show W0.heap.size+1<W2.heap.size;omega)).trans e2) ((hg.cell (p:=⟨W0.heap.size+1+1,0,none⟩) (by show W0.heap.size+1+1<W2.heap.size;omega)).trans e3) ((hr.below e5).below hg) (by have:=hg.size;omega) (by have:=hg.size;omega) hlen dt)
 case ku=>exact fun A B hA hst=>⟨hst.size,hst.block _ ae,hst.block _ ae⟩
 case hI=>exact fun i A B hA hst=>⟨af gG i A B hA.1 (hst.mono ae),(hst.block _ ae).trans hA.2.1,(hst.block _ ae).trans hA.2.2.1,a_ hA.2.2.2 hst.size⟩
 case mY=>exact fun c A B hA hst=>⟨hA.1,af E7 A B hA.2.1 (hst.mono ae),a_ hA.2.2 hst.size⟩
 case uD =>(intro i A r o hA cO;have hp:Below W0.heap.size A (A.putObj (W2.heap.size+1) o):=CJ (w:=W2) ae A _ _ o ae cO rfl rfl;exact⟨af gG i A _ hA.1 hp,(xO ae).trans hA.2.1,(xO ae).trans hA.2.2.1,by rw[EW];exact hA.2.2.2⟩)
 case rP =>(intro c A r o hA cO;have hp:Below W0.heap.size A (A.putObj (W2.heap.size+1) o):=CJ (w:=W2) ae A _ _ o ae cO rfl rfl;exact⟨hA.1,af E7 A _ hA.2.1 hp,by rw[EW];exact hA.2.2⟩)
 case h0 =>(intro r;have hg:=hgrow r;exact⟨af gG 0 _ _ h0 (e5.trans (hg.mono ae)),hg.block _ ae,hg.block _ ae,hg.size⟩)
 case pU =>(intro W r r' r'' Wc cO hk hL;have hlt:W2.heap.size+1<W.heap.size:=(bV.1 cO).1;have hs:=hk.2.1;rw[EW]at hs;refine⟨by rw[EW];exact hs,?_,?_,?_⟩;{rw[xO ae,hk.2.2 _ ae (by rw[EW];omega),xO ae]};{rw[xO ae,hk.2.2 _ ae (by rw[EW];omega),xO ae]};{rw[xO ae,hk.1,xO ae]})
 case assign =>(intro l' x W K hK;gi_wp2;exact hK)
 case body =>(intro l' i x W hx hI hsz;obtain⟨rQ,hyb,HJ,hw2⟩:=hI;have hmem:x∈bz cN rs:=ux hx;have hA:dG W b off rs:=AW (hr.below e5) hw2 HJ;have gM:=E6 hA hmem;have nT:=(wD hmem).2.1;obtain⟨q0,q1,q2,q3⟩:=gM.four 0 nT;clear q1 q2 q3;rw[rK,gK,aav x nT]at q0;have cy:W.cell? (ak W0.heap.size 0)=some (.func (.yield l) #[] #[]):=(dh hyb).trans e1;have mZ:=af ke i x W.drew hx (gG i _ _ rQ (aO.drew));have aaw:(0:Int)<(x.2.length:Int):=ae;have hmx:prog.follows .mixedOrders=true:=aI;obtain⟨fn,tmps,assign,body,hy,hR⟩:=mZ;clear hA gM hmem;have ej:∀W3,cz W0.heap.size W.drew W3->jN W2.heap.size W W3:=fun W3 hk=>by{have h2:cz W0.heap.size W W3:=hk;exact⟨h2.1,h2.2 _ ae ae,h2.2 _ ae ae⟩};have dm:∀W3,J (i+1) W3->W3.heap[b]? = W.drew.heap[b]?/\cz W0.heap.size W.drew W3->Hid (jN W2.heap.size W W3/\(W3.heap[b]? = W.heap[b]?/\cz W0.heap.size W W3)/\(J (i+1) W3/\W3.heap[W0.heap.size]? = W2.heap[W0.heap.size]?/\W3.heap[b]? = W2.heap[b]?/\W2.heap.size<=W3.heap.size)):=fun W3 hj hk=>by{have h1:=ej W3 hk.2;have h2:W3.heap[b]? = W.heap[b]?/\cz W0.heap.size W W3:=hk;exact⟨h1,h2,hj,(h2.2.2 _ aA ae).trans hyb,h2.1.trans HJ,a_ hw2 h1.1⟩};have cu:∀W3,Jx W3->cz W0.heap.size W.drew W3->Hid (jN W2.heap.size W W3/\(Jx W3/\W2.heap.size<=W3.heap.size)):=fun W3 hj hk=>by{have h1:=ej W3 hk;exact⟨h1,hj,a_ hw2 h1.1⟩};clear ej;gi_wp2_with fail;refine E5 hmx (AZ aI) ?_;refine jw 1 ?_;refine jw 2 ?_;refine jw 3 ?_;refine jw 5 ?_;refine wm (rs:=[0,4]) aI ar ?_;refine lf rfl (fun K hK=>?_) (lf rfl (fun K hK=>?_) wj);{go_simp;refine hK _ _ ?_;clear hK K;refine eD 4 fun K hK=>?_;go_simp;refine hK _ _ ?_;clear hK K;refine eD 6 fun K hK=>?_;go_simp;refine⟨rfl,hR.mono ?_⟩;rintro e W3 (⟨rfl,nd,hk4⟩|⟨rfl,qN,hk4⟩);{refine hK _ _ ?_;clear hK K;refine eD 7 fun K hK=>?_;go_simp;refine hK _ _ ?_;clear hK K;refine nR aI ?_ _;gi_wp2_with fail;exact af (dm W3 nd hk4)};{refine hK _ _ ?_;clear hK K;refine eD 7 fun K hK=>?_;go_simp;refine hK _ _ ?_;clear hK K;refine nR aI ?_ _;gi_wp2_with fail;obtain⟨r1,r3,r4⟩:=af (cu W3 qN hk4);exact⟨r1,aQ,rfl,r3,r4⟩}};{go_simp;refine hK _ _ ?_;clear hK K;refine eD 0 fun K hK=>?_;go_simp;refine hK _ _ ?_;clear hK K;refine eD 6 fun K hK=>?_;go_simp;refine⟨rfl,hR.mono ?_⟩;rintro e W3 (⟨rfl,nd,hk4⟩|⟨rfl,qN,hk4⟩);{refine hK _ _ ?_;clear hK K;refine eD 7 fun K hK=>?_;go_simp;refine hK _ _ ?_;clear hK K;refine nR aI ?_ _;gi_wp2_with fail;exact af (dm W3 nd hk4)};{refine hK _ _ ?_;clear hK K;refine eD 7 fun K hK=>?_;go_simp;refine hK _ _ ?_;clear hK K;refine nR aI ?_ _;gi_wp2_with fail;obtain⟨r1,r3,r4⟩:=af (cu W3 qN hk4);exact⟨r1,aQ,rfl,r3,r4⟩}})
 case done =>(intro W hI cT hsz;gi_wp2;refine⟨ar,.inl ⟨_,_,rfl,EX cT,?_⟩⟩;have hp:Below W0.heap.size W (W.putObj W2.heap.size (.deferred none)):=CJ (w:=W2) ae W _ _ _ aA cT rfl rfl;exact⟨_,zg rfl _ _ _,⟨_,rfl⟩,.inl (gG _ _ _ hI.1 hp)⟩)
 case stop =>(intro c W hI cT hsz;obtain⟨rfl,TF,hw2⟩:=hI;gi_wp2;refine⟨ar,.inl ⟨_,_,rfl,EX cT,?_⟩⟩;have hp:Below W0.heap.size W (W.putObj W2.heap.size (.deferred none)):=CJ (w:=W2) ae W _ _ _ aA cT rfl rfl;exact⟨_,zg rfl _ _ _,⟨_,rfl⟩,.inr (E7 _ _ TF hp)⟩)
end
section
attribute [local go_sem] Oper.semAt_some
def uH(n:ah)(rs:List ai):List (Nat×List ai):=(bz cN rs).filter (fun x=>dy (cQ x) n)
theorem alb(a:Option Addr)(n c:Nat)(s:ByteArray)(w:World) :
  aB 182 #[.slice a n c,.string s] w fun e w'=>e=.returned (.func (.func 235) #[] #[aM w.heap.size,aM (w.heap.size+1)]) /\
   w'=(w.alloc (.cells #[.slice a n c] 41)).alloc (.cells #[.string s] 9):=by go_enter func182,ntmps182;go_wp2;go_ret;exact⟨rfl,rfl⟩
theorem aax(a:Option Addr)(n c:Nat)(s:ByteArray)(w:World) :
  aB 182 #[.slice a n c,.string s] w fun e w'=>e=.returned (.func (.func 235) #[] #[aM w.heap.size,aM (w.heap.size+1)])/\w'.heap.size=w.heap.size+2/\au w w' /\
   w'.cell? (ak w.heap.size 0)=some (.slice a n c)/\w'.cell? (ak (w.heap.size+1) 0)=some (.string s):=by refine(alb a n c s w).mono ?_;rintro e w' ⟨rfl,rfl⟩;exact⟨rfl,ar,(aO.alloc aA _).alloc ar _,by go_simp,by go_simp⟩
def wE(p:Nat×List ai->Bool)(l:List (Nat×List ai))(i:Nat):Nat:=((l.take i).filter p).length
theorem alc(p:Nat×List ai->Bool)(l:List (Nat×List ai)):wE p l l.length=(l.filter p).length:=by unfold wE;rw[gV]
theorem ald(p:Nat×List ai->Bool)(l:List (Nat×List ai))(i:Nat)(x:Nat×List ai)(h:l[i]? = some x)(hp:p x=false):wE p l (i+1)=wE p l i:=by obtain⟨ax,rfl⟩:=jX.1 h;unfold wE;rw[gp ax,vV,bj];simp[hp]
theorem ale(p:Nat×List ai->Bool)(l:List (Nat×List ai))(i:Nat)(x:Nat×List ai)(h:l[i]? = some x)(hp:p x=true):wE p l (i+1)=wE p l i+1/\(l.filter p)[wE p l i]? = some x:=by
 obtain⟨ax,rfl⟩:=jX.1 h;unfold wE;refine⟨?_,?_⟩;{rw[gp ax,vV,bj];simp[hp]};{
 have e:l.filter p=(l.take i).filter p++(l[i] :: (l.drop (i+1)).filter p):=by{
 conv=>lhs;rw[<- j9 i l,ko ax]
 rw[vV,rG hp]};rw[e,y_ aA];simp}
theorem aay{rs:List ai}{x:Nat×List ai}(hx:x∈bz cN rs):∃r∈rs,r.owner=cQ x:=by obtain⟨h1,h2,h3⟩:=wD hx;have hall:∀y∈x.2,y∈rs:=by{intro y hy;rw[h3]at hy;exact NR (Az hy)};exact⟨x.2[0],hall _ (cM h2),aav x h2⟩
theorem aaz(b off cap TG jz:Nat)(n:ah)(rs:List ai)(W0:World)
  (hr:dG W0 b off rs) (dt:rs.length<=cap) (ay7:W0.cell? (ak TG 0)=some (aD b off rs.length cap)) (uI:W0.cell? (ak jz 0)=some (ay n))
  (jO:TG<W0.heap.size) (ky:jz<W0.heap.size) (hlen:rs.length<=3001) (hn:n.length<=3000) (ho:∀r∈rs,r.owner.length<=3000) :
  tD prog 235 #[aM TG,aM jz] (fun x:Nat×List ai=>#[ay (cQ x),aD b (off+x.1*4) x.2.length x.2.length]) (uH n rs)
   (fun A B=>Below W0.heap.size A B) (fun A B=>(B.heap[b]? = A.heap[b]?/\B.heap[jz]? = A.heap[jz]?)/\cz W0.heap.size A B) (fun A B=>cz W0.heap.size A B) W0:=by
 intro l J Jx hJ uF hY h0;have ke:=ag hY;have gG:=ag hJ;have E7:=ag uF;clear hY hJ uF;have hb:b<W0.heap.size:=hr.1;refine callsIn_of_wp_marks func235 rfl aQ ?_;simp only[ntmps235,pc,bP,fy,Nat.reduceAdd,Nat.reduceSub,o_,pL,pN,pM,gb,fU];gi_wp2_with (refine⟨aQ,rfl,?_⟩;gi_at_call 109;refine(cj.2 (TD _ _ _ _)).mono ?_;rintro e w' ⟨rfl,rfl⟩);have e1:((W0.alloc (.cells #[.func (.yield l) #[] #[]] 108)).alloc (.cells #[.slice (some ⟨b,off,none⟩) rs.length cap] 41)).cell? (ak W0.heap.size 0)=some (.func (.yield l) #[] #[]):=by go_simp
 have e2:((W0.alloc (.cells #[.func (.yield l) #[] #[]] 108)).alloc (.cells #[.slice (some ⟨b,off,none⟩) rs.length cap] 41)).cell? (ak (W0.heap.size+1) 0)=some (aD b off rs.length cap):=by go_simp
 have e4:((W0.alloc (.cells #[.func (.yield l) #[] #[]] 108)).alloc (.cells #[.slice (some ⟨b,off,none⟩) rs.length cap] 41)).heap.size=W0.heap.size+2:=ar;have e5:au W0 ((W0.alloc (.cells #[.func (.yield l) #[] #[]] 108)).alloc (.cells #[.slice (some ⟨b,off,none⟩) rs.length cap] 41)):=(aO.alloc aA _).alloc ar _;generalize ((W0.alloc (.cells #[.func (.yield l) #[] #[]] 108)).alloc (.cells #[.slice (some ⟨b,off,none⟩) rs.length cap] 41))=W2 at *;have hgrow:∀r,au W2 ((W2.alloc (.deferred (some []))).alloc (.loop r)):=fun r=>(aO.alloc aA _).alloc ar _;have E8:∀r,((W2.alloc (.deferred (some []))).alloc (.loop r)).heap.size=W2.heap.size+2:=fun r=>by simp
 refine Kq (xs:=bz cN rs) (encs:=fun x:Nat×List ai=>#[ay (cQ x),aD b (off+x.1*4) x.2.length x.2.length]) (St:=fun A B=>Below (W2.heap.size+2) A B) (Kp:=fun A B=>B.heap[b]? = A.heap[b]?/\cz (W2.heap.size+2) A B) (Kx:=fun A B=>cz (W2.heap.size+2) A B)
  (gf:=179) (lb:=#[aM (W0.heap.size+1)]) rfl (enters_of func179 aI rfl) (fun _=>rfl) ?seq
  (fun i W=>J (wE (fun x=>dy (cQ x) n) (bz cN rs) i) W/\W.heap[W0.heap.size]? = W2.heap[W0.heap.size]?/\W.heap[jz]? = W2.heap[jz]?/\W2.heap.size<=W.heap.size)
  (fun c W=>c=.ret/\Jx W/\W2.heap.size<=W.heap.size)
  ?ku ?hI ?mY ?uD ?rP ?h0 (fun A B=>(B.heap[b]? = A.heap[b]?/\B.heap[jz]? = A.heap[jz]?)/\cz W0.heap.size A B) ?pU (fun A B=>cz W0.heap.size A B) ?hKx
  ?round ?done ?stop
 case seq =>
  intro r;have hg:=hgrow r;have:=TE b off cap (W0.heap.size+1) rs ((W2.alloc (.deferred (some []))).alloc (.loop r)) ((hg.cell (p:=⟨W0.heap.size+1,0,none⟩) (by show W0.heap.size+1<W2.heap.size;omega)).trans e2) ((hr.below e5).below hg) (by have:=hg.size;omega) hlen dt;rw[E8 r]at this;exact this
 case ku=>exact fun A B hA hst=>⟨hst.size,hst.block _ ae,hst.block _ ae⟩
 case hI=>exact fun i A B hA hst=>⟨af gG _ A B hA.1 (hst.mono ae),(hst.block _ ae).trans hA.2.1,(hst.block _ ae).trans hA.2.2.1,a_ hA.2.2.2 hst.size⟩
 case mY=>exact fun c A B hA hst=>⟨hA.1,af E7 A B hA.2.1 (hst.mono ae),a_ hA.2.2 hst.size⟩
 case uD =>
  intro i A r o hA cO;have hp:Below W0.heap.size A (A.putObj (W2.heap.size+1) o):=belowK_b (w:=W2) ae A _ _ o ae cO rfl rfl;exact⟨af gG _ A _ hA.1 hp,(World.putObj_heap_other ae).trans hA.2.1,(World.putObj_heap_other ae).trans hA.2.2.1,by rw[World.putObj_size];exact hA.2.2.2⟩
 case rP =>
  intro c A r o hA cO;have hp:Below W0.heap.size A (A.putObj (W2.heap.size+1) o):=belowK_b (w:=W2) ae A _ _ o ae cO rfl rfl;exact⟨hA.1,af E7 A _ hA.2.1 hp,by rw[World.putObj_size];exact hA.2.2⟩
 case h0 =>
  intro r;have hg:=hgrow r;exact⟨af gG 0 _ _ h0 (e5.trans (hg.mono ae)),hg.block _ ae,hg.block _ ae,hg.size⟩
 case pU =>
  intro W r r' r'' Wc cO hk hL;have hlt:W2.heap.size+1<W.heap.size:=(bV.1 cO).1;have hs:=hk.2.1;rw[World.putObj_size]at hs;refine⟨by rw[World.putObj_heap_other ae,hk.1.1,World.putObj_heap_other ae],by rw[World.putObj_size];exact hs,fun k kO hk2=>?_⟩;rw[World.putObj_heap_other ae,hk.2.2 _ ae (by rw[World.putObj_size];omega),World.putObj_heap_other ae]
 case hKx =>
  intro W r r' r'' Wc cO hk hL;have hs:=hk.1;rw[World.putObj_size]at hs;refine⟨by rw[World.putObj_size];exact hs,fun k kO hk2=>?_⟩;rw[World.putObj_heap_other ae,hk.2 _ ae (by rw[World.putObj_size];omega),World.putObj_heap_other ae]
 case round =>
  intro l' i x V W hx hI hsz;gi_wp2_with fail;refine⟨aQ,?_⟩;obtain⟨rQ,hyb,HJ,hw2⟩:=hI;have hmem:x∈bz cN rs:=ux hx;obtain⟨r,E9,hro⟩:=aay hmem;have gX:(aq (cQ x)).size<=1000000:=by rw[bJ,<- hro];have:=ho r E9;omega
  have hnl:(aq n).size<=1000000:=by rw[bJ];omega
  have cy:W.cell? (ak W0.heap.size 0)=some (.func (.yield l) #[] #[]):=(dh hyb).trans e1;have cn:W.cell? (ak jz 0)=some (ay n):=(dh HJ).trans ((e5.cell (p:=⟨jz,0,none⟩) ky).trans uI);have hcon:=Kh (aq (cQ x)) (aq n) W gX hnl;rw[tA,tA]at hcon;have zr:=ag hcon;clear hcon hro E9;cases hu:dy (cQ x) n
  ·have hc:=ald (fun x=>dy (cQ x) n) _ i x hx hu;have HC:=ag hc;have wB:=ag rQ;clear hc rQ;gi_wp2_with (refine⟨aQ,rfl,?_⟩;gi_at_call 110;refine(CallsIn.inRound l' (cj.2 (af zr))).mono ?_;rintro e w' ⟨rfl,rfl⟩);refine⟨fun _ h=>(by cases h),?_⟩;gi_wp2_with fail;exact⟨⟨bH _,rfl,rfl⟩,⟨⟨rfl,rfl⟩,cz.refl _ _⟩,by rw[af HC];exact wB,hyb,HJ,hw2⟩
  ·obtain⟨hc,uB⟩:=ale (fun x=>dy (cQ x) n) _ i x hx hu;have mZ:=af ke _ x W uB rQ;have HC:=ag hc;have dm:∀W3,J (wE (fun x=>dy (cQ x) n) (bz cN rs) i+1) W3->((W3.heap[b]? = W.heap[b]?/\W3.heap[jz]? = W.heap[jz]?)/\cz W0.heap.size W W3) ->
     Hid (jN W2.heap.size W W3/\((W3.heap[b]? = W.heap[b]?/\W3.heap[jz]? = W.heap[jz]?)/\cz W0.heap.size W W3)/\(J (wE (fun x=>dy (cQ x) n) (bz cN rs) (i+1)) W3/\W3.heap[W0.heap.size]? = W2.heap[W0.heap.size]?/\W3.heap[jz]? = W2.heap[jz]?/\W2.heap.size<=W3.heap.size)):=fun W3 hj hk=>by
    have h2:=hk.2;refine⟨⟨h2.1,h2.2 _ ae ae,h2.2 _ ae ae⟩,hk,?_,(h2.2 _ aA ae).trans hyb,hk.1.2.trans HJ,a_ hw2 h2.1⟩;rw[af HC];exact hj
   have cu:∀W3,Jx W3->cz W0.heap.size W W3->Hid (jN W2.heap.size W W3/\cz W0.heap.size W W3/\(Jx W3/\W2.heap.size<=W3.heap.size)):=fun W3 hj h2 =>
    ⟨⟨h2.1,h2.2 _ ae ae,h2.2 _ ae ae⟩,h2,hj,a_ hw2 h2.1⟩
   obtain⟨fn,tmps,assign,body,hy,hR⟩:=mZ;clear hc rQ uB;gi_wp2_with (refine⟨aQ,rfl,?_⟩;gi_at_call 110;refine(CallsIn.inRound l' (cj.2 (af zr))).mono ?_;rintro e w' ⟨rfl,rfl⟩);refine⟨rfl,hR.mono ?_⟩;rintro e W3 (⟨rfl,nd,hk4⟩|⟨rfl,qN,hk4⟩)
   ·have bf:=dm W3 nd hk4;clear nd hk4 dm cu;gi_wp2_with fail;exact bf
   ·have bf:=cu W3 qN hk4;clear qN hk4 dm cu;gi_wp2_with fail;obtain⟨r1,r2,r3,r4⟩:=af bf;exact⟨r1,r2,rfl,r3,r4⟩
 case done =>
  intro W hI cT hsz;gi_wp2;refine⟨ar,.inl ⟨_,_,rfl,run_takeDeferred cT,?_⟩⟩;have hp:Below W0.heap.size W (W.putObj W2.heap.size (.deferred none)):=belowK_b (w:=W2) ae W _ _ _ aA cT rfl rfl;have hj:=hI.1;rw[alc]at hj;exact⟨_,zg rfl _ _ _,⟨_,rfl⟩,.inl (gG _ _ _ hj hp)⟩
 case stop =>
  intro c W hI cT hsz;obtain⟨rfl,TF,hw2⟩:=hI;gi_wp2;refine⟨ar,.inl ⟨_,_,rfl,run_takeDeferred cT,?_⟩⟩;have hp:Below W0.heap.size W (W.putObj W2.heap.size (.deferred none)):=belowK_b (w:=W2) ae W _ _ _ aA cT rfl rfl;exact⟨_,zg rfl _ _ _,⟨_,rfl⟩,.inr (E7 _ _ TF hp)⟩
end
section
variable {P:Program} {α:Type}
def TH(d:Nat)(ks:List Nat)(I:World->Prop)(Ix:Code->World->Prop)(W:World):Exit->Act->World->Prop
 | .normal,_,W'=>cz d W W'/\(∀k∈ks,W'.heap[k]? = W.heap[k]?)/\I W'
 | .ret,_,W'=>cz d W W'/\Ix .ret W'
 | .exit id,_,W'=>cz d W W'/\Ix (.exit id) W'
 | .goto t,_,W'=>cz d W W'/\Ix (.goto t) W'
 | .panic _,_,_=>False
 | .outgrown,_,_=>False
structure dF(d:Nat)(A B:World):Prop where
 os:B.os=A.os
 tape:B.tape=A.tape
 output:B.output=A.output
 size:A.heap.size<=B.heap.size
 block:∀k,k<A.heap.size->k≠d->B.heap[k]? = A.heap[k]?
theorem dF.zt{d:Nat}{A B:World}(h:au A B):dF d A B:=⟨h.os,h.tape,h.output,h.size,fun k hk _=>h.block k hk⟩
theorem dF.put{d:Nat}(A:World)(k:Nat)(o:Obj)(h:k=d:=by rfl):dF d A (A.putObj k o):=⟨rfl,rfl,rfl,by rw[World.putObj_size];exact bH _,fun j _ hj=>World.putObj_heap_other ae⟩
theorem dF.below{d n:Nat}{A B:World}(h:dF d A B)(hn:n<=d)(hs:n<=A.heap.size):Below n A B:=⟨h.os,h.tape,h.output,h.size,fun k hk=>h.block k ae ae⟩
theorem E_{g:Operand}{ps:Array Tmp}{assign body:Code}{Q:Exit->Act->World->Prop}{a:Act}{w:World}
  {gf:Nat} {lb:Array Value} (hg:a.eval g=.func (.func gf) #[] lb) (eg:∀args w,(callFunc gf args).run P w=.ok (.enter gf args) w)
  {encs:α->Array Value} {xs:List α} {St Kp Kx:World->World->Prop} (jM:∀x,(encs x).size=ps.size)
  (hseq:∀r,tD P gf lb encs xs St Kp Kx ((w.alloc (.deferred (some []))).alloc (.loop r)))
  (ks:List Nat) (ng:∀k∈ks,k<w.heap.size)
  (ku:∀A B,w.heap.size+2<=A.heap.size->St A B->Below (w.heap.size+2) A B)
  (pU:∀A B,(∀k∈ks,B.heap[k]? = A.heap[k]?)->cz (w.heap.size+2) A B->Kp A B)
  (hKx:∀A B,cz (w.heap.size+2) A B->Kx A B)
  (I:Nat->World->Prop) (Ix:Code->World->Prop)
  (hI:∀i A B,I i A->Below w.heap.size A B->I i B) (mY:∀c A B,Ix c A->Below w.heap.size A B->Ix c B)
  (h0:I 0 w)
  (xQ:∀(l i:Nat) (x:α) (V W:World),xs[i]? = some x->I i W->w.heap.size+2<=W.heap.size ->
   assign.wpIn (Fence.wide.inRound l) 0 P (Exit.then (fun a₁ V'=>V'=V/\body.wpIn (Fence.wide.inRound l) 0 P (TH w.heap.size ks (I (i+1)) Ix W) a₁ W) (fun _ _ _=>False)) { tmps:=(ps.zip (encs x)).foldl (fun t (p,v)=>t.setIfInBounds p v) a.tmps,defers:=[] } V)
  (hdone:∀W,I xs.length W->W.heap[w.heap.size]? = some (.deferred (some []))->w.heap.size+2<=W.heap.size->Q .normal { a with defers:={ target:=.collected w.heap.size,args:=#[] } :: a.defers } W)
  (uE:∀c W,Ix c W->W.heap[w.heap.size]? = some (.deferred (some []))->w.heap.size+2<=W.heap.size->c.wpIn Fence.wide 0 P Q { a with defers:={ target:=.collected w.heap.size,args:=#[] } :: a.defers } W) :
  (Code.rangeFunc g ps assign body).wpIn Fence.wide 0 P Q a w:=by
 have hput:∀(A:World) (r:Loop) (o:Obj),A.heap[w.heap.size+1]? = some (.loop r)->Below w.heap.size A (A.putObj (w.heap.size+1) o):=fun A r o cO =>
  belowK_b (w:=w) aA A _ _ o ae cO rfl rfl
 have hab:∀(W:World) (r r' r'':Loop) (Wc:World),W.heap[w.heap.size+1]? = some (.loop r)->cz w.heap.size (W.putObj (w.heap.size+1) (.loop r')) Wc->cz (w.heap.size+2) W (Wc.putObj (w.heap.size+1) (.loop r'')):=by
  intro W r r' r'' Wc cO hk;have hs:=hk.1;rw[World.putObj_size]at hs;refine⟨by rw[World.putObj_size];exact hs,fun k kO hk2=>?_⟩;rw[World.putObj_heap_other ae,hk.2 _ ae (by rw[World.putObj_size];omega),World.putObj_heap_other ae]
 refine Kq (Kb:=fun A B=>cz w.heap.size A B/\∀k∈ks,B.heap[k]? = A.heap[k]?) (pT:=fun A B=>cz w.heap.size A B) hg eg jM hseq
  (fun i W=>I i W/\w.heap.size+2<=W.heap.size) (fun c W=>Ix c W/\w.heap.size+2<=W.heap.size) ?_ ?_ ?_ ?_ ?_ ?_ ?_ ?_ ?_ (fun W h=>hdone W h.1) (fun c W h=>uE c W h.1)
 ·intro A B hA hst;have:=ku A B hA hst;exact⟨this.size,this.block _ ae,this.block _ ae⟩
 ·intro i A B hA hst;have:=ku A B hA.2 hst;exact⟨hI i A B hA.1 (this.mono ae),a_ hA.2 this.size⟩
 ·intro c A B hA hst;have:=ku A B hA.2 hst;exact⟨mY c A B hA.1 (this.mono ae),a_ hA.2 this.size⟩
 ·exact fun i A r o h cO=>⟨hI i A _ h.1 (hput A r o cO),by rw[World.putObj_size];exact h.2⟩
 ·exact fun c A r o h cO=>⟨mY c A _ h.1 (hput A r o cO),by rw[World.putObj_size];exact h.2⟩
 ·exact fun r=>⟨hI 0 w _ h0 ((aO.alloc aA _).alloc ar _),ar⟩
 ·intro W r r' r'' Wc cO hk hL;refine pU _ _ (fun k gF=>?_) (hab W r r' r'' Wc cO hk.1);have:=ng k gF;rw[World.putObj_heap_other ae,hk.2 k gF,World.putObj_heap_other ae]
 ·intro W r r' r'' Wc cO hk hL;exact hKx _ _ (hab W r r' r'' Wc cO hk)
 ·intro l i x V W hx ax hsz;refine wpIn_mono (xQ l i x V W hx ax.1 hsz) ?_;rintro e0 a0 V0 jo;have eQ:e0=.normal:=by cases e0 <;> first|rfl|exact jo.elim
  subst eQ;obtain⟨oD,ie⟩:=jo;refine⟨oD,wpIn_mono ie ?_⟩;rintro e a3 W3 hp;cases e with
  | normal=>exact⟨⟨hp.1.1,hp.1.2 _ aA ae,hp.1.2 _ ae ae⟩,⟨hp.1,hp.2.1⟩,hp.2.2,a_ hsz hp.1.1⟩
  | ret=>exact⟨⟨hp.1.1,hp.1.2 _ aA ae,hp.1.2 _ ae ae⟩,hp.1,hp.2,a_ hsz hp.1.1⟩
  | exit id=>exact⟨⟨hp.1.1,hp.1.2 _ aA ae,hp.1.2 _ ae ae⟩,hp.1,hp.2,a_ hsz hp.1.1⟩
  | goto t=>exact⟨⟨hp.1.1,hp.1.2 _ aA ae,hp.1.2 _ ae ae⟩,hp.1,hp.2,a_ hsz hp.1.1⟩
  | panic ch=>exact hp.elim
  | outgrown=>exact hp.elim
theorem alf{g:Operand}{ps:Array Tmp}{assign body:Code}{Q:Exit->Act->World->Prop}{a:Act}{w:World}
  {gf:Nat} {lb:Array Value} (hg:a.eval g=.func (.func gf) #[] lb) (eg:∀args w,(callFunc gf args).run P w=.ok (.enter gf args) w)
  {encs:α->Array Value} {xs:List α} {St Kp Kx:World->World->Prop} (jM:∀x,(encs x).size=ps.size)
  (hseq:∀r,tD P gf lb encs xs St Kp Kx ((w.alloc (.deferred (some []))).alloc (.loop r)))
  (ks:List Nat) (ng:∀k∈ks,k<w.heap.size)
  (ku:∀A B,St A B->au A B)
  (pU:∀A B,(∀k∈ks,B.heap[k]? = A.heap[k]?)->cz (w.heap.size+2) A B->Kp A B)
  (hKx:∀A B,cz (w.heap.size+2) A B->Kx A B)
  (I:Nat->World->Prop) (Ix:Code->World->Prop)
  (hI:∀i A B,I i A->w.heap.size<=A.heap.size->dF (w.heap.size+1) A B->I i B) (mY:∀c A B,Ix c A->w.heap.size+2<=A.heap.size->dF (w.heap.size+1) A B->Ix c B)
  (h0:I 0 w)
  (xQ:∀(l i:Nat) (x:α) (V W:World),xs[i]? = some x->I i W->w.heap.size+2<=W.heap.size ->
   assign.wpIn (Fence.wide.inRound l) 0 P (Exit.then (fun a₁ V'=>V'=V/\body.wpIn (Fence.wide.inRound l) 0 P (TH w.heap.size ks (I (i+1)) Ix W) a₁ W) (fun _ _ _=>False)) { tmps:=(ps.zip (encs x)).foldl (fun t (p,v)=>t.setIfInBounds p v) a.tmps,defers:=[] } V)
  (hdone:∀W,I xs.length W->W.heap[w.heap.size]? = some (.deferred (some []))->w.heap.size+2<=W.heap.size->Q .normal { a with defers:={ target:=.collected w.heap.size,args:=#[] } :: a.defers } W)
  (uE:∀c W,Ix c W->W.heap[w.heap.size]? = some (.deferred (some []))->w.heap.size+2<=W.heap.size->c.wpIn Fence.wide 0 P Q { a with defers:={ target:=.collected w.heap.size,args:=#[] } :: a.defers } W) :
  (Code.rangeFunc g ps assign body).wpIn Fence.wide 0 P Q a w:=by
 have hput:∀(A:World) (r:Loop) (o:Obj),A.heap[w.heap.size+1]? = some (.loop r)->dF (w.heap.size+1) A (A.putObj (w.heap.size+1) o):=fun A r o cO=>dF.put A _ o;have hab:∀(W:World) (r r' r'':Loop) (Wc:World),W.heap[w.heap.size+1]? = some (.loop r)->cz w.heap.size (W.putObj (w.heap.size+1) (.loop r')) Wc->cz (w.heap.size+2) W (Wc.putObj (w.heap.size+1) (.loop r'')):=by{intro W r r' r'' Wc cO hk;have hs:=hk.1;rw[World.putObj_size]at hs;refine⟨by rw[World.putObj_size];exact hs,fun k kO hk2=>?_⟩;rw[World.putObj_heap_other ae,hk.2 _ ae (by rw[World.putObj_size];omega),World.putObj_heap_other ae]};refine Kq (Kb:=fun A B=>cz w.heap.size A B/\∀k∈ks,B.heap[k]? = A.heap[k]?) (pT:=fun A B=>cz w.heap.size A B) hg eg jM hseq (fun i W=>I i W/\w.heap.size+2<=W.heap.size) (fun c W=>Ix c W/\w.heap.size+2<=W.heap.size) ?_ ?_ ?_ ?_ ?_ ?_ ?_ ?_ ?_ (fun W h=>hdone W h.1) (fun c W h=>uE c W h.1);{intro A B hA hst;have:=ku A B hst;exact⟨this.size,this.block _ ae,this.block _ ae⟩};{intro i A B hA hst;have:=ku A B hst;exact⟨hI i A B hA.1 ae (dF.zt this),a_ hA.2 this.size⟩};{intro c A B hA hst;have:=ku A B hst;exact⟨mY c A B hA.1 hA.2 (dF.zt this),a_ hA.2 this.size⟩};{exact fun i A r o h cO=>⟨hI i A _ h.1 ae (hput A r o cO),by rw[World.putObj_size];exact h.2⟩};{exact fun c A r o h cO=>⟨mY c A _ h.1 h.2 (hput A r o cO),by rw[World.putObj_size];exact h.2⟩};{exact fun r=>⟨hI 0 w _ h0 aA (dF.zt ((aO.alloc aA _).alloc ar _)),ar⟩};{intro W r r' r'' Wc cO hk hL;refine pU _ _ (fun k gF=>?_) (hab W r r' r'' Wc cO hk.1);have:=ng k gF;rw[World.putObj_heap_other ae,hk.2 k gF,World.putObj_heap_other ae]};{intro W r r' r'' Wc cO hk hL;exact hKx _ _ (hab W r r' r'' Wc cO hk)};{
 intro l i x V W hx ax hsz;refine wpIn_mono (xQ l i x V W hx ax.1 hsz) ?_;rintro e0 a0 V0 jo;have eQ:e0=.normal:=by cases e0 <;> first|rfl|exact jo.elim
 subst eQ;obtain⟨oD,ie⟩:=jo;refine⟨oD,wpIn_mono ie ?_⟩;rintro e a3 W3 hp;cases e with
 | normal=>exact⟨⟨hp.1.1,hp.1.2 _ aA ae,hp.1.2 _ ae ae⟩,⟨hp.1,hp.2.1⟩,hp.2.2,a_ hsz hp.1.1⟩
 | ret=>exact⟨⟨hp.1.1,hp.1.2 _ aA ae,hp.1.2 _ ae ae⟩,hp.1,hp.2,a_ hsz hp.1.1⟩
 | exit id=>exact⟨⟨hp.1.1,hp.1.2 _ aA ae,hp.1.2 _ ae ae⟩,hp.1,hp.2,a_ hsz hp.1.1⟩
 | goto t=>exact⟨⟨hp.1.1,hp.1.2 _ aA ae,hp.1.2 _ ae ae⟩,hp.1,hp.2,a_ hsz hp.1.1⟩
 | panic ch=>exact hp.elim
 | outgrown=>exact hp.elim}
def Oj(d:Nat)(ks:List Nat)(I:World->Prop)(Ix:Code->World->Prop)(W:World):Exit->Act->World->Prop
 | .normal,_,W'=>jN d W W'/\(∀k∈ks,W'.heap[k]? = W.heap[k]?)/\I W'
 | .ret,_,W'=>jN d W W'/\Ix .ret W'
 | .exit id,_,W'=>jN d W W'/\Ix (.exit id) W'
 | .goto t,_,W'=>jN d W W'/\Ix (.goto t) W'
 | .panic _,_,_=>False
 | .outgrown,_,_=>False
theorem alg{g:Operand}{ps:Array Tmp}{assign body:Code}{Q:Exit->Act->World->Prop}{a:Act}{w:World}
  {gf:Nat} {lb:Array Value} (hg:a.eval g=.func (.func gf) #[] lb) (eg:∀args w,(callFunc gf args).run P w=.ok (.enter gf args) w)
  {encs:α->Array Value} {xs:List α} {St Kp Kx:World->World->Prop} (jM:∀x,(encs x).size=ps.size)
  (hseq:∀r,tD P gf lb encs xs St Kp Kx ((w.alloc (.deferred (some []))).alloc (.loop r)))
  (ks:List Nat) (ng:∀k∈ks,k<w.heap.size)
  (ku:∀A B,St A B->au A B)
  (pU:∀A B,(∀k∈ks,B.heap[k]? = A.heap[k]?)->A.heap.size<=B.heap.size->Kp A B)
  (hKx:∀A B,Kx A B)
  (I:Nat->World->Prop) (Ix:Code->World->Prop)
  (hI:∀i A B,I i A->w.heap.size<=A.heap.size->dF (w.heap.size+1) A B->I i B) (mY:∀c A B,Ix c A->w.heap.size+2<=A.heap.size->dF (w.heap.size+1) A B->Ix c B)
  (h0:I 0 w)
  (xQ:∀(l i:Nat) (x:α) (V W:World),xs[i]? = some x->I i W->w.heap.size+2<=W.heap.size ->
   assign.wpIn (Fence.wide.inRound l) 0 P (Exit.then (fun a₁ V'=>V'=V/\body.wpIn (Fence.wide.inRound l) 0 P (Oj w.heap.size ks (I (i+1)) Ix W) a₁ W) (fun _ _ _=>False)) { tmps:=(ps.zip (encs x)).foldl (fun t (p,v)=>t.setIfInBounds p v) a.tmps,defers:=[] } V)
  (hdone:∀W,I xs.length W->W.heap[w.heap.size]? = some (.deferred (some []))->w.heap.size+2<=W.heap.size->Q .normal { a with defers:={ target:=.collected w.heap.size,args:=#[] } :: a.defers } W)
  (uE:∀c W,Ix c W->W.heap[w.heap.size]? = some (.deferred (some []))->w.heap.size+2<=W.heap.size->c.wpIn Fence.wide 0 P Q { a with defers:={ target:=.collected w.heap.size,args:=#[] } :: a.defers } W) :
  (Code.rangeFunc g ps assign body).wpIn Fence.wide 0 P Q a w:=by
 have hput:∀(A:World) (r:Loop) (o:Obj),A.heap[w.heap.size+1]? = some (.loop r)->dF (w.heap.size+1) A (A.putObj (w.heap.size+1) o):=fun A r o cO=>dF.put A _ o;refine Kq (Kb:=fun A B=>∀k∈ks,B.heap[k]? = A.heap[k]?) (pT:=fun _ _=>True) hg eg jM hseq (fun i W=>I i W/\w.heap.size+2<=W.heap.size) (fun c W=>Ix c W/\w.heap.size+2<=W.heap.size) ?_ ?_ ?_ ?_ ?_ ?_ ?_ ?_ ?_ (fun W h=>hdone W h.1) (fun c W h=>uE c W h.1);{intro A B hA hst;have:=ku A B hst;exact⟨this.size,this.block _ ae,this.block _ ae⟩};{intro i A B hA hst;have:=ku A B hst;exact⟨hI i A B hA.1 ae (dF.zt this),a_ hA.2 this.size⟩};{intro c A B hA hst;have:=ku A B hst;exact⟨mY c A B hA.1 hA.2 (dF.zt this),a_ hA.2 this.size⟩};{exact fun i A r o h cO=>⟨hI i A _ h.1 ae (hput A r o cO),by rw[World.putObj_size];exact h.2⟩};{exact fun c A r o h cO=>⟨mY c A _ h.1 h.2 (hput A r o cO),by rw[World.putObj_size];exact h.2⟩};{exact fun r=>⟨hI 0 w _ h0 aA (dF.zt ((aO.alloc aA _).alloc ar _)),ar⟩};{intro W r r' r'' Wc cO hk hL;refine pU _ _ (fun k gF=>?_) ?_;{have:=ng k gF;rw[World.putObj_heap_other ae,hk k gF,World.putObj_heap_other ae]};{have:=hL.1;rw[World.putObj_size]at this ⊢;exact this}};{intro W r r' r'' Wc cO hk hL;exact hKx _ _};{
 intro l i x V W hx ax hsz;refine wpIn_mono (xQ l i x V W hx ax.1 hsz) ?_;rintro e0 a0 V0 jo;have eQ:e0=.normal:=by cases e0 <;> first|rfl|exact jo.elim
 subst eQ;obtain⟨oD,ie⟩:=jo;refine⟨oD,wpIn_mono ie ?_⟩;rintro e a3 W3 hp;cases e with
 | normal=>exact⟨hp.1,hp.2.1,hp.2.2,a_ hsz hp.1.1⟩
 | ret=>exact⟨hp.1,aQ,hp.2,a_ hsz hp.1.1⟩
 | exit id=>exact⟨hp.1,aQ,hp.2,a_ hsz hp.1.1⟩
 | goto t=>exact⟨hp.1,aQ,hp.2,a_ hsz hp.1.1⟩
 | panic ch=>exact hp.elim
 | outgrown=>exact hp.elim}
/-! ### a block of one cell -/
def aR(W:World)(k:Nat)(v:Value)(t:TypeId):Prop:=W.heap[k]? = some (.cells #[v] t)
theorem aR.cell{W:World}{k:Nat}{v:Value}{t:TypeId}(h:aR W k v t):W.cell? (ak k 0)=some v:=by unfold aR at h;simp[World.cell?,h]
theorem aR.frozen{W:World}{k:Nat}{v:Value}{t:TypeId}(h:aR W k v t):W.frozen? (ak k 0)=false:=by unfold aR at h;simp[World.frozen?,h]
theorem aR.lt{W:World}{k:Nat}{v:Value}{t:TypeId}(h:aR W k v t):k<W.heap.size:=(bV.1 h).1
theorem aR.set{W:World}{k:Nat}{v:Value}{t:TypeId}(h:aR W k v t)(u:Value):aR (W.setCell ⟨k,0,none⟩ u) k u t:=by unfold aR at *;simp only[World.setCell];rw[fw,aJ rfl,h];rfl
theorem aR.below{W W':World}{k n:Nat}{v:Value}{t:TypeId}(h:aR W k v t)(hb:Below n W W')(hk:k<n):aR W' k v t:=(hb.block k hk).trans h
theorem aR.put{W:World}{k d:Nat}{v:Value}{t:TypeId}{o:Obj}(h:aR W k v t)(hk:k≠d):aR (W.putObj d o) k v t:=(World.putObj_heap_other hk).trans h
theorem aR.l7(W:World)(v:Value)(t:TypeId):aR (W.alloc (.cells #[v] t)) W.heap.size v t:=World.alloc_heap_new W _
theorem aR.alloc{W:World}{k:Nat}{v:Value}{t:TypeId}(h:aR W k v t)(o:Obj):aR (W.alloc o) k v t:=(cD W o k h.lt).trans h
theorem cz.setCell{d:Nat}(W:World)(k:Nat)(v:Value)(hk:k<d):cz d W (W.setCell ⟨k,0,none⟩ v) :=
 ⟨by simp[World.setCell],fun j hj _=>cZ _ _ _ _ (by show j≠k;omega)⟩
end
section
attribute [local go_sem] Oper.semAt_some
def cB(rs:List ai)(n:ah):List ai :=
 match (bz cN rs).find? (fun x=>cQ x == n)with
 | some x=>x.2
 | none=>[]
def HL(v:Value)(b off:Nat)(rs:List ai):Prop:=(v=aH/\rs = [])\/∃cap,v=aD b off rs.length cap/\rs.length<=cap
def nh(b off:Nat)(rs:List ai)(v:Value)(l:List ai):Prop:=(v=aH/\l = [])\/∃k,(v=aD b (off+k*4) l.length l.length/\k+l.length<=rs.length/\l=(rs.drop k).take l.length)
theorem nh.at{w:World}{b off:Nat}{rs l:List ai}{v:Value}(h:nh b off rs v l)(hr:dG w b off rs):∃o',dG w b o' l/\HL v b o' l/\∀bN,∀x∈bz bN l,nh b off rs (aD b (o'+x.1*4) x.2.length x.2.length) x.2:=by
 rcases h with⟨rfl,rfl⟩|⟨k,rfl,hk,hl⟩;{exact⟨off,⟨hr.1,fun j hj=>by simp at hj⟩,.inl ⟨rfl,rfl⟩,fun bN x hx=>by simp[bz,jy]at hx⟩};{
 refine⟨off+k*4,by rw[hl];exact(hr.drop k).take _,.inr ⟨_,rfl,bH _⟩,fun bN x hx=>.inr ⟨k+x.1,?_,?_,?_⟩⟩;{rw[CB,<- Hs]};{have:=(wD hx).1;omega};{
 obtain⟨h1,_,h3⟩:=wD hx;conv=>lhs;rw[h3,hl]
 rw[List.drop_take,List.take_take,rF,v_ ae]}}
theorem nh.rv{w:World}{b off:Nat}{rs l:List ai}{v:Value}(h:nh b off rs v l)(hr:dG w b off rs):jm w v l:=by obtain⟨o',h1,h2,_⟩:=h.at hr;rcases h2 with h2|⟨cap,rfl,hc⟩;{exact .inl h2};{exact .inr ⟨b,o',cap,rfl,hc,h1⟩}
theorem nh.slice{b off:Nat}{rs l:List ai}{v:Value}(h:nh b off rs v l):∃a c,v=.slice a l.length c:=by rcases h with⟨rfl,rfl⟩|⟨k,rfl,_,_⟩;{exact⟨none,0,rfl⟩};{exact⟨_,_,rfl⟩}
theorem nh.len{b off:Nat}{rs l:List ai}{v:Value}(h:nh b off rs v l):l.length<=rs.length:=by rcases h with⟨rfl,rfl⟩|⟨k,rfl,_,_⟩;{simp};{omega}
theorem nh.alh{b off:Nat}{rs:List ai}{bN:ai->ai->Bool}{x:Nat×List ai}(hx:x∈bz bN rs):nh b off rs (aD b (off+x.1*4) x.2.length x.2.length) x.2 :=
 .inr ⟨x.1,rfl,(wD hx).1,(wD hx).2.2⟩
theorem aaA{p:Nat×List ai->Bool}{l:List (Nat×List ai)}{i:Nat}{x:Nat×List ai}(h:l[i]? = some x):(l.drop i).find? p=if p x then some x else(l.drop (i+1)).find? p:=by obtain⟨ax,rfl⟩:=jX.1 h;rw[ko ax,SG];cases p l[i] <;> rfl
theorem aaB(b off cap:Nat)(n:ah)(rs:List ai)(w:World)(hr:dG w b off rs)(dt:rs.length<=cap)(hlen:rs.length<=3001) :
  aB 184 #[aD b off rs.length cap,ay n] w fun e w'=>(∃v,e=.returned v/\nh b off rs v (cB rs n))/\au w w':=by
 refine(cj (n:=0)).1 ?_;refine callsIn_of_wp_marks func184 rfl aQ ?_;simp only[ntmps184,pc,bP,fy,Nat.reduceAdd,Nat.reduceSub,o_,pL,pN,pM,gb,fU];have bC:=ag hr;have hb:=hr.1;clear hr;gi_wp2_with (refine⟨aQ,rfl,?_⟩;gi_at_call 109;refine(cj.2 (TD _ _ _ _)).mono ?_;rintro e w' ⟨rfl,rfl⟩);have e0:aR (((w.alloc (.cells #[.string (aq n)] 9)).alloc (.cells #[.slice none 0 0] 41)).alloc (.cells #[.slice (some ⟨b,off,none⟩) rs.length cap] 41)) w.heap.size (ay n) 9:=((aR.l7 _ _ _).alloc _).alloc _;have e1:aR (((w.alloc (.cells #[.string (aq n)] 9)).alloc (.cells #[.slice none 0 0] 41)).alloc (.cells #[.slice (some ⟨b,off,none⟩) rs.length cap] 41)) (w.heap.size+1) (aH) 41:=by{have:=(aR.l7 (w.alloc (.cells #[.string (aq n)] 9)) (aH) 41).alloc (.cells #[.slice (some ⟨b,off,none⟩) rs.length cap] 41);rwa [dD]at this};have e2:(((w.alloc (.cells #[.string (aq n)] 9)).alloc (.cells #[.slice none 0 0] 41)).alloc (.cells #[.slice (some ⟨b,off,none⟩) rs.length cap] 41)).cell? (ak (w.heap.size+1+1) 0)=some (aD b off rs.length cap):=by go_simp
 have e4:(((w.alloc (.cells #[.string (aq n)] 9)).alloc (.cells #[.slice none 0 0] 41)).alloc (.cells #[.slice (some ⟨b,off,none⟩) rs.length cap] 41)).heap.size=w.heap.size+3:=ar;have e5:au w (((w.alloc (.cells #[.string (aq n)] 9)).alloc (.cells #[.slice none 0 0] 41)).alloc (.cells #[.slice (some ⟨b,off,none⟩) rs.length cap] 41)):=((aO.alloc aA _).alloc ar _).alloc aP _;generalize ((w.alloc (.cells #[.string (aq n)] 9)).alloc (.cells #[.slice none 0 0] 41)).alloc (.cells #[.slice (some ⟨b,off,none⟩) rs.length cap] 41)=W2 at *;have hgrow:∀r,au W2 ((W2.alloc (.deferred (some []))).alloc (.loop r)):=fun r=>(aO.alloc aA _).alloc ar _;have E8:∀r,((W2.alloc (.deferred (some []))).alloc (.loop r)).heap.size=W2.heap.size+2:=fun r=>by simp
 refine E_ (xs:=bz cN rs) (encs:=fun x:Nat×List ai=>#[ay (cQ x),aD b (off+x.1*4) x.2.length x.2.length]) (St:=fun A B=>Below (W2.heap.size+2) A B) (Kp:=fun A B=>B.heap[b]? = A.heap[b]?/\cz (W2.heap.size+2) A B) (Kx:=fun A B=>cz (W2.heap.size+2) A B) (gf:=179) (lb:=#[aM (w.heap.size+1+1)]) rfl (enters_of func179 aI rfl) (fun _=>rfl) ?seq [b] aP (fun _ _ _ h=>h) (fun A B h h'=>⟨h _ ar,h'⟩) (fun _ _ h=>h) (fun i W=>((bz cN rs).drop i).find? (fun x=>cQ x == n)=(bz cN rs).find? (fun x=>cQ x == n)/\au w W/\aR W w.heap.size (ay n) 9/\aR W (w.heap.size+1) (aH) 41) (fun c W=>c=.ret/\au w W/\∃x,x∈bz cN rs/\cB rs n=x.2/\aR W (w.heap.size+1) (aD b (off+x.1*4) x.2.length x.2.length) 41) (fun i A B h hb=>⟨h.1,h.2.1.trans (hb.mono ae),h.2.2.1.below hb ae,h.2.2.2.below hb ae⟩) (fun c A B h hb=>⟨h.1,h.2.1.trans (hb.mono ae),by obtain⟨x,h1,h2,h3⟩:=h.2.2;exact⟨x,h1,h2,h3.below hb ae⟩⟩) ⟨rfl,e5,e0,e1⟩ ?round ?done ?stop;case seq =>(intro r;have hg:=hgrow r;have:=TE b off cap (w.heap.size+1+1) rs ((W2.alloc (.deferred (some []))).alloc (.loop r)) ((hg.cell (p:=⟨w.heap.size+1+1,0,none⟩) (by show w.heap.size+1+1<W2.heap.size;omega)).trans e2) ((bC.below e5).below hg) (by have:=hg.size;omega) hlen dt;rw[E8 r]at this;exact this)
 case round =>(intro l' i x V W hx hI hsz;gi_wp2_with fail;refine⟨aQ,?_⟩;obtain⟨hf,hB,hn',hc⟩:=hI;have cn:=hn'.cell;have cb:=hc.cell;have cf:=hc.frozen;have lh:((aq (cQ x)).toList == (aq n).toList)=(cQ x == n):=CN;have hst:=aaA (p:=fun x=>cQ x == n) hx;rw[hf]at hst;have HS:=ag hst;have CP:=ag hn';have iK:=ag hc;clear hf hst hn' hc;cases ho:cQ x == n;{rw[ho]at lh;have aW:Hid (((bz cN rs).drop (i+1)).find? (fun x=>cQ x == n)=(bz cN rs).find? (fun x=>cQ x == n)):=by{rw[Hid,af HS,aF (by simp[ho])]};gi_wp2_with fail;exact⟨cz.refl _ _,ar,aW,hB,CP,iK⟩};{rw[ho]at lh;have aW:Hid (cB rs n=x.2):=by{unfold cB;rw[Hid,af HS,aJ ho]};gi_wp2_with fail;exact⟨cz.setCell W _ _ ae,rfl,hB.setCell (by show w.heap.size<=w.heap.size+1;omega) _,x,ux hx,aW,iK.set _⟩})
 case done =>(intro W hI cT hsz;obtain⟨hf,hB,hn',hc⟩:=hI;have cb:=hc.cell;have cf:=hc.frozen;have aW:Hid (cB rs n = []):=by{unfold cB;rw[Hid,<- hf,sX aA];rfl};clear hf;gi_wp2_with fail;have uJ:=(cZ W (ak (w.heap.size+1) 0) (aH) W2.heap.size (by show W2.heap.size≠w.heap.size+1;omega)).trans cT;refine⟨ar,.inl ⟨_,_,rfl,run_takeDeferred uJ,?_⟩⟩;have cr:=((hc.set (aH)).put (d:=W2.heap.size) (o:=.deferred none) ae).cell;refine⟨aH,by simp[results,results184,go_sem,cr],⟨_,rfl,.inl ⟨rfl,aW⟩⟩,?_⟩;exact(hB.setCell (by show w.heap.size<=w.heap.size+1;omega) _).trans (belowK_b (w:=W2) ae _ _ _ _ aA uJ rfl rfl))
 case stop =>(intro c W hI cT hsz;obtain⟨rfl,hB,x,hx,l9,hc⟩:=hI;have aW:=ag l9;clear l9;have cb:=hc.cell;gi_wp2_with fail;refine⟨ar,.inl ⟨_,_,rfl,run_takeDeferred cT,?_⟩⟩;have cr:=(hc.put (d:=W2.heap.size) (o:=.deferred none) ae).cell;have jA:=hB.trans (belowK_b (w:=W2) (show w.heap.size<=W2.heap.size by omega) W _ _ (.deferred none) aA cT rfl rfl);refine⟨_,by simp[results,results184,go_sem,cr];rfl,⟨_,rfl,?_⟩,jA⟩;rw[af aW];exact nh.alh hx)
end
section
attribute [local go_sem] Oper.semAt_some
def l_(x:Nat×List ai):Int:=(x.2.headD ai.zero).type
def gi(rs:List ai)(k:Int):List ai :=
 match (bz bu rs).find? (fun x=>l_ x == k)with
 | some x=>x.2
 | none=>[]
theorem aaC(a:Option Addr)(n c:Nat)(w:World) :
  aB 107 #[.slice a n c] w fun e w'=>e=.returned (.func (.func 233) #[] #[aM w.heap.size,aM (w.heap.size+1)])/\w'=(w.alloc (.cells #[.slice a n c] 41)).alloc (.cells #[.func (.func 177) #[] #[]] 261):=by go_enter func107,ntmps107;go_wp2_with (go_at_call 176;refine(aas _ _ _ _ _).mono ?_;rintro e w' ⟨rfl,rfl⟩);go_ret;exact⟨rfl,rfl⟩
theorem aaD(x:Nat×List ai)(h:0<x.2.length):x.2[0].type=l_ x:=by
 obtain⟨k,l⟩:=x;cases l with
 | nil=>simp at h
 | cons a t=>rfl
theorem Fa{w:World}{v:Value}{rs:List ai}(h:jm w v rs):∃a c,v=.slice a rs.length c:=by rcases h with⟨rfl,rfl⟩|⟨b,off,cap,rfl,_,_⟩;{exact⟨none,0,rfl⟩};{exact⟨_,_,rfl⟩}
theorem TI(v:Value)(rs:List ai)(w:World)(hv:jm w v rs) :
  aB 107 #[v] w fun e w'=>e=.returned (.func (.func 233) #[] #[aM w.heap.size,aM (w.heap.size+1)])/\w'.heap.size=w.heap.size+2/\au w w' /\
   w'.cell? (ak w.heap.size 0)=some v/\w'.cell? (ak (w.heap.size+1) 0)=some (.func (.func 177) #[] #[]):=by obtain⟨a,c,rfl⟩:=Fa hv;refine(aaC a rs.length c w).mono ?_;rintro e w' ⟨rfl,rfl⟩;exact⟨rfl,ar,(aO.alloc aA _).alloc ar _,by go_simp,by go_simp⟩
theorem TJ(v:Value)(b off bl bs:Nat)(rs:List ai)(W0:World)(hv:HL v b off rs)
  (hl:W0.cell? (ak bl 0)=some v) (hs:W0.cell? (ak bs 0)=some (.func (.func 177) #[] #[]))
  (hr:dG W0 b off rs) (h1:bl<W0.heap.size) (h2:bs<W0.heap.size) (hlen:rs.length<=3001) :
  tD prog 233 #[aM bl,aM bs] (fun x:Nat×List ai=>#[aD b (off+x.1*4) x.2.length x.2.length]) (bz bu rs)
   (fun A B=>au A B) (j_ bl bs b) (fun _ _=>True) W0:=by rcases hv with⟨rfl,rfl⟩|⟨cap,rfl,hc⟩;{exact ak8 b off bl bs W0 hl _};{exact HI b off cap bl bs rs W0 hl hs hr h1 h2 hlen hc}
theorem CQ{bN:ai->ai->Bool}{rs:List ai}{x:Nat×List ai}(h:x∈bz bN rs):x.2.length<=rs.length:=by have:=(wD h).1;omega
theorem Kt(rs:List ai)(n:ah):(cB rs n).length<=rs.length:=by unfold cB;split;{rename_i x hx;exact CQ (J6 hx)};{simp}
theorem Ok(rs:List ai)(k:Int):(gi rs k).length<=rs.length:=by unfold gi;split;{rename_i x hx;exact CQ (J6 hx)};{simp}
theorem aaE(b off cap:Nat)(n:ah)(k:Int)(l0:List ai)(w:World)(hr:dG w b off l0)(dt:l0.length<=cap)(Ku:l0.length<=3001) :
  aB 112 #[aD b off l0.length cap,ay n,aj k] w fun e w'=>(∃v,e=.returned v/\nh b off l0 v (gi (cB l0 n) k))/\au w w':=by
 refine(cj (n:=0)).1 ?_;refine N5 func112 rfl aQ ?_;simp only[ntmps112,pc,bP,fy,Nat.reduceAdd,Nat.reduceSub,o_,pL,pN,pM,gb,fU];have hlen:=Kt l0 n;have dX:au w ((w.alloc (.cells #[.int .i64 k] 3)).alloc (.cells #[.slice none 0 0] 41)):=(aO.alloc aA _).alloc ar _;have HC:=ag (aaB b off cap n l0 _ (hr.below dX) dt Ku);have mf:=ag hr;have hb:=hr.1;clear hr;gi_wp2_with fail;refine⟨aQ,rfl,?_⟩;refine(cj.2 (af HC)).mono ?_;rintro e w1 ⟨⟨v,rfl,hv⟩,hb1⟩;have e0:aR w1 w.heap.size (aj k) 3:=((aR.l7 _ _ _).alloc _).below hb1 eI;have e1:aR w1 (w.heap.size+1) (aH) 41:=by{have:=(aR.l7 (w.alloc (.cells #[.int .i64 k] 3)) (aH) 41).below hb1 eI;rwa [dD]at this};have hB1:au w w1:=dX.trans (hb1.mono eI);have hs1:w.heap.size+2<=w1.heap.size:=by have:=hb1.size;simp at this;omega
 generalize tC:cB l0 n=rs at *;clear hb1 dX;obtain⟨o',hr,hL,aaF⟩:=hv.at (af mf);have bC:=ag hr;have ali:=ag hL;have jB:=ag aaF;have gR:=ag (hv.rv (mf.below hB1));obtain⟨av,cv,rfl⟩:=hv.slice;clear hv hr hL aaF;gi_wp2_with fail;refine⟨aQ,rfl,?_⟩;refine(cj.2 (TI _ rs _ (af gR))).mono ?_;rintro e W2 ⟨rfl,e4,hb2,e2,e3⟩;have e0':=e0.below hb2 e0.lt;have e1':=e1.below hb2 e1.lt;have e5:=hB1.trans (hb2.mono hB1.size);have kP:=ag (bC.below e5);clear e0 e1;gi_wp2_with fail;have hgrow:∀r,au W2 ((W2.alloc (.deferred (some []))).alloc (.loop r)):=fun r=>(aO.alloc aA _).alloc ar _;refine E_ (xs:=bz bu rs) (encs:=fun x:Nat×List ai=>#[aD b (o'+x.1*4) x.2.length x.2.length]) (St:=fun A B=>au A B) (Kp:=j_ w1.heap.size (w1.heap.size+1) b) (Kx:=fun _ _=>True) (gf:=233) (lb:=#[aM w1.heap.size,aM (w1.heap.size+1)]) rfl (enters_of func233 aI rfl) (fun _=>rfl) ?HI [w1.heap.size,w1.heap.size+1,b] aP (fun A B hA h=>h.mono hA) (fun A B h h'=>⟨h'.1,h _ ar,h _ ar,h _ ar⟩) (fun _ _ _=>aQ) (fun i W=>((bz bu rs).drop i).find? (fun x=>l_ x == k)=(bz bu rs).find? (fun x=>l_ x == k)/\au w W/\aR W w.heap.size (aj k) 3/\aR W (w.heap.size+1) (aH) 41) (fun c W=>c=.ret/\au w W/\∃x,x∈bz bu rs/\gi rs k=x.2/\aR W (w.heap.size+1) (aD b (o'+x.1*4) x.2.length x.2.length) 41) (fun i A B h hb'=>⟨h.1,h.2.1.trans (hb'.mono ae),h.2.2.1.below hb' ae,h.2.2.2.below hb' ae⟩) (fun c A B h hb'=>⟨h.1,h.2.1.trans (hb'.mono ae),by obtain⟨x,h1,h2,h3⟩:=h.2.2;exact⟨x,h1,h2,h3.below hb' ae⟩⟩) ⟨rfl,e5,e0',e1'⟩ ?round ?done ?stop;case HI =>(intro r;have hg:=hgrow r;exact TJ _ b o' _ _ rs _ (af ali) ((hg.cell (p:=⟨w1.heap.size,0,none⟩) (by show w1.heap.size<W2.heap.size;omega)).trans e2) ((hg.cell (p:=⟨w1.heap.size+1,0,none⟩) (by show w1.heap.size+1<W2.heap.size;omega)).trans e3) (kP.below hg) (by have:=hg.size;omega) (by have:=hg.size;omega) ae)
 case round =>(intro l' i x V W hx hI hsz;gi_wp2_with fail;refine⟨aQ,?_⟩;obtain⟨hf,hB,hn',hc⟩:=hI;have cn:=hn'.cell;have cb:=hc.cell;have cf:=hc.frozen;have hmem:x∈bz bu rs:=ux hx;have gM:=E6 (bC.below hB) hmem;have nT:=(wD hmem).2.1;obtain⟨q0,q1,q2,q3⟩:=gM.four 0 nT;clear q0 q1 q3 gM;rw[rK,gK,aaD x nT]at q2;have aaw:(0:Int)<(x.2.length:Int):=ae;have hmx:prog.follows .mixedOrders=true:=aI;have hst:=aaA (p:=fun x=>l_ x == k) hx;rw[hf]at hst;have HS:=ag hst;have CP:=ag hn';have iK:=ag hc;have dA:=ag hmem;clear hf hst hn' hc hmem;cases ho:l_ x == k;{have aW:Hid (((bz bu rs).drop (i+1)).find? (fun x=>l_ x == k)=(bz bu rs).find? (fun x=>l_ x == k)):=by{rw[Hid,af HS,aF (by simp[ho])]};have bf:Hid (cz W2.heap.size W W.drew/\(∀k'∈[w1.heap.size,w1.heap.size+1,b],W.drew.heap[k']? = W.heap[k']?)/\(((bz bu rs).drop (i+1)).find? (fun x=>l_ x == k)=(bz bu rs).find? (fun x=>l_ x == k)/\au w W.drew/\aR W.drew w.heap.size (aj k) 3/\aR W.drew (w.heap.size+1) (aH) 41)) := ⟨cz.refl _ W,fun _ _=>rfl,aW,hB.drew,CP,iK⟩;gi_wp2_with fail;refine E5 hmx (AZ aI) ?_;refine jw 0 ?_;refine jw 1 ?_;refine jw 2 ?_;refine wm (rs:=[3,4]) aI ar ?_;refine lf rfl (fun K hK=>?_) (lf rfl (fun K hK=>?_) wj);{go_simp;refine hK _ _ ?_;clear hK K;refine eD 4 fun K hK=>?_;go_simp;refine hK _ _ ?_;clear hK K;refine eD 5 fun K hK=>?_;go_simp;refine hK _ _ ?_;clear hK K;refine nR aI ?_ _;gi_wp2_with fail;exact bf};{go_simp;refine hK _ _ ?_;clear hK K;refine eD 3 fun K hK=>?_;go_simp;refine hK _ _ ?_;clear hK K;refine eD 5 fun K hK=>?_;go_simp;refine hK _ _ ?_;clear hK K;refine nR aI ?_ _;gi_wp2_with fail;exact bf}};{have aW:Hid (gi rs k=x.2):=by{unfold gi;rw[Hid,af HS,aJ ho]};have bf:Hid (cz W2.heap.size W (W.setCell ⟨w.heap.size+1,0,none⟩ (.slice (some ⟨b,o'+x.1*4,none⟩) x.2.length x.2.length)).drew/\(au w (W.setCell ⟨w.heap.size+1,0,none⟩ (.slice (some ⟨b,o'+x.1*4,none⟩) x.2.length x.2.length)).drew/\∃x',x'∈bz bu rs/\gi rs k=x'.2/\aR (W.setCell ⟨w.heap.size+1,0,none⟩ (.slice (some ⟨b,o'+x.1*4,none⟩) x.2.length x.2.length)).drew (w.heap.size+1) (aD b (o'+x'.1*4) x'.2.length x'.2.length) 41)) := ⟨cz.setCell W _ _ ae,(hB.setCell (by show w.heap.size<=w.heap.size+1;omega) _).drew,x,dA,aW,iK.set _⟩;gi_wp2_with fail;refine E5 hmx (AZ aI) ?_;refine jw 0 ?_;refine jw 1 ?_;refine jw 2 ?_;refine wm (rs:=[3,4]) aI ar ?_;refine lf rfl (fun K hK=>?_) (lf rfl (fun K hK=>?_) wj);{go_simp;refine hK _ _ ?_;clear hK K;refine eD 4 fun K hK=>?_;go_simp;refine hK _ _ ?_;clear hK K;refine eD 5 fun K hK=>?_;go_simp;refine hK _ _ ?_;clear hK K;refine nR aI ?_ _;gi_wp2_with fail;exact⟨bf.1,rfl,bf.2⟩};{go_simp;refine hK _ _ ?_;clear hK K;refine eD 3 fun K hK=>?_;go_simp;refine hK _ _ ?_;clear hK K;refine eD 5 fun K hK=>?_;go_simp;refine hK _ _ ?_;clear hK K;refine nR aI ?_ _;gi_wp2_with fail;exact⟨bf.1,rfl,bf.2⟩}})
 case done =>(intro W hI cT hsz;obtain⟨hf,hB,hn',hc⟩:=hI;have cb:=hc.cell;have cf:=hc.frozen;have aW:Hid (gi rs k = []):=by{unfold gi;rw[Hid,<- hf,sX aA];rfl};clear hf;gi_wp2_with fail;have uJ:=(cZ W (ak (w.heap.size+1) 0) (aH) W2.heap.size (by show W2.heap.size≠w.heap.size+1;omega)).trans cT;refine⟨ar,.inl ⟨_,_,rfl,EX uJ,?_⟩⟩;have cr:=((hc.set (aH)).put (d:=W2.heap.size) (o:=.deferred none) ae).cell;refine⟨aH,by simp[results,results112,go_sem,cr],⟨_,rfl,.inl ⟨rfl,by rw[tC];exact aW⟩⟩,?_⟩;exact(hB.setCell (by show w.heap.size<=w.heap.size+1;omega) _).trans (CJ (w:=W2) ae _ _ _ _ aA uJ rfl rfl))
 case stop =>(intro c W hI cT hsz;obtain⟨rfl,hB,x,hx,l9,hc⟩:=hI;have aW:=ag l9;clear l9;have cb:=hc.cell;gi_wp2_with fail;refine⟨ar,.inl ⟨_,_,rfl,EX cT,?_⟩⟩;have cr:=(hc.put (d:=W2.heap.size) (o:=.deferred none) ae).cell;have jA:=hB.trans (CJ (w:=W2) (show w.heap.size<=W2.heap.size by omega) W _ _ (.deferred none) aA cT rfl rfl);refine⟨_,by simp[results,results112,go_sem,cr];rfl,⟨_,rfl,?_⟩,jA⟩;rw[tC,af aW];exact jB _ x hx)
end
section
attribute [local go_sem] Oper.semAt_some
def iD(w:World)(zb:Nat)(o:ah)(b off cap:Nat)(rs:List ai):Prop :=
 zb<w.heap.size/\w.cell? (ak zb 0)=some (ay o)/\w.cell? (ak zb 1)=some (aD b off rs.length cap)/\rs.length<=cap/\dG w b off rs
theorem iD.below{w w':World}{zb b off cap:Nat}{o:ah}{rs:List ai}(h:iD w zb o b off cap rs)(hb:au w w'):iD w' zb o b off cap rs :=
 ⟨dP h.1 hb.size,(hb.cell (p:=⟨zb,0,none⟩) h.1).trans h.2.1,(hb.cell (p:=⟨zb,1,none⟩) h.1).trans h.2.2.1,h.2.2.2.1,h.2.2.2.2.below hb⟩
theorem iD.low{w w':World}{zb b off cap n:Nat}{o:ah}{rs:List ai}(h:iD w zb o b off cap rs)(hb:Below n w w')(h1:zb<n)(h2:b<n):iD w' zb o b off cap rs :=
 ⟨dP h.1 hb.size,(hb.cell (p:=⟨zb,0,none⟩) h1).trans h.2.1,(hb.cell (p:=⟨zb,1,none⟩) h1).trans h.2.2.1,h.2.2.2.1,ak4 h.2.2.2.2 hb h2⟩
def A0(o:ah)(rs:List ai):Prop:=rs.length<=3001/\o.length<=3000/\∀r∈rs,r.owner.length<=3000/\r.data.length<=3000
def jC(rs:List ai)(n:ah):Bool:=!(uH n rs).isEmpty
theorem aaG(zb b off cap:Nat)(o n:ah)(rs:List ai)(w:World)(hz:iD w zb o b off cap rs)(hlen:rs.length<=3001) :
  aB 270 #[aM zb,ay n] w fun e w'=>(∃v,e=.returned v/\nh b off rs v (cB rs n))/\au w w':=by obtain⟨hzb,hz0,hz1,dt,hr⟩:=hz;have HC:=ag (aaB b off cap n rs w hr dt hlen);clear hr;go_enter func270,ntmps270;go_wp2_with fail;refine HC.mono ?_;rintro e w1 ⟨⟨v,rfl,hv⟩,hb1⟩;have gR:=ag hv;clear hv;go_wp2;go_ret;exact⟨⟨_,rfl,gR⟩,hb1⟩
theorem TK(zb b off cap:Nat)(o n:ah)(k:Int)(rs:List ai)(w:World)(hz:iD w zb o b off cap rs)(hlen:rs.length<=3001) :
  aB 192 #[aM zb,ay n,aj k] w fun e w'=>(∃v,e=.returned v/\nh b off rs v (gi (cB rs n) k))/\au w w':=by obtain⟨hzb,hz0,hz1,dt,hr⟩:=hz;have HC:=ag (aaE b off cap n k rs w hr dt hlen);clear hr;go_enter func192,ntmps192;go_wp2_with fail;refine HC.mono ?_;rintro e w1 ⟨⟨v,rfl,hv⟩,hb1⟩;have gR:=ag hv;clear hv;go_wp2;go_ret;exact⟨⟨_,rfl,gR⟩,hb1⟩
theorem aaH(zb b off cap:Nat)(o n:ah)(rs:List ai)(w:World)(hz:iD w zb o b off cap rs)(hlen:rs.length<=3001)(hn:n.length<=3000)(ho:∀r∈rs,r.owner.length<=3000) :
  aB 269 #[aM zb,ay n] w (bQ (.bool (jC rs n)) w):=by
 refine(cj (n:=0)).1 ?_;refine callsIn_of_wp_marks func269 rfl aQ ?_;simp only[ntmps269,pc,bP,fy,Nat.reduceAdd,Nat.reduceSub,o_,pL,pN,pM,gb,fU];have HO:=ag ho;obtain⟨hzb,hz0,hz1,dt,hr⟩:=hz;have bC:=ag hr;have hb:=hr.1;clear hr ho;gi_wp2_with fail;refine⟨aQ,rfl,?_⟩;refine(cj.2 (aax _ _ _ _ _)).mono ?_;rintro e W2 ⟨rfl,e4,hb2,e1,e2⟩;have e0:aR W2 w.heap.size (.bool false) 4:=(aR.l7 _ _ _).below hb2 eI;have e5:au w W2:=(aO.alloc aA _).trans (hb2.mono eI);simp only[dD]at e4 e1 e2;gi_wp2_with fail;have hgrow:∀r,au W2 ((W2.alloc (.deferred (some []))).alloc (.loop r)):=fun r=>(aO.alloc aA _).alloc ar _;have E8:∀r,((W2.alloc (.deferred (some []))).alloc (.loop r)).heap.size=W2.heap.size+2:=fun r=>by simp
 refine E_ (xs:=uH n rs) (encs:=fun x:Nat×List ai=>#[ay (cQ x),aD b (off+x.1*4) x.2.length x.2.length]) (St:=fun A B=>Below (W2.heap.size+2) A B) (Kp:=fun A B=>(B.heap[b]? = A.heap[b]?/\B.heap[w.heap.size+1+1]? = A.heap[w.heap.size+1+1]?)/\cz (W2.heap.size+2) A B) (Kx:=fun A B=>cz (W2.heap.size+2) A B) (gf:=235) (lb:=#[aM (w.heap.size+1),aM (w.heap.size+1+1)]) rfl (enters_of func235 aI rfl) (fun _=>rfl) ?seq [b,w.heap.size+1+1] aP (fun _ _ _ h=>h) (fun A B h h'=>⟨⟨h _ ar,h _ ar⟩,h'⟩) (fun _ _ h=>h) (fun i W=>i=0/\au w W/\aR W w.heap.size (.bool false) 4) (fun c W=>c=.ret/\jC rs n=true/\au w W/\aR W w.heap.size (.bool true) 4) (fun i A B h hb=>⟨h.1,h.2.1.trans (hb.mono ae),h.2.2.below hb ae⟩) (fun c A B h hb=>⟨h.1,h.2.1,h.2.2.1.trans (hb.mono ae),h.2.2.2.below hb ae⟩) ⟨rfl,e5,e0⟩ ?round ?done ?stop;case seq =>(intro r;have hg:=hgrow r;have:=aaz b off cap (w.heap.size+1) (w.heap.size+1+1) n rs ((W2.alloc (.deferred (some []))).alloc (.loop r)) ((bC.below e5).below hg) dt ((hg.cell (p:=⟨w.heap.size+1,0,none⟩) (by show w.heap.size+1<W2.heap.size;omega)).trans e1) ((hg.cell (p:=⟨w.heap.size+1+1,0,none⟩) (by show w.heap.size+1+1<W2.heap.size;omega)).trans e2) (by have:=hg.size;omega) (by have:=hg.size;omega) hlen hn (af HO);rw[E8 r]at this;exact this)
 case round =>(
 intro l' i x V W hx hI hsz;gi_wp2_with fail;refine⟨aQ,?_⟩;obtain⟨rfl,hB,hc⟩:=hI;have cb:=hc.cell;have cf:=hc.frozen;have qO:jC rs n=true:=by{
 unfold jC;cases h:uH n rs with
 | nil=>rw[h]at hx;simp at hx
 | cons y t=>rfl};gi_wp2_with fail;exact⟨cz.setCell W _ _ ae,rfl,qO,hB.setCell aA _,hc.set _⟩)
 case done =>(
 intro W hI cT hsz;obtain⟨h0,hB,hc⟩:=hI;have cb:=hc.cell;have cf:=hc.frozen;have qO:jC rs n=false:=by{
 unfold jC;cases h:uH n rs with
 | nil=>rfl
 | cons y t=>rw[h]at h0;simp at h0};gi_wp2_with fail;refine⟨ar,.inl ⟨_,_,rfl,run_takeDeferred ((cZ _ _ _ _ (by show W2.heap.size≠w.heap.size;omega)).trans cT),?_⟩⟩;have cr:=((hc.set (.bool false)).put (d:=W2.heap.size) (o:=.deferred none) ae).cell;refine⟨.bool false,by simp[results,results269,go_sem,cr],by rw[qO],?_⟩;exact(hB.setCell aA _).trans (belowK_b (w:=W2) ae _ _ _ _ aA ((cZ _ _ _ _ (by show W2.heap.size≠w.heap.size;omega)).trans cT) rfl rfl))
 case stop =>(intro c W hI cT hsz;obtain⟨rfl,ht,hB,hc⟩:=hI;have cb:=hc.cell;gi_wp2_with fail;refine⟨ar,.inl ⟨_,_,rfl,run_takeDeferred cT,?_⟩⟩;have cr:=(hc.put (d:=W2.heap.size) (o:=.deferred none) ae).cell;refine⟨.bool true,by simp[results,results269,go_sem,cr],by rw[ht],?_⟩;exact hB.trans (belowK_b (w:=W2) ae _ _ _ _ aA cT rfl rfl))
end
section
attribute [local go_sem] Oper.semAt_some
def ik(l:ah):ah:=(Lib.cut l [46]).2.1
def Fb:Nat->ah->List ah
 | 0,_=>[]
 | f+1,l=>if l = []then []else l :: Fb f (ik l)
def cg(l:ah):List ah:=Fb l.length l
theorem CR(a b:ah)(h:(46:UInt8) ∉ a):ik (a++46 :: b)=b:=by unfold ik Lib.cut;rw[Lib.index_one,N8 46 a b h,aJ ae];simp[EM]
theorem Fc(l:ah)(h:(46:UInt8) ∉ l):ik l = []:=by unfold ik Lib.cut;rw[Lib.index_one,N7 46 l h,aF bD]
theorem CS(l:ah)(h:l≠[]):(ik l).length<l.length:=by
 by_cases hc:(46:UInt8)∈l;{obtain⟨a,b,rfl,ha⟩:=JW hc;rw[CR a b ha];simp;omega};{
 rw[Fc l hc];cases l with
 | nil=>exact absurd rfl h
 | cons x t=>simp}
theorem TL:∀(f:Nat) (l:ah),l.length<=f->Fb f l=Fb l.length l
 | 0,l,h=>by obtain rfl:l = []:=fp ae;rfl
 | f+1,l,h=>by by_cases hl:l = [];{subst hl;rfl};{have h1:=CS l hl;obtain⟨k,hk⟩:∃k,l.length=k+1:=⟨l.length - 1,by cases l with|nil=>exact absurd rfl hl|cons x t=>simp⟩;rw[hk,Fb,Fb,aF hl,aF hl,TL f _ ae,TL k _ ae]}
theorem rS:cg [] = []:=rfl
theorem qP(l:ah)(h:l≠[]):cg l=l :: cg (ik l):=by have h1:=CS l h;unfold cg;obtain⟨k,hk⟩:∃k,l.length=k+1:=⟨l.length - 1,by cases l with|nil=>exact absurd rfl h|cons x t=>simp⟩;rw[hk,Fb,aF h,TL k _ ae]
theorem aaI:∀(f:Nat) (l:ah),l.length<=f->∀x∈cg l,x.length<=l.length
 | 0,l,h,x,hx=>by obtain rfl:l = []:=fp ae;simp[rS]at hx
 | f+1,l,h,x,hx=>by by_cases hl:l = [];{subst hl;simp[rS]at hx};{rw[qP l hl,ei]at hx;have h1:=CS l hl;rcases hx with rfl|hx;{exact bH _};{have:=aaI f (ik l) ae x hx;omega}}
theorem Ol{l x:ah}(hx:x∈cg l):x.length<=l.length:=aaI _ _ aA x hx
def aaJ:Value->Nat
 | .string s=>s.size
 | _=>0
theorem Om(n:ah)(w:World) :
  aB 191 #[ay n] w fun e w'=>e=.returned (.func (.func 241) #[] #[aM w.heap.size])/\w'.heap.size=w.heap.size+1/\au w w'/\w'.cell? (ak w.heap.size 0)=some (ay n):=by go_enter func191,ntmps191;go_wp2;go_ret;exact⟨rfl,ar,aO.alloc aA _,by go_simp⟩
theorem aaK(e:ah)(w:World)(hg:bK w)(he:e.length<=3000) :
  aB 242 #[ay e,.string ⟨#[46]⟩] w fun x w'=>(∃b c,x=.returned (.tuple #[ay b,ay (ik e),.bool c]))/\au w w':=by obtain⟨_,m,hm⟩:=hg;refine(Tryz.strings_Cut (aq e) ⟨#[46]⟩ m w (by rw[bJ];omega) hm).mono ?_;rintro x w' ⟨rfl,k,rfl⟩;exact⟨⟨_,_,rfl⟩,pj (bR _ w) k⟩
theorem alj(n:ah)(w:World)(hg:bK w)(hn:n.length<=3000) :
  aB 271 #[ay n] w fun e w'=>∃jz,e=.returned (.func (.func 241) #[] #[aM jz])/\jz<w'.heap.size/\w.heap.size<=jz/\au w w'/\w'.cell? (ak jz 0)=some (ay (ik n)):=by have HC:=ag (aaK n w hg hn);clear hg;go_enter func271,ntmps271;go_wp2_with fail;refine HC.mono ?_;rintro e w1 ⟨⟨b,c,rfl⟩,hb1⟩;go_wp2_with fail;refine(Om (ik n) w1).mono ?_;rintro e w2 ⟨rfl,hs2,hb2,c2⟩;have C2:=ag c2;clear c2;go_wp2;go_ret;have:=hb1.size;exact⟨_,rfl,ae,ae,hb1.trans (hb2.mono hb1.size),C2⟩
theorem Oo(jz:Nat)(n:ah)(W0:World)(hc:W0.cell? (ak jz 0)=some (ay n))(hg:bK W0)(hn:n.length<=3000) :
  tD prog 241 #[aM jz] (fun e:ah=>#[ay e]) (cg n)
   (fun A B=>au A B) (fun A B=>A.heap.size<=B.heap.size/\B.heap[0]? = A.heap[0]?) (fun _ _=>True) W0:=by
 intro l J Jx hJ uF hY h0;have ke:=ag hY;have gG:=ag hJ;have HG:=ag hg;clear hY hJ uF hg;refine callsIn_of_wp func241 rfl aQ ?_;simp only[ntmps241,pc,bP,fy,Nat.reduceAdd,Nat.reduceSub,o_,pL,pN,pM,gb,fU];gi_wp2;gi_loopw [3] (fun s wr=>∃(i:Nat) (e:ah),s=ay e/\e.length<=n.length/\i<=(cg n).length/\(cg n).drop i=cg e/\J i wr/\(W0.heap.size<=wr.heap.size/\wr.heap[0]? = W0.heap[0]?)) (fun s _=>aaJ s);case atStart=>exact⟨0,n,rfl,bH _,cV _,rfl,h0,bH _,rfl⟩
 case round =>(
 obtain⟨i,e,rfl,hel,ax,hdr,rQ,hB⟩:=hrel;have HD:=ag hdr;have wB:=ag rQ;clear hdr rQ;by_cases he:e = [];{
 have hne:((aq e).toList == [])=true:=by rw[he,nQ];rfl
 have aY:Hid (i=(cg n).length):=by{have:=dE List.length (af HD);rw[fM,he,rS,fy]at this;rw[Hid];omega};clear hc ke gG HG HD hel ax hB he;gi_wp2;go_end0;exact⟨⟨_,rfl⟩,.inl (by rw[<- af aY];exact wB)⟩};{have hne:((aq e).toList == [])=false:=by{rw[d_,nQ];exact he};have zo:Hid ((cg n)[i]? = some e):=by{have:=dE (fun l:List ah=>l[0]?) (af HD);rw[qP e he]at this;rw[Hid];simpa using this};have kN:Hid ((cg n).drop (i+1)=cg (ik e)):=by{rw[Hid,<- rF,af HD,qP e he];rfl};have E2:Hid (i+1<=(cg n).length):=(jX.1 (af zo)).1;have uK:=CS e he;have mZ:=af ke i e wr (af zo) (af wB);obtain⟨fn,tmps,assign,body,hy,hR⟩:=mZ;gi_wp2_with fail;refine⟨rfl,hR.mono ?_⟩;rintro x W3 (⟨rfl,nd,hk4⟩|⟨rfl,qN,_⟩);{have AY:=ag nd;have gH:W0.heap.size<=W3.heap.size/\W3.heap[0]? = W0.heap[0]?:=⟨a_ hB.1 hk4.1,hk4.2.trans hB.2⟩;have Kv:bK W3:=by{obtain⟨g0,m,hm⟩:=af HG;exact⟨dP g0 gH.1,m,(dh gH.2).trans hm⟩};have HC:=ag (aaK e W3 Kv ae);have alk:=Kv.1;clear nd hk4 Kv;gi_wp2_with fail;refine⟨aQ,rfl,?_⟩;refine(cj.2 (af HC)).mono ?_;rintro x W5 ⟨⟨b,c,rfl⟩,hb5⟩;have bf:=ag (gG _ _ _ AY hb5);have ni:W0.heap.size<=W5.heap.size/\W5.heap[0]? = W0.heap[0]?:=⟨a_ gH.1 hb5.size,(hb5.block 0 alk).trans gH.2⟩;gi_wp2_with fail;exact⟨⟨i+1,ik e,rfl,ae,E2,kN,bf,ni⟩,by simp only[aaJ,bJ];omega⟩};{gi_wp2;refine fB (zg rfl _ _ _) rfl ?_;exact⟨⟨_,rfl⟩,.inr qN⟩}})
end
section
attribute [local go_sem] Oper.semAt_some undef
def pw(rs:List ai)(acc:List ai)(e:ah):List ai:=if(gi (cB rs e) 2).length=0 then acc else gi (cB rs e) 2
def cU(o:ah)(rs:List ai)(n:ah):List ai:=((cg n).takeWhile (fun e=>!(e == o))).foldl (pw rs) []
theorem aaL{α:Type}(p:α->Bool):∀(l:List α),l.all p=true->l.takeWhile p=l
 | [],_=>rfl
 | x :: t,h=>by rw[Ct,cY]at h;rw[J9 h.1,aaL p t h.2]
theorem TM{α:Type}(p:α->Bool):∀(l:List α) (i:Nat) (x:α),l[i]? = some x->(l.take i).all p=true->p x=false->l.takeWhile p=l.take i
 | [],i,x,h,_,_=>by simp at h
 | y :: t,0,x,h,_,hp=>by simp at h;subst h;rw[NW (by simp[hp])];rfl
 | y :: t,i+1,x,h,ha,hp=>by rw[CA,Ct,cY]at ha;rw[J9 ha.1,CA,TM p t i x (by simpa using h) ha.2 hp]
theorem Kw{α:Type}{l:List α}{i:Nat}{x:α}(h:l[i]? = some x):l.take (i+1)=l.take i++[x]:=by obtain⟨ax,rfl⟩:=jX.1 h;exact gp ax
theorem Oq(zb b off cap:Nat)(o n:ah)(rs:List ai)(w:World)(hz:iD w zb o b off cap rs)(hg:bK w)(hlen:rs.length<=3001)(hn:n.length<=3000)(gX:o.length<=3000) :
  aB 126 #[aM zb,ay n] w fun e w'=>(∃v,e=.returned v/\nh b off rs v (cU o rs n))/\au w w':=by
 refine(cj (n:=0)).1 ?_;refine callsIn_of_wp_marks func126 rfl aQ ?_;simp only[ntmps126,pc,bP,fy,Nat.reduceAdd,Nat.reduceSub,o_,pL,pN,pM,gb,fU];have dv:=ag hz;have HG:=ag hg;have hzb:=hz.1;have hg0:=hg.1;clear hz hg;gi_wp2_with fail;refine⟨aQ,rfl,?_⟩;refine(cj.2 (Om _ _)).mono ?_;rintro e W2 ⟨rfl,e4,hb2,e2⟩;have e0:aR W2 w.heap.size (aM zb) 110:=((aR.l7 _ _ _).alloc _).below hb2 eI;have e1:aR W2 (w.heap.size+1) (aH) 41:=by{have:=(aR.l7 (w.alloc (.cells #[.pointer (some ⟨zb,0,none⟩)] 110)) (aH) 41).below hb2 eI;rwa [dD]at this};have e5:au w W2:=((aO.alloc aA _).alloc ar _).trans (hb2.mono eI);simp only[dD]at e4 e2;gi_wp2_with fail;have hgrow:∀r,au W2 ((W2.alloc (.deferred (some []))).alloc (.loop r)):=fun r=>(aO.alloc aA _).alloc ar _;refine E_ (xs:=cg n) (encs:=fun e:ah=>#[ay e]) (St:=fun A B=>au A B) (Kp:=fun A B=>A.heap.size<=B.heap.size/\B.heap[0]? = A.heap[0]?) (Kx:=fun _ _=>True) (gf:=241) (lb:=#[aM (w.heap.size+1+1)]) rfl (enters_of func241 aI rfl) (fun _=>rfl) ?seq [0] aP (fun A B hA h=>h.mono hA) (fun A B h h'=>⟨h'.1,h _ ar⟩) (fun _ _ _=>aQ) (fun i W=>((cg n).take i).all (fun e=>!(e == o))=true/\au w W/\aR W w.heap.size (aM zb) 110/\∃v,nh b off rs v (((cg n).take i).foldl (pw rs) [])/\aR W (w.heap.size+1) v 41) (fun c W=>c=.exit 0/\au w W/\∃v,nh b off rs v (cU o rs n)/\aR W (w.heap.size+1) v 41) (fun i A B h hb=>⟨h.1,h.2.1.trans (hb.mono ae),h.2.2.1.below hb ae,by obtain⟨v,h1,h2⟩:=h.2.2.2;exact⟨v,h1,h2.below hb ae⟩⟩) (fun c A B h hb=>⟨h.1,h.2.1.trans (hb.mono ae),by obtain⟨v,h1,h2⟩:=h.2.2;exact⟨v,h1,h2.below hb ae⟩⟩) ⟨rfl,e5,e0,_,.inl ⟨rfl,rfl⟩,e1⟩ ?round ?done ?stop;case seq =>(intro r;have hg:=hgrow r;exact Oo _ n _ ((hg.cell (p:=⟨w.heap.size+1+1,0,none⟩) (by show w.heap.size+1+1<W2.heap.size;omega)).trans e2) ((HG.below e5).below hg) hn)
 case round =>(
 intro l' i x V W hx hI hsz;gi_wp2_with fail;refine⟨aQ,?_⟩;obtain⟨hall,hB,eQ,v,hv,hc⟩:=hI;have g_:=Ol (ux hx);have zu:=dv.below hB;have z0:=zu.2.1;have aaM:=ag zu;have cn:=eQ.cell;have lh:((aq x).toList == (aq o).toList)=(x == o):=CN;have hE:=ag eQ;have iK:=ag hc;have cu:=ag hx;have HM:=ag hall;have gR:=ag hv;have uL:=hc.lt;have TN:=eQ.lt;have aaN:=zu.1;clear eQ hc hx hall hv zu;cases ho:x == o;{
 rw[ho]at lh;have AR:Hid (((cg n).take (i+1)).all (fun e=>!(e == o))=true):=by{rw[Hid,Kw (af cu),EN,af HM];simp[ho]};have zx:Hid (((cg n).take (i+1)).foldl (pw rs) []=pw rs (((cg n).take i).foldl (pw rs) []) x):=by{rw[Hid,Kw (af cu),Ax];rfl};have CT:=ag (TK zb b off cap o x 2 rs W (af aaM) hlen);gi_wp2_with fail;refine⟨aQ,rfl,?_⟩;refine(CallsIn.inRound l' (cj.2 (af CT))).mono ?_;rintro e W4 ⟨⟨v4,rfl,hv4⟩,hb4⟩;obtain⟨a4,aV,rfl⟩:=hv4.slice;have zy:=ag hv4;have b4:=iK.below hb4 uL;have TP:=b4.cell;have TQ:=b4.frozen;have jb:=ag b4;have zA:=ag (hE.below hb4 TN);have TS:=hb4.size;clear hv4 b4;by_cases hm:(gi (cB rs x) 2).length=0;{
 have bf:Hid (((cg n).take (i+1)).foldl (pw rs) []=((cg n).take i).foldl (pw rs) []):=by rw[Hid,af zx,pw,aJ hm]
 have xS:¬(0:Int)<((gi (cB rs x) 2).length:Int):=ae;gi_wp2_with fail;exact⟨cz.xR hb4,fun k hk=>hb4.block k (by simp at hk;omega),AR,hB.trans (hb4.mono hB.size),zA,v,by rw[af bf];exact gR,jb⟩};{
 have bf:Hid (((cg n).take (i+1)).foldl (pw rs) []=gi (cB rs x) 2):=by rw[Hid,af zx,pw,aF hm]
 have xS:(0:Int)<((gi (cB rs x) 2).length:Int):=ae;clear hm;gi_wp2_with fail;refine⟨(cz.xR hb4).trans (cz.setCell W4 _ _ ae),fun k hk=>?_,AR,(hB.trans (hb4.mono hB.size)).setCell (by show w.heap.size<=w.heap.size+1;omega) _,?_,_,by rw[af bf];exact zy,jb.set _⟩;{
 obtain rfl:k=0:=by simpa using hk
 exact(cZ _ _ _ _ (by show 0≠w.heap.size+1;omega)).trans (hb4.block 0 ae)};{exact(cZ _ _ _ _ (by show w.heap.size≠w.heap.size+1;omega)).trans (af zA)}}};{rw[ho]at lh;have bf:Hid (cU o rs n=((cg n).take i).foldl (pw rs) []):=by{rw[Hid,cU,TM _ _ i x (af cu) (af HM) (by simp[ho])]};gi_wp2_with fail;exact⟨cz.refl _ _,rfl,hB,v,by rw[af bf];exact gR,iK⟩})
 case done =>(
 intro W hI cT hsz;obtain⟨hall,hB,eQ,v,hv,hc⟩:=hI;rw[gV]at hall hv;have bf:Hid (cU o rs n=(cg n).foldl (pw rs) []):=by rw[Hid,cU,aaL _ _ hall]
 have gR:=ag hv;clear hall hv eQ;have cb:=hc.cell;gi_wp2_with fail;refine⟨ar,.inl ⟨_,_,rfl,run_takeDeferred cT,?_⟩⟩;have jA:=hB.trans (belowK_b (w:=W2) (show w.heap.size<=W2.heap.size by omega) W _ _ (.deferred none) aA cT rfl rfl);refine⟨v,by simp[results,results126,go_sem],⟨v,rfl,?_⟩,jA⟩;rw[af bf];exact gR)
 case stop =>(intro c W hI cT hsz;obtain⟨rfl,hB,v,hv,hc⟩:=hI;have gR:=ag hv;clear hv;have cb:=hc.cell;gi_wp2_with fail;refine⟨ar,.inl ⟨_,_,rfl,run_takeDeferred cT,?_⟩⟩;have jA:=hB.trans (belowK_b (w:=W2) (show w.heap.size<=W2.heap.size by omega) W _ _ (.deferred none) aA cT rfl rfl);exact⟨v,by simp[results,results126,go_sem],⟨v,rfl,gR⟩,jA⟩)
end
def b_(w:World)(base:Nat)(v:Value)(rs:List ai):Prop:=w.ownsRow base 47 4 v rs.length (gW rs)
def eM(n:ah)(r:ai):ai:=(n,r.aG,r.type,r.data)
def fW(l:ah):ah:=l.drop (Lib.lastIndexByte (aq l) 32+1).toNat
def TT(r:ai):Nat:=((Lib.atoi (fW r.data)).getD 0).toNat
def Fe(r:ai):Prop:=(fW r.data).length<=18/\∃m:Nat,Lib.atoi (fW r.data)=some (m:Int)/\m<=1000000000
def xT(r:ai):ai:=(r.owner,min r.aG (TT r),r.type,r.data)
def fQ(o:ah)(rs:List ai):List ai:=(gi (cB rs o) 6).map xT
section
theorem b_.below{w w':World}{base:Nat}{v:Value}{rs:List ai}(h:b_ w base v rs)(hb:au w w'):b_ w' base v rs:=ic h hb
theorem b_.base{w:World}{base base':Nat}{v:Value}{rs:List ai}(h:b_ w base v rs)(hb:base'<=base):b_ w base' v rs:=EZ h hb
theorem b_.keeps{w w':World}{base d:Nat}{v:Value}{rs:List ai}(h:b_ w base v rs)(hk:dF d w w')(hd:d<base):b_ w' base v rs:=by obtain⟨h1,h2⟩:=h;refine⟨h1,?_⟩;rcases h2 with h2|⟨g,cap,cur,e,hb,aZ,hr⟩;{exact .inl h2};{exact .inr ⟨g,cap,cur,e,hb,(hk.block g (bV.1 aZ).1 ae).trans aZ,hr⟩}
theorem b_.aaO{w:World}{base k:Nat}{v:Value}{rs:List ai}(h:b_ w base v rs)(hk:k<base)(u:Value):b_ (w.setCell ⟨k,0,none⟩ u) base v rs:=ownsRow_setCell_below h hk u
theorem b_.mF{w:World}{base k i:Nat}{v:Value}{rs:List ai}(h:b_ w base v rs)(hk:k<base)(u:Value):b_ (w.setCell ⟨k,i,none⟩ u) base v rs:=ownsRow_setCell_below h hk u
theorem b_.Ot{w:World}{base:Nat}{v:Value}{rs:List ai}(h:b_ w base v rs):∀g,v.ownBlock=some g->base<=g/\g<w.heap.size:=iW h
theorem b_.slice{w:World}{base:Nat}{v:Value}{rs:List ai}(h:b_ w base v rs):∃a c,v=.slice a rs.length c:=by rcases h.2 with⟨rfl,h0⟩|⟨g,cap,cur,rfl,_⟩;{exact⟨none,0,by rw[h0]⟩};{exact⟨_,_,rfl⟩}
theorem b_.rv{w:World}{base:Nat}{v:Value}{rs:List ai}(h:b_ w base v rs):jm w v rs:=by rcases h.2 with⟨rfl,h0⟩|⟨g,cap,cur,rfl,hb,aZ,hc,hm,hsz,ja⟩;{exact .inl ⟨rfl,fp h0⟩};{refine .inr ⟨g,0,cap,rfl,hc,aam ((bV.1 aZ).1) (fun j u hu=>?_)⟩;have:=uy h j (by have:=(jX.1 hu).1;rw[Kj]at this;exact this);rw[eY,this,hu]}
end
theorem aaP{w:World}{b off:Nat}{rs:List ai}(h:dG w b off rs):∀j u,(gW rs)[j]? = some u->w.cell? (ak b (off+j))=some u:=by
 intro j u hu;have hj:j<rs.length*4:=by have:=(jX.1 hu).1;rwa [Kj]at this
 have Ou:j/4<rs.length:=ae;have e:j=j/4*4+j%4:=ae;rw[e,aal rs (j/4) (j%4) Ou ae]at hu;have:=h.2 (j/4) Ou (j%4) u hu;rw[CB,<- e]at this;exact this
theorem TU{rs:List ai} : ∀u∈gW rs,u.oneCell'=true:=by intro u hu;unfold gW at hu;obtain⟨r,_,hr⟩:=Ay.1 hu;simp[ai.aS]at hr;rcases hr with rfl|rfl|rfl|rfl <;> rfl
theorem Ov(v:Value)(rs:List ai)(w:World)(hv:jm w v rs)(hl:rs.length<=3001) :
  aB 243 #[v] w fun e w'=>∃v',e=.returned v'/\b_ w' w.heap.size v' rs/\au w w':=by rcases hv with⟨rfl,rfl⟩|⟨b,off,cap,rfl,dt,hr⟩;{refine(AnyE.slices_Clone_nil Tryz.Z4 0 0 w).mono ?_;rintro e w' ⟨rfl,rfl⟩;exact⟨_,rfl,ia _ _ _ _,bR _ _⟩};{obtain⟨i0,ax,hz0,hz1,hz2⟩:=kJ HE;refine(AnyE.slices_Clone Tryz.Z4 i0 _ 4 48 ax hz0 hz1 hz2 rfl ae Tryz.sizeOf47 b off rs.length cap (gW rs) w (Kj rs) (by simp[maxLen];omega) ae (aaP hr) TU).mono ?_;rintro e w' ⟨v',rfl,h1,_,h2⟩;exact⟨v',rfl,h1,h2⟩}
theorem aaQ(n:ah):∀(rs:List ai) (i:Nat) (h:i<rs.length),(gW rs).set (i*4) (ay n)=gW (rs.set i (eM n rs[i]))
 | [],i,h=>by simp at h
 | r :: t,0,_=>by simp[gW,ai.aS,eM,ai.owner,ai.aG,ai.type,ai.data]
 | r :: t,i+1,h=>by have ih:=aaQ n t i (by simpa using h);have e:(i+1)*4=i*4+1+1+1+1:=ae;simp only[gW,iV,eX,mV]at ih ⊢;rw[<- ih,e];simp[ai.aS]
theorem aaR{f:ai->ai}{rs:List ai}{k:Nat}(hk:k<rs.length) :
  ∃h:k<((rs.take k).map f++rs.drop k).length,((rs.take k).map f++rs.drop k)[k]=rs[k]/\((rs.take k).map f++rs.drop k).set k (f rs[k])=(rs.take (k+1)).map f++rs.drop (k+1):=by have hl:((rs.take k).map f).length=k:=aP;refine⟨aP,?_,?_⟩;{rw[JY ae];simp only[hl,rJ,Cw,gK]};{rw[AA _ _ ae,hl,rJ,ko hk,eC,gp hk,gJ];simp}
theorem Ow{f:ai->ai}{rs:List ai}{k:Nat}(hk:k<=rs.length):((rs.take k).map f++rs.drop k).length=rs.length:=aP
theorem alm(n:ah)(v:Value)(rs:List ai)(w:World)(hv:jm w v rs)(hl:rs.length<=3001) :
  aB 272 #[ay n,v] w fun e w'=>∃v',e=.returned v'/\b_ w' w.heap.size v' (rs.map (eM n))/\au w w':=by
 have HC:=ag (Ov v rs w hv hl);clear hv;go_enter func272,ntmps272;go_wp2_with fail;refine HC.mono ?_;rintro e w1 ⟨v',rfl,hown,hb1⟩;obtain⟨a,c,rfl⟩:=hown.slice;have HO:=ag hown;clear hown;go_wp2_with fail;go_loopw [10] (fun i wr=>∃k:Nat,i=aj k/\k<=rs.length/\b_ wr w.heap.size (.slice a rs.length c) ((rs.take k).map (eM n)++rs.drop k)/\au w wr) (fun i _=>rs.length - (intOf i).toNat);case atStart=>exact⟨0,rfl,cV _,by simpa using af HO,hb1⟩
 case round =>(
 obtain⟨k,rfl,hk,hown,hb⟩:=hrel;clear HO hb1;by_cases hlt:k<rs.length;{
 obtain⟨gF,mE,eN⟩:=aaR (f:=eM n) hlt;have jc:=Ow (f:=eM n) hk;have hown':wr.ownsRow w.heap.size 47 4 (.slice a rs.length c) rs.length (gW ((rs.take k).map (eM n)++rs.drop k)):=by{have:=hown;unfold b_ at this;rwa [jc]at this};rcases hown'.2 with⟨e1,e2⟩|⟨g,cap,cur,e1,hbg,aZ,hcc,hcm,aln,ja⟩;{omega};{
 cases e1;have hst:=hown'.stored (k*4) (ay n);have hfr:=hown'.frozenAt (k*4);have hce:=hown'.cellAt (k*4) ae;rw[aaQ n _ k gF,mE,eN]at hst;have hcs:∃u,wr.cell? (ak g (k*4))=some u:=by{
 rw[hce];have:k*4<(gW ((rs.take k).map (eM n)++rs.drop k)).length:=by rw[Kj,jc];omega
 exact⟨_,iw this⟩};obtain⟨u,hu⟩:=hcs;have HST:=ag hst;have aaS:=ag (hb.setCell (p:=⟨g,k*4,none⟩) hbg (ay n));clear hst hown hown' hce aZ ja mE eN;go_wp2_with fail;go_roundw;case rel =>(refine⟨k+1,bW,ae,?_,by simpa using af aaS⟩;have:=HST.1;unfold b_;rw[Ow ae];simpa using this)
 case measure=>simp[intOf];omega}};{obtain rfl:k=rs.length:=ae;have HO:=ag hown;clear hown;go_wp2;go_ret;refine⟨_,rfl,?_,hb⟩;have:=af HO;rw[gV,vU,h_]at this;exact this})
theorem alo(s:ByteArray) : -1<=Lib.lastIndexByte s 32/\Lib.lastIndexByte s 32<s.size:=by unfold Lib.lastIndexByte;rcases Lib.lastIdx_spec s 32 s.size with⟨h,_⟩|⟨i,h1,h2,_⟩;{omega};{omega}
theorem aaT(l:ah)(w:World)(hl:l.length<=3000) :
  aB 196 #[ay l] w fun e w'=>e=.returned (ay (fW l))/\w'=w:=by
 have hb:=alo (aq l);have hs:(aq l).size<=3000:=by rw[bJ];exact hl
 have aY:Hid (fW l=(aq l).data.toList.drop (Lib.lastIndexByte (aq l) 32+1).toNat):=rfl;have HC:=ag (Tryz.strings_LastIndexByte (aq l) 32 ae w);generalize Lib.lastIndexByte (aq l) 32=i at *;obtain⟨k,hk⟩:∃k:Nat,i+1=k:=⟨(i+1).toNat,ae⟩;go_enter func196,ntmps196;go_wp2_with fail;refine HC.mono ?_;rintro e w ⟨rfl,rfl⟩;go_wp2;go_ret;refine⟨Z9 ?_,rfl⟩;rw[tA,af aY,hk,EM,NH,Array.toList_extract];simp;exact pd (by rw[fM,lK];omega)
theorem aaU(m:Nat):∀(rs:List ai) (i:Nat) (h:i<rs.length),(gW rs).set (i*4+1) (aj m)=gW (rs.set i (rs[i].owner,m,rs[i].type,rs[i].data))
 | [],i,h=>by simp at h
 | r :: t,0,_=>by simp[gW,ai.aS,ai.owner,ai.aG,ai.type,ai.data]
 | r :: t,i+1,h=>by have ih:=aaU m t i (by simpa using h);have e:(i+1)*4+1=(i*4+1)+1+1+1+1:=ae;simp only[gW,iV,eX,mV]at ih ⊢;rw[<- ih,e];simp[ai.aS]
theorem alp(l:ah)(m:Nat)(w:World)(hl:l.length<=18)(h:Lib.atoi l=some (m:Int)) :
  aB 274 #[ay l] w (bQ (.tuple #[aj m,.nilIface]) w):=by refine(Tryz.strconv_Atoi (aq l) m (by rw[bJ];exact hl) h w).mono ?_;rintro e w' ⟨rfl,t,rfl⟩;exact⟨rfl,Go.Joins.below_bytesWorld _ _ _ _ aA⟩
theorem Ox(zb b off cap:Nat)(o:ah)(rs:List ai)(w:World)(hz:iD w zb o b off cap rs)(hlen:rs.length<=3001)(bq:∀r∈gi (cB rs o) 6,Fe r/\r.data.length<=3000/\r.aG<=1000000000) :
  aB 245 #[aM zb] w fun e w'=>∃v',e=.returned v'/\b_ w' w.heap.size v' (fQ o rs)/\au w w':=by
 have HS:=ag (TK zb b off cap o o 6 rs w hz hlen);have hz0:=hz.2.1;have bC:=ag hz.2.2.2.2;have jP:(gi (cB rs o) 6).length<=3001:=a_ (Ok _ _) (a_ (Kt _ _) hlen);have aY:Hid (fQ o rs=(gi (cB rs o) 6).map xT):=rfl;have cF:=ag bq;clear hz bq;generalize gi (cB rs o) 6=ss at *;go_enter func245,ntmps245;go_wp2_with fail;refine HS.mono ?_;rintro e w1 ⟨⟨v1,rfl,kz⟩,hb1⟩;have HC:=ag (Ov v1 ss w1 (kz.rv (bC.below hb1)) jP);clear kz;go_wp2_with fail;refine HC.mono ?_;rintro e w2 ⟨v',rfl,hown,hb2⟩;obtain⟨a,c,rfl⟩:=hown.slice;have hs1:=hb1.size;have HO:=ag (hown.base hs1);have eF:=hb1.trans (hb2.mono hs1);clear hown;go_wp2_with fail;go_loopw [17] (fun i wr=>∃k:Nat,i=aj k/\k<=ss.length/\b_ wr w.heap.size (.slice a ss.length c) ((ss.take k).map xT++ss.drop k)/\au w wr) (fun i _=>ss.length - (intOf i).toNat);case atStart=>exact⟨0,rfl,cV _,by simpa using af HO,eF⟩
 case round =>(
 obtain⟨k,rfl,hk,hown,hb⟩:=hrel;clear HO hb1 hb2 eF;by_cases hlt:k<ss.length;{
 obtain⟨gF,mE,eN⟩:=aaR (f:=xT) hlt;have jc:=Ow (f:=xT) hk;have hown':wr.ownsRow w.heap.size 47 4 (.slice a ss.length c) ss.length (gW ((ss.take k).map xT++ss.drop k)):=by{have:=hown;unfold b_ at this;rwa [jc]at this};have CU:=hown.rv;obtain⟨⟨alq,m,TV,ay8⟩,kQ,Oy⟩:=af cF ss[k] (cM hlt);rcases hown'.2 with⟨e1,e2⟩|⟨g,cap,cur,e1,hbg,aZ,hcc,hcm,aln,ja⟩;{omega};{
 cases e1;have aaV:dG wr g 0 ((ss.take k).map xT++ss.drop k):=by{rcases CU with⟨e,_⟩|⟨b',off',cap',e,_,hr⟩;{cases e};{simp only[Value.slice.injEq,xN,Addr.mk.injEq]at e;obtain⟨⟨rfl,rfl,_⟩,_,_⟩:=e;exact hr}};obtain⟨c0,aC,c2,c3⟩:=aaV.four k gF;rw[mE]at c0 aC c2 c3;rw[eY]at c0 aC c2 c3;have hst:=fun(W:World) (h:au wr W)=>(ic hown' h).stored (k*4+1) (aj ((min ss[k].aG m:Nat):Int));have hfr:=fun(W:World) (h:au wr W)=>(ic hown' h).frozenAt (k*4+1);rw[aaU _ _ k gF,mE]at hst;have hdr:xT ss[k]=(ss[k].owner,min ss[k].aG m,ss[k].type,ss[k].data):=by{unfold xT TT;rw[TV];rfl};rw[<- hdr,eN]at hst;have HST:=ag hst;have nU:=ag hfr;have jq:g<wr.heap.size:=(bV.1 aZ).1;have CV:=ag (fun W=>aaT ss[k].data W kQ);have nV:=ag (fun W=>alp (fW ss[k].data) m W alq TV);clear hst hfr hown hown' aZ ja mE eN hdr CU aaV TV;generalize ss[k]=r at *;go_wp2_with fail;refine(CV _).mono ?_;rintro e w4 ⟨rfl,hw4⟩;have hb4:au wr w4:=by rw[hw4];exact aO.alloc aA _
 have d1:w4.cell? (ak wr.heap.size 1)=some (aj r.aG):=by rw[hw4];go_simp
 have l4:wr.heap.size<w4.heap.size:=by rw[hw4];simp
 clear hw4;go_wp2_with fail;refine(nV _).mono ?_;rintro e w5 ⟨rfl,hb5⟩;have d5:=(hb5.cell (p:=⟨wr.heap.size,1,none⟩) l4).trans d1;have xU:=hb4.trans (hb5.mono hb4.size);have q1:=(xU.cell (p:=⟨g,k*4+1,none⟩) jq).trans aC;have f1:=af nU w5 xU;have S5:=ag (HST w5 xU);have alr:=ag (((hb.trans (xU.mono hb.size))).setCell (p:=⟨g,k*4+1,none⟩) hbg (aj ((min r.aG m:Nat):Int)));have aaW:(min (r.aG:Int) (m:Int))=((min r.aG m:Nat):Int):=ae;clear CV nV HST nU;go_wp2_with fail;go_roundw;case rel =>(refine⟨k+1,bW,ae,?_,by simpa using af alr⟩;have:=S5.1;unfold b_;rw[Ow ae];simpa using this)
 case measure=>simp[intOf];omega}};{obtain rfl:k=ss.length:=ae;have HO:=ag hown;clear hown;go_wp2;go_ret;refine⟨_,rfl,?_,hb⟩;have:=af HO;rw[gV,vU,h_]at this;rw[af aY];exact this})
end Go.Proofs.YtkkpahmoljiepaaGreatDoor
