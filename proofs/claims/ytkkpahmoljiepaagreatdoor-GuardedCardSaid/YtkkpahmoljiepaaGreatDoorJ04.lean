import Derived.Test.YtkkpahmoljiepaaGreatDoorJ03
import Derived.Test.YtkkpahmoljiepaaGreatDoorJ0i
set_option maxRecDepth 1000000
set_option maxHeartbeats 12800000
set_option linter.unusedSimpArgs false
set_option linter.unusedVariables false
namespace Go.Proofs.YtkkpahmoljiepaaGreatDoor
open Go.RowKit Go.Proofs.Tryz
theorem yu{a b:ai} : ((ah a).toList == (ah b).toList)=(a == b):=by rw[CT];rfl
theorem adm:EqlAt prog 47 (fun x:aj=>.agg (aj.aN x).toArray) (fun x y=>x == y):=by
 refine⟨fun x y w=>?_,GuardAt.agg _ aK⟩;have u3:=underlying3;have a3:=Tryz.isAgg3;have z3:=Tryz.sizeOf3;have u9:=underlying9;have a9:=Tryz.isAgg9;have z9:=Tryz.sizeOf9;have hS:prog.underlying 47=some (.struct (prog.fieldsOf 47)):=aK;have hp:prog.stoodInHeld 47=false:=aK;simp only[aj.aN];rw[run_eql_struct,show(10000:Nat)=9999+1 from rfl,run_equalIn_agg w 9999 47 _ _ hS hp];simp only[Program.fieldsOf,underlying47];obtain⟨x0,x1,x2,x3⟩:=x;obtain⟨y0,y1,y2,y3⟩:=y;simp only[aj.owner,aj.aV,aj.type,aj.data];have e1:∀a:ai,(ah a).toList=a:=fun a=>by rw[gO];rfl
 have e2:((x1:Int)=(y1:Int))=(x1=y1):=by apply propext;omega
 go_simp;by_cases h0:x0=y0 <;> by_cases h1:x1=y1 <;> by_cases h2:x2=y2 <;> by_cases h3:x3=y3 <;> simp[e1,e2,h0,h1,h2,h3]
theorem Tu(x:aj)(b off cap:Nat)(rs:List aj)(w:World)(hr:dz w b off rs)(hl:rs.length<=3001) :
  aF 178 #[aU b off rs.length cap,.agg #[aA x.owner,aq x.aV,aq x.type,aA x.data]] w fun e w' =>
   e=.returned (.bool (rs.any (x == ·)))/\aw w w':=by have:=AnyQ.slices_Contains Tryz.lContains 4 Tryz.isAgg47 Tryz.sizeOf47 aj.aN (fun _=>rfl) (fun x y=>x == y) adm b off rs.length cap rs x w aB ae hr.2;rw[jV]at this;exact this
theorem vv{B:Nat}{a w:World}(h:Below B a w)(n:Nat):Below B a (w.drewN n):=⟨h.os,h.tape,h.output,h.size,h.block⟩
theorem Jj{B:Nat}{a w:World}(h:Below B a w):Below B a w.drew:=h.drew
def vw(t0:Nat):List aj->List aj->Bool
 | _,[]=>true
 | pre,r :: t=>r.aV == t0 && !pre.any (r == ·) && vw t0 (pre++[r]) t
def pU(rs:List aj):Bool :=
 match rs with
 | []=>true
 | r :: _=>vw r.aV [] rs
theorem adn(r0:aj)(t:List aj)(b off cap:Nat)(w:World)(hr:dz w b off (r0 :: t))(hl:(r0 :: t).length<=3001)(fw:(r0 :: t).length<=cap) :
  aF 108 #[aU b off (r0 :: t).length cap] w (cS (.bool (pU (r0 :: t))) w):=by
 have aJ:Hid (pU (r0 :: t)=vw r0.aV [] (r0 :: t)):=rfl;obtain⟨q0,q1,q2,q3⟩:=hr.four 0 ak;clear q2 q3;simp only[Ad,tI,dS]at q0 q1;have hrl:0<(r0 :: t).length:=ak;generalize kY:r0.aV=t0 at *;generalize r0 :: t=rs at *;have dV:=ag hr;have hb:=hr.1;clear hr kY;go_enter func108,ntmps108;go_wp2_with fail;go_loopw [7] (fun i wr=>∃k:Nat,k<=rs.length/\i=aq k/\vw t0 (rs.take k) (rs.drop k)=vw t0 [] rs/\aw w wr) (fun i _=>rs.length - (intOf i).toNat);case atStart=>exact⟨0,dY _,rfl,ak,bW _ _⟩
 case round =>(
 obtain⟨k,hk,rfl,bE,hbr⟩:=hrel;have H:=ag bE;clear bE;have hA:=dV.below hbr;have az:wr.cell? (ar b (off+1))=some (aq t0):=(hbr.cell (p:=⟨b,off+1,none⟩) hb).trans q1;have hsz:=hbr.size;have wX:b<wr.heap.size:=ae;have apT:¬b=wr.heap.size:=ae;have Nb:(0:Int)<(rs.length:Int):=ae;by_cases hlt:k<rs.length;{
 obtain⟨k0,k1,k2,k3⟩:=hA.four k hlt;have apU:(k:Int)<(rs.length:Int):=ae;have hdr:Hid (rs.drop k=rs[k] :: rs.drop (k+1)):=nA hlt;have pV:Hid (rs.take (k+1)=rs.take k++[rs[k]]):=kQ hlt;have rZ:=hA.take k;have dJ:=ag rZ;have hlk:(rs.take k).length=k:=by rw[jU];omega
 have eE:=ag hlk;clear rZ hlk hA;generalize rs[k]=x at *;have Tv:∀W,aw wr W->∀c,aF 178 #[aU b off k c,.agg #[aA x.owner,aq x.aV,aq x.type,aA x.data]] W (cS (.bool ((rs.take k).any (x == ·))) W):=by{intro W hW c;have:=Tu x b off c (rs.take k) W (dJ.below hW) (by rw[af eE];omega);rw[af eE]at this;exact this};have FB:=ag Tv;clear Tv;by_cases Nj:x.aV=t0;{
 subst Nj;have ado:((x.aV:Int) != (x.aV:Int))=false:=ak;cases Tw:(rs.take k).any (x == ·);{
 have hstep:Hid (vw x.aV (rs.take (k+1)) (rs.drop (k+1))=vw x.aV [] rs):=by{rw[Hid,<- af H,af hdr,vw,Tw,af pV];simp};go_wp2_with fail;go_region_with (go_at_call 178;refine((af FB) _ (by exact Jj (bj.alloc aB _)) _).mono ?_;rintro e w2 ⟨rfl,hb2⟩);all_goals(
 have hB2:aw w w2:=(Jj (hbr.alloc hsz _)).trans (hb2.mono aX);have eu:=ag hB2;clear hB2 hb2;go_wp2_with fail;go_roundw;case rel=>exact⟨k+1,ae,dD,hstep,eu⟩
 case measure=>simp[intOf];omega)};{have FC:Hid (pU rs=false):=by{rw[Hid,af aJ,<- af H,af hdr,vw,Tw];simp};go_wp2_with fail;go_region_with (go_at_call 178;refine((af FB) _ (by exact Jj (bj.alloc aB _)) _).mono ?_;rintro e w2 ⟨rfl,hb2⟩);all_goals(have hB2:aw w w2:=(Jj (hbr.alloc hsz _)).trans (hb2.mono aX);have eu:=ag hB2;clear hB2 hb2;go_wp2;go_ret;exact⟨fu FC.symm,eu⟩)}};{
 have ado:((x.aV:Int) != (t0:Int))=true:=by rw[Fg];omega
 have FC:Hid (pU rs=false):=by{have hb0:(x.aV == t0)=false:=gL.2 Nj;rw[Hid,af aJ,<- af H,af hdr,vw,hb0];rfl};clear Nj;go_wp2_with fail;go_quiet (fail);go_wp2;go_ret;exact⟨fu FC.symm,vv (hbr.alloc hsz _) _⟩}};{have FC:Hid (pU rs=true):=by{rw[Hid,af aJ,<- af H,pJ ae];rfl};go_wp2;go_ret;exact⟨fu FC.symm,hbr⟩})
def bJ(r s:aj):Bool:=r.owner == s.owner && r.type == s.type
def dw(r s:aj):Bool:=r.owner == s.owner
def iL(bS:aj->aj->Bool):Nat->Nat->List aj->List (Nat×List aj)
 | 0,_,_=>[]
 | _+1,_,[]=>[]
 | f+1,k,r :: t=>(k,r :: t.takeWhile (bS r)) :: iL bS f (k+1+(t.takeWhile (bS r)).length) (t.dropWhile (bS r))
def bC(bS:aj->aj->Bool)(rs:List aj):List (Nat×List aj):=iL bS rs.length 0 rs
theorem Tx(r s:aj)(w:World) :
  aF 177 #[.agg #[aA r.owner,aq r.aV,aq r.type,aA r.data],.agg #[aA s.owner,aq s.aV,aq s.type,aA s.data]] w fun e w' =>
   e=.returned (.bool (bJ r s))/\∃q os',w'=Sort.grow (w.drewN q) os':=by
 have h_:((ah r.owner).toList == (ah s.owner).toList)=(r.owner == s.owner):=yu;cases ho:r.owner == s.owner;{
 have aJ:Hid (bJ r s=false):=by unfold bJ;rw[ho];rfl
 rw[ho]at h_;go_enter func177,ntmps177;go_wp2;go_ret;exact⟨fu aJ.symm,0,_,by rw[Sort.alloc_eq_grow,Sort.alloc_eq_grow,Sort.grow_grow];rfl⟩};{
 have aJ:Hid (bJ r s=(r.type == s.type)):=by unfold bJ;rw[ho];rfl
 rw[ho]at h_;go_enter func177,ntmps177;go_wp2;go_ret;exact⟨fu aJ.symm,0,_,by rw[Sort.alloc_eq_grow,Sort.alloc_eq_grow,Sort.grow_grow];rfl⟩}
theorem Ty(r s:aj)(w:World) :
  aF 180 #[.agg #[aA r.owner,aq r.aV,aq r.type,aA r.data],.agg #[aA s.owner,aq s.aV,aq s.type,aA s.data]] w fun e w' =>
   e=.returned (.bool (dw r s))/\∃q os',w'=Sort.grow (w.drewN q) os':=by have h_:((ah r.owner).toList == (ah s.owner).toList)=(r.owner == s.owner):=yu;go_enter func180,ntmps180;go_wp2;go_ret;exact⟨rfl,0,_,by rw[Sort.alloc_eq_grow,Sort.alloc_eq_grow,Sort.grow_grow];rfl⟩
theorem Nk(bS:aj->aj->Bool):∀(f k:Nat) (l:List aj),l.length<=f->iL bS f k l=iL bS l.length k l
 | 0,k,l,h=>by obtain rfl:l = []:=gS ae;rfl
 | f+1,k,[],h=>rfl
 | f+1,k,r :: t,h=>by have aD:(t.dropWhile (bS r)).length<=t.length:=by{have:=ek List.length (tH (p:=bS r) (l:=t));rw[bU]at this;omega};rw[iL,cU,iL,Nk bS f _ _ (by simp at h;omega),Nk bS t.length _ _ aD]
theorem Tz(bS:aj->aj->Bool)(k:Nat)(r:aj)(t:List aj) :
  iL bS (r :: t).length k (r :: t)=(k,r :: t.takeWhile (bS r)) :: iL bS (t.dropWhile (bS r)).length (k+1+(t.takeWhile (bS r)).length) (t.dropWhile (bS r)):=by have aD:(t.dropWhile (bS r)).length<=t.length:=by{have:=ek List.length (tH (p:=bS r) (l:=t));rw[bU]at this;omega};rw[cU,iL,Nk bS t.length _ _ aD]
theorem Nl{p:aj->Bool} : ∀(l:List aj) (j:Nat) (h:j<(l.takeWhile p).length),∃h':j<l.length,p l[j]=true
 | [],j,h=>by simp at h
 | x :: l,j,h=>by
  by_cases hp:p x=true;{
  rw[IQ hp]at h;cases j with
  | zero=>exact⟨ak,hp⟩
  | succ j =>{obtain⟨h',e⟩:=Nl l j (by simpa using h);exact⟨by simpa using h',by simpa using e⟩}};{rw[MH hp]at h;simp at h}
theorem Nn{p:aj->Bool} : ∀(l:List aj) (h:(l.takeWhile p).length<l.length),p l[(l.takeWhile p).length]=false
 | [],h=>by simp at h
 | x :: l,h=>by
  by_cases hp:p x=true;{
  have e:((x :: l).takeWhile p).length=(l.takeWhile p).length+1:=by rw[IQ hp];rfl
  have:=Nn l (by rw[e]at h;simpa using h);simpa [e]using this};{
  have e:((x :: l).takeWhile p).length=0:=by rw[MH hp];rfl
  simpa [e]using hp}
theorem yv(w:World)(n:Nat)(os:Array Obj):aw w (Sort.grow (w.drewN n) os) :=
 ⟨rfl,rfl,rfl,by simp[Sort.grow,World.drewN],fun k hk=>by
  show(w.heap++os)[k]? = w.heap[k]?;rw[R_ hk]⟩
theorem vy{w w':World}{b off:Nat}{rs:List aj}(h:dz w b off rs)(hs:w.heap.size<=w'.heap.size)(hb:w'.heap[b]? = w.heap[b]?):dz w' b off rs :=
 ⟨eQ h.1 hs,fun j hj i u hu=>(dC hb).trans (h.2 j hj i u hu)⟩
theorem adp{w w':World}{b off nb:Nat}{rs:List aj}(h:dz w b off rs)(hb:Below nb w w')(hlt:b<nb):dz w' b off rs :=
 ⟨eQ h.1 hb.size,fun j hj i u hu=>(hb.cell (p:=⟨b,off+j*4+i,none⟩) hlt).trans (h.2 j hj i u hu)⟩
theorem TA(a:Option Addr)(n c gs:Nat)(w:World) :
  aF 176 #[.slice a n c,.func (.func gs) #[] #[]] w fun e w'=>e=.returned (.func (.func 233) #[] #[aO w.heap.size,aO (w.heap.size+1)])/\w'=(w.alloc (.cells #[.slice a n c] 41)).alloc (.cells #[.func (.func gs) #[] #[]] 261):=by go_enter func176,ntmps176;go_wp2;go_ret;exact⟨rfl,rfl⟩
section
attribute [local go_sem] Oper.semAt_some
theorem C6(b off cap bl bs:Nat)(rs:List aj)(W0:World)
  (hl:W0.cell? (ar bl 0)=some (aU b off rs.length cap)) (hs:W0.cell? (ar bs 0)=some (.func (.func 177) #[] #[]))
  (hr:dz W0 b off rs) (h1:bl<W0.heap.size) (h2:bs<W0.heap.size) (hlen:rs.length<=3001) (fw:rs.length<=cap) :
  pQ prog 233 #[aO bl,aO bs] (fun x:Nat×List aj=>#[aU b (off+x.1*4) x.2.length x.2.length]) (bC bJ rs)
   (fun A B=>aw A B) (iK bl bs b) (fun _ _=>True) W0:=by
 have h3:b<W0.heap.size:=hr.1;intro l J Jx hJ qQ hY h0;have jw:=ag hY;have jx:=ag hJ;clear hY hJ qQ;refine callsIn_of_wp func233 rfl aY ?_;simp only[ntmps233,lK,cU,fV,Nat.reduceAdd,Nat.reduceSub,l_,mf,mh,mg,fF,dX];gi_wp2;gi_loopw [4] (fun s wr=>∃i k:Nat,s=aq k/\k<=rs.length/\i<=(bC bJ rs).length/\(bC bJ rs).drop i=iL bJ (rs.drop k).length k (rs.drop k)/\J i wr/\iK bl bs b W0 wr) (fun s _=>rs.length - (intOf s).toNat);case atStart=>exact⟨0,0,rfl,dY _,dY _,by simp[bC],h0,iK.refl _ _ _ _⟩
 case round =>(
 obtain⟨i,k,rfl,hk,au,hrun,oV,hB⟩:=hrel;have aT:=ag hrun;have r9:=ag oV;clear hrun oV;have cl:wr.cell? (ar bl 0)=some (aU b off rs.length cap):=(dC hB.2.1).trans hl;have cs:wr.cell? (ar bs 0)=some (.func (.func 177) #[] #[]):=(dC hB.2.2.1).trans hs;by_cases hlt:k<rs.length;{
 have hA:dz wr b off rs:=vy hr hB.1 hB.2.2.2;obtain⟨q0,q1,q2,q3⟩:=hA.four k hlt;have hrt:rs.drop k=rs[k] :: rs.drop (k+1):=nA hlt;have ou:∀m (h:m<rs.length) (h0:k+1<=m),∃h':m - (k+1)<(rs.drop (k+1)).length,(rs.drop (k+1))[m - (k+1)]=rs[m]:=fun m h h0=>⟨by rw[iW];omega,by rw[IE];congr 1;omega⟩;have kY:(rs.drop (k+1)).length=rs.length - (k+1):=iW;rw[hrt,Tz]at aT;have HG:=ag ou;have FD:=ag hr;clear hrt ou hA;obtain⟨T,hT⟩:=bP (((rs.drop (k+1)).takeWhile (bJ rs[k])).length);have Jk:T<=rs.length - (k+1):=by{rw[hT,<- kY];exact(SB _).length_le};have rZ:=ag (Nl (p:=bJ rs[k]) (rs.drop (k+1)));have hend:=ag (Nn (p:=bJ rs[k]) (rs.drop (k+1)));rw[<- hT]at rZ;have dJ:=ag hT;clear kY hT q0 q1 q2 q3;generalize hx:rs[k]=r at *;have cN:=ag hx;clear hx;have vz:Hid ((bC bJ rs)[i]? = some (k,r :: (rs.drop (k+1)).takeWhile (bJ r))):=by{have:=ek (fun l:List (Nat×List aj)=>l[0]?) (af aT);rw[Hid];simpa using this};have vA:Hid (i+1<=(bC bJ rs).length):=(iu.1 (af vz)).1;have Av:Hid ((rs.drop (k+1)).dropWhile (bJ r)=rs.drop (k+1+T)):=by{
 have h1:rs.drop (k+1+T)=(rs.drop (k+1)).drop T:=by rw[qE]
 rw[Hid,h1,af dJ];conv=>rhs;arg 2;rw[<- tH (p:=bJ r) (l:=rs.drop (k+1))]
 rw[Mu]};gi_wp2_with fail;gi_loopw [5] (fun e wr2=>∃m:Nat,e=aq m/\k+1<=m/\m<=k+1+T/\J i wr2/\iK bl bs b W0 wr2) (fun e _=>rs.length - (intOf e).toNat);case atStart=>exact⟨k+1,by go_num,aL _,ae,r9,hB⟩
 case round =>(
 clear r9 hB cl cs;obtain⟨m,rfl,FE,adq,hJ2,hB2⟩:=hrel;have vB:=ag hJ2;clear hJ2;have cl:wr.cell? (ar bl 0)=some (aU b off rs.length cap):=(dC hB2.2.1).trans hl;have cs:wr.cell? (ar bs 0)=some (.func (.func 177) #[] #[]):=(dC hB2.2.2.1).trans hs;have hA:dz wr b off rs:=vy hr hB2.1 hB2.2.2.2;obtain⟨q0,q1,q2,q3⟩:=hA.four k hlt;rw[af cN]at q0 q1 q2 q3;by_cases hm:m<rs.length;{
 obtain⟨p0,p1,gB,fD⟩:=hA.four m hm;obtain⟨mq,hg⟩:=af HG m hm FE;clear hA;by_cases Np:m - (k+1)<T;{have hsm:bJ r rs[m]=true:=by{obtain⟨h',e⟩:=af rZ (m - (k+1)) Np;rw[hg]at e;exact e};clear hg mq;generalize rs[m]=s at *;have vC:(m:Int)<(rs.length:Int):=ae;have tQ:(k:Int)<(rs.length:Int):=ae;have FH:decide ((m:Int)<(rs.length:Int))=true:=jY vC;have hmx:prog.follows .mixedOrders=true:=aK;have wX:W0.heap.size<=wr.heap.size:=hB2.1;have gl:∀n os,(Sort.grow (wr.drewN n) os).cell? (ar bl 0)=some (aU b off rs.length cap):=cell_grown (by show bl<_;omega) cl;have gs:∀n os,(Sort.grow (wr.drewN n) os).cell? (ar bs 0)=some (.func (.func 177) #[] #[]):=cell_grown (by show bs<_;omega) cs;have g0:∀n os,(Sort.grow (wr.drewN n) os).cell? (ar b (off+k*4))=some (aA r.owner):=cell_grown (by show b<_;omega) q0;have g1:∀n os,(Sort.grow (wr.drewN n) os).cell? (ar b (off+k*4+1))=some (aq r.aV):=cell_grown (by show b<_;omega) q1;have g2:∀n os,(Sort.grow (wr.drewN n) os).cell? (ar b (off+k*4+2))=some (aq r.type):=cell_grown (by show b<_;omega) q2;have g3:∀n os,(Sort.grow (wr.drewN n) os).cell? (ar b (off+k*4+3))=some (aA r.data):=cell_grown (by show b<_;omega) q3;have e0:∀n os,(Sort.grow (wr.drewN n) os).cell? (ar b (off+m*4))=some (aA s.owner):=cell_grown (by show b<_;omega) p0;have e1:∀n os,(Sort.grow (wr.drewN n) os).cell? (ar b (off+m*4+1))=some (aq s.aV):=cell_grown (by show b<_;omega) p1;have e2:∀n os,(Sort.grow (wr.drewN n) os).cell? (ar b (off+m*4+2))=some (aq s.type):=cell_grown (by show b<_;omega) gB;have e3:∀n os,(Sort.grow (wr.drewN n) os).cell? (ar b (off+m*4+3))=some (aA s.data):=cell_grown (by show b<_;omega) fD;gi_wp2_with fail;refine wpIn_wide.2 ?_;go_quiet_grown ((go_at_call 177;exact Calls.grown_of (Tx r s _)));gi_wp2_with fail;exact⟨⟨m+1,by go_num,ae,ae,af jx i _ _ (af vB) (yv _ _ _),hB2.trans (iK.CW (yv _ _ _) ae ae ae)⟩,by simp[intOf];omega⟩};{
 have hmk:m=k+1+T:=ae;have hsm:bJ r rs[m]=false:=by{
 have h':((rs.drop (k+1)).takeWhile (bJ r)).length=m - (k+1):=by rw[<- af dJ];omega
 have:=af hend (by rw[h'];exact mq);simp only[h']at this;rw[hg]at this;exact this};clear hg mq;generalize rs[m]=s at *;have vC:(m:Int)<(rs.length:Int):=ae;have tQ:(k:Int)<(rs.length:Int):=ae;have FH:decide ((m:Int)<(rs.length:Int))=true:=jY vC;have tR:=ag hmk;clear hmk;have fZ:Hid ((r :: (rs.drop (k+1)).takeWhile (bJ r)).length=m - k):=by{rw[Hid,cU,<- af dJ,af tR];omega};have jh:Hid ((bC bJ rs).drop (i+1)=iL bJ (rs.drop m).length m (rs.drop m)):=by{rw[Hid,<- qE,af aT,IB,IP,af Av,<- af dJ,<- af tR]};have hmx:prog.follows .mixedOrders=true:=aK;have wX:W0.heap.size<=wr.heap.size:=hB2.1;have gl:∀n os,(Sort.grow (wr.drewN n) os).cell? (ar bl 0)=some (aU b off rs.length cap):=cell_grown (by show bl<_;omega) cl;have gs:∀n os,(Sort.grow (wr.drewN n) os).cell? (ar bs 0)=some (.func (.func 177) #[] #[]):=cell_grown (by show bs<_;omega) cs;have g0:∀n os,(Sort.grow (wr.drewN n) os).cell? (ar b (off+k*4))=some (aA r.owner):=cell_grown (by show b<_;omega) q0;have g1:∀n os,(Sort.grow (wr.drewN n) os).cell? (ar b (off+k*4+1))=some (aq r.aV):=cell_grown (by show b<_;omega) q1;have g2:∀n os,(Sort.grow (wr.drewN n) os).cell? (ar b (off+k*4+2))=some (aq r.type):=cell_grown (by show b<_;omega) q2;have g3:∀n os,(Sort.grow (wr.drewN n) os).cell? (ar b (off+k*4+3))=some (aA r.data):=cell_grown (by show b<_;omega) q3;have e0:∀n os,(Sort.grow (wr.drewN n) os).cell? (ar b (off+m*4))=some (aA s.owner):=cell_grown (by show b<_;omega) p0;have e1:∀n os,(Sort.grow (wr.drewN n) os).cell? (ar b (off+m*4+1))=some (aq s.aV):=cell_grown (by show b<_;omega) p1;have e2:∀n os,(Sort.grow (wr.drewN n) os).cell? (ar b (off+m*4+2))=some (aq s.type):=cell_grown (by show b<_;omega) gB;have e3:∀n os,(Sort.grow (wr.drewN n) os).cell? (ar b (off+m*4+3))=some (aA s.data):=cell_grown (by show b<_;omega) fD;gi_wp2_with fail;refine wpIn_wide.2 ?_;go_quiet_grown ((go_at_call 177;exact Calls.grown_of (Tx r s _)));have hJ3:=af jx i _ _ (af vB) (yv wr nq osq);have gu:=hB2.trans (iK.CW (yv wr nq osq) ae ae ae);have lf:=af jw i (k,r :: (rs.drop (k+1)).takeWhile (bJ r)) _ (af vz) hJ3;dsimp only at lf;rw[af fZ]at lf;obtain⟨fn,tmps,assign,body,hy,hR⟩:=lf;gi_wp2_with fail;refine⟨rfl,hR.mono ?_⟩;rintro e W3 (⟨rfl,gC,hk4⟩|⟨rfl,ov,_⟩);{have mP:=ag gC;have iM:=gu.trans hk4;clear gC;gi_wp2_with fail;exact⟨⟨i+1,m,by go_num,ae,vA,jh,mP,iM⟩,by simp[intOf];omega⟩};{gi_wp2;refine df (wP rfl _ _ _) rfl ?_;exact⟨⟨_,rfl⟩,.inr ov⟩}}};{have hmk:m=k+1+T:=ae;have tR:=ag hmk;clear hmk hA;have FH:decide ((m:Int)<(rs.length:Int))=false:=hP ae;have adr:m<=rs.length:=ae;have wX:W0.heap.size<=wr.heap.size:=hB2.1;have fZ:Hid ((r :: (rs.drop (k+1)).takeWhile (bJ r)).length=m - k):=by{rw[Hid,cU,<- af dJ,af tR];omega};have jh:Hid ((bC bJ rs).drop (i+1)=iL bJ (rs.drop m).length m (rs.drop m)):=by{rw[Hid,<- qE,af aT,IB,IP,af Av,<- af dJ,<- af tR]};gi_wp2_with fail;refine wpIn_wide.2 ?_;go_quiet (fail);have hJ3:=af jx i _ _ (af vB) (vv (bW _ wr) nq);have gu:=hB2.trans (iK.CW (vv (bW wr.heap.size wr) nq) ae ae ae);have ads:(wr.drewN nq).cell? (ar bl 0)=some (aU b off rs.length cap):=cl;have lf:=af jw i (k,r :: (rs.drop (k+1)).takeWhile (bJ r)) _ (af vz) hJ3;dsimp only at lf;rw[af fZ]at lf;obtain⟨fn,tmps,assign,body,hy,hR⟩:=lf;gi_wp2_with fail;refine⟨rfl,hR.mono ?_⟩;rintro e W3 (⟨rfl,gC,hk4⟩|⟨rfl,ov,_⟩);{have mP:=ag gC;have iM:=gu.trans hk4;clear gC;gi_wp2_with fail;exact⟨⟨i+1,m,by go_num,ae,vA,jh,mP,iM⟩,by simp[intOf];omega⟩};{gi_wp2;refine df (wP rfl _ _ _) rfl ?_;exact⟨⟨_,rfl⟩,.inr ov⟩}})};{gi_wp2;go_end0;have aJ:i=(bC bJ rs).length:=by{have:=af aT;rw[pJ (show rs.length<=k by omega)]at this;have h':=ek List.length this;rw[iW]at h';have e0:(iL bJ (List.length (α:=aj) []) k []).length=0:=rfl;rw[e0]at h';omega};exact⟨⟨_,rfl⟩,.inl (by rw[<- aJ];exact r9)⟩})
theorem adt(b off bl bs:Nat)(W0:World)(hl:W0.cell? (ar bl 0)=some (bK))(Kp:World->World->Prop) :
  pQ prog 233 #[aO bl,aO bs] (fun x:Nat×List aj=>#[aU b (off+x.1*4) x.2.length x.2.length]) (bC bJ [])
   (fun A B=>aw A B) Kp (fun _ _=>True) W0:=by
 intro l J Jx hJ qQ hY h0;have jw:=ag hY;have jx:=ag hJ;clear hY hJ qQ;refine callsIn_of_wp func233 rfl aY ?_;simp only[ntmps233,lK,cU,fV,Nat.reduceAdd,Nat.reduceSub,l_,mf,mh,mg,fF,dX];gi_wp2;gi_loopw [4] (fun s wr=>s=aq 0/\wr=W0) (fun _ _=>0);case atStart=>exact⟨rfl,rfl⟩
 case round =>(obtain⟨rfl,rfl⟩:=hrel;gi_wp2;go_end0;exact⟨⟨_,rfl⟩,.inl h0⟩)
end
section
attribute [local go_sem] Oper.semAt_some
theorem Nq(b off cap bl bs:Nat)(rs:List aj)(W0:World)
  (hl:W0.cell? (ar bl 0)=some (aU b off rs.length cap)) (hs:W0.cell? (ar bs 0)=some (.func (.func 180) #[] #[]))
  (hr:dz W0 b off rs) (h1:bl<W0.heap.size) (h2:bs<W0.heap.size) (hlen:rs.length<=3001) (fw:rs.length<=cap) :
  pQ prog 233 #[aO bl,aO bs] (fun x:Nat×List aj=>#[aU b (off+x.1*4) x.2.length x.2.length]) (bC dw rs)
   (fun A B=>aw A B) (iK bl bs b) (fun _ _=>True) W0:=by
 have h3:b<W0.heap.size:=hr.1;intro l J Jx hJ qQ hY h0;have jw:=ag hY;have jx:=ag hJ;clear hY hJ qQ;refine callsIn_of_wp func233 rfl aY ?_;simp only[ntmps233,lK,cU,fV,Nat.reduceAdd,Nat.reduceSub,l_,mf,mh,mg,fF,dX];gi_wp2;gi_loopw [4] (fun s wr=>∃i k:Nat,s=aq k/\k<=rs.length/\i<=(bC dw rs).length/\(bC dw rs).drop i=iL dw (rs.drop k).length k (rs.drop k)/\J i wr/\iK bl bs b W0 wr) (fun s _=>rs.length - (intOf s).toNat);case atStart=>exact⟨0,0,rfl,dY _,dY _,by simp[bC],h0,iK.refl _ _ _ _⟩
 case round =>(
 obtain⟨i,k,rfl,hk,au,hrun,oV,hB⟩:=hrel;have aT:=ag hrun;have r9:=ag oV;clear hrun oV;have cl:wr.cell? (ar bl 0)=some (aU b off rs.length cap):=(dC hB.2.1).trans hl;have cs:wr.cell? (ar bs 0)=some (.func (.func 180) #[] #[]):=(dC hB.2.2.1).trans hs;by_cases hlt:k<rs.length;{
 have hA:dz wr b off rs:=vy hr hB.1 hB.2.2.2;obtain⟨q0,q1,q2,q3⟩:=hA.four k hlt;have hrt:rs.drop k=rs[k] :: rs.drop (k+1):=nA hlt;have ou:∀m (h:m<rs.length) (h0:k+1<=m),∃h':m - (k+1)<(rs.drop (k+1)).length,(rs.drop (k+1))[m - (k+1)]=rs[m]:=fun m h h0=>⟨by rw[iW];omega,by rw[IE];congr 1;omega⟩;have kY:(rs.drop (k+1)).length=rs.length - (k+1):=iW;rw[hrt,Tz]at aT;have HG:=ag ou;have FD:=ag hr;clear hrt ou hA;obtain⟨T,hT⟩:=bP (((rs.drop (k+1)).takeWhile (dw rs[k])).length);have Jk:T<=rs.length - (k+1):=by{rw[hT,<- kY];exact(SB _).length_le};have rZ:=ag (Nl (p:=dw rs[k]) (rs.drop (k+1)));have hend:=ag (Nn (p:=dw rs[k]) (rs.drop (k+1)));rw[<- hT]at rZ;have dJ:=ag hT;clear kY hT q0 q1 q2 q3;generalize hx:rs[k]=r at *;have cN:=ag hx;clear hx;have vz:Hid ((bC dw rs)[i]? = some (k,r :: (rs.drop (k+1)).takeWhile (dw r))):=by{have:=ek (fun l:List (Nat×List aj)=>l[0]?) (af aT);rw[Hid];simpa using this};have vA:Hid (i+1<=(bC dw rs).length):=(iu.1 (af vz)).1;have Av:Hid ((rs.drop (k+1)).dropWhile (dw r)=rs.drop (k+1+T)):=by{
 have h1:rs.drop (k+1+T)=(rs.drop (k+1)).drop T:=by rw[qE]
 rw[Hid,h1,af dJ];conv=>rhs;arg 2;rw[<- tH (p:=dw r) (l:=rs.drop (k+1))]
 rw[Mu]};gi_wp2_with fail;gi_loopw [5] (fun e wr2=>∃m:Nat,e=aq m/\k+1<=m/\m<=k+1+T/\J i wr2/\iK bl bs b W0 wr2) (fun e _=>rs.length - (intOf e).toNat);case atStart=>exact⟨k+1,by go_num,aL _,ae,r9,hB⟩
 case round =>(
 clear r9 hB cl cs;obtain⟨m,rfl,FE,adq,hJ2,hB2⟩:=hrel;have vB:=ag hJ2;clear hJ2;have cl:wr.cell? (ar bl 0)=some (aU b off rs.length cap):=(dC hB2.2.1).trans hl;have cs:wr.cell? (ar bs 0)=some (.func (.func 180) #[] #[]):=(dC hB2.2.2.1).trans hs;have hA:dz wr b off rs:=vy hr hB2.1 hB2.2.2.2;obtain⟨q0,q1,q2,q3⟩:=hA.four k hlt;rw[af cN]at q0 q1 q2 q3;by_cases hm:m<rs.length;{
 obtain⟨p0,p1,gB,fD⟩:=hA.four m hm;obtain⟨mq,hg⟩:=af HG m hm FE;clear hA;by_cases Np:m - (k+1)<T;{have hsm:dw r rs[m]=true:=by{obtain⟨h',e⟩:=af rZ (m - (k+1)) Np;rw[hg]at e;exact e};clear hg mq;generalize rs[m]=s at *;have vC:(m:Int)<(rs.length:Int):=ae;have tQ:(k:Int)<(rs.length:Int):=ae;have FH:decide ((m:Int)<(rs.length:Int))=true:=jY vC;have hmx:prog.follows .mixedOrders=true:=aK;have wX:W0.heap.size<=wr.heap.size:=hB2.1;have gl:∀n os,(Sort.grow (wr.drewN n) os).cell? (ar bl 0)=some (aU b off rs.length cap):=cell_grown (by show bl<_;omega) cl;have gs:∀n os,(Sort.grow (wr.drewN n) os).cell? (ar bs 0)=some (.func (.func 180) #[] #[]):=cell_grown (by show bs<_;omega) cs;have g0:∀n os,(Sort.grow (wr.drewN n) os).cell? (ar b (off+k*4))=some (aA r.owner):=cell_grown (by show b<_;omega) q0;have g1:∀n os,(Sort.grow (wr.drewN n) os).cell? (ar b (off+k*4+1))=some (aq r.aV):=cell_grown (by show b<_;omega) q1;have g2:∀n os,(Sort.grow (wr.drewN n) os).cell? (ar b (off+k*4+2))=some (aq r.type):=cell_grown (by show b<_;omega) q2;have g3:∀n os,(Sort.grow (wr.drewN n) os).cell? (ar b (off+k*4+3))=some (aA r.data):=cell_grown (by show b<_;omega) q3;have e0:∀n os,(Sort.grow (wr.drewN n) os).cell? (ar b (off+m*4))=some (aA s.owner):=cell_grown (by show b<_;omega) p0;have e1:∀n os,(Sort.grow (wr.drewN n) os).cell? (ar b (off+m*4+1))=some (aq s.aV):=cell_grown (by show b<_;omega) p1;have e2:∀n os,(Sort.grow (wr.drewN n) os).cell? (ar b (off+m*4+2))=some (aq s.type):=cell_grown (by show b<_;omega) gB;have e3:∀n os,(Sort.grow (wr.drewN n) os).cell? (ar b (off+m*4+3))=some (aA s.data):=cell_grown (by show b<_;omega) fD;gi_wp2_with fail;refine wpIn_wide.2 ?_;go_quiet_grown ((go_at_call 180;exact Calls.grown_of (Ty r s _)));gi_wp2_with fail;exact⟨⟨m+1,by go_num,ae,ae,af jx i _ _ (af vB) (yv _ _ _),hB2.trans (iK.CW (yv _ _ _) ae ae ae)⟩,by simp[intOf];omega⟩};{
 have hmk:m=k+1+T:=ae;have hsm:dw r rs[m]=false:=by{
 have h':((rs.drop (k+1)).takeWhile (dw r)).length=m - (k+1):=by rw[<- af dJ];omega
 have:=af hend (by rw[h'];exact mq);simp only[h']at this;rw[hg]at this;exact this};clear hg mq;generalize rs[m]=s at *;have vC:(m:Int)<(rs.length:Int):=ae;have tQ:(k:Int)<(rs.length:Int):=ae;have FH:decide ((m:Int)<(rs.length:Int))=true:=jY vC;have tR:=ag hmk;clear hmk;have fZ:Hid ((r :: (rs.drop (k+1)).takeWhile (dw r)).length=m - k):=by{rw[Hid,cU,<- af dJ,af tR];omega};have jh:Hid ((bC dw rs).drop (i+1)=iL dw (rs.drop m).length m (rs.drop m)):=by{rw[Hid,<- qE,af aT,IB,IP,af Av,<- af dJ,<- af tR]};have hmx:prog.follows .mixedOrders=true:=aK;have wX:W0.heap.size<=wr.heap.size:=hB2.1;have gl:∀n os,(Sort.grow (wr.drewN n) os).cell? (ar bl 0)=some (aU b off rs.length cap):=cell_grown (by show bl<_;omega) cl;have gs:∀n os,(Sort.grow (wr.drewN n) os).cell? (ar bs 0)=some (.func (.func 180) #[] #[]):=cell_grown (by show bs<_;omega) cs;have g0:∀n os,(Sort.grow (wr.drewN n) os).cell? (ar b (off+k*4))=some (aA r.owner):=cell_grown (by show b<_;omega) q0;have g1:∀n os,(Sort.grow (wr.drewN n) os).cell? (ar b (off+k*4+1))=some (aq r.aV):=cell_grown (by show b<_;omega) q1;have g2:∀n os,(Sort.grow (wr.drewN n) os).cell? (ar b (off+k*4+2))=some (aq r.type):=cell_grown (by show b<_;omega) q2;have g3:∀n os,(Sort.grow (wr.drewN n) os).cell? (ar b (off+k*4+3))=some (aA r.data):=cell_grown (by show b<_;omega) q3;have e0:∀n os,(Sort.grow (wr.drewN n) os).cell? (ar b (off+m*4))=some (aA s.owner):=cell_grown (by show b<_;omega) p0;have e1:∀n os,(Sort.grow (wr.drewN n) os).cell? (ar b (off+m*4+1))=some (aq s.aV):=cell_grown (by show b<_;omega) p1;have e2:∀n os,(Sort.grow (wr.drewN n) os).cell? (ar b (off+m*4+2))=some (aq s.type):=cell_grown (by show b<_;omega) gB;have e3:∀n os,(Sort.grow (wr.drewN n) os).cell? (ar b (off+m*4+3))=some (aA s.data):=cell_grown (by show b<_;omega) fD;gi_wp2_with fail;refine wpIn_wide.2 ?_;go_quiet_grown ((go_at_call 180;exact Calls.grown_of (Ty r s _)));have hJ3:=af jx i _ _ (af vB) (yv wr nq osq);have gu:=hB2.trans (iK.CW (yv wr nq osq) ae ae ae);have lf:=af jw i (k,r :: (rs.drop (k+1)).takeWhile (dw r)) _ (af vz) hJ3;dsimp only at lf;rw[af fZ]at lf;obtain⟨fn,tmps,assign,body,hy,hR⟩:=lf;gi_wp2_with fail;refine⟨rfl,hR.mono ?_⟩;rintro e W3 (⟨rfl,gC,hk4⟩|⟨rfl,ov,_⟩);{have mP:=ag gC;have iM:=gu.trans hk4;clear gC;gi_wp2_with fail;exact⟨⟨i+1,m,by go_num,ae,vA,jh,mP,iM⟩,by simp[intOf];omega⟩};{gi_wp2;refine df (wP rfl _ _ _) rfl ?_;exact⟨⟨_,rfl⟩,.inr ov⟩}}};{have hmk:m=k+1+T:=ae;have tR:=ag hmk;clear hmk hA;have FH:decide ((m:Int)<(rs.length:Int))=false:=hP ae;have adr:m<=rs.length:=ae;have wX:W0.heap.size<=wr.heap.size:=hB2.1;have fZ:Hid ((r :: (rs.drop (k+1)).takeWhile (dw r)).length=m - k):=by{rw[Hid,cU,<- af dJ,af tR];omega};have jh:Hid ((bC dw rs).drop (i+1)=iL dw (rs.drop m).length m (rs.drop m)):=by{rw[Hid,<- qE,af aT,IB,IP,af Av,<- af dJ,<- af tR]};gi_wp2_with fail;refine wpIn_wide.2 ?_;go_quiet (fail);have hJ3:=af jx i _ _ (af vB) (vv (bW _ wr) nq);have gu:=hB2.trans (iK.CW (vv (bW wr.heap.size wr) nq) ae ae ae);have ads:(wr.drewN nq).cell? (ar bl 0)=some (aU b off rs.length cap):=cl;have lf:=af jw i (k,r :: (rs.drop (k+1)).takeWhile (dw r)) _ (af vz) hJ3;dsimp only at lf;rw[af fZ]at lf;obtain⟨fn,tmps,assign,body,hy,hR⟩:=lf;gi_wp2_with fail;refine⟨rfl,hR.mono ?_⟩;rintro e W3 (⟨rfl,gC,hk4⟩|⟨rfl,ov,_⟩);{have mP:=ag gC;have iM:=gu.trans hk4;clear gC;gi_wp2_with fail;exact⟨⟨i+1,m,by go_num,ae,vA,jh,mP,iM⟩,by simp[intOf];omega⟩};{gi_wp2;refine df (wP rfl _ _ _) rfl ?_;exact⟨⟨_,rfl⟩,.inr ov⟩}})};{gi_wp2;go_end0;have aJ:i=(bC dw rs).length:=by{have:=af aT;rw[pJ (show rs.length<=k by omega)]at this;have h':=ek List.length this;rw[iW]at h';have e0:(iL dw (List.length (α:=aj) []) k []).length=0:=rfl;rw[e0]at h';omega};exact⟨⟨_,rfl⟩,.inl (by rw[<- aJ];exact r9)⟩})
end
section
variable {P:Program} {ops:Array Oper} {Q:Exit->Act->World->Prop} {l:Nat}
theorem adu(o:Oper)(a:Act)(next:Act->World->Prop)(r:Result Next):o.uponIn (Fence.wide.inRound l) 0 P a next Q r=o.uponIn Fence.wide 0 P a next Q r:=by
 cases r with
 | ok x w=>cases x <;> rfl
 | halt x w=>cases x <;> rfl
theorem adv(iy:∀(i:Nat) (o:Oper),ops[i]? = some o->∀c,o.op≠.defer c){i:Nat}{K K':Act->World->Prop}(hK:∀a w,K a w->K' a w){a:Act}{w:World}
  (h:wpOpIn Fence.wide 0 P ops Q i K a w):wpOpIn (Fence.wide.inRound l) 0 P ops Q i K' a w:=by
 unfold wpOpIn at *;cases ho:ops[i]? with
 | none=>simp only[ho]at h ⊢; exact hK a w h
 | some o =>{simp only[ho]at h ⊢;split;{rename_i hw;simp only[hw,pM]at h;have h':=Oper.wpIn_mono hK h;unfold Oper.wpIn at *;refine⟨h'.1,?_⟩;have h2:=h'.2;rw[Oper.semAt_eq _ _ _ (iy i o ho)]at h2 ⊢;rw[adu];exact h2};{rename_i hw;simp only[hw]at h;exact⟨h.1,hK _ _ h.2⟩}}
theorem TB(iy:∀(i:Nat) (o:Oper),ops[i]? = some o->∀c,o.op≠.defer c)(md:Region.Mode):∀(fuel:Nat) (listed:Array Bool) (a:Act) (w:World),
  wpAnyIn Fence.wide 0 P md ops Q fuel listed a w->wpAnyIn (Fence.wide.inRound l) 0 P md ops Q fuel listed a w
 | 0,_,_,_,h=>h
 | fuel+1,listed,a,w,h=>⟨h.1,fun i au=>adv iy (fun a w h'=>TB iy md fuel _ a w h') (h.2 i au)⟩
theorem Aw{id:Nat}{a:Act}{w:World}(hm:P.follows .mixedOrders=true)(iy:∀(i:Nat) (o:Oper),ops[i]? = some o->∀c,o.op≠.defer c)
  (h:wpAnyIn Fence.wide 0 P .any ops Q ops.size (Array.replicate ops.size false) a w.drew):(Code.region id ops true).wpIn (Fence.wide.inRound l) 0 P Q a w :=
 wpIn_region_any hm (TB iy _ _ _ _ _ h)
def adw(ops:Array Oper):Bool:=ops.all fun o=>match o.op with
 | .defer _=>false
 | _=>true
theorem wZ(h:adw ops=true):∀(i:Nat) (o:Oper),ops[i]? = some o->∀c,o.op≠.defer c:=by intro i o ho c hc;have hm:o∈ops:=Sc ho;have:=(Array.all_eq_true_iff_forall_mem.1 h) o hm;rw[hc]at this;cases this
end
section
attribute [local go_sem] Oper.semAt_some
def cO(x:Nat×List aj):ai:=(x.2.headD aj.zero).owner
theorem Nr(a:Option Addr)(n c:Nat)(w:World) :
  aF 109 #[.slice a n c] w fun e w'=>e=.returned (.func (.func 179) #[] #[aO w.heap.size])/\w'=w.alloc (.cells #[.slice a n c] 41):=by go_enter func109,ntmps109;go_wp2;go_ret;exact⟨rfl,rfl⟩
theorem TC(bS:aj->aj->Bool):∀(f k:Nat) (l:List aj) (x:Nat×List aj),x∈iL bS f k l->k<=x.1/\x.1+x.2.length<=k+l.length/\0<x.2.length/\x.2=(l.drop (x.1 - k)).take x.2.length
 | 0,k,l,x,h=>by simp[iL]at h
 | f+1,k,[],x,h=>by simp[iL]at h
 | f+1,k,r :: t,x,h=>by
  have hlen:=ek List.length (tH (p:=bS r) (l:=t));rw[bU]at hlen;rw[iL,eK]at h;rcases h with rfl|h;{
  refine⟨aL _,aX,ak,?_⟩;simp only[wO,zW,cU,MJ];congr 1;conv=>rhs;arg 2;rw[<- tH (p:=bS r) (l:=t)]
  rw[List.take_left]};{
  obtain⟨h1,h2,h3,h4⟩:=TC bS f _ _ x h;refine⟨ae,aX,h3,?_⟩;have aD:(r :: t).drop (x.1 - k)=(t.dropWhile (bS r)).drop (x.1 - (k+1+(t.takeWhile (bS r)).length)):=by{
  conv=>lhs;arg 2;arg 2;rw[<- tH (p:=bS r) (l:=t)]
  rw[show x.1 - k=1+(t.takeWhile (bS r)).length+(x.1 - (k+1+(t.takeWhile (bS r)).length))from ae];rw[<- qE,show 1+(t.takeWhile (bS r)).length=(r :: t.takeWhile (bS r)).length from aX,<- dX,Mu]};rw[aD];exact h4}
theorem r_{bS:aj->aj->Bool}{rs:List aj}{x:Nat×List aj}(h:x∈bC bS rs):x.1+x.2.length<=rs.length/\0<x.2.length/\x.2=(rs.drop x.1).take x.2.length:=by obtain⟨h1,h2,h3,h4⟩:=TC bS _ _ _ _ h;exact⟨ae,h3,by simpa using h4⟩
theorem Ax{w:World}{b off:Nat}{rs:List aj}(h:dz w b off rs){bS:aj->aj->Bool}{x:Nat×List aj}(hx:x∈bC bS rs):dz w b (off+x.1*4) x.2:=by obtain⟨_,_,h3⟩:=r_ hx;rw[h3];exact(h.drop x.1).take _
theorem TD(x:Nat×List aj)(h:0<x.2.length):x.2[0].owner=cO x:=by
 obtain⟨k,l⟩:=x;cases l with
 | nil=>simp at h
 | cons a t=>rfl
theorem Ns(b off cap bo:Nat)(rs:List aj)(W0:World)
  (hl:W0.cell? (ar bo 0)=some (aU b off rs.length cap)) (hr:dz W0 b off rs) (apV:bo<W0.heap.size) (hlen:rs.length<=3001) (fw:rs.length<=cap) :
  pQ prog 179 #[aO bo] (fun x:Nat×List aj=>#[aA (cO x),aU b (off+x.1*4) x.2.length x.2.length]) (bC dw rs)
   (fun A B=>Below W0.heap.size A B) (fun A B=>B.heap[b]? = A.heap[b]?/\b_ W0.heap.size A B) (fun A B=>b_ W0.heap.size A B) W0:=by
 intro l J Jx hJ qQ hY h0;have jw:=ag hY;have jx:=ag hJ;have Ay:=ag qQ;clear hY hJ qQ;refine I6 func179 rfl aY ?_;simp only[ntmps179,lK,cU,fV,Nat.reduceAdd,Nat.reduceSub,l_,mf,mh,mg,fF,dX];have hb:b<W0.heap.size:=hr.1;gi_wp2_with (refine⟨aY,rfl,?_⟩;gi_at_call 176;refine(bR.2 (TA _ _ _ _ _)).mono ?_;rintro e w' ⟨rfl,rfl⟩);have e1:(((W0.alloc (.cells #[.func (.yield l) #[] #[]] 108)).alloc (.cells #[.slice (some ⟨b,off,none⟩) rs.length cap] 41)).alloc (.cells #[.func (.func 180) #[] #[]] 261)).cell? (ar W0.heap.size 0)=some (.func (.yield l) #[] #[]):=by go_simp
 have e2:(((W0.alloc (.cells #[.func (.yield l) #[] #[]] 108)).alloc (.cells #[.slice (some ⟨b,off,none⟩) rs.length cap] 41)).alloc (.cells #[.func (.func 180) #[] #[]] 261)).cell? (ar (W0.heap.size+1) 0)=some (aU b off rs.length cap):=by go_simp
 have e3:(((W0.alloc (.cells #[.func (.yield l) #[] #[]] 108)).alloc (.cells #[.slice (some ⟨b,off,none⟩) rs.length cap] 41)).alloc (.cells #[.func (.func 180) #[] #[]] 261)).cell? (ar (W0.heap.size+1+1) 0)=some (.func (.func 180) #[] #[]):=by go_simp
 have e4:(((W0.alloc (.cells #[.func (.yield l) #[] #[]] 108)).alloc (.cells #[.slice (some ⟨b,off,none⟩) rs.length cap] 41)).alloc (.cells #[.func (.func 180) #[] #[]] 261)).heap.size=W0.heap.size+3:=ak;have e5:aw W0 (((W0.alloc (.cells #[.func (.yield l) #[] #[]] 108)).alloc (.cells #[.slice (some ⟨b,off,none⟩) rs.length cap] 41)).alloc (.cells #[.func (.func 180) #[] #[]] 261)) := ((bj.alloc aB _).alloc ak _).alloc aX _;generalize ((W0.alloc (.cells #[.func (.yield l) #[] #[]] 108)).alloc (.cells #[.slice (some ⟨b,off,none⟩) rs.length cap] 41)).alloc (.cells #[.func (.func 180) #[] #[]] 261)=W2 at *;have hgrow:∀r,aw W2 ((W2.alloc (.deferred (some []))).alloc (.loop r)):=fun r=>(bj.alloc aB _).alloc ak _;refine acM (xs:=bC dw rs) (encs:=fun x:Nat×List aj=>#[aU b (off+x.1*4) x.2.length x.2.length]) (St:=fun A B=>aw A B) (Kp:=iK (W0.heap.size+1) (W0.heap.size+1+1) b) (Kx:=fun _ _=>True) (gf:=233) (lb:=#[aO (W0.heap.size+1),aO (W0.heap.size+1+1)]) rfl (enters_of func233 aK rfl) (fun _=>rfl) ?Nq (fun i W=>J i W/\W.heap[W0.heap.size]? = W2.heap[W0.heap.size]?/\W.heap[b]? = W2.heap[b]?/\W2.heap.size<=W.heap.size) (fun c W=>c=.ret/\Jx W/\W2.heap.size<=W.heap.size) ?iX ?hI ?kX ?oo ?mN ?h0 (fun A B=>B.heap[b]? = A.heap[b]?/\b_ W0.heap.size A B) ?nE (fun _ _=>True) (fun _ _ _ _ _ _ _ _=>aY) (fun x=>{ tmps:=#[.func (.yield l) #[] #[],aO bo,aO W0.heap.size,.func (.func 180) #[] #[],aU b (off+x.1*4) x.2.length x.2.length, aU b off rs.length cap,.func (.func 180) #[] #[],.func (.func 233) #[] #[aO (W0.heap.size+1),aO (W0.heap.size+1+1)],aU b (off+x.1*4) x.2.length x.2.length,undef,undef,undef,undef,undef,undef,undef,undef],defers:=[] }) ?assign ?body ?done ?stop;case Nq =>(intro r;have hg:=hgrow r;exact Nq b off cap _ _ rs _ ((hg.cell (p:=⟨W0.heap.size+1,0,none⟩) (by show W0.heap.size+1<W2.heap.size;omega)).trans e2) ((hg.cell (p:=⟨W0.heap.size+1+1,0,none⟩) (by show W0.heap.size+1+1<W2.heap.size;omega)).trans e3) ((hr.below e5).below hg) (by have:=hg.size;omega) (by have:=hg.size;omega) hlen fw)
 case iX=>exact fun A B hA hst=>⟨hst.size,hst.block _ ae,hst.block _ ae⟩
 case hI=>exact fun i A B hA hst=>⟨af jx i A B hA.1 (hst.mono ae),(hst.block _ ae).trans hA.2.1,(hst.block _ ae).trans hA.2.2.1,a_ hA.2.2.2 hst.size⟩
 case kX=>exact fun c A B hA hst=>⟨hA.1,af Ay A B hA.2.1 (hst.mono ae),a_ hA.2.2 hst.size⟩
 case oo =>(intro i A r o hA cA;have hp:Below W0.heap.size A (A.putObj (W2.heap.size+1) o):=yg (w:=W2) ae A _ _ o ae cA rfl rfl;exact⟨af jx i A _ hA.1 hp,(tJ ae).trans hA.2.1,(tJ ae).trans hA.2.2.1,by rw[Ak];exact hA.2.2.2⟩)
 case mN =>(intro c A r o hA cA;have hp:Below W0.heap.size A (A.putObj (W2.heap.size+1) o):=yg (w:=W2) ae A _ _ o ae cA rfl rfl;exact⟨hA.1,af Ay A _ hA.2.1 hp,by rw[Ak];exact hA.2.2⟩)
 case h0 =>(intro r;have hg:=hgrow r;exact⟨af jx 0 _ _ h0 (e5.trans (hg.mono ae)),hg.block _ ae,hg.block _ ae,hg.size⟩)
 case nE =>(intro W r r' r'' Wc cA hk hL;have hlt:W2.heap.size+1<W.heap.size:=(di.1 cA).1;have hs:=hk.2.1;rw[Ak]at hs;refine⟨by rw[Ak];exact hs,?_,?_,?_⟩;{rw[tJ ae,hk.2.2 _ ae (by rw[Ak];omega),tJ ae]};{rw[tJ ae,hk.2.2 _ ae (by rw[Ak];omega),tJ ae]};{rw[tJ ae,hk.1,tJ ae]})
 case assign =>(intro l' x W K hK;gi_wp2;exact hK)
 case body =>(intro l' i x W hx hI hsz;obtain⟨oV,hyb,C7,hw2⟩:=hI;have hmem:x∈bC dw rs:=qH hx;have hA:dz W b off rs:=vy (hr.below e5) hw2 C7;have bZ:=Ax hA hmem;have pT:=(r_ hmem).2.1;obtain⟨q0,q1,q2,q3⟩:=bZ.four 0 pT;clear q1 q2 q3;rw[Ad,tI,TD x pT]at q0;have cy:W.cell? (ar W0.heap.size 0)=some (.func (.yield l) #[] #[]):=(dC hyb).trans e1;have lf:=af jw i x W.drew hx (jx i _ _ oV (bj.drew));have TE:(0:Int)<(x.2.length:Int):=ae;have hmx:prog.follows .mixedOrders=true:=aK;obtain⟨fn,tmps,assign,body,hy,hR⟩:=lf;clear hA bZ hmem;have eE:∀W3,b_ W0.heap.size W.drew W3->gq W2.heap.size W W3:=fun W3 hk=>by{have h2:b_ W0.heap.size W W3:=hk;exact⟨h2.1,h2.2 _ ae ae,h2.2 _ ae ae⟩};have dv:∀W3,J (i+1) W3->W3.heap[b]? = W.drew.heap[b]?/\b_ W0.heap.size W.drew W3->Hid (gq W2.heap.size W W3/\(W3.heap[b]? = W.heap[b]?/\b_ W0.heap.size W W3)/\(J (i+1) W3/\W3.heap[W0.heap.size]? = W2.heap[W0.heap.size]?/\W3.heap[b]? = W2.heap[b]?/\W2.heap.size<=W3.heap.size)):=fun W3 hj hk=>by{have h1:=eE W3 hk.2;have h2:W3.heap[b]? = W.heap[b]?/\b_ W0.heap.size W W3:=hk;exact⟨h1,h2,hj,(h2.2.2 _ aB ae).trans hyb,h2.1.trans C7,a_ hw2 h1.1⟩};have cN:∀W3,Jx W3->b_ W0.heap.size W.drew W3->Hid (gq W2.heap.size W W3/\(Jx W3/\W2.heap.size<=W3.heap.size)):=fun W3 hj hk=>by{have h1:=eE W3 hk;exact⟨h1,hj,a_ hw2 h1.1⟩};clear eE;gi_wp2_with fail;refine Aw hmx (wZ aK) ?_;refine hZ 1 ?_;refine hZ 2 ?_;refine hZ 3 ?_;refine hZ 5 ?_;refine rS (rs:=[0,4]) aK ak ?_;refine ju rfl (fun K hK=>?_) (ju rfl (fun K hK=>?_) rR);{go_simp;refine hK _ _ ?_;clear hK K;refine dM 4 fun K hK=>?_;go_simp;refine hK _ _ ?_;clear hK K;refine dM 6 fun K hK=>?_;go_simp;refine⟨rfl,hR.mono ?_⟩;rintro e W3 (⟨rfl,gC,hk4⟩|⟨rfl,ov,hk4⟩);{refine hK _ _ ?_;clear hK K;refine dM 7 fun K hK=>?_;go_simp;refine hK _ _ ?_;clear hK K;refine lL aK ?_ _;gi_wp2_with fail;exact af (dv W3 gC hk4)};{refine hK _ _ ?_;clear hK K;refine dM 7 fun K hK=>?_;go_simp;refine hK _ _ ?_;clear hK K;refine lL aK ?_ _;gi_wp2_with fail;obtain⟨r1,r3,r4⟩:=af (cN W3 ov hk4);exact⟨r1,aY,rfl,r3,r4⟩}};{go_simp;refine hK _ _ ?_;clear hK K;refine dM 0 fun K hK=>?_;go_simp;refine hK _ _ ?_;clear hK K;refine dM 6 fun K hK=>?_;go_simp;refine⟨rfl,hR.mono ?_⟩;rintro e W3 (⟨rfl,gC,hk4⟩|⟨rfl,ov,hk4⟩);{refine hK _ _ ?_;clear hK K;refine dM 7 fun K hK=>?_;go_simp;refine hK _ _ ?_;clear hK K;refine lL aK ?_ _;gi_wp2_with fail;exact af (dv W3 gC hk4)};{refine hK _ _ ?_;clear hK K;refine dM 7 fun K hK=>?_;go_simp;refine hK _ _ ?_;clear hK K;refine lL aK ?_ _;gi_wp2_with fail;obtain⟨r1,r3,r4⟩:=af (cN W3 ov hk4);exact⟨r1,aY,rfl,r3,r4⟩}})
 case done =>(intro W hI cD hsz;gi_wp2;refine⟨ak,.inl ⟨_,_,rfl,Al cD,?_⟩⟩;have hp:Below W0.heap.size W (W.putObj W2.heap.size (.deferred none)):=yg (w:=W2) ae W _ _ _ aB cD rfl rfl;exact⟨_,wP rfl _ _ _,⟨_,rfl⟩,.inl (jx _ _ _ hI.1 hp)⟩)
 case stop =>(intro c W hI cD hsz;obtain⟨rfl,Nt,hw2⟩:=hI;gi_wp2;refine⟨ak,.inl ⟨_,_,rfl,Al cD,?_⟩⟩;have hp:Below W0.heap.size W (W.putObj W2.heap.size (.deferred none)):=yg (w:=W2) ae W _ _ _ aB cD rfl rfl;exact⟨_,wP rfl _ _ _,⟨_,rfl⟩,.inr (Ay _ _ Nt hp)⟩)
end
section
attribute [local go_sem] Oper.semAt_some
def sf(n:ai)(rs:List aj):List (Nat×List aj):=(bC dw rs).filter (fun x=>dU (cO x) n)
theorem adx(a:Option Addr)(n c:Nat)(s:ByteArray)(w:World) :
  aF 182 #[.slice a n c,.string s] w fun e w'=>e=.returned (.func (.func 235) #[] #[aO w.heap.size,aO (w.heap.size+1)]) /\
   w'=(w.alloc (.cells #[.slice a n c] 41)).alloc (.cells #[.string s] 9):=by go_enter func182,ntmps182;go_wp2;go_ret;exact⟨rfl,rfl⟩
theorem TF(a:Option Addr)(n c:Nat)(s:ByteArray)(w:World) :
  aF 182 #[.slice a n c,.string s] w fun e w'=>e=.returned (.func (.func 235) #[] #[aO w.heap.size,aO (w.heap.size+1)])/\w'.heap.size=w.heap.size+2/\aw w w' /\
   w'.cell? (ar w.heap.size 0)=some (.slice a n c)/\w'.cell? (ar (w.heap.size+1) 0)=some (.string s):=by refine(adx a n c s w).mono ?_;rintro e w' ⟨rfl,rfl⟩;exact⟨rfl,ak,(bj.alloc aB _).alloc ak _,by go_simp,by go_simp⟩
def aH(p:Nat×List aj->Bool)(l:List (Nat×List aj))(i:Nat):Nat:=((l.take i).filter p).length
theorem ady(p:Nat×List aj->Bool)(l:List (Nat×List aj)):aH p l l.length=(l.filter p).length:=by unfold aH;rw[jV]
theorem adz(p:Nat×List aj->Bool)(l:List (Nat×List aj))(i:Nat)(x:Nat×List aj)(h:l[i]? = some x)(hp:p x=false):aH p l (i+1)=aH p l i:=by obtain⟨au,rfl⟩:=iu.1 h;unfold aH;rw[kQ au,tE,bU];simp[hp]
theorem adA(p:Nat×List aj->Bool)(l:List (Nat×List aj))(i:Nat)(x:Nat×List aj)(h:l[i]? = some x)(hp:p x=true):aH p l (i+1)=aH p l i+1/\(l.filter p)[aH p l i]? = some x:=by
 obtain⟨au,rfl⟩:=iu.1 h;unfold aH;refine⟨?_,?_⟩;{rw[kQ au,tE,bU];simp[hp]};{
 have e:l.filter p=(l.take i).filter p++(l[i] :: (l.drop (i+1)).filter p):=by{
 conv=>lhs;rw[<- jH i l,nA au]
 rw[tE,qF hp]};rw[e,wK aB];simp}
theorem TG{rs:List aj}{x:Nat×List aj}(hx:x∈bC dw rs):∃r∈rs,r.owner=cO x:=by obtain⟨h1,h2,h3⟩:=r_ hx;have hall:∀y∈x.2,y∈rs:=by{intro y hy;rw[h3]at hy;exact IL (Fa hy)};exact⟨x.2[0],hall _ (iV h2),TD x h2⟩
theorem TH(b off cap Nu iz:Nat)(n:ai)(rs:List aj)(W0:World)
  (hr:dz W0 b off rs) (fw:rs.length<=cap) (apW:W0.cell? (ar Nu 0)=some (aU b off rs.length cap)) (FI:W0.cell? (ar iz 0)=some (aA n))
  (Jl:Nu<W0.heap.size) (tS:iz<W0.heap.size) (hlen:rs.length<=3001) (hn:n.length<=3000) (ho:∀r∈rs,r.owner.length<=3000) :
  pQ prog 235 #[aO Nu,aO iz] (fun x:Nat×List aj=>#[aA (cO x),aU b (off+x.1*4) x.2.length x.2.length]) (sf n rs)
   (fun A B=>Below W0.heap.size A B) (fun A B=>(B.heap[b]? = A.heap[b]?/\B.heap[iz]? = A.heap[iz]?)/\b_ W0.heap.size A B) (fun A B=>b_ W0.heap.size A B) W0:=by
 intro l J Jx hJ qQ hY h0;have jw:=ag hY;have jx:=ag hJ;have Ay:=ag qQ;clear hY hJ qQ;have hb:b<W0.heap.size:=hr.1;refine callsIn_of_wp_marks func235 rfl aY ?_;simp only[ntmps235,lK,cU,fV,Nat.reduceAdd,Nat.reduceSub,l_,mf,mh,mg,fF,dX];gi_wp2_with (refine⟨aY,rfl,?_⟩;gi_at_call 109;refine(bR.2 (Nr _ _ _ _)).mono ?_;rintro e w' ⟨rfl,rfl⟩);have e1:((W0.alloc (.cells #[.func (.yield l) #[] #[]] 108)).alloc (.cells #[.slice (some ⟨b,off,none⟩) rs.length cap] 41)).cell? (ar W0.heap.size 0)=some (.func (.yield l) #[] #[]):=by go_simp
 have e2:((W0.alloc (.cells #[.func (.yield l) #[] #[]] 108)).alloc (.cells #[.slice (some ⟨b,off,none⟩) rs.length cap] 41)).cell? (ar (W0.heap.size+1) 0)=some (aU b off rs.length cap):=by go_simp
 have e4:((W0.alloc (.cells #[.func (.yield l) #[] #[]] 108)).alloc (.cells #[.slice (some ⟨b,off,none⟩) rs.length cap] 41)).heap.size=W0.heap.size+2:=ak;have e5:aw W0 ((W0.alloc (.cells #[.func (.yield l) #[] #[]] 108)).alloc (.cells #[.slice (some ⟨b,off,none⟩) rs.length cap] 41)):=(bj.alloc aB _).alloc ak _;generalize ((W0.alloc (.cells #[.func (.yield l) #[] #[]] 108)).alloc (.cells #[.slice (some ⟨b,off,none⟩) rs.length cap] 41))=W2 at *;have hgrow:∀r,aw W2 ((W2.alloc (.deferred (some []))).alloc (.loop r)):=fun r=>(bj.alloc aB _).alloc ak _;have Az:∀r,((W2.alloc (.deferred (some []))).alloc (.loop r)).heap.size=W2.heap.size+2:=fun r=>by simp
 refine Fo (xs:=bC dw rs) (encs:=fun x:Nat×List aj=>#[aA (cO x),aU b (off+x.1*4) x.2.length x.2.length]) (St:=fun A B=>Below (W2.heap.size+2) A B) (Kp:=fun A B=>B.heap[b]? = A.heap[b]?/\b_ (W2.heap.size+2) A B) (Kx:=fun A B=>b_ (W2.heap.size+2) A B)
  (gf:=179) (lb:=#[aO (W0.heap.size+1)]) rfl (enters_of func179 aK rfl) (fun _=>rfl) ?seq
  (fun i W=>J (aH (fun x=>dU (cO x) n) (bC dw rs) i) W/\W.heap[W0.heap.size]? = W2.heap[W0.heap.size]?/\W.heap[iz]? = W2.heap[iz]?/\W2.heap.size<=W.heap.size)
  (fun c W=>c=.ret/\Jx W/\W2.heap.size<=W.heap.size)
  ?iX ?hI ?kX ?oo ?mN ?h0 (fun A B=>(B.heap[b]? = A.heap[b]?/\B.heap[iz]? = A.heap[iz]?)/\b_ W0.heap.size A B) ?nE (fun A B=>b_ W0.heap.size A B) ?hKx
  ?round ?done ?stop
 case seq =>
  intro r;have hg:=hgrow r;have:=Ns b off cap (W0.heap.size+1) rs ((W2.alloc (.deferred (some []))).alloc (.loop r)) ((hg.cell (p:=⟨W0.heap.size+1,0,none⟩) (by show W0.heap.size+1<W2.heap.size;omega)).trans e2) ((hr.below e5).below hg) (by have:=hg.size;omega) hlen fw;rw[Az r]at this;exact this
 case iX=>exact fun A B hA hst=>⟨hst.size,hst.block _ ae,hst.block _ ae⟩
 case hI=>exact fun i A B hA hst=>⟨af jx _ A B hA.1 (hst.mono ae),(hst.block _ ae).trans hA.2.1,(hst.block _ ae).trans hA.2.2.1,a_ hA.2.2.2 hst.size⟩
 case kX=>exact fun c A B hA hst=>⟨hA.1,af Ay A B hA.2.1 (hst.mono ae),a_ hA.2.2 hst.size⟩
 case oo =>
  intro i A r o hA cA;have hp:Below W0.heap.size A (A.putObj (W2.heap.size+1) o):=belowK_b (w:=W2) ae A _ _ o ae cA rfl rfl;exact⟨af jx _ A _ hA.1 hp,(World.putObj_heap_other ae).trans hA.2.1,(World.putObj_heap_other ae).trans hA.2.2.1,by rw[World.putObj_size];exact hA.2.2.2⟩
 case mN =>
  intro c A r o hA cA;have hp:Below W0.heap.size A (A.putObj (W2.heap.size+1) o):=belowK_b (w:=W2) ae A _ _ o ae cA rfl rfl;exact⟨hA.1,af Ay A _ hA.2.1 hp,by rw[World.putObj_size];exact hA.2.2⟩
 case h0 =>
  intro r;have hg:=hgrow r;exact⟨af jx 0 _ _ h0 (e5.trans (hg.mono ae)),hg.block _ ae,hg.block _ ae,hg.size⟩
 case nE =>
  intro W r r' r'' Wc cA hk hL;have hlt:W2.heap.size+1<W.heap.size:=(di.1 cA).1;have hs:=hk.2.1;rw[World.putObj_size]at hs;refine⟨by rw[World.putObj_heap_other ae,hk.1.1,World.putObj_heap_other ae],by rw[World.putObj_size];exact hs,fun k dN hk2=>?_⟩;rw[World.putObj_heap_other ae,hk.2.2 _ ae (by rw[World.putObj_size];omega),World.putObj_heap_other ae]
 case hKx =>
  intro W r r' r'' Wc cA hk hL;have hs:=hk.1;rw[World.putObj_size]at hs;refine⟨by rw[World.putObj_size];exact hs,fun k dN hk2=>?_⟩;rw[World.putObj_heap_other ae,hk.2 _ ae (by rw[World.putObj_size];omega),World.putObj_heap_other ae]
 case round =>
  intro l' i x V W hx hI hsz;gi_wp2_with fail;refine⟨aY,?_⟩;obtain⟨oV,hyb,C7,hw2⟩:=hI;have hmem:x∈bC dw rs:=qH hx;obtain⟨r,cV,hro⟩:=TG hmem;have eR:(ah (cO x)).size<=1000000:=by rw[dt,<- hro];have:=ho r cV;omega
  have hnl:(ah n).size<=1000000:=by rw[dt];omega
  have cy:W.cell? (ar W0.heap.size 0)=some (.func (.yield l) #[] #[]):=(dC hyb).trans e1;have cn:W.cell? (ar iz 0)=some (aA n):=(dC C7).trans ((e5.cell (p:=⟨iz,0,none⟩) tS).trans FI);have hcon:=Fl (ah (cO x)) (ah n) W eR hnl;rw[qJ,qJ]at hcon;have vD:=ag hcon;clear hcon hro cV;cases hu:dU (cO x) n
  ·have hc:=adz (fun x=>dU (cO x) n) _ i x hx hu;have HC:=ag hc;have r9:=ag oV;clear hc oV;gi_wp2_with (refine⟨aY,rfl,?_⟩;gi_at_call 110;refine(CallsIn.inRound l' (bR.2 (af vD))).mono ?_;rintro e w' ⟨rfl,rfl⟩);refine⟨fun _ h=>(by cases h),?_⟩;gi_wp2_with fail;exact⟨⟨aL _,rfl,rfl⟩,⟨⟨rfl,rfl⟩,b_.refl _ _⟩,by rw[af HC];exact r9,hyb,C7,hw2⟩
  ·obtain⟨hc,C0⟩:=adA (fun x=>dU (cO x) n) _ i x hx hu;have lf:=af jw _ x W C0 oV;have HC:=ag hc;have dv:∀W3,J (aH (fun x=>dU (cO x) n) (bC dw rs) i+1) W3->((W3.heap[b]? = W.heap[b]?/\W3.heap[iz]? = W.heap[iz]?)/\b_ W0.heap.size W W3) ->
     Hid (gq W2.heap.size W W3/\((W3.heap[b]? = W.heap[b]?/\W3.heap[iz]? = W.heap[iz]?)/\b_ W0.heap.size W W3)/\(J (aH (fun x=>dU (cO x) n) (bC dw rs) (i+1)) W3/\W3.heap[W0.heap.size]? = W2.heap[W0.heap.size]?/\W3.heap[iz]? = W2.heap[iz]?/\W2.heap.size<=W3.heap.size)):=fun W3 hj hk=>by
    have h2:=hk.2;refine⟨⟨h2.1,h2.2 _ ae ae,h2.2 _ ae ae⟩,hk,?_,(h2.2 _ aB ae).trans hyb,hk.1.2.trans C7,a_ hw2 h2.1⟩;rw[af HC];exact hj
   have cN:∀W3,Jx W3->b_ W0.heap.size W W3->Hid (gq W2.heap.size W W3/\b_ W0.heap.size W W3/\(Jx W3/\W2.heap.size<=W3.heap.size)):=fun W3 hj h2 =>
    ⟨⟨h2.1,h2.2 _ ae ae,h2.2 _ ae ae⟩,h2,hj,a_ hw2 h2.1⟩
   obtain⟨fn,tmps,assign,body,hy,hR⟩:=lf;clear hc oV C0;gi_wp2_with (refine⟨aY,rfl,?_⟩;gi_at_call 110;refine(CallsIn.inRound l' (bR.2 (af vD))).mono ?_;rintro e w' ⟨rfl,rfl⟩);refine⟨rfl,hR.mono ?_⟩;rintro e W3 (⟨rfl,gC,hk4⟩|⟨rfl,ov,hk4⟩)
   ·have bu:=dv W3 gC hk4;clear gC hk4 dv cN;gi_wp2_with fail;exact bu
   ·have bu:=cN W3 ov hk4;clear ov hk4 dv cN;gi_wp2_with fail;obtain⟨r1,r2,r3,r4⟩:=af bu;exact⟨r1,r2,rfl,r3,r4⟩
 case done =>
  intro W hI cD hsz;gi_wp2;refine⟨ak,.inl ⟨_,_,rfl,run_takeDeferred cD,?_⟩⟩;have hp:Below W0.heap.size W (W.putObj W2.heap.size (.deferred none)):=belowK_b (w:=W2) ae W _ _ _ aB cD rfl rfl;have hj:=hI.1;rw[ady]at hj;exact⟨_,wP rfl _ _ _,⟨_,rfl⟩,.inl (jx _ _ _ hj hp)⟩
 case stop =>
  intro c W hI cD hsz;obtain⟨rfl,Nt,hw2⟩:=hI;gi_wp2;refine⟨ak,.inl ⟨_,_,rfl,run_takeDeferred cD,?_⟩⟩;have hp:Below W0.heap.size W (W.putObj W2.heap.size (.deferred none)):=belowK_b (w:=W2) ae W _ _ _ aB cD rfl rfl;exact⟨_,wP rfl _ _ _,⟨_,rfl⟩,.inr (Ay _ _ Nt hp)⟩
end
end Go.Proofs.YtkkpahmoljiepaaGreatDoor
