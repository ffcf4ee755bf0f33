import Derived.Test.YtkkpahmoljiepaaGreatDoorJ22
set_option maxRecDepth 1000000
set_option maxHeartbeats 12800000
set_option linter.unusedSimpArgs false
set_option linter.unusedVariables false
namespace Go.Proofs.YtkkpahmoljiepaaGreatDoor
section
open Go.RowKit Go.Sort Go.Shelf
theorem akw{w:World}{g:Nat}{d:Array aj}(hH:HoldsK aj.aN 4 w g 0 d):w=sortWorldK aj.aN 4 w g 0 0 d #[]:=by unfold sortWorldK;rw[grow_empty];exact(putRowK_self aj.aN 4 w g 0 d hH).symm
theorem YT(w:World)(g n m:Nat)(dk dk':Array aj)(os os':Array Obj)(hg:g<w.heap.size)(h:dk'.size=dk.size) :
  sortWorldK aj.aN 4 (sortWorldK aj.aN 4 w g 0 n dk os) g 0 m dk' os'=sortWorldK aj.aN 4 w g 0 (n+m) dk' (os++os'):=grow_step_growK aj.aN 4 w os os' n m g 0 dk dk' hg h
theorem akx(g cap a b n q:Nat)(d dk:Array aj)(os:Array Obj)(w:World)(hH:HoldsK aj.aN 4 w g 0 d)(hg:g<w.heap.size)(hs:dk.size=d.size)(ha:a+n<=b)(hb:b+n<=d.size)(aD:d.size<=3001) :
  aF 288 #[aU g 0 d.size cap,aq a,aq b,aq n,.func (.func 103) #[] #[]] (sortWorldK aj.aN 4 w g 0 q dk os) fun e w' =>
   e=.returned (.tuple #[])/\∃q',w'=sortWorldK aj.aN 4 w g 0 q' (oK a b n dk) os:=by have Qp:=holdsK_sortWorldK_c aj.aN 4 w g 0 d dk q os hH hg hs;have h:=akv g cap a b n dk _ Qp (eQ hg (size_sortWorldK_c aj.aN 4 w g 0 q dk os)) ha ae ae;rw[hs]at h;refine h.mono ?_;rintro e w' ⟨rfl,q',rfl⟩;refine⟨rfl,q+q',?_⟩;rw[YT w g q q' dk (oK a b n dk) os #[] hg (Lb _ _ _ _)];simp
theorem aky(g cap a m b q:Nat)(d dk:Array aj)(os:Array Obj)(X A' B' Z:List aj)(w:World)(hH:HoldsK aj.aN 4 w g 0 d)(hg:g<w.heap.size)(hs:dk.size=d.size)(aD:d.size<=3001)
  (hl:dk.toList=X++(A'++(B'++Z))) (ea:X.length=a) (em:a+A'.length=m) (eb:m+B'.length=b) (hA:0<A'.length) (hB:0<B'.length) :
  aF 267 #[aU g 0 d.size cap,aq a,aq m,aq b,.func (.func 103) #[] #[]] (sortWorldK aj.aN 4 w g 0 q dk os) fun e w' =>
   e=.returned (.tuple #[])/\∃q' d',w'=sortWorldK aj.aN 4 w g 0 q' d' os/\d'.toList=X++(B'++(A'++Z)):=by
 have hsz:d.size=X.length+(A'.length+(B'.length+Z.length)):=by rw[<- hs,<- qC,hl];simp
 have ox:=ag (fun q dk hs a b n (h1:a+n<=b) (h2:b+n<=d.size)=>akx g cap a b n q d dk os w hH hg hs h1 h2 aD);have jg:b<=3001:=ae;have Ld:(m:Int) - a=(A'.length:Int):=ae;have Cf:(b:Int) - m=(B'.length:Int):=ae;obtain⟨i0,Hz⟩:∃i,i=A'.length:=⟨_,rfl⟩;obtain⟨j0,hj0⟩:∃i,i=B'.length:=⟨_,rfl⟩;rw[<- Hz]at Ld;rw[<- hj0]at Cf;have HS:=ag (bQ hsz (bQ hs (bQ hl (bQ ea (bQ em (bQ eb (bQ hA (bQ hB (bQ Hz hj0)))))))));have eH:m<=3001:=ae;have Qq:a<=m:=ae;have Ew:i0<=3001:=ae;have adV:j0<=3001:=ae;clear hH hsz hs hl ea em eb hA hB aD Hz hj0;obtain⟨w0,hw0⟩:=bP (sortWorldK aj.aN 4 w g 0 q dk os);rw[<- hw0];have tk:=ag hw0;clear hw0;go_enter Tryz.func267,Tryz.ntmps267;go_wp2_with fail;go_loopg [10,11] (i0+j0) (fun g1 vi vj wr=>∃(i j:Nat),vi=aq i/\vj=aq j/\0<i/\0<j/\i+j<=g1/\i<=m/\i<=3001/\j<=3001/\Hid (∃(q:Nat) (dk:Array aj) (X1 A1 B1 Z1:List aj),X1.length+i=m/\A1.length=i/\B1.length=j/\dk.size=d.size/\dk.toList=X1++(A1++(B1++Z1))/\X1++(B1++(A1++Z1))=X++(B'++(A'++Z))/\wr=sortWorldK aj.aN 4 w g 0 q dk os));case atStart =>(obtain⟨hsz,hs,hl,ea,em,eb,hA,hB,Hz,hj0⟩:=af HS;exact⟨i0,j0,by first|rfl|go_num,by first|rfl|go_num,ae,ae,aL _,ae,ae,ae,q,dk,X,A',B',Z,ae,ae,ae,hs,hl,rfl,tk⟩)
 case round =>(
 obtain⟨i,j,rfl,rfl,au,hj,EA,arx,Gp,akz,cN⟩:=hrel;obtain⟨q1,dk1,X1,A1,B1,Z1,e1,e2,e3,e4,e5,e6,hwr⟩:=af cN;have rY:d.size=X1.length+(A1.length+(B1.length+Z1.length)):=by rw[<- e4,<- qC,e5];simp
 obtain⟨p,hp⟩:∃p:Nat,p+i=m:=⟨X1.length,e1⟩;have akA:(m:Int) - i=(p:Int):=ae;by_cases hne:i=j;{subst hne;have akB:((i:Int) != (i:Int))=false:=ak;have HC:=ag (ox q1 dk1 e4 p m i ae ae);have aT:Hid (∀q',∃q'' d',sortWorldK aj.aN 4 w g 0 q' (oK p m i dk1) os=sortWorldK aj.aN 4 w g 0 q'' d' os/\d'.toList=X++(B'++(A'++Z))):=fun q'=>by{refine⟨q',_,rfl,?_⟩;have:=La A1 B1 dk1 X1 [] Z1 ae (by simpa using e5);rw[e2,show X1.length=p from ae,show p+i+([]:List aj).length=m from aX]at this;rw[this,<- e6];rfl};rw[<- hwr]at HC;clear cN e1 e2 e3 e4 e5 e6 hwr rY ox tk;go_wp2_with fail;refine HC.mono ?_;rintro e w2 ⟨rfl,q2,hw2⟩;have xU:=ag hw2;clear hw2;go_wp2_with fail;go_end0;refine⟨rfl,?_⟩;rw[af xU];exact aT q2};{
 have akB:((i:Int) != (j:Int))=true:=by rw[Fg];omega
 by_cases FY:j<i;{
 have akC:(j:Int)<(i:Int):=ae;obtain⟨t,ht⟩:∃t:Nat,t+j=i:=⟨i - j,ae⟩;have YU:(i:Int) - j=(t:Int):=ae;have HC:=ag (ox q1 dk1 e4 p m j ae ae);have aT:Hid (∀q',∃(q:Nat) (dk:Array aj) (X1 A1 B1 Z1:List aj),X1.length+t=m/\A1.length=t/\B1.length=j/\dk.size=d.size/\dk.toList=X1++(A1++(B1++Z1))/\X1++(B1++(A1++Z1))=X++(B'++(A'++Z))/\sortWorldK aj.aN 4 w g 0 q' (oK p m j dk1) os=sortWorldK aj.aN 4 w g 0 q dk os):=fun q'=>by{have nV:A1=A1.take j++A1.drop j:=(jH _ _).symm;have l1:(A1.take j).length=j:=aX;have l2:(A1.drop j).length=t:=aX;generalize A1.take j=A2 at nV l1;generalize A1.drop j=A3 at nV l2;subst nV;have:=La A2 B1 dk1 X1 A3 Z1 ae (by rw[e5];simp);rw[l1,show X1.length=p from ae,show p+j+A3.length=m from ae]at this;refine⟨q',_,X1++B1,A3,A2,Z1,aX,l2,l1,by rw[Lb];exact e4,by rw[this];simp,?_,rfl⟩;rw[<- e6];simp};rw[<- hwr]at HC;clear cN e1 e2 e3 e4 e5 e6 hwr rY ox tk;go_wp2_with fail;refine HC.mono ?_;rintro e w2 ⟨rfl,q2,hw2⟩;have xU:=ag hw2;clear hw2;go_wp2_with fail;go_roundg (t+j);case measure=>omega
 case rel =>(refine⟨t,j,by first|rfl|go_num,by first|rfl|go_num,ae,hj,aL _,ae,ae,akz,?_⟩;rw[af xU];exact aT q2)};{
 have akC:¬(j:Int)<(i:Int):=ae;obtain⟨t,ht⟩:∃t:Nat,t+i=j:=⟨j - i,ae⟩;have YU:(j:Int) - i=(t:Int):=ae;obtain⟨r,hr⟩:∃r:Nat,r+i=m+j:=⟨m+j - i,ae⟩;have ajF:(m:Int)+j - i=(r:Int):=ae;have HC:=ag (ox q1 dk1 e4 p r i ae ae);have aT:Hid (∀q',∃(q:Nat) (dk:Array aj) (X1 A1 B1 Z1:List aj),X1.length+i=m/\A1.length=i/\B1.length=t/\dk.size=d.size/\dk.toList=X1++(A1++(B1++Z1))/\X1++(B1++(A1++Z1))=X++(B'++(A'++Z))/\sortWorldK aj.aN 4 w g 0 q' (oK p r i dk1) os=sortWorldK aj.aN 4 w g 0 q dk os):=fun q'=>by{have hB1:B1=B1.take t++B1.drop t:=(jH _ _).symm;have l1:(B1.take t).length=t:=aX;have l2:(B1.drop t).length=i:=aX;generalize B1.take t=B2 at hB1 l1;generalize B1.drop t=B3 at hB1 l2;subst hB1;have:=La A1 B3 dk1 X1 B2 Z1 ae (by rw[e5];simp);rw[e2,show X1.length=p from ae,show p+i+B2.length=r from ae]at this;refine⟨q',_,X1,B3,B2,A1++Z1,ae,l2,l1,by rw[Lb];exact e4,by rw[this],?_,rfl⟩;rw[<- e6];simp};rw[<- hwr]at HC;clear cN e1 e2 e3 e4 e5 e6 hwr rY ox tk;go_wp2_with fail;refine HC.mono ?_;rintro e w2 ⟨rfl,q2,hw2⟩;have xU:=ag hw2;clear hw2;go_wp2_with fail;go_roundg (i+t);case measure=>omega
 case rel =>(refine⟨i,t,by first|rfl|go_num,by first|rfl|go_num,au,ae,aL _,ae,Gp,ae,?_⟩;rw[af xU];exact aT q2)}})
end
section
open Go.RowKit Go.Sort
section
variable {α:Type} (lt:α->α->Bool)
theorem YV(hw:lH lt){B1:List α}{x z:α}(hs:fh lt (B1++[z]))(h:lt z x=true):∀y∈B1++[z],lt y x=true:=fun y hy=>by
 rcases kP.1 hy with hy|hy
 ·cases e:lt y x
  ·have:=hw.nt _ _ _ ((om.1 hs).2.2 y hy z ak) e;rw[h]at this;cases this
  ·rfl
 ·obtain rfl:y=z:=by simpa using hy
  exact h
theorem akD(hw:lH lt){B1 B2:List α}{x:α}(hs:fh lt (B1++B2))(h1:∀y,B1.getLast? = some y->lt y x=true)(h2:∀y,B2.head? = some y->lt y x=false):dE lt [x] (B1++B2)=B1++x :: B2:=by
 have hall:∀y∈B1,lt y x=true:=by{rcases tD B1 with rfl|⟨B',z,rfl⟩;{simp};{rw[tC]at *;exact YV lt hw (om.1 hs).1 (h1 z ak)}};have:=xT lt [x] B2 [] B1 (fun b hb a ha=>by obtain rfl:a=x:=(by simpa using ha);exact hall b hb) ak;rw[fF,Qm]at this;rw[this];congr 1;cases B2 with
 | nil=>simp
 | cons y B2=>rw[pD lt _ _ (h2 y rfl),Qm]
theorem akE(hw:lH lt){A1 A2:List α}{y:α}(hs:fh lt (A1++A2))(h1:∀x,A1.getLast? = some x->lt y x=false)(h2:∀x,A2.head? = some x->lt y x=true):dE lt (A1++A2) [y]=A1++y :: A2:=by
 have hall:∀x∈A1,lt y x=false:=by{
 rcases tD A1 with rfl|⟨B',z,rfl⟩;{simp};{
 rw[tC]at *;intro x hx;have hz:=h1 z ak;rcases kP.1 hx with hx|hx;{exact hw.nt _ _ _ hz ((om.1 (om.1 hs).1).2.2 x hx z ak)};{
 obtain rfl:x=z:=by simpa using hx
 exact hz}}};have:=xT lt A2 [y] A1 [] ak (fun a ha b hb=>by obtain rfl:b=y:=(by simpa using hb);exact hall a ha);rw[fF,K7]at this;rw[this];congr 1;cases A2 with
 | nil=>simp
 | cons x A2=>rw[nY lt _ _ (h2 x rfl),K7]
theorem akF(hw:lH lt){A1 A2 B1 B2:List α}(hA:fh lt (A1++A2))(hB:fh lt (B1++B2))(h1:∀x y,A1.getLast? = some x->B2.head? = some y->lt y x=false)(h2:∀x y,A2.head? = some x->B1.getLast? = some y->lt y x=true) :
  dE lt (A1++A2) (B1++B2)=dE lt A1 B1++dE lt A2 B2:=by
 refine xT lt A2 B2 A1 B1 (fun b hb a ha=>?_) (fun a ha b hb=>?_);{
 rcases tD B1 with rfl|⟨B',z,rfl⟩;{simp at hb};rw[tC]at *;cases A2 with
 | nil=>simp at ha
 | cons x A2 =>{have oF:=h2 x z rfl ak;have eM:=YV lt hw (om.1 hB).1 oF b hb;rcases eK.1 ha with rfl|ha;{exact eM};{have akG:=(wN.1 (om.1 hA).2.1).1 a ha;cases e:lt b a;{have:=hw.nt _ _ _ e akG;rw[eM]at this;cases this};{rfl}}}};{
 rcases tD A1 with rfl|⟨A',z,rfl⟩;{simp at ha};rw[tC]at *;cases B2 with
 | nil=>simp at hb
 | cons y B2 =>{
 have YW:=h1 z y ak rfl;have YX:lt y a=false:=by{
 rcases kP.1 ha with ha|ha;{exact hw.nt _ _ _ YW ((om.1 (om.1 hA).1).2.2 a ha z ak)};{
 obtain rfl:a=z:=by simpa using ha
 exact YW}};rcases eK.1 hb with rfl|hb;{exact YX};{exact hw.nt _ _ _ ((wN.1 (om.1 hB).2.1).1 b hb) YX}}}
end
section
variable {α:Type} [Inhabited α]
theorem Le{d:Array α}{X B Z:List α}(h:d.toList=X++(B++Z)){t:Nat}(ht:t<B.length):d[X.length+t]! = B[t]:=by
 obtain rfl:d=(X++(B++Z)).toArray:=by rw[<- h]
 simp[wK,CJ,ht]
omit [Inhabited α]in
theorem Lf{B:List α}{t:Nat}{y:α}(ht:t<=B.length)(h:(B.take t).getLast? = some y):∃(h0:t - 1<B.length),0<t/\B[t - 1]=y:=by
 cases t with
 | zero=>simp at h
 | succ n =>{refine⟨ae,ae,?_⟩;rw[List.getLast?_eq_getElem?]at h;simp only[jU,uY ht]at h;rw[Ss ae]at h;obtain⟨_,h⟩:=iu.1 h;exact h}
omit [Inhabited α]in
theorem Lg{B:List α}{t:Nat}{y:α}(h:(B.drop t).head? = some y):∃(h0:t<B.length),B[t]=y:=by rw[List.head?_drop]at h;exact iu.1 h
end
end
section
open Go.RowKit Go.Sort Go.Shelf
abbrev bn:aj->aj->Bool:=ltOf kD
section
variable {off k g:Nat} {dk:Array aj} {W:World}
theorem zF(hk:∀x,(aj.aN x).length=k)(h:HoldsK aj.aN k W g off dk)(p:Nat)(hp:p<dk.size):Sem.run Tryz.prog (loadCellsFrom (ar g (off+p*k)) 0 k #[]) W=.ok (aj.aN dk[p]!).toArray W :=
 run_loadCellsFrom_list _ _ _ _ k (hk _) (HoldsK.cells h hk hp)
theorem Qr(p:Nat)(hp:p<dk.size):p*k+k<=dk.size*k:=by have:=Ab k (show p+1<=dk.size from hp);rwa [IV,IX]at this
theorem YY(hk:∀x,(aj.aN x).length=k)(h:HoldsK aj.aN k W g off dk)(p r:Nat)(hp:p<dk.size)(hr:r<dk.size) :
  Sem.run Tryz.prog (storeCells (ar g (off+p*k)) (aj.aN dk[r]!) 0) W=.ok () (W.setCells g (off+p*k) (aj.aN dk[r]!)) /\
  Sem.run Tryz.prog (storeCells (ar g (off+r*k)) (aj.aN dk[p]!) 0) (W.setCells g (off+p*k) (aj.aN dk[r]!))=.ok () ((W.setCells g (off+p*k) (aj.aN dk[r]!)).setCells g (off+r*k) (aj.aN dk[p]!)) :=
 ⟨stores_of_holds _ h (p*k) _ (by rw[hk,size_flatK];exact Qr p hp) (Hv _),
  stores_of_holds _ (holds_setCells_c h (p*k) _ (by rw[hk,size_flatK];exact Qr p hp)) (r*k) _ (by rw[hk,size_setMany,size_flatK];exact Qr r hr) (Hv _)⟩
end
theorem akH(off k g cap a m b q:Nat)(hk:∀x,(aj.aN x).length=k)(zE:∀w,Sem.run Tryz.prog (Go.sizeOf 47) w=.ok k w)(d dk:Array aj)(os:Array Obj)(X:List aj)(x:aj)(B' Z:List aj)(w:World)(hH:HoldsK aj.aN k w g off d)(hg:g<w.heap.size)(hs:dk.size=d.size)(aD:d.size<=3001)
  (hl:dk.toList=X++x :: (B'++Z)) (ea:X.length=a) (em:a+1=m) (eb:m+B'.length=b) (hB:0<B'.length) (hw:lH bn) (fc:fh bn B') :
  aF 232 #[aU g off d.size cap,aq a,aq m,aq b,.func (.func 103) #[] #[]] (sortWorldK aj.aN k w g off q dk os) fun e w' =>
   e=.returned (.tuple #[])/\∃q' os' d',w'=sortWorldK aj.aN k w g off q' d' os'/\d'.toList=X++(dE bn [x] B'++Z):=by
 have mixed:Tryz.prog.follows Departure.mixedOrders=true:=aK;have aE:=Tryz.isAgg47;have hsz:d.size=X.length+(1+(B'.length+Z.length)):=by rw[<- hs,<- qC,hl];simp;omega
 have hx:dk[a]! = x:=by rw[<- ea];exact Ez hl
 have HK:=ag hk;have HH:=ag hH;have HG:=ag hg;have HS:=ag (bQ hsz (bQ hs (bQ hl (bQ ea (bQ hw fc)))));have jg:b<=3001:=ae;have bL:b<=d.size:=ae;have eH:m<=b:=ae;have Ld:((m:Int) - a == 1)=true:=by rw[iv];omega
 clear hk hH hg hsz hl ea hw fc;obtain⟨w0,hw0⟩:=bP (sortWorldK aj.aN k w g off q dk os);rw[<- hw0];have tk:=ag hw0;clear hw0;go_enter Tryz.func232,Tryz.ntmps232;go_wp2_with fail;go_loopg [10,11] (b - m) (fun g1 vi vj wr=>∃(i j:Nat),vi=aq i/\vj=aq j/\m<=i/\i<=j/\j<=b/\j - i<=g1/\Hid (∃q os,wr=sortWorldK aj.aN k w g off q dk os)/\Hid ((i=m\/bn dk[i - 1]! x=true)/\(j=b\/bn dk[j]! x=false)));case atStart=>exact⟨m,b,rfl,rfl,aL _,eH,aL _,aL _,⟨q,os,tk⟩,.inl rfl,.inl rfl⟩
 case round =>(
 obtain⟨i,j,rfl,rfl,uh,EA,hjb,xQ,uk,cN⟩:=hrel;by_cases hlt:i<j;{
 have zD:(i:Int)<(j:Int):=ae;obtain⟨h,hh⟩:∃h,(i+j)/2=h:=⟨_,rfl⟩;have YZ:((i:Int)+j)/2=(h:Int):=ae;have Y0:i<=h:=ae;have Y1:h<j:=ae;obtain⟨q1,os1,hwr⟩:=af uk;have uG:∀n' os',grow (wr.drewN n') os'=sortWorldK aj.aN k w g off (q1+n') dk (os1++os'):=fun n' os'=>by rw[hwr];exact sortWorldK_grown_c aj.aN k w g off q1 n' dk os1 os'
 have uH:∀n' os',HoldsK aj.aN k (grow (wr.drewN n') os') g off dk:=fun n' os'=>by rw[uG];exact holdsK_sortWorldK_c aj.aN k w g off d dk _ _ (af HH) (af HG) hs
 obtain⟨y,hy⟩:∃y,dk[h]! = y:=⟨_,rfl⟩;have GX:∀n' os',Sem.run Tryz.prog (loadCellsFrom (ar g (off+h*k)) 0 k #[]) (grow (wr.drewN n') os')=.ok (aj.aN y).toArray (grow (wr.drewN n') os'):=fun n' os'=>by rw[<- hy];exact zF (af HK) (uH n' os') h ae
 have la:∀n' os',Sem.run Tryz.prog (loadCellsFrom (ar g (off+a*k)) 0 k #[]) (grow (wr.drewN n') os')=.ok (aj.aN x).toArray (grow (wr.drewN n') os'):=fun n' os'=>by rw[<- hx];exact zF (af HK) (uH n' os') a ae
 have zG:∀W,aF 103 #[.agg (aj.aN y).toArray,.agg (aj.aN x).toArray] W fun e w'=>e=.returned (aq (kD y x))/\∃q os',w'=grow (W.drewN q) os':=fun W=>JG y x W;have uI:=ag zG;have CLS:=ag uG;have Y2:(h:Int)<(d.size:Int):=ae;have akI:(a:Int)<(d.size:Int):=ae;have jw:=ag hy;have akJ:=ag hh;have akK:=ag hx;clear uG uH hwr hh hy zG hx;generalize hcv:kD y x=cv at uI;have zH:=ag hcv;clear hcv;by_cases hlv:cv<0;{
 go_wp2_with fail;go_quiet_grown (first|(go_at_call 103;refine Calls.grown_of (uI _)));go_wp2_with fail;go_roundg (j - (h+1));case measure=>omega
 case rel =>(refine⟨h+1,j,by first|rfl|go_num,rfl,ae,ae,hjb,aL _,⟨_,_,af CLS _ _⟩,.inr ?_,cN.2⟩;show ltOf kD dk[h]! x=true;rw[af jw];unfold ltOf;rw[af zH];exact jY hlv)};{
 go_wp2_with fail;go_quiet_grown (first|(go_at_call 103;refine Calls.grown_of (uI _)));go_wp2_with fail;go_roundg (h - i);case measure=>omega
 case rel =>(refine⟨i,h,rfl,by first|rfl|go_num,uh,ae,ae,aL _,⟨_,_,af CLS _ _⟩,cN.1,.inr ?_⟩;show ltOf kD dk[h]! x=false;rw[af jw];unfold ltOf;rw[af zH];exact hP ae)}};{
 have zD:¬(i:Int)<(j:Int):=ae;obtain rfl:i=j:=ae;obtain⟨T,hT⟩:∃T,i=m+T:=⟨i - m,ae⟩;have fq:Hid (dE bn [x] B'=B'.take T++x :: B'.drop T):=by{
 obtain⟨hsz,hs',hl,ea,hw,fc⟩:=af HS;obtain⟨h1,h2⟩:=af cN;have hl':dk.toList=(X++[x])++(B'++Z):=by rw[hl];simp
 have my:(X++[x]).length=m:=aX;have hat:∀t (h:t<B'.length),dk[m+t]! = B'[t]:=fun t h=>by rw[<- my];exact Le hl' h
 rw[Hid];conv=>lhs;rw[<- jH T B']
 refine akD bn hw (by rw[jH];exact fc) (fun y hy=>?_) (fun y hy=>?_);{obtain⟨h0,h3,h4⟩:=Lf ae hy;rcases h1 with h1|h1;{omega};{rw[show i - 1=m+(T - 1)from ae,hat _ h0,h4]at h1;exact h1}};{obtain⟨h0,h4⟩:=Lg hy;rcases h2 with h2|h2;{omega};{rw[hT,hat _ h0,h4]at h2;exact h2}}};have HA:T<=B'.length:=ae;have KX:(i:Int) - 1=(a:Int)+T:=ae;have dJ:=ag hT;have akL:=ag (bQ em eb);have hab:a+T+1<=b:=ae;have Ew:(i:Int)<=3001:=ae;have Pb:(1:Int)<=(i:Int):=ae;clear hT em eb cN;go_wp2_with fail;go_loopg [13] T (fun g1 Qs wr=>∃(t:Nat),Qs=aq (a+t:Nat)/\t+g1=T/\Hid (∃q os dk1,wr=sortWorldK aj.aN k w g off q dk1 os/\dk1.size=d.size/\dk1.toList=X++(B'.take t++x :: (B'.drop t++Z))));case atStart =>(obtain⟨q1,os1,hwr⟩:=af uk;obtain⟨hsz,hs',hl,ea,hw,fc⟩:=af HS;exact⟨0,rfl,ae,q1,os1,dk,hwr,hs,by simpa using hl⟩)
 case round =>(
 obtain⟨t,rfl,Cg,HW⟩:=hrel;by_cases Ch:t<T;{
 obtain⟨p,hp⟩:∃p,a+t=p:=⟨_,rfl⟩;rw[hp];have Hw:(p:Int)<(a:Int)+T:=ae;have ru:p<=3001:=ae;obtain⟨q1,os1,dk1,hwr,hs1,dg⟩:=af HW;have oL:HoldsK aj.aN k wr.drew g off dk1:=by rw[hwr];exact holdsK_sortWorldK_c aj.aN k w g off d dk1 _ _ (af HH) (af HG) hs1
 have lp:=zF (af HK) oL p ae;obtain⟨r,hr⟩:∃r,p+1=r:=⟨_,rfl⟩;have lr:=zF (af HK) oL r ae;obtain⟨s1,s2⟩:=YY (af HK) oL p r ae ae;have aT:Hid (∃q os dk2,((wr.drew.setCells g (off+p*k) (aj.aN dk1[r]!)).setCells g (off+r*k) (aj.aN dk1[p]!))=sortWorldK aj.aN k w g off q dk2 os/\dk2.size=d.size/\dk2.toList=X++(B'.take (t+1)++x :: (B'.drop (t+1)++Z))):=by{refine⟨q1+1,os1,swp dk1 p r,?_,by rw[size_swp];exact hs1,?_⟩;{rw[hwr];exact sortWorldK_swp_c aj.aN k w g off (af HK) q1 dk1 os1 (af HG) p r ae ae};{obtain⟨hsz,hs',hl,ea,hw,fc⟩:=af HS;have HB:t<B'.length:=ae;have hsw:=K_ (d:=dk1) (X:=X++B'.take t) (Y:=[]) (Z:=B'.drop (t+1)++Z) (u:=x) (v:=B'[t]) (by rw[dg,nA HB];simp only[g_,dX,fF]);rw[show(X++B'.take t).length=p from aX,show p+1+([]:List aj).length=r from hr]at hsw;rw[hsw,kQ HB];simp only[g_,dX,fF]}};obtain⟨xr,qy⟩:∃y,dk1[r]! = y:=⟨_,rfl⟩;obtain⟨xp,qx⟩:∃y,dk1[p]! = y:=⟨_,rfl⟩;rw[qy]at lr s1;rw[qx]at lp;rw[qx,qy]at s2 aT;obtain⟨cP,pE⟩:∃c,aj.aN xp=c:=⟨_,rfl⟩;obtain⟨cR,pF⟩:∃c,aj.aN xr=c:=⟨_,rfl⟩;have YR:cP.length=k:=by rw[<- pE];exact HK _
 have YS:cR.length=k:=by rw[<- pF];exact HK _
 rw[pE,pF]at aT s2;rw[pF]at lr s1;rw[pE]at lp;have Qt:(p:Int)<(d.size:Int):=ae;have Qu:(r:Int)<(d.size:Int):=ae;have er:(p:Int)+1=(r:Int):=ae;have Hx:IntKind.i64.wrap (p:Int)=(p:Int):=by rw[gM];omega
 have Hy:IntKind.i64.wrap (r:Int)=(r:Int):=by rw[gM];omega
 have p0:(0:Int)<=(p:Int):=ae;have r0:(0:Int)<=(r:Int):=ae;have bu:Hid (t+gk=T/\t<T/\a+t=p/\T<=B'.length/\a+T+1<=b/\b<=d.size):=⟨Cg,Ch,hp,HA,hab,bL⟩;clear oL hwr hs1 dg HW pE pF qy qx hr Cg Ch hp HA hab hs EA uh xQ hjb hlt hB eH bL;go_wp2_with fail;clear ru Hw;go_big_region_o;all_goals(
 clear lp lr s1 s2 aE zE mixed Hx Hy p0 r0 er Qt Qu;have ru:p<=3001:=by have:=af bu;omega
 go_wp2;go_roundg (T - (t+1));case measure=>have:=af bu;omega
 case rel =>(obtain⟨Cg,Ch,hp,HA,hab,bL⟩:=af bu;exact⟨t+1,by rw[<- hp];first|rfl|go_num,ae,aT⟩))};{have akM:¬((a+t:Nat):Int)<(a:Int)+T:=ae;obtain rfl:t=T:=ae;obtain⟨p,hp⟩:∃p,a+t=p:=⟨_,rfl⟩;have akN:¬(p:Int)<(a:Int)+t:=ae;rw[hp];clear hp akM;go_wp2_with fail;refine df (v:=.tuple #[]) (by simp[results,Tryz.results232]) rfl ?_;obtain⟨q1,os1,dk1,hwr,hs1,dg⟩:=af HW;exact⟨rfl,q1,os1,dk1,hwr,by rw[dg,af fq];simp⟩})})
end
section
open Go.RowKit Go.Sort Go.Shelf
theorem akO(off k g cap a m b q:Nat)(hk:∀x,(aj.aN x).length=k)(zE:∀w,Sem.run Tryz.prog (Go.sizeOf 47) w=.ok k w)(d dk:Array aj)(os:Array Obj)(X A':List aj)(y:aj)(Z:List aj)(w:World)(hH:HoldsK aj.aN k w g off d)(hg:g<w.heap.size)(hs:dk.size=d.size)(aD:d.size<=3001)
  (hl:dk.toList=X++(A'++y :: Z)) (ea:X.length=a) (em:a+A'.length=m) (eb:m+1=b) (hA:2<=A'.length) (hw:lH bn) (fc:fh bn A') :
  aF 232 #[aU g off d.size cap,aq a,aq m,aq b,.func (.func 103) #[] #[]] (sortWorldK aj.aN k w g off q dk os) fun e w' =>
   e=.returned (.tuple #[])/\∃q' os' d',w'=sortWorldK aj.aN k w g off q' d' os'/\d'.toList=X++(dE bn A' [y]++Z):=by
 have mixed:Tryz.prog.follows Departure.mixedOrders=true:=aK;have aE:=Tryz.isAgg47;have hsz:d.size=X.length+(A'.length+(1+Z.length)):=by rw[<- hs,<- qC,hl];simp;omega
 have hx:dk[m]! = y:=by{have:=Ez (d:=dk) (X:=X++A') (u:=y) (Z:=Z) (by rw[hl];simp);rw[show(X++A').length=m from aX]at this;exact this};have HK:=ag hk;have HH:=ag hH;have HG:=ag hg;have HS:=ag (bQ hsz (bQ hs (bQ hl (bQ ea (bQ hw fc)))));have jg:b<=3001:=ae;have bL:b<=d.size:=ae;have Qq:a<=m:=ae;have eH:m<b:=ae;have Ld:((m:Int) - a == 1)=false:=by rw[gL];omega
 have Cf:((b:Int) - m == 1)=true:=by rw[iv];omega
 clear hk hH hg hsz hl ea hw fc;obtain⟨w0,hw0⟩:=bP (sortWorldK aj.aN k w g off q dk os);rw[<- hw0];have tk:=ag hw0;clear hw0;go_enter Tryz.func232,Tryz.ntmps232;go_wp2_with fail;go_loopg [14,15] (m - a) (fun g1 vi vj wr=>∃(i j:Nat),vi=aq i/\vj=aq j/\a<=i/\i<=j/\j<=m/\j - i<=g1/\Hid (∃q os,wr=sortWorldK aj.aN k w g off q dk os)/\Hid ((i=a\/bn y dk[i - 1]! = false)/\(j=m\/bn y dk[j]! = true)));case atStart=>exact⟨a,m,rfl,rfl,aL _,Qq,aL _,aL _,⟨q,os,tk⟩,.inl rfl,.inl rfl⟩
 case round =>(
 obtain⟨i,j,rfl,rfl,uh,EA,hjb,xQ,uk,cN⟩:=hrel;by_cases hlt:i<j;{
 have zD:(i:Int)<(j:Int):=ae;obtain⟨h,hh⟩:∃h,(i+j)/2=h:=⟨_,rfl⟩;have YZ:((i:Int)+j)/2=(h:Int):=ae;have Y0:i<=h:=ae;have Y1:h<j:=ae;obtain⟨q1,os1,hwr⟩:=af uk;have uG:∀n' os',grow (wr.drewN n') os'=sortWorldK aj.aN k w g off (q1+n') dk (os1++os'):=fun n' os'=>by rw[hwr];exact sortWorldK_grown_c aj.aN k w g off q1 n' dk os1 os'
 have uH:∀n' os',HoldsK aj.aN k (grow (wr.drewN n') os') g off dk:=fun n' os'=>by rw[uG];exact holdsK_sortWorldK_c aj.aN k w g off d dk _ _ (af HH) (af HG) hs
 obtain⟨x,hy⟩:∃x,dk[h]! = x:=⟨_,rfl⟩;have GX:∀n' os',Sem.run Tryz.prog (loadCellsFrom (ar g (off+h*k)) 0 k #[]) (grow (wr.drewN n') os')=.ok (aj.aN x).toArray (grow (wr.drewN n') os'):=fun n' os'=>by rw[<- hy];exact zF (af HK) (uH n' os') h ae
 have la:∀n' os',Sem.run Tryz.prog (loadCellsFrom (ar g (off+m*k)) 0 k #[]) (grow (wr.drewN n') os')=.ok (aj.aN y).toArray (grow (wr.drewN n') os'):=fun n' os'=>by rw[<- hx];exact zF (af HK) (uH n' os') m ae
 have zG:∀W,aF 103 #[.agg (aj.aN y).toArray,.agg (aj.aN x).toArray] W fun e w'=>e=.returned (aq (kD y x))/\∃q os',w'=grow (W.drewN q) os':=fun W=>JG y x W;have uI:=ag zG;have CLS:=ag uG;have Y2:(h:Int)<(d.size:Int):=ae;have akI:(m:Int)<(d.size:Int):=ae;have jw:=ag hy;have akJ:=ag hh;have akK:=ag hx;clear uG uH hwr hh hy zG hx;generalize hcv:kD y x=cv at uI;have zH:=ag hcv;clear hcv;by_cases hlv:cv<0;{
 go_wp2_with fail;go_quiet_grown (first|(go_at_call 103;refine Calls.grown_of (uI _)));go_wp2_with fail;go_roundg (h - i);case measure=>omega
 case rel =>(refine⟨i,h,rfl,by first|rfl|go_num,uh,ae,ae,aL _,⟨_,_,af CLS _ _⟩,cN.1,.inr ?_⟩;show ltOf kD y dk[h]! = true;rw[af jw];unfold ltOf;rw[af zH];exact jY hlv)};{
 have akP:decide (cv<0)=false:=hP hlv;have Qv:=ag hlv;clear hlv;go_wp2_with fail;go_quiet_grown (first|(go_at_call 103;refine Calls.grown_of (uI _)));go_wp2_with fail;go_roundg (j - (h+1));case measure=>omega
 case rel =>(refine⟨h+1,j,by first|rfl|go_num,rfl,ae,ae,hjb,aL _,⟨_,_,af CLS _ _⟩,.inr ?_,cN.2⟩;show ltOf kD y dk[h]! = false;rw[af jw];unfold ltOf;rw[af zH];exact hP (by have:=af Qv;omega))}};{
 have zD:¬(i:Int)<(j:Int):=ae;obtain rfl:i=j:=ae;obtain⟨T,hT⟩:∃T,i=a+T:=⟨i - a,ae⟩;have fq:Hid (dE bn A' [y]=A'.take T++y :: A'.drop T):=by{
 obtain⟨hsz,hs',hl,ea,hw,fc⟩:=af HS;obtain⟨h1,h2⟩:=af cN;have hat:∀t (h:t<A'.length),dk[a+t]! = A'[t]:=fun t h=>by rw[<- ea];exact Le hl h
 rw[Hid];conv=>lhs;rw[<- jH T A']
 refine akE bn hw (by rw[jH];exact fc) (fun x hx=>?_) (fun x hx=>?_);{obtain⟨h0,h3,h4⟩:=Lf ae hx;rcases h1 with h1|h1;{omega};{rw[show i - 1=a+(T - 1)from ae,hat _ h0,h4]at h1;exact h1}};{obtain⟨h0,h4⟩:=Lg hx;rcases h2 with h2|h2;{omega};{rw[hT,hat _ h0,h4]at h2;exact h2}}};have HA:T<=A'.length:=ae;have KX:(i:Int)=(a:Int)+T:=ae;have dJ:=ag (bQ hT KX);have akL:=ag (bQ em eb);have Ew:(i:Int)<=3001:=ae;obtain⟨L,hL⟩:∃L,A'.length=L:=⟨_,rfl⟩;have Lh:a+L=m:=ae;clear hT KX eb cN em;go_wp2_with fail;go_loopg [17] (L - T) (fun g1 Qs wr=>∃(t:Nat),Qs=aq (a+t:Nat)/\T+g1=t/\t<=L/\Hid (∃q os dk1,wr=sortWorldK aj.aN k w g off q dk1 os/\dk1.size=d.size/\dk1.toList=X++(A'.take t++y :: (A'.drop t++Z))));case atStart =>(obtain⟨q1,os1,hwr⟩:=af uk;obtain⟨hsz,hs',hl,ea,hw,fc⟩:=af HS;refine⟨L,by first|(rw[Lh])|go_num,ae,aL _,q1,os1,dk,hwr,hs,?_⟩;rw[<- hL,jV,x_,fF];exact hl)
 case round =>(
 obtain⟨t,rfl,Cg,Qw,HW⟩:=hrel;by_cases Ch:T<t;{
 obtain⟨p,hp⟩:∃p,a+t=p:=⟨_,rfl⟩;rw[hp];have Hw:(i:Int)<(p:Int):=by have:=dJ.2;omega
 have ru:p<=3001:=ae;obtain⟨q1,os1,dk1,hwr,hs1,dg⟩:=af HW;have oL:HoldsK aj.aN k wr.drew g off dk1:=by rw[hwr];exact holdsK_sortWorldK_c aj.aN k w g off d dk1 _ _ (af HH) (af HG) hs1
 obtain⟨r,hr⟩:∃r,r+1=p:=⟨p - 1,ae⟩;have lp:=zF (af HK) oL p ae;have lr:=zF (af HK) oL r ae;obtain⟨s1,s2⟩:=YY (af HK) oL p r ae ae;have aT:Hid (∃q os dk2,((wr.drew.setCells g (off+p*k) (aj.aN dk1[r]!)).setCells g (off+r*k) (aj.aN dk1[p]!))=sortWorldK aj.aN k w g off q dk2 os/\dk2.size=d.size/\dk2.toList=X++(A'.take (t - 1)++y :: (A'.drop (t - 1)++Z))):=by{refine⟨q1+1,os1,swp dk1 p r,?_,by rw[size_swp];exact hs1,?_⟩;{rw[hwr];exact sortWorldK_swp_c aj.aN k w g off (af HK) q1 dk1 os1 (af HG) p r ae ae};{obtain⟨hsz,hs',hl,ea,hw,fc⟩:=af HS;obtain⟨t',rfl⟩:∃t',t=t'+1:=⟨t - 1,ae⟩;have HB:t'<A'.length:=ae;rw[kQ HB]at dg;have hsw:=K_ (d:=dk1) (X:=X++A'.take t') (Y:=[]) (Z:=A'.drop (t'+1)++Z) (u:=A'[t']) (v:=y) (by rw[dg];simp only[g_,dX,fF]);rw[show(X++A'.take t').length=r from aX,show r+1+([]:List aj).length=p from hr]at hsw;rw[YN _ _ _ ae,hsw,SC,nA HB];simp only[g_,dX,fF]}};obtain⟨xr,qy⟩:∃y,dk1[r]! = y:=⟨_,rfl⟩;obtain⟨xp,qx⟩:∃y,dk1[p]! = y:=⟨_,rfl⟩;rw[qy]at lr s1;rw[qx]at lp;rw[qx,qy]at s2 aT;obtain⟨cP,pE⟩:∃c,aj.aN xp=c:=⟨_,rfl⟩;obtain⟨cR,pF⟩:∃c,aj.aN xr=c:=⟨_,rfl⟩;have YR:cP.length=k:=by rw[<- pE];exact HK _
 have YS:cR.length=k:=by rw[<- pF];exact HK _
 rw[pE,pF]at aT s2;rw[pF]at lr s1;rw[pE]at lp;have Qt:(p:Int)<(d.size:Int):=ae;have Qu:(r:Int)<(d.size:Int):=ae;have er:(p:Int) - 1=(r:Int):=ae;have Hx:IntKind.i64.wrap (p:Int)=(p:Int):=by rw[gM];omega
 have Hy:IntKind.i64.wrap (r:Int)=(r:Int):=by rw[gM];omega
 have p0:(0:Int)<=(p:Int):=ae;have r0:(0:Int)<=(r:Int):=ae;have bu:Hid (T+gk=t/\T<t/\a+t=p/\r+1=p/\t<=L/\a+L=m/\m<b/\b<=3001):=⟨Cg,Ch,hp,hr,Qw,Lh,eH,jg⟩;clear oL hwr hs1 dg HW pE pF qy qx hr Cg Ch hp HA hs EA uh xQ hjb hlt hA eH bL hL Lh Qw;go_wp2_with fail;clear ru Hw;go_big_region_o;all_goals(
 clear lp lr s1 s2 aE zE mixed Hx Hy p0 r0 er Qt Qu;have ru:p<=3001:=by have:=af bu;omega
 have xR:1<=p:=by have:=af bu;omega
 go_wp2;go_roundg (t - 1 - T);case measure=>have:=af bu;omega
 case rel =>(obtain⟨Cg,Ch,hp,hr,Qw,Lh,eH,jg⟩:=af bu;exact⟨t - 1,by rw[show a+(t - 1)=p - 1 from ae];first|rfl|go_num,ae,ae,aT⟩))};{
 obtain rfl:t=T:=ae;obtain⟨p,hp⟩:∃p,a+t=p:=⟨_,rfl⟩;have akN:¬(i:Int)<(p:Int):=by have:=dJ.2;omega
 rw[hp];clear hp;go_wp2_with fail;refine df (v:=.tuple #[]) (by simp[results,Tryz.results232]) rfl ?_;obtain⟨q1,os1,dk1,hwr,hs1,dg⟩:=af HW;exact⟨rfl,q1,os1,dk1,hwr,by rw[dg,af fq];simp⟩})})
end
section
open Go.RowKit Go.Sort Go.Shelf
theorem Y3{W:World}{g:Nat}{dk:Array aj}(h:HoldsK aj.aN 4 W g 0 dk){j:Nat}(hj:j<dk.size) :
  W.cell? (ar g (j*4))=some (.string (ah dk[j]!.owner))/\W.cell? (ar g (j*4+1))=some (aq dk[j]!.aV)/\W.cell? (ar g (j*4+2))=some (aq dk[j]!.type)/\W.cell? (ar g (j*4+3))=some (.string (ah dk[j]!.data)):=by have e:∀c (hc:c<4),W.cell? (ar g (j*4+c))=some (aj.aN dk[j]!)[c]!:=fun c hc=>by{have:=(h.cell (i:=j) (c:=c) hj hc).1;rwa [kR]at this};exact⟨e 0 ae,e 1 ae,e 2 ae,e 3 ae⟩
def Qx(g cap:Nat)(d:Array aj)(w:World)(f:Nat):Prop :=
 ∀(a m b q:Nat) (dk:Array aj) (os:Array Obj) (X A' B' Z:List aj),dk.size=d.size->dk.toList=X++(A'++(B'++Z))->X.length=a->a+A'.length=m->m+B'.length=b->0<A'.length->0<B'.length->fh bn A'->fh bn B'->b - a<=f ->
  aF 232 #[aU g 0 d.size cap,aq a,aq m,aq b,.func (.func 103) #[] #[]] (sortWorldK aj.aN 4 w g 0 q dk os) fun e w' =>
   e=.returned (.tuple #[])/\∃q' os' d',w'=sortWorldK aj.aN 4 w g 0 q' d' os'/\d'.toList=X++(dE bn A' B'++Z)
theorem akQ(hw:lH bn){dk:Array aj}{X A' B' Z:List aj}{a m b mid s s0 r0 e2:Nat}(hl:dk.toList=X++(A'++(B'++Z)))(ea:X.length=a)(em:a+A'.length=m)(eb:m+B'.length=b)(hA:fh bn A')(hB:fh bn B')
  (EB:(a+b)/2=mid) (hs0:s0<=s) (jL:s<=r0) (he:e2+s=mid+m) (hbr:(mid<m/\s0+b=mid+m/\r0=mid)\/(m<=mid/\s0=a/\r0=m))
  (h1:s=s0\/bn dk[e2]! dk[s - 1]! = false) (h2:s=r0\/bn dk[e2 - 1]! dk[s]! = true) :
  ∃A1 A2 B1 B2,A'=A1++A2/\B'=B1++B2/\a+A1.length=s/\m+B1.length=e2/\dE bn A' B'=dE bn A1 B1++dE bn A2 B2/\a<=s/\s<=m/\m<=e2/\e2<=b:=by
 have q1:a<=s:=ae;have q2:s<=m:=ae;have q3:m<=e2:=ae;have q4:e2<=b:=ae;have Y4:∀t (h:t<A'.length),dk[a+t]! = A'[t]:=fun t h=>by rw[<- ea];exact Le hl h
 have Y5:∀t (h:t<B'.length),dk[m+t]! = B'[t]:=fun t h=>by{have:=Le (d:=dk) (X:=X++A') (B:=B') (Z:=Z) (by rw[hl];simp) h;rw[show(X++A').length=m from aX]at this;exact this};refine⟨A'.take (s - a),A'.drop (s - a),B'.take (e2 - m),B'.drop (e2 - m),(jH _ _).symm,(jH _ _).symm,aX,aX,?_,q1,q2,q3,q4⟩;conv=>lhs;rw[<- jH (s - a) A',<- jH (e2 - m) B']
 refine akF bn hw (by rw[jH];exact hA) (by rw[jH];exact hB) (fun x y hx hy=>?_) (fun x y hx hy=>?_);{obtain⟨x1,x2,x3⟩:=Lf ae hx;obtain⟨y1,y2⟩:=Lg hy;rcases h1 with h1|h1;{omega};{rw[show s - 1=a+(s - a - 1)from ae,Y4 _ x1,x3,show e2=m+(e2 - m)from ae,Y5 _ y1,y2]at h1;exact h1}};{obtain⟨x1,x2⟩:=Lg hx;obtain⟨y1,y2,y3⟩:=Lf ae hy;rcases h2 with h2|h2;{omega};{rw[show e2 - 1=m+(e2 - m - 1)from ae,Y5 _ y1,y3,show s=a+(s - a)from ae,Y4 _ x1,x2]at h2;exact h2}}
theorem akR(g cap a m b q f:Nat)(d dk:Array aj)(os:Array Obj)(X A' B' Z:List aj)(w:World)(hH:HoldsK aj.aN 4 w g 0 d)(hg:g<w.heap.size)(hs:dk.size=d.size)(aD:d.size<=3001)
  (hl:dk.toList=X++(A'++(B'++Z))) (ea:X.length=a) (em:a+A'.length=m) (eb:m+B'.length=b) (wu:2<=A'.length) (hB2:2<=B'.length) (hw:lH bn) (hA:fh bn A') (hB:fh bn B') (hf:b - a<=f+1) (IH:Qx g cap d w f) :
  aF 232 #[aU g 0 d.size cap,aq a,aq m,aq b,.func (.func 103) #[] #[]] (sortWorldK aj.aN 4 w g 0 q dk os) fun e w' =>
   e=.returned (.tuple #[])/\∃q' os' d',w'=sortWorldK aj.aN 4 w g 0 q' d' os'/\d'.toList=X++(dE bn A' B'++Z):=by
 have mixed:Tryz.prog.follows Departure.mixedOrders=true:=aK;have hsz:d.size=X.length+(A'.length+(B'.length+Z.length)):=by rw[<- hs,<- qC,hl];simp
 obtain⟨mid,EB⟩:∃mid,(a+b)/2=mid:=⟨_,rfl⟩;obtain⟨nn,jc⟩:∃nn,mid+m=nn:=⟨_,rfl⟩;obtain⟨p,hp⟩:∃p,p+1=nn:=⟨nn - 1,ae⟩;obtain⟨s0,r0,hbr⟩:∃s0 r0,(mid<m/\s0+b=mid+m/\r0=mid)\/(m<=mid/\s0=a/\r0=m):=by{by_cases h:mid<m;{exact⟨mid+m - b,mid,.inl ⟨h,ae,rfl⟩⟩};{exact⟨a,m,.inr ⟨ae,rfl,rfl⟩⟩}};have Y6:s0<=r0:=ae;have akS:r0<=m:=ae;have akT:a<=s0:=ae;have iJ:p<s0+b:=ae;have KO:m+r0<=p+1:=ae;have ary:((a:Int)+b)/2=(mid:Int):=ae;have arz:(mid:Int)+m=(nn:Int):=ae;have akA:(nn:Int) - 1=(p:Int):=ae;have jg:b<=3001:=ae;have bL:b<=d.size:=ae;have Qq:a<m:=ae;have eH:m<b:=ae;have arA:a<mid:=ae;have arB:mid<b:=ae;have Ld:((m:Int) - a == 1)=false:=by rw[gL];omega
 have Cf:((b:Int) - m == 1)=false:=by rw[gL];omega
 have arC:nn<=6002:=ae;have PT:p<=6002:=ae;have HH:=ag hH;have HG:=ag hg;have Y7:=ag IH;have HS:Hid (d.size=X.length+(A'.length+(B'.length+Z.length))/\dk.size=d.size/\dk.toList=X++(A'++(B'++Z))/\X.length=a/\a+A'.length=m/\m+B'.length=b/\lH bn/\fh bn A'/\fh bn B'/\(a+b)/2=mid/\mid+m=nn/\p+1=nn/\b - a<=f+1):=⟨hsz,hs,hl,ea,em,eb,hw,hA,hB,EB,jc,hp,hf⟩;have kF:=ag hbr;clear hH hg hsz hl ea em eb hA hB hw EB jc hp wu hB2 IH hf hbr;obtain⟨w0,hw0⟩:=bP (sortWorldK aj.aN 4 w g 0 q dk os);rw[<- hw0];have tk:=ag hw0;clear hw0;go_enter Tryz.func232,Tryz.ntmps232;go_upto_if 140 with fail;go_cut [20,21]from 138 (fun v20 v21 wx=>v20=aq s0/\v21=aq r0/\wx=w0);case first =>(rcases af kF with⟨h1,h2,h3⟩|⟨h1,h2,h3⟩;{have U1:(mid:Int)<(m:Int):=ae;have arD:(nn:Int) - b=(s0:Int):=ae;clear h1 h2;go_wp2_with fail;go_meet;case rel=>exact⟨by first|rfl|go_num,by rw[h3],rfl⟩};{have U1:¬(mid:Int)<(m:Int):=ae;clear h1;go_wp2_with fail;go_meet;case rel=>exact⟨by rw[h2],by rw[h3],rfl⟩})
 case rest =>(
 obtain⟨rfl,rfl,rfl⟩:=hcut;go_wp2_with fail;go_loopg [20,21] (r0 - s0) (fun g1 vi vj wr=>∃(i j:Nat),vi=aq i/\vj=aq j/\s0<=i/\i<=j/\j<=r0/\j - i<=g1/\Hid (∃q os,wr=sortWorldK aj.aN 4 w g 0 q dk os)/\Hid ((i=s0\/bn dk[p - (i - 1)]! dk[i - 1]! = false)/\(j=r0\/bn dk[p - j]! dk[j]! = true)));case atStart=>exact⟨s0,r0,rfl,rfl,aL _,Y6,aL _,aL _,⟨q,os,tk⟩,.inl rfl,.inl rfl⟩
 case round =>(
 obtain⟨i,j,rfl,rfl,uh,EA,hjb,xQ,uk,cN⟩:=hrel;by_cases hlt:i<j;{
 have zD:(i:Int)<(j:Int):=ae;obtain⟨h,hh⟩:∃h,(i+j)/2=h:=⟨_,rfl⟩;have YZ:((i:Int)+j)/2=(h:Int):=ae;have Y0:i<=h:=ae;have Y1:h<j:=ae;obtain⟨t,ht⟩:∃t,t+h=p:=⟨p - h,ae⟩;have YU:(p:Int) - h=(t:Int):=ae;have Cb:t<d.size:=ae;have wT:IntKind.i64.wrap (t:Int)=(t:Int):=by rw[gM];omega
 have arE:IntKind.i64.wrap ((p:Int) - (h:Int))=(t:Int):=by rw[gM];omega
 have Jh:h<=p:=ae;have arF:(t:Int)<(d.size:Int):=ae;obtain⟨q1,os1,hwr⟩:=af uk;have uG:∀n' os',grow (wr.drewN n') os'=sortWorldK aj.aN 4 w g 0 (q1+n') dk (os1++os'):=fun n' os'=>by rw[hwr];exact sortWorldK_grown_c aj.aN 4 w g 0 q1 n' dk os1 os'
 have uH:∀n' os',HoldsK aj.aN 4 (grow (wr.drewN n') os') g 0 dk:=fun n' os'=>by rw[uG];exact holdsK_sortWorldK_c aj.aN 4 w g 0 d dk _ _ (af HH) (af HG) hs
 obtain⟨x,hx⟩:∃x,dk[h]! = x:=⟨_,rfl⟩;obtain⟨y,hy⟩:∃y,dk[t]! = y:=⟨_,rfl⟩;have wB:∀n' os',_:=fun n' os'=>Y3 (uH n' os') (j:=h) ae;have EC:∀n' os',_:=fun n' os'=>Y3 (uH n' os') (j:=t) ae;rw[hx]at wB;rw[hy]at EC;have x0:=fun n' os'=>(wB n' os').1;have x1:=fun n' os'=>(wB n' os').2.1;have x2:=fun n' os'=>(wB n' os').2.2.1;have x3:=fun n' os'=>(wB n' os').2.2.2;have y0:=fun n' os'=>(EC n' os').1;have y1:=fun n' os'=>(EC n' os').2.1;have y2:=fun n' os'=>(EC n' os').2.2.1;have y3:=fun n' os'=>(EC n' os').2.2.2;have zG:∀W,aF 103 #[.agg #[aA y.owner,aq y.aV,aq y.type,aA y.data],.agg #[aA x.owner,aq x.aV,aq x.type,aA x.data]] W fun e w'=>e=.returned (aq (kD y x))/\∃q os',w'=grow (W.drewN q) os':=fun W=>JG y x W;have uI:=ag zG;have CLS:=ag uG;have Y2:(h:Int)<(d.size:Int):=ae;have jw:Hid (dk[h]! = x/\dk[t]! = y/\(i+j)/2=h/\t+h=p):=⟨hx,hy,hh,ht⟩;clear uG uH hwr hh hy zG hx wB EC ht;generalize hcv:kD y x=cv at uI;have zH:=ag hcv;clear hcv;by_cases hlv:cv<0;{
 go_wp2_with fail;go_quiet_grown (first|(go_at_call 103;refine Calls.grown_of (uI _)));go_wp2_with fail;go_roundg (h - i);case measure=>omega
 case rel =>(refine⟨i,h,rfl,by first|rfl|go_num,uh,ae,ae,aL _,⟨_,_,af CLS _ _⟩,cN.1,.inr ?_⟩;show ltOf kD dk[p - h]! dk[h]! = true;obtain⟨e1,e2,e3,e4⟩:=af jw;rw[show p - h=t from ae,e1,e2];unfold ltOf;rw[af zH];exact jY hlv)};{
 have akP:decide (cv<0)=false:=hP hlv;have Qv:Hid (¬cv<0):=hlv;clear hlv;go_wp2_with fail;go_quiet_grown (first|(go_at_call 103;refine Calls.grown_of (uI _)));go_wp2_with fail;go_roundg (j - (h+1));case measure=>omega
 case rel =>(refine⟨h+1,j,by first|rfl|go_num,rfl,ae,ae,hjb,aL _,⟨_,_,af CLS _ _⟩,.inr ?_,cN.2⟩;show ltOf kD dk[p - h]! dk[h]! = false;obtain⟨e1,e2,e3,e4⟩:=af jw;rw[show p - h=t from ae,e1,e2];unfold ltOf;rw[af zH];exact hP (by have:=af Qv;omega))}};{
 have zD:¬(i:Int)<(j:Int):=ae;obtain rfl:i=j:=ae;obtain⟨e2,Y8⟩:∃e2,e2+i=nn:=⟨nn - i,ae⟩;have arG:(nn:Int) - i=(e2:Int):=ae;have ia:=by{obtain⟨hsz,hs',hl,ea,em,eb,hw,hA,hB,EB,jc,hp,hf⟩:=af HS;obtain⟨h1,h2⟩:=af cN;have h1':i=s0\/bn dk[e2]! dk[i - 1]! = false:=by{rcases h1 with h|h;{exact .inl h};{by_cases Hz:i=0;{exact .inl ae};{right;rw[show e2=p - (i - 1)from ae];exact h}}};exact ag (akQ hw (s:=i) (s0:=s0) (r0:=r0) (e2:=e2) hl ea em eb hA hB EB uh hjb ae (af kF) h1' (h2.imp id fun h=>by rw[show e2 - 1=p - i from ae];exact h))};obtain⟨A1,A2,B1,B2,v1,v2,v3,v4,v5,v6,v7,v8,v9⟩:=af ia;have fH:Hid (∃q os d1,wr=sortWorldK aj.aN 4 w g 0 q d1 os/\d1.size=d.size/\d1.toList=X++(A1++(A2++(B1++(B2++Z))))):=by{obtain⟨hsz,hs',hl,_⟩:=af HS;obtain⟨q1,os1,hwr⟩:=af uk;exact⟨q1,os1,dk,hwr,hs,by rw[hl,v1,v2];simp⟩};have Ci:Hid (fh bn A1/\fh bn A2/\fh bn B1/\fh bn B2/\X.length=a/\a+A1.length=i/\i+A2.length=m/\m+B1.length=e2/\e2+B2.length=b/\a+A1.length+B1.length=mid/\b - a<=f+1/\dE bn A' B'=dE bn A1 B1++dE bn A2 B2):=by{obtain⟨hsz,hs',hl,ea,em,eb,hw,hA,hB,EB,jc,hp,hf⟩:=af HS;rw[v1]at hA em;rw[v2]at hB eb;rw[bU]at em eb;exact⟨(om.1 hA).1,(om.1 hA).2.1,(om.1 hB).1,(om.1 hB).2.1,ea,v3,ae,v4,ae,ae,hf,v5⟩};have lj:Hid (e2+i=nn):=Y8;clear v1 v2 v3 v4 v5 ia cN uh EA hjb xQ Y8 uk hs iJ KO akT Y6 akS;obtain⟨Qy,Y9⟩:∃c:Bool,c=decide (i<m/\m<e2):=⟨_,rfl⟩;have HE:=ag Y9;clear Y9;go_upto_region 39 with fail;go_cut [185]from 178 (fun v wx=>v=.bool Qy/\wx=wr);case first =>(by_cases az:i<m;{have HF:(i:Int)<(m:Int):=ae;by_cases c2:m<e2;{have HI:(m:Int)<(e2:Int):=ae;go_wp2_with fail;go_meet;case rel=>exact⟨ek Value.bool (HE.trans (jY (bQ az c2))).symm,rfl⟩};{have HI:¬(m:Int)<(e2:Int):=ae;go_wp2_with fail;go_meet;case rel=>exact⟨ek Value.bool (HE.trans (hP (fun h=>c2 h.2))).symm,rfl⟩}};{have HF:¬(i:Int)<(m:Int):=ae;go_wp2_with fail;go_meet;case rel=>exact⟨ek Value.bool (HE.trans (hP (fun h=>az h.1))).symm,rfl⟩})
 case rest =>(
 obtain⟨rfl,rfl⟩:=hcut;go_upto_if 185 with fail;go_cut [24]from 178 (fun v24 wx=>v24=aq e2/\Hid (∃q os d1,wx=sortWorldK aj.aN 4 w g 0 q d1 os/\d1.size=d.size/\d1.toList=X++(A1++(B1++(A2++(B2++Z))))));case first =>(obtain⟨q1,os1,d1,hwr,hs1,dg⟩:=af fH;by_cases hc:i<m/\m<e2;{obtain rfl:Qy=true:=HE.trans (jY hc);have Y_:=by{obtain⟨_,_,_,_,ea,h1,h2,h3,h4,h5,hf,_⟩:=af Ci;exact ag (aky g cap i m e2 q1 d d1 os1 (X++A1) A2 B1 (B2++Z) w (af HH) (af HG) hs1 aD (by rw[dg];simp) aX h2 h3 ae ae)};rw[<- hwr]at Y_;clear hwr hs1 dg hc;go_wp2_with fail;refine Y_.mono ?_;rintro e wn ⟨rfl,q2,d2,hw2,hl2⟩;have dv:Hid (∃q os d1,wn=sortWorldK aj.aN 4 w g 0 q d1 os/\d1.size=d.size/\d1.toList=X++(A1++(B1++(A2++(B2++Z))))):=by{refine⟨q2,os1,d2,hw2,?_,by rw[hl2];simp⟩;obtain⟨q1,os1,d1,hwr,hs1,dg⟩:=af fH;rw[<- hs1,<- qC,<- qC,dg,hl2];simp;omega};clear hw2 hl2;go_wp2_with fail;go_meet;case rel=>exact⟨rfl,dv⟩};{obtain rfl:Qy=false:=HE.trans (hP hc);have dv:Hid (∃q os d1,wc=sortWorldK aj.aN 4 w g 0 q d1 os/\d1.size=d.size/\d1.toList=X++(A1++(B1++(A2++(B2++Z))))):=by{refine⟨q1,os1,d1,hwr,hs1,?_⟩;obtain⟨_,_,_,_,ea,h1,h2,h3,h4,h5,hf,_⟩:=af Ci;rw[dg];by_cases au:i<m;{have:B1 = []:=n9.1 ae;rw[this];simp};{have:A2 = []:=n9.1 ae;rw[this];simp}};clear hwr hs1 dg hc;go_wp2_with fail;go_meet;case rel=>exact⟨rfl,dv⟩})
 case rest =>(
 obtain⟨rfl,nN⟩:=hcut;obtain⟨wa,Za⟩:∃wa,wc=wa:=⟨_,rfl⟩;rw[Za]at nN ⊢;clear Za fH;obtain⟨Qz,Zb⟩:∃c:Bool,c=decide (a<i/\i<mid):=⟨_,rfl⟩;have HJ:=ag Zb;clear Zb;go_upto_region 41 with fail;go_cut [199]from 192 (fun v wx=>v=.bool Qz/\wx=wa);case first =>(by_cases az:a<i;{have HF:(a:Int)<(i:Int):=ae;by_cases c2:i<mid;{have HI:(i:Int)<(mid:Int):=ae;go_wp2_with fail;go_meet;case rel=>exact⟨ek Value.bool (HJ.trans (jY (bQ az c2))).symm,rfl⟩};{have HI:¬(i:Int)<(mid:Int):=ae;go_wp2_with fail;go_meet;case rel=>exact⟨ek Value.bool (HJ.trans (hP (fun h=>c2 h.2))).symm,rfl⟩}};{have HF:¬(a:Int)<(i:Int):=ae;go_wp2_with fail;go_meet;case rel=>exact⟨ek Value.bool (HJ.trans (hP (fun h=>az h.1))).symm,rfl⟩})
 case rest =>(
 obtain⟨rfl,rfl⟩:=hcut;go_upto_if 199 with fail;go_cut [24]from 192 (fun v24 wx=>v24=aq e2/\Hid (∃q os d1,wx=sortWorldK aj.aN 4 w g 0 q d1 os/\d1.size=d.size/\d1.toList=X++(dE bn A1 B1++(A2++(B2++Z)))));case first =>(obtain⟨q1,os1,d1,hwr,hs1,dg⟩:=af nN;by_cases hc:a<i/\i<mid;{obtain rfl:Qz=true:=HJ.trans (jY hc);have BX:=by{obtain⟨akU,_,akV,_,ea,h1,h2,h3,h4,h5,hf,_⟩:=af Ci;exact ag (Y7 a i mid q1 d1 os1 X A1 B1 (A2++(B2++Z)) hs1 dg ea h1 ae ae ae akU akV ae)};rw[<- hwr]at BX;clear hwr hs1 dg hc;go_wp2_with fail;refine BX.mono ?_;rintro e wn ⟨rfl,q2,os2,d2,hw2,hl2⟩;have dv:Hid (∃q os d1,wn=sortWorldK aj.aN 4 w g 0 q d1 os/\d1.size=d.size/\d1.toList=X++(dE bn A1 B1++(A2++(B2++Z)))):=by{refine⟨q2,os2,d2,hw2,?_,hl2⟩;obtain⟨q1,os1,d1,hwr,hs1,dg⟩:=af nN;rw[<- hs1,<- qC,<- qC,dg,hl2];simp[Hs];omega};clear hw2 hl2;go_wp2_with fail;go_meet;case rel=>exact⟨rfl,dv⟩};{obtain rfl:Qz=false:=HJ.trans (hP hc);have dv:Hid (∃q os d1,wc=sortWorldK aj.aN 4 w g 0 q d1 os/\d1.size=d.size/\d1.toList=X++(dE bn A1 B1++(A2++(B2++Z)))):=by{refine⟨q1,os1,d1,hwr,hs1,?_⟩;obtain⟨_,_,_,_,ea,h1,h2,h3,h4,h5,hf,_⟩:=af Ci;rw[dg];by_cases au:a<i;{have:B1 = []:=n9.1 ae;rw[this];simp};{have:A1 = []:=n9.1 ae;rw[this];simp}};clear hwr hs1 dg hc;go_wp2_with fail;go_meet;case rel=>exact⟨rfl,dv⟩})
 case rest =>(
 obtain⟨rfl,A4⟩:=hcut;obtain⟨wb,ED⟩:∃wb,wc=wb:=⟨_,rfl⟩;rw[ED]at A4 ⊢;clear ED nN;obtain⟨QA,Zc⟩:∃c:Bool,c=decide (mid<e2/\e2<b):=⟨_,rfl⟩;have HL:=ag Zc;clear Zc;go_upto_region 43 with fail;go_cut [213]from 206 (fun v wx=>v=.bool QA/\wx=wb);case first =>(by_cases az:mid<e2;{have HF:(mid:Int)<(e2:Int):=ae;by_cases c2:e2<b;{have HI:(e2:Int)<(b:Int):=ae;go_wp2_with fail;go_meet;case rel=>exact⟨ek Value.bool (HL.trans (jY (bQ az c2))).symm,rfl⟩};{have HI:¬(e2:Int)<(b:Int):=ae;go_wp2_with fail;go_meet;case rel=>exact⟨ek Value.bool (HL.trans (hP (fun h=>c2 h.2))).symm,rfl⟩}};{have HF:¬(mid:Int)<(e2:Int):=ae;go_wp2_with fail;go_meet;case rel=>exact⟨ek Value.bool (HL.trans (hP (fun h=>az h.1))).symm,rfl⟩})
 case rest =>(obtain⟨rfl,rfl⟩:=hcut;obtain⟨q1,os1,d1,hwr,hs1,dg⟩:=af A4;by_cases hc:mid<e2/\e2<b;{obtain rfl:QA=true:=HL.trans (jY hc);have BX:=by{obtain⟨_,akW,_,sB2,ea,h1,h2,h3,h4,h5,hf,_⟩:=af Ci;exact ag (Y7 mid e2 b q1 d1 os1 (X++dE bn A1 B1) A2 B2 Z hs1 (by rw[dg];simp) (by simp[Hs];omega) ae h4 ae ae akW sB2 ae)};rw[<- hwr]at BX;clear hwr hs1 dg hc;go_wp2_with fail;refine BX.mono ?_;rintro e wn ⟨rfl,q2,os2,d2,hw2,hl2⟩;have dv:Hid (∃q' os' d',wn=sortWorldK aj.aN 4 w g 0 q' d' os'/\d'.toList=X++(dE bn A' B'++Z)):=by{obtain⟨_,_,_,_,_,_,_,_,_,_,_,aJ⟩:=af Ci;exact⟨q2,os2,d2,hw2,by rw[hl2,aJ];simp⟩};clear hw2 hl2;go_wp2_with fail;go_end0;exact⟨rfl,dv⟩};{obtain rfl:QA=false:=HL.trans (hP hc);have dv:Hid (∃q' os' d',wc=sortWorldK aj.aN 4 w g 0 q' d' os'/\d'.toList=X++(dE bn A' B'++Z)):=by{obtain⟨_,_,_,_,ea,h1,h2,h3,h4,h5,hf,aJ⟩:=af Ci;refine⟨q1,os1,d1,hwr,?_⟩;rw[dg,aJ];by_cases au:mid<e2;{have:B2 = []:=n9.1 ae;rw[this];simp};{have:A2 = []:=n9.1 ae;rw[this];simp}};clear hwr hs1 dg hc;go_wp2_with fail;go_end0;exact⟨rfl,dv⟩})))))}))
end
section
open Go.RowKit Go.Sort Go.Shelf
section
variable {α:Type} (lt:α->α->Bool)
def fC(s:Nat)(l:List α):List α:=if l.length<=s\/s=0 then gJ lt l else gJ lt (l.take s)++fC s (l.drop s)
termination_by l.length
decreasing_by simp;omega
theorem wC{s:Nat}{l:List α}(h:l.length<=s):fC lt s l=gJ lt l:=by rw[fC,aP (.inl h)]
theorem zI(s:Nat):fC lt s ([]:List α) = []:=by rw[wC lt ak];rfl
theorem Zd(s:Nat):∀(f:Nat) (l:List α),l.length<=f->(fC lt s l).length=l.length
 | 0,l,h=>by obtain rfl:l = []:=n9.1 ae;rw[zI]
 | f+1,l,h=>by rw[fC];split;{exact Ht lt l};{rw[bU,Ht,Zd s f _ aX];simp;omega}
theorem EE{s:Nat}(hs:0<s)(c:List α):∀(t:Nat) (l:List α),l.length=s*t->fC lt s (l++c)=fC lt s l++fC lt s c
 | 0,l,h=>by obtain rfl:l = []:=n9.1 ae;rw[zI];rfl
 | t+1,l,h=>by
  have hl:s<=l.length:=by rw[h,MK];omega
  have ih:=EE hs c t (l.drop s) (by rw[iW,h,MK];omega);have e1:fC lt s l=gJ lt (l.take s)++fC lt s (l.drop s):=by{by_cases jR:l.length<=s;{rw[wC lt jR,z8 jR,pJ jR,zI,jt]};{conv=>lhs;rw[fC,aG ae]}};by_cases hlc:(l++c).length<=s;{have hc:c = []:=n9.1 (by rw[bU]at hlc;omega);subst hc;rw[zI,jt,jt]};{
  conv=>lhs;rw[fC,aG ae]
  rw[List.take_append_of_le_length hl,Mt hl,ih,e1,g_]}
theorem akX{s:Nat}(hs:0<s){C1 C2 R:List α}(h1:C1.length=s):fC lt s (C1++(C2++R))=gJ lt C1++fC lt s (C2++R):=by rw[EE lt hs _ 1 C1 ae,wC lt ae]
end
theorem Li:∀x,Op.bytesLess x x=false
 | []=>rfl
 | a :: x=>by rw[Op.bytesLess,Li x];simp[UInt8.lt_irrefl]
theorem QB:∀x y z,Op.bytesLess x y=true->Op.bytesLess y z=true->Op.bytesLess x z=true
 | _,_,[],_,h=>by cases ‹List UInt8› <;> simp[Op.bytesLess]at h
 | _,[],_ :: _,h,_=>by cases ‹List UInt8› <;> simp[Op.bytesLess]at h
 | [],_ :: _,_ :: _,_,_=>rfl
 | a :: x,b :: y,c :: z,h,k=>by simp only[Op.bytesLess,CE,fo,Af,iv]at h k ⊢;rcases h with h|⟨rfl,h⟩;{rcases k with k|⟨rfl,k⟩;{exact .inl (UInt8.lt_trans h k)};{exact .inl h}};{rcases k with k|⟨rfl,k⟩;{exact .inl k};{exact .inr ⟨rfl,QB _ _ _ h k⟩}}
theorem QC:∀x y,Op.bytesLess x y=false->Op.bytesLess y x=false->x=y
 | [],[],_,_=>rfl
 | [],_ :: _,h,_=>by simp[Op.bytesLess]at h
 | _ :: _,[],_,h=>by simp[Op.bytesLess]at h
 | a :: x,b :: y,h,k=>by simp only[Op.bytesLess,Ir,E6,SJ,gL]at h k;have hab:a=b:=by{have h1:=h.1;have h2:=k.1;rw[UInt8.not_lt]at h1 h2;exact UInt8.le_antisymm h2 h1};subst hab;have h1:Op.bytesLess x y=false:=h.2.elim (fun e=>absurd rfl e) id;have h2:Op.bytesLess y x=false:=k.2.elim (fun e=>absurd rfl e) id;rw[QC x y h1 h2]
theorem Cj(r s:aj):bn r s=true ↔ (Op.bytesLess r.owner s.owner=true\/(r.owner=s.owner/\r.type<s.type)):=by
 unfold bn ltOf kD Dn A0 Lib.compareInt;rw[SK];cases hb:Op.bytesLess r.owner s.owner;{
 by_cases he:r.owner=s.owner;{
 have he':(r.owner == s.owner)=true:=by simpa using he
 simp only[he',zT,Ag,pM];by_cases h1:r.type<s.type;{simp[h1,he]};{by_cases h2:r.type > s.type;{simp[h1,h2]};{simp[h1,h2]}}};{
 have he':(r.owner == s.owner)=false:=by simpa using he
 simp[he',he]}};{simp}
theorem wD:lH bn:=by
 refine⟨fun x y z h k=>?_,fun x y z h k=>?_⟩;{rw[Cj]at *;rcases h with h|⟨h1,h2⟩;{rcases k with k|⟨k1,k2⟩;{exact .inl (QB _ _ _ h k)};{exact .inl (k1 ▸ h)}};{rcases k with k|⟨k1,k2⟩;{exact .inl (h1 ▸ k)};{exact .inr ⟨h1.trans k1,Int.lt_trans h2 k2⟩}}};{
 have nf:∀a b:aj,bn a b=false->Op.bytesLess a.owner b.owner=false/\(a.owner=b.owner->¬a.type<b.type):=fun a b e=>by{
 have hn:¬bn a b=true:=by rw[e];decide
 rw[Cj]at hn;refine⟨?_,fun e1 e2=>hn (.inr ⟨e1,e2⟩)⟩;cases e':Op.bytesLess a.owner b.owner;{rfl};{exact absurd (.inl e') hn}};obtain⟨h1,h2⟩:=nf _ _ h;obtain⟨k1,k2⟩:=nf _ _ k;cases e:bn x z;{rfl};{exfalso;rw[Cj]at e;cases Dq:Op.bytesLess y.owner x.owner;{have exy:=QC _ _ h1 Dq;rcases e with e|⟨e1,e2⟩;{rw[exy,k1]at e;cases e};{have:=h2 exy;have:=k2 (exy ▸ e1);omega}};{rcases e with e|⟨e1,e2⟩;{have:=QB _ _ _ Dq e;rw[k1]at this;cases this};{rw[e1]at Dq;rw[k1]at Dq;cases Dq}}}}
theorem EF(x:aj):bn x x=false:=by cases e:bn x x;{rfl};{rw[Cj]at e;rcases e with e|⟨_,e⟩;{rw[Li]at e;cases e};{omega}}
theorem Ze(g cap:Nat)(d:Array aj)(w:World)(hH:HoldsK aj.aN 4 w g 0 d)(hg:g<w.heap.size)(aD:d.size<=3001):∀f,Qx g cap d w f
 | 0=>fun a m b q dk os X A' B' Z hs hl ea em eb hA hB sA sB hf=>by omega
 | f+1=>fun a m b q dk os X A' B' Z hs hl ea em eb hA hB sA sB hf=>by have IH:=Ze g cap d w hH hg aD f;by_cases h1:A'.length=1;{obtain⟨x,rfl⟩:=IG.1 h1;exact akH 0 4 g cap a m b q (fun _=>rfl) Tryz.sizeOf47 d dk os X x B' Z w hH hg hs aD (by rw[hl];simp) ea em eb hB wD sB};{by_cases h2:B'.length=1;{obtain⟨y,rfl⟩:=IG.1 h2;exact akO 0 4 g cap a m b q (fun _=>rfl) Tryz.sizeOf47 d dk os X A' y Z w hH hg hs aD (by rw[hl];simp) ea em eb ae wD sA};{exact akR g cap a m b q f d dk os X A' B' Z w hH hg hs aD hl ea em eb ae ae wD sA sB hf IH}}
theorem akY(g cap a b q:Nat)(d dk:Array aj)(os:Array Obj)(w:World)(hH:HoldsK aj.aN 4 w g 0 d)(hg:g<w.heap.size)(hs:dk.size=d.size)(aD:d.size<=3001)(hab:a<=b)(hb:b<=d.size) :
  aF 231 #[aU g 0 d.size cap,aq a,aq b,.func (.func 103) #[] #[]] (sortWorldK aj.aN 4 w g 0 q dk os) fun e w' =>
   e=.returned (.tuple #[])/\∃q' os',w'=sortWorldK aj.aN 4 w g 0 q' (Sort.insertionSort bn dk a b) os':=by have Qp:=holdsK_sortWorldK_c aj.aN 4 w g 0 d dk q os hH hg hs;have h:=AnyQ.insertionSortCmpFunc Tryz.acR 4 Tryz.isAgg47 Tryz.sizeOf47 aj.aN (fun _=>rfl) Hv kD 103 #[] g 0 cap a b dk (sortWorldK aj.aN 4 w g 0 q dk os) (enters_of Tryz.func103 aK rfl) (aeW _ _ _ _) Qp (eQ hg (size_sortWorldK_c aj.aN 4 w g 0 q dk os)) hab ae ae;rw[hs]at h;refine Calls.mono h ?_;rintro e w' ⟨rfl,q',os',rfl⟩;exact⟨rfl,_,_,YT w g q q' dk (Sort.insertionSort bn dk a b) os os' hg (JI _ _ _ _)⟩
end
end Go.Proofs.YtkkpahmoljiepaaGreatDoor
