import Derived.Test.YtkkpahmoljiepaaGreatDoorJ16
set_option maxRecDepth 1000000
set_option maxHeartbeats 12800000
set_option linter.unusedSimpArgs false
set_option linter.unusedVariables false
namespace Go.Proofs.YtkkpahmoljiepaaGreatDoor
open Go.RowKit Go.Proofs.Tryz
section
open Go.RowKit Go.Sort Go.Shelf
abbrev bF:aj->aj->Bool:=ltOf gH
section
variable {off k g:Nat} {dk:Array aj} {W:World}
theorem pd(b:∀e,(aj.aX e).length=k)(c:HoldsK aj.aX k W g off dk)(a:Nat)(d:a<dk.size):Sem.run prog (loadCellsFrom (aq g (off+a*k)) 0 k #[]) W=.ok (aj.aX dk[a]!).toArray W :=
 run_loadCellsFrom_list _ _ _ _ k (b _) (HoldsK.cells c b d)
theorem Bj(a:Nat)(b:a<dk.size):a*k+k<=dk.size*k:=by have:=pz k (show a+1<=dk.size from b);rwa [rk,vR]at this
theorem JV(c:∀i,(aj.aX i).length=k)(d:HoldsK aj.aX k W g off dk)(a b:Nat)(e:a<dk.size)(h:b<dk.size):Sem.run prog (storeCells (aq g (off+a*k)) (aj.aX dk[b]!) 0) W=.ok () (W.setCells g (off+a*k) (aj.aX dk[b]!))/\Sem.run prog (storeCells (aq g (off+b*k)) (aj.aX dk[a]!) 0) (W.setCells g (off+a*k) (aj.aX dk[b]!))=.ok () ((W.setCells g (off+a*k) (aj.aX dk[b]!)).setCells g (off+b*k) (aj.aX dk[a]!)) :=
 ⟨stores_of_holds _ d (a*k) _ (by rw[c,size_flatK];exact Bj a e) (tM _),
  stores_of_holds _ (holds_setCells_c d (a*k) _ (by rw[c,size_flatK];exact Bj a e)) (b*k) _ (by rw[c,size_setMany,size_flatK];exact Bj b h) (tM _)⟩
end
theorem ES{P:Prop}(h:P:=by rw[<- hy];exact pd (ag HK) (z8 n' os') h ae):P:=h
theorem B9{P:Prop}(h:P:=by unfold ltOf;rw[ag Fk];exact eC hlv):P:=h
theorem EA{P:Prop}(h:P:=by rcases h2 with h2|h2;{omega};{rw[hT,hat _ h0,h4]at h2;exact h2}):P:=h
theorem E6{P:Prop}(h:P:=by rw[hwr];exact sortWorldK_grown_c aj.aX k w g off q1 n' dk os1 os'):P:=h
theorem FU{P:Prop}(h:P:=by rw[hwr];exact sortWorldK_swp_c aj.aX k w g off (ag HK) q1 dk1 os1 (ag HG) p r ae ae):P:=h
theorem EN{P:Prop}(h:P:=by rw[zZ];exact holdsK_sortWorldK_c aj.aX k w g off d dk _ _ (ag HH) (ag HG) hs):P:=h
theorem FP{P:Prop}(h:P:=by rw[hwr];exact holdsK_sortWorldK_c aj.aX k w g off d dk1 _ _ (ag HH) (ag HG) hs1):P:=h
theorem ER{P:Prop}(h:P:=by go_wp2_with fail;refine cc (v:=.tuple #[]) (by simp[results,results232]) rfl ?_;obtain⟨q1,os1,dk1,hwr,hs1,ee⟩:=ag HW;exact⟨rfl,q1,os1,dk1,hwr,by rw[ee,ag gQ];simp⟩):P:=h
theorem jV{P:Prop}(h:P:=by first|rfl|go_num):P:=h
theorem TP(off k g a1 j m o q:Nat)(aD:∀e,(aj.aX e).length=k)(bi:∀w,Sem.run prog (Go.sizeOf 47) w=.ok k w)(d dk:Array aj)(t:Array Obj)(X:List aj)(e:aj)(b Z:List aj)(w:World)(av:HoldsK aj.aX k w g off d)(ax:g<w.heap.size)(hs:dk.size=d.size)(bp:d.size<=3001)(hl:dk.toList=X++e::(b++Z)) (y:X.length=j) (au:j+1=m) (ar:m+b.length=o) (a5:0<b.length) (A:oP bF) (z:gD bF b):az 232 #[aF g off d.size a1,ak j,ak m,ak o,.func (.func 103) #[] #[]] (sortWorldK aj.aX k w g off q dk t) fun Q ai=>Q=.returned (.tuple #[])/\∃ba os' ap,ai=sortWorldK aj.aX k w g off ba ap os'/\ap.toList=X++(bA bF [e] b++Z):=by
 have a8:prog.follows Departure.mixedOrders=true:=aB;have aT:=Tryz.isAgg47;have C:d.size=X.length+(1+(b.length+Z.length)):=by rw[<- hs,<- kf,hl];simp;omega
 have U:dk[j]! = e:=by rw[<- y];exact rx hl
 have HK:=af aD;have HH:=af av;have HG:=af ax;have J:=af (aQ C (aQ hs (aQ hl (aQ y (aQ A z)))));have bE:o<=3001:=ae;have O:o<=d.size:=ae;have aM:m<=o:=ae;have bn:((m:Int)-j==1)=true:=ni
 clear aD av ax C hl y A z;obtain⟨bH,T⟩:=a2 (sortWorldK aj.aX k w g off q dk t);rw[<- T];have bh:=af T;clear T;go_enter func232,ntmps232;go_wp2_with fail;go_loopg [10,11] (o-m) (fun R bd be wr=>∃(c l:Nat),bd=ak c/\be=ak l/\m<=c/\c<=l/\l<=o/\l-c<=R/\Hid (∃q t,wr=sortWorldK aj.aX k w g off q dk t)/\Hid ((c=m\/bF dk[c-1]! e=true)/\(l=o\/bF dk[l]! e=false)));case atStart=>exact⟨m,o,rfl,rfl,bb _,aM,bb _,bb _,⟨q,t,bh⟩,.inl rfl,.inl rfl⟩
 case round =>(
 obtain⟨c,l,rfl,rfl,aK,aN,aC,aS,aL,D⟩:=hrel;by_cases a7:c<l;{
 have aO:(c:Int)<(l:Int):=ae;obtain⟨h,ay⟩:∃h,(c+l)/2=h:=⟨_,rfl⟩;have bs:((c:Int)+l)/2=(h:Int):=ae;have bt:c<=h:=ae;have bu:h<l:=ae;obtain⟨q1,os1,hwr⟩:=ag aL;have zZ:∀n' os',grow (wr.drewN n') os'=sortWorldK aj.aX k w g off (q1+n') dk (os1++os'):=fun n' os'=>E6
 have z8:∀n' os',HoldsK aj.aX k (grow (wr.drewN n') os') g off dk:=fun n' os'=>EN
 obtain⟨n,hy⟩:∃n,dk[h]! = n:=⟨_,rfl⟩;have bo:∀n' os',Sem.run prog (loadCellsFrom (aq g (off+h*k)) 0 k #[]) (grow (wr.drewN n') os')=.ok (aj.aX n).toArray (grow (wr.drewN n') os'):=fun n' os'=>ES
 have bG:∀n' os',Sem.run prog (loadCellsFrom (aq g (off+j*k)) 0 k #[]) (grow (wr.drewN n') os')=.ok (aj.aX e).toArray (grow (wr.drewN n') os'):=fun n' os'=>by rw[<- U];exact pd (ag HK) (z8 n' os') j ae
 have an:∀W,az 103 #[.agg (aj.aX n).toArray,.agg (aj.aX e).toArray] W fun Q ai=>Q=.returned (ak (gH n e))/\∃q os',ai=grow (W.drewN q) os':=fun W=>wj n e W;have al:=af an;have am:=af zZ;have bv:(h:Int)<(d.size:Int):=ae;have bw:(j:Int)<(d.size:Int):=ae;have aI:=af hy;have bx:=af ay;have bj:=af U;clear zZ z8 hwr ay hy an U;generalize aw:gH n e=a3 at al;have Fk:=af aw;clear aw;by_cases hlv:a3<0;{
 go_wp2_with fail;go_quiet_grown (first|(go_at_call 103;refine Calls.grown_of (al _)));go_wp2_with fail;go_roundg (l-(h+1));case measure=>omega
 case rel =>(refine⟨h+1,l,jV,rfl,ae,ae,aC,bb _,⟨_,_,ag am _ _⟩,.inr ?_,D.2⟩;show ltOf gH dk[h]! e=true;rw[ag aI];exact B9)};{
 go_wp2_with fail;go_quiet_grown (first|(go_at_call 103;refine Calls.grown_of (al _)));go_wp2_with fail;go_roundg (h-c);case measure=>omega
 case rel =>(refine⟨c,h,rfl,jV,aK,ae,ae,bb _,⟨_,_,ag am _ _⟩,D.1,.inr ?_⟩;show ltOf gH dk[h]! e=false;rw[ag aI];unfold ltOf;rw[ag Fk];exact eD ae)}};{
 have aO:¬(c:Int)<(l:Int):=ae;obtain rfl:c=l:=ae;obtain⟨i,hT⟩:∃i,c=m+i:=⟨c-m,ae⟩;have gQ:Hid (bA bF [e] b=b.take i++e::b.drop i):=by{
 obtain⟨C,aG,hl,y,A,z⟩:=ag J;obtain⟨B,h2⟩:=ag D;have a6:dk.toList=(X++[e])++(b++Z):=by rw[hl];simp
 have aP:(X++[e]).length=m:=aA;have hat:∀a (h:a<b.length),dk[m+a]! = b[a]:=fun a h=>by rw[<- aP];exact wY a6 h
 rw[Hid];conv=>lhs;rw[<- ft i b]
 refine Uf bF A (by rw[ft];exact z) (fun n hy=>?_) (fun n hy=>?_);{obtain⟨h0,bD,h4⟩:=wZ ae hy;rcases B with B|B;{omega};{rw[show c-1=m+(i-1)from ae,hat _ h0,h4]at B;exact B}};{obtain⟨h0,h4⟩:=w_ hy;exact EA}};have K:i<=b.length:=ae;have bm:(c:Int)-1=(j:Int)+i:=ae;have bC:=af hT;have bz:=af (aQ au ar);have S:j+i+1<=o:=ae;have bk:(c:Int)<=3001:=ae;have bl:(1:Int)<=(c:Int):=ae;clear hT au ar D;go_wp2_with fail;go_loopg [13] i (fun R a_ wr=>∃(a:Nat),a_=ak (j+a:Nat)/\a+R=i/\Hid (∃q t dk1,wr=sortWorldK aj.aX k w g off q dk1 t/\dk1.size=d.size/\dk1.toList=X++(b.take a++e::(b.drop a++Z))));case atStart =>(obtain⟨q1,os1,hwr⟩:=ag aL;obtain⟨C,aG,hl,y,A,z⟩:=ag J;exact⟨0,rfl,ae,q1,os1,dk,hwr,hs,uG⟩)
 case round =>(
 obtain⟨a,rfl,H,HW⟩:=hrel;by_cases I:a<i;{
 obtain⟨p,x⟩:∃p,j+a=p:=⟨_,rfl⟩;rw[x];have aR:(p:Int)<(j:Int)+i:=ae;have aJ:p<=3001:=ae;obtain⟨q1,os1,dk1,hwr,hs1,ee⟩:=ag HW;have E:HoldsK aj.aX k wr.drew g off dk1:=FP
 have V:=pd (ag HK) E p ae;obtain⟨r,aE⟩:∃r,p+1=r:=⟨_,rfl⟩;have aa:=pd (ag HK) E r ae;obtain⟨ab,ac⟩:=JV (ag HK) E p r ae ae;have L:Hid (∃q t P,((wr.drew.setCells g (off+p*k) (aj.aX dk1[r]!)).setCells g (off+r*k) (aj.aX dk1[p]!))=sortWorldK aj.aX k w g off q P t/\P.size=d.size/\P.toList=X++(b.take (a+1)++e::(b.drop (a+1)++Z))):=by{refine⟨q1+1,os1,swp dk1 p r,?_,by rw[size_swp];exact hs1,?_⟩;{exact FU};{obtain⟨C,aG,hl,y,A,z⟩:=ag J;have ao:a<b.length:=ae;have aH:=wV (d:=dk1) (X:=X++b.take a) (Y:=[]) (Z:=b.drop (a+1)++Z) (u:=e) (v:=b[a]) (by rw[ee,fQ ao];exact sB);rw[show(X++b.take a).length=p from aA,show p+1+([]:List aj).length=r from aE]at aH;rw[aH,du ao];exact sB}};obtain⟨bg,ah⟩:∃n,dk1[r]! = n:=⟨_,rfl⟩;obtain⟨bf,ad⟩:∃n,dk1[p]! = n:=⟨_,rfl⟩;rw[ah]at aa ab;rw[ad]at V;rw[ad,ah]at ac L;obtain⟨aZ,F⟩:∃N,aj.aX bf=N:=⟨_,rfl⟩;obtain⟨a0,G⟩:∃N,aj.aX bg=N:=⟨_,rfl⟩;have bq:aZ.length=k:=by rw[<- F];exact HK _
 have br:a0.length=k:=by rw[<- G];exact HK _
 rw[F,G]at L ac;rw[G]at aa ab;rw[F]at V;have aX:(p:Int)<(d.size:Int):=ae;have aW:(r:Int)<(d.size:Int):=ae;have a4:(p:Int)+1=(r:Int):=ae;have aU:IntKind.i64.wrap (p:Int)=(p:Int):=cX
 have aV:IntKind.i64.wrap (r:Int)=(r:Int):=cX
 have a9:(0:Int)<=(p:Int):=ae;have bc:(0:Int)<=(r:Int):=ae;have M:Hid (a+gk=i/\a<i/\j+a=p/\i<=b.length/\j+i+1<=o/\o<=d.size):=⟨H,I,x,K,S,O⟩;clear E hwr hs1 ee HW F G ah ad aE H I x K S hs aN aK aS aC a7 a5 aM O;go_wp2_with fail;clear aJ aR;go_big_region_o;all_goals(
 clear V aa ab ac aT bi a8 aU aV a9 bc a4 aX aW;have aJ:p<=3001:=by have:=ag M;omega
 go_wp2;go_roundg (i-(a+1));case measure=>have:=ag M;omega
 case rel =>(obtain⟨H,I,x,K,S,O⟩:=ag M;exact⟨a+1,by rw[<- x];first|rfl|go_num,ae,L⟩))};{have aY:¬((j+a:Nat):Int)<(j:Int)+i:=ae;obtain rfl:a=i:=ae;obtain⟨p,x⟩:∃p,j+a=p:=⟨_,rfl⟩;have bB:¬(p:Int)<(j:Int)+a:=ae;rw[x];clear x aY;exact ER})})
end
section
open Go.RowKit Go.Sort Go.Shelf
theorem DZ{P:Prop}(h:P:=by unfold ltOf;rw[ag Fk];exact eD (by have:=ag Sa;omega)):P:=h
theorem TQ(off k g a8 i m x n:Nat)(aL:∀o,(aj.aX o).length=k)(bn:∀w,Sem.run prog (Go.sizeOf 47) w=.ok k w)(d dk:Array aj)(t:Array Obj)(X b:List aj)(e:aj)(Z:List aj)(w:World)(aG:HoldsK aj.aX k w g off d)(aI:g<w.heap.size)(hs:dk.size=d.size)(bu:d.size<=3001)(q:dk.toList=X++(b++e::Z)) (B:X.length=i) (aE:i+b.length=m) (aD:m+1=x) (ba:2<=b.length) (D:oP bF) (C:gD bF b):az 232 #[aF g off d.size a8,ak i,ak m,ak x,.func (.func 103) #[] #[]] (sortWorldK aj.aX k w g off n dk t) fun V an=>V=.returned (.tuple #[])/\∃bg os' ay,an=sortWorldK aj.aX k w g off bg ay os'/\ay.toList=X++(bA bF b [e]++Z):=by
 have bd:prog.follows Departure.mixedOrders=true:=aB;have aZ:=Tryz.isAgg47;have F:d.size=X.length+(b.length+(1+Z.length)):=by rw[<- hs,<- kf,q];simp;omega
 have z:dk[m]! = e:=by{have:=rx (d:=dk) (X:=X++b) (u:=e) (Z:=Z) (by rw[q];simp);rw[show(X++b).length=m from aA]at this;exact this};have HK:=af aL;have HH:=af aG;have HG:=af aI;have Q:=af (aQ F (aQ hs (aQ q (aQ B (aQ D C)))));have aO:x<=3001:=ae;have a9:x<=d.size:=ae;have a4:i<=m:=ae;have ao:m<x:=ae;have bs:((m:Int)-i==1)=false:=eP
 have bq:((x:Int)-m==1)=true:=ni
 clear aL aG aI F q B D C;obtain⟨bL,ab⟩:=a2 (sortWorldK aj.aX k w g off n dk t);rw[<- ab];have bm:=af ab;clear ab;go_enter func232,ntmps232;go_wp2_with fail;go_loopg [14,15] (m-i) (fun aa bi bj wr=>∃(c j:Nat),bi=ak c/\bj=ak j/\i<=c/\c<=j/\j<=m/\j-c<=aa/\Hid (∃n t,wr=sortWorldK aj.aX k w g off n dk t)/\Hid ((c=i\/bF e dk[c-1]! = false)/\(j=m\/bF e dk[j]! = true)));case atStart=>exact⟨i,m,rfl,rfl,bb _,a4,bb _,bb _,⟨n,t,bm⟩,.inl rfl,.inl rfl⟩
 case round =>(
 obtain⟨c,j,rfl,rfl,aS,aU,aK,aX,aT,H⟩:=hrel;by_cases bc:c<j;{
 have aV:(c:Int)<(j:Int):=ae;obtain⟨h,aJ⟩:∃h,(c+j)/2=h:=⟨_,rfl⟩;have bx:((c:Int)+j)/2=(h:Int):=ae;have bz:c<=h:=ae;have bB:h<j:=ae;obtain⟨q1,os1,hwr⟩:=ag aT;have zZ:∀n' os',grow (wr.drewN n') os'=sortWorldK aj.aX k w g off (q1+n') dk (os1++os'):=fun n' os'=>E6
 have z8:∀n' os',HoldsK aj.aX k (grow (wr.drewN n') os') g off dk:=fun n' os'=>EN
 obtain⟨o,hy⟩:∃o,dk[h]! = o:=⟨_,rfl⟩;have bt:∀n' os',Sem.run prog (loadCellsFrom (aq g (off+h*k)) 0 k #[]) (grow (wr.drewN n') os')=.ok (aj.aX o).toArray (grow (wr.drewN n') os'):=fun n' os'=>ES
 have bK:∀n' os',Sem.run prog (loadCellsFrom (aq g (off+m*k)) 0 k #[]) (grow (wr.drewN n') os')=.ok (aj.aX e).toArray (grow (wr.drewN n') os'):=fun n' os'=>by rw[<- z];exact pd (ag HK) (z8 n' os') m ae
 have au:∀W,az 103 #[.agg (aj.aX e).toArray,.agg (aj.aX o).toArray] W fun V an=>V=.returned (ak (gH e o))/\∃n os',an=grow (W.drewN n) os':=fun W=>wj e o W;have ap:=af au;have ar:=af zZ;have bC:(h:Int)<(d.size:Int):=ae;have bD:(m:Int)<(d.size:Int):=ae;have aP:=af hy;have bE:=af aJ;have bo:=af z;clear zZ z8 hwr aJ hy au z;generalize aH:gH e o=ax at ap;have Fk:=af aH;clear aH;by_cases hlv:ax<0;{
 go_wp2_with fail;go_quiet_grown (first|(go_at_call 103;refine Calls.grown_of (ap _)));go_wp2_with fail;go_roundg (h-c);case measure=>omega
 case rel =>(refine⟨c,h,rfl,jV,aS,ae,ae,bb _,⟨_,_,ag ar _ _⟩,H.1,.inr ?_⟩;show ltOf gH e dk[h]! = true;rw[ag aP];exact B9)};{
 have bI:decide (ax<0)=false:=eD hlv;have Sa:=af hlv;clear hlv;go_wp2_with fail;go_quiet_grown (first|(go_at_call 103;refine Calls.grown_of (ap _)));go_wp2_with fail;go_roundg (j-(h+1));case measure=>omega
 case rel =>(refine⟨h+1,j,jV,rfl,ae,ae,aK,bb _,⟨_,_,ag ar _ _⟩,.inr ?_,H.2⟩;show ltOf gH e dk[h]! = false;rw[ag aP];exact DZ)}};{
 have aV:¬(c:Int)<(j:Int):=ae;obtain rfl:c=j:=ae;obtain⟨l,hT⟩:∃l,c=i+l:=⟨c-i,ae⟩;have gQ:Hid (bA bF b [e]=b.take l++e::b.drop l):=by{
 obtain⟨F,aM,q,B,D,C⟩:=ag Q;obtain⟨E,h2⟩:=ag H;have hat:∀a (h:a<b.length),dk[i+a]! = b[a]:=fun a h=>by rw[<- B];exact wY q h
 rw[Hid];conv=>lhs;rw[<- ft l b]
 refine Ug bF D (by rw[ft];exact C) (fun o z=>?_) (fun o z=>?_);{obtain⟨h0,bJ,h4⟩:=wZ ae z;rcases E with E|E;{omega};{rw[show c-1=i+(l-1)from ae,hat _ h0,h4]at E;exact E}};{obtain⟨h0,h4⟩:=w_ z;exact EA}};have aY:l<=b.length:=ae;have av:(c:Int)=(i:Int)+l:=ae;have aC:=af (aQ hT av);have bG:=af (aQ aE aD);have bp:(c:Int)<=3001:=ae;obtain⟨L,hL⟩:∃L,b.length=L:=⟨_,rfl⟩;have G:i+L=m:=ae;clear hT av aD H aE;go_wp2_with fail;go_loopg [17] (L-l) (fun aa bf wr=>∃(a:Nat),bf=ak (i+a:Nat)/\l+aa=a/\a<=L/\Hid (∃n t dk1,wr=sortWorldK aj.aX k w g off n dk1 t/\dk1.size=d.size/\dk1.toList=X++(b.take a++e::(b.drop a++Z))));case atStart =>(obtain⟨q1,os1,hwr⟩:=ag aT;obtain⟨F,aM,q,B,D,C⟩:=ag Q;refine⟨L,by first|(rw[G])|go_num,ae,bb _,q1,os1,dk,hwr,hs,?_⟩;rw[<- hL,dK,kN,dJ];exact q)
 case round =>(
 obtain⟨a,rfl,O,R,HW⟩:=hrel;by_cases P:l<a;{
 obtain⟨p,y⟩:∃p,i+a=p:=⟨_,rfl⟩;rw[y];have aW:(c:Int)<(p:Int):=by have:=aC.2;omega
 have aR:p<=3001:=ae;obtain⟨q1,os1,dk1,hwr,hs1,ee⟩:=ag HW;have K:HoldsK aj.aX k wr.drew g off dk1:=FP
 obtain⟨r,J⟩:∃r,r+1=p:=⟨p-1,ae⟩;have ac:=pd (ag HK) K p ae;have ad:=pd (ag HK) K r ae;obtain⟨ah,ai⟩:=JV (ag HK) K p r ae ae;have S:Hid (∃n t U,((wr.drew.setCells g (off+p*k) (aj.aX dk1[r]!)).setCells g (off+r*k) (aj.aX dk1[p]!))=sortWorldK aj.aX k w g off n U t/\U.size=d.size/\U.toList=X++(b.take (a-1)++e::(b.drop (a-1)++Z))):=by{refine⟨q1+1,os1,swp dk1 p r,?_,by rw[size_swp];exact hs1,?_⟩;{exact FU};{obtain⟨F,aM,q,B,D,C⟩:=ag Q;obtain⟨A,rfl⟩:∃A,a=A+1:=⟨a-1,ae⟩;have aw:A<b.length:=ae;rw[du aw]at ee;have aN:=wV (d:=dk1) (X:=X++b.take A) (Y:=[]) (Z:=b.drop (A+1)++Z) (u:=b[A]) (v:=e) (by rw[ee];exact sB);rw[show(X++b.take A).length=r from aA,show r+1+([]:List aj).length=p from J]at aN;rw[IX _ _ _ ae,aN,vN,fQ aw];exact sB}};obtain⟨bl,am⟩:∃e,dk1[r]! = e:=⟨_,rfl⟩;obtain⟨bk,al⟩:∃e,dk1[p]! = e:=⟨_,rfl⟩;rw[am]at ad ah;rw[al]at ac;rw[al,am]at ai S;obtain⟨a6,M⟩:∃T,aj.aX bk=T:=⟨_,rfl⟩;obtain⟨a7,N⟩:∃T,aj.aX bl=T:=⟨_,rfl⟩;have bv:a6.length=k:=by rw[<- M];exact HK _
 have bw:a7.length=k:=by rw[<- N];exact HK _
 rw[M,N]at S ai;rw[N]at ad ah;rw[M]at ac;have a5:(p:Int)<(d.size:Int):=ae;have a3:(r:Int)<(d.size:Int):=ae;have a_:(p:Int)-1=(r:Int):=ae;have a0:IntKind.i64.wrap (p:Int)=(p:Int):=cX
 have a1:IntKind.i64.wrap (r:Int)=(r:Int):=cX
 have be:(0:Int)<=(p:Int):=ae;have bh:(0:Int)<=(r:Int):=ae;have I:Hid (l+gk=a/\l<a/\i+a=p/\r+1=p/\a<=L/\i+L=m/\m<x/\x<=3001):=⟨O,P,y,J,R,G,ao,aO⟩;clear K hwr hs1 ee HW M N am al J O P y aY hs aU aS aX aK bc ba ao a9 hL G R;go_wp2_with fail;clear aR aW;go_big_region_o;all_goals(
 clear ac ad ah ai aZ bn bd a0 a1 be bh a_ a5 a3;have aR:p<=3001:=by have:=ag I;omega
 have br:1<=p:=by have:=ag I;omega
 go_wp2;go_roundg (a-1-l);case measure=>have:=ag I;omega
 case rel =>(obtain⟨O,P,y,J,R,G,ao,aO⟩:=ag I;exact⟨a-1,by rw[show i+(a-1)=p-1 from ae];first|rfl|go_num,ae,ae,S⟩))};{
 obtain rfl:a=l:=ae;obtain⟨p,y⟩:∃p,i+a=p:=⟨_,rfl⟩;have bH:¬(c:Int)<(p:Int):=by have:=aC.2;omega
 rw[y];clear y;exact ER})})
end
section
open Go.RowKit Go.Sort Go.Shelf
theorem JW{W:World}{g:Nat}{dk:Array aj}(d:HoldsK aj.aX 4 W g 0 dk){j:Nat}(e:j<dk.size):W.cell? (aq g (j*4))=some (.string (ai dk[j]!.owner))/\W.cell? (aq g (j*4+1))=some (ak dk[j]!.aI)/\W.cell? (aq g (j*4+2))=some (ak dk[j]!.type)/\W.cell? (aq g (j*4+3))=some (.string (ai dk[j]!.data)):=by have a:∀c (b:c<4),W.cell? (aq g (j*4+c))=some (aj.aX dk[j]!)[c]!:=fun c b=>by{have:=(d.cell (i:=j) (c:=c) e b).1;rwa [cT]at this};exact⟨a 0 ae,a 1 ae,a 2 ae,a 3 ae⟩
def AT(g l:Nat)(i:Array aj)(k:World)(f:Nat):Prop :=
 ∀(c m e q:Nat) (dk:Array aj) (o:Array Obj) (d a b h:List aj),dk.size=i.size->dk.toList=d++(a++(b++h))->d.length=c->c+a.length=m->m+b.length=e->0<a.length->0<b.length->gD bF a->gD bF b->e-c<=f ->
  az 232 #[aF g 0 i.size l,ak c,ak m,ak e,.func (.func 103) #[] #[]] (sortWorldK aj.aX 4 k g 0 q dk o) fun n t =>
   n=.returned (.tuple #[])/\∃r p j,t=sortWorldK aj.aX 4 k g 0 r j p/\j.toList=d++(bA bF a b++h)
theorem TR(F:oP bF){dk:Array aj}{X b c Z:List aj}{a m h g s s0 r0 e2:Nat}(y:dk.toList=X++(b++(c++Z)))(C:X.length=a)(Q:a+b.length=m)(P:m+c.length=h)(D:gD bF b)(E:gD bF c)(O:(a+h)/2=g) (T:s0<=s) (U:s<=r0) (S:e2+s=g+m) (R:(g<m/\s0+h=g+m/\r0=g)\/(m<=g/\s0=a/\r0=m))(j:s=s0\/bF dk[e2]! dk[s-1]! = false) (k:s=r0\/bF dk[e2-1]! dk[s]! = true):∃l t n u,b=l++t/\c=n++u/\a+l.length=s/\m+n.length=e2/\bA bF b c=bA bF l n++bA bF t u/\a<=s/\s<=m/\m<=e2/\e2<=h:=by
 have G:a<=s:=ae;have H:s<=m:=ae;have I:m<=e2:=ae;have J:e2<=h:=ae;have w:∀e (i:e<b.length),dk[a+e]! = b[e]:=fun e i=>by rw[<- C];exact wY y i
 have x:∀e (i:e<c.length),dk[m+e]! = c[e]:=fun e i=>by{have:=wY (d:=dk) (X:=X++b) (B:=c) (Z:=Z) (by rw[y];simp) i;rw[show(X++b).length=m from aA]at this;exact this};refine⟨b.take (s-a),b.drop (s-a),c.take (e2-m),c.drop (e2-m),(ft _ _).symm,(ft _ _).symm,aA,aA,?_,G,H,I,J⟩;conv=>lhs;rw[<- ft (s-a) b,<- ft (e2-m) c]
 refine Uh bF F (by rw[ft];exact D) (by rw[ft];exact E) (fun K M o p=>?_) (fun K M o p=>?_);{obtain⟨q,z,L⟩:=wZ ae o;obtain⟨r,A⟩:=w_ p;rcases j with j|j;{omega};{rw[show s-1=a+(s-a-1)from ae,w _ q,L,show e2=m+(e2-m)from ae,x _ r,A]at j;exact j}};{obtain⟨q,z⟩:=w_ o;obtain⟨r,A,N⟩:=wZ ae p;rcases k with k|k;{omega};{rw[show e2-1=m+(e2-m-1)from ae,x _ r,N,show s=a+(s-a)from ae,w _ q,z]at k;exact k}}
theorem TS(g aV i m k p f:Nat)(l dk:Array aj)(t:Array Obj)(q H I w:List aj)(r:World)(bw:HoldsK aj.aX 4 r g 0 l)(bB:g<r.heap.size)(aD:dk.size=l.size)(bQ:l.size<=3001)(Y:dk.toList=q++(H++(I++w))) (J:q.length=i) (ac:i+H.length=m) (ab:m+I.length=k) (ca:2<=H.length) (b1:2<=I.length) (aG:oP bF) (V:gD bF H) (X:gD bF I) (N:k-i<=f+1) (bn:AT g aV l r f):az 232 #[aF g 0 l.size aV,ak i,ak m,ak k,.func (.func 103) #[] #[]] (sortWorldK aj.aX 4 r g 0 p dk t) fun ai a9=>ai=.returned (.tuple #[])/\∃aH c U,a9=sortWorldK aj.aX 4 r g 0 aH U c/\U.toList=q++(bA bF H I++w):=by
 have cB:prog.follows Departure.mixedOrders=true:=aB;have aE:l.size=q.length+(H.length+(I.length+w.length)):=by rw[<- aD,<- kf,Y];simp
 obtain⟨d,am⟩:∃d,(i+k)/2=d:=⟨_,rfl⟩;obtain⟨F,aN⟩:∃F,d+m=F:=⟨_,rfl⟩;obtain⟨o,aM⟩:∃o,o+1=F:=⟨F-1,ae⟩;obtain⟨s0,r0,bx⟩:∃s0 r0,(d<m/\s0+k=d+m/\r0=d)\/(m<=d/\s0=i/\r0=m):=by{by_cases h:d<m;{exact⟨d+m-k,d,.inl ⟨h,ae,rfl⟩⟩};{exact⟨i,m,.inr ⟨ae,rfl,rfl⟩⟩}};have bo:s0<=r0:=ae;have bR:r0<=m:=ae;have bS:i<=s0:=ae;have b2:o<s0+k:=ae;have bT:m+r0<=o+1:=ae;have ch:((i:Int)+k)/2=(d:Int):=ae;have ci:(d:Int)+m=(F:Int):=ae;have cv:(F:Int)-1=(o:Int):=ae;have cy:k<=3001:=ae;have cw:k<=l.size:=ae;have cg:i<m:=ae;have cP:m<k:=ae;have cj:i<d:=ae;have ck:d<k:=ae;have cd:((m:Int)-i==1)=false:=eP
 have cb:((k:Int)-m==1)=false:=eP
 have cl:F<=6002:=ae;have cm:o<=6002:=ae;have bk:=af bw;have bj:=af bB;have bp:=af bn;have aP:Hid (l.size=q.length+(H.length+(I.length+w.length))/\dk.size=l.size/\dk.toList=q++(H++(I++w))/\q.length=i/\i+H.length=m/\m+I.length=k/\oP bF/\gD bF H/\gD bF I/\(i+k)/2=d/\d+m=F/\o+1=F/\k-i<=f+1):=⟨aE,aD,Y,J,ac,ab,aG,V,X,am,aN,aM,N⟩;have bI:=af bx;clear bw bB aE Y J ac ab V X aG am aN aM ca b1 bn N bx;obtain⟨b9,a0⟩:=a2 (sortWorldK aj.aX 4 r g 0 p dk t);rw[<- a0];have b_:=af a0;clear a0;go_enter func232,ntmps232;go_upto_if 140 with fail;go_cut [20,21]from 138 (fun b5 b6 O=>b5=ak s0/\b6=ak r0/\O=b9);case first =>(rcases ag bI with⟨K,L,P⟩|⟨K,L,P⟩;{have b3:(d:Int)<(m:Int):=ae;have cQ:(F:Int)-k=(s0:Int):=ae;clear K L;go_wp2_with fail;go_meet;case rel=>exact⟨jV,by rw[P],rfl⟩};{have b3:¬(d:Int)<(m:Int):=ae;clear K;go_wp2_with fail;go_meet;case rel=>exact⟨by rw[L],by rw[P],rfl⟩})
 case rest =>(
 obtain⟨rfl,rfl,rfl⟩:=hcut;go_wp2_with fail;go_loopg [20,21] (r0-s0) (fun bZ b7 b8 wr=>∃(a j:Nat),b7=ak a/\b8=ak j/\s0<=a/\a<=j/\j<=r0/\j-a<=bZ/\Hid (∃p t,wr=sortWorldK aj.aX 4 r g 0 p dk t)/\Hid ((a=s0\/bF dk[o-(a-1)]! dk[a-1]! = false)/\(j=r0\/bF dk[o-j]! dk[j]! = true)));case atStart=>exact⟨s0,r0,rfl,rfl,bb _,bo,bb _,bb _,⟨p,t,b_⟩,.inl rfl,.inl rfl⟩
 case round =>(
 obtain⟨a,j,rfl,rfl,bd,bM,aZ,bO,be,aL⟩:=hrel;by_cases cx:a<j;{
 have bN:(a:Int)<(j:Int):=ae;obtain⟨h,bC⟩:∃h,(a+j)/2=h:=⟨_,rfl⟩;have cq:((a:Int)+j)/2=(h:Int):=ae;have cr:a<=h:=ae;have cs:h<j:=ae;obtain⟨G,bE⟩:∃G,G+h=o:=⟨o-h,ae⟩;have cf:(o:Int)-h=(G:Int):=ae;have cc:G<l.size:=ae;have cG:IntKind.i64.wrap (G:Int)=(G:Int):=cX
 have cn:IntKind.i64.wrap ((o:Int)-(h:Int))=(G:Int):=cX
 have ce:h<=o:=ae;have co:(G:Int)<(l.size:Int):=ae;obtain⟨C,z,n⟩:=ag be;have bf:∀e c,grow (wr.drewN e) c=sortWorldK aj.aX 4 r g 0 (C+e) dk (z++c):=fun e c=>by rw[n];exact sortWorldK_grown_c aj.aX 4 r g 0 C e dk z c
 have bc:∀e c,HoldsK aj.aX 4 (grow (wr.drewN e) c) g 0 dk:=fun e c=>by rw[bf];exact holdsK_sortWorldK_c aj.aX 4 r g 0 l dk _ _ (ag bk) (ag bj) aD
 obtain⟨R,a1⟩:∃R,dk[h]! = R:=⟨_,rfl⟩;obtain⟨S,a3⟩:∃S,dk[G]! = S:=⟨_,rfl⟩;have ad:∀e c,_:=fun e c=>JW (bc e c) (j:=h) ae;have ah:∀e c,_:=fun e c=>JW (bc e c) (j:=G) ae;rw[a1]at ad;rw[a3]at ah;have cH:=fun e c=>(ad e c).1;have cI:=fun e c=>(ad e c).2.1;have cJ:=fun e c=>(ad e c).2.2.1;have cK:=fun e c=>(ad e c).2.2.2;have cL:=fun e c=>(ah e c).1;have cM:=fun e c=>(ah e c).2.1;have cN:=fun e c=>(ah e c).2.2.1;have cO:=fun e c=>(ah e c).2.2.2;have bi:∀W,az 103 #[.agg #[au S.owner,ak S.aI,ak S.type,au S.data],.agg #[au R.owner,ak R.aI,ak R.type,au R.data]] W fun ai a9=>ai=.returned (ak (gH S R))/\∃p c,a9=grow (W.drewN p) c:=fun W=>wj S R W;have bg:=af bi;have bh:=af bf;have ct:(h:Int)<(l.size:Int):=ae;have bH:Hid (dk[h]! = R/\dk[G]! = S/\(a+j)/2=h/\G+h=o):=⟨a1,a3,bC,bE⟩;clear bf bc n bC a3 bi a1 ad ah bE;generalize bz:gH S R=aW at bg;have Fk:=af bz;clear bz;by_cases hlv:aW<0;{
 go_wp2_with fail;go_quiet_grown (first|(go_at_call 103;refine Calls.grown_of (bg _)));go_wp2_with fail;go_roundg (h-a);case measure=>omega
 case rel =>(refine⟨a,h,rfl,jV,bd,ae,ae,bb _,⟨_,_,ag bh _ _⟩,aL.1,.inr ?_⟩;show ltOf gH dk[o-h]! dk[h]! = true;obtain⟨aX,e2,bX,bY⟩:=ag bH;rw[show o-h=G from ae,aX,e2];exact B9)};{
 have cu:decide (aW<0)=false:=eD hlv;have Sa:Hid (¬aW<0):=hlv;clear hlv;go_wp2_with fail;go_quiet_grown (first|(go_at_call 103;refine Calls.grown_of (bg _)));go_wp2_with fail;go_roundg (j-(h+1));case measure=>omega
 case rel =>(refine⟨h+1,j,jV,rfl,ae,ae,aZ,bb _,⟨_,_,ag bh _ _⟩,.inr ?_,aL.2⟩;show ltOf gH dk[o-h]! dk[h]! = false;obtain⟨aX,e2,bX,bY⟩:=ag bH;rw[show o-h=G from ae,aX,e2];exact DZ)}};{
 have bN:¬(a:Int)<(j:Int):=ae;obtain rfl:a=j:=ae;obtain⟨e2,bq⟩:∃e2,e2+a=F:=⟨F-a,ae⟩;have cp:(F:Int)-a=(e2:Int):=ae;have bG:=by{obtain⟨aE,bD,Y,J,ac,ab,aG,V,X,am,aN,aM,N⟩:=ag aP;obtain⟨K,L⟩:=ag aL;have b0:a=s0\/bF dk[e2]! dk[a-1]! = false:=by{rcases K with h|h;{exact iG};{by_cases cA:a=0;{exact .inl ae};{right;rw[show e2=o-(a-1)from ae];exact h}}};exact af (TR aG (s:=a) (s0:=s0) (r0:=r0) (e2:=e2) Y J ac ab V X am bd aZ ae (ag bI) b0 (L.imp id fun h=>by rw[show e2-1=o-a from ae];exact h))};obtain⟨A,B,y,D,a5,a7,bJ,bK,bL,cC,cD,cE,cF⟩:=ag bG;have aY:Hid (∃p t b,wr=sortWorldK aj.aX 4 r g 0 p b t/\b.size=l.size/\b.toList=q++(A++(B++(y++(D++w))))):=by{obtain⟨aE,bD,Y,_⟩:=ag aP;obtain⟨C,z,n⟩:=ag be;exact⟨C,z,dk,n,aD,by rw[Y,a5,a7];simp⟩};have aa:Hid (gD bF A/\gD bF B/\gD bF y/\gD bF D/\q.length=i/\i+A.length=a/\a+B.length=m/\m+y.length=e2/\e2+D.length=k/\i+A.length+y.length=d/\k-i<=f+1/\bA bF H I=bA bF A y++bA bF B D):=by{obtain⟨aE,bD,Y,J,ac,ab,aG,V,X,am,aN,aM,N⟩:=ag aP;rw[a5]at V ac;rw[a7]at X ab;rw[a6]at ac ab;exact⟨(hO.1 V).1,(hO.1 V).2.1,(hO.1 X).1,(hO.1 X).2.1,J,bJ,ae,bK,ae,ae,N,bL⟩};have cz:Hid (e2+a=F):=bq;clear a5 a7 bJ bK bL bG aL bd bM aZ bO bq be aD b2 bT bS bo bR;obtain⟨aR,br⟩:∃ax:Bool,ax=decide (a<m/\m<e2):=⟨_,rfl⟩;have an:=af br;clear br;go_upto_region 39 with fail;go_cut [185]from 178 (fun v O=>v=.bool aR/\O=wr);case first =>(by_cases ap:a<m;{have aq:(a:Int)<(m:Int):=ae;by_cases T:m<e2;{have ar:(m:Int)<(e2:Int):=ae;go_wp2_with fail;go_meet;case rel=>exact⟨bP Value.bool (an.trans (eC (aQ ap T))).symm,rfl⟩};{have ar:¬(m:Int)<(e2:Int):=ae;go_wp2_with fail;go_meet;case rel=>exact⟨bP Value.bool (an.trans (eD (fun h=>T h.2))).symm,rfl⟩}};{have aq:¬(a:Int)<(m:Int):=ae;go_wp2_with fail;go_meet;case rel=>exact⟨bP Value.bool (an.trans (eD (fun h=>ap h.1))).symm,rfl⟩})
 case rest =>(
 obtain⟨rfl,rfl⟩:=hcut;go_upto_if 185 with fail;go_cut [24]from 178 (fun a8 O=>a8=ak e2/\Hid (∃p t b,O=sortWorldK aj.aX 4 r g 0 p b t/\b.size=l.size/\b.toList=q++(A++(y++(B++(D++w))))));case first =>(obtain⟨C,z,b,n,x,u⟩:=ag aY;by_cases E:a<m/\m<e2;{obtain rfl:aR=true:=an.trans (eC E);have bs:=by{obtain⟨_,_,_,_,J,K,L,P,al,aC,N,_⟩:=ag aa;exact af (Ue g aV a m e2 C l b z (q++A) B y (D++w) r (ag bk) (ag bj) x bQ (by rw[u];simp) aA L P ae ae)};rw[<- n]at bs;clear n x u E;go_wp2_with fail;refine bs.mono ?_;rintro ai aJ ⟨rfl,aI,ay,Z,Q⟩;have M:Hid (∃p t b,aJ=sortWorldK aj.aX 4 r g 0 p b t/\b.size=l.size/\b.toList=q++(A++(y++(B++(D++w))))):=by{refine⟨aI,z,ay,Z,?_,by rw[Q];simp⟩;obtain⟨C,z,b,n,x,u⟩:=ag aY;rw[<- x,<- kf,<- kf,u,Q];simp;omega};clear Z Q;go_wp2_with fail;go_meet;case rel=>exact⟨rfl,M⟩};{obtain rfl:aR=false:=an.trans (eD E);have M:Hid (∃p t b,wc=sortWorldK aj.aX 4 r g 0 p b t/\b.size=l.size/\b.toList=q++(A++(y++(B++(D++w))))):=by{refine⟨C,z,b,n,x,?_⟩;obtain⟨_,_,_,_,J,K,L,P,al,aC,N,_⟩:=ag aa;rw[u];by_cases ao:a<m;{have:y=[]:=jx.1 ae;rw[this];simp};{have:B=[]:=jx.1 ae;rw[this];simp}};clear n x u E;go_wp2_with fail;go_meet;case rel=>exact⟨rfl,M⟩})
 case rest =>(
 obtain⟨rfl,aO⟩:=hcut;obtain⟨a_,bt⟩:∃a_,wc=a_:=⟨_,rfl⟩;rw[bt]at aO ⊢;clear bt aY;obtain⟨aS,bu⟩:∃ax:Bool,ax=decide (i<a/\a<d):=⟨_,rfl⟩;have av:=af bu;clear bu;go_upto_region 41 with fail;go_cut [199]from 192 (fun v O=>v=.bool aS/\O=a_);case first =>(by_cases ap:i<a;{have aq:(i:Int)<(a:Int):=ae;by_cases T:a<d;{have ar:(a:Int)<(d:Int):=ae;go_wp2_with fail;go_meet;case rel=>exact⟨bP Value.bool (av.trans (eC (aQ ap T))).symm,rfl⟩};{have ar:¬(a:Int)<(d:Int):=ae;go_wp2_with fail;go_meet;case rel=>exact⟨bP Value.bool (av.trans (eD (fun h=>T h.2))).symm,rfl⟩}};{have aq:¬(i:Int)<(a:Int):=ae;go_wp2_with fail;go_meet;case rel=>exact⟨bP Value.bool (av.trans (eD (fun h=>ap h.1))).symm,rfl⟩})
 case rest =>(
 obtain⟨rfl,rfl⟩:=hcut;go_upto_if 199 with fail;go_cut [24]from 192 (fun a8 O=>a8=ak e2/\Hid (∃p t b,O=sortWorldK aj.aX 4 r g 0 p b t/\b.size=l.size/\b.toList=q++(bA bF A y++(B++(D++w)))));case first =>(obtain⟨C,z,b,n,x,u⟩:=ag aO;by_cases E:i<a/\a<d;{obtain rfl:aS=true:=av.trans (eC E);have aK:=by{obtain⟨bU,_,bV,_,J,K,L,P,al,aC,N,_⟩:=ag aa;exact af (bp i a d C b z q A y (B++(D++w)) x u J K ae ae ae bU bV ae)};rw[<- n]at aK;clear n x u E;go_wp2_with fail;refine aK.mono ?_;rintro ai aJ ⟨rfl,aI,a4,ay,Z,Q⟩;have M:Hid (∃p t b,aJ=sortWorldK aj.aX 4 r g 0 p b t/\b.size=l.size/\b.toList=q++(bA bF A y++(B++(D++w)))):=by{refine⟨aI,a4,ay,Z,?_,Q⟩;obtain⟨C,z,b,n,x,u⟩:=ag aO;rw[<- x,<- kf,<- kf,u,Q];simp[tJ];omega};clear Z Q;go_wp2_with fail;go_meet;case rel=>exact⟨rfl,M⟩};{obtain rfl:aS=false:=av.trans (eD E);have M:Hid (∃p t b,wc=sortWorldK aj.aX 4 r g 0 p b t/\b.size=l.size/\b.toList=q++(bA bF A y++(B++(D++w)))):=by{refine⟨C,z,b,n,x,?_⟩;obtain⟨_,_,_,_,J,K,L,P,al,aC,N,_⟩:=ag aa;rw[u];by_cases ao:i<a;{have:y=[]:=jx.1 ae;rw[this];simp};{have:A=[]:=jx.1 ae;rw[this];simp}};clear n x u E;go_wp2_with fail;go_meet;case rel=>exact⟨rfl,M⟩})
 case rest =>(
 obtain⟨rfl,bm⟩:=hcut;obtain⟨ba,bl⟩:∃ba,wc=ba:=⟨_,rfl⟩;rw[bl]at bm ⊢;clear bl aO;obtain⟨aT,bv⟩:∃ax:Bool,ax=decide (d<e2/\e2<k):=⟨_,rfl⟩;have aw:=af bv;clear bv;go_upto_region 43 with fail;go_cut [213]from 206 (fun v O=>v=.bool aT/\O=ba);case first =>(by_cases ap:d<e2;{have aq:(d:Int)<(e2:Int):=ae;by_cases T:e2<k;{have ar:(e2:Int)<(k:Int):=ae;go_wp2_with fail;go_meet;case rel=>exact⟨bP Value.bool (aw.trans (eC (aQ ap T))).symm,rfl⟩};{have ar:¬(e2:Int)<(k:Int):=ae;go_wp2_with fail;go_meet;case rel=>exact⟨bP Value.bool (aw.trans (eD (fun h=>T h.2))).symm,rfl⟩}};{have aq:¬(d:Int)<(e2:Int):=ae;go_wp2_with fail;go_meet;case rel=>exact⟨bP Value.bool (aw.trans (eD (fun h=>ap h.1))).symm,rfl⟩})
 case rest =>(obtain⟨rfl,rfl⟩:=hcut;obtain⟨C,z,b,n,x,u⟩:=ag bm;by_cases E:d<e2/\e2<k;{obtain rfl:aT=true:=aw.trans (eC E);have aK:=by{obtain⟨_,bW,_,b4,J,K,L,P,al,aC,N,_⟩:=ag aa;exact af (bp d e2 k C b z (q++bA bF A y) B D w x (by rw[u];simp) (by simp[tJ];omega) ae al ae ae bW b4 ae)};rw[<- n]at aK;clear n x u E;go_wp2_with fail;refine aK.mono ?_;rintro ai aJ ⟨rfl,aI,a4,ay,Z,Q⟩;have M:Hid (∃aH c U,aJ=sortWorldK aj.aX 4 r g 0 aH U c/\U.toList=q++(bA bF H I++w)):=by{obtain⟨_,_,_,_,_,_,_,_,_,_,_,aU⟩:=ag aa;exact⟨aI,a4,ay,Z,by rw[Q,aU];simp⟩};clear Z Q;go_wp2_with fail;go_end0;exact⟨rfl,M⟩};{obtain rfl:aT=false:=aw.trans (eD E);have M:Hid (∃aH c U,wc=sortWorldK aj.aX 4 r g 0 aH U c/\U.toList=q++(bA bF H I++w)):=by{obtain⟨_,_,_,_,J,K,L,P,al,aC,N,aU⟩:=ag aa;refine⟨C,z,b,n,?_⟩;rw[u,aU];by_cases ao:d<e2;{have:D=[]:=jx.1 ae;rw[this];simp};{have:B=[]:=jx.1 ae;rw[this];simp}};clear n x u E;go_wp2_with fail;go_end0;exact⟨rfl,M⟩})))))}))
end
section
open Go.RowKit Go.Sort Go.Shelf
section
variable {α:Type} (lt:α->α->Bool)
def dH(s:Nat)(l:List α):List α:=if l.length<=s\/s=0 then ez lt l else ez lt (l.take s)++dH s (l.drop s)
termination_by l.length
decreasing_by simp;omega
theorem l8{s:Nat}{l:List α}(a:l.length<=s):dH lt s l=ez lt l:=by rw[dH,ay (.inl a)]
theorem oN(s:Nat):dH lt s ([]:List α)=[]:=by rw[l8 lt am];rfl
theorem JX(s:Nat):∀(f:Nat) (a:List α),a.length<=f->(dH lt s a).length=a.length
 | 0,a,b=>by obtain rfl:a=[]:=jx.1 ae;rw[oN]
 | f+1,a,b=>by rw[dH];split;{exact tK lt a};{rw[a6,tK,JX s f _ aA];simp;omega}
theorem rz{s:Nat}(j:0<s)(a:List α):∀(d:Nat) (l:List α),l.length=s*d->dH lt s (l++a)=dH lt s l++dH lt s a
 | 0,l,b=>by obtain rfl:l=[]:=jx.1 ae;rw[oN];rfl
 | d+1,l,b=>by
  have e:s<=l.length:=by rw[b,zR];omega
  have k:=rz j a d (l.drop s) (by rw[c8,b,zR];omega);have g:dH lt s l=ez lt (l.take s)++dH lt s (l.drop s):=by{by_cases c:l.length<=s;{rw[l8 lt c,ie c,jr c,oN,eu]};{conv=>lhs;rw[dH,ar ae]}};by_cases i:(l++a).length<=s;{have h:a=[]:=jx.1 (by rw[a6]at i;omega);subst h;rw[oN,eu,eu]};{
  conv=>lhs;rw[dH,ar ae]
  rw[List.take_append_of_le_length e,zy e,k,g,c_]}
theorem TT{s:Nat}(d:0<s){a b c:List α}(e:a.length=s):dH lt s (a++(b++c))=ez lt a++dH lt s (b++c):=by rw[rz lt d _ 1 a ae,l8 lt ae]
end
theorem wB:∀a,Op.bytesLess a a=false
 | []=>rfl
 | b::a=>by rw[Op.bytesLess,wB a];simp[UInt8.lt_irrefl]
theorem AU:∀b c d,Op.bytesLess b c=true->Op.bytesLess c d=true->Op.bytesLess b d=true
 | _,_,[],_,a=>by cases ‹List UInt8›<;>simp[Op.bytesLess]at a
 | _,[],_::_,a,_=>by cases ‹List UInt8›<;>simp[Op.bytesLess]at a
 | [],_::_,_::_,_,_=>rfl
 | e::b,g::c,h::d,a,k=>by simp only[Op.bytesLess,lN,bW,jy,dE]at a k ⊢;rcases a with a|⟨rfl,a⟩;{rcases k with k|⟨rfl,k⟩;{exact .inl (UInt8.lt_trans a k)};{exact .inl a}};{rcases k with k|⟨rfl,k⟩;{exact .inl k};{exact .inr ⟨rfl,AU _ _ _ a k⟩}}
theorem AV:∀b c,Op.bytesLess b c=false->Op.bytesLess c b=false->b=c
 | [],[],_,_=>rfl
 | [],_::_,a,_=>by simp[Op.bytesLess]at a
 | _::_,[],_,a=>by simp[Op.bytesLess]at a
 | h::b,i::c,a,k=>by simp only[Op.bytesLess,sU,pq,ro,eW]at a k;have j:h=i:=by{have d:=a.1;have e:=k.1;rw[UInt8.not_lt]at d e;exact UInt8.le_antisymm e d};subst j;have d:=a.2.elim (fun g=>absurd rfl g) id;have e:=k.2.elim (fun g=>absurd rfl g) id;rw[AV b c d e]
theorem p1(a s:aj):bF a s=true ↔ (Op.bytesLess a.owner s.owner=true\/(a.owner=s.owner/\a.type<s.type)):=by
 unfold bF ltOf gH qK pQ Lib.compareInt;rw[qL];cases e:Op.bytesLess a.owner s.owner;{
 by_cases he:a.owner=s.owner;{
 have c:(a.owner==s.owner)=true:=sJ
 simp only[c,pr,pA,gC];by_cases b:a.type<s.type;{simp[b,he]};{by_cases d:a.type > s.type;{simp[b,d]};{simp[b,d]}}};{
 have c:(a.owner==s.owner)=false:=sJ
 simp[c,he]}};{simp}
theorem l9:oP bF:=by
 refine⟨fun q t u e k=>?_,fun q t u e k=>?_⟩;{rw[p1]at *;rcases e with e|⟨i,o⟩;{rcases k with k|⟨d,j⟩;{exact .inl (AU _ _ _ e k)};{exact .inl (d ▸ e)}};{rcases k with k|⟨d,j⟩;{exact .inl (i ▸ k)};{exact .inr ⟨i.trans d,Int.lt_trans o j⟩}}};{
 have r:∀b c:aj,bF b c=false->Op.bytesLess b.owner c.owner=false/\(b.owner=c.owner->¬b.type<c.type):=fun b c a=>by{
 have p:¬bF b c=true:=by rw[a];decide
 rw[p1]at p;refine⟨?_,fun h l=>p (.inr ⟨h,l⟩)⟩;cases w:Op.bytesLess b.owner c.owner;{rfl};{exact absurd (.inl w) p}};obtain⟨i,o⟩:=r _ _ e;obtain⟨d,j⟩:=r _ _ k;cases a:bF q u;{rfl};{exfalso;rw[p1]at a;cases g:Op.bytesLess t.owner q.owner;{have n:=AV _ _ i g;rcases a with a|⟨h,l⟩;{rw[n,d]at a;cases a};{have:=o n;have:=j (n ▸ h);omega}};{rcases a with a|⟨h,l⟩;{have:=AU _ _ _ g a;rw[d]at this;cases this};{rw[h]at g;rw[d]at g;cases g}}}}
theorem rB(b:aj):bF b b=false:=by cases a:bF b b;{rfl};{rw[p1]at a;rcases a with a|⟨_,a⟩;{rw[wB]at a;cases a};{omega}}
theorem JY(g c:Nat)(a:Array aj)(b:World)(q:HoldsK aj.aX 4 b g 0 a)(r:g<b.heap.size)(k:a.size<=3001):∀f,AT g c a b f
 | 0=>fun j m l x dk w h d e i u t n p o F A y z B=>by omega
 | f+1=>fun j m l x dk w h d e i u t n p o F A y z B=>by have C:=JY g c a b q r k f;by_cases D:d.length=1;{obtain⟨G,rfl⟩:=vB.1 D;exact TP 0 4 g c j m l x (fun _=>rfl) Tryz.sizeOf47 a dk w h G e i b q r u k (by rw[t];simp) n p o A l9 z};{by_cases E:e.length=1;{obtain⟨H,rfl⟩:=vB.1 E;exact TQ 0 4 g c j m l x (fun _=>rfl) Tryz.sizeOf47 a dk w h d H i b q r u k (by rw[t];simp) n p o ae l9 y};{exact TS g c j m l x f a dk w h d e i b q r u k t n p o ae ae l9 y z B C}}
theorem TU(g l d b h:Nat)(c dk:Array aj)(e:Array Obj)(a:World)(t:HoldsK aj.aX 4 a g 0 c)(i:g<a.heap.size)(p:dk.size=c.size)(w:c.size<=3001)(u:d<=b)(x:b<=c.size):az 231 #[aF g 0 c.size l,ak d,ak b,.func (.func 103) #[] #[]] (sortWorldK aj.aX 4 a g 0 h dk e) fun n q=>n=.returned (.tuple #[])/\∃k j,q=sortWorldK aj.aX 4 a g 0 k (Sort.insertionSort bF dk d b) j:=by have r:=holdsK_sortWorldK_c aj.aX 4 a g 0 c dk h e t i p;have o:=AnyQ.insertionSortCmpFunc Tryz.an8 4 Tryz.isAgg47 Tryz.sizeOf47 aj.aX (fun _=>rfl) tM gH 103 #[] g 0 l d b dk (sortWorldK aj.aX 4 a g 0 h dk e) (enters_of func103 aB rfl) (RS _ _ _ _) r (cp i (size_sortWorldK_c aj.aX 4 a g 0 h dk e)) u ae ae;rw[p]at o;refine Calls.mono o ?_;rintro n q ⟨rfl,k,j,rfl⟩;exact⟨rfl,_,_,I1 a g h k dk (Sort.insertionSort bF dk d b) e j i (wl _ _ _ _)⟩
end
section
open Go.RowKit Go.Sort Go.Shelf
theorem tO(s:Nat)(l:List aj):(dH bF s l).length=l.length:=JX bF s _ l av
theorem JZ{rs:List aj}{dk:Array aj}{t c:Nat}(e:dk.toList=dH bF 20 (rs.take (20*t))++rs.drop (20*t))(g:20*t<=rs.length)(d:c<=20)(h:20*t+c<=rs.length)(i:c=20\/20*t+c=rs.length):(Sort.insertionSort bF dk (20*t) (20*t+c)).toList=dH bF 20 (rs.take (20*t+c))++rs.drop (20*t+c):=by
 have b:(dH bF 20 (rs.take (20*t))).length=20*t:=by rw[tO,de];omega
 have a:((rs.drop (20*t)).take c).length=c:=uH
 have:=I0 bF l9 rB (dH bF 20 (rs.take (20*t))) ((rs.drop (20*t)).take c) ((rs.drop (20*t)).drop c) dk (by rw[e,ft]);rw[b,a]at this;rw[this,eR,<- c_];congr 1;rw[vM,rz bF ae _ t _ jX,l8 bF (l:=(rs.drop (20*t)).take c) (by rw[a];exact d)]
theorem J0{rs:List aj}{dk:Array aj}{s t a c:Nat}(n:0<s)(y:a=2*s*t)(r:dk.toList=dH bF (2*s) (rs.take a)++dH bF s (rs.drop a))(z:c<=s)(x:0<c)(A:a+s+c<=rs.length)(h:c=s\/a+s+c=rs.length):∃g b d k,dk.toList=g++(b++(d++k))/\g.length=a/\b.length=s/\d.length=c/\gD bF b/\gD bF d/\g++(bA bF b d++k)=dH bF (2*s) (rs.take (a+s+c))++dH bF s (rs.drop (a+s+c)):=by
 have p:rs.drop a=(rs.drop a).take s++((rs.drop (a+s)).take c++rs.drop (a+s+c)):=by{rw[<- eR (i:=c),ft,<- eR (i:=s),ft]};have o:((rs.drop a).take s).length=s:=uH
 have u:((rs.drop (a+s)).take c).length=c:=uH
 have q:rs.take (a+s+c)=rs.take a++((rs.drop a).take s++(rs.drop (a+s)).take c):=by{rw[vM,vM,c_]};generalize (rs.drop a).take s=j at *;generalize (rs.drop (a+s)).take c=e at *;have w:(dH bF (2*s) (rs.take a)).length=a:=by rw[tO,de];omega
 refine⟨dH bF (2*s) (rs.take a),ez bF j,ez bF e,dH bF s (rs.drop (a+s+c)),?_,w,by rw[tK,o],by rw[tK,u],tL bF l9 rB _,tL bF l9 rB _,?_⟩;{rw[r,p,TT bF n o];congr 2;rcases h with h|h;{rw[rz bF n _ 1 e ae,l8 bF (l:=e) ae]};{rw[show rs.drop (a+s+c)=[]from jr ae,oN,eu,eu,l8 bF ae]}};{rw[q,rz bF ae _ t (rs.take a) jX,l8 bF (l:=j++e) (by rw[a6];omega),T7 bF l9,c_]}
theorem TV(g al:Nat)(rs:List aj)(w:World)(ac:HoldsK aj.aX 4 w g 0 rs.toArray)(ao:g<w.heap.size)(aB:rs.length<=3001):az 173 #[aF g 0 rs.length al,ak rs.length,.func (.func 103) #[] #[]] w fun q aO=>q=.returned (.tuple #[])/\∃n k y,aO=sortWorldK aj.aX 4 w g 0 n y k/\y.toList=ez bF rs:=by
 obtain⟨b,ad⟩:=a2 rs.length;have ah:rs.toArray.size=b:=by rw[ad];simp
 have aa:=af (fun n dk k a d (aM:dk.size=rs.toArray.size) (aK:a<=d) (o:d<=rs.toArray.size)=>TU g al a d n rs.toArray dk k w ac ao aM ae aK o);have ab:=af (fun f=>JY g al rs.toArray w ac ao ae f);have aP:=af (Uc ac);rw[ah]at aa;unfold AT at ab;rw[ah]at ab;rw[<- ad];have a3:b<=3001:=ae;have E:=af (aQ ad (aQ ah aB));clear ac ao aB ad ah;go_enter func173,ntmps173;go_wp2_with fail;go_loopg [7,8] (b+20) (fun am au aw wr=>∃(a t:Nat),au=ak a/\aw=ak (a+20:Nat)/\Hid (a=20*t)/\a<=b/\b+20<=am+a/\Hid (∃n k dk,wr=sortWorldK aj.aX 4 w g 0 n dk k/\dk.size=b/\dk.toList=dH bF 20 (rs.take a)++rs.drop a));case atStart =>(refine⟨0,0,rfl,rfl,rfl,ae,ae,0,#[],rs.toArray,aP,E.2.1,?_⟩;rw[kW,oN];simp)
 case round =>(
 obtain⟨a,t,rfl,rfl,C,ay,aS,D⟩:=hrel;obtain⟨d,o⟩:∃d,a+20=d:=⟨_,rfl⟩;rw[o];by_cases ar:d<=b;{
 have ai:(d:Int)<=(b:Int):=ae;obtain⟨u,r,e,j,h,i⟩:=ag D;have x:=af (aa u e r a d h ae ae);rw[<- j]at x;have z:Hid ((Sort.insertionSort bF e a d).toList=dH bF 20 (rs.take d)++rs.drop d):=by{have q:=ag C;have A:=E.1;have:=JZ (rs:=rs) (dk:=e) (t:=t) (c:=20) (by rw[<- q];exact i) ae ae ae (.inl rfl);rw[<- q,o]at this;exact this};have Z:Hid ((Sort.insertionSort bF e a d).size=b):=by rw[Hid,wl];exact h
 have O:=af o;have aL:d<=3001:=ae;clear j h i o;go_wp2_with fail;refine x.mono ?_;rintro q aD ⟨rfl,J,I,R⟩;have an:=af R;clear R;go_wp2_with fail;go_roundg (gk-20);case measure=>have:=ag O;omega
 case rel =>(have o:=ag O;have q:=ag C;refine⟨d,t+1,jV,jV,by rw[Hid];omega,ar,ae,J,I,_,an,Z,z⟩)};{
 have ai:¬(d:Int)<=(b:Int):=ae;obtain⟨u,r,e,j,h,i⟩:=ag D;have x:=af (aa u e r a b h ay av);rw[<- j]at x;have z:Hid ((Sort.insertionSort bF e a b).toList=dH bF 20 rs):=by{have q:=ag C;have A:=E.1;have:=JZ (rs:=rs) (dk:=e) (t:=t) (c:=b-a) (by rw[<- q];exact i) ae ae ae (.inr ae);rw[<- q,show a+(b-a)=b from ae]at this;rw[Hid,this,A,dK,kN,eu]};have Z:Hid ((Sort.insertionSort bF e a b).size=b):=by rw[Hid,wl];exact h
 clear j h i o;go_wp2_with fail;refine x.mono ?_;rintro q aD ⟨rfl,J,I,R⟩;have an:Hid (∃n k dk,aD=sortWorldK aj.aX 4 w g 0 n dk k/\dk.size=b/\dk.toList=dH bF 20 rs):=⟨J,I,_,R,Z,z⟩;clear R x z Z aa;go_wp2_with fail;go_loopg [6] b (fun am aN wr=>∃(s:Nat),aN=ak s/\20<=s/\s<=6002/\b<=s+am/\Hid (∃n k dk,wr=sortWorldK aj.aX 4 w g 0 n dk k/\dk.size=b/\dk.toList=dH bF s rs));case atStart=>exact⟨20,rfl,ae,ae,ae,an⟩
 case round =>(
 obtain⟨s,rfl,aT,a1,aU,aE⟩:=hrel;by_cases aR:s<b;{
 have aG:(s:Int)<(b:Int):=ae;obtain⟨p,aC⟩:=a2 (2*s);have aV:(2:Int)*s=(p:Int):=ae;have aW:(s:Int)*2=(p:Int):=ae;have aA:p<=6002:=ae;have P:=af aC;have aX:s<p:=ae;clear aC;go_wp2_with fail;go_loopg [7,8] b (fun aJ au aw wr=>∃(a t:Nat),au=ak a/\aw=ak (a+p:Nat)/\Hid (a=2*s*t)/\a<=b/\b<=aJ+a/\Hid (∃n k dk,wr=sortWorldK aj.aX 4 w g 0 n dk k/\dk.size=b/\dk.toList=dH bF (2*s) (rs.take a)++dH bF s (rs.drop a)));case atStart =>(obtain⟨u,r,e,j,h,i⟩:=ag aE;refine⟨0,0,rfl,by first|rfl|(rw[cT])|go_num,rfl,ae,ae,u,r,e,j,h,?_⟩;rw[kW,oN,kg];exact i)
 case round =>(
 obtain⟨a,t,rfl,rfl,C,ay,aY,D⟩:=hrel;obtain⟨d,o⟩:∃d,a+p=d:=⟨_,rfl⟩;rw[o];obtain⟨m,Q⟩:∃m,a+s=m:=⟨_,rfl⟩;have a4:(a:Int)+s=(m:Int):=ae;have a0:m<=6002:=ae;by_cases ar:d<=b;{
 have ai:(d:Int)<=(b:Int):=ae;obtain⟨u,r,e,j,h,i⟩:=ag D;have A:=E.1;have B:=ag P;obtain⟨M,K,L,N,T,U,ap,aq,V,W,X⟩:=J0 (rs:=rs) (dk:=e) (s:=s) (t:=t) (a:=a) (c:=s) ae (ag C) i av ae ae (.inl rfl);have x:=af (ab (d-a) a m d u e r M K L N h T U ae ae ae ae V W av);rw[<- j]at x;have z:Hid (∀y:Array aj,y.toList=M++(bA bF K L++N)->y.size=b/\y.toList=dH bF (2*s) (rs.take d)++dH bF s (rs.drop d)):=fun y G=>by{rw[X,show a+s+s=d from ae]at G;refine⟨?_,G⟩;rw[<- kf,G,a6,tO,tO,de,c8];omega};have O:Hid (a+p=d/\a+s=m):=⟨o,Q⟩;have aL:d<=3001:=ae;clear j h i o Q T U ap aq V W X A B;go_wp2_with fail;refine x.mono ?_;rintro q ax ⟨rfl,J,I,F,S,H⟩;have Y:Hid (∃n k dk,ax=sortWorldK aj.aX 4 w g 0 n dk k/\dk.size=b/\dk.toList=dH bF (2*s) (rs.take d)++dH bF s (rs.drop d)):=⟨J,I,F,S,(z F H).1,(z F H).2⟩;clear S H;go_wp2_with fail;go_roundg (gk-p);case measure=>have:=ag O;have:=ag P;omega
 case rel =>(obtain⟨o,Q⟩:=ag O;have B:=ag P;have q:=ag C;refine⟨d,t+1,jV,jV,by rw[Hid,<- o,q,B,zR],ar,ae,Y⟩)};{
 have ai:¬(d:Int)<=(b:Int):=ae;by_cases aZ:m<b;{
 have aI:(m:Int)<(b:Int):=ae;obtain⟨u,r,e,j,h,i⟩:=ag D;have A:=E.1;have B:=ag P;obtain⟨M,K,L,N,T,U,ap,aq,V,W,X⟩:=J0 (rs:=rs) (dk:=e) (s:=s) (t:=t) (a:=a) (c:=b-m) ae (ag C) i ae ae ae (.inr ae);have x:=af (ab (b-a) a m b u e r M K L N h T U ae ae ae ae V W av);rw[<- j]at x;have z:Hid (∀y:Array aj,y.toList=M++(bA bF K L++N)->y.size=b/\y.toList=dH bF p rs):=fun y G=>by{rw[X,show a+s+(b-m)=b from ae,A,dK,kN,oN,eu,<- B]at G;refine⟨?_,G⟩;rw[<- kf,G,tO];omega};clear j h i o Q T U ap aq V W X A B;go_wp2_with fail;refine x.mono ?_;rintro q ax ⟨rfl,J,I,F,S,H⟩;have Y:Hid (∃n k dk,ax=sortWorldK aj.aX 4 w g 0 n dk k/\dk.size=b/\dk.toList=dH bF p rs):=⟨J,I,F,S,(z F H).1,(z F H).2⟩;clear S H;go_wp2_with fail;go_roundg (b-p);case measure=>omega
 case rel=>exact⟨p,jV,ae,aA,ae,Y⟩};{
 have aI:¬(m:Int)<(b:Int):=ae;have Y:Hid (∃n k dk,wr=sortWorldK aj.aX 4 w g 0 n dk k/\dk.size=b/\dk.toList=dH bF p rs):=by{
 obtain⟨u,r,e,j,h,i⟩:=ag D;have A:=E.1;have B:=ag P;refine⟨u,r,e,j,h,?_⟩;have aH:(rs.drop a).length<=s:=o2
 rw[i,l8 bF aH,<- l8 bF (s:=2*s) (l:=rs.drop a) ae,<- rz bF ae _ t (rs.take a) (by rw[de];have:=ag C;omega),ft,<- B]};clear o Q D;go_wp2_with fail;go_roundg (b-p);case measure=>omega
 case rel=>exact⟨p,jV,ae,aA,ae,Y⟩}})};{have aG:¬(s:Int)<(b:Int):=ae;go_wp2_with fail;go_end0;obtain⟨u,r,e,j,h,i⟩:=ag aE;have A:=E.1;exact⟨rfl,u,r,e,j,by rw[i,l8 bF ae]⟩})})
end
section
open Go.RowKit Go.Sort Go.Shelf
theorem wC(a:List aj):aS a=ez bF a:=by have:=I0 bF l9 rB [] a [] a.toArray am;simp only[cW,cT,dJ,eu]at this;exact this
theorem EP{P:Prop}(h:P:=by go_wp2_with fail;refine fp.mono ?_;rintro e w1 ⟨rfl,hw⟩;have HW:=af hw;clear hw;go_wp2_with fail;go_end0;exact⟨rfl,HW⟩):P:=h
theorem TW(g c:Nat)(a:List aj)(b:World)(h:HoldsK aj.aX 4 b g 0 a.toArray)(i:g<b.heap.size)(j:a.length<=3001):az 102 #[aF g 0 a.length c,.func (.func 103) #[] #[]] b fun e n=>e=.returned (.tuple #[])/\∃l k d,n=sortWorldK aj.aX 4 b g 0 l d k/\d.toList=ez bF a:=by have fp:=af (TV g c a b h i j);clear h;go_enter func102,ntmps102;exact EP
theorem TX(g c:Nat)(a:List aj)(b:World)(h:HoldsK aj.aX 4 b g 0 a.toArray)(i:g<b.heap.size)(j:a.length<=3001):az 59 #[aF g 0 a.length c] b fun e n=>e=.returned (.tuple #[])/\∃l k d,n=sortWorldK aj.aX 4 b g 0 l d k/\d.toList=ez bF a:=by have fp:=af (TW g c a b h i j);clear h;go_enter func59,ntmps59;exact EP
theorem J1(g j:Nat)(a:List aj)(b:World)(p:Array Value)(e:TypeId)(k:b.heap[g]? = some (.cells p e))(d:cy b g 0 a)(w:a.length<=3001):az 59 #[aF g 0 a.length j] b fun e i=>e=.returned (.tuple #[])/\cy i g 0 (aS a)/\∀c h,c<=g->c<=b.heap.size->Below c h b->Below c h i:=by
 refine(TX g j a b (Ip k d) d.1 w).mono ?_;rintro e i ⟨rfl,l,n,q,rfl,o⟩;obtain rfl:q=(aS a).toArray:=by rw[wC,<- o]
 have x:(aS a).toArray.size=a.toArray.size:=by simp[Ir]
 refine⟨rfl,RR (cp d.1 (size_sortWorldK_c aj.aX 4 b g 0 l _ n)) ?_,fun c h r t u=>RV u r t⟩;exact holdsK_sortWorldK_c aj.aX 4 b g 0 a.toArray _ l n (Ip k d) d.1 x
end
theorem AY{α:Type}(lt:α->α->Bool):∀(b a:List α),(bA lt b a).Perm (b++a)
 | [],a=>by cases a<;>simp[bA]
 | c::b,[]=>by simp[bA]
 | c::b,d::a=>by rw[wT];split;{exact((AY lt (c::b) a).cons d).trans (List.perm_middle.symm)};{exact(AY lt b (d::a)).cons c}
termination_by b a=>b.length+a.length
theorem TY{α:Type}(lt:α->α->Bool)(a:List α):(ez lt a).Perm a:=by
 have i:∀(b:Nat) (a:List α),a.length=b->(ez lt a).Perm a:=by{
 intro b;induction b with
 | zero=>intro a c;obtain rfl:a=[]:=df c;exact List.Perm.refl _
 | succ b h =>{
 intro a c;have e:a≠[]:=by rintro rfl;simp at c
 have d:=zx e;have g:a.dropLast.length=b:=aA;conv=>lhs;rw[<- d]
 rw[pI];have:=(AY lt (ez lt a.dropLast) [a.getLast e]).trans ((h _ g).append_right _);rwa [d]at this}};exact i a.length a rfl
theorem l_(a:List aj):(aS a).Perm a:=by rw[wC];exact TY _ a
theorem p4(a:List aj):gD bF (aS a):=by rw[wC];exact tL bF l9 rB a
theorem wE{a s:aj}(c:bF a s=false):Op.bytesLess a.owner s.owner=false/\(a.owner=s.owner->¬a.type<s.type):=by
 have d:¬(Op.bytesLess a.owner s.owner=true\/(a.owner=s.owner/\a.type<s.type)):=fun b=>by rw[(p1 a s).2 b]at c;cases c
 refine⟨?_,fun e g=>d (.inr ⟨e,g⟩)⟩;rw[<- iU];exact fun b=>d (.inl b)
theorem J2{a b d:aj}(k:bF b a=false)(l:bF d b=false)(g:d.owner=a.owner):b.owner=a.owner/\(d.type=a.type->b.type=a.type):=by obtain⟨h,i⟩:=wE k;obtain⟨e,j⟩:=wE l;have c:b.owner=a.owner:=by{rw[g]at e;exact AV _ _ h e};refine⟨c,fun o=>?_⟩;have ap:=i c;have n:=j (g.trans c.symm);omega
theorem AZ{κ:Type}(k:aj->κ)(g:∀b a c:aj,bF a b=false->bF c a=false->k c=k b->k a=k b):∀(h:List aj),gD bF h->ld k h
 | [],_=>aL
 | b::q,n=>by have d:=lO.1 n;refine⟨fun t u l o c p=>?_,AZ k g q d.2⟩;obtain⟨a,e,i⟩:=o;subst l;intro j;have r:=(hO.1 d.2).2.2 a e c p;exact i (g b a c (d.1 a (vC _ e)) r j)
theorem TZ{a:List aj}(c:gD bF a):ld (fun b:aj=>b.owner) a:=AZ _ (fun b h i d e g=>(J2 d e g).1) a c
theorem TJ{a:List aj}(h:gD bF a):ld (fun b:aj=>(b.owner,b.type)) a:=AZ _ (fun b l n i j k=>by
 obtain⟨e,g⟩:=ev k;obtain⟨c,d⟩:=J2 i j e;exact rm c (d g)) a h
theorem le(a b:aj):di a b=true ↔ a.owner=b.owner:=by unfold di;simp
theorem mB(a b:aj):bH a b=true ↔ (a.owner,a.type)=(b.owner,b.type):=by unfold bH;simp
theorem oO{L:List aj}{a:aj}(g:a∈L){d:Nat×List aj}(h:d.2=L.filter (di a)):bO d=a.owner:=by
 unfold bO;rw[h];have c:=dg.2 ⟨g,(le a a).2 rfl⟩;cases b:L.filter (di a)with
 | nil=>rw[b]at c;cases c
 | cons e i =>{
 have:e∈L.filter (di a):=by rw[b];simp
 exact((le a e).1 (dg.1 this).2).symm}
section
variable {L:List aj} (hL:gD bF L)
include hL
theorem oQ:(∀b∈be di L,∃a∈L,b.2.head? = some a/\b.2=L.filter (di a))/\(∀a∈L,∃b∈be di L,b.2=L.filter (di a)) :=
 Bg di le L.length 0 L av (TZ hL)
theorem p5:(∀b∈be bH L,∃a∈L,b.2.head? = some a/\b.2=L.filter (bH a))/\(∀a∈L,∃b∈be bH L,b.2=L.filter (bH a)) :=
 Bg bH mB L.length 0 L av (TJ hL)
theorem TK(h:List aj->Bool):(be bH L).all (fun b=>h b.2)=true ↔ ∀a∈L,h (L.filter (bH a))=true:=by rw[kM];constructor;{intro d a e;obtain⟨b,g,c⟩:=(p5 hL).2 a e;rw[<- c];exact d b g};{intro d b g;obtain⟨a,e,_,c⟩:=(p5 hL).1 b g;rw[c];exact d a e}
theorem TL(h:ah->List aj->Bool):(be di L).all (fun b=>h (bO b) b.2)=true ↔ ∀a∈L,h a.owner (L.filter (di a))=true:=by rw[kM];constructor;{intro e a d;obtain⟨b,g,c⟩:=(oQ hL).2 a d;rw[<- c,<- oO d c];exact e b g};{intro e b g;obtain⟨a,d,_,c⟩:=(oQ hL).1 b g;rw[oO d c,c];exact e a d}
theorem J3(e:ah):cM L e=L.filter (fun b=>b.owner==e):=by
 unfold cM;cases g:(be di L).find? (fun a=>bO a==e)with
 | some a =>{
 have j:=zB g;obtain⟨b,d,_,c⟩:=(oQ hL).1 a (th g);have i:b.owner=e:=by rw[<- oO d c];simpa using j
 show a.2=_;rw[c];congr 1;funext y;rw[i0,le,i,dE];exact eq_comm}
 | none =>{show []=_;symm;rw[i2];intro b d h;obtain⟨a,k,c⟩:=(oQ hL).2 b d;have:=zA.1 g a k;rw[oO d c]at this;exact this h}
theorem wF(b:ah):rE L b=true ↔ ∀a∈L,dU a.owner b=true->i5 a.owner=false/\∀s∈L,s.owner=a.owner->s.type=(if a.owner=b then 2 else 1):=by
 unfold rE km;rw[kM];constructor;{
 intro k a g w;obtain⟨j,n,c⟩:=(oQ hL).2 a g;have e:=oO g c;have:=k j (dg.2 ⟨n,by rw[e];exact w⟩);unfold ln at this;rw[bW,e]at this;refine⟨by simpa using this.1,fun s i y=>?_⟩;have h:=this.2;rw[lS,<- iU,hM]at h;have r:s∈j.2:=by rw[c];exact dg.2 ⟨i,(le a s).2 y.symm⟩
 have h3:i9 (if a.owner==b then 2 else 1) s=false:=by{rw[<- iU];exact fun d=>h ⟨s,r,d⟩};unfold i9 at h3;have q:s.type=(if a.owner==b then 2 else 1):=yM
 rw[q];by_cases l:a.owner=b<;>simp[l]};{intro k j n;obtain⟨x,o⟩:=dg.1 n;obtain⟨a,g,_,c⟩:=(oQ hL).1 j x;have e:=oO g c;rw[e]at o;obtain⟨p,h⟩:=k a g o;unfold ln;rw[bW,e];refine⟨by rw[p];rfl,?_⟩;rw[lS,<- iU,hM];rintro⟨s,i,d⟩;rw[c]at i;obtain⟨t,u⟩:=dg.1 i;have h3:=h s t ((le a s).1 u).symm;unfold i9 at d;rw[h3]at d;by_cases l:a.owner=b<;>simp[l]at d}
end
end Go.Proofs.YtkkpahmoljiepaaGreatDoor
