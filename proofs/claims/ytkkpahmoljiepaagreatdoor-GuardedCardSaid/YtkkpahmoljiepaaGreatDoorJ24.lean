import Derived.Test.YtkkpahmoljiepaaGreatDoorJ23
set_option maxRecDepth 1000000
set_option maxHeartbeats 12800000
set_option linter.unusedSimpArgs false
set_option linter.unusedVariables false
namespace Go.Proofs.YtkkpahmoljiepaaGreatDoor
open Go.RowKit Go.Proofs.Tryz
section
open Go.RowKit Go.Sort Go.Shelf
theorem HM(s:Nat)(l:List aj):(fC bn s l).length=l.length:=Zd bn s _ l aB
theorem Zf{rs:List aj}{dk:Array aj}{t c:Nat}(hl:dk.toList=fC bn 20 (rs.take (20*t))++rs.drop (20*t))(h:20*t<=rs.length)(hc:c<=20)(hc2:20*t+c<=rs.length)(hc3:c=20\/20*t+c=rs.length) :
  (Sort.insertionSort bn dk (20*t) (20*t+c)).toList=fC bn 20 (rs.take (20*t+c))++rs.drop (20*t+c):=by
 have bZ:(fC bn 20 (rs.take (20*t))).length=20*t:=by rw[HM,jU];omega
 have hC:((rs.drop (20*t)).take c).length=c:=by rw[jU,iW];omega
 have:=YQ bn wD EF (fC bn 20 (rs.take (20*t))) ((rs.drop (20*t)).take c) ((rs.drop (20*t)).drop c) dk (by rw[hl,jH]);rw[bZ,hC]at this;rw[this,qE,<- g_];congr 1;rw[MI,EE bn ae _ t _ (by rw[jU];omega),wC bn (l:=(rs.drop (20*t)).take c) (by rw[hC];exact hc)]
theorem Zg{rs:List aj}{dk:Array aj}{s t a c:Nat}(hs:0<s)(ha:a=2*s*t)(hl:dk.toList=fC bn (2*s) (rs.take a)++fC bn s (rs.drop a))(hc:c<=s)(h0:0<c)(hn:a+s+c<=rs.length)(hc3:c=s\/a+s+c=rs.length) :
  ∃X A' B' Z,dk.toList=X++(A'++(B'++Z))/\X.length=a/\A'.length=s/\B'.length=c/\fh bn A'/\fh bn B'/\X++(dE bn A' B'++Z)=fC bn (2*s) (rs.take (a+s+c))++fC bn s (rs.drop (a+s+c)):=by
 have e1:rs.drop a=(rs.drop a).take s++((rs.drop (a+s)).take c++rs.drop (a+s+c)):=by{rw[<- qE (i:=c),jH,<- qE (i:=s),jH]};have l1:((rs.drop a).take s).length=s:=by rw[jU,iW];omega
 have l2:((rs.drop (a+s)).take c).length=c:=by rw[jU,iW];omega
 have e3:rs.take (a+s+c)=rs.take a++((rs.drop a).take s++(rs.drop (a+s)).take c):=by{rw[MI,MI,g_]};generalize (rs.drop a).take s=C1 at *;generalize (rs.drop (a+s)).take c=C2 at *;have lx:(fC bn (2*s) (rs.take a)).length=a:=by rw[HM,jU];omega
 refine⟨fC bn (2*s) (rs.take a),gJ bn C1,gJ bn C2,fC bn s (rs.drop (a+s+c)),?_,lx,by rw[Ht,l1],by rw[Ht,l2],Hu bn wD EF _,Hu bn wD EF _,?_⟩;{rw[hl,e1,akX bn hs l1];congr 2;rcases hc3 with hc3|hc3;{rw[EE bn hs _ 1 C2 ae,wC bn (l:=C2) ae]};{rw[show rs.drop (a+s+c) = []from pJ ae,zI,jt,jt,wC bn ae]}};{rw[e3,EE bn ae _ t (rs.take a) (by rw[jU];omega),wC bn (l:=C1++C2) (by rw[bU];omega),akp bn wD,g_]}
theorem akZ(g cap:Nat)(rs:List aj)(w:World)(hH:HoldsK aj.aN 4 w g 0 rs.toArray)(hg:g<w.heap.size)(hl:rs.length<=3001) :
  aF 173 #[aU g 0 rs.length cap,aq rs.length,.func (.func 103) #[] #[]] w fun e w' =>
   e=.returned (.tuple #[])/\∃q os d',w'=sortWorldK aj.aN 4 w g 0 q d' os/\d'.toList=gJ bn rs:=by
 obtain⟨n,hn⟩:=bP rs.length;have hsz:rs.toArray.size=n:=by rw[hn];simp
 have Lj:=ag (fun q dk os a b (hs:dk.size=rs.toArray.size) (hab:a<=b) (hb:b<=rs.toArray.size)=>akY g cap a b q rs.toArray dk os w hH hg hs ae hab hb);have Lk:=ag (fun f=>Ze g cap rs.toArray w hH hg ae f);have tk:=ag (akw hH);rw[hsz]at Lj;unfold Qx at Lk;rw[hsz]at Lk;rw[<- hn];have Kv:n<=3001:=ae;have dv:=ag (bQ hn (bQ hsz hl));clear hH hg hl hn hsz;go_enter func173,ntmps173;go_wp2_with fail;go_loopg [7,8] (n+20) (fun g1 va vb wr=>∃(a t:Nat),va=aq a/\vb=aq (a+20:Nat)/\Hid (a=20*t)/\a<=n/\n+20<=g1+a/\Hid (∃q os dk,wr=sortWorldK aj.aN 4 w g 0 q dk os/\dk.size=n/\dk.toList=fC bn 20 (rs.take a)++rs.drop a));case atStart =>(refine⟨0,0,rfl,rfl,rfl,ae,ae,0,#[],rs.toArray,tk,dv.2.1,?_⟩;rw[IU,zI];simp)
 case round =>(
 obtain⟨a,t,rfl,rfl,hat,Zh,gQ,HW⟩:=hrel;obtain⟨b,hb⟩:∃b,a+20=b:=⟨_,rfl⟩;rw[hb];by_cases tS:b<=n;{
 have Cf:(b:Int)<=(n:Int):=ae;obtain⟨q1,os1,d1,hwr,hs1,dg⟩:=af HW;have HC:=ag (Lj q1 d1 os1 a b hs1 ae ae);rw[<- hwr]at HC;have jh:Hid ((Sort.insertionSort bn d1 a b).toList=fC bn 20 (rs.take b)++rs.drop b):=by{have e:=af hat;have jc:=dv.1;have:=Zf (rs:=rs) (dk:=d1) (t:=t) (c:=20) (by rw[<- e];exact dg) ae ae ae (.inl rfl);rw[<- e,hb]at this;exact this};have Ej:Hid ((Sort.insertionSort bn d1 a b).size=n):=by rw[Hid,JI];exact hs1
 have aZ:=ag hb;have hb3:b<=3001:=ae;clear hwr hs1 dg hb;go_wp2_with fail;refine HC.mono ?_;rintro e w2 ⟨rfl,q2,os2,hw2⟩;have xU:=ag hw2;clear hw2;go_wp2_with fail;go_roundg (gk - 20);case measure=>have:=af aZ;omega
 case rel =>(have hb:=af aZ;have e:=af hat;refine⟨b,t+1,by first|rfl|go_num,by first|rfl|go_num,by rw[Hid];omega,tS,ae,q2,os2,_,xU,Ej,jh⟩)};{
 have Cf:¬(b:Int)<=(n:Int):=ae;obtain⟨q1,os1,d1,hwr,hs1,dg⟩:=af HW;have HC:=ag (Lj q1 d1 os1 a n hs1 Zh aB);rw[<- hwr]at HC;have jh:Hid ((Sort.insertionSort bn d1 a n).toList=fC bn 20 rs):=by{have e:=af hat;have jc:=dv.1;have:=Zf (rs:=rs) (dk:=d1) (t:=t) (c:=n - a) (by rw[<- e];exact dg) ae ae ae (.inr ae);rw[<- e,show a+(n - a)=n from ae]at this;rw[Hid,this,jc,jV,x_,jt]};have Ej:Hid ((Sort.insertionSort bn d1 a n).size=n):=by rw[Hid,JI];exact hs1
 clear hwr hs1 dg hb;go_wp2_with fail;refine HC.mono ?_;rintro e w2 ⟨rfl,q2,os2,hw2⟩;have xU:Hid (∃q os dk,w2=sortWorldK aj.aN 4 w g 0 q dk os/\dk.size=n/\dk.toList=fC bn 20 rs):=⟨q2,os2,_,hw2,Ej,jh⟩;clear hw2 HC jh Ej Lj;go_wp2_with fail;go_loopg [6] n (fun g1 vs wr=>∃(s:Nat),vs=aq s/\20<=s/\s<=6002/\n<=s+g1/\Hid (∃q os dk,wr=sortWorldK aj.aN 4 w g 0 q dk os/\dk.size=n/\dk.toList=fC bn s rs));case atStart=>exact⟨20,rfl,ae,ae,ae,xU⟩
 case round =>(
 obtain⟨s,rfl,arH,HN,arI,Zi⟩:=hrel;by_cases Kg:s<n;{
 have QD:(s:Int)<(n:Int):=ae;obtain⟨s2,hs2⟩:=bP (2*s);have arJ:(2:Int)*s=(s2:Int):=ae;have arK:(s:Int)*2=(s2:Int):=ae;have Zj:s2<=6002:=ae;have dO:=ag hs2;have arL:s<s2:=ae;clear hs2;go_wp2_with fail;go_loopg [7,8] n (fun g2 va vb wr=>∃(a t:Nat),va=aq a/\vb=aq (a+s2:Nat)/\Hid (a=2*s*t)/\a<=n/\n<=g2+a/\Hid (∃q os dk,wr=sortWorldK aj.aN 4 w g 0 q dk os/\dk.size=n/\dk.toList=fC bn (2*s) (rs.take a)++fC bn s (rs.drop a)));case atStart =>(obtain⟨q1,os1,d1,hwr,hs1,dg⟩:=af Zi;refine⟨0,0,rfl,by first|rfl|(rw[kR])|go_num,rfl,ae,ae,q1,os1,d1,hwr,hs1,?_⟩;rw[IU,zI,zW];exact dg)
 case round =>(
 obtain⟨a,t,rfl,rfl,hat,Zh,arM,HW⟩:=hrel;obtain⟨b,hb⟩:∃b,a+s2=b:=⟨_,rfl⟩;rw[hb];obtain⟨m,hm⟩:∃m,a+s=m:=⟨_,rfl⟩;have vC:(a:Int)+s=(m:Int):=ae;have cI:m<=6002:=ae;by_cases tS:b<=n;{
 have Cf:(b:Int)<=(n:Int):=ae;obtain⟨q1,os1,d1,hwr,hs1,dg⟩:=af HW;have jc:=dv.1;have e2:=af dO;obtain⟨X,A',B',Z,k1,k2,k3,k4,k5,k6,k7⟩:=Zg (rs:=rs) (dk:=d1) (s:=s) (t:=t) (a:=a) (c:=s) ae (af hat) dg aB ae ae (.inl rfl);have HC:=ag (Lk (b - a) a m b q1 d1 os1 X A' B' Z hs1 k1 k2 ae ae ae ae k5 k6 aB);rw[<- hwr]at HC;have jh:Hid (∀d':Array aj,d'.toList=X++(dE bn A' B'++Z)->d'.size=n/\d'.toList=fC bn (2*s) (rs.take b)++fC bn s (rs.drop b)):=fun d' h'=>by{rw[k7,show a+s+s=b from ae]at h';refine⟨?_,h'⟩;rw[<- qC,h',bU,HM,HM,jU,iW];omega};have aZ:Hid (a+s2=b/\a+s=m):=⟨hb,hm⟩;have hb3:b<=3001:=ae;clear hwr hs1 dg hb hm k1 k2 k3 k4 k5 k6 k7 jc e2;go_wp2_with fail;refine HC.mono ?_;rintro e w3 ⟨rfl,q2,os2,d2,hw3,hl3⟩;have HP:Hid (∃q os dk,w3=sortWorldK aj.aN 4 w g 0 q dk os/\dk.size=n/\dk.toList=fC bn (2*s) (rs.take b)++fC bn s (rs.drop b)):=⟨q2,os2,d2,hw3,(jh d2 hl3).1,(jh d2 hl3).2⟩;clear hw3 hl3;go_wp2_with fail;go_roundg (gk - s2);case measure=>have:=af aZ;have:=af dO;omega
 case rel =>(obtain⟨hb,hm⟩:=af aZ;have e2:=af dO;have e:=af hat;refine⟨b,t+1,by first|rfl|go_num,by first|rfl|go_num,by rw[Hid,<- hb,e,e2,MK],tS,ae,HP⟩)};{
 have Cf:¬(b:Int)<=(n:Int):=ae;by_cases hmn:m<n;{
 have ak0:(m:Int)<(n:Int):=ae;obtain⟨q1,os1,d1,hwr,hs1,dg⟩:=af HW;have jc:=dv.1;have e2:=af dO;obtain⟨X,A',B',Z,k1,k2,k3,k4,k5,k6,k7⟩:=Zg (rs:=rs) (dk:=d1) (s:=s) (t:=t) (a:=a) (c:=n - m) ae (af hat) dg ae ae ae (.inr ae);have HC:=ag (Lk (n - a) a m n q1 d1 os1 X A' B' Z hs1 k1 k2 ae ae ae ae k5 k6 aB);rw[<- hwr]at HC;have jh:Hid (∀d':Array aj,d'.toList=X++(dE bn A' B'++Z)->d'.size=n/\d'.toList=fC bn s2 rs):=fun d' h'=>by{rw[k7,show a+s+(n - m)=n from ae,jc,jV,x_,zI,jt,<- e2]at h';refine⟨?_,h'⟩;rw[<- qC,h',HM];omega};clear hwr hs1 dg hb hm k1 k2 k3 k4 k5 k6 k7 jc e2;go_wp2_with fail;refine HC.mono ?_;rintro e w3 ⟨rfl,q2,os2,d2,hw3,hl3⟩;have HP:Hid (∃q os dk,w3=sortWorldK aj.aN 4 w g 0 q dk os/\dk.size=n/\dk.toList=fC bn s2 rs):=⟨q2,os2,d2,hw3,(jh d2 hl3).1,(jh d2 hl3).2⟩;clear hw3 hl3;go_wp2_with fail;go_roundg (n - s2);case measure=>omega
 case rel=>exact⟨s2,by first|rfl|go_num,ae,Zj,ae,HP⟩};{
 have ak0:¬(m:Int)<(n:Int):=ae;have HP:Hid (∃q os dk,wr=sortWorldK aj.aN 4 w g 0 q dk os/\dk.size=n/\dk.toList=fC bn s2 rs):=by{
 obtain⟨q1,os1,d1,hwr,hs1,dg⟩:=af HW;have jc:=dv.1;have e2:=af dO;refine⟨q1,os1,d1,hwr,hs1,?_⟩;have ak1:(rs.drop a).length<=s:=by rw[iW];omega
 rw[dg,wC bn ak1,<- wC bn (s:=2*s) (l:=rs.drop a) ae,<- EE bn ae _ t (rs.take a) (by rw[jU];have:=af hat;omega),jH,<- e2]};clear hb hm HW;go_wp2_with fail;go_roundg (n - s2);case measure=>omega
 case rel=>exact⟨s2,by first|rfl|go_num,ae,Zj,ae,HP⟩}})};{have QD:¬(s:Int)<(n:Int):=ae;go_wp2_with fail;go_end0;obtain⟨q1,os1,d1,hwr,hs1,dg⟩:=af Zi;have jc:=dv.1;exact⟨rfl,q1,os1,d1,hwr,by rw[dg,wC bn ae]⟩})})
end
section
open Go.RowKit Go.Sort Go.Shelf
theorem Ll(rs:List aj):aQ rs=gJ bn rs:=by have:=YQ bn wD EF [] rs [] rs.toArray ak;simp only[fV,kR,fF,jt]at this;exact this
theorem ak2(g cap:Nat)(rs:List aj)(w:World)(hH:HoldsK aj.aN 4 w g 0 rs.toArray)(hg:g<w.heap.size)(hl:rs.length<=3001) :
  aF 102 #[aU g 0 rs.length cap,.func (.func 103) #[] #[]] w fun e w' =>
   e=.returned (.tuple #[])/\∃q os d',w'=sortWorldK aj.aN 4 w g 0 q d' os/\d'.toList=gJ bn rs:=by have fp:=ag (akZ g cap rs w hH hg hl);clear hH;go_enter func102,ntmps102;go_wp2_with fail;refine fp.mono ?_;rintro e w1 ⟨rfl,hw⟩;have HW:=ag hw;clear hw;go_wp2_with fail;go_end0;exact⟨rfl,HW⟩
theorem ak3(g cap:Nat)(rs:List aj)(w:World)(hH:HoldsK aj.aN 4 w g 0 rs.toArray)(hg:g<w.heap.size)(hl:rs.length<=3001) :
  aF 59 #[aU g 0 rs.length cap] w fun e w' =>
   e=.returned (.tuple #[])/\∃q os d',w'=sortWorldK aj.aN 4 w g 0 q d' os/\d'.toList=gJ bn rs:=by have fp:=ag (ak2 g cap rs w hH hg hl);clear hH;go_enter func59,ntmps59;go_wp2_with fail;refine fp.mono ?_;rintro e w1 ⟨rfl,hw⟩;have HW:=ag hw;clear hw;go_wp2_with fail;go_end0;exact⟨rfl,HW⟩
theorem Zk(g cap:Nat)(rs:List aj)(w:World)(cur:Array Value)(e:TypeId)(hc:w.heap[g]? = some (.cells cur e))(hr:dz w g 0 rs)(hl:rs.length<=3001) :
  aF 59 #[aU g 0 rs.length cap] w fun e w' =>
   e=.returned (.tuple #[])/\dz w' g 0 (aQ rs)/\∀B a,B<=g->B<=w.heap.size->Below B a w->Below B a w':=by
 refine(ak3 g cap rs w (UR hc hr) hr.1 hl).mono ?_;rintro e w' ⟨rfl,n,os,d',rfl,aD⟩;obtain rfl:d'=(aQ rs).toArray:=by rw[Ll,<- aD]
 have hs:(aQ rs).toArray.size=rs.toArray.size:=by simp[UU]
 refine⟨rfl,aeV (eQ hr.1 (size_sortWorldK_c aj.aN 4 w g 0 n _ os)) ?_,fun B a h1 h2 h3=>aeZ h3 h1 h2⟩;exact holdsK_sortWorldK_c aj.aN 4 w g 0 rs.toArray _ n os (UR hc hr) hr.1 hs
end
theorem QE{α:Type}(lt:α->α->Bool):∀(A B:List α),(dE lt A B).Perm (A++B)
 | [],B=>by cases B <;> simp[dE]
 | a :: A,[]=>by simp[dE]
 | a :: A,b :: B=>by rw[K8];split;{exact((QE lt (a :: A) B).cons b).trans (List.perm_middle.symm)};{exact(QE lt A (b :: B)).cons a}
termination_by A B=>A.length+B.length
theorem ak4{α:Type}(lt:α->α->Bool)(l:List α):(gJ lt l).Perm l:=by
 have key:∀(n:Nat) (l:List α),l.length=n->(gJ lt l).Perm l:=by{
 intro n;induction n with
 | zero=>intro l h;obtain rfl:l = []:=gS h;exact List.Perm.refl _
 | succ n ih =>{
 intro l h;have hne:l≠[]:=by rintro rfl;simp at h
 have e:=Sl hne;have hl:l.dropLast.length=n:=aX;conv=>lhs;rw[<- e]
 rw[Ce];have:=(QE lt (gJ lt l.dropLast) [l.getLast hne]).trans ((ih _ hl).append_right _);rwa [e]at this}};exact key l.length l rfl
theorem zJ(rs:List aj):(aQ rs).Perm rs:=by rw[Ll];exact ak4 _ rs
theorem Lm(rs:List aj):fh bn (aQ rs):=by rw[Ll];exact Hu bn wD EF rs
theorem Ln{r s:aj}(h:bn r s=false):Op.bytesLess r.owner s.owner=false/\(r.owner=s.owner->¬r.type<s.type):=by
 have hn:¬(Op.bytesLess r.owner s.owner=true\/(r.owner=s.owner/\r.type<s.type)):=fun hc=>by rw[(Cj r s).2 hc]at h;cases h
 refine⟨?_,fun e hl=>hn (.inr ⟨e,hl⟩)⟩;rw[<- zU];exact fun hc=>hn (.inl hc)
theorem Zl{r x y:aj}(h1:bn x r=false)(h2:bn y x=false)(he:y.owner=r.owner):x.owner=r.owner/\(y.type=r.type->x.type=r.type):=by obtain⟨a1,a2⟩:=Ln h1;obtain⟨b1,b2⟩:=Ln h2;have ho:x.owner=r.owner:=by{rw[he]at b1;exact QC _ _ a1 b1};refine⟨ho,fun ht=>?_⟩;have az:=a2 ho;have c2:=b2 (he.trans ho.symm);omega
theorem QF{κ:Type}(k:aj->κ)(hk:∀r x y:aj,bn x r=false->bn y x=false->k y=k r->k x=k r):∀(l:List aj),fh bn l->tj k l
 | [],_=>aY
 | r :: t,h=>by have hp:=wN.1 h;refine⟨fun a b e hx y hy=>?_,QF k hk t hp.2⟩;obtain⟨x,Zm,ak5⟩:=hx;subst e;intro ak6;have kL:=(om.1 hp.2).2.2 x Zm y hy;exact ak5 (hk r x y (hp.1 x (Sx _ Zm)) kL ak6)
theorem ak7{l:List aj}(h:fh bn l):tj (fun r:aj=>r.owner) l:=QF _ (fun r x y h1 h2 he=>(Zl h1 h2 he).1) l h
theorem ak8{l:List aj}(h:fh bn l):tj (fun r:aj=>(r.owner,r.type)) l:=QF _ (fun r x y h1 h2 he=>by
 obtain⟨e1,e2⟩:=gK he;obtain⟨a,b⟩:=Zl h1 h2 e1;exact SI a (b e2)) l h
theorem Lp(a b:aj):dw a b=true ↔ a.owner=b.owner:=by unfold dw;simp
theorem HQ(a b:aj):bJ a b=true ↔ (a.owner,a.type)=(b.owner,b.type):=by unfold bJ;simp
theorem Lq{L:List aj}{r:aj}(hr:r∈L){x:Nat×List aj}(hx:x.2=L.filter (dw r)):cO x=r.owner:=by
 unfold cO;rw[hx];have hm:r∈L.filter (dw r):=je.2 ⟨hr,(Lp r r).2 rfl⟩;cases hf:L.filter (dw r)with
 | nil=>rw[hf]at hm;cases hm
 | cons y t =>{
 have:y∈L.filter (dw r):=by rw[hf];simp
 exact((Lp r y).1 (je.1 this).2).symm}
section
variable {L:List aj} (hL:fh bn L)
include hL
theorem Lr:(∀x∈bC dw L,∃r∈L,x.2.head? = some r/\x.2=L.filter (dw r))/\(∀r∈L,∃x∈bC dw L,x.2=L.filter (dw r)) :=
 Qk dw Lp L.length 0 L aB (ak7 hL)
theorem QG:(∀x∈bC bJ L,∃r∈L,x.2.head? = some r/\x.2=L.filter (bJ r))/\(∀r∈L,∃x∈bC bJ L,x.2=L.filter (bJ r)) :=
 Qk bJ HQ L.length 0 L aB (ak8 hL)
theorem ak9(n:ai):cK L n=L.filter (fun r=>r.owner == n):=by
 unfold cK;cases hf:(bC dw L).find? (fun x=>cO x == n)with
 | some x =>{
 have hp:=Sn hf;obtain⟨r,hr,_,e⟩:=(Lr hL).1 x (IK hf);have ho:r.owner=n:=by rw[<- Lq hr e];simpa using hp
 show x.2=_;rw[e];congr 1;funext y;rw[tB,Lp,ho,iv];exact eq_comm}
 | none =>{show []=_;symm;rw[qG];intro r hr hc;obtain⟨x,hx,e⟩:=(Lr hL).2 r hr;have:=Sm.1 hf x hx;rw[Lq hr e]at this;exact this hc}
end
theorem QH(s:ai):0<(aS 46 s).length:=by
 have:=Am 46 s;cases h:aS 46 s with
 | nil=>exact absurd h this
 | cons a t=>simp
def EG(rs:List aj)(ns:List ai)(t:Int):Bool:=rs.any fun r=>decide (aS 46 r.owner=ns) && (t == 255 || r.type == t)
theorem ak_(n:ai):dU n n=true:=by unfold dU;simp
def wE(c:UInt8):UInt8:=if c=80 then 46 else c
def Ls(c:UInt8):UInt8:=if c=46 then 80 else c
def dL(t:ai):List ai:=(aS 46 t).map (List.map wE)
theorem Lt:∀(f:Nat) (l:ai),l.length<=f->∀x∈aS 46 l,(46:UInt8) ∉ x/\∀c∈x,c∈l
 | f,l,h,x,hx=>by
  rcases rK 46 l with⟨h1,e⟩|⟨a,b,e0,h1,e⟩;{
  rw[e]at hx;obtain rfl:x=l:=by simpa using hx
  exact⟨h1,fun _ h=>h⟩};{
  rw[e]at hx;rcases eK.1 hx with rfl|hx;{exact⟨h1,fun c hc=>by rw[e0];exact Sx _ hc⟩};{
  match f,h with
  | 0,h=>rw[e0]at h;simp at h
  | f+1,h =>{have ih:=Lt f b (by rw[e0]at h;simp at h;omega) x hx;exact⟨ih.1,fun c hc=>by rw[e0];exact MB _ (nB _ (ih.2 c hc))⟩}}}
theorem QI:∀(f:Nat) (y:ai) (c:UInt8),y.length<=f->c∈y->c=46\/∃l∈aS 46 y,c∈l
 | f,y,c,hf,hc=>by
  rcases rK 46 y with⟨_,e⟩|⟨a,b,e0,_,e⟩;{exact .inr ⟨y,by rw[e];simp,hc⟩};{
  rw[e0]at hc;rcases kP.1 hc with h|h;{exact .inr ⟨a,by rw[e];simp,h⟩};{
  rcases eK.1 h with h|h;{exact .inl h};{
  match f,hf with
  | 0,hf=>rw[e0]at hf;simp at hf
  | f+1,hf =>{rcases QI f b c (by rw[e0]at hf;simp at hf;omega) h with h|⟨l,h1,h2⟩;{exact .inl h};{exact .inr ⟨l,by rw[e];exact nB _ h1,h2⟩}}}}}
theorem Lu(t:ai):(dL t).length=(aS 46 t).length:=by simp[dL]
theorem ala(t:ai):dL t≠[]:=fun h=>Am 46 t (by simpa [dL]using h)
theorem HR(a:ai):(dL a).map (List.map Ls)=aS 46 a:=by
 unfold dL;rw[pK];conv=>rhs;rw[<- CO (aS 46 a)]
 refine rP (fun x hx=>?_);have h1:=(Lt _ a aB x hx).1;show(x.map wE).map Ls=x;rw[pK];conv=>rhs;rw[<- CO x]
 refine rP (fun c hc=>?_);show Ls (wE c)=c;have hc':c≠46:=fun e=>h1 (e ▸ hc);unfold wE;split;{rename_i h;subst h;rfl};{unfold Ls;rw[aG hc']}
theorem Zn{a b:ai}(h:dL a=dL b):a=b:=YH (by rw[<- HR a,<- HR b,h])
theorem alb{a b:ai} : dL a=dL b ↔ a=b:=⟨Zn,fun h=>by rw[h]⟩
theorem QJ{t:ai}(h:(80:UInt8) ∉ t):dL t=aS 46 t:=by
 unfold dL;conv=>rhs;rw[<- CO (aS 46 t)]
 refine rP (fun x hx=>?_);show x.map wE=x;conv=>rhs;rw[<- CO x]
 refine rP (fun c hc=>?_);have:c≠80:=fun e=>h (e ▸ (Lt _ t aB x hx).2 c hc);unfold wE;rw[aG this];rfl
theorem bS{r n:ai}(h:(80:UInt8) ∉ r):aS 46 r=dL n ↔ r=n:=by rw[<- QJ h];exact alb
theorem alc(l o:ai)(k:Nat):(dL l).drop k=dL o ↔ (aS 46 l).drop k=aS 46 o:=by constructor;{intro h;rw[<- HR l,<- HR o,<- h,Mz]};{intro h;unfold dL;rw[<- h,Mz]}
theorem ald(l o:ai):Ca (dL l) (dL o)=dU l o:=by rw[<- YJ];unfold Ca;rw[Lu,Lu,tB];simp only[fo,Af,alc]
theorem QK{r:ai}(h:(80:UInt8) ∉ r)(n:ai):Ca (aS 46 r) (dL n)=dU r n:=by rw[<- QJ h];exact ald r n
theorem ale(a:ai):dL (42 :: 46 :: a) = [42] :: dL a:=by unfold dL;have:aS 46 (42 :: 46 :: a) = [42] :: aS 46 a:=YG 46 a [42];rw[this];rfl
def gm(rs:List aj)(n:ai)(k:Int):List aj:=rs.filter fun r=>r.owner == n && r.type == k
def kO(rs:List aj)(n:ai)(t:Int):List aj:=if t=255 then(List.range 17).flatMap fun k:Nat=>gm rs n (k:Int)else gm rs n t
def uJ(rs:List aj):Prop:=∀r∈rs,1<=r.type/\r.type<=16/\(80:UInt8) ∉ r.owner
theorem Zo{α:Type}(lt:α->α->Bool)(hw:lH lt)(p:α->Bool)(x:α):∀(S:List α),fh lt S->(∀a∈S,p a=true->p x=true->lt x a=false)->(dE lt S [x]).filter p=S.filter p++[x].filter p
 | [],_,_=>by simp
 | a :: S,hs,h=>by rw[K8];have hs':=wN.1 hs;split;{rename_i hl;rw[K7];by_cases hx:p x=true;{have h0:(a :: S).filter p = []:=by{rw[qG];intro y hy hp;have h1:=h y hy hp hx;rcases eK.1 hy with rfl|hy';{rw[hl]at h1;cases h1};{have:=hw.nt _ _ _ h1 (hs'.1 y hy');rw[hl]at this;cases this}};rw[qF hx,h0];simp[hx]};{rw[tF (by simpa using hx)];simp[hx]}};{have ih:=Zo lt hw p x S hs'.2 (fun y hy=>h y (nB _ hy));by_cases ha:p a=true;{rw[qF ha,ih,qF ha];rfl};{rw[tF (a:=a) (by simpa using ha),ih,tF (a:=a) (by simpa using ha)]}}
theorem alf{α:Type}(lt:α->α->Bool)(hw:lH lt)(ir:∀x,lt x x=false)(p:α->Bool)(h:∀a x,p a=true->p x=true->lt x a=false)(l:List α):(gJ lt l).filter p=l.filter p:=by
 have key:∀(n:Nat) (l:List α),l.length=n->(gJ lt l).filter p=l.filter p:=by{
 intro n;induction n with
 | zero=>intro l hl;obtain rfl:l = []:=gS hl;rfl
 | succ n ih =>{
 intro l hl;have hne:l≠[]:=by rintro rfl;simp at hl
 have e:=Sl hne;have aD:l.dropLast.length=n:=aX;rw[<- e,Ce,Zo lt hw p _ _ (Hu lt hw ir _) (fun a _=>h a _),ih _ aD,tE]}};exact key l.length l rfl
theorem QL(rs:List aj)(n:ai)(k:Int):gm (aQ rs) n k=gm rs n k:=by unfold gm;rw[Ll];refine alf bn wD EF _ (fun a x ha hx=>?_) rs;simp only[fo,iv]at ha hx;rw[<- zU];intro hl;rcases(Cj x a).1 hl with h|⟨_,h⟩;{rw[ha.1,hx.1,Li]at h;cases h};{rw[ha.2,hx.2]at h;omega}
theorem QM{L:List aj}(n:ai)(k:Int):(L.filter fun r=>r.owner == n).filter (fun r=>r.type == k)=gm L n k:=by unfold gm;rw[List.filter_filter];congr 1;funext r;rw[Bool.and_comm]
theorem alg{L:List aj}(h:fh bn L)(p:aj->Bool):fh bn (L.filter p):=abX p h
section
variable {F:List aj} (hF:fh bn F) (hn : ∀ a∈F,∀ b∈F,a.owner=b.owner)
include hF
theorem QN{x:Nat×List aj}(hx:x∈bC bJ F):(∀r∈x.2,r.type=lO x)/\x.2≠[]/\(∀r∈x.2,r∈F):=by
 obtain⟨r,hr,hh,e⟩:=(QG hF).1 x hx;have ht:lO x=r.type:=by{
 unfold lO;cases hx:x.2 with
 | nil=>rw[hx]at hh;cases hh
 | cons y t =>{
 rw[hx]at hh;have:y=r:=by simpa using hh
 rw[<- this];rfl}};refine⟨fun s hs=>?_,?_,fun s hs=>?_⟩;{rw[e]at hs;have:=(gK ((HQ r s).1 (je.1 hs).2)).2;rw[ht,this]};{intro h0;rw[h0]at hh;cases hh};{rw[e]at hs;exact(je.1 hs).1}
theorem Lv(t:Int):jz t F=if t=255 then F else F.filter (fun r=>r.type == t):=by
 have Lx:=FW bJ F.length 0 F aB;unfold jz mv;split;{rename_i h;rw[zX.2 (fun x _=>by unfold kh;simp[h])];exact Lx};{
 rename_i h;have key:∀(l:List (Nat×List aj)),(∀x∈l,∀r∈x.2,r.type=lO x)->(l.filter (kh t)).flatMap (·.2)=(l.flatMap (·.2)).filter (fun r=>r.type == t):=by{
 intro l;induction l with
 | nil=>intro _;rfl
 | cons x l ih =>{
 intro hl;have i1:=ih (fun y hy=>hl y (nB _ hy));have hx:=hl x ak;rw[tG,tE,<- i1];by_cases ht:kh t x=true;{rw[qF ht,tG];congr 1;symm;rw[zX];intro r hr;unfold kh at ht;rw[hx r hr];simp[h]at ht;simp[ht]};{
 rw[tF (by simpa using ht)];have:x.2.filter (fun r=>r.type == t) = []:=by{
 rw[qG];intro r hr hc;refine ht ?_;unfold kh;rw[hx r hr]at hc;have:lO x=t:=by simpa using hc
 simp[this]};rw[this];rfl}}};rw[key _ (fun x hx=>(QN hF hx).1)];exact ek _ Lx}
include hn in
theorem alh(k:Int):fz F k=F.filter (fun r=>r.type == k):=by
 unfold fz;cases hf:(bC bJ F).find? (fun x=>lO x == k)with
 | some x =>{
 have hm:=IK hf;have ht:lO x=k:=by simpa using Sn hf
 obtain⟨r,hr,hh,e⟩:=(QG hF).1 x hm;have vU:r∈x.2:=by rw[e];exact je.2 ⟨hr,(HQ r r).2 rfl⟩
 have hrt:=(QN hF hm).1 r vU;show x.2=_;rw[e];refine List.filter_congr (fun y hy=>?_);rw[tB,HQ,iv,Ae];refine⟨fun h=>by rw[<- h.2,hrt,ht],fun h=>⟨hn r hr y hy,by rw[hrt,ht,h]⟩⟩}
 | none =>{
 show []=_;symm;rw[qG];intro r hr hc;obtain⟨x,hx,e⟩:=(QG hF).2 r hr;have vU:r∈x.2:=by rw[e];exact je.2 ⟨hr,(HQ r r).2 rfl⟩
 have hrt:=(QN hF hx).1 r vU;have:=Sm.1 hf x hx;rw[<- hrt]at this;exact this hc}
include hn in
theorem ali(m:Nat):F.filter (fun r=>decide (r.type<(m:Int)))++F.filter (fun r=>r.type == (m:Int))=F.filter (fun r=>decide (r.type<((m+1:Nat):Int))):=by
 have key:∀(F:List aj),fh bn F->(∀a∈F,∀b∈F,a.owner=b.owner)->F.filter (fun r=>decide (r.type<(m:Int)))++F.filter (fun r=>r.type == (m:Int))=F.filter (fun r=>decide (r.type<((m+1:Nat):Int))):=by{
 intro F;induction F with
 | nil=>intro _ _;rfl
 | cons a F ih =>{
 intro hF hn;have h':=wN.1 hF;have i1:=ih h'.2 (fun x hx y hy=>hn x (nB _ hx) y (nB _ hy));by_cases h1:a.type<(m:Int);{rw[qF (by simpa using h1),tF aX,qF aX,dX,i1]};{
 rw[tF (by simpa using h1)];have h0:F.filter (fun r=>decide (r.type<(m:Int))) = []:=by{
 rw[qG];intro y hy hc;have hc':y.type<(m:Int):=by simpa using hc
 have:=(Ln (h'.1 y hy)).2 (hn y (nB _ hy) a ak);omega};rw[h0]at i1 ⊢;by_cases h2:a.type=(m:Int);{rw[qF (by simpa using h2),qF aX,fF,<- i1,fF]};{rw[tF (by simpa using h2),tF aX,i1]}}}};exact key F hF hn
include hn in
theorem alj(m:Nat)(h0:∀r∈F,0<=r.type):(List.range m).flatMap (fun k:Nat=>F.filter (fun r=>r.type == (k:Int)))=F.filter (fun r=>decide (r.type<(m:Int))):=by
 induction m with
 | zero =>{
 symm;show _ = [];rw[qG];intro r hr hc;have:=h0 r hr;have:r.type<((0:Nat):Int):=by simpa using hc
 omega}
 | succ m ih =>{rw[SA,zY,ih,<- ali hF hn m];simp}
end
theorem Ck(rs:List aj)(n:ai):cK (aQ rs) n=(aQ rs).filter (fun r=>r.owner == n):=ak9 (Lm rs) n
theorem QO(rs:List aj)(n:ai):∀a∈cK (aQ rs) n,∀b∈cK (aQ rs) n,a.owner=b.owner:=fun a ha b hb=>by
 rw[Ck]at ha hb;have h1:=(je.1 ha).2;have h2:=(je.1 hb).2;simp only[iv]at h1 h2;rw[h1,h2]
theorem HT(rs:List aj)(n:ai):fh bn (cK (aQ rs) n):=by rw[Ck];exact alg (Lm rs) _
theorem HV(rs:List aj)(n:ai)(k:Int):fz (cK (aQ rs) n) k=gm rs n k:=by rw[alh (HT rs n) (QO rs n),Ck,QM,QL]
theorem Lz{rs:List aj}{n:ai}{r:aj}(h:r∈cK (aQ rs) n):r∈rs/\r.owner=n:=by rw[Ck]at h;have:=je.1 h;exact⟨(zJ rs).mem_iff.1 this.1,by simpa using this.2⟩
theorem QP(rs:List aj)(n:ai)(t:Int)(gA:uJ rs):jz t (cK (aQ rs) n)=kO rs n t:=by rw[Lv (HT rs n)];unfold kO;split;{have:=alj (HT rs n) (QO rs n) 17 (fun r hr=>by have:=(gA r (Lz hr).1).1;omega);rw[zX.2 (fun r hr=>by have:=(gA r (Lz hr).1).2;simp;omega)]at this;rw[<- this];congr 1;funext k;rw[Ck,QM,QL]};{rw[Ck,QM,QL]}
theorem alk{F:List aj}(h:fh bn F)(hn:∀a∈F,∀b∈F,a.owner=b.owner)(m:ai):fh bn (F.map (ig m)):=by unfold fh;rw[List.pairwise_map];refine List.Pairwise.imp_of_mem (fun {a b} ha hb hab=>?_) h;rw[<- zU];intro hl;rcases(Cj _ _).1 hl with h1|⟨_,h1⟩;{rw[show(ig m b).owner=m from rfl,show(ig m a).owner=m from rfl,Li]at h1;cases h1};{exact(Ln hab).2 (hn b hb a ha) h1}
theorem alm{F:List aj}(h:fh bn F)(hn:∀a∈F,∀b∈F,a.owner=b.owner)(m:ai)(t:Int):jz t (F.map (ig m))=(jz t F).map (ig m):=by rw[Lv (alk h hn m),Lv h];split;{rfl};{rw[List.filter_map];rfl}
theorem aln(rs:List aj)(n m:ai)(t:Int)(gA:uJ rs):jz t ((cK (aQ rs) n).map (ig m))=(kO rs n t).map (ig m):=by rw[alm (HT rs n) (QO rs n),QP rs n t gA]
theorem Zp(rs:List aj)(n:ai)(t:Int)(gA:uJ rs):EG rs (dL n) t = !(kO rs n t).isEmpty:=by
 rw[tB];have hm:∀(l:List aj),(!l.isEmpty)=true ↔ ∃r,r∈l:=fun l=>by cases l <;> simp
 rw[hm];unfold EG kO gm;rw[uU];constructor;{rintro⟨r,hr,h⟩;rw[fo,SK,CE]at h;have ho:=(bS (gA r hr).2.2).1 h.1;refine⟨r,?_⟩;split;{rw[zZ];have:=gA r hr;refine⟨r.type.toNat,aX,je.2 ⟨hr,?_⟩⟩;rw[Int.toNat_of_nonneg ae];simp[ho]};{rename_i iw;refine je.2 ⟨hr,?_⟩;rcases h.2 with h2|h2;{exact absurd (by simpa using h2) iw};{simp[ho];simpa using h2}}};{rintro⟨r,hr⟩;split at hr;{rename_i iw;obtain⟨k,_,hk⟩:=zZ.1 hr;have:=je.1 hk;simp only[fo,iv]at this;exact⟨r,this.1,by simp[iw,(bS (gA r this.1).2.2).2 this.2.1]⟩};{have:=je.1 hr;simp only[fo,iv]at this;exact⟨r,this.1,by simp[(bS (gA r this.1).2.2).2 this.2.1,this.2.2]⟩}}
def EH(rs:List aj)(ns:List ai):Bool:=rs.any fun r=>Ca (aS 46 r.owner) ns
def HX(rs:List aj)(ns:List ai)(i:Nat):Nat->Option (List ai)
 | 0=>none
 | f+1=>if EH rs (ns.drop i)then(if EG rs ([42] :: ns.drop i) 255 then some ([42] :: ns.drop i)else none)else HX rs ns (i+1) f
def QQ(rs:List aj)(ns:List ai):Option (List ai):=if EH rs ns then some ns else HX rs ns 1 (ns.length - 1)
def fk(n:ai):Prop:=∀x∈aS 46 n,x≠[]
def gp(n:ai)(i:Nat):ai:=zC ((aS 46 n).drop i)
def EI(rs:List aj)(ns:List ai):Nat->Option Nat
 | 0=>none
 | k+1=>if EG rs (ns.drop k) 2 then some k else EI rs ns k
theorem Zq:∀(i:Nat) (n:ai),i<(aS 46 n).length->∃m,aS 46 m=(aS 46 n).drop i
 | 0,n,_=>⟨n,rfl⟩
 | i+1,n,h=>by rcases rK 46 n with⟨_,e⟩|⟨a,b,_,_,e⟩;{rw[e]at h;simp at h};{rw[e]at h ⊢;obtain⟨m,hm⟩:=Zq i b (by simpa using h);exact⟨m,by rw[hm];rfl⟩}
theorem Zr{n:ai}{i:Nat}(h:i<(aS 46 n).length):aS 46 (gp n i)=(aS 46 n).drop i:=by obtain⟨m,hm⟩:=Zq i n h;unfold gp;rw[<- hm,K5]
theorem Zs{n:ai}{i:Nat}(h:i<(aS 46 n).length):dL (gp n i)=(dL n).drop i:=by unfold dL;rw[Zr h,Mz]
theorem Zt(n:ai):gp n 0=n:=by unfold gp;rw[zW,K5]
theorem QR{n:ai}(h:fk n):n≠[]:=by rintro rfl;exact h [] aC rfl
theorem Zu:∀(f:Nat) (n:ai),n.length<=f->fk n->cu n=(List.range (aS 46 n).length).map (gp n)
 | 0,n,h,hn=>absurd (gS ae) (QR hn)
 | f+1,n,h,hn=>by
  rw[pW n (QR hn)];rcases rK 46 n with⟨h1,e⟩|⟨a,b,e0,h1,e⟩;{rw[Da n h1,oW,e];show _ = [gp n 0];rw[Zt]};{
  have hb:fk b:=fun x hx=>hn x (by rw[e];exact nB _ hx);have hl:b.length<=f:=by rw[e0]at h;simp at h;omega
  have ha:fW n=b:=by rw[e0];exact AE a b h1
  rw[ha,Zu f b hl hb,e,cU,ME,og,pK,Zt];congr 1;refine rP (fun i _=>?_);show gp b i=gp n (i+1);unfold gp;rw[e];rfl}
theorem Zv{n:ai}(hn:fk n):cu n=(List.range (aS 46 n).length).map (gp n):=Zu _ n aB hn
theorem alo{n:ai}(hn:fk n):cu (fW n)=(List.range ((aS 46 n).length - 1)).map (fun i=>gp n (i+1)):=by have h:=Zv hn;rw[pW n (QR hn)]at h;obtain⟨k,hk⟩:∃k,(aS 46 n).length=k+1:=⟨(aS 46 n).length - 1,by have:=QH n;omega⟩;rw[hk,ME,og,pK]at h;rw[hk];exact(Sk h).2
theorem Zw{n o:ai}(hu:dU n o=true):(aS 46 o).length<=(aS 46 n).length/\(aS 46 n).drop ((aS 46 n).length - (aS 46 o).length)=aS 46 o:=by rw[<- YJ]at hu;unfold Ca at hu;simpa using hu
theorem alp{n o:ai}(hu:dU n o=true):gp n ((aS 46 n).length - (aS 46 o).length)=o:=by unfold gp;rw[(Zw hu).2,K5]
def Cl(L:List aj)(n:ai):Nat->List aj
 | 0=>[]
 | k+1=>mR L (Cl L n k) (gp n k)
theorem Zx(L:List aj)(n:ai):∀k,((List.range k).map (gp n)).foldl (mR L) []=Cl L n k
 | 0=>rfl
 | k+1=>by rw[SA,n_,CH,Zx L n k];rfl
theorem alq{n o:ai}(L:List aj)(hn:fk n)(hu:dU n o=true):dn o L n=Cl L n ((aS 46 n).length - (aS 46 o).length):=by have h1:=(Zw hu).1;have hp:=QH o;unfold dn;rw[Zv hn];have hlt:(aS 46 n).length - (aS 46 o).length<(aS 46 n).length:=ae;rw[NA _ _ ((aS 46 n).length - (aS 46 o).length) o (by rw[CL,List.getElem?_range hlt];exact ek some (alp hu)) ?_ ak,<- MA,List.take_range,uY ae,Zx];rw[<- MA,List.take_range,uY ae,E9];intro e he;obtain⟨i,au,rfl⟩:=oh.1 he;have hi':=ab2.1 au;have:gp n i≠o:=fun hc=>by{have h2:=ek (fun x=>(aS 46 x).length) hc;rw[Zr ae,iW]at h2;omega};simpa using this
theorem alr(rs:List aj)(n:ai):kO rs n 2=gm rs n 2:=by unfold kO;rw[aG aC]
theorem Zy(rs:List aj)(gA:uJ rs)(n:ai):∀k,k<=(aS 46 n).length->(EI rs (dL n) k=none/\Cl (aQ rs) n k = [])\/∃i,i<k/\EI rs (dL n) k=some i/\Cl (aQ rs) n k=gm rs (gp n i) 2/\gm rs (gp n i) 2≠[]
 | 0,_=>.inl ⟨rfl,rfl⟩
 | k+1,hk=>by
  have ih:=Zy rs gA n k ae;have hh:EG rs ((dL n).drop k) 2 = !(gm rs (gp n k) 2).isEmpty:=by{rw[<- Zs ae,Zp rs _ 2 gA,alr]};have hc:Cl (aQ rs) n (k+1)=if(gm rs (gp n k) 2).length=0 then Cl (aQ rs) n k else gm rs (gp n k) 2:=by{show mR _ _ _=_;unfold mR;rw[HV]}
  rw[hc];unfold EI;rw[hh];cases ho:gm rs (gp n k) 2 with
  | nil =>{simp only[List.isEmpty_nil,Mn,zT,Ag,fV,pM];rcases ih with h|⟨i,au,h1,h2,h3⟩;{exact .inl h};{exact .inr ⟨i,ae,h1,h2,h3⟩}}
  | cons x t =>{refine .inr ⟨k,ae,ak,?_,?_⟩;{rw[ho];simp};{rw[ho];simp}}
theorem QS{rs:List aj}(gA:uJ rs){n o:ai}(hn:fk n)(hu:dU n o=true) :
  (EI rs (dL n) ((dL n).length - (aS 46 o).length)=none/\dn o (aQ rs) n = []) \/
  ∃i,i<(dL n).length - (aS 46 o).length/\EI rs (dL n) ((dL n).length - (aS 46 o).length)=some i/\dn o (aQ rs) n=gm rs (gp n i) 2/\gm rs (gp n i) 2≠[]:=by rw[alq _ hn hu,Lu];exact Zy rs gA n _ ae
theorem QT(rs:List aj)(gA:uJ rs)(n:ai):ic (aQ rs) n=EH rs (dL n):=by rw[tB];unfold ic EH sf;rw[Mm,<- zU,List.isEmpty_iff,qG,uU];constructor;{intro h;refine Mp fun hc=>h fun x hx hu=>hc ?_;obtain⟨r,hr,_,e⟩:=(Lr (Lm rs)).1 x hx;rw[Lq hr e]at hu;exact⟨r,(zJ rs).mem_iff.1 hr,by rw[QK (gA r ((zJ rs).mem_iff.1 hr)).2.2];exact hu⟩};{rintro⟨r,hr,hu⟩ hc;have hr':=(zJ rs).mem_iff.2 hr;obtain⟨x,hx,e⟩:=(Lr (Lm rs)).2 r hr';refine hc x hx ?_;rw[Lq hr' e,<- QK (gA r hr).2.2];exact hu}
theorem Zz(rs:List aj)(gA:uJ rs)(n:ai):cK (aQ rs) n=kO rs n 255:=by rw[<- QP rs n 255 gA,Lv (HT rs n),aP rfl]
theorem als(rs:List aj)(gA:uJ rs)(n:ai):EG rs (dL n) 255=decide (0<(cK (aQ rs) n).length):=by rw[Zp rs n 255 gA,Zz rs gA];cases kO rs n 255 <;> simp
theorem ZA(rs:List aj)(gA:uJ rs)(n:ai):∀(f k:Nat),k+f=(aS 46 n).length ->
  (((List.range f).map (fun i=>gp n (k+i))).find? (ic (aQ rs))=none/\HX rs (dL n) k f=none) \/
  ∃a,((List.range f).map (fun i=>gp n (k+i))).find? (ic (aQ rs))=some a/\HX rs (dL n) k f=if 0<(cK (aQ rs) (42 :: 46 :: a)).length then some (dL (42 :: 46 :: a))else none
 | 0,k,_=>.inl ⟨rfl,rfl⟩
 | f+1,k,h=>by
  have ih:=ZA rs gA n f (k+1) ae;have hs:=Zs (n:=n) (i:=k) ae;rw[ME,og,pK,Mv,tI];unfold HX;rw[<- hs,<- QT rs gA];by_cases ht:ic (aQ rs) (gp n k)=true;{rw[ht];refine .inr ⟨gp n k,rfl,?_⟩;rw[aP rfl,<- ale,als rs gA];simp};{
  have HY:ic (aQ rs) (gp n k)=false:=by simpa using ht
  rw[HY,aG ak];have e:(fun i=>gp n (k+i)) ∘ Nat.succ=fun i=>gp n (k+1+i):=by{funext i;show gp n (k+(i+1))=_;rw[show k+(i+1)=k+1+i by omega]};rw[e];exact ih}
theorem alu{l:List aj}{n:ai}(h:∀r∈l,r.owner=n):l.map (ig n)=l:=by
 conv=>rhs;rw[<- CO l]
 refine rP (fun r hr=>?_);unfold ig;rw[<- h r hr];rfl
theorem ZB(rs:List aj)(gA:uJ rs){n:ai}(hn:fk n) :
  (QQ rs (dL n)=none/\(cg (aQ rs) n).2=false) \/
  ∃s,QQ rs (dL n)=some (dL s)/\(cg (aQ rs) n).2=true/\(cg (aQ rs) n).1=(cK (aQ rs) s).map (ig n):=by
 unfold QQ cg;rw[<- QT rs gA];by_cases ht:ic (aQ rs) n=true;{rw[aP ht,aP ht];exact .inr ⟨n,rfl,rfl,(alu (fun r hr=>(Lz hr).2)).symm⟩};{
 rw[aG ht,aG ht,alo hn,Lu];have h1:=ZA rs gA n ((aS 46 n).length - 1) 1 (by have:=QH n;omega);have e:(fun i=>gp n (i+1))=fun i=>gp n (1+i):=by funext i;rw[Nat.add_comm]
 rw[e];rcases h1 with⟨h1,h2⟩|⟨a,h1,h2⟩;{rw[h1,h2];exact .inl ⟨rfl,rfl⟩};{rw[h1,h2];by_cases hl:0<(cK (aQ rs) (42 :: 46 :: a)).length;{rw[aP hl];exact .inr ⟨_,rfl,by simpa using hl,rfl⟩};{rw[aG hl];exact .inl ⟨rfl,by simpa using hl⟩}}}
def ZC(r:aj)(a3:ai):aj:=(r.owner,min r.aV (kV 86400 a3),r.type,r.data)
theorem alv(s:ByteArray)(w:World)(hg:bH w)(hs:s.size<=3000)(lT:∀o rs,ku s.data.toList=some (o,rs)->w_ o rs) :
  aF 16 #[.string s] w fun e w'=>ae0 (rj s.data.toList) w.heap.size e w'/\aw w w':=by
 have HC:=ag (UY s w ae);have QD:¬(3000:Int)<(s.size:Int):=ae;have LA:=ag (fun w1 (h:aw w w1)=>ac8 s w1 (hg.below h) hs);clear hg;cases hz:ku s.data.toList with
 | none =>{
 have aJ:Hid (rj s.data.toList=none):=by unfold rj;rw[Hid,hz];rfl
 go_enter func16,ntmps16;go_wp2_with fail;refine HC.mono ?_;rintro e w1 ⟨rfl,hb1⟩;go_wp2_with fail;refine(LA w1 hb1).mono ?_;rintro e w2 ⟨hr2,hb2⟩;rw[hz]at hr2;obtain rfl:e=.returned Fw:=hr2;unfold Fw;go_wp2;go_ret2;rw[af aJ];exact⟨rfl,hb1.trans (hb2.mono hb1.size)⟩}
 | some x =>{
 obtain⟨o,rs⟩:=x;obtain⟨hlen,eR,hrl⟩:=lT o rs hz;have alw:=ag hrl;clear lT hrl;have bZ:Hid (rj s.data.toList=if qP o rs && o8 o (aQ rs)then some (o,aQ rs)else none):=by unfold rj;rw[Hid,hz];rfl
 cases hst:qP o rs;{
 have aJ:Hid (rj s.data.toList=none):=by rw[Hid,af bZ,hst];rfl
 go_enter func16,ntmps16;go_wp2_with fail;refine HC.mono ?_;rintro e w1 ⟨rfl,hb1⟩;go_wp2_with fail;refine(LA w1 hb1).mono ?_;rintro e w2 ⟨hr2,hb2⟩;rw[hz]at hr2;obtain⟨v,rfl,hown⟩:=hr2;have HS:=ag (Ni o v rs w2 hown.rv ae);clear hown;go_wp2_with fail;refine HS.mono ?_;rintro e w3 ⟨rfl,hb3⟩;go_wp2;go_ret2;rw[af aJ];exact⟨rfl,(hb1.trans (hb2.mono hb1.size)).trans (hb3.mono (a_ hb1.size hb2.size))⟩};{
 have hne:rs≠[]:=by intro h;rw[h]at hst;cases hst
 have Kj:Hid (∀r∈aQ rs,r.owner.length<=3000/\r.data.length<=3000):=aeY (af alw);have iA:=UU rs;cases hrt:o8 o (aQ rs);{
 have aJ:Hid (rj s.data.toList=none):=by rw[Hid,af bZ,hst,hrt];rfl
 go_enter func16,ntmps16;go_wp2_with fail;refine HC.mono ?_;rintro e w1 ⟨rfl,hb1⟩;go_wp2_with fail;refine(LA w1 hb1).mono ?_;rintro e w2 ⟨hr2,hb2⟩;rw[hz]at hr2;obtain⟨v,rfl,hown⟩:=hr2;have HS:=ag (Ni o v rs w2 hown.rv ae);obtain⟨g,cap,cur,rfl,hg,bp,fw,yz⟩:=UZ hown hne;have QU:=ag bp;have HZ:=ag yz;clear hown bp yz;have dZ:=hb1.trans (hb2.mono hb1.size);go_wp2_with fail;refine HS.mono ?_;rintro e w3 ⟨rfl,hb3⟩;have H0:=dZ.trans (hb3.mono dZ.size);have yA:=HZ.1;go_wp2_with fail;refine(Zk g cap rs w3 cur _ ((hb3.block g yA).trans QU) (HZ.below hb3) hlen).mono ?_;rintro e w4 ⟨rfl,hr4,hb4⟩;have nG:=hb4 w.heap.size w (a_ hb1.size hg) H0.size H0;have fp:=ag (UJ g 0 cap o (aQ rs) w4 hr4 ae ae eR (fun r hr=>(Kj r hr).1));rw[iA]at fp;clear hr4 hb4;go_wp2_with fail;refine fp.mono ?_;rintro e w5 ⟨rfl,hb5⟩;go_wp2;go_ret2;rw[af aJ];exact⟨rfl,nG.trans (hb5.mono nG.size)⟩};{
 have aJ:Hid (rj s.data.toList=some (o,aQ rs)):=by rw[Hid,af bZ,hst,hrt];rfl
 go_enter func16,ntmps16;go_wp2_with fail;refine HC.mono ?_;rintro e w1 ⟨rfl,hb1⟩;go_wp2_with fail;refine(LA w1 hb1).mono ?_;rintro e w2 ⟨hr2,hb2⟩;rw[hz]at hr2;obtain⟨v,rfl,hown⟩:=hr2;have HS:=ag (Ni o v rs w2 hown.rv ae);obtain⟨g,cap,cur,rfl,hg,bp,fw,yz⟩:=UZ hown hne;have QU:=ag bp;have HZ:=ag yz;clear hown bp yz;have dZ:=hb1.trans (hb2.mono hb1.size);go_wp2_with fail;refine HS.mono ?_;rintro e w3 ⟨rfl,hb3⟩;have H0:=dZ.trans (hb3.mono dZ.size);have yA:=HZ.1;go_wp2_with fail;refine(Zk g cap rs w3 cur _ ((hb3.block g yA).trans QU) (HZ.below hb3) hlen).mono ?_;rintro e w4 ⟨rfl,hr4,hb4⟩;have nG:=hb4 w.heap.size w (a_ hb1.size hg) H0.size H0;have fp:=ag (UJ g 0 cap o (aQ rs) w4 hr4 ae ae eR (fun r hr=>(Kj r hr).1));rw[iA]at fp;have oU:=ag hr4;clear hr4 hb4;go_wp2_with fail;refine fp.mono ?_;rintro e w5 ⟨rfl,hb5⟩;have QV:=nG.trans (hb5.mono nG.size);have mV:=ag (oU.below hb5);go_wp2_with fail;refine(ae1 o g 0 rs.length cap w5).mono ?_;rintro e w6 ⟨rfl,p7,QW,ZE,ZF⟩;have dJ:Hid (fA w6 w5.heap.size o g 0 cap (aQ rs)):=⟨QW,ZE,by rw[iA];exact ZF,ae,mV.below p7⟩;clear ZE ZF;go_wp2;go_ret2;rw[af aJ];exact⟨⟨_,_,_,rfl,QV.size,a_ hb1.size hg,dJ⟩,QV.trans (p7.mono QV.size)⟩}}}
structure H2(r:aj):Prop where
 Cm:kU r.owner=true
 aV:r.aV<=86400
 dat:eF r.type (aS 32 r.data)=true
 len:r.data.length<=3000
structure l7(o:ai)(rs:List aj):Prop where
 org:fG o=true
 recs:∀r∈rs,H2 r
 QX:qP o rs=true
 arN:o8 o (aQ rs)=true
theorem ZG:∀(l:ai) (n:Nat),qw n l=Lib.decFrom n l
 | [],n=>rfl
 | c :: r,n=>by
  unfold qw Lib.decFrom Lib.digitVal;by_cases h:48<=c.toNat/\c.toNat<=57;{
  have aD:rT c.toNat=true:=by unfold rT;simp;omega
  rw[aP aD,aP h,ZG r,jW]};{
  have aD:¬rT c.toNat=true:=by unfold rT;simp;omega
  rw[aG aD,aG h]}
theorem ZH{s:ai}(h:fL 86400 s=true):s.length<=10/\Lib.atoi s=some (kV 86400 s:Int)/\kV 86400 s<=86400:=by
 have h0:=h;rw[Qh 86400 ae]at h;cases hf:zB s with
 | none=>rw[hf]at h;cases h
 | some v =>{
 rw[hf]at h;have hv:v<=86400:=by simpa using h
 rw[YA 86400 ae s v hf hv];unfold zB at hf;split at hf;{
 rename_i hl;refine⟨hl.2.1,?_,hv⟩;cases s with
 | nil=>simp at hl
 | cons c r =>{
 have hc:rT c.toNat=true:=by{refine Mp fun hc=>?_;unfold qw at hf;rw[aG hc]at hf;cases hf};have hc':48<=c.toNat/\c.toNat<=57:=by unfold rT at hc;simp at hc;omega
 have alx:(c == 45)=false:=by rw[gL];rintro rfl;exact absurd hc'.1 aC
 have aly:(c == 43)=false:=by rw[gL];rintro rfl;exact absurd hc'.1 aC
 have e1:Lib.atoi (c :: r)=(Lib.decNat (c :: r)).map (fun m:Nat=>(m:Int)):=by{unfold Lib.atoi;simp[alx,aly]};rw[e1];unfold Lib.decNat;rw[aG ak,<- ZG,hf];rfl}};{cases hf}}
theorem QY(l:ai)(j:Nat):(ah l).data[j]! = l[j]?.getD default:=by show l.toArray[j]! = _;rw[Array.getElem!_eq_getD,Array.getD_eq_getD_getElem?,Su]
theorem alz(a b:ai)(h:(32:UInt8) ∉ b):fX (a++32 :: b)=b:=by
 have DI:Lib.lastIndexByte (ah (a++32 :: b)) 32=(a.length:Int):=by{
 unfold Lib.lastIndexByte;have hsz:(ah (a++32 :: b)).size=a.length+1+b.length:=by rw[dt];simp;omega
 have hat:(((ah (a++32 :: b)).data[a.length]!).toNat:Int)=32:=by rw[QY];simp
 rcases Lib.lastIdx_spec (ah (a++32 :: b)) 32 (ah (a++32 :: b)).size with⟨_,h2⟩|⟨i,h1,h2,h3,h4⟩;{exact absurd hat (h2 a.length ae)};{rw[h2];rcases Nat.lt_trichotomy i a.length with au|au|au;{exact absurd hat (h4 a.length au ae)};{rw[au]};{exfalso;rw[QY,wK ae,show i - a.length=(i - a.length - 1)+1 by omega,List.getElem?_cons_succ,mM ae]at h3;have hm:b[i - a.length - 1]' ae∈b:=iV _;have:b[i - a.length - 1]' ae=32:=by{apply MN.1;have:((b[i - a.length - 1]' ae).toNat:Int)=32:=h3;show _=32;omega};rw[this]at hm;exact h hm}}};unfold fX;rw[DI,show((a.length:Int)+1).toNat=a.length+1 by omega,show a++32 :: b=(a++[32])++b by simp,Mt ak];simp
theorem alA(b:ai)(h:(32:UInt8) ∉ b):fX b=b:=by have DI:Lib.lastIndexByte (ah b) 32 = -1:=by{unfold Lib.lastIndexByte;rcases Lib.lastIdx_spec (ah b) 32 (ah b).size with⟨h1,_⟩|⟨i,h1,h2,h3,h4⟩;{exact h1};{exfalso;rw[dt]at h1;rw[QY,mM h1]at h3;have hm:b[i]∈b:=iV _;have:b[i]=32:=by{apply MN.1;have:((b[i]).toNat:Int)=32:=h3;show _=32;omega};rw[this]at hm;exact h hm}};unfold fX;rw[DI];rfl
theorem ZI(c:UInt8):∀(f:Nat) (s:ai),s.length<=f->∀x∈aS c s,c ∉ x
 | f,s,hf,x,hx=>by
  rcases rK c s with⟨h,e⟩|⟨a,b,e0,h,e⟩;{
  rw[e]at hx;have:x=s:=by simpa using hx
  rw[this];exact h};{
  rw[e]at hx;rcases eK.1 hx with rfl|hx;{exact h};{
  have hl:b.length<f:=by rw[e0]at hf;simp at hf;omega
  exact ZI c (f - 1) b ae x hx}}
termination_by f=>f
decreasing_by omega
theorem alB(d:ai)(aR:List ai)(x:ai)(h:aS 32 d=aR++[x]):fX d=x:=by
 have hno:=ZI 32 d.length d aB x (by rw[h];simp);have hj:=Ey 32 d;rw[h]at hj;cases aR with
 | nil=>rw[<- hj];exact alA x hno
 | cons y t =>{rw[YF 32 x (y :: t) ak]at hj;rw[<- hj];exact alz _ x hno}
theorem H3{k:Int}{aR:List ai}(h:eF k aR=true):k=1\/k=2\/k=5\/k=6\/k=15\/k=16:=by
 unfold eF at h
 repeat' (split at h)
 all_goals first
  | (cases h;done)
  | omega
theorem alC{aR:List ai}(h:eF 6 aR=true):∃a b c d,aR = [a,b,c,d]/\fL 86400 d=true:=by
 unfold eF at h;rw[aP rfl]at h;match aR,h with
 | [a,b,c,d],h=>exact⟨a,b,c,d,rfl,by simp at h;exact h.2⟩
theorem alD{k:Int}{aR:List ai}(hk:k=2\/k=5)(h:eF k aR=true):∃a,aR = [a]/\fG a=true:=by
 unfold eF at h;rw[aG ae,aP hk]at h;match aR,h with
 | [a],h=>exact⟨a,rfl,h⟩
theorem wF{d a:ai}(h:aS 32 d = [a]):d=a:=by have:=Ey 32 d;rw[h]at this;exact this.symm
theorem ZJ{star:Bool}{n:ai}(h:(wz star n).isSome=true):fk n/\n.length<=60:=by
 unfold wz at h;split at h;{
 rename_i hh;refine⟨fun x hx=>?_,hh.1⟩;have key:∀(l:List ai) (i:Nat),td star i l=true->∀x∈l,x≠[]:=by{
 intro l;induction l with
 | nil=>intro i _ x hx;cases hx
 | cons a l ih =>{intro i h x hx;rw[td,fo]at h;rcases eK.1 hx with rfl|hx;{rintro rfl;have:=h.1;unfold Ex mi at this;simp at this};{exact ih (i+1) h.2 x hx}}};exact key _ 0 hh.2 x hx};{cases h}
theorem ZK{star:Bool}{n:ai}(h:(wz star n).isSome=true):(80:UInt8) ∉ n:=by
 intro hc;unfold wz at h;split at h;{
 rename_i hh;have key:∀(l:List ai) (i:Nat),td star i l=true->∀x∈l,(80:UInt8) ∉ x:=by{
 intro l;induction l with
 | nil=>intro i _ x hx;cases hx
 | cons a l ih =>{intro i h x hx;rw[td,fo]at h;rcases eK.1 hx with rfl|hx;{intro LB;have:=h.1;unfold Ex at this;rw[CE]at this;rcases this with this|this;{unfold mi at this;rw[fo,E9]at this;exact absurd (this.2 80 LB) aC};{simp only[fo,iv]at this;rw[this.1.2]at LB;exact absurd LB aC}};{exact ih (i+1) h.2 x hx}}};rcases QI _ n 80 aB hc with h|⟨l,h1,h2⟩;{exact absurd h aC};{exact key _ 0 hh.2 l h1 h2}};{cases h}
theorem alE{n:ai}(h:fG n=true):(80:UInt8) ∉ n:=ZK (star:=false) (by rw[Qj];exact h)
theorem ZL{n:ai}(h:kU n=true):(80:UInt8) ∉ n:=ZK (star:=true) (by rw[Qi];exact h)
theorem jd{n:ai}(h:fG n=true):fk n/\n.length<=60:=ZJ (by rw[Qj];exact h)
theorem EJ{n:ai}(h:kU n=true):fk n/\n.length<=60:=ZJ (by rw[Qi];exact h)
section
variable {o:ai} {rs:List aj} (hz:l7 o rs)
include hz
theorem wG:uJ rs:=fun r hr=>by have:=H3 (hz.recs r hr).dat;exact⟨ae,ae,ZL (hz.recs r hr).Cm⟩
theorem EK:rs.length<=60:=by
 have:=hz.QX;unfold qP at this;cases rs with
 | nil=>simp
 | cons r t=>simp at this ⊢; omega
theorem xV:0<rs.length:=by
 have:=hz.QX;unfold qP at this;cases rs with
 | nil=>simp at this
 | cons r t=>simp
theorem ZM(n:ai)(k:Int):(gm rs n k).length<=60:=a_ (yc _ _) (EK hz)
theorem alF:gm rs o 6 = [rs[0]'(xV hz)]/\(rs[0]'(xV hz)).type=6/\(rs[0]'(xV hz)).owner=o:=by
 have h:=hz.QX;unfold qP at h;cases rs with
 | nil=>simp at h
 | cons r t =>{simp only[fo,Af,iv,Mm]at h;obtain⟨_,⟨h1,h2⟩,h3⟩:=h;refine⟨?_,h2,h1⟩;unfold gm;rw[qF (by simp[h1,h2])];show r :: _ = [r];congr 1;rw[qG];intro x hx hc;simp only[fo,iv]at hc;rw[<- zU]at h3;exact h3 (uU.2 ⟨x,hx,by unfold nH;simpa using hc.2⟩)}
theorem QZ:∃a0 a1 a2 a3,aS 32 (rs[0]'(xV hz)).data = [a0,a1,a2,a3]/\fL 86400 a3=true/\a3.length<=1000000/\fB o (aQ rs) = [ZC (rs[0]'(xV hz)) a3]/\(∀r∈fz (cK (aQ rs) o) 6,AK r/\r.data.length<=3000/\r.aV<=1000000000):=by
 obtain⟨h1,h2,h3⟩:=alF hz;have hr:=hz.recs _ (iV (xV hz));have aD:=hr.dat;rw[h2]at aD;obtain⟨a0,a1,a2,a3,e,hn⟩:=alC aD;obtain⟨n1,n2,n3⟩:=ZH hn;have hl:fX (rs[0]'(xV hz)).data=a3:=alB _ [a0,a1,a2] a3 e;refine⟨a0,a1,a2,a3,e,hn,ae,?_,?_⟩;{unfold fB;rw[HV,h1];show [tU _]=_;unfold tU NG ZC;rw[hl,n2];rfl};{
 rw[HV,h1];intro r hr';have:r=rs[0]'(xV hz):=by simpa using hr'
 subst this;refine⟨⟨by rw[hl];omega,kV 86400 a3,by rw[hl];exact n2,ae⟩,hr.len,by have:=hr.aV;omega⟩}
end
theorem ZN{o:ai}{rs:List aj}(hz:l7 o rs)(s:ai)(t:Int):(kO rs s t).length<=60:=by by_cases h:t=255;{subst h;rw[<- Zz rs (wG hz),Ck];have:=(zJ rs).length_eq;exact a_ (yc _ _) (by rw[this];exact EK hz)};{unfold kO;rw[aG h];exact ZM hz s t}
theorem alG{o:ai}{rs:List aj}(hz:l7 o rs){r:aj}(hr:r∈rs)(h5:r.type=5):aS 32 r.data = [r.data]/\fG r.data=true:=by have aD:=(hz.recs r hr).dat;rw[h5]at aD;obtain⟨a,e,hp⟩:=alD (.inr rfl) aD;have:=wF e;rw[this]at e ⊢;exact⟨e,hp⟩
def wH(r:aj):Bool:=r.type == 2 || r.type == 15
def Cn(rs ans:List aj)(s:List ai×List aj)(r:aj):List ai×List aj :=
 if wH r then(if s.1.contains (fX r.data)then s else(s.1++[fX r.data],if ans.any (fun a=>a.owner == fX r.data && a.type == 1)then s.2 else s.2++gm rs (fX r.data) 1))else s
def LC(rs ans l:List aj):List ai×List aj:=l.foldl (Cn rs ans) ([],[])
end Go.Proofs.YtkkpahmoljiepaaGreatDoor
