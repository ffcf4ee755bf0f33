import Derived.Test.YtkkpahmoljiepaaGreatDoorJ25
set_option maxRecDepth 1000000
set_option maxHeartbeats 12800000
set_option linter.unusedSimpArgs false
set_option linter.unusedVariables false
namespace Go.Proofs.YtkkpahmoljiepaaGreatDoor
open Go.RowKit Go.Proofs.Tryz
theorem amE(k:Int)(w:World) :
  aF 140 #[aq k] w fun e w'=>e=.returned (.bool (F6 k))/\w'=w:=by
 obtain⟨r,hr⟩:=bP (F6 k);rw[<- hr];unfold F6 at hr;by_cases h0:k=0;{subst h0;have hr':r=false:=hr;subst hr';clear hr;go_enter func140,ntmps140;go_wp2;go_ret;exact⟨rfl,rfl⟩};{
 have j0:(k != 0)=true:=by simpa using h0
 by_cases h1:k=41;{subst h1;have hr':r=false:=hr;subst hr';clear hr h0 j0;go_enter func140,ntmps140;go_wp2;go_ret;exact⟨rfl,rfl⟩};{
 have j1:(k != 41)=true:=by simpa using h1
 rw[j0,j1]at hr;by_cases h2:k<249;{
 have hr':r=true:=by rw[hr,jY h2];rfl
 subst hr';clear hr h0 h1;go_enter func140,ntmps140;go_wp2;go_ret;exact⟨rfl,rfl⟩};{
 by_cases h3:254<k;{
 have hr':r=true:=by rw[hr,jY h3];simp
 subst hr';clear hr h0 h1;go_enter func140,ntmps140;go_wp2;go_ret;exact⟨rfl,rfl⟩};{
 have hr':r=false:=by rw[hr,hP h2,hP h3];rfl
 subst hr';clear hr h0 h1;go_enter func140,ntmps140;go_wp2;go_ret;exact⟨rfl,rfl⟩}}}}
def H8(W:World)(n mb:Nat):Prop:=n<=mb/\∃vb base,n<=base/\base<=W.heap.size/\cG W mb vb (bK)/\d_ W base vb (List.replicate 12 0)
theorem H8.below{W W':World}{n mb:Nat}(h:H8 W n mb)(hb:aw W W'):H8 W' n mb:=by obtain⟨h0,vb,base,h1,h2,h3,h4⟩:=h;exact⟨h0,vb,base,h1,a_ h2 hb.size,(hb.block mb (di.1 h3).1).trans h3,oq h4 hb⟩
theorem amF(W:World)(n:Nat)(hn:n<=W.heap.size):aF 130 #[] W fun e w'=>∃mb,e=.returned (aO mb)/\H8 w' n mb/\aw W w':=by refine(U7 W).mono ?_;rintro e w' ⟨rfl,⟨vb,h1,h2⟩,hb⟩;exact⟨_,rfl,⟨ae,vb,W.heap.size,hn,hb.size,h1,h2⟩,hb⟩
theorem aat{W:World}{n mb:Nat}(h:H8 W n mb)(hn:n<=W.heap.size)(i t:Nat)(au:i<65536)(ht:t<65536):aF 131 #[aO mb,.agg #[aq i,aq t,aq 0,aq 0,aq 0,aq 0]] W fun e w'=>e=.returned (aA (bY (gG i t 0 0 0 0)))/\Below n W w':=by obtain⟨h0,vb,base,h1,h2,h3,h4⟩:=h;refine(VM mb base i t 0 0 0 0 vb _ (List.replicate 12 0) W h3 h4 h2 ak ak au ht ae ae ae ae).mono ?_;rintro e w' ⟨rfl,hT⟩;exact⟨ak,hT.os,hT.tape,hT.output,hT.size,fun k hk=>hT.block k ae ae (.inl ae)⟩
theorem aau(i b t rc:Nat)(c0 az c2 c3:Int)(w:World)(au:i<65536)(ht:t<65536)(rB:rf b rc=(t:Int)) :
  aF 71 #[.agg #[aq i,aq b,aq c0,aq az,aq c2,aq c3],aq rc] w (cS (aA (bY (gG i t 0 0 0 0))) w):=by
 obtain⟨W0,hW0⟩:=bP (w.alloc (.cells #[.int .i64 i,.int .i64 b,.int .i64 c0,.int .i64 az,.int .i64 c2,.int .i64 c3] 133));have hN:eW W0 w.heap.size [(i:Int),(b:Int),c0,az,c2,c3] 133:=by rw[hW0];exact World.alloc_heap_new w _
 have hB0:aw w W0:=by rw[hW0];exact bj.alloc aB _
 have hH:∀W,aw W0 W->W.cell? (ar w.heap.size 0)=some (aq i)/\W.cell? (ar w.heap.size 1)=some (aq b)/\W.cell? (ar w.heap.size 2)=some (aq c0)/\W.cell? (ar w.heap.size 3)=some (aq az)/\W.cell? (ar w.heap.size 4)=some (aq c2)/\W.cell? (ar w.heap.size 5)=some (aq c3):=fun W hb=>by
  have EN:eW W w.heap.size [(i:Int),(b:Int),c0,az,c2,c3] 133:=(hb.block _ hN.lt).trans hN;exact⟨EN.cell 0 ak,EN.cell 1 ak,EN.cell 2 ak,EN.cell 3 ak,EN.cell 4 ak,EN.cell 5 ak⟩
 have HH:=ag hH;have ey:=ag hB0;have hz0:=hB0.size;have dJ:Hid (∀W,aF 132 #[.agg #[aq i,aq b,aq c0,aq az,aq c2,aq c3],aq rc] W (cS (.agg #[aq i,aq t,aq 0,aq 0,aq 0,aq 0]) W)):=fun W=>by
  have:=UA i b c0 az c2 c3 rc W
  rwa [rB]at this
 have q:=hH W0.drew bj.drew;have H9:aw W0 W0.drew:=bj.drew;clear hN hB0 hH rB;go_enter func71,ntmps71;go_wp2_with fail;rw[<- hW0];clear hW0;obtain⟨q0,q1,q2,q3,q4,q5⟩:=q;go_region_with
  (first
   | (go_at_call 130;(refine(amF _ W0.heap.size (by first|exact H9.size|exact B4.size)).mono ?_;rintro e w3 ⟨mb,rfl,hM,hb3⟩;have B3:aw W0 w3:=(by first|exact B4.trans (hb3.mono B4.size)|exact H9.trans (hb3.mono H9.size));obtain⟨r0,r1,r2,r3,r4,r5⟩:=af HH w3 B3))
   | (go_at_call 132;(refine(dJ _).mono ?_;rintro e w4 ⟨rfl,hb4⟩;have B4:aw W0 w4:=(by first|exact B3.trans (hb4.mono B3.size)|exact H9.trans (hb4.mono H9.size));obtain⟨r0,r1,r2,r3,r4,r5⟩:=af HH w4 B4;try have GL:=hM.below hb4))
   | (go_at_call 131;(first|(refine(aat GL B4.size i t au ht).mono ?_;rintro e w5 ⟨rfl,hb5⟩;have B5:aw W0 w5:=B4.trans hb5)|(refine(aat hM B3.size i t au ht).mono ?_;rintro e w5 ⟨rfl,hb5⟩;have B5:aw W0 w5:=B3.trans hb5))))
 all_goals
  have uf:=ag (ey.trans (B5.mono hz0));go_wp2;go_ret;exact⟨rfl,uf⟩
def fU(o:ai)(rs:List aj)(T:ai)(k c:Int)(op:Bool)(bN:Int):(Int×Bool×List aj×List aj)×List aj :=
 if op=true/\bN≠0 then((16,false,[],[]),[])else if c≠1\/F6 k=false\/T = []then((5,false,[],[]),[])else(l9 o rs k T,xX o rs k T)
theorem amG{o:ai}(h:fG o=true):dU [] o=false:=by have h1:=(jd h).1;have ho:o≠[]:=fun e=>by{subst e;exact absurd rfl (h1 [] (by simp[yi]))};unfold dU;rw[Ir];refine⟨by simpa using ho.symm,?_⟩;unfold Lib.hasSuffix;simp
theorem LN(w:World)(base:Nat)(rc:Int):H7 w base (.agg #[aq rc,.bool false,bK,bK,bK]) (rc,false,[],[]) [] :=
 ⟨_,_,_,rfl,iI _ _ _ _,iI _ _ _ _,iI _ _ _ _,xY _,xY _,xY _⟩
theorem amH(zb b off cap:Nat)(t:Int)(o n:ai)(rs:List aj)(w:World)(bE:l7 o rs)(hz:fA w zb o b off cap (aQ rs))(hg:bH w)(hn:n = []\/fk n)(hl:n.length<=260) :
  aF 69 #[aO zb,aA n,aq t] w fun e w'=>(∃v,e=.returned v/\H7 w' w.heap.size v (if n = []then(5,false,[],[])else l9 o rs t n) (if n = []then []else xX o rs t n))/\aw w w':=by by_cases h0:n = [];{subst h0;have ho:=(jd bE.org).2;refine(aas zb b off cap t o [] (aQ rs) w hz ak ae (amG bE.org)).mono ?_;rintro e w' ⟨rfl,hb⟩;exact⟨⟨_,rfl,LN _ _ _⟩,hb⟩};{rw[aG h0,aG h0];exact amD zb b off cap t o n rs w bE hz hg (hn.resolve_left h0) hl}
theorem amI(zb b off cap:Nat)(k c:Int)(o n q:ai)(h0 h1 h2 h3 h4 h5:Int)(op:Bool)(sz bN:Int)(rs:List aj)(w:World)(bE:l7 o rs)(hz:fA w zb o b off cap (aQ rs))(hg:bH w)(hn:n = []\/fk n)(hl:n.length<=260) :
  aF 74 #[dK h0 h1 h2 h3 h4 h5 q n k c op sz bN,aO zb] w fun e w'=>(∃v,e=.returned v/\H7 w' w.heap.size v (fU o rs n k c op bN).1 (fU o rs n k c op bN).2)/\aw w w':=by
 have dV:=ag (fun W (hb:aw w W)=>amH zb b off cap k o n rs W bE (hz.below hb) (hg.below hb) hn hl);have HK:=ag (amE k);obtain⟨EO,LO⟩:∃EO:Obj,EO=.cells #[.int .i64 h0,.int .i64 h1,.int .i64 h2,.int .i64 h3,.int .i64 h4,.int .i64 h5,.string (ah q),.string (ah n),.int .i64 k,.int .i64 c,.bool op,.int .i64 sz,.int .i64 bN] 137:=⟨_,rfl⟩;obtain⟨EP,H_⟩:∃EP:Obj,EP=.cells #[.int .i64 0,.bool false,.slice none 0 0,.slice none 0 0,.slice none 0 0] 43:=⟨_,rfl⟩;clear hz hg bE hn;unfold dK;by_cases hA:op=true/\bN≠0;{
 have sX:fU o rs n k c op bN=((16,false,[],[]),[]):=by unfold fU;rw[aP hA]
 rw[sX];have Rg:(bN != 0)=true:=by simpa using hA.2
 have hop:=hA.1;subst hop;clear hA sX dV HK;go_enter func74,ntmps74;go_wp2_with fail;refine df (v:=.agg #[.int .i64 16,.bool false,.slice none 0 0,.slice none 0 0,.slice none 0 0]) (by simp[results,results74,go_sem]) rfl ⟨⟨_,rfl,LN _ _ _⟩,(bj.alloc aB _).alloc ak _⟩};by_cases hB:c≠1;{
 have sX:fU o rs n k c op bN=((5,false,[],[]),[]):=by unfold fU;rw[aG hA,aP (.inl hB)]
 rw[sX];have hc1:(c != 1)=true:=by simpa using hB
 have LP:op=false\/(op=true/\(bN != 0)=false):=by{cases op;{exact .inl rfl};{exact .inr ⟨rfl,by simpa using fun h=>hA ⟨rfl,h⟩⟩}};clear hA hB sX dV HK LO H_;rcases LP with rfl|⟨rfl,Rg⟩;all_goals(go_enter func74,ntmps74;go_wp2_with fail;refine df (v:=.agg #[.int .i64 5,.bool false,.slice none 0 0,.slice none 0 0,.slice none 0 0]) (by simp[results,results74,go_sem]) rfl ⟨⟨_,rfl,LN _ _ _⟩,(bj.alloc aB _).alloc ak _⟩)};obtain rfl:c=1:=Mp hB;have LP:op=false\/(op=true/\(bN != 0)=false):=by{cases op;{exact .inl rfl};{exact .inr ⟨rfl,by simpa using fun h=>hA ⟨rfl,h⟩⟩}};cases hk:F6 k with
 | false =>{
 have sX:fU o rs n k 1 op bN=((5,false,[],[]),[]):=by unfold fU;rw[aG hA,aP (.inr (.inl hk))]
 rw[sX];have Ar:Hid (∀W:World,aF 140 #[aq k] W fun e w'=>e=.returned (.bool false)/\w'=W):=fun W=>by have:=af HK W;rw[hk]at this;exact this
 clear hA hB sX dV HK hk LO H_;rcases LP with rfl|⟨rfl,Rg⟩;all_goals(go_enter func74,ntmps74;go_wp2_with fail;refine(Ar _).mono ?_;rintro e w1 ⟨rfl,rfl⟩;go_wp2_with fail;refine df (v:=.agg #[.int .i64 5,.bool false,.slice none 0 0,.slice none 0 0,.slice none 0 0]) (by simp[results,results74,go_sem]) rfl ⟨⟨_,rfl,LN _ _ _⟩,(bj.alloc aB _).alloc ak _⟩)}
 | true =>{
 have sX:fU o rs n k 1 op bN=(if n = []then(5,false,[],[])else l9 o rs k n,if n = []then []else xX o rs k n):=by{unfold fU;rw[aG hA];by_cases h:n = [];{rw[aP (.inr (.inr h)),aP h,aP h]};{rw[aG (by rw[hk];simp[h]),aG h,aG h]}};rw[sX];have Ar:Hid (∀W:World,aF 140 #[aq k] W fun e w'=>e=.returned (.bool true)/\w'=W):=fun W=>by have:=af HK W;rw[hk]at this;exact this
 generalize (if n = []then(5,false,[],[])else l9 o rs k n)=Q at *;generalize (if n = []then []else xX o rs k n)=AD at *;clear hA hB sX HK hk;rcases LP with rfl|⟨rfl,Rg⟩;all_goals(have ey:Hid (aw w ((w.alloc EO).alloc EP)):=(bj.alloc aB _).alloc ak _;have sg:Hid (dG ((w.alloc EO).alloc EP) (w.heap.size+1) (aq 0) (.bool false) (bK) (bK) (bK)):=by{have:=World.alloc_heap_new (w.alloc EO) EP;rw[dI]at this;unfold dG;rw[Hid,this,H_]};go_enter func74,ntmps74;go_wp2_with fail;refine(Ar _).mono ?_;rintro e w1 ⟨rfl,rfl⟩;go_wp2_with fail;rw[<- LO,<- H_];refine(dV _ ey).mono ?_;rintro e w7 ⟨⟨v,rfl,va,vb,vd,rfl,p1,gB,fD,p4,p5,p6⟩,oA⟩;have hs0:((w.alloc EO).alloc EP).heap.size=w.heap.size+2:=ak;have r7:dG w7 (w.heap.size+1) (aq 0) (.bool false) (bK) (bK) (bK):=(oA.block (w.heap.size+1) ae).trans (af sg);have pq:=ey.trans (oA.mono ey.size);obtain⟨aa,ca,rfl⟩:=p1.slice;obtain⟨ab,cb',rfl⟩:=gB.slice;obtain⟨ac,cc',rfl⟩:=fD.slice;rw[hs0]at p1 gB fD;have bG:=ag (bQ p1 (bQ gB (bQ fD (bQ p4 (bQ p5 p6)))));obtain⟨k0,k1,k2,k3,k4⟩:=dG.cells r7;have kf:=dG.frozen r7;have R7:=ag r7;have amJ:=ag pq;clear p1 gB fD p4 p5 p6 r7 oA pq ey sg Ar dV hs0 LO H_;go_wp2_with fail;have A9:=((((R7.set0 (aq Q.1)).set1 (.bool Q.2.1)).set2 (.slice aa Q.2.2.1.length ca)).De (.slice ab Q.2.2.2.length cb')).AO (.slice ac AD.length cc');obtain⟨n0,n1,n2,n3,n4⟩:=A9.cells;obtain⟨p1,gB,fD,p4,p5,p6⟩:=af bG;have pq:=af amJ;have iZ:∀ {v:Value} {l:List aj} {W:World} (i:Nat) (u:Value),bT W (w.heap.size+2) v l->bT (W.setCell ⟨w.heap.size+1,i,none⟩ u) (w.heap.size+2) v l:=fun i u h=>h.ky (k:=w.heap.size+1) (i:=i) ae u;refine df (v:=.agg #[.int .i64 Q.1,.bool Q.2.1,.slice aa Q.2.2.1.length ca,.slice ab Q.2.2.2.length cb',.slice ac AD.length cc']) ?_ rfl ⟨⟨_,rfl,_,_,_,rfl,?_,?_,?_,p4,p5,p6⟩,?_⟩;{simp[results,results74,go_sem,n0,n1,n2,n3,n4]};{exact(iZ 4 _ (iZ 3 _ (iZ 2 _ (iZ 1 _ (iZ 0 _ p1))))).base ae};{exact(iZ 4 _ (iZ 3 _ (iZ 2 _ (iZ 1 _ (iZ 0 _ gB))))).base ae};{exact(iZ 4 _ (iZ 3 _ (iZ 2 _ (iZ 1 _ (iZ 0 _ fD))))).base ae};{exact((((pq.setCell (p:=⟨w.heap.size+1,0,none⟩) (by show w.heap.size<=w.heap.size+1;omega) _).setCell (p:=⟨w.heap.size+1,1,none⟩) (by show w.heap.size<=w.heap.size+1;omega) _).setCell (p:=⟨w.heap.size+1,2,none⟩) (by show w.heap.size<=w.heap.size+1;omega) _).setCell (p:=⟨w.heap.size+1,3,none⟩) (by show w.heap.size<=w.heap.size+1;omega) _).setCell (p:=⟨w.heap.size+1,4,none⟩) (by show w.heap.size<=w.heap.size+1;omega) _})}
def uO(n:Nat):ai:=[au (n/65536),eO (n/65536),au (n%65536),eO (n%65536)]
def bO(s:ai)(i:Nat):Nat:=256*(s.getD i 0).toNat+(s.getD (i+1) 0).toNat
def qA(c:UInt8):UInt8:=if 65<=c.toNat/\c.toNat<=90 then UInt8.ofNat (c.toNat+32)else c
abbrev oM:=List (List ai×Nat)
def wI(n:List ai):oM->Option Nat
 | []=>none
 | e :: es=>if e.1=n/\e.2<16384 then some e.2 else wI n es
def pG(ns:List ai):List ai:=ns.map (List.map qA)
def gR:List ai->ai->oM->ai×oM
 | [],S,es=>(S++[0],es)
 | x :: t,S,es=>match wI (pG (x :: t)) es with
  | some a=>(S++[au (49152+a),eO (49152+a)],es)
  | none=>gR t (S++(UInt8.ofNat x.length :: x)) (es++[(pG (x :: t),S.length)])
theorem Rh{x:ai}{t:List ai}{S:ai}{es:oM}{a:Nat}(h:wI (pG (x :: t)) es=some a):gR (x :: t) S es=(S++[au (49152+a),eO (49152+a)],es):=by rw[gR,h]
theorem LQ{x:ai}{t:List ai}{S:ai}{es:oM}(h:wI (pG (x :: t)) es=none):gR (x :: t) S es=gR t (S++(UInt8.ofNat x.length :: x)) (es++[(pG (x :: t),S.length)]):=by rw[gR,h]
end Go.Proofs.YtkkpahmoljiepaaGreatDoor
