import Derived.Test.YtkkpahmoljiepaaGreatDoorJ24
set_option maxRecDepth 1000000
set_option maxHeartbeats 12800000
set_option linter.unusedSimpArgs false
set_option linter.unusedVariables false
namespace Go.Proofs.YtkkpahmoljiepaaGreatDoor
open Go.RowKit Go.Proofs.Tryz
abbrev mc:=List (ah ⊕ ah)
def b5:mc->ah->ey->ah×ey
 | [],S,a=>(S,a)
 | .inl c::t,S,a=>b5 t (S++c) a
 | .inr b::t,S,a=>b5 t (bd (aC 46 b) S a).1 (bd (aC 46 b) S a).2
def dj(b:aj)(a:Nat):ah:=(aC 32 b.data).getD a []
def eB(a:ah):Nat:=e_ 4294967295 a
def ck(a:aj):mc :=
 if a.type=1 then [.inl ((aC 46 a.data).map fun b=>UInt8.ofNat (eB b))]
 else if a.type=16 then [.inl (UInt8.ofNat a.data.length::a.data)]
 else if a.type=15 then [.inl [ao (eB (dj a 0)),aV (eB (dj a 0))],.inr (dj a 1)]
 else if a.type=6 then [.inr (dj a 0),.inr (dj a 1),.inl (cN (eB (dj a 2))++cN 3600++cN 600++cN 86400++cN (eB (dj a 3)))]
 else [.inr (dj a 0)]
def fk(a:aj)(S:ah):ah:=S++[ao a.type.toNat,aV a.type.toNat]++[ao 1,aV 1]++cN a.aI++[ao 0,aV 0]
def gI(b:aj)(e:List ah)(d:ah)(es:ey):ah×ey :=
 let a:=bd e d es
 let c:=b5 (ck b) (fk b a.1) a.2
 (c.1.take ((fk b a.1).length-2)++[ao (c.1.length-(fk b a.1).length),aV (c.1.length-(fk b a.1).length)]++c.1.drop (fk b a.1).length,c.2)
theorem CX:∀(d:List ah) (a:ah) (c:ey),(∀b∈d,b.length<=255)->d.length<=1000->a.length+d.length*256<=1000000->(∀e∈c,e.1.length<=1000/\e.2<=1000000)->(bd d a c).1.length<=a.length+d.length*256+2/\a.length<=(bd d a c).1.length/\(bd d a c).2.length<=c.length+d.length/\∀e∈(bd d a c).2,e.1.length<=1000/\e.2<=1000000
 | [],a,c,_,_,_,h=>⟨by simp[bd],by simp[bd],by simp[bd],h⟩
 | b::i,a,c,n,p,o,h=>by
  have u:=n b am;simp only[bi]at p o;cases k:e7 (cO (b::i)) c with
  | some t=>rw[oD k];exact⟨am,am,am,h⟩
  | none =>{
  rw[lx k];have l:(a++(UInt8.ofNat b.length::b)).length=a.length+b.length+1:=aA;have j:=CX i (a++(UInt8.ofNat b.length::b)) (c++[(cO (b::i),a.length)]) (fun r q=>n r (by simp[q])) ae (by rw[l];omega) (fun e g=>by{
  rcases dv.1 g with g|g;{exact h e g};{
  obtain rfl:e=_:=by simpa using g
  exact⟨by show(cO (b::i)).length<=1000;rw[ke];simp;omega,by show a.length<=1000000;omega⟩}})
  rw[l,a6]at j;simp only[bi,cW]at j ⊢;exact⟨ae,ae,ae,j.2.2.2⟩}
theorem CY{aD:List ah}(b:cQ 1 aD=true):∃a,aD=[a]/\(aC 46 a).all (cf 255)=true/\(aC 46 a).length=4:=by
 match aD,b with
 | [a],b =>{have c:m2 a=true:=b;unfold m2 at c;simp only[bW,dE]at c;exact⟨a,rfl,c⟩}
theorem nf{t:Nat}{aD:List ah}(c:t=2\/t=5)(b:cQ (t:Int) aD=true):∃a,aD=[a]/\dQ a=true:=by
 rcases c with rfl|rfl;{
 match aD,b with
 | [a],b=>exact⟨a,rfl,b⟩};{
 match aD,b with
 | [a],b=>exact⟨a,rfl,b⟩}
theorem tU{aD:List ah}(g:cQ 6 aD=true):∃a b c d,aD=[a,b,c,d]/\dQ a=true/\dQ b=true/\cf 4294967295 c=true/\cf 86400 d=true:=by
 match aD,g with
 | [a,b,c,d],g =>{have e:(dQ a&&dQ b&&cf 4294967295 c&&cf 86400 d)=true:=g;simp only[bW]at e;exact⟨a,b,c,d,rfl,e.1.1.1,e.1.1.2,e.1.2,e.2⟩}
theorem tV{aD:List ah}(c:cQ 15 aD=true):∃a b,aD=[a,b]/\cf 65535 a=true/\dQ b=true:=by
 match aD,c with
 | [a,b],c =>{have d:(cf 65535 a&&dQ b)=true:=c;simp only[bW]at d;exact⟨a,b,rfl,d⟩}
theorem Ky{aD:List ah}(b:cQ 16 aD=true):∃a,aD=[a]/\a.length<=40:=by
 match aD,b with
 | [a],b =>{have c:iL a=true:=b;unfold iL at c;simp only[bW,jy]at c;exact⟨a,rfl,c.2⟩}
theorem oE{m:Nat}{a:ah}(d:m<=4294967295)(h:cf m a=true):cf 4294967295 a=true/\eB a<=m:=by
 rw[uZ m ae]at h;rw[uZ 4294967295 ae];cases b:jn a with
 | none=>rw[b]at h;cases h
 | some v =>{
 rw[b]at h;have c:v<=m:=kI
 refine⟨aA,?_⟩;unfold eB;rw[Ad 4294967295 ae a v b ae];exact c}
theorem xj{a:ah}(b:dQ a=true):dS false a=some (aC 46 a):=by have:=l7 a;rw[b]at this;unfold dS at this ⊢;split at this;{rename_i b;rw[ay b]};{cases this}
theorem Kz{x:ah}(a:dQ x=true):aC 46 x≠[]/\(aC 46 x).length<=61/\∀y∈aC 46 x,y.length<=255:=by have b:=(ed a).2;have c:=iq 46 x;exact⟨io 46 x,ae,fun y hy=>B7⟩
theorem xk{wb g:Nat}{d:ah}{v:Value}{c:ey}{b:ah}{e i:Nat}{a:World}(w:dQ b=true)(x:eI a wb d v)(u:fJ a g wb v c)(o:gJ a e 0 (aC 46 b))(r:(aC 46 b).length<=i)(y:e≠wb)(l:some e≠v.ownBlock)(n:g<=a.heap.size)(A:d.length<=800000)(t:∀h∈c,h.1.length<=1000/\h.2<=1000000)(B:c.length<=800000):az 144 #[aO wb,aF e 0 (aC 46 b).length i] a fun h k=>h=.returned (.tuple #[])/\∃j,eI k wb (bd (aC 46 b) d c).1 j/\fJ k g wb j (bd (aC 46 b) d c).2/\eQ wb a v k j:=by obtain⟨p,z,q⟩:=Kz w;exact CU wb g d v c e 0 i (aC 46 b) a x u o r y l n p ae q ae t ae
theorem xm{c:ah}(h:dQ c=true)(a:ah)(b:ey)(k:a.length<=800000)(g:∀d∈b,d.1.length<=1000/\d.2<=1000000):(bd (aC 46 c) a b).1.length<=a.length+15618/\a.length<=(bd (aC 46 c) a b).1.length/\(bd (aC 46 c) a b).2.length<=b.length+61/\∀d∈(bd (aC 46 c) a b).2,d.1.length<=1000/\d.2<=1000000:=by obtain⟨i,j,e⟩:=Kz h;have:=CX (aC 46 c) a b e ae ae g;exact⟨ae,this.2.1,ae,this.2.2.2⟩
def pX(c:Nat)(s:ah)(b a:World):Prop:=a.cell? (aq c 0)=some (au s)/\ax b a
theorem pX.call{g:Nat}{s:ah}{e b c:World}(a:pX g s e b)(d:ax b c):pX g s e c :=
 ⟨(d.cell (ef b _ a.1)).trans a.1,a.2.trans (d.mono a.2.size)⟩
def pZ(d:Nat)(s:ah)(b:Addr)(e:ah)(c a:World):Prop:=a.cell? (aq d 0)=some (au s)/\a.cell? b=some (au e)/\ax c a
theorem pZ.call{j:Nat}{s k:ah}{e:Addr}{i b d:World}(a:pZ j s e k i b)(g:ax b d):pZ j s e k i d:=by have h:∀(c:Addr) (v:Value),b.cell? c=some v->d.cell? c=some v:=fun c v a=>(g.cell (ef b c a)).trans a;exact⟨h _ _ a.1,h _ _ a.2.1,a.2.2.trans (g.mono a.2.2.size)⟩
def fX(h d:Nat)(s:ah)(e:Value)(b:Addr)(i:ah)(c:Addr)(j:ah)(g a:World):Prop:=a.cell? (aq h 0)=some (au s)/\a.cell? (aq d 4)=some e/\a.cell? b=some (au i)/\a.cell? c=some (au j)/\ax g a
theorem fX.call{n i:Nat}{s o p:ah}{j:Value}{g h:Addr}{l b e:World}(a:fX n i s j g o h p l b)(k:ax b e):fX n i s j g o h p l e:=by have c:∀(d:Addr) (v:Value),b.cell? d=some v->e.cell? d=some v:=fun d v a=>(k.cell (ef b d a)).trans a;exact⟨c _ _ a.1,c _ _ a.2.1,c _ _ a.2.2.1,c _ _ a.2.2.2.1,a.2.2.2.2.trans (k.mono a.2.2.2.2.size)⟩
def kw(h b:Nat)(s:ah)(d e:Nat)(c:World->Prop)(g a:World):Prop:=a.cell? (aq h 0)=some (au s)/\a.cell? (aq b 1)=some (ak d)/\a.cell? (aq b 2)=some (ak e)/\c a/\ax g a
theorem kw.call{o i:Nat}{s:ah}{k l:Nat}{c:World->Prop}{n a b:World}(u:∀a b,c a->ax a b->c b)(d:kw o i s k l c n a)(g:ax a b):kw o i s k l c n b:=by obtain⟨p,q,r,t,j⟩:=d;have h:∀(e:Addr) (v:Value),a.cell? e=some v->b.cell? e=some v:=fun e v d=>(g.cell (ef a e d)).trans d;exact⟨h _ _ p,h _ _ q,h _ _ r,u _ _ t g,j.trans (g.mono j.size)⟩
theorem BK{P:Prop}(h:P:=by have:=f2.fr.size;omega):P:=h
theorem yw{P:Prop}(h:P:=by have:=f0.lt;omega):P:=h
theorem yF{P:Prop}(h:P:=by have:=(f1.lt g3 e.symm).2;omega):P:=h
theorem Wu(wb O:Nat)(S:ah)(v:Value)(a3:ey)(j:aj)(bI cL cJ d g wc:Nat)(al:List ah)(I:World)(cD:eI I wb S v)(cB:fJ I O wb v a3)(eD:gJ I bI cL al)(eR:al.length<=cJ)(ez:bI≠wb)(dY:some bI≠v.ownBlock)(bY:gJ I d g (aC 32 j.data)) (fY:(aC 32 j.data).length<=wc) (e1:d≠wb) (dZ:some d≠v.ownBlock) (ct:O<=I.heap.size) (eC:al≠[]) (eA:al.length<=300) (dg:∀x∈al,x.length<=255)(P:cQ j.type (aC 32 j.data)=true) (cY:j.aI<4294967296) (cH:j.data.length<=3000) (b:S.length<=500000) (dc:∀e∈a3,e.1.length<=1000/\e.2<=1000000) (fU:a3.length<=500000):az 147 #[aO wb,.agg #[aF bI cL al.length cJ,ak j.aI,ak j.type,au j.data,aF d g (aC 32 j.data).length wc]] I fun e ab=>e=.returned (.tuple #[])/\∃dz,eI ab wb (gI j al S a3).1 dz/\fJ ab O wb dz (gI j al S a3).2/\eQ wb I v ab dz:=by
 obtain⟨n,di⟩:∃n:Nat,j.type=(n:Int):=⟨j.type.toNat,by have:=oW P;omega⟩;have d1:n<65536:=by have:=oW P;omega
 rw[di];obtain⟨Z,bn⟩:∃Z:Obj,Z=.cells #[.slice (some ⟨bI,cL,none⟩) al.length cJ,.int .i64 j.aI,.int .i64 n,.string (ai j.data),.slice (some ⟨d,g,none⟩) (aC 32 j.data).length wc] 119:=⟨_,rfl⟩;have bH:ax I (I.alloc Z):=aE.alloc av _;have fZ:=cD.lt;have fl:=cB.ne cD;have dM:=cB.lt;have cb:=CU wb O S v a3 bI cL cJ al (I.alloc Z) (cD.below bH) (cB.below bH) (eD.below bH) eR ez dY aA eC eA dg ae dc ae;have bN:=CX al S a3 dg ae ae dc;obtain⟨bs,db⟩:=a2 (bd al S a3);have e0:Hid (∀bu:ah×ey,bu=b5 (ck j) (fk j bs.1) bs.2->gI j al S a3=(bu.1.take ((fk j bs.1).length-2)++[ao (bu.1.length-(fk j bs.1).length),aV (bu.1.length-(fk j bs.1).length)]++bu.1.drop (fk j bs.1).length,bu.2)):=fun bu bY=>by rw[bY,db];rfl
 rw[<- db]at cb bN;obtain⟨R,l⟩:=bs;simp only at cb bN e0;have f3:=af cb;have bF:=af bN.2.2.2;have fT:=bN.1;have fG:=bN.2.2.1;have bp:=af di;have e9:=af bY;have fH:=af P;have fI:=bY.1;clear db cD cB eD bY P dg dc cb bN di;go_enter func147,ntmps147;go_wp2_with fail;rw[<- bn];refine f3.mono ?_;rintro e Q ⟨rfl,C,b0,eE,bR⟩;have bZ:=bR.fr.size;rw[cv]at bZ;obtain⟨o,bJ⟩:=a2 I.heap.size;have fK:(I.alloc Z).heap.size=o+1:=by rw[cv,bJ]
 have bg:=World.alloc_heap_new I Z;rw[bn,<- bJ]at bg;rw[<- bn]at bg;have aY:Hid (gJ (I.alloc Z) d g (aC 32 j.data)/\(d≠wb/\some d≠v.ownBlock)/\(o<(I.alloc Z).heap.size/\o≠wb/\some o≠v.ownBlock)/\(I.alloc Z).cell? (aq o 1)=some (ak j.aI)/\(I.alloc Z).cell? (aq o 2)=some (ak n)/\(I.alloc Z).cell? (aq o 4)=some (aF d g (aC 32 j.data).length wc)):=by{refine⟨e9.below bH,⟨e1,dZ⟩,⟨ae,ae,fun e=>by have:=(dM _ e.symm).2;omega⟩,?_,?_,?_⟩;all_goals(have bg:=World.alloc_heap_new I Z;rw[bn]at bg;rw[<- bn]at bg;rw[<- bJ,bn]at bg;unfold World.cell?;rw[bn,bg];rfl)};have d2:Hid (eQ wb I v (I.alloc Z) v):=eQ.yS bH;generalize I.alloc Z=W at *;have ca:Hid (eI Q wb R C/\fJ Q O wb C l/\eQ wb W v Q C):=⟨b0,eE,bR⟩;have bS:∀(a4:Nat) (A:Value) (c:World) (bC:Value),eQ wb W v c bC->W.cell? (aq o a4)=some A->c.cell? (aq o a4)=some A:=fun a4 A c bC t hu=>(b7 (a:=⟨o,a4,none⟩) (t.fr.block o aY.2.2.1.1 aY.2.2.1.2)).trans hu;have dx:=bS 1 _ Q C bR aY.2.2.2.1;have eT:=bS 2 _ Q C bR aY.2.2.2.2.1;have aZ:Hid (∀(c:World) (bC:Value),eQ wb W v c bC->gJ c d g (aC 32 j.data)/\c.cell? (aq o 2)=some (ak n)/\c.cell? (aq o 4)=some (aF d g (aC 32 j.data).length wc)):=fun c bC t=>⟨aY.1.fr t.fr aY.2.1,bS 2 _ c bC t aY.2.2.2.2.1,bS 4 _ c bC t aY.2.2.2.2.2⟩;obtain⟨cU,fM⟩:=b0.cells;have fn:=b0.lt;have er:=b0.frozen;rw[<- bJ];have gg:=af bJ;obtain⟨U,dd⟩:=a2 j.aI;rw[<- dd]at dx cY;have eq:kw wb o R U n (fun _=>True) Q Q.drew:=⟨cU,dx,eT,aL,aE.drew⟩;have eH:Hid (∀c,kw wb o R U n (fun _=>True) Q c->az 83 #[ak n] c fun e i=>e=.returned (au [ao n,aV n])/\kw wb o R U n (fun _=>True) Q i):=fun c t=>(iC n c d1).mono fun e i k=>⟨k.1,t.call (fun _ _ _ _=>aL) k.2⟩;have eK:Hid (∀c,kw wb o R U n (fun _=>True) Q c->az 83 #[ak 1] c fun e i=>e=.returned (au [ao 1,aV 1])/\kw wb o R U n (fun _=>True) Q i):=fun c t=>(iC 1 c ae).mono fun e i k=>⟨k.1,t.call (fun _ _ _ _=>aL) k.2⟩;have eS:Hid (∀c,kw wb o R U n (fun _=>True) Q c->az 205 #[ak U] c fun e i=>e=.returned (au (cN U))/\kw wb o R U n (fun _=>True) Q i):=fun c t=>(q_ U c cY).mono fun e i k=>⟨k.1,t.call (fun _ _ _ _=>aL) k.2⟩;have dJ:Hid (∀c,kw wb o R U n (fun _=>True) Q c->az 83 #[ak 0] c fun e i=>e=.returned (au [ao 0,aV 0])/\kw wb o R U n (fun _=>True) Q i):=fun c t=>(iC 0 c ae).mono fun e i k=>⟨k.1,t.call (fun _ _ _ _=>aL) k.2⟩;obtain⟨aU,dv⟩:=a2 R.length;have dF:(ai R).size=aU:=by rw[a7,dv]
 have f9:(ai [ao n,aV n]).size=2:=rfl;have f_:(ai [ao 1,aV 1]).size=2:=rfl;have ga:(ai (cN U)).size=4:=rfl;have gb:(ai [ao 0,aV 0]).size=2:=rfl;obtain⟨q,ex⟩:=a2 (aU+10);obtain⟨cl,cu⟩:=a2 (R++[ao n,aV n]);obtain⟨cm,cy⟩:=a2 (cl++[ao 1,aV 1]);obtain⟨cn,cc⟩:=a2 (cm++cN U);obtain⟨h,cd⟩:=a2 (cn++[ao 0,aV 0]);have e2:(ai cl).size=aU+2:=by rw[a7,cu,a6,dv];rfl
 have e3:(ai cm).size=aU+4:=by rw[a7,cy,a6,<- a7,e2];rfl
 have e4:(ai cn).size=aU+8:=by rw[a7,cc,a6,<- a7,e3];rfl
 have f8:(ai h).size=q:=by rw[a7,cd,a6,<- a7,e4,ex];rfl
 have a5:Hid (q=h.length):=by rw[Hid,<- a7,f8]
 have gh:10<=q/\q<=600100:=ae;have dm:ai R++ai [ao n,aV n]=ai cl:=by rw[cu];exact iD
 have dn:ai cl++ai [ao 1,aV 1]=ai cm:=by rw[cy];exact iD
 have dp:ai cm++ai (cN U)=ai cn:=by rw[cc];exact iD
 have dq:ai cn++ai [ao 0,aV 0]=ai h:=by rw[cd];exact iD
 have e7:Hid (h=fk j R):=by rw[Hid,cd,cc,cy,cu,fk,ag bp,dd];rfl
 have gi:aU<=600000:=ae;have cG:¬9223372036854775807<aU+2:=ae;have dt:¬9223372036854775807<aU+2+2:=ae;have eL:¬9223372036854775807<aU+4+4:=ae;have eM:¬9223372036854775807<aU+8+2:=ae;have gj:l.length<=600000:=ae;have fL:=af (aQ ct (aQ bZ cH));clear cu cy cc cd b0 eE bR cU fM dx eT bn dd bJ ct fI fY cH bZ fl fZ dM dv fT fG eR ez dY e1 dZ eC eA b fU d1 cY bH bg bS fK aY;go_wp2_with fail;refine tT (S:=kw wb o R U n (fun _=>True) Q) 19 aB aB eq (fun b=>?_);simp only[nD,kW];generalize Q.drew=cj at *;refine c6 0 b ?_;refine c6 1 b ?_;refine c6 2 b ?_;refine c6 3 b ?_;refine c6 4 b ?_;refine c6 5 b ?_;refine c6 6 b ?_;refine c6 11 b ?_;refine c6 12 b ?_;refine ec (rs:=[7]) aB am (dr rfl (fun z p=>?_) eb);go_simp;go_wp2_with (go_at_call 83;go_loud (refine(eH _ b).mono ?_;rintro e i ⟨rfl,r⟩));refine p.out _ _ r (fun b=>?_);clear p z;try simp only[Act.put,ep,c5,dl]
 clear r;refine c6 8 b ?_;refine ec (rs:=[9]) aB am (dr rfl (fun z p=>?_) eb);go_simp;go_wp2_with (go_at_call 83;go_loud (refine(eK _ b).mono ?_;rintro e i ⟨rfl,r⟩));refine p.out _ _ r (fun b=>?_);clear p z;try simp only[Act.put,ep,c5,dl]
 clear r;refine c6 10 b ?_;refine ec (rs:=[13]) aB am (dr rfl (fun z p=>?_) eb);go_simp;go_wp2_with (go_at_call 205;go_loud (refine(eS _ b).mono ?_;rintro e i ⟨rfl,r⟩));refine p.out _ _ r (fun b=>?_);clear p z;try simp only[Act.put,ep,c5,dl]
 clear r;refine c6 14 b ?_;refine ec (rs:=[15]) aB am (dr rfl (fun z p=>?_) eb);go_simp;go_wp2_with (go_at_call 83;go_loud (refine(dJ _ b).mono ?_;rintro e i ⟨rfl,r⟩));refine p.out _ _ r (fun b=>?_);clear p z;try simp only[Act.put,ep,c5,dl]
 clear r;refine c6 16 b ?_;refine c6 17 b ?_;refine c6 18 b ?_;refine mz aB (tS rfl rfl ?_) _;obtain⟨a9,_,_,_,N⟩:=b;have a8:=(lZ (N.block wb fn)).trans (er 0);go_simp;obtain⟨es,et,eu⟩:=ly ca.1 ca.2.1 ca.2.2 N h;have E:Hid (eI (i.setCell ⟨wb,0,none⟩ (.string (ai h))) wb h C/\fJ (i.setCell ⟨wb,0,none⟩ (.string (ai h))) O wb C l/\eQ wb W v (i.setCell ⟨wb,0,none⟩ (.string (ai h))) C):=⟨es,et,eu⟩;generalize i.setCell ⟨wb,0,none⟩ (.string (ai h))=u at *;clear a9 N a8 es et eu eq eH eK eS dJ dm dn dp dq e2 e3 e4 cG dt eL eM f9 f_ ga gb dF ca er;obtain⟨aT,ap⟩:=E.1.cells;have cs:=(aZ u C E.2.2).2.1;have gD:=E.2.2.fr.size;have P:=ag fH;rw[ag bp]at P;have T:(n=2\/n=5)\/n=15\/n=6\/n=16\/n=1:=by have:=oW P;omega
 have cO:=af (fun(x:ah) (c:World) (t:x.length<=3000)=>rt x false c ae);obtain⟨ct,bZ,cH⟩:=ag fL;have gt:O<=W.heap.size:=by have:=d2.fr.size;omega
 clear ex ct bZ;go_upto_block 0 with fail;go_cut [5,6]from 37 to 159 (fun gQ gR dA=>∃a_,Hid (eI dA wb (b5 (ck j) h l).1 a_/\fJ dA O wb a_ (b5 (ck j) h l).2/\eQ wb W v dA a_)/\q<=(b5 (ck j) h l).1.length/\(b5 (ck j) h l).1.length<=q+60000);case first =>(
 rcases T with T|T|T|T|T;{
 obtain⟨x,cg,ad⟩:=nf T P;have cE:=(ed ad).2;have D:Hid (b5 (ck j) h l=bd (aC 46 x) h l):=by{rw[Hid,ck,ag bp,ar ae,ar ae,ar ae,ar ae,dj,cg];rfl};obtain⟨B,_,aK⟩:=ag aZ u C E.2.2;rw[cg]at B aK;have en:=B.2 0 am;simp only[cw,dT,bi,cW,cT]at en aK;have bw:((n:Int)==1)=false:=eP
 have bz:((n:Int)==16)=false:=eP
 have w:((n:Int)==15)=false:=eP
 have bK:((n:Int)==6)=false:=eP
 clear T B cg P;go_wp2_with fail;refine(cO x u ae).mono ?_;rintro e V ⟨⟨cP,rfl,aM⟩,w⟩;rw[xj ad]at aM;obtain⟨_,g3,c4,rfl,bA,cC,aS⟩:=aM;have bL:=w.size;obtain⟨f0,f1,f2⟩:=ag E;have gu:h.length<=700000:=by rw[<- ag a5];omega
 have dN:=af (xk ad (f0.below w) (f1.below w) aS bA yw (fun e=>yF) ae ae (ag bF) ae);have d3:=af (xm ad h l ae (ag bF));have aJ:=af (f2.trans (eQ.yS (wb:=wb) w));clear f0 f1 f2 w aS aT ap cs aK en;go_wp2_with fail;refine dN.mono ?_;rintro e aW ⟨rfl,a_,aN,aP,aR⟩;have Y:Hid (eI aW wb (b5 (ck j) h l).1 a_/\fJ aW O wb a_ (b5 (ck j) h l).2/\eQ wb W v aW a_):=by rw[Hid,ag D];exact⟨aN,aP,aJ.trans aR⟩
 have aD:q<=(b5 (ck j) h l).1.length/\(b5 (ck j) h l).1.length<=q+60000:=by rw[ag D,ag a5];have:=ag d3;rw[<- ag a5]at this ⊢; omega
 clear aN aP aR dN d3 aJ D bw bz w bK;go_wp2_with fail;go_meet;case rel=>exact⟨a_,Y,aD⟩};{
 have X:=P;rw[T]at X;obtain⟨x,y,cg,eX,ad⟩:=tV X;obtain⟨eZ,f6⟩:=oE ae eX;have dL:=(ed ad).2;have cE:x.length<=3000:=by have:=jo 32 j.data.length j.data av x sm;omega
 have D:Hid (b5 (ck j) h l=bd (aC 46 y) (h++[ao (eB x),aV (eB x)]) l):=by{rw[Hid,ck,ag bp,ar ae,ar ae,ay ae,dj,dj,cg];rfl};have bb:=af (fun c=>u_ x c ae eZ);obtain⟨K,bl⟩:=a2 (eB x);rw[<- bl]at D f6;have bm:Hid (∀c,az 206 #[au x] c fun e ab=>e=.returned (ak K)/\ab=c):=by rw[bl];exact bb
 have aX:=af cg;have bw:((n:Int)==1)=false:=eP
 have bz:((n:Int)==16)=false:=eP
 have w:((n:Int)==15)=true:=ni
 clear bl bb eZ eX P X cg T;obtain⟨B,_,aK⟩:=ag aZ u C E.2.2;rw[ag aX]at B aK;have aa:=B.2 0 am;simp only[cw,cF,dT,bi,cW,cT,Nat.reduceAdd]at aa aK;clear B;obtain⟨gy,fi⟩:=a2 (Value.slice (some (aq d g)) 2 wc);have b1:fX wb o h (aF d g 2 wc) (aq d g) x (aq d g) x u u.drew:=⟨aT,aK,aa,aa,aE.drew⟩;have bT:Hid (∀c,fX wb o h (aF d g 2 wc) (aq d g) x (aq d g) x u c->az 206 #[au x] c fun e i=>e=.returned (ak K)/\fX wb o h (aF d g 2 wc) (aq d g) x (aq d g) x u i):=fun c t=>(bm c).mono fun e i k=>⟨k.1,by rw[k.2];exact t⟩;have dK:Hid (∀c,fX wb o h (aF d g 2 wc) (aq d g) x (aq d g) x u c->az 83 #[ak K] c fun e i=>e=.returned (au [ao K,aV K])/\fX wb o h (aF d g 2 wc) (aq d g) x (aq d g) x u i):=fun c t=>(iC K c ae).mono fun e i k=>⟨k.1,t.call k.2⟩;obtain⟨ac,a0⟩:=a2 (h++[ao K,aV K]);rw[<- a0]at D;have ds:ai h++ai [ao K,aV K]=ai ac:=by rw[a0];exact iD
 have gc:(ai [ao K,aV K]).size=2:=rfl;have eN:¬9223372036854775807<q+2:=ae;have ge:ac.length=q+2:=by rw[a0,a6,<- ag a5];rfl
 have ce:=E.1.frozen;have bQ:=E.1.lt;clear a0 fi;go_wp2_with fail;refine tT (S:=fX wb o h (aF d g 2 wc) (aq d g) x (aq d g) x u) 14 aB aB b1 (fun b=>?_);simp only[nD,kW];generalize u.drew=cj at *;refine c6 0 b ?_;refine c6 1 b ?_;refine c6 2 b ?_;refine c6 3 b ?_;refine c6 4 b ?_;refine c6 5 b ?_;refine c6 6 b ?_;refine c6 7 b ?_;refine c6 8 b ?_;refine ec (rs:=[9]) aB am (dr rfl (fun z p=>?_) eb);go_simp;go_wp2_with (go_at_call 206;go_loud (refine(bT _ b).mono ?_;rintro e i ⟨rfl,r⟩));refine p.out _ _ r (fun b=>?_);clear p z;try simp only[Act.put,ep,c5,dl]
 clear r;refine ec (rs:=[10]) aB am (dr rfl (fun z p=>?_) eb);go_simp;go_wp2_with (go_at_call 83;go_loud (refine(dK _ b).mono ?_;rintro e i ⟨rfl,r⟩));refine p.out _ _ r (fun b=>?_);clear p z;try simp only[Act.put,ep,c5,dl]
 clear r;refine c6 11 b ?_;refine c6 12 b ?_;refine c6 13 b ?_;refine mz aB (tS rfl rfl ?_) _;obtain⟨a9,_,_,_,N⟩:=b;have a8:=(lZ (N.block wb bQ)).trans (ce 0);go_simp;have aw:=af (ly E.1 E.2.1 E.2.2 N ac);clear a9 N a8 b1 bT dK bm ds gc eN ce bQ aT ap cs aK aa;generalize i.setCell ⟨wb,0,none⟩ (.string (ai ac))=V at *;obtain⟨B,_,aK⟩:=ag aZ V C aw.2.2;rw[ag aX]at B aK;have bU:=B.2 1 am;simp only[cw,cF,dT,bi,cW,cT,Nat.reduceAdd]at bU aK;clear B;go_wp2_with fail;refine(cO y V ae).mono ?_;rintro e fo ⟨⟨cP,rfl,aM⟩,w⟩;rw[xj ad]at aM;obtain⟨_,g3,c4,rfl,bA,cC,aS⟩:=aM;have bL:=w.size;obtain⟨f0,f1,f2⟩:=ag aw;have bP:=af (xk ad (f0.below w) (f1.below w) aS bA yw (fun e=>yF) BK ae (ag bF) ae);have bV:=xm ad ac l ae (ag bF);have aJ:=af (f2.trans (eQ.yS (wb:=wb) w));clear f0 f1 f2 w aS aK bU;go_wp2_with fail;refine bP.mono ?_;rintro e aH ⟨rfl,aI,aN,aP,aR⟩;have bB:Hid (eI aH wb (bd (aC 46 y) ac l).1 aI/\fJ aH O wb aI (bd (aC 46 y) ac l).2/\eQ wb W v aH aI):=⟨aN,aP,aJ.trans aR⟩;clear aN aP aR bP aJ bL;generalize bd (aC 46 y) ac l=c0 at *;obtain⟨br,bW⟩:=c0;simp only at bV bB D;obtain⟨d4,d5,dI,b2⟩:=bV;have c7:=af b2;clear b2;have Y:Hid (eI aH wb (b5 (ck j) h l).1 aI/\fJ aH O wb aI (b5 (ck j) h l).2/\eQ wb W v aH aI):=by rw[Hid,ag D];exact bB
 have aD:q<=(b5 (ck j) h l).1.length/\(b5 (ck j) h l).1.length<=q+60000:=by rw[ag D];show q<=br.length/\br.length<=q+60000;omega
 clear D bB;go_wp2_with fail;go_meet;case rel=>exact⟨aI,Y,aD⟩};{
 have X:=P;rw[T]at X;obtain⟨bo,bE,F,G,cg,bl,b6,dw,e6⟩:=tU X;obtain⟨d6,fp⟩:=oE (m:=86400) ae e6;have fq:=(oE (m:=4294967295) av dw).2;have fS:=(ed bl).2;have fr:=(ed b6).2;have fe:F.length<=3000:=by have:=jo 32 j.data.length j.data av F sm;omega
 have fs:G.length<=3000:=by have:=jo 32 j.data.length j.data av G sm;omega
 have D:Hid (b5 (ck j) h l=((bd (aC 46 bE) (bd (aC 46 bo) h l).1 (bd (aC 46 bo) h l).2).1++(cN (eB F)++cN 3600++cN 600++cN 86400++cN (eB G)),(bd (aC 46 bE) (bd (aC 46 bo) h l).1 (bd (aC 46 bo) h l).2).2)):=by{rw[Hid,ck,ag bp,ar ae,ar ae,ar ae,ay ae,dj,dj,dj,dj,cg];rfl};have bb:=af (fun c=>u_ F c ae dw);have d7:=af (fun c=>u_ G c ae d6);obtain⟨cK,cS⟩:∃K,K=eB F:=⟨_,rfl⟩;obtain⟨cx,dy⟩:∃K,K=eB G:=⟨_,rfl⟩;rw[<- cS,<- dy]at D;have bm:Hid (∀c,az 206 #[au F] c fun e ab=>e=.returned (ak cK)/\ab=c):=by rw[cS];exact bb
 have dH:Hid (∀c,az 206 #[au G] c fun e ab=>e=.returned (ak cx)/\ab=c):=by rw[dy];exact d7
 have d8:cK<4294967296:=ae;have d9:cx<4294967296:=ae;have bj:=a5.symm;have aX:=af cg;have eY:((n:Int)==1)=false:=eP
 have d_:((n:Int)==16)=false:=eP
 have dP:((n:Int)==15)=false:=eP
 have dQ:((n:Int)==6)=true:=ni
 clear cS dy bb d7 dw e6 d6 fp fq P X cg T;obtain⟨B,_,aK⟩:=ag aZ u C E.2.2;rw[ag aX]at B aK;have aa:=B.2 0 am;simp only[cw,cF,dT,bi,cW,cT,Nat.reduceAdd]at aa aK;clear B;go_wp2_with fail;refine(cO bo u ae).mono ?_;rintro e fo ⟨⟨cP,rfl,aM⟩,w⟩;rw[xj bl]at aM;obtain⟨_,g3,c4,rfl,bA,cC,aS⟩:=aM;have bL:=w.size;obtain⟨f0,f1,f2⟩:=ag E;have bP:=af (xk bl (f0.below w) (f1.below w) aS bA yw (fun e=>yF) BK ae (ag bF) ae);have bV:=xm bl h l ae (ag bF);have aJ:=af (f2.trans (eQ.yS (wb:=wb) w));clear f0 f1 f2 w aS aT ap cs aK aa;go_wp2_with fail;refine bP.mono ?_;rintro e aH ⟨rfl,aI,aN,aP,aR⟩;have bB:Hid (eI aH wb (bd (aC 46 bo) h l).1 aI/\fJ aH O wb aI (bd (aC 46 bo) h l).2/\eQ wb W v aH aI):=⟨aN,aP,aJ.trans aR⟩;clear aN aP aR bP aJ bL;generalize bd (aC 46 bo) h l=c0 at *;obtain⟨br,bW⟩:=c0;simp only at bV bB D;obtain⟨d4,d5,dI,b2⟩:=bV;have c7:=af b2;clear b2;obtain⟨B,_,aK⟩:=ag aZ aH aI bB.2.2;rw[ag aX]at B aK;have bU:=B.2 1 am;simp only[cw,cF,dT,bi,cW,cT,Nat.reduceAdd]at bU aK;clear B;go_wp2_with fail;refine(cO bE aH ae).mono ?_;rintro e gU ⟨⟨cP,rfl,aM⟩,w⟩;rw[xj b6]at aM;obtain⟨_,g3,c4,rfl,bA,cC,aS⟩:=aM;have bL:=w.size;obtain⟨f0,f1,f2⟩:=ag bB;have dO:=af (xk b6 (f0.below w) (f1.below w) aS bA yw (fun e=>yF) BK ae (ag c7) ae);have dR:=xm b6 br bW ae (ag c7);have aJ:=af (f2.trans (eQ.yS (wb:=wb) w));clear f0 f1 f2 w aS aK bU;go_wp2_with fail;refine dO.mono ?_;rintro e H ⟨rfl,bc,aN,aP,aR⟩;have ba:Hid (eI H wb (bd (aC 46 bE) br bW).1 bc/\fJ H O wb bc (bd (aC 46 bE) br bW).2/\eQ wb W v H bc):=⟨aN,aP,aJ.trans aR⟩;clear aN aP aR dO aJ bL;generalize bd (aC 46 bE) br bW=fc at *;obtain⟨J,gl⟩:=fc;simp only at dR ba D;obtain⟨ft,fu,fj,dS⟩:=dR;have gm:=af dS;clear dS;obtain⟨B,_,aK⟩:=ag aZ H bc ba.2.2;rw[ag aX]at B aK;have c2:=B.2 2 am;have c1:=B.2 3 am;simp only[cw,cF,dT,bi,cW,cT,Nat.reduceAdd]at c2 c1 aK;clear B;have dU:=ba.1.cells.1;have dG:fX wb o J (aF d g 4 wc) (aq d (g+2)) F (aq d (g+3)) G H H.drew:=⟨dU,aK,c2,c1,aE.drew⟩;have dD:Hid (∀c,fX wb o J (aF d g 4 wc) (aq d (g+2)) F (aq d (g+3)) G H c->az 206 #[au F] c fun e i=>e=.returned (ak cK)/\fX wb o J (aF d g 4 wc) (aq d (g+2)) F (aq d (g+3)) G H i):=fun c t=>(bm c).mono fun e i k=>⟨k.1,by rw[k.2];exact t⟩;have dV:Hid (∀c,fX wb o J (aF d g 4 wc) (aq d (g+2)) F (aq d (g+3)) G H c->az 205 #[ak cK] c fun e i=>e=.returned (au (cN cK))/\fX wb o J (aF d g 4 wc) (aq d (g+2)) F (aq d (g+3)) G H i):=fun c t=>(q_ cK c d8).mono fun e i k=>⟨k.1,t.call k.2⟩;have dW:Hid (∀c,fX wb o J (aF d g 4 wc) (aq d (g+2)) F (aq d (g+3)) G H c->az 205 #[ak 3600] c fun e i=>e=.returned (au (cN 3600))/\fX wb o J (aF d g 4 wc) (aq d (g+2)) F (aq d (g+3)) G H i):=fun c t=>(q_ 3600 c ae).mono fun e i k=>⟨k.1,t.call k.2⟩;have dX:Hid (∀c,fX wb o J (aF d g 4 wc) (aq d (g+2)) F (aq d (g+3)) G H c->az 205 #[ak 600] c fun e i=>e=.returned (au (cN 600))/\fX wb o J (aF d g 4 wc) (aq d (g+2)) F (aq d (g+3)) G H i):=fun c t=>(q_ 600 c ae).mono fun e i k=>⟨k.1,t.call k.2⟩;have ea:Hid (∀c,fX wb o J (aF d g 4 wc) (aq d (g+2)) F (aq d (g+3)) G H c->az 205 #[ak 86400] c fun e i=>e=.returned (au (cN 86400))/\fX wb o J (aF d g 4 wc) (aq d (g+2)) F (aq d (g+3)) G H i):=fun c t=>(q_ 86400 c ae).mono fun e i k=>⟨k.1,t.call k.2⟩;have ee:Hid (∀c,fX wb o J (aF d g 4 wc) (aq d (g+2)) F (aq d (g+3)) G H c->az 206 #[au G] c fun e i=>e=.returned (ak cx)/\fX wb o J (aF d g 4 wc) (aq d (g+2)) F (aq d (g+3)) G H i):=fun c t=>(dH c).mono fun e i k=>⟨k.1,by rw[k.2];exact t⟩;have eg:Hid (∀c,fX wb o J (aF d g 4 wc) (aq d (g+2)) F (aq d (g+3)) G H c->az 205 #[ak cx] c fun e i=>e=.returned (au (cN cx))/\fX wb o J (aF d g 4 wc) (aq d (g+2)) F (aq d (g+3)) G H i):=fun c t=>(q_ cx c d9).mono fun e i k=>⟨k.1,t.call k.2⟩;obtain⟨an,cR⟩:=a2 J.length;have gn:(ai J).size=an:=by rw[a7,cR]
 have go:∀b3,(ai (cN b3)).size=4:=fun b3=>rfl;obtain⟨co,bw⟩:∃y,y=J++cN cK:=⟨_,rfl⟩;obtain⟨cp,bz⟩:∃y,y=co++cN 3600:=⟨_,rfl⟩;obtain⟨cq,w⟩:∃y,y=cp++cN 600:=⟨_,rfl⟩;obtain⟨cr,bK⟩:∃y,y=cq++cN 86400:=⟨_,rfl⟩;obtain⟨bt,cA⟩:∃y,y=cr++cN cx:=⟨_,rfl⟩;have fN:(ai co).size=an+4:=by rw[a7,bw,a6,<- cR];rfl
 have fO:(ai cp).size=an+8:=by rw[a7,bz,a6,<- a7,fN];rfl
 have fP:(ai cq).size=an+12:=by rw[a7,w,a6,<- a7,fO];rfl
 have fQ:(ai cr).size=an+16:=by rw[a7,bK,a6,<- a7,fP];rfl
 have gx:bt.length=an+20:=by rw[cA,a6,<- a7,fQ];rfl
 have dm:ai J++ai (cN cK)=ai co:=by rw[bw];exact iD
 have dn:ai co++ai (cN 3600)=ai cp:=by rw[bz];exact iD
 have dp:ai cp++ai (cN 600)=ai cq:=by rw[w];exact iD
 have dq:ai cq++ai (cN 86400)=ai cr:=by rw[bK];exact iD
 have ds:ai cr++ai (cN cx)=ai bt:=by rw[cA];exact iD
 have eo:Hid (J++(cN cK++cN 3600++cN 600++cN 86400++cN cx)=bt):=by rw[Hid,cA,bK,w,bz,bw];simp only[c_]
 have cG:¬9223372036854775807<an+4:=ae;have dt:¬9223372036854775807<an+4+4:=ae;have eL:¬9223372036854775807<an+8+4:=ae;have eM:¬9223372036854775807<an+12+4:=ae;have eN:¬9223372036854775807<an+16+4:=ae;have eh:=ba.1.frozen;have ei:=ba.1.lt;have gB:q<=an/\an<=q+40000:=ae;clear bw bz w bK cA cR d4 d5 dI ft fu fj fS fr fe fs d8 d9 bj;go_wp2_with fail;refine tT (S:=fX wb o J (aF d g 4 wc) (aq d (g+2)) F (aq d (g+3)) G H) 27 aB aB dG (fun b=>?_);simp only[nD,kW];generalize H.drew=cj at *;refine c6 0 b ?_;refine c6 1 b ?_;refine c6 2 b ?_;refine c6 3 b ?_;refine c6 4 b ?_;refine c6 5 b ?_;refine c6 6 b ?_;refine c6 7 b ?_;refine c6 8 b ?_;refine c6 18 b ?_;refine c6 19 b ?_;refine c6 20 b ?_;refine c6 21 b ?_;refine ec (rs:=[9]) aB am (dr rfl (fun z p=>?_) eb);go_simp;go_wp2_with (go_at_call 206;go_loud (refine(dD _ b).mono ?_;rintro e i ⟨rfl,r⟩));refine p.out _ _ r (fun b=>?_);clear p z;try simp only[Act.put,ep,c5,dl]
 clear r;refine ec (rs:=[10]) aB am (dr rfl (fun z p=>?_) eb);go_simp;go_wp2_with (go_at_call 205;go_loud (refine(dV _ b).mono ?_;rintro e i ⟨rfl,r⟩));refine p.out _ _ r (fun b=>?_);clear p z;try simp only[Act.put,ep,c5,dl]
 clear r;refine c6 11 b ?_;refine ec (rs:=[12]) aB am (dr rfl (fun z p=>?_) eb);go_simp;go_wp2_with (go_at_call 205;go_loud (refine(dW _ b).mono ?_;rintro e i ⟨rfl,r⟩));refine p.out _ _ r (fun b=>?_);clear p z;try simp only[Act.put,ep,c5,dl]
 clear r;refine c6 13 b ?_;refine ec (rs:=[14]) aB am (dr rfl (fun z p=>?_) eb);go_simp;go_wp2_with (go_at_call 205;go_loud (refine(dX _ b).mono ?_;rintro e i ⟨rfl,r⟩));refine p.out _ _ r (fun b=>?_);clear p z;try simp only[Act.put,ep,c5,dl]
 clear r;refine c6 15 b ?_;refine ec (rs:=[16]) aB am (dr rfl (fun z p=>?_) eb);go_simp;go_wp2_with (go_at_call 205;go_loud (refine(ea _ b).mono ?_;rintro e i ⟨rfl,r⟩));refine p.out _ _ r (fun b=>?_);clear p z;try simp only[Act.put,ep,c5,dl]
 clear r;refine c6 17 b ?_;refine ec (rs:=[22]) aB am (dr rfl (fun z p=>?_) eb);go_simp;go_wp2_with (go_at_call 206;go_loud (refine(ee _ b).mono ?_;rintro e i ⟨rfl,r⟩));refine p.out _ _ r (fun b=>?_);clear p z;try simp only[Act.put,ep,c5,dl]
 clear r;refine ec (rs:=[23]) aB am (dr rfl (fun z p=>?_) eb);go_simp;go_wp2_with (go_at_call 205;go_loud (refine(eg _ b).mono ?_;rintro e i ⟨rfl,r⟩));refine p.out _ _ r (fun b=>?_);clear p z;try simp only[Act.put,ep,c5,dl]
 clear r;refine c6 24 b ?_;refine c6 25 b ?_;refine c6 26 b ?_;refine mz aB (tS rfl rfl ?_) _;obtain⟨a9,_,_,_,N⟩:=b;have a8:=(lZ (N.block wb ei)).trans (eh 0);go_simp;have aw:=af (ly ba.1 ba.2.1 ba.2.2 N bt);clear a9 N a8 dG dD dV dW dX ea ee eg bm dH dm dn dp dq ds eh ei dU aK c2 c1;generalize i.setCell ⟨wb,0,none⟩ (.string (ai bt))=V at *;have Y:Hid (eI V wb (b5 (ck j) h l).1 bc/\fJ V O wb bc (b5 (ck j) h l).2/\eQ wb W v V bc):=by rw[Hid,ag D,ag eo];exact aw
 have aD:q<=(b5 (ck j) h l).1.length/\(b5 (ck j) h l).1.length<=q+60000:=by rw[ag D,ag eo];show q<=bt.length/\bt.length<=q+60000;omega
 clear D aw;go_wp2_with fail;go_meet;case rel=>exact⟨bc,Y,aD⟩};{
 have X:=P;rw[T]at X;obtain⟨x,cg,cE⟩:=Ky X;have bG:=mC cg;have D:Hid (b5 (ck j) h l=(h++UInt8.ofNat x.length::x,l)):=by{rw[Hid,ck,ag bp,ar ae,ay ae,bG];rfl};have aX:=af cg;have eY:((n:Int)==1)=false:=eP
 have d_:((n:Int)==16)=true:=ni
 have dP:((n:Int)==15)=false:=eP
 have dQ:((n:Int)==6)=false:=eP
 clear P X cg T bG;obtain⟨B,_,aK⟩:=ag aZ u C E.2.2;rw[ag aX]at B aK;have aa:=B.2 0 am;simp only[cw,cF,dT,bi,cW,cT,Nat.reduceAdd]at aa aK;clear B;have bQ:=E.1.lt;have ce:=E.1.frozen;have fv:d<u.heap.size:=ef u (aq d g) aa;have fw:o<u.heap.size:=ef u (aq o 4) aK;obtain⟨bO,b9⟩:=a2 x.length;obtain⟨A,hu⟩:∃A:UInt8,A=UInt8.ofNat bO:=⟨_,rfl⟩;have gf:(ai x).size=bO:=by rw[a7,b9]
 have gv:bO<=40:=ae;have eG:IntKind.u8.wrap (bO:Int)=(A.toNat:Int):=uA
 rw[<- b9,<- hu]at D;have ff:(u.alloc (.cells #[.int .u8 A.toNat] 5)).drew.cell? (aq wb 0)=some (au h):=(b7 (a:=⟨wb,0,none⟩) (bx u _ wb bQ)).trans aT;have fg:(u.alloc (.cells #[.int .u8 A.toNat] 5)).drew.cell? (aq d g)=some (au x):=(b7 (a:=⟨d,g,none⟩) (bx u _ d fv)).trans aa;have fx:(u.alloc (.cells #[.int .u8 A.toNat] 5)).drew.cell? (aq o 4)=some (aF d g 1 wc):=(b7 (a:=⟨o,4,none⟩) (bx u _ o fw)).trans aK;have fh:∀a4,(u.alloc (.cells #[.int .u8 A.toNat] 5)).drew.frozen? (aq wb a4)=false:=fun a4=>(lZ (a:=⟨wb,a4,none⟩) (bx u _ wb bQ)).trans (ce a4);have e_:(convert 58 9 (aF u.heap.size 0 1 1)).run prog (u.alloc (.cells #[.int .u8 A.toNat] 5)).drew=.ok (au [A]) (u.alloc (.cells #[.int .u8 A.toNat] 5)).drew:=pf u.drew [A] 1 rfl mv;have fa:(ai [A]).size=1:=rfl;obtain⟨ac,a0⟩:=a2 (h++[A]);obtain⟨bf,cz⟩:=a2 (ac++x);have gw:ai h++ai [A]=ai ac:=by rw[a0];exact iD
 have gL:ai ac++ai x=ai bf:=by rw[cz];exact iD
 have gd:(ai ac).size=q+1:=by rw[a7,a0,a6,<- ag a5];rfl
 have gP:bf.length=q+1+bO:=by rw[cz,a6,<- a7,gd,<- b9]
 have dC:Hid (h++A::x=bf):=by rw[Hid,cz,a0,c_];rfl
 have cG:¬9223372036854775807<q+1:=ae;have dt:¬9223372036854775807<q+1+bO:=ae;clear hu b9 a0 cz cE;go_wp2_with fail;go_region;all_goals(
 have bh:=ly E.1 E.2.1 E.2.2 aE bf;have cM:=((bk _ (u.setCell ⟨wb,0,none⟩ (.string (ai bf)))).alloc av (.cells #[.int .u8 A.toNat] 5)).drew;have aw:=af (aQ (bh.1.below cM) (aQ (bh.2.1.below cM) (bh.2.2.trans (eQ.yS cM))));clear bh cM ff fg fx fh e_;generalize ((u.setCell ⟨wb,0,none⟩ (.string (ai bf))).alloc (.cells #[.int .u8 A.toNat] 5)).drew=V at *;have Y:Hid (eI V wb (b5 (ck j) h l).1 C/\fJ V O wb C (b5 (ck j) h l).2/\eQ wb W v V C):=by rw[Hid,ag D,ag dC];exact aw
 have aD:q<=(b5 (ck j) h l).1.length/\(b5 (ck j) h l).1.length<=q+60000:=by rw[ag D,ag dC];show q<=bf.length/\bf.length<=q+60000;omega
 clear D aw;go_wp2_with fail;go_meet;case rel=>exact⟨C,Y,aD⟩)};{
 have X:=P;rw[T]at X;obtain⟨x,cg,ev,bj⟩:=CY X;have bG:=mC cg;have cE:x.length<=3000:=by rw[<- bG];exact cH
 have D:Hid (b5 (ck j) h l=(h++(aC 46 x).map (fun y=>UInt8.ofNat (eB y)),l)):=by{rw[Hid,ck,ag bp,ay ae,bG];rfl};have eO:Hid (az 62 #[au x,.int .u8 46] u fun e ab=>(∃v,e=.returned v/\nM ab u.heap.size v (aC 46 x))/\ax u ab):=qI x 46 u ae;have f7:Hid (∀y∈aC 46 x,y.length<=3000/\cf 4294967295 y=true/\eB y<=255):=fun y hy=>⟨B7,oE ae (kM.1 ev y hy)⟩;have aX:=af cg;have eY:((n:Int)==1)=true:=ni
 have d_:((n:Int)==16)=false:=eP
 have dP:((n:Int)==15)=false:=eP
 have dQ:((n:Int)==6)=false:=eP
 clear P X cg T bG ev;obtain⟨B,_,aK⟩:=ag aZ u C E.2.2;rw[ag aX]at B aK;have aa:=B.2 0 am;simp only[cw,cF,dT,bi,cW,cT,Nat.reduceAdd]at aa aK;clear B;generalize aC 46 x=a1 at *;go_wp2_with fail;refine eO.mono ?_;rintro e V ⟨⟨cP,rfl,eF⟩,w⟩;obtain⟨bv,gA,rfl,fd,cC,da⟩:=l6 eF (fun t=>by rw[t]at bj;cases bj);have gC:=E.1.lt;have aw:Hid (eI V wb h C/\fJ V O wb C l/\eQ wb W v V C):=⟨E.1.below w,E.2.1.below w,E.2.2.trans (eQ.yS w)⟩;have fy:Hid (bv≠wb/\some bv≠C.ownBlock):=⟨ae,fun e=>by have:=(E.2.1.lt bv e.symm).2;omega⟩;have e8:=af da;have gO:=da.1;rw[bj];rw[bj]at fd;clear eF w da eO aT ap cs aK aa;go_wp2_with fail;go_loopw [6] (fun dk wr=>∃(k:Nat) (aG:ah),dk=ak k/\k<=4/\Hid (aG=h++(a1.take k).map (fun y=>UInt8.ofNat (eB y)))/\Hid (eI wr wb aG C/\fJ wr O wb C l/\eQ wb V C wr C)) (fun dk _=>4-(intOf dk).toNat);case atStart=>exact⟨0,h,rfl,ae,by rw[Hid];simp,⟨aw.1,aw.2.1,eQ.refl _ _ _⟩⟩
 case round =>(
 obtain⟨k,aG,rfl,fV,bX,ch⟩:=hrel;obtain⟨f0,f1,f2⟩:=ag ch;obtain⟨aT,ap⟩:=f0.cells;have dh:aG.length=q+k:=by rw[ag bX,a6,<- ag a5,bD,de,bj];omega
 by_cases df:k<4;{
 have b8:k<a1.length:=ae;have c9:=(e8.fr f2.fr fy).2 k b8;rw[cT]at c9;obtain⟨dL,ej,ek⟩:=ag f7 a1[k] (bM b8);have bb:=af (fun c=>u_ a1[k] c ae ej);have b_:Hid (h++(a1.take (k+1)).map (fun y=>UInt8.ofNat (eB y))=aG++[UInt8.ofNat (eB a1[k])]):=by{rw[Hid,ag bX,du b8,d0,c_];rfl};generalize a1[k]=y at *;obtain⟨K,ad⟩:=a2 (eB y);rw[<- ad]at ek b_;have bm:Hid (∀c,az 206 #[au y] c fun e ab=>e=.returned (ak K)/\ab=c):=by rw[ad];exact bb
 obtain⟨A,hu⟩:∃A:UInt8,A=UInt8.ofNat K:=⟨_,rfl⟩;rw[<- hu]at b_;have eG:IntKind.u8.wrap (K:Int)=(A.toNat:Int):=uA
 have b1:pZ wb aG (aq bv k) y wr wr.drew:=⟨aT,c9,aE.drew⟩;have bT:Hid (∀c,pZ wb aG (aq bv k) y wr c->az 206 #[au y] c fun e i=>e=.returned (ak K)/\pZ wb aG (aq bv k) y wr i):=fun c t=>(bm c).mono fun e i b3=>⟨b3.1,by rw[b3.2];exact t⟩;obtain⟨cZ,cV⟩:=a2 (aG++[A]);rw[<- cV]at b_;have gK:ai aG++ai [A]=ai cZ:=by rw[cV];exact iD
 have fa:(ai [A]).size=1:=rfl;obtain⟨eV,eJ⟩:=a2 (q+k);have dF:(ai aG).size=eV:=by rw[a7,dh,eJ]
 have cG:¬9223372036854775807<eV+1:=ae;have fz:=f0.frozen;have fA:=f0.lt;have f5:(k:Int)<4:=ae;have eU:=af df;clear hu ad cV eJ bb dL ej ek ap f0 f1 f2 dh df b8 fV aT c9;go_wp2_with fail;refine tT (S:=pZ wb aG (aq bv k) y wr) 16 aB aB b1 (fun b=>?_);simp only[nD,kW];generalize wr.drew=cj at *;refine kv 0 b ?_;refine kv 1 b ?_;refine kv 2 b ?_;refine kv 3 b ?_;refine kv 4 b ?_;refine kv 5 b ?_;refine kv 6 b ?_;refine kv 7 b ?_;refine kv 8 b ?_;refine ec (rs:=[9]) aB am (dr rfl (fun z p=>?_) eb);go_simp;go_wp2_with (go_at_call 206;go_loud (refine(bT _ b).mono ?_;rintro e i ⟨rfl,r⟩));refine p.out _ _ r (fun b=>?_);clear p z;try simp only[Act.put,ep,c5,dl]
 clear r;refine kv 10 b ?_;refine ec (rs:=[11]) aB am (dr rfl (fun z p=>?_) eb);go_simp;have c3:=b.call (aE.alloc av (.cells #[.int .u8 A.toNat] 5));have f4:(convert 58 9 (aF i.heap.size 0 1 1)).run prog (i.alloc (.cells #[.int .u8 A.toNat] 5))=.ok (au [A]) (i.alloc (.cells #[.int .u8 A.toNat] 5)):=pf i [A] 1 rfl mv;refine p.out _ _ c3 (fun b=>?_);clear p z;try simp only[Act.put,ep,c5,dl]
 refine ec (rs:=[12]) aB am (dr rfl (fun z p=>?_) eb);go_simp;refine p.out _ _ c3 (fun b=>?_);clear p z;try simp only[Act.put,ep,c5,dl]
 refine kv 13 b ?_;refine kv 14 b ?_;refine kv 15 b ?_;refine mz aB (tS rfl rfl ?_) _;obtain⟨a9,_,N⟩:=c3;have a8:=(lZ (N.block wb fA)).trans (fz 0);go_simp;obtain⟨f0,f1,f2⟩:=ag ch;have fB:=af (ly f0 f1 f2 N cZ);clear f0 f1 f2 a9 N a8 f4 b1 bT bm ch bX;go_wp2;exact⟨⟨k+1,cZ,bq,by have:=ag eU;omega,b_.symm,fB⟩,by have:=ag eU;exact gz⟩};{obtain rfl:k=4:=ae;have Y:Hid (eI wr wb (b5 (ck j) h l).1 C/\fJ wr O wb C (b5 (ck j) h l).2/\eQ wb W v wr C):=by{have e5:=ag bX;rw[ie ae]at e5;rw[Hid,ag D,<- e5];exact⟨f0,f1,aw.2.2.trans f2⟩};have aD:q<=(b5 (ck j) h l).1.length/\(b5 (ck j) h l).1.length<=q+60000:=by{rw[ag D];show q<=(h++a1.map (fun y=>UInt8.ofNat (eB y))).length/\(h++a1.map (fun y=>UInt8.ofNat (eB y))).length<=q+60000;rw[a6,bD,bj,<- ag a5];omega};have f5:¬(4:Int)<4:=ae;clear f0 f1 f2 ch bX D aw df aT ap dh;go_wp2_with fail;go_meet;case rel=>exact⟨C,Y,aD⟩})})
 case rest =>(
 obtain⟨a_,Y,aD⟩:=hcut;generalize wc=aW at *;have b4:=af (e0 _ rfl);rw[<- ag e7]at b4;generalize b5 (ck j) h l=fC at *;obtain⟨M,gp⟩:=fC;simp only at b4 Y aD;obtain⟨be,ci⟩:=a2 M.length;rw[<- ci]at aD;obtain⟨gq,gr⟩:=aD;obtain⟨f2,ew⟩:=a2 (q-2);obtain⟨L,el⟩:=a2 (be-q);rw[<- ag a5,<- ci,<- ew,<- el]at b4;have bE:IntKind.i64.wrap ((q:Int)-2)=(f2:Int):=cX
 have F:IntKind.i64.wrap ((be:Int)-(q:Int))=(L:Int):=cX
 have fm:(ai M).size=be:=by rw[a7,ci]
 have gN:=pG M f2 ae;have gM:(ai M).extract q be=ai (M.drop q):=by rw[<- fm];exact qR M q _ rfl
 have cI:=Y.1;have fD:=cI.lt;have fb:pX wb M aW aW.drew:=⟨cI.cells.1,aE.drew⟩;have em:L<65536:=ae;have fE:Hid (∀c,pX wb M aW c->az 83 #[ak L] c fun e i=>e=.returned (au [ao L,aV L])/\pX wb M aW i):=fun c t=>(iC L c em).mono fun e i k=>⟨k.1,t.call k.2⟩;have u1:(ai (M.take f2)).size=f2:=by rw[a7,de];omega
 have u2:(ai [ao L,aV L]).size=2:=rfl;have u3:(ai (M.drop q)).size=L:=by rw[a7,c8];omega
 have gS:ai (M.take f2)++ai [ao L,aV L]=ai (M.take f2++[ao L,aV L]):=j9 _ _;obtain⟨dB,bh⟩:=a2 (M.take f2++[ao L,aV L]++M.drop q);rw[<- bh]at b4;have gT:ai (M.take f2++[ao L,aV L])++ai (M.drop q)=ai dB:=by rw[bh];exact iD
 have u4:(ai (M.take f2++[ao L,aV L])).size=f2+2:=by rw[a7,a6,<- a7,u1];rfl
 have gE:¬9223372036854775807<f2+2:=ae;have gF:¬9223372036854775807<f2+2+L:=ae;have gG:(f2:Int)<=(be:Int):=ae;have eG:(q:Int)<=(be:Int):=ae;have gH:f2<=be:=ae;have gs:q<=be:=ae;have fF:=cI.frozen;clear ci ew el cI em bh;go_wp2_with fail;refine tT (S:=pX wb M aW) 26 aB aB fb (fun b=>?_);simp only[nD,kW];generalize aW.drew=cj at *;refine fW 0 b ?_;refine fW 1 b ?_;refine fW 2 b ?_;refine fW 3 b ?_;refine fW 4 b ?_;refine fW 5 b ?_;refine fW 6 b ?_;refine fW 7 b ?_;refine fW 8 b ?_;refine fW 9 b ?_;refine fW 10 b ?_;refine fW 11 b ?_;refine fW 12 b ?_;refine fW 13 b ?_;refine fW 14 b ?_;refine fW 17 b ?_;refine fW 18 b ?_;refine fW 19 b ?_;refine fW 20 b ?_;refine fW 21 b ?_;refine fW 22 b ?_;refine ec (rs:=[15]) aB am (dr rfl (fun z p=>?_) eb);go_simp;go_wp2_with (go_at_call 83;go_loud (refine(fE _ b).mono ?_;rintro e i ⟨rfl,r⟩));refine p.out _ _ r (fun b=>?_);clear p z;try simp only[Act.put,ep,c5,dl]
 clear r;refine fW 16 b ?_;refine fW 23 b ?_;refine fW 24 b ?_;refine fW 25 b ?_;refine mz aB (tS rfl rfl ?_) _;obtain⟨a9,N⟩:=b;have a8:=(lZ (N.block wb fD)).trans (fF 0);go_simp;have fR:=af (ly Y.1 Y.2.1 (d2.trans Y.2.2) N dB);clear a9 N a8;go_wp2_with fail;refine iI (v:=.tuple #[]) (by simp[results,results147]) rfl ?_;rw[ag b4];exact⟨rfl,_,fR⟩)
end Go.Proofs.YtkkpahmoljiepaaGreatDoor
