import Derived.Test.YtkkpahmoljiepaaGreatDoorJ08
set_option maxRecDepth 1000000
set_option maxHeartbeats 12800000
set_option linter.all false
open Bool renaming false->ao,true->aE
open ByteArray renaming size->cf
open Go renaming Addr->kC,Calls->bd,Value->bm,World->aQ
open Go.Calls renaming mono->gU
open Go.Ending renaming returned->bg
open Go.IntKind renaming i64->am,u8->ck
open Go.Obj renaming cells->aS
open Go.Proofs.Tryz renaming prog->aK
open Go.RowKit renaming Hid->ax
open Go.Value renaming int->ak,ownBlock->bW,slice->aL,string->amz,tuple->bX
open Go.World renaming alloc->aO,alloc_heap_new->du,cell?->aD,drew->bq,setCell->a_
open List renaming drop->bh,length->E,take->amA
open Option renaming none->ai,some->ag
open UInt8 renaming toNat->be
namespace Go.Proofs.YtkkpahmoljiepaaGreatDoor
open Go.RowKit Go.Proofs.Tryz
variable{a d h o w:Nat}{b f m:World}{c g n:ap}{e:Value}{r:List ap}
abbrev wd:=List<|ap ⊕ ap
def ff:wd->ap->ia->ap×ia
 | [],a,b=>(a,b)
 | .inl e::c,a,b=>ff c (a++e) b
 | .inr d::c,a,b=>ff c (dv (I 46 d) a b).1 (dv (I 46 d) a b).2
def iF(b:D)(a:Nat):ap:=(I 32 b.data).getD a []
def ki(a:ap):Nat:=kZ 4294967295 a
def f_(a:D):wd :=
 if a.type=1 then [.inl<|(I 46 a.data).map λb=>UInt8.ofNat<|ki b]
 else if a.type=16 then [.inl (UInt8.ofNat (E a.data)::a.data)]
 else if a.type=15 then [.inl [aN<|ki<|iF a 0,cO<|ki<|iF a 0],.inr<|iF a 1]
 else if a.type=6 then [.inr<|iF a 0,.inr<|iF a 1,.inl<|g9 (ki<|iF a 2)++g9 3600++g9 600++g9 86400++g9 (ki<|iF a 3)]
 else [.inr<|iF a 0]
def ly(a:D)(b:ap):ap:=b++[aN a.type.toNat,cO a.type.toNat]++[aN 1,cO 1]++g9 a.aP++[aN 0,cO 0]
def nG(b:D)(e:List ap)(d:ap)(es:ia):ap×ia :=
 let a:=dv e d es
 let c:=ff (f_ b) (ly b a.1) a.2
 (amA (E (ly b a.1)-2) c.1++[aN<|E c.1-E (ly b a.1),cO<|E c.1-E (ly b a.1)]++bh (E<|ly b a.1) c.1,c.2)
def NW:∀(d:List ap) (a:ap) (c:ia),(∀b∈d,E b<=255)->E d<=1000->E a+E d*256<=1000000->(∀e∈c,E e.1<=1000/\e.2<=1000000)->E (dv d a c).1<=E a+E d*256+2/\E a<=E (dv d a c).1/\E (dv d a c).2<=E c+E d/\∀e∈(dv d a c).2,E e.1<=1000/\e.2<=1000000
 | [],a,c,_,_,_,h=>⟨by simp[dv],by simp[dv],by simp[dv],h⟩
 | b::i,a,c,n,p,o,h=>by
  have u:=n b aA;simp only[ey]at p o;cases k:kV (eA (b::i)) c with
  | some t=>rw[y9 k];exact⟨aA,aA,aA,h⟩
  | none =>{
  rw[ul k];have l:E (a++(UInt8.ofNat (E b)::b))=E a+E b+1:=cx;have j:=NW i (a++(UInt8.ofNat (E b)::b)) (c++[(eA (b::i),E a)]) (λr q=>n r<|by simp[q]) G (by rw[l];omega) (λe g=>by{
  rcases lc.1 g with g|g;{exact h e g};{
  obtain rfl:e=_:=by simpa using g
  exact⟨by show(eA (b::i)).length<=1000;rw[rF];simp;omega,by show E a<=1000000;omega⟩}})
  rw[l,dE]at j;simp only[ey,h8]at j ⊢;exact⟨G,G,G,j.2.2.2⟩}
def NX{ch:List ap}(b:eG 1 ch=aE):∃a,ch=[a]/\(I 46 a).all (fY 255)=aE/\E (I 46 a)=4:=by
 match ch,b with
 | [a],b =>{have c:xi a=aE:=b;unfold xi at c;simp only[fx,jy]at c;exact⟨a,af,c⟩}
def xD{t:Nat}{ch:List ap}(c:t=2\/t=5)(b:eG (t:Int) ch=aE):∃a,ch=[a]/\fI a=aE:=by
 rcases c with rfl|rfl;{
 match ch,b with
 | [a],b=>exact⟨a,af,b⟩};{
 match ch,b with
 | [a],b=>exact⟨a,af,b⟩}
def E_{ch:List ap}(g:eG 6 ch=aE):∃a b c d,ch=[a,b,c,d]/\fI a=aE/\fI b=aE/\fY 4294967295 c=aE/\fY 86400 d=aE:=by
 match ch,g with
 | [a,b,c,d],g =>{have e:(fI a&&fI b&&fY 4294967295 c&&fY 86400 d)=aE:=g;simp only[fx]at e;exact⟨a,b,c,d,af,e.1.1.1,e.1.1.2,e.1.2,e.2⟩}
def Fa{ch:List ap}(c:eG 15 ch=aE):∃a b,ch=[a,b]/\fY 65535 a=aE/\fI b=aE:=by
 match ch,c with
 | [a,b],c =>{have d:(fY 65535 a&&fI b)=aE:=c;simp only[fx]at d;exact⟨a,b,af,d⟩}
def XQ{ch:List ap}(b:eG 16 ch=aE):∃a,ch=[a]/\E a<=40:=by
 match ch,b with
 | [a],b =>{have c:qg a=aE:=b;unfold qg at c;simp only[fx,sq]at c;exact⟨a,af,c.2⟩}
def zc{m:Nat}(e:m<=4294967295)(a:fY m c=aE):fY 4294967295 c=aE/\ki c<=m:=by
 rw[Hl m G]at a;rw[Hl 4294967295 G];cases b:rL c with
 | none=>rw[b]at a;cases a
 | some v =>{
 rw[b]at a;have d:v<=m:=by simpa using a
 refine⟨cx,?_⟩;unfold ki;rw[Lx 4294967295 G c v b G];exact d}
def Jf(b:fI c=aE):je ao c=ag (I 46 c):=by have:=vT c;rw[b]at this;unfold je at this ⊢;split at this;{rename_i b;rw[b7 b]};{cases this}
def XR(a:fI c=aE):I 46 c≠[]/\E (I 46 c)<=61/\∀b∈I 46 c,E b<=255:=by have:=(jp a).2;have:=pN 46 c;exact⟨pM 46 c,G,λb d=>cj<|qE 46 (E c) c bv b d⟩
def Jg{v:ia}(u:fI c=aE)(w:gb b a g e)(t:gP b d a e v)(x:iy b h 0<|I 46 c)(q:E (I 46 c)<=o)(n:h≠a)(l:ag h≠bW e)(p:d<=b.1.size)(y:E g<=800000)(r:∀i∈v,E i.1<=1000/\i.2<=1000000)(z:E v<=800000):bd aK 144 #[N a,bC h 0 (E<|I 46 c) o] b λi k=>i=bg (bX #[])/\∃j,gb k a (dv (I 46 c) g v).1 j/\gP k d a j (dv (I 46 c) g v).2/\gn a b e k j:=by have⟨h1,h2,h3⟩:=XR u;exact Mu w t x q n l p h1 G h3 G r G
def Jh(g:fI c=aE)(a:ap){b:ia}(h:E a<=800000)(e:∀d∈b,E d.1<=1000/\d.2<=1000000):E (dv (I 46 c) a b).1<=E a+15618/\E a<=E (dv (I 46 c) a b).1/\E (dv (I 46 c) a b).2<=E b+61/\∀d∈(dv (I 46 c) a b).2,E d.1<=1000/\d.2<=1000000:=by have⟨h1,h2,h3⟩:=XR g;have:=NW (I 46 c) a b h3 G G e;exact⟨G,this.2.1,G,this.2.2.2⟩
def Bp(c:Nat)(s:ap)(b a:aQ):Prop:=aD a (M c 0)=ag (aZ s)/\a7 b a
def Bp.call(e:Bp a c f b)(d:a7 b m):Bp a c f m :=
 ⟨(d.cell<|i8 b _ e.1).trans e.1,e.2.trans<|d.mono e.2.4⟩
def Br(d:Nat)(s:ap)(b:kC)(e:ap)(c a:aQ):Prop:=aD a (M d 0)=ag (aZ s)/\aD a b=ag (aZ e)/\a7 c a
def Br.call{e:kC}(d:Br a c e g f b)(k:a7 b m):Br a c e g f m:=by have h:∀(i:kC) (v:bm),aD b i=ag v->aD m i=ag v:=λi v d=>(k.cell<|i8 b i d).trans d;exact⟨h _ _ d.1,h _ _ d.2.1,d.2.2.trans<|k.mono d.2.2.4⟩
def mr(h d:Nat)(s:ap)(e:bm)(b:kC)(i:ap)(c:kC)(j:ap)(g a:aQ):Prop:=aD a (M h 0)=ag (aZ s)/\aD a (M d 4)=ag e/\aD a b=ag (aZ i)/\aD a c=ag (aZ j)/\a7 g a
def mr.call{o h:kC}(l:mr a d c e o g h n f b)(k:a7 b m):mr a d c e o g h n f m:=by have p:∀(j:kC) (v:bm),aD b j=ag v->aD m j=ag v:=λj v l=>(k.cell<|i8 b j l).trans l;exact⟨p _ _ l.1,p _ _ l.2.1,p _ _ l.2.2.1,p _ _ l.2.2.2.1,l.2.2.2.2.trans<|k.mono l.2.2.2.2.4⟩
def sZ(h b:Nat)(s:ap)(d e:Nat)(c:aQ->Prop)(g a:aQ):Prop:=aD a (M h 0)=ag (aZ s)/\aD a (M b 1)=ag (J d)/\aD a (M b 2)=ag (J e)/\c a/\a7 g a
def sZ.call{l:aQ->Prop}(u:∀m b,l m->a7 m b->l b)(n:sZ o a c d h l f m)(g:a7 m b):sZ o a c d h l f b:=by obtain⟨p,q,r,t,j⟩:=n;have s:∀(e:kC) (v:bm),aD m e=ag v->aD b e=ag v:=λe v n=>(g.cell<|i8 m e n).trans n;exact⟨s _ _ p,s _ _ q,s _ _ r,u _ _ t g,j.trans<|g.mono j.4⟩
def ahp{a0:ia}{i:D}{cX cW bS wc:Nat}(cn:gb b a c e)(cl:gP b o a e a0)(dU:iy b w cX r)(d9:E r<=cW)(dQ:w≠a)(dD:ag w≠bW e)(bR:iy b d bS<|I 32 i.data)(e4:E (I 32 i.data)<=wc)(c2:d≠a)(dF:ag d≠bW e)(ci:o<=b.1.size)(dS:r≠[])(dR:E r<=300)(cJ:∀q∈r,E q<=255)(X:eG i.type (I 32 i.data)=aE)(cz:i.aP<4294967296)(cs:E i.data<=3000)(wb:E c<=500000)(cH:∀g∈a0,E g.1<=1000/\g.2<=1000000)(e2:E a0<=500000):bd aK 147 #[N a,.agg #[bC w cX (E r) cW,J i.aP,J i.type,aZ i.data,bC d bS (E<|I 32 i.data) wc]] b λg aj=>g=bg (bX #[])/\∃cZ,gb aj a (nG i r c a0).1 cZ/\gP aj o a cZ (nG i r c a0).2/\gn a b e aj cZ:=by
 obtain⟨k,cL⟩:∃k:Nat,i.type=(k:Int):=⟨i.type.toNat,cj<|x9 X⟩;have d_:k<65536:=cj<|x9 X
 rw[cL];have⟨nJ,AK⟩:=bi (aS #[aL (ag ⟨w,cX,ai⟩) (E r) cW,ak am i.aP,ak am k,amz<|O i.data,aL (ag ⟨d,bS,ai⟩) (E<|I 32 i.data) wc] 119:Obj);have bB:a7 b (aO b nJ):=cd.alloc bv _;have e5:=cn.lt;have eR:=cl.ne cn;have dg:=cl.lt;have cc:=Mu (cn.below bB) (cl.below bB) (dU.below bB) d9 dQ dD cx dS dR cJ G cH G;have bG:=NW r c a0 cJ G G cH;have⟨R1,hR1⟩:=bi<|dv r c a0;have c3:ax (∀bk:ap×ia,bk=ff (f_ i) (ly i R1.1) R1.2->nG i r c a0=(amA (E (ly i R1.1)-2) bk.1++[aN<|E bk.1-E (ly i R1.1),cO<|E bk.1-E (ly i R1.1)]++bh (E<|ly i R1.1) bk.1,bk.2)):=λbk bR=>by rw[bR,hR1];rfl
 rw[<- hR1]at cc bG;obtain⟨Y,av⟩:=R1;simp only at cc bG c3;have e7:=ae cc;have bx:=ae bG.2.2.2;have e1:=bG.1;have ew:=bG.2.2.1;have bf:=ae cL;have ee:=ae bR;have ex:=ae X;have ez:=bR.1;clear hR1 cn cl dU bR X cJ cH cc bG cL;go_in;go_wp2_with fail;rw[<- AK];refine gU e7 ?_;rintro g W ⟨rfl,x,bY,dV,bN⟩;have bV:=bN.1.4;rw[gd]at bV;obtain⟨n,bD⟩:=bi b.1.size;have eA:(aO b nJ).1.size=n+1:=by rw[gd,bD]
 have a8:=du b nJ;rw[AK,<- bD]at a8;rw[<- AK]at a8;have aI:ax (iy (aO b nJ) d bS (I 32 i.data)/\(d≠a/\ag d≠bW e)/\(n<(aO b nJ).1.size/\n≠a/\ag n≠bW e)/\aD (aO b nJ) (M n 1)=ag (J i.aP)/\aD (aO b nJ) (M n 2)=ag (J k)/\aD (aO b nJ) (M n 4)=ag (bC d bS (E<|I 32 i.data) wc)):=by{refine⟨ee.below bB,⟨c2,dF⟩,⟨G,G,λg=>cj<|(dg _ g.symm).2⟩,?_,?_,?_⟩;all_goals(have a8:=du b nJ;rw[AK]at a8;rw[<- AK]at a8;rw[<- bD,AK]at a8;unfold aD;rw[AK,a8];rfl)};have dh:ax (gn a b e (aO b nJ) e):=gn.Du bB;generalize aO b nJ=ab at *;have b6:ax (gb W a Y x/\gP W o a x av/\gn a ab e W x):=⟨bY,dV,bN⟩;have bM:∀(aM:Nat) (z:bm) (S:aQ) (bt:bm),gn a ab e S bt->aD ab (M n aM)=ag z->aD S (M n aM)=ag z:=λaM z S bt T hu=>(ev (a:=⟨n,aM,ai⟩) (T.1.5 n aI.2.2.1.1 aI.2.2.1.2)).trans hu;have cY:=bM 1 _ W x bN aI.2.2.2.1;have d5:=bM 2 _ W x bN aI.2.2.2.2.1;have aJ:ax (∀(S:aQ) (bt:bm),gn a ab e S bt->iy S d bS (I 32 i.data)/\aD S (M n 2)=ag (J k)/\aD S (M n 4)=ag (bC d bS (E<|I 32 i.data) wc)):=λS bt T=>⟨aI.1.fr T.1 aI.2.1,bM 2 _ S bt T aI.2.2.2.2.1,bM 4 _ S bt T aI.2.2.2.2.2⟩;have⟨cS,d1⟩:=bY.cells;have eB:=bY.lt;have dO:=bY.frozen;rw[<- bD];have:=ae bD;have⟨l,hl⟩:=bi i.aP;rw[<- hl]at cY cz;have dL:sZ a n Y l k (λ_=>True) W (bq W):=⟨cS,cY,d5,cE,cd.drew⟩;have d4:ax (∀S,sZ a n Y l k (λ_=>True) W S->bd aK 83 #[J k] S λg h=>g=bg (aZ [aN k,cO k])/\sZ a n Y l k (λ_=>True) W h):=λS T=>(qa k S d_).mono λg h j=>⟨j.1,T.call (λ_ _ _ _=>cE) j.2⟩;have d3:ax (∀S,sZ a n Y l k (λ_=>True) W S->bd aK 83 #[J 1] S λg h=>g=bg (aZ [aN 1,cO 1])/\sZ a n Y l k (λ_=>True) W h):=λS T=>(qa 1 S G).mono λg h j=>⟨j.1,T.call (λ_ _ _ _=>cE) j.2⟩;have d8:ax (∀S,sZ a n Y l k (λ_=>True) W S->bd aK 205 #[J l] S λg h=>g=bg (aZ<|g9 l)/\sZ a n Y l k (λ_=>True) W h):=λS T=>(B7 l S cz).mono λg h j=>⟨j.1,T.call (λ_ _ _ _=>cE) j.2⟩;have dc:ax (∀S,sZ a n Y l k (λ_=>True) W S->bd aK 83 #[J 0] S λg h=>g=bg (aZ [aN 0,cO 0])/\sZ a n Y l k (λ_=>True) W h):=λS T=>(qa 0 S G).mono λg h j=>⟨j.1,T.call (λ_ _ _ _=>cE) j.2⟩;have⟨n1,ji⟩:=bi<|E Y;have c8:cf (O Y)=n1:=by rw[de,ji]
 have fb:cf (O [aN k,cO k])=2:=af;have fc:cf (O [aN 1,cO 1])=2:=af;have fd:cf (O<|g9 l)=4:=af;have fe:cf (O [aN 0,cO 0])=2:=af;have⟨p,hfr⟩:=bi<|n1+10;have⟨a1,ha1⟩:=bi<|Y++[aN k,cO k];have⟨a2,ha2⟩:=bi<|a1++[aN 1,cO 1];have⟨a3,abH⟩:=bi<|a2++g9 l;have⟨a4,abI⟩:=bi<|a3++[aN 0,cO 0];have ea:cf (O a1)=n1+2:=by rw[de,ha1,dE,ji];rfl
 have eb:cf (O a2)=n1+4:=by rw[de,ha2,dE,<- de,ea];rfl
 have ec:cf (O a3)=n1+8:=by rw[de,abH,dE,<- de,eb];rfl
 have e_:cf (O a4)=p:=by rw[de,abI,dE,<- de,ec,hfr];rfl
 have aP:ax (p=E a4):=by rw[ax,<- de,e_]
 have:10<=p/\p<=600100:=G;have cP:O Y++O [aN k,cO k]=O a1:=by rw[ha1];exact qM
 have cQ:O a1++O [aN 1,cO 1]=O a2:=by rw[ha2];exact qM
 have cR:O a2++O (g9 l)=O a3:=by rw[abH];exact qM
 have cT:O a3++O [aN 0,cO 0]=O a4:=by rw[abI];exact qM
 have ef:ax (a4=ly i Y):=by rw[ax,abI,abH,ha2,ha1,ly,V bf,hl];rfl
 have:n1<=600000:=G;have cp:¬9223372036854775807<n1+2:=G;have cV:¬9223372036854775807<n1+2+2:=G;have dZ:¬9223372036854775807<n1+4+4:=G;have d0:¬9223372036854775807<n1+8+2:=G;have:E av<=600000:=G;have eU:=ae<|cv ci<|cv bV cs;clear ha1 ha2 abH abI bY dV bN cS d1 cY d5 AK hl bD ci ez e4 cs bV eR e5 dg ji e1 ew d9 dQ dD c2 dF dS dR wb e2 d_ cz bB a8 bM eA aI;go_wp2;refine Fr (S:=sZ a n Y l k (λ_=>True) W) 19 b8 b8 dL λwb=>?_;simp only[yr,tH];generalize bq W=ca at *;refine ek 0 wb ?_;refine ek 1 wb ?_;refine ek 2 wb ?_;refine ek 3 wb ?_;refine ek 4 wb ?_;refine ek 5 wb ?_;refine ek 6 wb ?_;refine ek 11 wb ?_;refine ek 12 wb ?_;refine qO 7 (d4 _ wb) λh wb=>?_;refine ek 8 wb ?_;refine qO 9 (d3 _ wb) λh wb=>?_;refine ek 10 wb ?_;refine qO 13 (d8 _ wb) λh wb=>?_;refine ek 14 wb ?_;refine qO 15 (dc _ wb) λh wb=>?_;refine ek 16 wb ?_;refine ek 17 wb ?_;refine ek 18 wb ?_;refine uY b8 (Fq af af ?_) _;obtain⟨aR,_,_,_,R⟩:=wb;have aT:=(vH<|R.5 a eB).trans<|dO 0;go_simp;have⟨g0,g1,g2⟩:=un b6.1 b6.2.1 b6.2.2 R a4;have B:ax (gb (a_ h ⟨a,0,ai⟩<|amz<|O a4) a a4 x/\gP (a_ h ⟨a,0,ai⟩<|amz<|O a4) o a x av/\gn a ab e (a_ h ⟨a,0,ai⟩<|amz<|O a4) x):=⟨g0,g1,g2⟩;generalize a_ h ⟨a,0,ai⟩ (amz<|O a4)=v at *;clear aR R aT g0 g1 g2 dL d4 d3 d8 dc cP cQ cR cT ea eb ec cp cV dZ d0 fb fc fd fe c8 b6 dO;have⟨c0,bA⟩:=B.1.cells;have ch:=(aJ v x B.2.2).2.1;have:=B.2.2.1.4;have X:=V ex;rw[V bf]at X;have Z:(k=2\/k=5)\/k=15\/k=6\/k=16\/k=1:=cj<|x9 X
 have ct:=ae fun(q:ap) (S:aQ) (T:E q<=3000)=>B_ q ao S G;have⟨ci,bV,cs⟩:=V eU;have:o<=ab.1.size:=cj dh.1.4
 clear hfr ci bV;go_upto_block 0 with fail;go_cut [5,6]from 37 to 159 (λfr fs c1=>∃aU,ax (gb c1 a (ff (f_ i) a4 av).1 aU/\gP c1 o a aU (ff (f_ i) a4 av).2/\gn a ab e c1 aU)/\p<=E (ff (f_ i) a4 av).1/\E (ff (f_ i) a4 av).1<=p+60000);·(
 rcases Z with Z|Z|Z|Z|Z;{
 have⟨q,dM,hp⟩:=xD Z X;have co:=(jp hp).2;have A:ax (ff (f_ i) a4 av=dv (I 46 q) a4 av):=by{rw[ax,f_,V bf,bJ G,bJ G,bJ G,bJ G,iF,dM];rfl};have⟨hT,_,cD⟩:=V aJ v x B.2.2;rw[dM]at hT cD;have dN:=hT.2 0 aA;simp only[e9,jn,ey,h8,g8]at dN cD;have bo:((k:Int)==1)=ao:=kB
 have bp:((k:Int)==16)=ao:=kB
 have u:((k:Int)==15)=ao:=kB
 have bE:((k:Int)==6)=ao:=kB
 clear Z hT dM X;go_wp2_with fail;refine(ct q v G).mono ?_;rintro g aa ⟨⟨cu,rfl,ay⟩,u⟩;rw[Jf hp]at ay;obtain⟨_,bn,cB,rfl,br,cm,aF⟩:=ay;have bF:=u.4;have⟨f0,f1,t⟩:=V B;have fi:E a4<=700000:=by rw[<- V aP];omega
 have dd:=ae<|Jg hp (f0.below u) (f1.below u) aF br (cj f0.lt) (λg=>cj<|(f1.lt bn g.symm).2) G G (V bx) G;have dG:=ae<|Jh hp a4 G<|V bx;have aw:=ae<|t.trans<|gn.Du (wb:=a) u;clear f0 f1 t u aF c0 bA ch cD dN;go_wp2_with fail;refine dd.m ?_;rintro aH ⟨aU,az,aB,aC⟩;have ad:ax (gb aH a (ff (f_ i) a4 av).1 aU/\gP aH o a aU (ff (f_ i) a4 av).2/\gn a ab e aH aU):=by rw[ax,V A];exact⟨az,aB,aw.trans aC⟩
 have al:p<=E (ff (f_ i) a4 av).1/\E (ff (f_ i) a4 av).1<=p+60000:=by rw[V A,V aP];have:=V dG;rw[<- V aP]at this ⊢; omega
 clear az aB aC dd dG aw A bo bp u bE;go_wp2;go_meet;·exact⟨aU,ad,al⟩};{
 have ac:=X;rw[Z]at ac;have⟨q,y,dM,sw,hp⟩:=Fa ac;have⟨oL,vW⟩:=zc G sw;have c_:=(jp hp).2;have co:E q<=3000:=by have:=qE 32 (E i.data) i.data bv q (by rw[dM];simp);omega
 have A:ax (ff (f_ i) a4 av=dv (I 46 y) (a4++[aN<|ki q,cO<|ki q]) av):=by{rw[ax,f_,V bf,bJ G,bJ G,b7 G,iF,iF,dM];rfl};have aX:=ae λS=>Hm S G oL;have⟨U,jf⟩:=bi<|ki q;rw[<- jf]at A vW;have bc:ax (∀S,bd aK 206 #[aZ q] S λg aj=>g=bg (J U)/\aj=S):=by rw[jf];exact aX
 have aG:=ae dM;have bo:((k:Int)==1)=ao:=kB
 have bp:((k:Int)==16)=ao:=kB
 have u:((k:Int)==15)=aE:=BC
 clear jf aX oL sw X ac dM Z;have⟨hT,_,cD⟩:=V aJ v x B.2.2;rw[V aG]at hT cD;have ah:=hT.2 0 aA;simp only[e9,fw,jn,ey,h8,g8,Nat.reduceAdd]at ah cD;clear hT;have:=bi<|aL (ag<|M d bS) 2 wc;have bT:mr a n a4 (bC d bS 2 wc) (M d bS) q (M d bS) q v (bq v):=⟨c0,cD,ah,ah,cd.drew⟩;have bL:ax (∀S,mr a n a4 (bC d bS 2 wc) (M d bS) q (M d bS) q v S->bd aK 206 #[aZ q] S λg h=>g=bg (J U)/\mr a n a4 (bC d bS 2 wc) (M d bS) q (M d bS) q v h):=λS T=>(bc S).mono λg h j=>⟨j.1,by rw[j.2];exact T⟩;have db:ax (∀S,mr a n a4 (bC d bS 2 wc) (M d bS) q (M d bS) q v S->bd aK 83 #[J U] S λg h=>g=bg (aZ [aN U,cO U])/\mr a n a4 (bC d bS 2 wc) (M d bS) q (M d bS) q v h):=λS T=>(qa U S G).mono λg h j=>⟨j.1,T.call j.2⟩;have⟨a5,Fc⟩:=bi<|a4++[aN U,cO U];rw[<- Fc]at A;have cU:O a4++O [aN U,cO U]=O a5:=by rw[Fc];exact qM
 have fg:cf (O [aN U,cO U])=2:=af;have d2:¬9223372036854775807<p+2:=G;have fv:E a5=p+2:=by rw[Fc,dE,<- V aP];rfl
 have ce:=B.1.frozen;have bK:=B.1.lt;clear Fc;go_wp2;refine Fr (S:=mr a n a4 (bC d bS 2 wc) (M d bS) q (M d bS) q v) 14 b8 b8 bT λwb=>?_;simp only[yr,tH];generalize bq v=ca at *;refine ek 0 wb ?_;refine ek 1 wb ?_;refine ek 2 wb ?_;refine ek 3 wb ?_;refine ek 4 wb ?_;refine ek 5 wb ?_;refine ek 6 wb ?_;refine ek 7 wb ?_;refine ek 8 wb ?_;refine qO 9 (bL _ wb) λh wb=>?_;refine qO 10 (db _ wb) λh wb=>?_;refine ek 11 wb ?_;refine ek 12 wb ?_;refine ek 13 wb ?_;refine uY b8 (Fq af af ?_) _;obtain⟨aR,_,_,_,R⟩:=wb;have aT:=(vH<|R.5 a bK).trans<|ce 0;go_simp;have an:=ae<|un B.1 B.2.1 B.2.2 R a5;clear aR R aT bT bL db bc cU fg d2 ce bK c0 bA ch cD ah;generalize a_ h ⟨a,0,ai⟩ (amz<|O a5)=aa at *;have⟨hT,_,cD⟩:=V aJ aa x an.2.2;rw[V aG]at hT cD;have bO:=hT.2 1 aA;simp only[e9,fw,jn,ey,h8,g8,Nat.reduceAdd]at bO cD;clear hT;go_wp2_with fail;refine(ct y aa G).mono ?_;rintro g eC ⟨⟨cu,rfl,ay⟩,u⟩;rw[Jf hp]at ay;obtain⟨_,bn,cB,rfl,br,cm,aF⟩:=ay;have bF:=u.4;have⟨f0,f1,t⟩:=V an;have bI:=ae<|Jg hp (f0.below u) (f1.below u) aF br (cj f0.lt) (λg=>cj<|(f1.lt bn g.symm).2) (cj t.1.4) G (V bx) G;have bP:=Jh hp a5 G<|V bx;have aw:=ae<|t.trans<|gn.Du (wb:=a) u;clear f0 f1 t u aF cD bO;go_wp2_with fail;refine bI.m ?_;rintro aq ⟨ar,az,aB,aC⟩;have bw:ax (gb aq a (dv (I 46 y) a5 av).1 ar/\gP aq o a ar (dv (I 46 y) a5 av).2/\gn a ab e aq ar):=⟨az,aB,aw.trans aC⟩;clear az aB aC bI aw bF;generalize dv (I 46 y) a5 av=cy at *;obtain⟨bj,cb⟩:=cy;simp only at bP bw A;obtain⟨dI,dJ,c5,bs⟩:=bP;replace bs:=ae bs;have ad:ax (gb aq a (ff (f_ i) a4 av).1 ar/\gP aq o a ar (ff (f_ i) a4 av).2/\gn a ab e aq ar):=by rw[ax,V A];exact bw
 have al:p<=E (ff (f_ i) a4 av).1/\E (ff (f_ i) a4 av).1<=p+60000:=by rw[V A];show p<=E bj/\E bj<=p+60000;omega
 clear A bw;go_wp2;go_meet;·exact⟨ar,ad,al⟩};{
 have ac:=X;rw[Z]at ac;have⟨x0,bu,C,x3,dM,jf,PW,kF,EC⟩:=E_ ac;have⟨auy,aLR⟩:=zc (m:=86400) G EC;have eD:=(zc (m:=4294967295) bv kF).2;have e0:=(jp jf).2;have eE:=(jp PW).2;have eQ:E C<=3000:=by have:=qE 32 (E i.data) i.data bv C (by rw[dM];simp);omega
 have eF:E x3<=3000:=by have:=qE 32 (E i.data) i.data bv x3 (by rw[dM];simp);omega
 have A:ax (ff (f_ i) a4 av=((dv (I 46 bu) (dv (I 46 x0) a4 av).1 (dv (I 46 x0) a4 av).2).1++(g9 (ki C)++g9 3600++g9 600++g9 86400++g9 (ki x3)),(dv (I 46 bu) (dv (I 46 x0) a4 av).1 (dv (I 46 x0) a4 av).2).2)):=by{rw[ax,f_,V bf,bJ G,bJ G,bJ G,b7 G,iF,iF,iF,iF,dM];rfl};have aX:=ae λS=>Hm S G kF;have dK:=ae λS=>Hm S G auy;have⟨fz,Ar⟩:=bi<|ki C;have⟨gg,mY⟩:=bi<|ki x3;rw[<- Ar,<- mY]at A;have bc:ax (∀S,bd aK 206 #[aZ C] S λg aj=>g=bg (J fz)/\aj=S):=by rw[Ar];exact aX
 have c9:ax (∀S,bd aK 206 #[aZ x3] S λg aj=>g=bg (J gg)/\aj=S):=by rw[mY];exact dK
 have di:fz<4294967296:=G;have dj:gg<4294967296:=G;have ba:=aP.symm;have aG:=ae dM;have ed:((k:Int)==1)=ao:=kB
 have dk:((k:Int)==16)=ao:=kB
 have dl:((k:Int)==15)=ao:=kB
 have dm:((k:Int)==6)=aE:=BC
 clear Ar mY aX dK kF EC auy aLR eD X ac dM Z;have⟨hT,_,cD⟩:=V aJ v x B.2.2;rw[V aG]at hT cD;have ah:=hT.2 0 aA;simp only[e9,fw,jn,ey,h8,g8,Nat.reduceAdd]at ah cD;clear hT;go_wp2_with fail;refine(ct x0 v G).mono ?_;rintro g eC ⟨⟨cu,rfl,ay⟩,u⟩;rw[Jf jf]at ay;obtain⟨_,bn,cB,rfl,br,cm,aF⟩:=ay;have bF:=u.4;have⟨f0,f1,t⟩:=V B;have bI:=ae<|Jg jf (f0.below u) (f1.below u) aF br (cj f0.lt) (λg=>cj<|(f1.lt bn g.symm).2) (cj t.1.4) G (V bx) G;have bP:=Jh jf a4 G<|V bx;have aw:=ae<|t.trans<|gn.Du (wb:=a) u;clear f0 f1 t u aF c0 bA ch cD ah;go_wp2_with fail;refine bI.m ?_;rintro aq ⟨ar,az,aB,aC⟩;have bw:ax (gb aq a (dv (I 46 x0) a4 av).1 ar/\gP aq o a ar (dv (I 46 x0) a4 av).2/\gn a ab e aq ar):=⟨az,aB,aw.trans aC⟩;clear az aB aC bI aw bF;generalize dv (I 46 x0) a4 av=cy at *;obtain⟨bj,cb⟩:=cy;simp only at bP bw A;obtain⟨dI,dJ,c5,bs⟩:=bP;replace bs:=ae bs;have⟨hT,_,cD⟩:=V aJ aq ar bw.2.2;rw[V aG]at hT cD;have bO:=hT.2 1 aA;simp only[e9,fw,jn,ey,h8,g8,Nat.reduceAdd]at bO cD;clear hT;go_wp2_with fail;refine(ct bu aq G).mono ?_;rintro g fu ⟨⟨cu,rfl,ay⟩,u⟩;rw[Jf PW]at ay;obtain⟨_,bn,cB,rfl,br,cm,aF⟩:=ay;have bF:=u.4;have⟨f0,f1,t⟩:=V bw;have df:=ae<|Jg PW (f0.below u) (f1.below u) aF br (cj f0.lt) (λg=>cj<|(f1.lt bn g.symm).2) (cj t.1.4) G (V bs) G;have dn:=Jh PW bj G<|V bs;have aw:=ae<|t.trans<|gn.Du (wb:=a) u;clear f0 f1 t u aF cD bO;go_wp2_with fail;refine df.m ?_;rintro H ⟨aY,az,aB,aC⟩;have aV:ax (gb H a (dv (I 46 bu) bj cb).1 aY/\gP H o a aY (dv (I 46 bu) bj cb).2/\gn a ab e H aY):=⟨az,aB,aw.trans aC⟩;clear az aB aC df aw bF;generalize dv (I 46 bu) bj cb=ej at *;obtain⟨K,fj⟩:=ej;simp only at dn aV A;obtain⟨eg,eH,en,dp⟩:=dn;replace dp:=ae dp;have⟨hT,_,cD⟩:=V aJ H aY aV.2.2;rw[V aG]at hT cD;have cC:=hT.2 2 aA;have cA:=hT.2 3 aA;simp only[e9,fw,jn,ey,h8,g8,Nat.reduceAdd]at cC cA cD;clear hT;have dq:=aV.1.cells.1;have da:mr a n K (bC d bS 4 wc) (M d<|bS+2) C (M d<|bS+3) x3 H (bq H):=⟨dq,cD,cC,cA,cd.drew⟩;have c7:ax (∀S,mr a n K (bC d bS 4 wc) (M d<|bS+2) C (M d<|bS+3) x3 H S->bd aK 206 #[aZ C] S λg h=>g=bg (J fz)/\mr a n K (bC d bS 4 wc) (M d<|bS+2) C (M d<|bS+3) x3 H h):=λS T=>(bc S).mono λg h j=>⟨j.1,by rw[j.2];exact T⟩;have dr:ax (∀S,mr a n K (bC d bS 4 wc) (M d<|bS+2) C (M d<|bS+3) x3 H S->bd aK 205 #[J fz] S λg h=>g=bg (aZ<|g9 fz)/\mr a n K (bC d bS 4 wc) (M d<|bS+2) C (M d<|bS+3) x3 H h):=λS T=>(B7 fz S di).mono λg h j=>⟨j.1,T.call j.2⟩;have ds:ax (∀S,mr a n K (bC d bS 4 wc) (M d<|bS+2) C (M d<|bS+3) x3 H S->bd aK 205 #[J 3600] S λg h=>g=bg (aZ<|g9 3600)/\mr a n K (bC d bS 4 wc) (M d<|bS+2) C (M d<|bS+3) x3 H h):=λS T=>(B7 3600 S G).mono λg h j=>⟨j.1,T.call j.2⟩;have dt:ax (∀S,mr a n K (bC d bS 4 wc) (M d<|bS+2) C (M d<|bS+3) x3 H S->bd aK 205 #[J 600] S λg h=>g=bg (aZ<|g9 600)/\mr a n K (bC d bS 4 wc) (M d<|bS+2) C (M d<|bS+3) x3 H h):=λS T=>(B7 600 S G).mono λg h j=>⟨j.1,T.call j.2⟩;have dw:ax (∀S,mr a n K (bC d bS 4 wc) (M d<|bS+2) C (M d<|bS+3) x3 H S->bd aK 205 #[J 86400] S λg h=>g=bg (aZ<|g9 86400)/\mr a n K (bC d bS 4 wc) (M d<|bS+2) C (M d<|bS+3) x3 H h):=λS T=>(B7 86400 S G).mono λg h j=>⟨j.1,T.call j.2⟩;have dx:ax (∀S,mr a n K (bC d bS 4 wc) (M d<|bS+2) C (M d<|bS+3) x3 H S->bd aK 206 #[aZ x3] S λg h=>g=bg (J gg)/\mr a n K (bC d bS 4 wc) (M d<|bS+2) C (M d<|bS+3) x3 H h):=λS T=>(c9 S).mono λg h j=>⟨j.1,by rw[j.2];exact T⟩;have dy:ax (∀S,mr a n K (bC d bS 4 wc) (M d<|bS+2) C (M d<|bS+3) x3 H S->bd aK 205 #[J gg] S λg h=>g=bg (aZ<|g9 gg)/\mr a n K (bC d bS 4 wc) (M d<|bS+2) C (M d<|bS+3) x3 H h):=λS T=>(B7 gg S dj).mono λg h j=>⟨j.1,T.call j.2⟩;have⟨n8,oN⟩:=bi<|E K;have:cf (O K)=n8:=by rw[de,oN]
 have:∀b0,cf (O<|g9 b0)=4:=λb0=>af;have⟨b1,bo⟩:=bi<|K++g9 fz;have⟨b2,bp⟩:=bi<|b1++g9 3600;have⟨b3,u⟩:=bi<|b2++g9 600;have⟨b4,bE⟩:=bi<|b3++g9 86400;have⟨b5,hb5⟩:=bi<|b4++g9 gg;have eW:cf (O b1)=n8+4:=by rw[de,bo,dE,<- oN];rfl
 have eX:cf (O b2)=n8+8:=by rw[de,bp,dE,<- de,eW];rfl
 have eY:cf (O b3)=n8+12:=by rw[de,u,dE,<- de,eX];rfl
 have eZ:cf (O b4)=n8+16:=by rw[de,bE,dE,<- de,eY];rfl
 have fm:E b5=n8+20:=by rw[hb5,dE,<- de,eZ];rfl
 have cP:O K++O (g9 fz)=O b1:=by rw[bo];exact qM
 have cQ:O b1++O (g9 3600)=O b2:=by rw[bp];exact qM
 have cR:O b2++O (g9 600)=O b3:=by rw[u];exact qM
 have cT:O b3++O (g9 86400)=O b4:=by rw[bE];exact qM
 have cU:O b4++O (g9 gg)=O b5:=by rw[hb5];exact qM
 have dP:ax (K++(g9 fz++g9 3600++g9 600++g9 86400++g9 gg)=b5):=by rw[ax,hb5,bE,u,bp,bo];simp only[jI]
 have cp:¬9223372036854775807<n8+4:=G;have cV:¬9223372036854775807<n8+4+4:=G;have dZ:¬9223372036854775807<n8+8+4:=G;have d0:¬9223372036854775807<n8+12+4:=G;have d2:¬9223372036854775807<n8+16+4:=G;have dA:=aV.1.frozen;have dB:=aV.1.lt;have:p<=n8/\n8<=p+40000:=G;clear bo bp u bE hb5 oN dI dJ c5 eg eH en e0 eE eQ eF di dj ba;go_wp2;refine Fr (S:=mr a n K (bC d bS 4 wc) (M d<|bS+2) C (M d<|bS+3) x3 H) 27 b8 b8 da λwb=>?_;simp only[yr,tH];generalize bq H=ca at *;refine ek 0 wb ?_;refine ek 1 wb ?_;refine ek 2 wb ?_;refine ek 3 wb ?_;refine ek 4 wb ?_;refine ek 5 wb ?_;refine ek 6 wb ?_;refine ek 7 wb ?_;refine ek 8 wb ?_;refine ek 18 wb ?_;refine ek 19 wb ?_;refine ek 20 wb ?_;refine ek 21 wb ?_;refine qO 9 (c7 _ wb) λh wb=>?_;refine qO 10 (dr _ wb) λh wb=>?_;refine ek 11 wb ?_;refine qO 12 (ds _ wb) λh wb=>?_;refine ek 13 wb ?_;refine qO 14 (dt _ wb) λh wb=>?_;refine ek 15 wb ?_;refine qO 16 (dw _ wb) λh wb=>?_;refine ek 17 wb ?_;refine qO 22 (dx _ wb) λh wb=>?_;refine qO 23 (dy _ wb) λh wb=>?_;refine ek 24 wb ?_;refine ek 25 wb ?_;refine ek 26 wb ?_;refine uY b8 (Fq af af ?_) _;obtain⟨aR,_,_,_,R⟩:=wb;have aT:=(vH<|R.5 a dB).trans<|dA 0;go_simp;have an:=ae<|un aV.1 aV.2.1 aV.2.2 R b5;clear aR R aT da c7 dr ds dt dw dx dy bc c9 cP cQ cR cT cU dA dB dq cD cC cA;generalize a_ h ⟨a,0,ai⟩ (amz<|O b5)=aa at *;have ad:ax (gb aa a (ff (f_ i) a4 av).1 aY/\gP aa o a aY (ff (f_ i) a4 av).2/\gn a ab e aa aY):=by rw[ax,V A,V dP];exact an
 have al:p<=E (ff (f_ i) a4 av).1/\E (ff (f_ i) a4 av).1<=p+60000:=by rw[V A,V dP];show p<=E b5/\E b5<=p+60000;omega
 clear A an;go_wp2;go_meet;·exact⟨aY,ad,al⟩};{
 have ac:=X;rw[Z]at ac;have⟨q,dM,co⟩:=XQ ac;have bz:=vf dM;have A:ax (ff (f_ i) a4 av=(a4++UInt8.ofNat (E q)::q,av)):=by{rw[ax,f_,V bf,bJ G,b7 G,bz];rfl};have aG:=ae dM;have ed:((k:Int)==1)=ao:=kB
 have dk:((k:Int)==16)=aE:=BC
 have dl:((k:Int)==15)=ao:=kB
 have dm:((k:Int)==6)=ao:=kB
 clear X ac dM Z bz;have⟨hT,_,cD⟩:=V aJ v x B.2.2;rw[V aG]at hT cD;have ah:=hT.2 0 aA;simp only[e9,fw,jn,ey,h8,g8,Nat.reduceAdd]at ah cD;clear hT;have bK:=B.1.lt;have ce:=B.1.frozen;have eS:=i8 v (M d bS) ah;have eI:=i8 v (M n 4) cD;have⟨bH,Kw⟩:=bi<|E q;have⟨z,hu⟩:=bi<|UInt8.ofNat bH;have:cf (O q)=bH:=by rw[de,Kw]
 have:bH<=40:=G;have dY:ck.wrap (bH:Int)=(be z:Int):=FN
 rw[<- Kw,<- hu]at A;have eM:aD (bq<|aO v<|aS #[ak ck<|be z] 5) (M a 0)=ag (aZ a4):=(ev (a:=⟨a,0,ai⟩) (dT v _ a bK)).trans c0;have eN:aD (bq<|aO v<|aS #[ak ck<|be z] 5) (M d bS)=ag (aZ q):=(ev (a:=⟨d,bS,ai⟩) (dT v _ d eS)).trans ah;have eJ:aD (bq<|aO v<|aS #[ak ck<|be z] 5) (M n 4)=ag (bC d bS 1 wc):=(ev (a:=⟨n,4,ai⟩) (dT v _ n eI)).trans cD;have eO:∀aM,(bq<|aO v<|aS #[ak ck<|be z] 5).frozen? (M a aM)=ao:=λaM=>(vH (a:=⟨a,aM,ai⟩) (dT v _ a bK)).trans (ce aM);have el:(convert 58 9<|bC v.1.size 0 1 1).run aK (bq<|aO v<|aS #[ak ck<|be z] 5)=.ok (aZ [z]) (bq<|aO v<|aS #[ak ck<|be z] 5):=AG (bq v) [z] 1 af (by simp[maxLen]);have eo:cf (O [z])=1:=af;have⟨a5,Fc⟩:=bi<|a4++[z];have⟨a6,ha6⟩:=bi<|a5++q;have fl:O a4++O [z]=O a5:=by rw[Fc];exact qM
 have fp:O a5++O q=O a6:=by rw[ha6];exact qM
 have fh:cf (O a5)=p+1:=by rw[de,Fc,dE,<- V aP];rfl
 have:E a6=p+1+bH:=by rw[ha6,dE,<- de,fh,<- Kw]
 have c6:ax (a4++z::q=a6):=by rw[ax,ha6,Fc,jI];rfl
 have cp:¬9223372036854775807<p+1:=G;have cV:¬9223372036854775807<p+1+bH:=G;clear hu Kw Fc ha6 co;go_wp2;go_region;all_goals(
 have a9:=un B.1 B.2.1 B.2.2 cd a6;have cq:=((dz _<|a_ v ⟨a,0,ai⟩<|amz<|O a6).alloc bv<|aS #[ak ck<|be z] 5).drew;have an:=ae<|cv (a9.1.below cq)<|cv (a9.2.1.below cq)<|a9.2.2.trans<|gn.Du cq;clear a9 cq eM eN eJ eO el;generalize bq (aO (a_ v ⟨a,0,ai⟩<|amz<|O a6)<|aS #[ak ck<|be z] 5)=aa at *;have ad:ax (gb aa a (ff (f_ i) a4 av).1 x/\gP aa o a x (ff (f_ i) a4 av).2/\gn a ab e aa x):=by rw[ax,V A,V c6];exact an
 have al:p<=E (ff (f_ i) a4 av).1/\E (ff (f_ i) a4 av).1<=p+60000:=by rw[V A,V c6];show p<=E a6/\E a6<=p+60000;omega
 clear A an;go_wp2;go_meet;·exact⟨x,ad,al⟩)};{
 have ac:=X;rw[Z]at ac;have⟨q,dM,hall,ba⟩:=NX ac;have bz:=vf dM;have co:E q<=3000:=by rw[<- bz];exact cs
 have A:ax (ff (f_ i) a4 av=(a4++(I 46 q).map λy=>UInt8.ofNat<|ki y,av)):=by{rw[ax,f_,V bf,b7 G,bz];rfl};have d7:ax (bd aK 62 #[aZ q,ak ck 46] v λg aj=>(∃e,g=bg e/\nE aj v.1.size e (I 46 q))/\a7 v aj):=B9 q 46 v G;have fa:ax (∀y∈I 46 q,E y<=3000/\fY 4294967295 y=aE/\ki y<=255):=λy dX=>⟨cj<|qE 46 (E q) q bv y dX,zc G<|uB.1 hall y dX⟩;have aG:=ae dM;have ed:((k:Int)==1)=aE:=BC
 have dk:((k:Int)==16)=ao:=kB
 have dl:((k:Int)==15)=ao:=kB
 have dm:((k:Int)==6)=ao:=kB
 clear X ac dM Z bz hall;have⟨hT,_,cD⟩:=V aJ v x B.2.2;rw[V aG]at hT cD;have ah:=hT.2 0 aA;simp only[e9,fw,jn,ey,h8,g8,Nat.reduceAdd]at ah cD;clear hT;generalize I 46 q=aW at *;go_wp2_with fail;refine gU d7 ?_;rintro g aa ⟨⟨cu,rfl,dW⟩,u⟩;obtain⟨bl,fn,rfl,ei,cm,cM⟩:=vx dW (λT=>by rw[T]at ba;cases ba);have:=B.1.lt;have an:ax (gb aa a a4 x/\gP aa o a x av/\gn a ab e aa x):=⟨B.1.below u,B.2.1.below u,B.2.2.trans<|gn.Du u⟩;have eK:ax (bl≠a/\ag bl≠bW x):=⟨G,λg=>cj<|(B.2.1.lt bl g.symm).2⟩;have eh:=ae cM;have:=cM.1;rw[ba];rw[ba]at ei;clear dW u cM d7 c0 bA ch cD ah;go_wp2;go_loopw [6] (λcN wr=>∃(j:Nat) (au:ap),cN=J j/\j<=4/\ax (au=a4++(amA j aW).map λy=>UInt8.ofNat<|ki y)/\ax (gb wr a au x/\gP wr o a x av/\gn a aa x wr x)) λcN _=>4-(intOf cN).toNat;·exact⟨0,a4,af,G,by rw[ax];simp,⟨an.1,an.2.1,gn.refl _ _ _⟩⟩
 ·(
 obtain⟨j,au,rfl,e3,bQ,cg⟩:=hrel;have⟨f0,f1,t⟩:=V cg;have⟨c0,bA⟩:=f0.cells;have cK:E au=p+j:=by rw[V bQ,dE,<- V aP,fC,jF,ba];omega
 by_cases cI:j<4;{
 have b_:j<E aW:=G;have cG:=(eh.fr t.1 eK).2 j b_;rw[g8]at cG;have⟨c_,auQ,auR⟩:=V fa aW[j]<|eP b_;have aX:=ae λS=>Hm S G auQ;have b9:ax (a4++(amA (j+1) aW).map (λy=>UInt8.ofNat<|ki y)=au++[UInt8.ofNat<|ki aW[j]]):=by{rw[ax,V bQ,iH b_,kq,jI];rfl};generalize aW[j]=y at *;have⟨U,hp⟩:=bi<|ki y;rw[<- hp]at auR b9;have bc:ax (∀S,bd aK 206 #[aZ y] S λg aj=>g=bg (J U)/\aj=S):=by rw[hp];exact aX
 have⟨z,hu⟩:=bi<|UInt8.ofNat U;rw[<- hu]at b9;have dY:ck.wrap (U:Int)=(be z:Int):=FN
 have bT:Br a au (M bl j) y wr (bq wr):=⟨c0,cG,cd.drew⟩;have bL:ax (∀S,Br a au (M bl j) y wr S->bd aK 206 #[aZ y] S λg h=>g=bg (J U)/\Br a au (M bl j) y wr h):=λS T=>(bc S).mono λg h b0=>⟨b0.1,by rw[b0.2];exact T⟩;have⟨Sn,Ku⟩:=bi<|au++[z];rw[<- Ku]at b9;have fo:O au++O [z]=O Sn:=by rw[Ku];exact qM
 have eo:cf (O [z])=1:=af;have⟨sl,jh⟩:=bi<|p+j;have c8:cf (O au)=sl:=by rw[de,cK,jh]
 have cp:¬9223372036854775807<sl+1:=G;have eL:=f0.frozen;have ep:=f0.lt;have e8:(j:Int)<4:=G;have d6:=ae cI;clear hu hp Ku jh aX c_ auQ auR bA f0 f1 t cK cI b_ e3 c0 cG;go_wp2;refine Fr (S:=Br a au (M bl j) y wr) 16 b8 b8 bT λwb=>?_;simp only[yr,tH];generalize bq wr=ca at *;refine ek 0 wb ?_;refine ek 1 wb ?_;refine ek 2 wb ?_;refine ek 3 wb ?_;refine ek 4 wb ?_;refine ek 5 wb ?_;refine ek 6 wb ?_;refine ek 7 wb ?_;refine ek 8 wb ?_;refine qO 9 (bL _ wb) λh wb=>?_;refine ek 10 wb ?_;refine oh (rs:=[11]) b8 aA (lK af (λcw bU=>?_) m_);go_simp;have cF:=wb.call<|cd.alloc bv<|aS #[ak ck<|be z] 5;have e6:(convert 58 9<|bC h.1.size 0 1 1).run aK (aO h<|aS #[ak ck<|be z] 5)=.ok (aZ [z]) (aO h<|aS #[ak ck<|be z] 5):=AG h [z] 1 af (by simp[maxLen]);refine bU.out _ _ cF λwb=>?_;clear bU cw;try simp only[Act.put,mK,kH,lp]
 refine oh (rs:=[12]) b8 aA (lK af (λcw bU=>?_) m_);go_simp;refine bU.out _ _ cF λwb=>?_;clear bU cw;try simp only[Act.put,mK,kH,lp]
 refine ek 13 wb ?_;refine ek 14 wb ?_;refine ek 15 wb ?_;refine uY b8 (Fq af af ?_) _;obtain⟨aR,_,R⟩:=cF;have aT:=(vH<|R.5 a ep).trans<|eL 0;go_simp;have⟨f0,f1,t⟩:=V cg;have eq:=ae<|un f0 f1 t R Sn;clear f0 f1 t aR R aT e6 bT bL bc cg bQ;go_wp2;exact⟨⟨j+1,Sn,dH,cj<|V d6,b9.symm,eq⟩,by have:=V d6;exact t8⟩};{obtain rfl:j=4:=G;have ad:ax (gb wr a (ff (f_ i) a4 av).1 x/\gP wr o a x (ff (f_ i) a4 av).2/\gn a ab e wr x):=by{have c4:=V bQ;rw[oT G]at c4;rw[ax,V A,<- c4];exact⟨f0,f1,an.2.2.trans t⟩};have al:p<=E (ff (f_ i) a4 av).1/\E (ff (f_ i) a4 av).1<=p+60000:=by{rw[V A];show p<=E (a4++aW.map λy=>UInt8.ofNat<|ki y)/\E (a4++aW.map λy=>UInt8.ofNat<|ki y)<=p+60000;rw[dE,fC,ba,<- V aP];omega};have e8:¬(4:Int)<4:=G;clear f0 f1 t cg bQ A an cI c0 bA cK;go_wp2;go_meet;·exact⟨x,ad,al⟩})})
 ·(
 obtain⟨aU,ad,al⟩:=hcut;generalize wc=aH at *;have bZ:=ae<|c3 _ af;rw[<- V ef]at bZ;generalize ff (f_ i) a4 av=er at *;obtain⟨Q,fk⟩:=er;simp only at bZ ad al;have⟨bb,abL⟩:=bi<|E Q;rw[<- abL]at al;have:=al;have⟨t,hf2⟩:=bi<|p-2;have⟨P,auS⟩:=bi<|bb-p;rw[<- V aP,<- abL,<- hf2,<- auS]at bZ;have bu:am.wrap ((p:Int)-2)=(t:Int):=by rw[wL];omega
 have C:am.wrap ((bb:Int)-p)=(P:Int):=fT
 have eT:cf (O Q)=bb:=by rw[de,abL]
 have:=z8 Q t G;have fq:(O Q).extract p bb=O (bh p Q):=by rw[<- eT];exact Cf Q p af
 have cr:=ad.1;have es:=cr.lt;have em:Bp a Q aH (bq aH):=⟨cr.cells.1,cd.drew⟩;have dC:P<65536:=G;have et:ax (∀S,Bp a Q aH S->bd aK 83 #[J P] S λg h=>g=bg (aZ [aN P,cO P])/\Bp a Q aH h):=λS T=>(qa P S dC).mono λg h j=>⟨j.1,T.call j.2⟩;have u1:cf (O<|amA t Q)=t:=by rw[de,jF];omega
 have:cf (O [aN P,cO P])=2:=af;have u3:cf (O<|bh p Q)=P:=by rw[de,js];omega
 have:O (amA t Q)++O [aN P,cO P]=O (amA t Q++[aN P,cO P]):=ua _ _;have⟨F,a9⟩:=bi<|amA t Q++[aN P,cO P]++bh p Q;rw[<- a9]at bZ;have ft:O (amA t Q++[aN P,cO P])++O (bh p Q)=O F:=by rw[a9];exact qM
 have u4:cf (O<|amA t Q++[aN P,cO P])=t+2:=by rw[de,dE,<- de,u1];rfl
 have:¬9223372036854775807<t+2:=G;have:¬9223372036854775807<t+2+P:=G;have:(t:Int)<=bb:=G;have dY:(p:Int)<=bb:=G;have:t<=bb:=G;have:p<=bb:=G;have eu:=cr.frozen;clear abL hf2 auS cr dC a9;go_wp2;refine Fr (S:=Bp a Q aH) 26 b8 b8 em λwb=>?_;simp only[yr,tH];generalize bq aH=ca at *;refine ek 0 wb ?_;refine ek 1 wb ?_;refine ek 2 wb ?_;refine ek 3 wb ?_;refine ek 4 wb ?_;refine ek 5 wb ?_;refine ek 6 wb ?_;refine ek 7 wb ?_;refine ek 8 wb ?_;refine ek 9 wb ?_;refine ek 10 wb ?_;refine ek 11 wb ?_;refine ek 12 wb ?_;refine ek 13 wb ?_;refine ek 14 wb ?_;refine ek 17 wb ?_;refine ek 18 wb ?_;refine ek 19 wb ?_;refine ek 20 wb ?_;refine ek 21 wb ?_;refine ek 22 wb ?_;refine qO 15 (et _ wb) λh wb=>?_;refine ek 16 wb ?_;refine ek 23 wb ?_;refine ek 24 wb ?_;refine ek 25 wb ?_;refine uY b8 (Fq af af ?_) _;obtain⟨aR,R⟩:=wb;have aT:=(vH<|R.5 a es).trans<|eu 0;go_simp;have eV:=ae<|un ad.1 ad.2.1 (dh.trans ad.2.2) R F;clear aR R aT;go_wp2;refine lG (v:=bX #[]) (by simp[results,results147]) af ?_;rw[V bZ];exact⟨af,_,eV⟩)
end Go.Proofs.YtkkpahmoljiepaaGreatDoor
