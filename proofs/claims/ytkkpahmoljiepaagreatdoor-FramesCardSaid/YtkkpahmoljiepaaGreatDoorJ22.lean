import Derived.Test.YtkkpahmoljiepaaGreatDoorJ21
set_option maxRecDepth 1000000
set_option maxHeartbeats 12800000
set_option linter.unusedSimpArgs false
set_option linter.unusedVariables false
namespace Go.Proofs.YtkkpahmoljiepaaGreatDoor
open Go.RowKit Go.Proofs.Tryz
theorem tX(rs a b:List aj)(c:aj):fx rs a (b++[c])=iY rs a (fx rs a b) c:=by unfold fx;rw[mG];rfl
theorem VR(rs d:List aj):∀(a:List aj),(fx rs d a).1.length<=a.length/\(fx rs d a).2.length<=a.length*rs.length:=by
 intro a;obtain⟨c,e⟩:∃c,a.length=c:=⟨_,rfl⟩;induction c generalizing a with
 | zero=>obtain rfl:a=[]:=df e;exact⟨bb _,b6 _⟩
 | succ c k =>{
 rcases js a with rfl|⟨b,g,rfl⟩;{simp at e};{
 rw[jq]at *;have i:b.length=c:=by simp at e;exact e
 obtain⟨l,n⟩:=k b i;rw[tX];have o:=nS (fun h:aj=>h.owner==dq g.data&&h.type==1) rs;have j:(b++[g]).length*rs.length=b.length*rs.length+rs.length:=by rw[a6,rk];simp
 rw[j];unfold iY cE;split;{split;{exact⟨aA,ae⟩};{refine⟨aA,?_⟩;split;{show(fx rs d b).2.length<=_;omega};{show((fx rs d b).2++_).length<=_;rw[a6];omega}}};{exact⟨aA,ae⟩}}}
theorem VS(rs j:List aj):∀(b:List aj),∀s∈(fx rs j b).1,∃d∈b,ge d=true/\s=dq d.data:=by
 intro b;obtain⟨c,e⟩:∃c,b.length=c:=⟨_,rfl⟩;induction c generalizing b with
 | zero=>obtain rfl:b=[]:=df e;intro s a;cases a
 | succ c r =>{
 rcases js b with rfl|⟨g,d,rfl⟩;{simp at e};{
 rw[jq]at *;have q:g.length=c:=by simp at e;exact e
 intro s a;rw[tX]at a;have i:s∈(fx rs j g).1->∃h∈g++[d],ge h=true/\s=dq h.data:=fun l=>by{obtain⟨h,n,o,p⟩:=r g q s l;exact⟨h,vC _ n,o,p⟩};unfold iY at a;split at a;{rename_i k;split at a;{exact i a};{rcases dv.1 a with a|a;{exact i a};{exact⟨d,am,k,by simpa using a⟩}}};{exact i a}}}
theorem VT{rs b:List aj}{s:List ah×List aj}{a:aj}(c:ge a=false):iY rs b s a=s:=by unfold iY;rw[c];rfl
theorem VU{rs c:List aj}{s:List ah×List aj}{a:aj}{b:ah}(g:dq a.data=b)(d:ge a=true)(e:s.1.contains b=true):iY rs c s a=s:=by unfold iY;rw[d,g,e];rfl
theorem VV{rs d:List aj}{s:List ah×List aj}{b:aj}{a:ah}(h:dq b.data=a)(e:ge b=true)(g:s.1.contains a=false):iY rs d s b=(s.1++[a],if d.any (fun c=>c.owner==a&&c.type==1)then s.2 else s.2++cE rs a 1):=by unfold iY;rw[e,h,g];rfl
theorem Bu{s:ah}(a:s.length<=900):(aY s).length<=1000:=by rw[lu];exact iz a
theorem VW{α:Type}(c:α->Bool)(b:List α)(a:Nat)(d:a<b.length):(b.take (a+1)).any c=((b.take a).any c||c b[a]):=by rw[du d,List.any_append];simp
theorem VX(b:List ah)(d:ah)(a:Nat)(e:a<b.length):(b.take (a+1)).contains d=((b.take a).contains d||decide (aY b[a]=aY d)):=by rw[du e,List.contains_append];congr 1;rw[i0,qL];simp only[List.contains_cons,List.contains_nil,zt,dE];exact⟨fun c=>by rw[c],fun c=>(rD c).symm⟩
theorem VY(a:aj)(c:ah):(a.owner==c&&a.type==1)=(decide (aY a.owner=aY c)&&a.type==1):=by congr 1;rw[i0,qL,dE];exact⟨fun b=>by rw[b],fun b=>rD b⟩
def VZ(b g:World)(a:aj):Prop:=∃(h:Value) (e c d:Nat),g.heap[b.heap.size]? = some (.cells #[h,.int .i64 a.aI,.int .i64 a.type,.string (ai a.data),.slice (some ⟨e,c,none⟩) (aC 32 a.data).length d] 119)/\ax b g/\eY b (aF e c (aC 32 a.data).length d) (aC 32 a.data)
theorem V1(a c:List aj)(b:Nat)(d:b<(a++c).length):(b<a.length/\∃e:b<a.length,(a++c)[b]=a[b])\/(¬b<a.length/\∃e:b-a.length<c.length,(a++c)[b]=c[b-a.length]):=by by_cases ao:b<a.length;{exact .inl ⟨ao,ao,GS ao⟩};{rw[a6]at d;exact .inr ⟨ao,ae,uL ae⟩}
theorem FS{P:Prop}(h:P:=by have cJ:=af g_;clear h2 g_;go_wp2_with fail;go_meet;case rel=>exact⟨by rw[ag cJ];rfl,rfl⟩):P:=h
theorem FN{P:Prop}(h:P:=by
 refine hK.out _ _ aL (fun hS=>?_);clear hK K;try simp only[Act.put,ep,c5,dl]
 refine ec (rs:=[9]) aB am (dr rfl (fun K hK=>?_) eb);rw[ay dO];refine DA (.tmp 134) (.tmp 138) 115 dO _ _ _ _ dO dO (ag ZY) ?_;refine hK.out _ _ aL (fun hS=>?_);clear hK K;try simp only[Act.put,ep,c5,dl]
 refine fS 10 aL ?_;refine fS 11 aL ?_;refine ec (rs:=[12]) aB am (dr rfl (fun K hK=>?_) eb);go_simp;refine hK.out _ _ aL (fun hS=>?_);clear hK K;refine mz aB ?_ _;go_wp2;exact⟨⟨i+1,_,ae,bq,⟨_,_,_,rfl⟩,by rw[ag kO];rw[hown1]at OL;exact OL⟩,ci⟩):P:=h
theorem V2(c4 u:Nat)(o:ah)(rs b c:List aj)(aG:Int)(an:Bool)(bi bn:Value)(n:Nat->Prop)(bo w:World)(cu:n u)(cv:∀a,a<bo.heap.size->¬n a)(cw:∀a,w.heap.size<=a->¬n a)(ch:∀a,n a->a<=u)(hz:nC bo c4 o rs)(cL:kG o rs)(cS:ax bo w)(dD:bo.heap.size<=u)(aV:ew w u aG an bi bn (aJ)) (bP:dY n w (u+1) bi b) (bU:dY n w (u+1) bn c) (ei:b.length<=500) (eo:c.length<=500)(aR:∀g∈b++c,ge g=true->∃aD x,aC 32 g.data=aD++[x]/\dq g.data=x/\dQ x=true/\g.data.length<=3000) (aS:∀g∈b,g.owner.length<=900):az 187 #[aO c4,aO u] w fun C d5=>C=.returned (.tuple #[])/\∃bj bm,vO n w d5 u aG an bi bn bj bm (fx rs b (b++c)).1 (fx rs b (b++c)).2:=by
 have dz:=af hz;have bI:=af cL;have bL:=af cS;have bJ:=af bP;have co:=af bU;have cW:=af aR;have dV:=af aS;have dc:=aV.lt;have cq:vO n w w u aG an bi bn (aJ) (aJ) [] []:=⟨aV,bG.refl _ _,⟨[],e8 w _ _ 1,fun eC hj=>qk⟩,dY.nil _ _ _,(fun a aU=>by cases aU),dc,cu,ch⟩;have c7:=af cq;obtain⟨bW,bF,rfl⟩:=bP.slice;obtain⟨ca,cb,rfl⟩:=bU.slice;have c6:=af cv;have c_:=af cw;clear hz cL cS aV bP bU aR aS cq cu cv cw ch;go_enter func187,ntmps187;go_wp2_with fail;go_loopw [4,5] (fun bm bV wr=>∃i bj,i<=(b++c).length/\bV=ak (i:Nat)/\(∃h dN ds,bm=.slice h dN ds)/\vO n w wr u aG an (.slice bW b.length bF) (.slice ca c.length cb) bj bm (fx rs b ((b++c).take i)).1 (fx rs b ((b++c).take i)).2) (fun _ bV _=>(b++c).length-(intOf bV).toNat);case atStart=>exact⟨0,aJ,b6 _,rfl,⟨_,_,_,rfl⟩,c7⟩
 case round =>(
 obtain⟨i,bj,ao,rfl,⟨b5,dW,b9,rfl⟩,A⟩:=hrel;obtain⟨bT,bO⟩:∃bT,fx rs b ((b++c).take i)=bT:=⟨_,rfl⟩;have bf:=(VR rs b ((b++c).take i));have bt:Hid (∀s∈(fx rs b ((b++c).take i)).1,s.length<=900):=fun s aV=>by{obtain⟨g,q,h2,z⟩:=VS rs b _ s aV;obtain⟨_,x,_,dB,dC,_⟩:=ag cW g (mJ q) h2;rw[z,dB];have:=(ed dC).2;omega};have dI:=p9 (ag bI);have dp:((b++c).take i).length<=1000:=by rw[de,a6];omega
 rw[bO]at A bf bt;obtain⟨e,l⟩:=bT;have el:e.length<=2000:=by have:=bf.1;simp only at this;omega
 have eq:l.length<=60000:=by{have q:=bf.2;have h2:=Nat.mul_le_mul dp dI;simp only at q;omega};have a_:=af bO;clear bO bf;simp only at A bt;have cO:=af A;obtain⟨a1,a3,aH,a4,a5⟩:=A.an.cells;have a7:=A.an.frozen;obtain⟨aw,aA,rfl⟩:=A.ad.slice;have dJ:=A.fr.size;have ey:(b++c).length=b.length+c.length:=a6;by_cases bR:i<(b++c).length;{
 have cR:(i:Int)<(b.length:Int)+(c.length:Int):=ae;have be:=af (du bR);have bH:=af (cW _ (bM bR));have a8:=af (A.own (ag bJ));have aM:=af (A.own (ag co));go_upto_region 2 with fail;go_region;have U:=A.below (w1:=wr.drew) (aE.drew);have a0:=af U;have a8:=af (U.own (ag bJ));have aM:=af (U.own (ag co));have ej:=U.fr.size;obtain⟨dX,dZ,bg,bh,d0⟩:=U.an.cells;have d1:=U.an.frozen;clear a1 a3 aH a4 a5 a7 A U cO dJ;generalize wr.drew=w1 at *;obtain⟨g,cg⟩:=a2 ((b++c)[i]);have c0:=af cg;rw[<- cg]at be bH;have df:¬u=w1.heap.size:=by have:=a0.lt;omega
 have j:∀(o:Obj) (h:Addr) (v:Value),w1.cell? h=some v->(w1.alloc o).cell? h=some v:=fun o h v t=>(b7 (bx w1 o h.block (ef _ _ t))).trans t;have b_:=fun o=>j o _ _ bg;have bu:=fun o=>j o _ _ bh;clear cg cR;go_upto_if 35 with fail;go_cut [6]from 13 to 141 (fun cZ ce=>cZ=aO w1.heap.size/\VZ w1 ce g);case first =>(rcases V1 b c i bR with⟨bb,al,aX⟩|⟨bb,al,aX⟩;{have dg:(i:Int)<(b.length:Int):=ae;rcases a8.Ol with⟨_,t⟩|⟨I,cM,P,cU,cN,T⟩;{rw[t]at bb;simp at bb};obtain⟨bl,cQ,M,ap,N,D,aK,R,J⟩:=T i al;rw[<- aX,<- ag c0]at ap N D R J;obtain⟨q,h2,z⟩:=gL P;rw[q,z]at bg;clear b_;have b_:=fun o=>j o _ _ bg;obtain⟨c8,da,db,rfl,_,_⟩:=R;have bY:I<w1.heap.size:=ef _ _ M;have Y:=af J.nm;obtain⟨ac,ad,ai,rfl,_,_⟩:=J;have dG:¬I=w1.heap.size:=ae;have dv:=fun o=>j o _ _ M;have dw:=fun o=>j o _ _ ap;have dx:=fun o=>j o _ _ N;have dy:=fun o=>j o _ _ D;have dh:=fun o=>j o _ _ aK;have bK:∀o,ax w1 (w1.alloc o):=fun o=>aE.alloc av _;clear q h2 z T P aX j bb al a8 aM a0;go_wp2_with fail;go_meet;case rel=>exact⟨rfl,_,ac,ad,ai,World.alloc_heap_new w1 _,bK _,Y⟩};{have dg:¬(i:Int)<(b.length:Int):=ae;rcases aM.Ol with⟨_,t⟩|⟨I,cM,P,cU,cN,T⟩;{rw[t]at al;simp at al};obtain⟨bl,cQ,M,ap,N,D,aK,R,J⟩:=T (i-b.length) al;rw[<- aX,<- ag c0]at ap N D R J;obtain⟨q,h2,z⟩:=gL P;rw[q,z]at bh;clear bu;have bu:=fun o=>j o _ _ bh;obtain⟨c8,da,db,rfl,_,_⟩:=R;have bY:I<w1.heap.size:=ef _ _ M;have Y:=af J.nm;obtain⟨ac,ad,ai,rfl,_,_⟩:=J;have dG:¬I=w1.heap.size:=ae;have dv:=fun o=>j o _ _ M;have dw:=fun o=>j o _ _ ap;have dx:=fun o=>j o _ _ N;have dy:=fun o=>j o _ _ D;have dh:=fun o=>j o _ _ aK;have bK:∀o,ax w1 (w1.alloc o):=fun o=>aE.alloc av _;clear q h2 z T P aX j a8 aM a0;go_upto_region 7 with fail;go_region;all_goals(go_wp2_with fail;go_meet;case rel=>exact⟨rfl,_,ac,ad,ai,World.alloc_heap_new w1 _,(bK _).drew,Y⟩)})
 case rest =>(
 obtain⟨rfl,bl,ac,ad,ai,bX,bN,Y⟩:=hcut;have bv:=a0.below bN;have cr:=Y.below bN;have em:ac<w1.heap.size:=by obtain⟨_,_,_,C,_,t⟩:=Y;cases C;exact t.1
 have bk:=af bv;have cY:=af cr;have dA:wc.cell? (aq w1.heap.size 2)=some (ak g.type):=by unfold World.cell?; rw[bX];rfl
 have cP:wc.cell? (aq w1.heap.size 4)=some (aF ac ad (aC 32 g.data).length ai):=by unfold World.cell?; rw[bX];rfl
 have eh:=bv.fr.size;clear bv bX cr Y bN b_ bu dX dZ bg bh d0 d1 a0 a8 aM j df;generalize w1.heap.size=eE at *;go_upto_region 8 with fail;go_cut [63]from 13 to 141 (fun v ce=>v=.bool (!ge g)/\ce=wc);case first =>(
 by_cases h2:g.type=2;{
 have dL:(g.type != 2)=false:=by simp[h2]
 have g_:ge g=true:=by unfold ge;simp[h2]
 exact FS};{
 have dL:(g.type != 2)=true:=sA
 have g_:ge g=(g.type==15):=by unfold ge;rw[eW.2 h2,mF]
 exact FS})
 case rest =>(
 obtain⟨rfl,rfl⟩:=hcut;cases g_:ge g with
 | false =>{have L:Hid (fx rs b ((b++c).take (i+1))=(e,l)):=by{rw[Hid,ag be,tX,ag a_,VT g_]};go_wp2;exact⟨⟨i+1,_,ae,bq,⟨_,_,_,rfl⟩,by rw[ag L];exact bk⟩,ci⟩}
 | true =>{
 obtain⟨aD,x,aW,cj,bS,eD⟩:=ag bH g_;have eB:=(ed bS).2;have di:wc.cell? (aq ac (ad+aD.length))=some (au x):=by{obtain⟨_,_,_,C,_,t⟩:=ag cY;cases C;have:=t.2 aD.length (by rw[aW];simp);rw[this];congr 3;simp[aW]};have eu:aD.length+1<=ai:=by{obtain⟨_,_,_,C,d,_⟩:=ag cY;cases C;rw[aW]at d;simpa using d};have cx:(aC 32 g.data).length=aD.length+1:=by rw[aW];simp
 have eA:aD.length<=3000:=by have:=iq 32 g.data;omega
 rw[cx]at cP;have ez:((aD.length+1:Nat):Int)-1=(aD.length:Int):=ae;have dT:=af (fun W=>rt x false W ae);have aR:dS false x=some (aC 46 x):=by{have:=l7 x;rw[bS]at this;unfold dS at this ⊢;split at this;{rename_i t;rw[ay t]};{cases this}};rw[<- lv (xB bS)]at aR;have a9:=af (aQ g_ cj);clear g_ cj aW cx bH;go_wp2_with fail;refine(dT _).mono ?_;rintro C d6 ⟨⟨eG,rfl,cV⟩,cT⟩;rw[aR]at cV;obtain⟨_,aa,D,rfl,dE,ex,dP⟩:=cV;have bw:=bk.below cT;have c3:ek d6 (fun a=>n a\/some a=(Value.slice aw l.length aA).ownBlock\/some a=(Value.slice b5 dW b9).ownBlock) (aF aa 0 (aY x).length D) (aY x):=⟨aa,0,D,rfl,dE,dP,fun d=>by{rcases d with d|d|d;{exact c_ aa ae d};{have:=(bk.ad.lt aa d.symm).2;omega};{have:=(bk.sn.lt aa d.symm).2;omega}}⟩;have dM:=af bw;have d8:=af c3;obtain⟨_,_,cl⟩:=bw.sn.slice;obtain⟨-,dj,-⟩:=gL cl;subst dj;have bs:(aY x).length<=1000:=Bu ae;clear bw c3 cT cl dA cP di;go_wp2_with fail;go_loopw [8,9] (fun cD ab wr=>∃(a:Nat) (y:Bool),a<=e.length/\ab=ak a/\cD=.bool y/\(e.take a).contains x=y/\vO n w wr u aG an (.slice bW b.length bF) (.slice ca c.length cb) (.slice aw l.length aA) (.slice b5 e.length b9) e l/\ek wr (fun a=>n a\/some a=(Value.slice aw l.length aA).ownBlock\/some a=(Value.slice b5 e.length b9).ownBlock) (aF aa 0 (aY x).length D) (aY x)) (fun _ ab _=>e.length-(intOf ab).toNat);case atStart=>exact⟨0,false,b6 _,rfl,rfl,rfl,dM,d8⟩
 case round =>(
 obtain⟨a,y,aU,rfl,rfl,aT,k,r⟩:=hrel;have Q:=af aT;clear aT;by_cases H:a<e.length;{
 have br:(a:Int)<(e.length:Int):=ae;obtain⟨et,er,d2,c1,ev,dF,cy⟩:=k.sn.at H;obtain⟨q,-,z⟩:=gL c1;subst q z;have c2:=(ag bt) e[a] (bM H);have aZ:=af (lJ d2 _ (aY e[a]) (aY x) wr cy.nm r.nm (Bu c2) bs);have F:=af k;have V:=af r;have aI:=af (VX e x a H);obtain⟨dk,dm,dn,rfl,_,_⟩:=cy;clear k r c1 c2;go_wp2_with fail;refine aZ.mono ?_;rintro C eH ⟨rfl,bQ⟩;have cA:=af (F.below bQ);have cs:=af (V.fr (p:=fun _=>True) (bG.wI bQ) (fun _ _=>aL));clear bQ aZ dF;cases y with
 | false =>{go_wp2;exact⟨⟨a+1,_,ae,bq,rfl,by rw[ag aI,ag Q,mF],cA,cs⟩,ci⟩}
 | true =>{go_wp2;exact⟨⟨a+1,_,ae,bq,rfl,by rw[ag aI,ag Q,uU],cA,cs⟩,ci⟩}};{
 have br:¬(a:Int)<(e.length:Int):=ae;have cf:a=e.length:=ae;have cB:Hid (e.contains x=y):=by{have:=ag Q;rw[cf,dK]at this;exact this};have F:=af k;have V:=af r;cases y with
 | true =>{have L:Hid (fx rs b ((b++c).take (i+1))=(e,l)):=by{rw[Hid,ag be,tX,ag a_,VU a9.2 a9.1 (ag cB)]};clear k r;go_wp2;exact⟨⟨i+1,_,ae,bq,⟨_,_,_,rfl⟩,by rw[ag L];exact F⟩,ci⟩}
 | false =>{
 have L:Hid (fx rs b ((b++c).take (i+1))=(e++[x],if b.any (fun h=>h.owner==x&&h.type==1)then l else l++cE rs x 1)):=by{rw[Hid,ag be,tX,ag a_,VV a9.2 a9.1 (ag cB)]};obtain⟨cZ,eI,O,bz,ck,eF⟩:=k.awf r ae;have cX:=af O;have cC:=af bz;have cp:=af ck;obtain⟨bE,cm,rfl⟩:=bz.sn.slice;rw[a6,te]at cX cC cp;clear k r O bz ck F V;go_wp2_with (at_builtin;go_loud (refine ny dO (.tmp 90) (.tmp 92) 328 dO _ _ _ _ dO dO (ag cX) ?_));go_loopw [8,11] (fun cD ab wr=>∃(a:Nat) (y:Bool),a<=b.length/\ab=ak a/\cD=.bool y/\(b.take a).any (fun h=>h.owner==x&&h.type==1)=y/\vO n w wr u aG an (.slice bW b.length bF) (.slice ca c.length cb) (.slice aw l.length aA) (.slice bE (e.length+1) cm) (e++[x]) l/\ek wr (fun a=>n a\/some a=(Value.slice aw l.length aA).ownBlock\/some a=(Value.slice bE (e.length+1) cm).ownBlock) (aF aa 0 (aY x).length D) (aY x)) (fun _ ab _=>b.length-(intOf ab).toNat);case atStart=>exact⟨0,false,b6 _,rfl,rfl,rfl,cC,cp⟩
 case round =>(
 obtain⟨a,y,aU,rfl,rfl,aT,k,r⟩:=hrel;have Q:=af aT;clear aT;obtain⟨a1,a3,aH,a4,a5⟩:=k.an.cells;have a7:=k.an.frozen;by_cases H:a<b.length;{
 have br:(a:Int)<(b.length:Int):=ae;rcases(k.own (ag bJ)).Ol with⟨_,t⟩|⟨I,cM,P,cU,cN,T⟩;{rw[t]at H;simp at H};obtain⟨bl,cQ,M,ap,N,dt,aK,R,J⟩:=T a H;obtain⟨q,-,z⟩:=gL P;have cF:=af (aQ q z);rw[q,z]at aH;clear q z P;have aS:=ag dV b[a] (bM H);have aZ:=af (lJ bl _ (aY b[a].owner) (aY x) wr R.nm r.nm (Bu aS) bs);have F:=af k;have V:=af r;have aI:=af (VW (fun h:aj=>h.owner==x&&h.type==1) b a H);have cG:=af (VY b[a] x);have cn:=af N;obtain⟨dk,dm,dn,rfl,_,_⟩:=R;have bY:I<wr.heap.size:=ef _ _ M;generalize b[a]=h at *;clear k r T aS ap N dt aK J a1 a3 a4 a5;go_wp2_with fail;refine aZ.mono ?_;rintro C cd ⟨rfl,E⟩;have bc:=af (F.below E);have bA:=af (V.fr (p:=fun _=>True) (bG.wI E) (fun _ _=>aL));have es:cd.cell? (aq I (a*5+2))=some (ak h.type):=(E.cell (p:=⟨I,a*5+2,none⟩) bY).trans (ag cn);obtain⟨bZ,b0,b1,b2,b3⟩:=bc.an.cells;rw[cF.1,cF.2]at b1;clear E aZ M aH a7 bZ b0 b2 b3 cn;obtain⟨b8,bp⟩:∃b8,decide (aY h.owner=aY x)=b8:=⟨_,rfl⟩;rw[bp];have cH:=af bp;clear bp;cases y with
 | true =>{go_wp2;exact⟨⟨a+1,_,ae,bq,rfl,by rw[ag aI,ag Q,uU],bc,bA⟩,ci⟩}
 | false =>{
 cases b8 with
 | false =>{go_wp2;exact⟨⟨a+1,_,ae,bq,rfl,by rw[ag aI,ag Q,mF,ag cG,ag cH,nH],bc,bA⟩,ci⟩}
 | true =>{go_wp2;exact⟨⟨a+1,_,ae,bq,rfl,by rw[ag aI,ag Q,mF,ag cG,ag cH,nI],bc,bA⟩,ci⟩}}};{
 have br:¬(a:Int)<(b.length:Int):=ae;have cf:a=b.length:=ae;have cK:Hid (b.any (fun h=>h.owner==x&&h.type==1)=y):=by{have:=ag Q;rw[cf,dK]at this;exact this};have F:=af k;have V:=af r;cases y with
 | true =>{have kO:Hid (fx rs b ((b++c).take (i+1))=(e++[x],l)):=by{rw[Hid,ag L,ag cK];rfl};clear k r;go_wp2;exact⟨⟨i+1,_,ae,bq,⟨_,_,_,rfl⟩,by rw[ag kO];exact F⟩,ci⟩}
 | false =>{
 have kO:Hid (fx rs b ((b++c).take (i+1))=(e++[x],l++cE rs x 1)):=by{rw[Hid,ag L,ag cK];rfl};have X:=k.below (w1:=wr.drew) (aE.drew);have cc:=r.fr (p:=fun _=>True) (B:=wr.drew) (bG.wI (aE.drew)) (fun _ _=>aL);clear k r F V;go_upto_region 24 with fail;clear a1 a3 aH a4 a5 a7;obtain⟨a1,a3,aH,a4,a5⟩:=X.an.cells;have a7:=X.an.frozen;have bd:=af X;have hown1:(cz rs x 1).map (cI x)=cE rs x 1:=by rw[Jz];unfold cz;rw[ar ba]
 have en:=rp (ag bI) x 1;have ct:=af (CD (W:=wr.drew) (x:=fun a=>(n a\/some a=(Value.slice bE (e.length+1) cm).ownBlock)\/some a=(Value.slice aw l.length aA).ownBlock) (base:=0) (ag dz) (ag bI) (X.aiu (ag bL) dD) (fun a aU d=>by{rcases d with(d|d)|d;{exact c6 a aU d};{have:=(X.sn.lt a d.symm).1;have:=bL.size;omega};{have:=(X.ad.lt a d.symm).1;have:=bL.size;omega}}) (b6 _) x x _ _ 1 cc.nm bs (cc.imp (fun a _ dH d=>dH (by rcases d with(d|d)|d;exact .inl d;exact .inr (.inr d);exact .inr (.inl d)))));clear X cc ;refine y_ (S:=fun _=>True) aB aL (fun hS=>?_);refine fS 0 aL ?_;refine fS 1 aL ?_;refine fS 2 aL ?_;refine fS 3 aL ?_;refine fS 5 aL ?_;refine fS 6 aL ?_;refine fS 7 aL ?_;refine ec (rs:=[4,8]) aB am (dr rfl (fun K hK=>?_) (dr rfl (fun K hK=>?_) eb));{
 go_simp;refine hK.out _ _ aL (fun hS=>?_);clear hK K;try simp only[Act.put,ep,c5,dl]
 refine ec (rs:=[8]) aB am (dr rfl (fun K hK=>?_) eb);go_simp;go_wp2_with (go_at_call 237;go_loud (refine ct.mono ?_;rintro C cd ⟨⟨d4,rfl,aN⟩,E⟩;have bB:=af aN;have bC:=af E;clear aN E));have G:=bd.below bC;obtain⟨d3,d7,O,Z,aP,dd,hZ,b4⟩:=G.add1 (ag bB) uE;subst b4;have ZY:=af O;have OL:=af aP;obtain⟨bZ,b0,b1,b2,b3⟩:=G.an.cells;have dU:=G.an.frozen;obtain⟨d9,d_,ea,ee,eg⟩:=Z.cells;have dR:=Z.frozen;clear G O Z aP;exact FN};{
 go_simp;go_wp2_with (go_at_call 237;go_loud (refine ct.mono ?_;rintro C cd ⟨⟨d4,rfl,aN⟩,E⟩;have bB:=af aN;have bC:=af E;clear aN E));have G:=bd.below bC;obtain⟨d3,d7,O,Z,aP,dd,hZ,b4⟩:=G.add1 (ag bB) uE;subst b4;have ZY:=af O;have OL:=af aP;obtain⟨bZ,b0,b1,b2,b3⟩:=G.an.cells;have dU:=G.an.frozen;obtain⟨d9,d_,ea,ee,eg⟩:=Z.cells;have dR:=Z.frozen;clear G O Z aP;refine hK.out _ _ aL (fun hS=>?_);clear hK K;try simp only[Act.put,ep,c5,dl]
 refine ec (rs:=[4]) aB am (dr rfl (fun K hK=>?_) eb);go_simp;exact FN}}})}})}))};{have cR:¬(i:Int)<(b.length:Int)+(c.length:Int):=ae;have c9:i=(b++c).length:=ae;have L:Hid (fx rs b (b++c)=(e,l)):=by{have:=ag a_;rw[c9,dK]at this;exact this};go_upto_region 2 with fail;go_region;have bd:=af (A.below (w1:=wr.drew) (aE.drew));clear A cO;go_wp2_with fail;refine iI (v:=.tuple #[]) (by simp[results,results187]) rfl ?_;exact⟨rfl,_,_,by rw[ag L];exact bd⟩})
def fj(o:ah)(rs:List aj)(b:Int)(a:ah):Int×Bool×List aj×List aj:=jP o (aS rs) b 9 true false [] a
def lG(o:ah)(rs:List aj)(b:Int)(a:ah):List aj:=(fx rs (fj o rs b a).2.2.1 ((fj o rs b a).2.2.1++(fj o rs b a).2.2.2)).2
def Bv(rs:List aj)(a:Int×Bool×List aj×List aj):List aj:=(fx rs a.2.2.1 (a.2.2.1++a.2.2.2)).2
def Vu(b:Nat->Prop)(g:World)(c:Nat)(v:Value)(a:Int×Bool×List aj×List aj)(j:List aj):Prop :=
 ∃d i e,v=.agg #[ak a.1,.bool a.2.1,d,i,e]/\dY b g c d a.2.2.1/\dY b g c i a.2.2.2/\dY b g c e j/\∀h,e.ownBlock=some h->d.ownBlock≠some h
theorem EK{P:Prop}(h:P:=by
 generalize cC o L t first aa ans n=q at h
 obtain⟨rc,jO,pD,b_,nx⟩:=q;simp only at h;subst h;rfl):P:=h
theorem Vv{o:ah}{L:List aj}{t:Int}{first aa:Bool}{ans:List aj}{n:ah}(f:Nat)(h:(cC o L t first aa ans n).2.2.2.2=none):jP o L t f first aa ans n=((cC o L t first aa ans n).1,(cC o L t first aa ans n).2.1,(cC o L t first aa ans n).2.2.1,(cC o L t first aa ans n).2.2.2.1):=by
 cases f with
 | zero=>rfl
 | succ f =>{
 unfold jP;exact EK}
theorem Vw{o:ah}{L:List aj}{t:Int}{first aa:Bool}{ans:List aj}{n a:ah}(f:Nat)(h:(cC o L t first aa ans n).2.2.2.2=some a):jP o L t (f+1) first aa ans n=jP o L t f false (cC o L t first aa ans n).2.1 (cC o L t first aa ans n).2.2.1 a:=by
 conv=>lhs;unfold jP
 exact EK
theorem Bl{w:World}{c e g:Nat}{d:List ah}{o:Int}{h:Bool}(l:gJ w c e d)(n:0<d.length)(b:ew w g o h (aJ) (aJ) (aJ)):c≠g:=by
 rintro rfl;have a:=l.2 0 n;rw[dT]at a;obtain⟨i,ap,j,k,aK⟩:=b.cells;match e,a with
 | 0,a=>rw[i]at a;cases a
 | 1,a=>rw[ap]at a;cases a
 | 2,a=>rw[j]at a;cases a
 | 3,a=>rw[k]at a;cases a
 | 4,a=>rw[aK]at a;cases a
 | p+5,a =>{unfold ew at b;unfold World.cell? at a;rw[b]at a;simp at a}
theorem tY(a:UInt8)(s:ah):0<(aC a s).length:=by
 have:=io a s;cases b:aC a s with
 | nil=>exact absurd b this
 | cons c d=>simp
theorem xg(s:ah):0<(aY s).length:=by rw[lu];exact tY 46 s
theorem Bm{o c:Nat->Prop}{w:World}{d base' k:Nat}{v:Value}{h:List aj}{I:Int}{p:Bool}(A:dY o w d v h)(e:∀b,c b->o b)(E:base'<=d)(g:ew w k I p (aJ) (aJ) (aJ)):dY (fun b=>b=k\/c b) w base' v h:=by obtain⟨J,B,C,D⟩:=A;refine⟨J,B,pH C E,fun K F=>?_⟩;obtain⟨⟨y,G,ap,r,u,l,i⟩,⟨z,H,q,t,x,n,j⟩⟩:=D K F;exact⟨⟨y,G,ap,r,u,l,fun a=>a.elim (fun a=>a.elim (Bl l (xg _) g) (fun a=>i (.inl (e _ a)))) (fun a=>i (.inr a))⟩,⟨z,H,q,t,x,n,fun a=>a.elim (fun a=>a.elim (Bl n (tY _ _) g) (fun a=>j (.inl (e _ a)))) (fun a=>j (.inr a))⟩⟩
theorem Vx{d:Nat->Prop}{w:World}{a b:Nat}{v:Value}{c:List aj}(e:dY d w a v c)(j:b<=a):dY d w b v c:=by obtain⟨k,g,h,i⟩:=e;exact⟨k,g,pH h j,i⟩
structure Z5(X:Nat->Prop)(w0 wr:World)(ab:Nat)(o:ah)(rs:List aj)(t:Int)(RES:Int×Bool×List aj×List aj)(first aa:Bool)(ans:List aj)(n:ah)(va:Value)(g no nc:Nat):Prop where
 an:ew wr ab 0 aa va (aJ) (aJ)
 FK:dY X wr (ab+1) va ans
 tx:gJ wr g no (aY n)
 nc:(aY n).length<=nc
 ga:g≠ab
 gx:¬X g
 go:some g≠va.ownBlock
 ne:gp n
 nl:n.length<=260
 ok:∀r∈ans,uy rs r
 eq:jP o (aS rs) t (9-ans.length) first aa ans n=RES
 bl:ax w0 wr
def Bn(c:Nat->Prop)(g wr:World)(b:Nat)(a:Int×Bool×List aj×List aj):Prop:=∃d e,ew wr b a.1 a.2.1 d e (aJ)/\dY c wr (b+1) d a.2.2.1/\dY c wr (b+1) e a.2.2.2/\ax g wr
theorem KD(aw:Nat)(H:Value)(o:ah)(rs:List aj)(E:Int)(c:Int×Bool×List aj×List aj)(r:Nat->Prop)(O w:World)(hz:nC O aw o rs)(an:ax O w)(a7:∀b,b<O.heap.size->¬r b)(aA:∀b,w.heap.size<=b->¬r b)(aH:kG o rs)(N:(∃u D C l,H=aF u D (aY l).length C/\¬r u/\gJ w u D (aY l)/\(aY l).length<=C/\gp l/\l.length<=260/\fj o rs E l=c)\/(H=aJ/\c=(0,false,[],[]))):az 121 #[aO aw,H,ak E] w fun z br=>(∃v,z=.returned v/\Vu r br w.heap.size v c (Bv rs c))/\ax w br:=by
 obtain⟨h,ao⟩:∃h:Obj,h=.cells #[.int .i64 0,.bool false,.slice none 0 0,.slice none 0 0,.slice none 0 0] 123:=⟨_,rfl⟩
 have aP:ax w (w.alloc h):=aE.alloc av _;have aU:(w.alloc h).heap.size=w.heap.size+1:=cv w _;have bk:Below (w.alloc h).heap.size (w.alloc h) ((w.alloc h).alloc h):=aE.alloc av _;have bq:ew ((w.alloc h).alloc h) (w.heap.size+1) 0 false (aJ) (aJ) (aJ):=by
  have:=World.alloc_heap_new (w.alloc h) h;rw[aU]at this;unfold ew;rw[this,ao]
 have bg:=af hz;have ar:=af (an.trans (aP.mono an.size));have b5:=an.size;have ac:=af aH;have bm:Hid ((w.alloc h).heap[w.heap.size]? = some (.cells #[.int .i64 0,.bool false,.slice none 0 0,.slice none 0 0,.slice none 0 0] 123)):=by
  rw[Hid,World.alloc_heap_new,ao]
 have S:=af bq;have a8:=af N;have aG:=af aP;have R:=af bk;obtain⟨i,bQ⟩:∃i,w.heap.size+1=i:=⟨_,rfl⟩
 rw[bQ]at S aU;have bD:Hid ((∀x∈c.2.2.1,uy rs x)/\(∀x∈c.2.2.2,uy rs x)/\c.2.2.1.length<=68/\c.2.2.2.length<=60):=by
  rcases N with⟨u,D,C,l,_,_,_,_,aQ,aR,rfl⟩|⟨_,rfl⟩
  ·exact pT aH E 9 true false [] l aQ aR (fun x k=>by cases k) (b6 _)
  ·exact⟨fun x k=>(by cases k),fun x k=>(by cases k),am,am⟩
 obtain⟨g,bi⟩:∃g:Nat->Prop,g=fun b=>b=i\/r b:=⟨_,rfl⟩
 have n:Hid (g i/\(∀b,b<O.heap.size->¬g b)/\(∀b,w.heap.size<=b->b≠i->¬g b)/\(∀b,g b->b<=i)/\(∀b,r b->g b)/\(∀b,b≠i->¬r b->¬g b)):=by
  subst bi;refine⟨.inl rfl,fun b I d=>?_,fun b I B d=>?_,fun b d=>?_,fun b d=>.inr d,fun b aI aK d=>d.elim aI aK⟩
  ·rcases d with d|d
   ·omega
   ·exact a7 b I d
  ·rcases d with d|d
   ·exact B d
   ·exact aA b I d
  ·rcases d with d|d
   ·omega
   ·have:¬w.heap.size<=b:=fun q=>aA b q d;omega
 clear hz aH aP bk bq an a7 aA bi N;go_enter func121,ntmps121;go_wp2_with fail;rw[<- ao];obtain⟨A,bl⟩:∃A,w.alloc h=A:=⟨_,rfl⟩
 rw[bl]at ar bm S aG R aU ⊢;have b7:=R.size;have bE:Hid ((∃(l:ah) (u D C:Nat),H=aF u D (aY l).length C/\Z5 g A (A.alloc h) i o rs E c true false [] l (aJ) u D C)\/(H=aJ/\Bn g A (A.alloc h) i c)):=by
  rcases ag a8 with⟨u,D,C,l,aV,bF,B,bY,aQ,aR,k⟩|⟨aV,k⟩
  ·have cd:=B.1;have bM:=(B.below aG).below R;exact .inl ⟨l,u,D,C,aV,S,dY.nil _ _ _,bM,bY,ae,n.2.2.2.2.2 u ae bF,(fun z=>by cases z),aQ,aR,(fun x k=>by cases k),k,R⟩
  ·rw[k];exact .inr ⟨aV,aJ,aJ,S,dY.nil _ _ _,dY.nil _ _ _,R⟩
 clear S ao bl a8
 go_loopg [1,8] 10 (fun bN H bh wr =>
  (∃(first F:Bool) (t:List aj) (W:ah) (P:Value) (ai aq aa:Nat),H=aF ai aq (aY W).length aa/\bh=.bool first/\bN+t.length=10/\t.length<=8/\Hid (Z5 g A wr i o rs E c first F t W P ai aq aa)) \/
  (H=aJ/\(∃ba:Bool,bh=.bool ba)/\Hid (Bn g A wr i c)))
 case atStart =>
  rcases ag bE with⟨l,u,D,C,rfl,q⟩|⟨rfl,q⟩
  ·exact .inl ⟨true,false,[],l,aJ,u,D,C,rfl,rfl,rfl,am,q⟩
  ·exact .inr ⟨rfl,⟨true,rfl⟩,q⟩
 case round =>
  rcases hrel with⟨first,F,t,W,P,ai,aq,aa,rfl,rfl,cb,bB,N⟩|⟨rfl,⟨ba,rfl⟩,L⟩
  ·have e:=ag N;have Z:=af (U8 aw i ai aq aa o W rs t E first F P g O A wr (ag bg) (ag ar) n.1 n.2.1 (fun b I B=>n.2.2.1 b ae B) n.2.2.2.1 (ag ac) e.bl ae e.an e.FK bB e.tx e.nc e.ga e.gx e.go e.ne e.nl);have aB:=Bq (ag ac) e.ne e.nl E first F t e.ok
   have a9:=af e.eq;obtain⟨K,aM⟩:∃K,cC o (aS rs) E first F t W=K:=⟨_,rfl⟩
   have ad:=af aM;rw[aM]at Z aB;have a_:=af aB;clear N e aB aM;go_wp2_with fail;refine Z.mono ?_;rintro z bs ⟨bf,bG,bZ,rfl,T,au,aC,X,al⟩;cases Y:K.2.2.2.2 with
   | none =>
    rw[Y]at X;have bx:bZ=aJ:=X;subst bx;have bC:Hid (Bn g A bs i c):=by
     have U:=ag a9;rw[Vv _ (by rw[ag ad];exact Y),ag ad]at U;rw[<- U];exact⟨bf,bG,T,au,aC,al⟩
    clear T au aC X al Z;go_wp2_with fail
    go_roundg 0
    case rel=>exact .inr ⟨rfl,⟨_,rfl⟩,bC⟩
    case measure=>omega
   | some be =>
    obtain⟨aT,bP,b8,b9,b3⟩:=a_.ai_ be Y;rw[Y]at X;obtain⟨bH,bO,ab,rfl,bR,bn,aW⟩:=X;subst bH;rw[bP]at T;have bv:Hid (Z5 g A bs i o rs E c false K.2.1 K.2.2.1 be bf bO 0 ab):=by
     refine⟨T,au,bn,bR,fun z=>aW (.inl (by rw[z];exact n.1)),fun z=>aW (.inl z),fun z=>aW (.inr z),(ed aT).1,aZ (ed aT).2 ae,a_.TD,?_,al⟩;have U:=ag a9;rw[show 9-t.length=(9-K.2.2.1.length)+1 by omega,Vw _ (by rw[ag ad];exact Y),ag ad]at U;exact U
    clear T au aC al Z aT bn;go_wp2_with fail
    go_roundg (10-(t.length+1))
    case rel=>exact .inl ⟨_,_,_,_,_,_,_,_,rfl,rfl,ae,ae,bv⟩
    case measure=>omega
  ·obtain⟨P,b1,e,aL,aN,M⟩:=ag L;obtain⟨iB,bo,b_,ca⟩:=ag bD;have bt:=af (V2 aw i o rs c.2.2.1 c.2.2.2 c.1 c.2.1 P b1 g O wr n.1 n.2.1 (fun b I=>n.2.2.1 b (by have:=M.size;omega) (by have:=e.lt;omega)) n.2.2.2.1 (ag bg) (ag ac) (ar.trans (M.mono ar.size)) ae e aL aN ae ae (fun x k B=>VH (ag ac) (by rcases dv.1 k with q|q;exact iB x q;exact bo x q) B) (fun x k=>by have:=(iB x k).own;omega));have bd:=af aL;have bw:=af aN;have a6:=af M;clear L e aL aN M iB bo;go_wp2_with fail;refine bt.mono ?_;rintro z b2 ⟨rfl,b0,ce,G⟩;have bj:∀b,b0.ownBlock=some b->P.ownBlock≠some b:=fun b aI aK=>by
    have:=(G.ad.lt b aI).1;have:=(bd.lt b aK).2;omega
   have bz:=af bj;clear bj;have a0:=G.aiu (ag a6) ae;have ay:=G.own (ag bd);have aD:=G.own (ag bw);have J:ew b2 w.heap.size 0 false (aJ) (aJ) (aJ):=(a0.block w.heap.size ae).trans (ag bm);have bA:=af (Bm ay n.2.2.2.2.1 (base':=w.heap.size+1) ae J);have bI:=af (Bm aD n.2.2.2.2.1 (base':=w.heap.size+1) ae J);have bJ:=af (Bm G.ad (fun b I=>.inl (n.2.2.2.2.1 b I)) (base':=w.heap.size+1) (by have:=a6.size;omega) J);have bL:=af a0;obtain⟨a3,ap,rfl⟩:=ay.slice;obtain⟨a4,bc,rfl⟩:=aD.slice;obtain⟨a5,ab,rfl⟩:=G.ad.slice;obtain⟨cf,cg,ch,ci,cj⟩:=G.an.cells;obtain⟨ck,cl,cm,cn,co⟩:=J.cells;have b4:=J.frozen;have bS:=af J;have bK:Hid (Bv rs c=(fx rs c.2.2.1 (c.2.2.1++c.2.2.2)).2):=rfl;generalize (fx rs c.2.2.1 (c.2.2.1++c.2.2.2)).2=a2 at *;obtain⟨bp,F,t,bb⟩:=c;simp only at *;clear G a0 ay aD J bt;go_wp2_with fail;have bu:=(((((bS.set0 bp).set1 F).set2 (.slice a3 t.length ap)).jv (.slice a4 bb.length bc)).mh (.slice a5 a2.length ab))
   obtain⟨bT,bU,bV,bW,bX⟩:=bu.cells;refine cc (v:=.agg #[.int .i64 bp,.bool F,.slice a3 t.length ap,.slice a4 bb.length bc,.slice a5 a2.length ab]) ?_ rfl ?_
   ·simp[results,results121,go_sem,bT,bU,bV,bW,bX]
   ·rw[ag bK];have j:∀ {v:Value} {V:List aj} {Q:World} (aX:Nat) (a1:Value),dY (fun b=>b=w.heap.size\/r b) Q (w.heap.size+1) v V->dY (fun b=>b=w.heap.size\/r b) (Q.setCell ⟨w.heap.size,aX,none⟩ a1) (w.heap.size+1) v V:=fun aX a1 q=>q.set (a:=⟨w.heap.size,aX,none⟩) a1 (.inl rfl) (by show w.heap.size<_;omega);have L:∀ {v:Value} {V:List aj} {Q:World},dY (fun b=>b=w.heap.size\/r b) Q (w.heap.size+1) v V->dY r Q w.heap.size v V:=fun q=>Vx (q.imp (y:=r) (fun _ _ B _ d=>B (.inr d))) ae;refine⟨⟨_,rfl,_,_,_,rfl,L (j 4 _ (j 3 _ (j 2 _ (j 1 _ (j 0 _ (ag bA)))))),L (j 4 _ (j 3 _ (j 2 _ (j 1 _ (j 0 _ (ag bI)))))),L (j 4 _ (j 3 _ (j 2 _ (j 1 _ (j 0 _ (ag bJ)))))),bz⟩,?_⟩;have M:=aG.trans (bL.mono ae);exact((((M.setCell (p:=⟨w.heap.size,0,none⟩) av _).setCell (p:=⟨w.heap.size,1,none⟩) av _).setCell (p:=⟨w.heap.size,2,none⟩) av _).setCell (p:=⟨w.heap.size,3,none⟩) av _).setCell (p:=⟨w.heap.size,4,none⟩) av _
def tZ(g:World)(e:Nat)(v:Value)(a:Int×Bool×List aj×List aj)(h:List aj):Prop :=
 ∃b c d,v=.agg #[ak a.1,.bool a.2.1,b,c,d]/\cA g e b a.2.2.1/\cA g e c a.2.2.2/\cA g e d h/\kr b c/\kr b d/\kr c d
theorem qz(b:Value):kr (aJ) b:=fun c a=>by cases a
theorem D4{P:Prop}(h:P:=by unfold lG;rw[he];exact⟨_,_,_,rfl,e8 _ _ _ _,e8 _ _ _ _,e8 _ _ _ _,qz _,qz _,qz _⟩):P:=h
section
variable {o:ah} {rs:List aj} (hz:kG o rs)
include hz
theorem CR:Cq o (aS rs):=by have c:=(l_ rs).length_eq;refine⟨by rw[c];have:=p9 hz;omega,by have:=(ed hz.org).2;omega,fun b d=>?_⟩;have a:=(l_ rs).mem_iff.1 d;exact⟨by have:=(oX (hz.recs b a).vL).2;omega,(hz.recs b a).len⟩
theorem KE:∀a∈gU (cM (aS rs) o) 6,GW a/\a.data.length<=3000/\a.aI<=1000000000:=by obtain⟨_,_,_,_,_,_,_,_,b⟩:=xF hz;exact b
theorem KF{b:ah}(e:gp b):(cG (aS rs) b).1.length<=3001:=by have a:=tW hz e 255;have d:fC 255 (cG (aS rs) b).1=(cG (aS rs) b).1:=by{have c:=s9 bH (cG (aS rs) b).1.length 0 (cG (aS rs) b).1 av;unfold fC g0;rw[nP.2 (fun g _=>by unfold fB;simp)];exact c};rw[d]at a;rcases a with a|⟨s,a⟩;{rw[a];simp};{rw[a,bD];have:=rp hz s 255;omega}
theorem Vy(r i q k:Nat)(b:Int){a:ah}(C:gp a)(P:a.length<=260):J7 (lh o (aS rs) b a) r i q k b o a (aS rs):=by
 intro G x w u t D E B F y z A R N O H I;by_cases e:b=5\/b=255;{
 have g:lh o (aS rs) b a=some (gE o (aS rs) a,gZ o (aS rs) b a,h6 o (aS rs) b a):=by unfold lh;rw[ay e]
 refine(Sf G r x w i q k b u _ _ _ o a (aS rs) t D rfl rfl E B F y z A ⟨CR hz,ae,KE hz,e,KF hz C⟩).mono ?_;rintro J X ⟨rfl,⟨l,j,c,d,K,L⟩,M⟩;exact .inr ⟨_,_,_,l,j,g,rfl,c,d,K,L,M⟩};{
 have g:lh o (aS rs) b a=(dC o (aS rs) 8 a).map (fun h=>(mS o (aS rs) h.2,h.1++mo o (aS rs) b h.2,mT o (aS rs) b h.2)):=by unfold lh;rw[ar e]
 refine(Se (fun m=>gp m/\m.length<=260) G r x w i q k H b u _ o a (aS rs) t D E B F y z A R N O I ae ⟨C,P⟩ ⟨CR hz,KE hz,by simpa using fun n=>e (.inl n),by simpa using fun n=>e (.inr n),fun m p=>KF hz p.1,fun m aa p Q=>?_⟩).mono ?_;{obtain⟨_,_,_,_,S⟩:=xb hz p.1 Q;have:=ed S;exact⟨ae,this.1,ae⟩};{rintro J X (⟨c,rfl,d⟩|⟨Z,Y,c,_,rfl,⟨l,j,T,U,V,W⟩,d⟩);{exact .inl ⟨by rw[g,c];rfl,rfl,d⟩};{exact .inr ⟨_,_,_,l,j,by rw[g,c];rfl,rfl,T,U,V,W,d⟩}}}
theorem Vz(j:Int){c:ah}(w:gp c)(t:c.length<=260)(x:dU c o=true):∀i d e,lh o (aS rs) j c=some (i,d,e)->d.length<=500/\e.length<=500/\∀a∈d++e,a.data.length<=3000:=by intro i d e b;have h:=pT hz j 9 true false [] c w t (fun a g=>by cases g) (b6 _);rw[KB x,b]at h;obtain⟨n,p,q,r⟩:=h;refine⟨by simp only at q;omega,by simp only at r;omega,fun a g=>?_⟩;have l:uy rs a:=by{rcases dv.1 g with b|b;{exact n a b};{exact p a b}};obtain⟨y,u,_,k⟩:=l.dat;rw[k];exact(hz.recs y u).len
theorem VA{a:ah}(l:gp a)(b:Int)(n:dU a o=true){g:World}{e:Nat}{v:Value}(j:J8 (lh o (aS rs) b a) o a (aS rs) g e v):tZ g e v (fj o rs b a) (lG o rs b a):=by have he:fj o rs b a=_:=KB n;rcases j with⟨c,rfl⟩|⟨z,d,h,x,y,i,c,rfl,p,q,r,t,u,w⟩;{rw[c]at he;exact D4};{rw[c]at he;unfold lG;rw[he];have k:=VQ (VP hz l b _ c) (d++h);refine⟨x,y,i,rfl,p,q,?_,t,u,w⟩;show cA g e i (fx rs d (d++h)).2;rw[<- k];exact r}
end
theorem KG(u x C z:Nat)(B:Int)(o a:ah)(rs:List aj)(w:World)(hz:e6 w u o x C z rs)(F:a.length<=2900)(E:o.length<=2900)(r:dU a o=false):az 69 #[aO u,au a,ak B] w (aP (.agg #[ak 5,.bool false,aJ,aJ,aJ]) w):=by
 have G:=hz.2.1;have H:=hz.1;have q:ax w (w.alloc (.cells #[.int .i64 0,.bool false,.slice none 0 0,.slice none 0 0,.slice none 0 0] 43)):=aE.alloc av _;have l:Hid (∀b,az 110 #[au a,au o] b fun n D=>n=.returned (.bool false)/\D=b):=fun b=>by{have:=tt (ai a) (ai o) b gB gB;rw[jC,jC,r]at this;exact this};clear hz r;go_enter func69,ntmps69;go_wp2_with fail;refine(l _).mono ?_;rintro n t ⟨rfl,j⟩;have A:ax w t:=by rw[j];exact q
 have i:eM t w.heap.size (ak 0) (.bool false) (aJ) (aJ) (aJ):=by rw[j];exact vU w _
 obtain⟨I,J,K,L,M⟩:=eM.cells i;have N:=eM.frozen i;have k:=((((eM.set0 i (ak 5)).set1 (.bool false)).set2 (aJ)).jv (aJ)).mh (aJ);obtain⟨c,d,e,g,h⟩:=k.cells;have y:=af (aQ c (aQ d (aQ e (aQ g h))));clear j q l i k c d e g h;go_wp2_with fail;obtain⟨c,d,e,g,h⟩:=ag y;refine cc (v:=.agg #[.int .i64 5,.bool false,.slice none 0 0,.slice none 0 0,.slice none 0 0]) ?_ rfl ⟨rfl,((((A.setCell (p:=⟨w.heap.size,0,none⟩) av _).setCell (p:=⟨w.heap.size,1,none⟩) av _).setCell (p:=⟨w.heap.size,2,none⟩) av _).setCell (p:=⟨w.heap.size,3,none⟩) av _).setCell (p:=⟨w.heap.size,4,none⟩) av _⟩;simp[results,results69,go_sem,c,d,e,g,h]
theorem VB(e g i h:Nat)(b:Int)(o a:ah)(rs:List aj)(w:World)(c:kG o rs)(hz:e6 w e o g i h (aS rs))(p:bT w)(n:gp a)(q:a.length<=260):az 69 #[aO e,au a,ak b] w fun k j=>(∃v,k=.returned v/\tZ j w.heap.size v (fj o rs b a) (lG o rs b a))/\ax w j:=by
 cases d:dU a o with
 | false =>{have u:=(ed c.org).2;refine(KG e g i h b o a (aS rs) w hz ae ae d).mono ?_;rintro k j ⟨rfl,l⟩;have he:fj o rs b a=(5,false,[],[]):=oB 9 (Br d);refine⟨⟨_,rfl,?_⟩,l⟩;exact D4}
 | true =>{have r:=(l_ rs).length_eq;refine(U4 (lh o (aS rs) b a) e g i h b o a (aS rs) w hz p ae d (CR c) (by rw[r];exact p9 c) (Vy c e g i h b n q) (Vz c b n ae d)).mono ?_;rintro k j ⟨⟨v,rfl,t⟩,l⟩;exact⟨⟨v,rfl,VA c n b d t⟩,l⟩}
theorem VC(c:Int)(w:World):az 140 #[ak c] w fun j l=>j=.returned (.bool (mi c))/\l=w:=by
 obtain⟨e,a⟩:=a2 (mi c);rw[<- a];unfold mi at a;by_cases d:c=0;{subst d;have b:e=false:=a;subst b;clear a;go_enter func140,ntmps140;go_wp2;go_ret;exact dX};{
 have i:(c != 0)=true:=by simpa using d
 by_cases h1:c=41;{subst h1;have b:e=false:=a;subst b;clear a d i;go_enter func140,ntmps140;go_wp2;go_ret;exact dX};{
 have k:(c != 41)=true:=qq
 rw[i,k]at a;by_cases g:c<249;{
 have b:e=true:=by rw[a,eC g];rfl
 subst b;clear a d h1;go_enter func140,ntmps140;go_wp2;go_ret;exact dX};{
 by_cases h:254<c;{
 have b:e=true:=by rw[a,eC h];simp
 subst b;clear a d h1;go_enter func140,ntmps140;go_wp2;go_ret;exact dX};{
 have b:e=false:=by rw[a,eD g,eD h];rfl
 subst b;clear a d h1;go_enter func140,ntmps140;go_wp2;go_ret;exact dX}}}}
def t2(a:World)(d c:Nat):Prop:=d<=c/\∃e b,d<=b/\b<=a.heap.size/\bJ a c e (aJ)/\dA a b e (List.replicate 12 0)
theorem t2.below{W W':World}{n mb:Nat}(d:t2 W n mb)(a:ax W W'):t2 W' n mb:=by obtain⟨e,j,c,g,h,b,i⟩:=d;exact⟨e,j,c,g,aZ h a.size,(a.block mb (bn.1 b).1).trans b,eg i a⟩
theorem VD(a:World)(g:Nat)(j:g<=a.heap.size):az 130 #[] a fun c b=>∃e,c=.returned (aO e)/\t2 b g e/\ax a b:=by refine(IE a).mono ?_;rintro c b ⟨rfl,⟨k,h,i⟩,d⟩;exact⟨_,rfl,⟨ae,k,a.heap.size,j,d.size,h,i⟩,d⟩
theorem KH{a:World}{g e:Nat}(k:t2 a g e)(x:g<=a.heap.size)(c d:Nat)(ao:c<65536)(p:d<65536):az 131 #[aO e,.agg #[ak c,ak d,ak 0,ak 0,ak 0,ak 0]] a fun h i=>h=.returned (au (bv (ei c d 0 0 0 0)))/\Below g a i:=by obtain⟨t,r,j,u,l,n,o⟩:=k;refine(Il e j c d 0 0 0 0 r _ (List.replicate 12 0) a n o l am am ao p ae ae ae ae).mono ?_;rintro h i ⟨rfl,b⟩;exact⟨am,b.os,b.tape,b.output,b.size,fun q w=>b.block q ae ae (.inl ae)⟩
theorem KI(b d k p:Nat)(e ap g h:Int)(w:World)(ao:b<65536)(E:k<65536)(F:ko d p=(k:Int)):az 71 #[.agg #[ak b,ak d,ak e,ak ap,ak g,ak h],ak p] w (aP (au (bv (ei b k 0 0 0 0))) w):=by
 obtain⟨c,o⟩:=a2 (w.alloc (.cells #[.int .i64 b,.int .i64 d,.int .i64 e,.int .i64 ap,.int .i64 g,.int .i64 h] 133));have u:f_ c w.heap.size [(b:Int),(d:Int),e,ap,g,h] 133:=by rw[o];exact World.alloc_heap_new w _
 have r:ax w c:=by rw[o];exact qx
 have t:∀a,ax c a->a.cell? (aq w.heap.size 0)=some (ak b)/\a.cell? (aq w.heap.size 1)=some (ak d)/\a.cell? (aq w.heap.size 2)=some (ak e)/\a.cell? (aq w.heap.size 3)=some (ak ap)/\a.cell? (aq w.heap.size 4)=some (ak g)/\a.cell? (aq w.heap.size 5)=some (ak h):=fun a M=>by
  have j:f_ a w.heap.size [(b:Int),(d:Int),e,ap,g,h] 133:=(M.block _ u.lt).trans u;exact⟨j.cell 0 am,j.cell 1 am,j.cell 2 am,j.cell 3 am,j.cell 4 am,j.cell 5 am⟩
 have B:=af t;have J:=af r;have N:=r.size;have K:Hid (∀a,az 132 #[.agg #[ak b,ak d,ak e,ak ap,ak g,ak h],ak p] a (aP (.agg #[ak b,ak k,ak 0,ak 0,ak 0,ak 0]) a)):=fun a=>by
  have:=Hg b d e ap g h p a
  rwa [F]at this
 have O:=t c.drew aE.drew;have n:ax c c.drew:=aE.drew;clear u r t F;go_enter func71,ntmps71;go_wp2_with fail;rw[<- o];clear o;obtain⟨W,X,Y,Z,aa,ab⟩:=O;go_region_with
  (first
   | (go_at_call 130;(refine(VD _ c.heap.size (by first|exact n.size|exact i.size)).mono ?_;rintro q G ⟨V,rfl,C,D⟩;have l:ax c G:=(by first|exact i.trans (D.mono i.size)|exact n.trans (D.mono n.size));obtain⟨P,Q,R,S,T,U⟩:=ag B G l))
   | (go_at_call 132;(refine(K _).mono ?_;rintro q H ⟨rfl,x⟩;have i:ax c H:=(by first|exact l.trans (x.mono l.size)|exact n.trans (x.mono n.size));obtain⟨P,Q,R,S,T,U⟩:=ag B H i;try have I:=C.below x))
   | (go_at_call 131;(first|(refine(KH I i.size b k ao E).mono ?_;rintro q z ⟨rfl,y⟩;have A:ax c z:=i.trans y)|(refine(KH C l.size b k ao E).mono ?_;rintro q z ⟨rfl,y⟩;have A:ax c z:=l.trans y))))
 all_goals
  have L:=af (J.trans (A.mono N));go_wp2;go_ret;exact⟨rfl,L⟩
def ce(o:ah)(rs:List aj)(T:ah)(a c:Int)(d:Bool)(b:Int):(Int×Bool×List aj×List aj)×List aj :=
 if d=true/\b≠0 then((16,false,[],[]),[])else if c≠1\/mi a=false\/T=[]then((5,false,[],[]),[])else(fj o rs a T,lG o rs a T)
theorem Vo{o:ah}(b:dQ o=true):dU [] o=false:=by have c:=(ed b).1;have d:o≠[]:=fun a=>by{subst a;exact absurd rfl (c [] (by simp[m0]))};unfold dU;rw[sU];refine⟨by simpa using d.symm,?_⟩;unfold Lib.hasSuffix;simp
theorem xh(w:World)(b:Nat)(a:Int):tZ w b (.agg #[ak a,.bool false,aJ,aJ,aJ]) (a,false,[],[]) [] :=
 ⟨_,_,_,rfl,e8 _ _ _ _,e8 _ _ _ _,e8 _ _ _ _,qz _,qz _,qz _⟩
theorem Vp(d e i h:Nat)(b:Int)(o a:ah)(rs:List aj)(w:World)(g:kG o rs)(hz:e6 w d o e i h (aS rs))(n:bT w)(q:a=[]\/gp a)(p:a.length<=260):az 69 #[aO d,au a,ak b] w fun k j=>(∃v,k=.returned v/\tZ j w.heap.size v (if a=[]then(5,false,[],[])else fj o rs b a) (if a=[]then []else lG o rs b a))/\ax w j:=by by_cases c:a=[];{subst c;have r:=(ed g.org).2;refine(KG d e i h b o [] (aS rs) w hz am ae (Vo g.org)).mono ?_;rintro k j ⟨rfl,l⟩;exact⟨⟨_,rfl,xh _ _ _⟩,l⟩};{rw[ar c,ar c];exact VB d e i h b o a rs w g hz n (q.resolve_left c) p}
theorem B6{P:Prop}(h:P:=by simp[results,results74,go_sem]):P:=h
theorem Ff{P:Prop}(h:P:=by{cases op;{exact .inl rfl};{exact .inr ⟨rfl,by simpa using fun h=>hA ⟨rfl,h⟩⟩}}):P:=h
theorem Vq(N S aw V:Nat)(k g:Int)(o a aA:ah)(Y Z aa ab ac ad:Int)(op:Bool)(aB d:Int)(rs:List aj)(w:World)(T:kG o rs)(hz:e6 w N o S aw V (aS rs))(an:bT w)(ao:a=[]\/gp a)(aG:a.length<=260):az 74 #[cP Y Z aa ab ac ad aA a k g op aB d,aO N] w fun l y=>(∃v,l=.returned v/\tZ y w.heap.size v (ce o rs a k g op d).1 (ce o rs a k g op d).2)/\ax w y:=by
 have z:=af (fun b (al:ax w b)=>Vp N S aw V k o a rs b T (hz.below al) (an.below al) ao aG);have n:=af (VC k);obtain⟨r,D⟩:∃r:Obj,r=.cells #[.int .i64 Y,.int .i64 Z,.int .i64 aa,.int .i64 ab,.int .i64 ac,.int .i64 ad,.string (ai aA),.string (ai a),.int .i64 k,.int .i64 g,.bool op,.int .i64 aB,.int .i64 d] 137:=⟨_,rfl⟩;obtain⟨q,A⟩:∃q:Obj,q=.cells #[.int .i64 0,.bool false,.slice none 0 0,.slice none 0 0,.slice none 0 0] 43:=⟨_,rfl⟩;clear hz an T ao;unfold cP;by_cases hA:op=true/\d≠0;{
 have e:ce o rs a k g op d=((16,false,[],[]),[]):=by unfold ce;rw[ay hA]
 rw[e];have K:(d != 0)=true:=by simpa using hA.2
 have aH:=hA.1;subst aH;clear hA e z n;go_enter func74,ntmps74;go_wp2_with fail;refine cc (v:=.agg #[.int .i64 16,.bool false,.slice none 0 0,.slice none 0 0,.slice none 0 0]) B6 rfl ⟨⟨_,rfl,xh _ _ _⟩,(aE.alloc av _).alloc am _⟩};by_cases t:g≠1;{
 have e:ce o rs a k g op d=((5,false,[],[]),[]):=by unfold ce;rw[ar hA,ay (.inl t)]
 rw[e];have aU:(g != 1)=true:=by simpa using t
 have J:op=false\/(op=true/\(d != 0)=false):=Ff;clear hA t e z n D A;rcases J with rfl|⟨rfl,K⟩;all_goals(go_enter func74,ntmps74;go_wp2_with fail;refine cc (v:=.agg #[.int .i64 5,.bool false,.slice none 0 0,.slice none 0 0,.slice none 0 0]) B6 rfl ⟨⟨_,rfl,xh _ _ _⟩,(aE.alloc av _).alloc am _⟩)};obtain rfl:g=1:=nJ t;have J:op=false\/(op=true/\(d != 0)=false):=Ff;cases u:mi k with
 | false =>{
 have e:ce o rs a k 1 op d=((5,false,[],[]),[]):=by unfold ce;rw[ar hA,ay (.inr (.inl u))]
 rw[e];have B:Hid (∀b:World,az 140 #[ak k] b fun l y=>l=.returned (.bool false)/\y=b):=fun b=>by have:=ag n b;rw[u]at this;exact this
 clear hA t e z n u D A;rcases J with rfl|⟨rfl,K⟩;all_goals(go_enter func74,ntmps74;go_wp2_with fail;refine(B _).mono ?_;rintro l aR ⟨rfl,rfl⟩;go_wp2_with fail;refine cc (v:=.agg #[.int .i64 5,.bool false,.slice none 0 0,.slice none 0 0,.slice none 0 0]) B6 rfl ⟨⟨_,rfl,xh _ _ _⟩,(aE.alloc av _).alloc am _⟩)}
 | true =>{
 have e:ce o rs a k 1 op d=(if a=[]then(5,false,[],[])else fj o rs k a,if a=[]then []else lG o rs k a):=by{unfold ce;rw[ar hA];by_cases h:a=[];{rw[ay (.inr (.inr h)),ay h,ay h]};{rw[ar (by rw[u];simp[h]),ar h,ar h]}};rw[e];have B:Hid (∀b:World,az 140 #[ak k] b fun l y=>l=.returned (.bool true)/\y=b):=fun b=>by have:=ag n b;rw[u]at this;exact this
 generalize (if a=[]then(5,false,[],[])else fj o rs k a)=j at *;generalize (if a=[]then []else lG o rs k a)=O at *;clear hA t e n u;rcases J with rfl|⟨rfl,K⟩;all_goals(have C:Hid (ax w ((w.alloc r).alloc q)):=(aE.alloc av _).alloc am _;have au:Hid (eM ((w.alloc r).alloc q) (w.heap.size+1) (ak 0) (.bool false) (aJ) (aJ) (aJ)):=by{have:=World.alloc_heap_new (w.alloc r) q;rw[cv]at this;unfold eM;rw[Hid,this,A]};go_enter func74,ntmps74;go_wp2_with fail;refine(B _).mono ?_;rintro l aR ⟨rfl,rfl⟩;go_wp2_with fail;rw[<- D,<- A];refine(z _ C).mono ?_;rintro l aT ⟨⟨v,rfl,a1,a2,a3,rfl,x,cK,cx,E,F,G⟩,L⟩;have ap:((w.alloc r).alloc q).heap.size=w.heap.size+2:=am;have I:eM aT (w.heap.size+1) (ak 0) (.bool false) (aJ) (aJ) (aJ):=(L.block (w.heap.size+1) ae).trans (ag au);have H:=C.trans (L.mono C.size);obtain⟨P,U,rfl⟩:=x.slice;obtain⟨Q,W,rfl⟩:=cK.slice;obtain⟨R,X,rfl⟩:=cx.slice;rw[ap]at x cK cx;have aF:=af (aQ x (aQ cK (aQ cx (aQ E (aQ F G)))));obtain⟨aV,aW,aX,aY,aZ⟩:=eM.cells I;have a0:=eM.frozen I;have aD:=af I;have aP:=af H;clear x cK cx E F G I L H C au B z ap D A;go_wp2_with fail;have aC:=((((aD.set0 (ak j.1)).set1 (.bool j.2.1)).set2 (.slice P j.2.2.1.length U)).jv (.slice Q j.2.2.2.length W)).mh (.slice R O.length X);obtain⟨aI,aK,aL,aM,aN⟩:=aC.cells;obtain⟨x,cK,cx,E,F,G⟩:=ag aF;have H:=ag aP;have c:∀ {v:Value} {aq:List aj} {b:World} (i:Nat) (M:Value),cA b (w.heap.size+2) v aq->cA (b.setCell ⟨w.heap.size+1,i,none⟩ M) (w.heap.size+2) v aq:=fun i M h=>h.nO (k:=w.heap.size+1) (i:=i) ae M;refine cc (v:=.agg #[.int .i64 j.1,.bool j.2.1,.slice P j.2.2.1.length U,.slice Q j.2.2.2.length W,.slice R O.length X]) ?_ rfl ⟨⟨_,rfl,_,_,_,rfl,?_,?_,?_,E,F,G⟩,?_⟩;{simp[results,results74,go_sem,aI,aK,aL,aM,aN]};{exact(c 4 _ (c 3 _ (c 2 _ (c 1 _ (c 0 _ x))))).base ae};{exact(c 4 _ (c 3 _ (c 2 _ (c 1 _ (c 0 _ cK))))).base ae};{exact(c 4 _ (c 3 _ (c 2 _ (c 1 _ (c 0 _ cx))))).base ae};{exact((((H.setCell (p:=⟨w.heap.size+1,0,none⟩) c9 _).setCell (p:=⟨w.heap.size+1,1,none⟩) c9 _).setCell (p:=⟨w.heap.size+1,2,none⟩) c9 _).setCell (p:=⟨w.heap.size+1,3,none⟩) c9 _).setCell (p:=⟨w.heap.size+1,4,none⟩) c9 _})}
abbrev ey:=List (List ah×Nat)
def t5(w:World)(v:Value)(a:ey):Prop:=(v=aJ/\a=[])\/∃c d,v=aF c 0 a.length d/\a.length<=d/\c<w.heap.size/\∀b (g:b<a.length),∃e,w.cell? (aq c (2*b))=some e/\eY w e a[b].1/\w.cell? (aq c (2*b+1))=some (ak (a[b].2:Nat))
theorem t5.below{w e:World}{v:Value}{es:ey}(h:t5 w v es)(a:ax w e):t5 e v es:=by rcases h with h|⟨b,g,i,j,c,k⟩;{exact iG};{refine .inr ⟨b,g,i,j,cp c a.size,fun d l=>?_⟩;obtain⟨r,n,o,q⟩:=k d l;exact⟨r,(a.cell (p:=⟨b,2*d,none⟩) c).trans n,o.below a,(a.cell (p:=⟨b,2*d+1,none⟩) c).trans q⟩}
def eI(w:World)(wb:Nat)(s:ah)(v:Value):Prop:=w.heap[wb]? = some (.cells #[.string (ai s),v] 229)
section
variable {w:World} {wb:Nat} {s:ah} {v:Value}
theorem eI.lt(h:eI w wb s v):wb<w.heap.size:=(bn.1 h).1
theorem eI.cells(a:eI w wb s v):w.cell? (aq wb 0)=some (au s)/\w.cell? (aq wb 1)=some v:=by unfold eI at a;exact⟨by simp[World.cell?,a],by simp[World.cell?,a]⟩
theorem eI.below{b:World}(a:eI w wb s v)(c:ax w b):eI b wb s v:=(c.block wb a.lt).trans a
end
def e7(b:List ah):ey->Option Nat
 | []=>none
 | a::c=>if a.1=b/\a.2<16384 then some a.2 else e7 b c
def pV(b:Option Nat):Int:=match b with
 | some a=>a
 | none=>-1
theorem Vr(wb:Nat)(s:ah)(v J:Value)(b:ey)(c:List ah)(w:World)(Y:eI w wb s v)(F:t5 w v b)(X:eY w J c)(ap:c.length<=1000)(U:∀C∈b,C.1.length<=1000/\C.2<=1000000)(T:b.length<=1000000):az 204 #[aO wb,J] w (aP (ak (pV (e7 c b))) w):=by
 obtain⟨j,E⟩:=a2 (pV (e7 c b));rw[<- E];have av:=af E;obtain⟨K,d,L,A,t⟩:∃K d L,v=.slice K d L/\Hid (d=b.length):=by{rcases F with⟨rfl,rfl⟩|⟨l,Q,rfl,_⟩;{exact⟨_,_,_,rfl,rfl⟩};{exact⟨_,_,_,rfl,rfl⟩}};have P:=af F;have N:=af Y;have aj:=af X;have al:=af U;have aD:d<=1000000:=by rw[ag t];exact T
 subst A;clear F Y X U E T;go_enter func204,ntmps204;go_wp2_with fail;go_loopw [5] (fun I wr=>∃a:Nat,I=ak a/\a<=d/\pV (e7 c (b.drop a))=j/\ax w wr) (fun I _=>d-(intOf I).toNat);case atStart=>exact⟨0,rfl,b6 _,av.symm,bk _ _⟩
 case round =>(
 obtain⟨a,rfl,W,G,n⟩:=hrel;have am:=(N.below n).cells.2;have q:=af n;have u:=af G;by_cases z:a<d;{
 have o:a<b.length:=by rw[<- ag t];exact z
 obtain⟨l,Q,A,R,V,S⟩:=((P.below n)).resolve_left (fun r=>by rw[r.2]at o;simp at o);obtain⟨O,Z,aa,ab⟩:=S a o;have H:=ag al b[a] (bM o);have ad:=af (lJ O J b[a].1 c wr aa (aj.below n) H.1 ap);have h:Hid (pV (if b[a].1=c/\b[a].2<16384 then some b[a].2 else e7 c (b.drop (a+1)))=j):=by{have:=ag u;rw[fQ o,e7]at this;exact this};obtain⟨rfl,rfl,rfl⟩:K=some ⟨l,0,none⟩/\d=b.length/\L=Q:=by simpa using A
 generalize b[a].1=an at *;generalize b[a].2=i at *;have aF:=H.2;have aC:=af R;have aH:(a:Int)<(b.length:Int):=ae;have au:wr.cell? (aq l (a*2))=some O:=by rw[mV];exact Z
 have ac:wr.cell? (aq l (a*2+1))=some (ak i):=by rw[mV];exact ab
 have ai:=af V;clear n G S aa H A R P u V;go_wp2_with fail;refine ad.mono ?_;rintro C aw ⟨rfl,y⟩;have aE:=((N.below q).below y).cells.2;have aG:aw.cell? (aq l (a*2+1))=some (ak i):=(y.cell (p:=⟨l,a*2+1,none⟩) (ag ai)).trans ac;have D:=af (q.trans (y.mono q.size));have B:=af z;clear y ad am au ac q Z o W z ab;by_cases g:an=c;{have k:=eC g;rw[k];by_cases x:i<16384;{have e:Hid ((i:Int)=j):=by{have:=ag h;rw[ay ⟨g,x⟩]at this;exact this};have aA:(i:Int)<16384:=ae;clear h k g x;go_wp2;go_ret;exact⟨bP (fun M=>Ending.returned (ak M)) (ag e),D⟩};{have e:Hid (pV (e7 c (b.drop (a+1)))=j):=by{have:=ag h;rw[ar (fun r=>x r.2)]at this;exact this};have aA:¬(i:Int)<16384:=ae;clear h k g x;go_wp2;exact⟨⟨a+1,bq,B,e,D⟩,by have:=ag B;exact gz⟩}};{have k:=eD g;rw[k];have e:Hid (pV (e7 c (b.drop (a+1)))=j):=by{have:=ag h;rw[ar (fun r=>g r.1)]at this;exact this};clear h k g;go_wp2;exact⟨⟨a+1,bq,B,e,D⟩,by have:=ag B;exact gz⟩}};{have ao:a=d:=ae;subst ao;have e:Hid ((-1:Int)=j):=by{have:=ag u;rw[ag t,kN]at this;exact this};have aB:¬(a:Int)<(a:Int):=ae;clear n G u W z t;go_wp2;go_ret;exact⟨bP (fun M=>Ending.returned (ak M)) (ag e),q⟩})
end Go.Proofs.YtkkpahmoljiepaaGreatDoor
