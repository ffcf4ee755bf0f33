import Derived.Test.YtkkpahmoljiepaaGreatDoorJ17
set_option maxRecDepth 1000000
set_option maxHeartbeats 12800000
set_option linter.unusedSimpArgs false
set_option linter.unusedVariables false
namespace Go.Proofs.YtkkpahmoljiepaaGreatDoor
open Go.RowKit Go.Proofs.Tryz
structure JB(w0 W:World)(cb lb ab:Nat)(rc:Int)(aa:Bool)(va vu vd:Value)(cs:List Nat):Prop where
 c:ft W cb (cs.map fun n:Nat=>(n:Int)) 3
 l:W.heap[lb]? = some (.cells #[va,vu,vd] 115)
 a:dM W ab rc aa va vu vd
 b:au w0 W
 hc:w0.heap.size<=cb
 hl:w0.heap.size<=lb
 ha:w0.heap.size<=ab
 ne:lb≠cb/\ab≠cb
section
variable {w0 W:World} {cb lb ab:Nat} {rc:Int} {aa:Bool} {va vu vd:Value} {cs:List Nat} (h:JB w0 W cb lb ab rc aa va vu vd cs)
include h
theorem JB.below{W':World}(hb:au W W'):JB w0 W' cb lb ab rc aa va vu vd cs :=
 ⟨(hb.block cb h.c.lt).trans h.c,(hb.block lb (bV.1 h.l).1).trans h.l,h.a.kept (hb.block ab h.a.lt),h.b.trans (hb.mono h.b.size),h.hc,h.hl,h.ha,h.ne⟩
theorem JB.set(i n:Nat)(ax:i<cs.length):JB w0 (W.setCell ⟨cb,i,none⟩ (.int .i64 (n:Int))) cb lb ab rc aa va vu vd (cs.set i n) where
 c:=by rw[SL];exact h.c.set i n
 l:=(wh W (ak cb i) lb _ h.ne.1).trans h.l
 a:=h.a.kept (wh W (ak cb i) ab _ h.ne.2)
 b:=h.b.setCell (p:=⟨cb,i,none⟩) h.hc _
 hc:=h.hc
 hl:=h.hl
 ha:=h.ha
 ne:=h.ne
end
structure Am(w0 W:World)(cb lb ab wb:Nat)(rc:Int)(aa:Bool)(va vu vd:Value)(v:Value)(st:qE)(n:Nat):Prop where
 wr:dW W wb st.S v
 ow:eR W w0.heap.size wb v st.es
 aw:JB w0 W cb lb ab rc aa va vu vd st.cs
 Yz:w0.heap.size<=wb
 sl:st.S.length<=1300
 el:st.es.length<=300+700*n
 M3:∀e∈st.es,e.1.length<=1000/\e.2<=1000000
 cl:st.cs.length=4
 cn:∀c∈st.cs,c<=2+n
 lo:12<=st.S.length
theorem Am.below{w0 W W':World}{cb lb ab wb:Nat}{rc:Int}{aa:Bool}{va vu vd v:Value}{st:qE}{n:Nat}(h:Am w0 W cb lb ab wb rc aa va vu vd v st n)(hb:au W W'):Am w0 W' cb lb ab wb rc aa va vu vd v st n :=
 ⟨h.wr.below hb,h.ow.below hb,h.aw.below hb,h.Yz,h.sl,h.el,h.M3,h.cl,h.cn,h.lo⟩
theorem Am.mono{w0 W:World}{cb lb ab wb:Nat}{rc:Int}{aa:Bool}{va vu vd v:Value}{st:qE}{n m:Nat}(h:Am w0 W cb lb ab wb rc aa va vu vd v st n)(hm:n<=m):Am w0 W cb lb ab wb rc aa va vu vd v st m :=
 ⟨h.wr,h.ow,h.aw,h.Yz,h.sl,a_ h.el ae,h.M3,h.cl,fun c hc=>a_ (h.cn c hc) ae,h.lo⟩
theorem avV{W:World}{base base' wb:Nat}{v:Value}{es:dN}(h:eR W base wb v es)(hb:base'<=base):eR W base' wb v es:=by obtain⟨xs,h0,h1,h2⟩:=h;refine⟨xs,h0,⟨h1.1,?_⟩,h2⟩;rcases h1.2 with h|⟨g,cap,cur,e,hg,hr⟩;{exact .inl h};{exact .inr ⟨g,cap,cur,e,a_ hb hg,hr⟩}
theorem avW{A B C:World}{xb:Nat}{v v':Value}(h:au A B)(hs:ed xb B v C v')(hx:A.heap.size<=xb)(hv:∀k,v.ownBlock=some k->A.heap.size<=k):au A C :=
 ⟨hs.fr.os.trans h.os,hs.fr.tape.trans h.tape,hs.fr.output.trans h.output,a_ h.size hs.fr.size,fun k hk=>(hs.fr.block k (dP hk h.size) ⟨ae,fun e=>by have:=hv k e.symm;omega⟩).trans (h.block k hk)⟩
theorem RP(GS:List (List bA))(k:Nat):(GS.take k).flatten.length<=GS.flatten.length:=by
 conv=>rhs;rw[<- j9 k GS]
 rw[List.flatten_append,bj];omega
theorem avX(GS:List (List bA))(k:Nat)(h:k<GS.length):(GS.take (k+1)).flatten.length=(GS.take k).flatten.length+GS[k].length:=by rw[gp h,List.flatten_append,bj];simp
theorem avY(w:World):aB 83 #[aj 1232] w (bQ (ay [ax 1232,bO 1232]) w):=Af 1232 w ae
theorem avZ(s qs:ah)(qn:List ah)(nv:Value)(ty cl:Int)(op:Bool)(sz:Nat)(aU:Int)(rc:Nat)(aa:Bool)(va vu vd:Value)(xa bL xd:List bA)(w:World)(hs:12<=s.length)(hl:s.length<=2000000)(hq:MW w nv qn)(YA:qs.length<=1000)(aib:jW qn<=300)(Cm:∀x∈qn,x.length<=255)(qy:rc<4096)(hsz:sz<65536)
  (ra:gY w va xa) (M5:gY w vu bL) (rd:gY w vd xd) (f_:∀x∈xa++(bL++xd),en w x.1 x.2.2.2/\en w x.2.1 (az 32 x.2.2.1.data)) (bq:∀x∈xa++(bL++xd),Jv x) (HR:xa.length<=100) (aed:bL.length<=100) (UQ:xd.length<=100) (hne:xa++(bL++xd)≠[]->qn≠[]) :
  aB 78 #[ay s,.agg #[ay qs,nv,aj ty,aj cl,.bool op,aj sz,aj aU],.agg #[aj rc,.bool aa,va,vu,vd]] w fun e w' =>
   e=.returned (ay (G3 s qs qn op sz rc aa [xa,bL,xd]))/\au w w':=by
 obtain⟨ga,ka,rU⟩:∃a c,va=.slice a xa.length c:=by rcases ra with⟨h,e⟩|⟨_,_,_,h,_⟩;exact⟨none,0,by rw[h,e];rfl⟩;exact⟨_,_,h⟩
 obtain⟨Ao,xu,Yu⟩:∃a c,vu=.slice a bL.length c:=by rcases M5 with⟨h,e⟩|⟨_,_,_,h,_⟩;exact⟨none,0,by rw[h,e];rfl⟩;exact⟨_,_,h⟩
 obtain⟨gd,kd,ue⟩:∃a c,vd=.slice a xd.length c:=by rcases rd with⟨h,e⟩|⟨_,_,_,h,_⟩;exact⟨none,0,by rw[h,e];rfl⟩;exact⟨_,_,h⟩
 obtain⟨gn,ln,kn,pR⟩:∃a n c,nv=.slice a n c:=by rcases hq with⟨_,h⟩|⟨_,_,_,h,_⟩ <;> exact⟨_,_,_,h⟩
 have M6:=ag hq;have uZ:=ag ra;have Yy:=ag M5;have zF:=ag rd;have jG:=ag f_;have cF:=ag bq;have RJ:=ag Cm;have p2:=ag hne;clear hq ra M5 rd f_ bq Cm hne;subst rU Yu ue pR;obtain⟨dV,nL⟩:∃dV:Obj,dV=.cells #[.string (aq qs),.slice gn ln kn,.int .i64 ty,.int .i64 cl,.bool op,.int .i64 sz,.int .i64 aU] 144:=⟨_,rfl⟩
 obtain⟨dp,lC⟩:∃dp:Obj,dp=.cells #[.int .i64 rc,.bool aa,.slice ga xa.length ka,.slice Ao bL.length xu,.slice gd xd.length kd] 123:=⟨_,rfl⟩
 have gN:Hid (au w ((w.alloc dV).alloc dp)):=(aO.alloc aA _).alloc ar _;have hs0:((w.alloc dV).alloc dp).heap.size=w.heap.size+2:=ar;have vK:((w.alloc dV).alloc dp).heap[w.heap.size]? = some (.cells #[.string (aq qs),.slice gn ln kn,.int .i64 ty,.int .i64 cl,.bool op,.int .i64 sz,.int .i64 aU] 144):=by
  rw[<- nL];exact(cD (w.alloc dV) dp w.heap.size ar).trans (World.alloc_heap_new w dV)
 have yO:dM ((w.alloc dV).alloc dp) (w.heap.size+1) rc aa (.slice ga xa.length ka) (.slice Ao bL.length xu) (.slice gd xd.length kd):=by
  have:=World.alloc_heap_new (w.alloc dV) dp;rw[dD]at this;unfold dM;rw[this,lC]
 have sU:=ag vK;have zn:=ag yO;clear vK yO;obtain⟨rD,aic⟩:=bF (Ew op sz);obtain⟨Ap,aid⟩:=bF (rB op rc);have xj:=ag (bg aic aid);clear aic aid;go_enter func78,ntmps78
 go_upto_if 20 with fail
 rw[<- nL,<- lC];obtain⟨w1,hw1⟩:∃w1,(w.alloc dV).alloc dp=w1:=⟨_,rfl⟩
 rw[hw1]at gN hs0 sU zn ⊢;have hs1:w.heap.size+2<=w1.heap.size:=ae;clear hw1 nL lC hs0
 go_cut [7,8]from 21 to 33 (fun v7 v8 wx=>v7=aj rD/\v8=ay Ap/\Hid (au w1 wx))
 case first =>
  have hQ:=af sU;have q5:w1.cell? (ak w.heap.size 5)=some (aj sz):=by simp[World.cell?,hQ]
  have a0:=zn.cells.1;cases op with
  | false =>
   have hm:rD=512/\Ap = []:=by rw[xj.1,xj.2];exact⟨rfl,rfl⟩
   clear hQ q5 a0;go_wp2_with fail;go_meet
   case rel=>exact⟨by rw[hm.1];rfl,by rw[hm.2];rfl,bR _ _⟩
  | true =>
   have hm:((rD:Nat):Int)=max 512 (min (sz:Int) 1232)/\Ap=Yk rc:=by
    rw[xj.1,xj.2];refine⟨?_,rfl⟩;show((max 512 (min sz 1232):Nat):Int)=_;omega
   have aie:w1.drew.cell? (ak (w.heap.size+1) 0)=some (aj rc):=a0;obtain⟨u,hu⟩:∃u:UInt8,u=UInt8.ofNat (rc/16):=⟨_,rfl⟩
   obtain⟨m6,Ad⟩:=bF (rc/16);have j1:(rc:Int)/16=(m6:Int):=ae;have j2:IntKind.u8.wrap (m6:Int)=(u.toNat:Int):=by rw[AB,hu,lJ];omega
   have j3:IntKind.i64.wrap (m6:Int)=(m6:Int):=by rw[fF];omega
   have YB:Ap = [0,0,41]++[ax 1232,bO 1232]++[u,0,0,0,0,0]:=by rw[hm.2,hu];rfl
   have aBl:=ag YB;have hM:=hm.1;have av0:=ag hM;have aBm:(convert 58 9 (aD w1.heap.size 0 6 6)).run prog (w1.alloc (.cells #[.int .u8 u.toNat,.int .u8 0,.int .u8 0,.int .u8 0,.int .u8 0,.int .u8 0] 5)).drew=.ok (ay [u,0,0,0,0,0]) (w1.alloc (.cells #[.int .u8 u.toNat,.int .u8 0,.int .u8 0,.int .u8 0,.int .u8 0,.int .u8 0] 5)).drew:=ahW [u,0,0,0,0,0] 6 rfl (by simp[maxLen]) (World.alloc_heap_new w1 _);have av1:(w1.alloc (.cells #[.int .u8 u.toNat,.int .u8 0,.int .u8 0,.int .u8 0,.int .u8 0,.int .u8 0] 5)).drew.cell? (ak (w.heap.size+1) 0)=some (aj rc):=(dh (a:=⟨w.heap.size+1,0,none⟩) (cD w1 _ (w.heap.size+1) ae)).trans a0;have z6:(aq [u,0,0,0,0,0]).size=6:=rfl;have z2:(aq [ax 1232,bO 1232]).size=2:=rfl;have z3:ByteArray.size ⟨#[0,0,41]⟩=3:=rfl;have k1:(⟨#[0,0,41]⟩:ByteArray)++aq [ax 1232,bO 1232]=aq [0,0,41,ax 1232,bO 1232]:=rfl;have z5:(aq [0,0,41,ax 1232,bO 1232]).size=5:=rfl;have k2:aq [0,0,41,ax 1232,bO 1232]++aq [u,0,0,0,0,0]=aq Ap:=by rw[YB];exact kU _ _
   clear hQ hu Ad hm YB hM;go_wp2_with fail;go_region_with (go_at_call 83;refine(avY _).mono ?_;rintro e w2 ⟨rfl,hb2⟩;have aBn:w2.cell? (ak (w.heap.size+1) 0)=some (aj rc):=(hb2.cell (p:=⟨w.heap.size+1,0,none⟩) (by show w.heap.size+1<_;simp;omega)).trans (by first|exact aie|exact av1);have aBo:(convert 58 9 (aD w2.heap.size 0 6 6)).run prog (w2.alloc (.cells #[.int .u8 u.toNat,.int .u8 0,.int .u8 0,.int .u8 0,.int .u8 0,.int .u8 0] 5))=.ok (ay [u,0,0,0,0,0]) (w2.alloc (.cells #[.int .u8 u.toNat,.int .u8 0,.int .u8 0,.int .u8 0,.int .u8 0,.int .u8 0] 5)):=Gr w2 [u,0,0,0,0,0] 6 rfl (by simp[maxLen]);try have aBp:(convert 58 9 (aD w1.heap.size 0 6 6)).run prog w2=.ok (ay [u,0,0,0,0,0]) w2:=ahW [u,0,0,0,0,0] 6 rfl (by simp[maxLen]) ((hb2.block w1.heap.size ar).trans (World.alloc_heap_new w1 _)))
   all_goals
    go_wp2_with fail;go_meet
    case rel =>
     refine⟨dE (Value.int .i64) av0.symm,rfl,?_⟩
     first
      | exact(aO.drew).trans (hb2.alloc hb2.size _)
      | exact((aO.alloc aA _).drew).trans (hb2.mono ar)
 case rest =>
  obtain⟨rfl,rfl,bU⟩:=hcut;generalize wc=w2 at *;have hb2:=af bU;have hs2:=hb2.size;have YC:w2.heap[w.heap.size]? = _:=(hb2.block w.heap.size ae).trans (af sU);have q1:w2.cell? (ak w.heap.size 1)=some (.slice gn ln kn):=by simp[World.cell?,YC]
  have wR:=zn.kept (hb2.block (w.heap.size+1) ae);have ju:=ag YC;have aif:=ag wR;have Jo:=gN.trans (hb2.mono ae);have YD:=ag Jo;obtain⟨ol,gX⟩:=bF Ap.length;have aBq:(aq Ap).size=ol:=by rw[bJ,gX]
  have aBr:ol<=11:=by
   rw[gX,xj.2];unfold rB;split
   ·exact bH _
   ·simp
  have aBs:512<=rD/\rD<=1232:=by
   rw[xj.1];unfold Ew;split <;> omega
  obtain⟨JC,yT⟩:∃JC:Obj,JC=.cells #[.string (aq eB),.slice none 0 0] 229:=⟨_,rfl⟩
  have av2:jW qn<=300:=aib;have RI:qn.length<=300:=a_ (Eu qn) aib;have hW2:dW (w2.alloc JC) w2.heap.size eB (aH):=by unfold dW;rw[World.alloc_heap_new,yT]
  have xW:au w2 (w2.alloc JC):=aO.alloc aA _;have aih:=ag (avt w2.heap.size w.heap.size eB (aH) [] (.slice gn ln kn) qn w (w2.alloc JC) (af M6) (Jo.trans (xW.mono Jo.size)) ae (fun k hk=>by cases hk) hW2 (eR.nil _ _ _) aP RI (af RJ) bD (fun e he=>by cases he) ar);have pW:=ag gX;have av3:(w2.alloc (.cells #[.string ⟨#[116,119,101,108,118,101,32,98,121,116,101,115]⟩,.slice none 0 0] 229)).cell? (ak w.heap.size 1)=some (.slice gn ln kn):=(dh (a:=⟨w.heap.size,1,none⟩) (cD w2 _ w.heap.size ae)).trans q1;clear hb2 wR YC Jo gX av2 bU gN sU zn;go_wp2_with fail;have aii:Obj.cells #[.string ⟨#[116,119,101,108,118,101,32,98,121,116,101,115]⟩,.slice none 0 0] 229=JC:=yT.symm;rw[aii];refine aih.mono ?_;rintro e w3 ⟨rfl,v3,RQ,aij,xx⟩;have hs3:=xx.fr.size;rw[dD]at hs3;have tK:∀k,k<w2.heap.size->w3.heap[k]? = w2.heap[k]?:=fun k hk=>(xx.fr.block k aP ⟨ae,fun e=>by cases e⟩).trans (xW.block k hk);have aik:=(tK w.heap.size ae).trans (af ju);have q0:w3.cell? (ak w.heap.size 0)=some (ay qs):=by simp[World.cell?,aik]
  have BH:=aif.kept (tK (w.heap.size+1) ae);have ig:au w w3:=YD.trans ⟨xx.fr.os.trans xW.os,xx.fr.tape.trans xW.tape,xx.fr.output.trans xW.output,ae,fun k hk=>tK k (by have:=YD.size;omega)⟩;have YE:=yN RQ aij (ed.refl _ _ _) aO (eB++qs);have hv3:∀k,v3.ownBlock=some k->w.heap.size+2<=k:=fun k hk=>by
   rcases xx.ob k hk with h|h
   ·cases h
   ·rw[dD]at h;omega
  have JD:=BH.kept (w':=w3.setCell ⟨w2.heap.size,0,none⟩ (.string (aq (eB++qs)))) (wh w3 (ak w2.heap.size 0) (w.heap.size+1) _ (by show w.heap.size+1≠w2.heap.size;omega));have gH:=ig.setCell (p:=⟨w2.heap.size,0,none⟩) (by show w.heap.size<=w2.heap.size;omega) (ay (eB++qs));have kt:(⟨#[116,119,101,108,118,101,32,98,121,116,101,115]⟩:ByteArray)++aq qs=aq (eB++qs):=kU eB qs;have Xb:ByteArray.size ⟨#[116,119,101,108,118,101,32,98,121,116,101,115]⟩=12:=rfl;have av4:(aq qs).size<=1000:=by rw[bJ];exact YA
  have hf3:=RQ.frozen;obtain⟨YF,M7⟩:=RQ.cells;obtain⟨a0,a1,a2,a3,a4⟩:=JD.cells;obtain⟨xD,ail⟩:∃o,o=ol/11:=⟨_,rfl⟩
  have j11:(ol:Int)/11=(xD:Int):=ae;have j12:IntKind.i64.wrap (xD:Int)=(xD:Int):=by rw[fF];omega
  have j13:(ol:Int).tdiv 11=(xD:Int):=by rw[ZN ae];exact j11
  have vq:Hid (((bB qn eB []).2).length<=300/\∀e∈(bB qn eB []).2,e.1.length<=1000/\e.2<=1000000):=by
   have h1:=Ev qn eB [];refine⟨by simp at h1;omega,RD qn eB [] (by show 12+jW qn<=1000000;omega) ae (fun e he=>by cases he)⟩
  have aim:Hid (∀(pK vP:Obj),pK=.cells #[.int .i64 1,.int .i64 0,.int .i64 0,.int .i64 xD] 3->vP=.cells #[.slice ga xa.length ka,.slice Ao bL.length xu,.slice gd xd.length kd] 115 ->
    Am w (((w3.setCell ⟨w2.heap.size,0,none⟩ (.string (aq (eB++qs)))).alloc pK).alloc vP) w3.heap.size (w3.heap.size+1) (w.heap.size+1) w2.heap.size rc aa (.slice ga xa.length ka) (.slice Ao bL.length xu) (.slice gd xd.length kd) v3 ⟨eB++qs,(bB qn eB []).2,[1,0,0,xD],false,false⟩ 0):=fun pK vP M8 M9=>by
   have hsz:(w3.setCell ⟨w2.heap.size,0,none⟩ (.string (aq (eB++qs)))).heap.size=w3.heap.size:=ar;have hb5:Below (w3.setCell ⟨w2.heap.size,0,none⟩ (.string (aq (eB++qs)))).heap.size (w3.setCell ⟨w2.heap.size,0,none⟩ (.string (aq (eB++qs)))) (((w3.setCell ⟨w2.heap.size,0,none⟩ (.string (aq (eB++qs)))).alloc pK).alloc vP):=(aO.alloc aA _).alloc ar _;refine⟨YE.1.below hb5,YE.2.1.below hb5,⟨?_,?_,JD.kept (hb5.block _ (by rw[hsz];omega)),gH.trans (hb5.mono gH.size),ae,ae,ae,ae,ae⟩,ae,by show(eB++qs).length<=1300;rw[bj];show 12+qs.length<=1300;omega,vq.1,vq.2,rfl,fun c hc=>?_,by show 12<=(eB++qs).length;rw[bj];show 12<=12+qs.length;omega⟩
   ·have h1:(((w3.setCell ⟨w2.heap.size,0,none⟩ (.string (aq (eB++qs)))).alloc pK).alloc vP).heap[w3.heap.size]? = some pK:=by
     have h0:=World.alloc_heap_new (w3.setCell ⟨w2.heap.size,0,none⟩ (.string (aq (eB++qs)))) pK;rw[hsz]at h0;exact(cD ((w3.setCell ⟨w2.heap.size,0,none⟩ (.string (aq (eB++qs)))).alloc pK) vP w3.heap.size ar).trans h0
    unfold ft;rw[h1,M8];rfl
   ·have:=World.alloc_heap_new ((w3.setCell ⟨w2.heap.size,0,none⟩ (.string (aq (eB++qs)))).alloc pK) vP;rw[dD,hsz]at this;rw[this,M9]
   ·simp only[ei,vX,tk]at hc;rcases hc with rfl|rfl|rfl|rfl <;> omega
  clear RQ aij xx tK aik BH YE JD ig gH hW2 xW aih ju aif YD vq aii yT j13;have ho1:xD<=1:=ae;have av5:=ag ail;clear ail;have RR:∀(pK:Obj) (i:Nat),((w3.setCell ⟨w2.heap.size,0,none⟩ (.string (aq (eB++qs)))).alloc pK).cell? (ak (w.heap.size+1) i)=(w3.setCell ⟨w2.heap.size,0,none⟩ (.string (aq (eB++qs)))).cell? (ak (w.heap.size+1) i):=fun pK i=>dh (a:=⟨w.heap.size+1,i,none⟩) (cD _ _ (w.heap.size+1) aP);have b2:=(RR (.cells #[.int .i64 1,.int .i64 0,.int .i64 0,.int .i64 xD] 3) 2).trans a2;have b3:=(RR (.cells #[.int .i64 1,.int .i64 0,.int .i64 0,.int .i64 xD] 3) 3).trans a3;have b4:=(RR (.cells #[.int .i64 1,.int .i64 0,.int .i64 0,.int .i64 xD] 3) 4).trans a4;clear RR a0 a1 a2 a3 a4;go_wp2_with fail;obtain⟨pK,M8⟩:∃pK:Obj,pK=.cells #[.int .i64 1,.int .i64 0,.int .i64 0,.int .i64 xD] 3:=⟨_,rfl⟩
  obtain⟨vP,M9⟩:∃vP:Obj,vP=.cells #[.slice ga xa.length ka,.slice Ao bL.length xu,.slice gd xd.length kd] 115:=⟨_,rfl⟩
  rw[<- M8,<- M9];have ain:=ag (aim pK vP M8 M9);have gj:w3.heap.size+2<=(((w3.setCell ⟨w2.heap.size,0,none⟩ (.string (aq (eB++qs)))).alloc pK).alloc vP).heap.size:=ar;clear aim b2 b3 b4 M8 M9;generalize ((w3.setCell ⟨w2.heap.size,0,none⟩ (.string (aq (eB++qs)))).alloc pK).alloc vP=w4 at *;obtain⟨cb,hcb⟩:=bF w3.heap.size;obtain⟨ST0,M_⟩:∃st:qE,st=⟨eB++qs,(bB qn eB []).2,[1,0,0,xD],false,false⟩:=⟨_,rfl⟩
  obtain⟨ab,hab⟩:=bF (w.heap.size+1);rw[<- hcb,<- hab,<- M_]at ain;have fX:Hid (Jw qs qn op sz rc [xa,bL,xd]=xC rD ol 0 [xa,bL,xd] ST0):=by
   unfold Jw;rw[Hid,<- xj.1,<- xj.2,<- af pW,<- af av5,<- M_]
  obtain⟨FIN,GM⟩:∃F,xC rD ol 0 [xa,bL,xd] ST0=F:=⟨_,rfl⟩
  have Ge:=ag GM;rw[GM]at fX;rw[<- hcb,<- hab];have DL:(Value.bool false)=.bool ST0.tc/\(Value.bool false)=.bool ST0.full:=by rw[M_];exact⟨rfl,rfl⟩
  have zY:=ag DL;have aBt:w.heap.size+3<=cb/\cb+2<=w4.heap.size:=ae;have aee:w.heap.size<=ab/\ab<cb:=ae;have Mt:Hid (xa++(bL++xd)≠[]->ST0.es≠[]):=fun h=>by
   have hq:=af p2 h;rw[M_];show(bB qn eB []).2≠[];cases qn with
   | nil=>exact absurd rfl hq
   | cons x t =>
    rw[yM ee];intro he;have:=(Ev t (eB++(UInt8.ofNat x.length :: x)) ([]++[(cC (x :: t),eB.length)])).2.2.1;rw[he]at this;simp at this
  clear M_ hcb hab GM DL YF M7 q0 q1 av3 hf3 kt Xb av4 j11 j12 hv3;have aio:∀i,i<3->∃(a:Option Addr) (n k:Nat) (x:List bA),[Value.slice ga xa.length ka,.slice Ao bL.length xu,.slice gd xd.length kd][i]? = some (.slice a n k)/\[xa,bL,xd].drop i=x :: [xa,bL,xd].drop (i+1)/\gY w (.slice a n k) x/\x.length<=100/\(∀y∈x,y∈xa++(bL++xd))/\n=x.length:=fun i ax=>by
   match i,ax with
   | 0,_=>exact⟨ga,_,ka,xa,rfl,rfl,uZ,HR,fun y hy=>by simp[hy],rfl⟩
   | 1,_=>exact⟨Ao,_,xu,bL,rfl,rfl,Yy,aed,fun y hy=>by simp[hy],rfl⟩
   | 2,_=>exact⟨gd,_,kd,xd,rfl,rfl,zF,UQ,fun y hy=>by simp[hy],rfl⟩
  have av6:=ag aio;clear aio
  go_loopw [9,11,12,14] (fun wv tv fv iv wr=>∃(i wb:Nat) (v:Value) (st:qE),wv=aM wb/\tv=.bool st.tc/\fv=.bool st.full/\iv=aj i/\i<=3/\Hid (Am w wr cb (cb+1) ab wb rc aa (.slice ga xa.length ka) (.slice Ao bL.length xu) (.slice gd xd.length kd) v st (100*i))/\Hid (xC rD ol i ([xa,bL,xd].drop i) st=FIN)/\Hid (xa++(bL++xd)≠[]->st.es≠[])/\cb+2<=wr.heap.size) (fun _ _ _ iv _=>3 - (intOf iv).toNat)
  case atStart=>exact⟨0,w2.heap.size,v3,ST0,rfl,zY.1,zY.2,rfl,ae,ain,Ge,Mt,ae⟩
  case round =>
   obtain⟨i,wb,v,st,rfl,rfl,rfl,rfl,ax,eG,ej,bf,hcw⟩:=hrel;by_cases Bh:i<3
   ·have Ib:(i:Int)<3:=ae;obtain⟨la,aBu,lk,fD,e1,e2,hrow,g_,Na,rfl⟩:=af av6 i Bh;have mz:=af eG;have hlc:wr.cell? (ak (cb+1) i)=some (.slice la fD.length lk):=by
     have:=mz.aw.l;unfold World.cell?;rw[this]
     match i,Bh,e1 with
     | 0,_,e1=>simpa using e1
     | 1,_,e1=>simpa using e1
     | 2,_,e1=>simpa using e1
    have hrow':gY wr (.slice la fD.length lk) fD:=hrow.below mz.aw.b;have LM:=ag (avv (.slice la fD.length lk) fD wr hrow' (fun x hx=>⟨(jG x (Na x hx)).1.below mz.aw.b,(jG x (Na x hx)).2.below mz.aw.b,by
     have h1:=(cF x (Na x hx)).sum;have h2:=Eu x.2.2.2;omega⟩) ae)
    have av7:=ag Na;have oq:=ag e2;clear mz hrow hrow' e1 e2 Na;go_wp2_with fail;refine LM.mono ?_;rintro e w5 ⟨lv,rfl,RS,hb5⟩;have hs5:=hb5.size;have aip:=ag (eG.below hb5);obtain⟨GS,Nb⟩:∃GS,gP fD=GS:=⟨_,rfl⟩
    rw[Nb]at RS;obtain⟨aBv,av8,hlv⟩:∃a c,lv=.slice a GS.length c:=by
     rcases RS with⟨h,h0⟩|⟨g,cap,h,_⟩
     ·exact⟨none,0,by rw[h,h0];rfl⟩
     ·exact⟨_,_,h⟩
    subst hlv;have F0:=ag RS;have Nc:=ag Nb;have aBw:GS.length<=100:=by rw[<- Nb];exact a_ (avr fD) g_
    obtain⟨ST1,GN⟩:∃s,o5 rD ol i GS st=s:=⟨_,rfl⟩
    have aiq:=ag GN;have wC:Hid (xC rD ol (i+1) ([xa,bL,xd].drop (i+1)) ST1=FIN):=by
     have:=af ej;rw[af oq,xC,Nb,GN]at this;exact this
    obtain⟨sb,IV⟩:=bF wr.heap.size;rw[<- IV]at F0;have aBx:cb+2<=sb/\sb<=w5.heap.size:=ae;clear RS hb5 LM eG ej oq Nb GN hlc IV;generalize wr=aBy at *;go_wp2_with fail
    go_loopw [9,11,12,16] (fun wv tv fv iv wr=>∃(k wb:Nat) (v:Value) (st:qE),wv=aM wb/\tv=.bool st.tc/\fv=.bool st.full/\iv=aj k/\k<=GS.length/\Hid (Am w wr cb (cb+1) ab wb rc aa (.slice ga xa.length ka) (.slice Ao bL.length xu) (.slice gd xd.length kd) v st (100*i+(GS.take k).flatten.length))/\Hid (o5 rD ol i (GS.drop k) st=ST1)/\Hid (xa++(bL++xd)≠[]->st.es≠[])/\Hid (bn (fun q=>q≠cb) w5 wr)) (fun _ _ _ iv _=>GS.length - (intOf iv).toNat)
    case atStart=>exact⟨0,wb,v,st,rfl,rfl,rfl,rfl,ae,aip.mono ae,aiq,bf,bn.refl _ _⟩
    case round =>
     clear aip bf aiq;obtain⟨k,wb,v,st,rfl,rfl,rfl,rfl,hk,eG,pX,bf,nU⟩:=hrel;have DZ:=nU.size;by_cases hc:k<GS.length/\st.full=false
     ·obtain⟨fJ,Cg⟩:=hc;have rR:(k:Int)<(GS.length:Int):=ae;have av9:=F0.fr nU (fun q hq=>ae);rcases av9 with⟨_,h0⟩|⟨YG,lc,hlv,hlc,av_,aBz,nB⟩
      ·rw[h0]at fJ;simp at fJ
      obtain⟨rfl,-,rfl⟩:=mS hlv;obtain⟨air,u,hu,RT,G2⟩:=nB k fJ;have hdr:GS.drop k=GS[k] :: GS.drop (k+1):=ko fJ;have YH:=avX GS k fJ;have kL:=RP GS (k+1);rw[show GS.flatten=fD by rw[<- af Nc];exact MV fD]at kL;have ja:=RP GS k;rw[show GS.flatten=fD by rw[<- af Nc];exact MV fD]at ja;have vz:∀y∈GS[k],y∈xa++(bL++xd):=fun y hy=>af av7 y (MT fD GS[k] (by rw[af Nc];exact cM fJ) y hy);obtain⟨g,hg⟩:∃g,GS[k]=g:=⟨_,rfl⟩
      rw[hg]at air RT hdr YH vz;obtain⟨ua,uc,RU⟩:∃a c,u=.slice a g.length c:=by
       rcases RT with⟨h,h0⟩|⟨_,_,_,h,_⟩
       ·exact⟨none,0,by rw[h,h0];rfl⟩
       ·exact⟨_,_,h⟩
      subst RU;have hne:st.es≠[]:=af bf (fun h=>by
       cases g with
       | nil=>exact air rfl
       | cons y t=>have:=vz y ar;rw[h]at this;cases this)
      have mz:=af eG;have hel:=mz.el;have Mn:=ag (atF wb w.heap.size st.S v st.es wr mz.wr mz.ow hne ae);have Q9:=ag (bg hu (bg RT G2));have ais:=ag vz;have ait:=ag hdr;have YI:=ag (bg YH kL);have np:g.length<=100:=ae;clear nB hu RT G2 vz hdr YH kL mz hlv hel hne hg;go_wp2_with fail;refine Mn.mono ?_;rintro e w6 ⟨xb,vx,rfl,hxb,hwx,YJ,dR⟩;have awa:=eG.below dR;have aiu:Hid (dW w6 xb st.S vx/\eR w6 w.heap.size xb vx st.es):=⟨hwx,avV YJ eG.aw.b.size⟩
      have aiv:Hid (∀q,vx.ownBlock=some q->wr.heap.size<=q):=fun q hq=>(YJ.lt q hq).1;have hP:=ag dR;have sk:=dR.size;have vE:=eG.aw.b.size;have aiw:Hid (∀y∈g,Jv y):=fun y hy=>af cF y (ais y hy);clear hwx YJ dR awa Mn;generalize wr=awb at *;go_wp2_with fail
      go_loopw [18] (fun iv wr=>∃(j:Nat) (v':Value),iv=aj j/\j<=g.length/\Hid (dW wr xb (jk (g.take j) st.S st.es).1 v'/\eR wr w.heap.size xb v' (jk (g.take j) st.S st.es).2/\ed xb w6 vx wr v')) (fun iv _=>g.length - (intOf iv).toNat)
      case atStart=>exact⟨0,vx,rfl,ae,by rw[vZ];exact aiu.1,by rw[vZ];exact aiu.2,ed.refl _ _ _⟩
      case round =>
       obtain⟨j,v',rfl,hj,gG⟩:=hrel;have EA:=avW (af hP) gG.2.2 hxb (af aiv);have fk:=EA.size;have awc:wr.cell? (ak YG k)=some (.slice ua g.length uc):=(EA.cell (p:=⟨YG,k,none⟩) av_).trans Q9.1;have dt:k<av8:=ae;have Nd:=ag EA;have aBA:=a_ eG.aw.b.size EA.size;have hv':∀q,v'.ownBlock=some q->awb.heap.size<=q:=fun q hq=>by
        rcases gG.2.2.ob q hq with h|h
        ·exact aiv q h
        ·omega
       have EB:=ahQ (g.take j) (fun y hy=>af aiw y (Az hy)) st.S st.es;have Ff:(g.take j).length<=100:=by rw[gD];omega
       have awd:=eG.sl;have awe:=eG.el;by_cases kM:j<g.length
       ·have awf:(j:Int)<(g.length:Int):=ae;have awg:=Q9.2.1.below EA;rcases awg with⟨_,h0⟩|⟨gg,off,gc,RU,P1,avy,aix⟩
        ·rw[h0]at kM;simp at kM
        obtain⟨rfl,-,rfl⟩:=mS RU;obtain⟨gu,d1,d2,d3,d4⟩:=aix j kM;obtain⟨n1,n2⟩:=af jG g[j] (ais g[j] (cM kM));have EC:=af aiw g[j] (cM kM);have Yn:=ag (avo g j kM st.S st.es);obtain⟨x,hx⟩:∃x,g[j]=x:=⟨_,rfl⟩
        rw[hx]at gu d1 d2 d3 d4 n1 n2 EC Yn;obtain⟨vo,dS,r,ls⟩:=x;simp only at gu d1 d2 d3 d4 n1 n2;obtain⟨go,oo,oc,rfl,oO,Gz⟩:=n1;obtain⟨gw,ow,wc',rfl,hwc,YK⟩:=n2;have hgo:=Gz.1;have vk:=YK.1;have ij:=eG.aw.b.trans (EA.mono vE);have uV:=ag (auJ xb w.heap.size (jk (g.take j) st.S st.es).1 v' (jk (g.take j) st.S st.es).2 r go oo oc gw ow wc' ls wr gG.1 gG.2.1 (Gz.below ij) oO ae (fun e=>by have:=hv' go e.symm;omega) (YK.below ij) hwc ae (fun e=>by have:=hv' gw e.symm;omega) ae EC.ne (a_ (Eu ls) EC.sum) EC.lab EC.dat EC.aG EC.len ae (EB.2.2.2 ae eG.M3) ae);have aiy:=ag gG.2.2;generalize kQ:(az 32 r.data).length=dl at *;clear aix hx EC EB Gz YK ij EA RU;go_wp2_with fail;refine uV.mono ?_;rintro e w7 ⟨rfl,v7,k1,k2,k3⟩;have awh:Hid (dW w7 xb (jk (g.take (j+1)) st.S st.es).1 v7/\eR w7 w.heap.size xb v7 (jk (g.take (j+1)) st.S st.es).2/\ed xb w6 vx w7 v7):=by rw[Hid,af Yn];exact⟨k1,k2,aiy.trans k3⟩
        clear k1 k2 k3 uV aiy;go_wp2;exact⟨⟨j+1,v7,bW,ae,awh⟩,c5⟩
       ·obtain rfl:j=g.length:=ae;have awf:¬(g.length:Int)<(g.length:Int):=ae;have hJ:=af gG;rw[pd aA]at hJ EB Ff;obtain⟨uu,RV⟩:∃N,jk g st.S st.es=N:=⟨_,rfl⟩
        rw[RV]at hJ EB;obtain⟨aBB,aBC⟩:=hJ.1.cells;have YL:=ag hJ;obtain⟨nl,hnl⟩:=bF uu.1.length;have aBD:(aq uu.1).size=nl:=by rw[bJ,hnl]
        have aBE:nl<=80000:=ae;have aBF:IntKind.i64.wrap ((nl:Int)+(ol:Int))=(nl:Int)+(ol:Int):=by rw[fF];omega
        have awi:=ag (EB.2.2.2 ae eG.M3);have Jg:=ag EB.2.2.1;have awj:=ag EB.1;have awk:Hid (st.es.length<=uu.2.length):=by rw[Hid,<- RV];exact ahT g st.S st.es
        have Eb:=ag hnl;have YM:=ag RV;clear hJ hnl RV EB EA;by_cases hbig:rD<nl+ol
        ·have Bg:(rD:Int)<(nl:Int)+(ol:Int):=ae;have jQ:Hid (ST1 = { st with tc:=decide (i<2),full:=true }):=by
          have:=af pX;rw[af ait,ahU Cg (by rw[af YM,<- af Eb];exact hbig)]at this;exact this.symm
         have awl:=ag ((eG.below Nd).mono (m:=100*i+(GS.take (k+1)).flatten.length) (by have:=YI.1;omega));have JE:Hid (bn (fun q=>q≠cb) w5 wr):=nU.trans (bn.uM (af Nd));have awm:IntKind.i64.wrap ((k:Int)+1)=((k+1:Nat):Int):=by rw[fF];omega
         go_wp2_with fail;refine⟨⟨k+1,wb,v,{ st with tc:=decide (i<2),full:=true },rfl,dE Value.bool (decide_eq_decide.2 ae),rfl,bW,ae,?_,?_,bf,JE⟩,c5⟩
         ·have h:=af awl;exact⟨h.wr,h.ow,h.aw,h.Yz,h.sl,h.el,h.M3,h.cl,h.cn,h.lo⟩
         ·rw[Hid,Yj rfl];exact jQ.symm
        ·have Bg:¬(rD:Int)<(nl:Int)+(ol:Int):=ae;have JF:=eG.below Nd;have hcl:=JF.cl;have Cl:i+1<st.cs.length:=ae;obtain⟨cc,hcc⟩:=bF (st.cs[i+1]);have aBG:cc<=1000:=by
          have:=JF.cn cc (by rw[hcc];exact cM Cl);have:=YI.2;have:=RP GS k;rw[show GS.flatten=fD by rw[<- af Nc];exact MV fD]at this;omega
         have hcell:wr.cell? (ak cb (i+1))=some (aj cc):=by
          have:=JF.aw.c.cell (i+1) (by rw[bY];exact Cl);rw[vW]at this;rw[hcc];exact this
         have aiz:=JF.aw.c.frozen (i+1);have Ba:Hid (o5 rD ol i (GS.drop (k+1)) { st with S:=uu.1,es:=uu.2,cs:=st.cs.set (i+1) (cc+g.length) } = ST1):=by
          have:=af pX;rw[af ait,ahV Cg (by rw[af YM,<- af Eb];exact hbig),af YM]at this;rw[Hid,<- this,hcc,mU,iw Cl];rfl
         have awm:IntKind.i64.wrap ((k:Int)+1)=((k+1:Nat):Int):=by rw[fF];omega
         have awn:IntKind.i64.wrap ((i:Int)+1)=(i:Int)+1:=by rw[fF];omega
         have i1:(0:Int)<=(i:Int)+1:=ae;have i2:(i:Int)+1<4:=ae;have i3:((i:Int)+1).toNat=i+1:=ae;have i4:i+1<4:=ae;have cw:IntKind.i64.wrap ((cc:Int)+(g.length:Int))=(cc:Int)+(g.length:Int):=by rw[fF];omega
         have aiA:=ag JF;have E1:=ag hcc;have KR:wr.drew.cell? (ak cb (i+1))=some (aj cc):=hcell;have awo:wr.drew.cell? (ak YG k)=some (.slice ua g.length uc):=awc;have vD:wr.drew.frozen? (ak cb (i+1))=false:=aiz;clear JF hcc awd awe;go_wp2_with fail
         go_region
         all_goals
          have h:=af aiA;have hcast:((cc+g.length:Nat):Int)=(cc:Int)+(g.length:Int):=ae;have YN:=h.aw.set (i+1) (cc+g.length) Cl;rw[hcast]at YN;have r_:Below (wr.setCell ⟨cb,i+1,none⟩ (.int .i64 ((cc:Int)+(g.length:Int)))).heap.size (wr.setCell ⟨cb,i+1,none⟩ (.int .i64 ((cc:Int)+(g.length:Int)))) (wr.setCell ⟨cb,i+1,none⟩ (.int .i64 ((cc:Int)+(g.length:Int)))).drew:=aO.drew;have hwx:dW (wr.setCell ⟨cb,i+1,none⟩ (.int .i64 ((cc:Int)+(g.length:Int)))) xb uu.1 v':=(wh wr (ak cb (i+1)) xb _ (by show xb≠cb;omega)).trans YL.1;have how:=avu YL.2.1 h.aw.c (i+1) (by rw[bY];exact Cl) ((cc:Int)+(g.length:Int));have awp:Hid (Am w (wr.setCell ⟨cb,i+1,none⟩ (.int .i64 ((cc:Int)+(g.length:Int)))).drew cb (cb+1) ab xb rc aa (.slice ga xa.length ka) (.slice Ao bL.length xu) (.slice gd xd.length kd) v' { st with S:=uu.1,es:=uu.2,cs:=st.cs.set (i+1) (cc+g.length) } (100*i+(GS.take (k+1)).flatten.length)):=by
           have e1:=af Jg;have e2:=YI.1;have e3:=h.el;refine⟨hwx.below r_,how.below r_,YN.below r_,ae,by show uu.1.length<=1300;rw[<- af Eb];omega,by show uu.2.length<=_;omega,awi,by show(st.cs.set _ _).length=4;rw[JZ];exact hcl,fun c hc=>?_,by show 12<=uu.1.length;have:=h.lo;have:=af awj;omega⟩;have hc':c∈st.cs.set (i+1) (cc+g.length):=hc;rcases SQ hc' with hc'|hc'
           ·have:=h.cn c hc';omega
           ·have:=h.cn cc (by rw[af E1];exact cM Cl);omega
          have JE:Hid (bn (fun q=>q≠cb) w5 (wr.setCell ⟨cb,i+1,none⟩ (.int .i64 ((cc:Int)+(g.length:Int)))).drew):=((nU.trans (bn.uM (af Nd))).trans (bn.jD (a:=⟨cb,i+1,none⟩) _ (fun _ hq=>hq))).trans (bn.uM r_);have YO:Hid (xa++(bL++xd)≠[]->uu.2≠[]):=fun hx hn=>by
           have:=af bf hx;have Rb:=(af awk)
           rw[hn]at Rb;exact this (fp (by simpa using Rb))
          clear h YN r_ hwx how aiA eG nU Nd gG YL hcell aiz KR awo vD;generalize (wr.setCell ⟨cb,i+1,none⟩ (.int .i64 ((cc:Int)+(g.length:Int)))).drew=w8 at *;go_wp2;exact⟨⟨k+1,xb,v',{ st with S:=uu.1,es:=uu.2,cs:=st.cs.set (i+1) (cc+g.length) },rfl,rfl,by rw[Cg],bW,ae,awp,Ba,YO,JE⟩,c5⟩
     ·have hend:ST1=st:=by
       have h:=af pX;by_cases h1:k<GS.length
       ·have h2:st.full=true:=by
         cases hf:st.full
         ·exact absurd ⟨h1,hf⟩ hc
         ·rfl
        rw[Yj h2]at h;exact h.symm
       ·rw[NJ ae]at h;exact h.symm
      have sD:¬(k:Int)<(GS.length:Int)\/((k:Int)<(GS.length:Int)/\st.full=true):=by
       by_cases h1:k<GS.length
       ·right;refine⟨ae,?_⟩;cases hf:st.full
        ·exact absurd ⟨h1,hf⟩ hc
        ·rfl
       ·left;omega
      have ja:=RP GS k;rw[show GS.flatten=fD by rw[<- af Nc];exact MV fD]at ja;have awq:=ag (eG.mono (m:=100*(i+1)) ae);have awr:Hid (xC rD ol (i+1) ([xa,bL,xd].drop (i+1)) st=FIN):=by rw[Hid,<- hend];exact wC
      have awn:IntKind.i64.wrap ((i:Int)+1)=((i+1:Nat):Int):=by rw[fF];omega
      clear hend hc eG pX nU;rcases sD with h1|⟨h1,h2⟩
      all_goals
       go_wp2;exact⟨⟨i+1,wb,v,st,rfl,rfl,by first|rfl|rw[h2],bW,ae,awq,awr,bf,ae⟩,c5⟩
   ·obtain rfl:i=3:=ae;have Ib:¬(3:Int)<3:=ae;have hend:st=FIN:=af ej;have mz:=af eG;have hcl:=mz.cl;have aws:=mz.lo;have awt:=mz.sl;obtain⟨a0,a1,_,_,_⟩:=mz.aw.a.cells;have s0:=mz.wr.cells.1;have hwl:=mz.wr.lt;have uK:=mz.aw.a.lt;have aiB:=mz.aw.c.lt;have Dk:Hid (∀W,au wr W->aB 75 #[ay s,.bool aa,.bool st.tc,aj rc,aD cb 0 4 4] W (bQ (ay (qx s aa st.tc rc st.cs)) W)):=fun W hW =>
     afT s aa st.tc rc cb 4 st.cs W hs ae qy hcl (fun c hc=>by have:=mz.cn c hc;omega) (dP aiB hW.size) (fun j hj=>(hW.cell (p:=⟨cb,j,none⟩) aiB).trans (by
      have:=mz.aw.c.cell j (by rw[bY];exact hj);rw[vW]at this;exact this))
    obtain⟨HD,RX⟩:∃H,H=qx s aa st.tc rc st.cs:=⟨_,rfl⟩
    rw[<- RX]at Dk;have aiC:HD.length=12:=by
     rw[RX];unfold qx;rw[bj,bj,gD,Xa,hcl];simp;omega
    have DT:Hid (G3 s qs qn op sz rc aa [xa,bL,xd]=HD++st.S.drop 12++Ap):=by
     unfold G3;rw[Hid,af fX,<- hend,<- xj.2,<- RX]
    have aBH:(aq HD).size=12:=by rw[bJ,aiC]
    obtain⟨sn,De⟩:=bF st.S.length;have Jj:(aq st.S).size=sn:=by rw[bJ,De]
    have kx:(aq st.S).extract 12 sn=aq (st.S.drop 12):=by
     have:=KQ st.S 12 sn;rw[this,De,pd (by rw[fM];exact bH _)]
    have ahw:(aq (st.S.drop 12)).size=sn - 12:=by rw[bJ,fM,De]
    have k1:aq HD++aq (st.S.drop 12)=aq (HD++st.S.drop 12):=kU _ _;have z1:(aq (HD++st.S.drop 12)).size=sn:=by rw[bJ,bj,fM,aiC];omega
    have k2:aq (HD++st.S.drop 12)++aq Ap=aq (HD++st.S.drop 12++Ap):=kU _ _;have l1:(12:Int)<=(sn:Int):=ae;have l2:12<=sn:=ae;have aBI:sn<=1300:=ae;have l3:¬9223372036854775807<12+(sn - 12):=ae;have l4:¬9223372036854775807<sn+ol:=ae;have awu:wr.drew.cell? (ak wb 0)=some (ay st.S):=s0;have aie:wr.drew.cell? (ak ab 0)=some (aj rc):=a0;have aBJ:wr.drew.cell? (ak ab 1)=some (.bool aa):=a1;have YP:=ag mz.aw.b;clear mz hend RX De eG ej bf aws awt;go_wp2_with fail;go_region_with (go_at_call 75;refine(Dk _ aO.drew).mono ?_;rintro e w9 ⟨rfl,rY⟩;have s9:w9.cell? (ak wb 0)=some (ay st.S):=(rY.cell (p:=⟨wb,0,none⟩) hwl).trans awu)
    all_goals
     have awv:=YP.trans (((bR wr.heap.size wr).drew.trans rY).mono YP.size);have hres:=af DT;rw[fP]at hres;clear Dk YP rY s9;simp only[List.getElem_toArray,mV,lI,Act.put,fV,eC,eX];go_wp2;go_ret;rw[hres];exact⟨rfl,awv⟩
end Go.Proofs.YtkkpahmoljiepaaGreatDoor
