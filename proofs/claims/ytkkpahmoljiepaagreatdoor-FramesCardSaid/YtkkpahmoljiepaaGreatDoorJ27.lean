import Derived.Test.YtkkpahmoljiepaaGreatDoorJ26
set_option maxRecDepth 1000000
set_option maxHeartbeats 12800000
set_option linter.unusedSimpArgs false
set_option linter.unusedVariables false
namespace Go.Proofs.YtkkpahmoljiepaaGreatDoor
open Go.RowKit Go.Proofs.Tryz
structure Lx(w0 W:World)(cb lb ab:Nat)(rc:Int)(aa:Bool)(va vu vd:Value)(cs:List Nat):Prop where
 c:f_ W cb (cs.map fun n:Nat=>(n:Int)) 3
 l:W.heap[lb]? = some (.cells #[va,vu,vd] 115)
 a:ew W ab rc aa va vu vd
 b:ax w0 W
 hc:w0.heap.size<=cb
 hl:w0.heap.size<=lb
 ha:w0.heap.size<=ab
 ne:lb≠cb/\ab≠cb
section
variable {w0 W:World} {cb lb ab:Nat} {rc:Int} {aa:Bool} {va vu vd:Value} {cs:List Nat} (h:Lx w0 W cb lb ab rc aa va vu vd cs)
include h
theorem Lx.below{W':World}(a:ax W W'):Lx w0 W' cb lb ab rc aa va vu vd cs :=
 ⟨(a.block cb h.c.lt).trans h.c,(a.block lb (bn.1 h.l).1).trans h.l,h.a.kept (a.block ab h.a.lt),h.b.trans (a.mono h.b.size),h.hc,h.hl,h.ha,h.ne⟩
theorem Lx.set(d e:Nat)(ao:d<cs.length):Lx w0 (W.setCell ⟨cb,d,none⟩ (.int .i64 (e:Int))) cb lb ab rc aa va vu vd (cs.set d e) where
 c:=by rw[zF];exact h.c.set d e
 l:=(kX W (aq cb d) lb _ h.ne.1).trans h.l
 a:=h.a.kept (kX W (aq cb d) ab _ h.ne.2)
 b:=h.b.setCell (p:=⟨cb,d,none⟩) h.hc _
 hc:=h.hc
 hl:=h.hl
 ha:=h.ha
 ne:=h.ne
end
structure BV(w0 W:World)(cb lb ab wb:Nat)(rc:Int)(aa:Bool)(va vu vd:Value)(v:Value)(st:r9)(n:Nat):Prop where
 wr:eI W wb st.S v
 ow:fJ W w0.heap.size wb v st.es
 aw:Lx w0 W cb lb ab rc aa va vu vd st.cs
 aa1:w0.heap.size<=wb
 sl:st.S.length<=1300
 el:st.es.length<=300+700*n
 Pm:∀e∈st.es,e.1.length<=1000/\e.2<=1000000
 cl:st.cs.length=4
 cn:∀c∈st.cs,c<=2+n
 lo:12<=st.S.length
theorem BV.below{w0 W W':World}{cb lb ab wb:Nat}{rc:Int}{aa:Bool}{va vu vd v:Value}{b:r9}{n:Nat}(h:BV w0 W cb lb ab wb rc aa va vu vd v b n)(a:ax W W'):BV w0 W' cb lb ab wb rc aa va vu vd v b n :=
 ⟨h.wr.below a,h.ow.below a,h.aw.below a,h.aa1,h.sl,h.el,h.Pm,h.cl,h.cn,h.lo⟩
theorem BV.mono{w0 W:World}{cb lb ab wb:Nat}{rc:Int}{aa:Bool}{va vu vd v:Value}{a:r9}{n m:Nat}(h:BV w0 W cb lb ab wb rc aa va vu vd v a n)(d:n<=m):BV w0 W cb lb ab wb rc aa va vu vd v a m :=
 ⟨h.wr,h.ow,h.aw,h.aa1,h.sl,aZ h.el ae,h.Pm,h.cl,fun b c=>aZ (h.cn b c) ae,h.lo⟩
theorem Ww{W:World}{a b e:Nat}{v:Value}{c:ey}(h:fJ W a e v c)(o:b<=a):fJ W b e v c:=by obtain⟨r,l,d,n⟩:=h;refine⟨r,l,⟨d.1,?_⟩,n⟩;rcases d.2 with h|⟨k,g,i,j,p,q⟩;{exact iG};{exact .inr ⟨k,g,i,j,aZ o p,q⟩}
theorem Wx{c d e:World}{i:Nat}{v l:Value}(h:ax c d)(b:eQ i d v e l)(n:c.heap.size<=i)(k:∀a,v.ownBlock=some a->c.heap.size<=a):ax c e :=
 ⟨b.fr.os.trans h.os,b.fr.tape.trans h.tape,b.fr.output.trans h.output,aZ h.size b.fr.size,fun a g=>(b.fr.block a (cp g h.size) ⟨ae,fun j=>by have:=k a j.symm;omega⟩).trans (h.block a g)⟩
theorem x_(a:List (List bL))(b:Nat):(a.take b).flatten.length<=a.flatten.length:=by
 conv=>rhs;rw[<- ft b a]
 rw[List.flatten_append,a6];omega
theorem Wy(a:List (List bL))(b:Nat)(h:b<a.length):(a.take (b+1)).flatten.length=(a.take b).flatten.length+a[b].length:=by rw[du h,List.flatten_append,a6];simp
theorem Wz(a:World):az 83 #[ak 1232] a (aP (au [ao 1232,aV 1232]) a):=iC 1232 a ae
theorem F4{P:Prop}(h:P:=by
 cases hf:st.full
 ·exact absurd ⟨h1,hf⟩ hc
 ·rfl):P:=h
theorem yy{P:Prop}(h:P:=by rw[<- ag Px];exact DC gm):P:=h
theorem WA(s g:ah)(A:List ah)(cP:Value)(cZ ct:Int)(ad:Bool)(O:Nat)(cr:Int)(rc:Nat)(aa:Bool)(va vu vd:Value)(j i k:List bL)(w:World)(fS:12<=s.length)(hd:s.length<=2000000)(J:un w cP A)(fd:g.length<=1000)(dx:kV A<=300)(c6:∀n∈A,n.length<=255)(gd:rc<4096)(bQ:O<65536)(cS:iE w va j) (b9:iE w vu i) (cT:iE w vd k) (dZ:∀n∈j++(i++k),eY w n.1 n.2.2.2/\eY w n.2.1 (aC 32 n.2.2.1.data)) (dR:∀n∈j++(i++k),Lr n) (eT:j.length<=100) (fg:i.length<=100) (e4:k.length<=100) (bi:j++(i++k)≠[]->A≠[]):az 78 #[au s,.agg #[au g,cP,ak cZ,ak ct,.bool ad,ak O,ak cr],.agg #[ak rc,.bool aa,va,vu,vd]] w fun e w'=>e=.returned (au (p0 s g A ad O rc aa [j,i,k]))/\ax w w':=by
 obtain⟨R,U,gi⟩:∃a B,va=.slice a j.length B:=by rcases cS with⟨h,e⟩|⟨_,_,_,h,_⟩;exact⟨none,0,by rw[h,e];rfl⟩;exact⟨_,_,h⟩
 obtain⟨P,Z,fe⟩:∃a B,vu=.slice a i.length B:=by rcases b9 with⟨h,e⟩|⟨_,_,_,h,_⟩;exact⟨none,0,by rw[h,e];rfl⟩;exact⟨_,_,h⟩
 obtain⟨T,V,gn⟩:∃a B,vd=.slice a k.length B:=by rcases cT with⟨h,e⟩|⟨_,_,_,h,_⟩;exact⟨none,0,by rw[h,e];rfl⟩;exact⟨_,_,h⟩
 obtain⟨bc,bm,bl,gb⟩:∃a bn B,cP=.slice a bn B:=by rcases J with⟨_,h⟩|⟨_,_,_,h,_⟩<;>exact⟨_,_,_,h⟩
 have e0:=af J;have gs:=af cS;have fc:=af b9;have eG:=af cT;have cJ:=af dZ;have dS:=af dR;have e2:=af c6;have gc:=af bi;clear J cS b9 cT dZ dR c6 bi;subst gi fe gn gb;obtain⟨eH,cQ⟩:∃eH:Obj,eH=.cells #[.string (ai g),.slice bc bm bl,.int .i64 cZ,.int .i64 ct,.bool ad,.int .i64 O,.int .i64 cr] 144:=⟨_,rfl⟩
 obtain⟨dP,cL⟩:∃dP:Obj,dP=.cells #[.int .i64 rc,.bool aa,.slice R j.length U,.slice P i.length Z,.slice T k.length V] 123:=⟨_,rfl⟩
 have cu:Hid (ax w ((w.alloc eH).alloc dP)):=(aE.alloc av _).alloc am _;have ee:((w.alloc eH).alloc dP).heap.size=w.heap.size+2:=am;have eC:((w.alloc eH).alloc dP).heap[w.heap.size]? = some (.cells #[.string (ai g),.slice bc bm bl,.int .i64 cZ,.int .i64 ct,.bool ad,.int .i64 O,.int .i64 cr] 144):=by
  rw[<- cQ];exact B2
 have eF:ew ((w.alloc eH).alloc dP) (w.heap.size+1) rc aa (.slice R j.length U) (.slice P i.length Z) (.slice T k.length V):=by
  have:=World.alloc_heap_new (w.alloc eH) dP;rw[cv]at this;unfold ew;rw[this,cL]
 have bV:=af eC;have br:=af eF;clear eC eF;obtain⟨C,dy⟩:=a2 (oJ ad O);obtain⟨Q,dz⟩:=a2 (iV ad rc);have al:=af (aQ dy dz);clear dy dz;go_enter func78,ntmps78
 go_upto_if 20 with fail
 rw[<- cQ,<- cL];obtain⟨E,eg⟩:∃E,(w.alloc eH).alloc dP=E:=⟨_,rfl⟩
 rw[eg]at cu ee bV br ⊢;have hg:w.heap.size+2<=E.heap.size:=ae;clear eg cQ cL ee
 go_cut [7,8]from 21 to 33 (fun aY gl gr=>aY=ak C/\gl=au Q/\Hid (ax E gr))
 case first =>
  have cA:=ag bV;have ga:E.cell? (aq w.heap.size 5)=some (ak O):=by simp[World.cell?,cA]
  have aG:=br.cells.1;cases ad with
  | false =>
   have aU:C=512/\Q=[]:=by rw[al.1,al.2];exact dX
   clear cA ga aG;go_wp2_with fail;go_meet
   case rel=>exact⟨by rw[aU.1];rfl,by rw[aU.2];rfl,bk _ _⟩
  | true =>
   have aU:((C:Nat):Int)=max 512 (min (O:Int) 1232)/\Q=CM rc:=by
    rw[al.1,al.2];refine⟨?_,rfl⟩;show((max 512 (min O 1232):Nat):Int)=_;omega
   have dA:E.drew.cell? (aq (w.heap.size+1) 0)=some (ak rc):=aG;obtain⟨y,hu⟩:∃y:UInt8,y=UInt8.ofNat (rc/16):=⟨_,rfl⟩
   obtain⟨bT,eJ⟩:=a2 (rc/16);have hn:(rc:Int)/16=(bT:Int):=ae;have ho:IntKind.u8.wrap (bT:Int)=(y.toNat:Int):=uA
   have hp:IntKind.i64.wrap (bT:Int)=(bT:Int):=cX
   have ca:Q=[0,0,41]++[ao 1232,aV 1232]++[y,0,0,0,0,0]:=by rw[aU.2,hu];rfl
   have gI:=af ca;have d3:=aU.1;have fs:=af d3;have gJ:(convert 58 9 (aF E.heap.size 0 6 6)).run prog (E.alloc (.cells #[.int .u8 y.toNat,.int .u8 0,.int .u8 0,.int .u8 0,.int .u8 0,.int .u8 0] 5)).drew=.ok (au [y,0,0,0,0,0]) (E.alloc (.cells #[.int .u8 y.toNat,.int .u8 0,.int .u8 0,.int .u8 0,.int .u8 0,.int .u8 0] 5)).drew:=KR [y,0,0,0,0,0] 6 rfl mv (World.alloc_heap_new E _);have ft:(E.alloc (.cells #[.int .u8 y.toNat,.int .u8 0,.int .u8 0,.int .u8 0,.int .u8 0,.int .u8 0] 5)).drew.cell? (aq (w.heap.size+1) 0)=some (ak rc):=(b7 (a:=⟨w.heap.size+1,0,none⟩) (bx E _ (w.heap.size+1) ae)).trans aG;have hL:(ai [y,0,0,0,0,0]).size=6:=rfl;have hI:(ai [ao 1232,aV 1232]).size=2:=rfl;have hJ:ByteArray.size ⟨#[0,0,41]⟩=3:=rfl;have bR:(⟨#[0,0,41]⟩:ByteArray)++ai [ao 1232,aV 1232]=ai [0,0,41,ao 1232,aV 1232]:=rfl;have hK:(ai [0,0,41,ao 1232,aV 1232]).size=5:=rfl;have bS:ai [0,0,41,ao 1232,aV 1232]++ai [y,0,0,0,0,0]=ai Q:=by rw[ca];exact iD
   clear cA hu eJ aU ca d3;go_wp2_with fail;go_region_with (go_at_call 83;refine(Wz _).mono ?_;rintro e w2 ⟨rfl,L⟩;have gK:w2.cell? (aq (w.heap.size+1) 0)=some (ak rc):=(L.cell (p:=⟨w.heap.size+1,0,none⟩) (by show w.heap.size+1<_;simp;omega)).trans (by first|exact dA|exact ft);have gM:(convert 58 9 (aF w2.heap.size 0 6 6)).run prog (w2.alloc (.cells #[.int .u8 y.toNat,.int .u8 0,.int .u8 0,.int .u8 0,.int .u8 0,.int .u8 0] 5))=.ok (au [y,0,0,0,0,0]) (w2.alloc (.cells #[.int .u8 y.toNat,.int .u8 0,.int .u8 0,.int .u8 0,.int .u8 0,.int .u8 0] 5)):=pf w2 [y,0,0,0,0,0] 6 rfl mv;try have gN:(convert 58 9 (aF E.heap.size 0 6 6)).run prog w2=.ok (au [y,0,0,0,0,0]) w2:=KR [y,0,0,0,0,0] 6 rfl mv ((L.block E.heap.size am).trans (World.alloc_heap_new E _)))
   all_goals
    go_wp2_with fail;go_meet
    case rel =>
     refine⟨bP (Value.int .i64) fs.symm,rfl,?_⟩
     first
      | exact(aE.drew).trans (L.alloc L.size _)
      | exact((aE.alloc av _).drew).trans (L.mono am)
 case rest =>
  obtain⟨rfl,rfl,dQ⟩:=hcut;generalize wc=w2 at *;have L:=ag dQ;have hh:=L.size;have cc:w2.heap[w.heap.size]? = _:=(L.block w.heap.size ae).trans (ag bV);have er:w2.cell? (aq w.heap.size 1)=some (.slice bc bm bl):=by simp[World.cell?,cc]
  have eE:=br.kept (L.block (w.heap.size+1) ae);have ej:=af cc;have ev:=af eE;have bu:=cu.trans (L.mono ae);have cd:=af bu;obtain⟨x,bI⟩:=a2 Q.length;have gO:(ai Q).size=x:=by rw[a7,bI]
  have gP:x<=11:=by
   rw[bI,al.2];unfold iV;split
   ·exact bb _
   ·simp
  have gQ:512<=C/\C<=1232:=by
   rw[al.1];unfold oJ;split<;>omega
  obtain⟨aR,bZ⟩:∃aR:Obj,aR=.cells #[.string (ai cD),.slice none 0 0] 229:=⟨_,rfl⟩
  have fu:=dx;have e1:=aZ (oG A) dx;have d5:eI (w2.alloc aR) w2.heap.size cD (aJ):=by unfold eI;rw[World.alloc_heap_new,bZ]
  have a0:ax w2 (w2.alloc aR):=aE.alloc av _;have dm:=af (WH w2.heap.size w.heap.size cD (aJ) [] (.slice bc bm bl) A w (w2.alloc aR) (ag e0) (bu.trans (a0.mono bu.size)) ae (fun c aH=>by cases aH) d5 (fJ.nil _ _ _) aA e1 (ag e2) ba (fun e bg=>by cases bg) am);have ge:=af bI;have fv:(w2.alloc (.cells #[.string ⟨#[116,119,101,108,118,101,32,98,121,116,101,115]⟩,.slice none 0 0] 229)).cell? (aq w.heap.size 1)=some (.slice bc bm bl):=(b7 (a:=⟨w.heap.size,1,none⟩) (bx w2 _ w.heap.size ae)).trans er;clear L eE cc bu bI fu dQ cu bV br;go_wp2_with fail;have dn:Obj.cells #[.string ⟨#[116,119,101,108,118,101,32,98,121,116,101,115]⟩,.slice none 0 0] 229=aR:=bZ.symm;rw[dn];refine dm.mono ?_;rintro e o ⟨rfl,c0,bz,dp,aL⟩;have fT:=aL.fr.size;rw[cv]at fT;have bW:∀c,c<w2.heap.size->o.heap[c]? = w2.heap[c]?:=fun c aH=>(aL.fr.block c aA ⟨ae,fun e=>by cases e⟩).trans (a0.block c aH);have dq:=(bW w.heap.size ae).trans (ag ej);have f9:o.cell? (aq w.heap.size 0)=some (au g):=by simp[World.cell?,dq]
  have c4:=ev.kept (bW (w.heap.size+1) ae);have eh:ax w o:=cd.trans ⟨aL.fr.os.trans a0.os,aL.fr.tape.trans a0.tape,aL.fr.output.trans a0.output,ae,fun c aH=>bW c (by have:=cd.size;omega)⟩;have ce:=ly bz dp (eQ.refl _ _ _) aE (cD++g);have fU:∀c,c0.ownBlock=some c->w.heap.size+2<=c:=fun c aH=>by
   rcases aL.ob c aH with h|h
   ·cases h
   ·rw[cv]at h;omega
  have b6:=c4.kept (w':=o.setCell ⟨w2.heap.size,0,none⟩ (.string (ai (cD++g)))) (kX o (aq w2.heap.size 0) (w.heap.size+1) _ (by show w.heap.size+1≠w2.heap.size;omega));have cz:=eh.setCell (p:=⟨w2.heap.size,0,none⟩) BX (au (cD++g));have f2:(⟨#[116,119,101,108,118,101,32,98,121,116,101,115]⟩:ByteArray)++ai g=ai (cD++g):=j9 cD g;have e3:ByteArray.size ⟨#[116,119,101,108,118,101,32,98,121,116,101,115]⟩=12:=rfl;have fw:(ai g).size<=1000:=by rw[a7];exact fd
  have fP:=bz.frozen;obtain⟨CF,up⟩:=bz.cells;obtain⟨aG,b_,dh,di,dj⟩:=b6.cells;obtain⟨K,dr⟩:∃f4,f4=x/11:=⟨_,rfl⟩
  have ei:(x:Int)/11=(K:Int):=ae;have fZ:IntKind.i64.wrap (K:Int)=(K:Int):=cX
  have f0:(x:Int).tdiv 11=(K:Int):=by rw[GL ae];exact ei
  have cV:Hid (((bd A cD []).2).length<=300/\∀e∈(bd A cD []).2,e.1.length<=1000/\e.2<=1000000):=by
   have h1:=oH A cD [];refine⟨by simp at h1;omega,x7 A cD [] (by show 12+kV A<=1000000;omega) ae (fun e bg=>by cases bg)⟩
  have ds:Hid (∀(z I:Obj),z=.cells #[.int .i64 1,.int .i64 0,.int .i64 0,.int .i64 K] 3->I=.cells #[.slice R j.length U,.slice P i.length Z,.slice T k.length V] 115 ->
    BV w (((o.setCell ⟨w2.heap.size,0,none⟩ (.string (ai (cD++g)))).alloc z).alloc I) o.heap.size (o.heap.size+1) (w.heap.size+1) w2.heap.size rc aa (.slice R j.length U) (.slice P i.length Z) (.slice T k.length V) c0 ⟨cD++g,(bd A cD []).2,[1,0,0,K],false,false⟩ 0):=fun z I a1 a3=>by
   have bQ:(o.setCell ⟨w2.heap.size,0,none⟩ (.string (ai (cD++g)))).heap.size=o.heap.size:=am;have aB:Below (o.setCell ⟨w2.heap.size,0,none⟩ (.string (ai (cD++g)))).heap.size (o.setCell ⟨w2.heap.size,0,none⟩ (.string (ai (cD++g)))) (((o.setCell ⟨w2.heap.size,0,none⟩ (.string (ai (cD++g)))).alloc z).alloc I):=(aE.alloc av _).alloc am _;refine⟨ce.1.below aB,ce.2.1.below aB,⟨?_,?_,b6.kept (aB.block _ (by rw[bQ];omega)),cz.trans (aB.mono cz.size),ae,ae,ae,ae,ae⟩,ae,by show(cD++g).length<=1300;rw[a6];show 12+g.length<=1300;omega,cV.1,cV.2,rfl,fun B hc=>?_,by show 12<=(cD++g).length;rw[a6];show 12<=12+g.length;omega⟩
   ·have h1:(((o.setCell ⟨w2.heap.size,0,none⟩ (.string (ai (cD++g)))).alloc z).alloc I).heap[o.heap.size]? = some z:=by
     have h0:=World.alloc_heap_new (o.setCell ⟨w2.heap.size,0,none⟩ (.string (ai (cD++g)))) z;rw[bQ]at h0;exact(bx ((o.setCell ⟨w2.heap.size,0,none⟩ (.string (ai (cD++g)))).alloc z) I o.heap.size am).trans h0
    unfold f_;rw[h1,a1];rfl
   ·have:=World.alloc_heap_new ((o.setCell ⟨w2.heap.size,0,none⟩ (.string (ai (cD++g)))).alloc z) I;rw[cv,bQ]at this;rw[this,a3]
   ·exact EG
  clear bz dp aL bW dq c4 ce b6 eh cz d5 a0 dm ej ev cd cV dn bZ f0;have he:K<=1:=ae;have fx:=af dr;clear dr;have bA:∀(z:Obj) (b:Nat),((o.setCell ⟨w2.heap.size,0,none⟩ (.string (ai (cD++g)))).alloc z).cell? (aq (w.heap.size+1) b)=(o.setCell ⟨w2.heap.size,0,none⟩ (.string (ai (cD++g)))).cell? (aq (w.heap.size+1) b):=fun z b=>b7 (a:=⟨w.heap.size+1,b,none⟩) (bx _ _ (w.heap.size+1) aA);have fH:=(bA (.cells #[.int .i64 1,.int .i64 0,.int .i64 0,.int .i64 K] 3) 2).trans dh;have fI:=(bA (.cells #[.int .i64 1,.int .i64 0,.int .i64 0,.int .i64 K] 3) 3).trans di;have fK:=(bA (.cells #[.int .i64 1,.int .i64 0,.int .i64 0,.int .i64 K] 3) 4).trans dj;clear bA aG b_ dh di dj;go_wp2_with fail;obtain⟨z,a1⟩:∃z:Obj,z=.cells #[.int .i64 1,.int .i64 0,.int .i64 0,.int .i64 K] 3:=⟨_,rfl⟩
  obtain⟨I,a3⟩:∃I:Obj,I=.cells #[.slice R j.length U,.slice P i.length Z,.slice T k.length V] 115:=⟨_,rfl⟩
  rw[<- a1,<- a3];have dt:=af (ds z I a1 a3);have g8:o.heap.size+2<=(((o.setCell ⟨w2.heap.size,0,none⟩ (.string (ai (cD++g)))).alloc z).alloc I).heap.size:=am;clear ds fH fI fK a1 a3;generalize ((o.setCell ⟨w2.heap.size,0,none⟩ (.string (ai (cD++g)))).alloc z).alloc I=go at *;obtain⟨cb,cC⟩:=a2 o.heap.size;obtain⟨aS,a4⟩:∃st:r9,st=⟨cD++g,(bd A cD []).2,[1,0,0,K],false,false⟩:=⟨_,rfl⟩
  obtain⟨ab,cB⟩:=a2 (w.heap.size+1);rw[<- cC,<- cB,<- a4]at dt;have d0:Hid (sk g A ad O rc [j,i,k]=lj C x 0 [j,i,k] aS):=by
   unfold sk;rw[Hid,<- al.1,<- al.2,<- ag ge,<- ag fx,<- a4]
  obtain⟨bs,b3⟩:∃eM,lj C x 0 [j,i,k] aS=eM:=⟨_,rfl⟩
  have eR:=af b3;rw[b3]at d0;rw[<- cC,<- cB];have c9:(Value.bool false)=.bool aS.tc/\(Value.bool false)=.bool aS.full:=by rw[a4];exact dX
  have eA:=af c9;have gR:w.heap.size+3<=cb/\cb+2<=go.heap.size:=ae;have gY:w.heap.size<=ab/\ab<cb:=ae;have eZ:Hid (j++(i++k)≠[]->aS.es≠[]):=fun h=>by
   have J:=ag gc h;rw[a4];show(bd A cD []).2≠[];cases A with
   | nil=>exact absurd rfl J
   | cons n cW =>
    rw[lx dO];intro bg;have:=(oH cW (cD++(UInt8.ofNat n.length::n)) ([]++[(cO (n::cW),cD.length)])).2.2.1;rw[bg]at this;simp at this
  clear a4 cC cB b3 c9 CF up f9 er fv fP f2 e3 fw ei fZ fU;have du:∀b,b<3->∃(a:Option Addr) (bn c:Nat) (n:List bL),[Value.slice R j.length U,.slice P i.length Z,.slice T k.length V][b]? = some (.slice a bn c)/\[j,i,k].drop b=n::[j,i,k].drop (b+1)/\iE w (.slice a bn c) n/\n.length<=100/\(∀D∈n,D∈j++(i++k))/\bn=n.length:=fun b ao=>by
   match b,ao with
   | 0,_=>exact⟨R,_,U,j,rfl,rfl,gs,eT,fun D M=>by simp[M],rfl⟩
   | 1,_=>exact⟨P,_,Z,i,rfl,rfl,fc,fg,fun D M=>by simp[M],rfl⟩
   | 2,_=>exact⟨T,_,V,k,rfl,rfl,eG,e4,fun D M=>by simp[M],rfl⟩
  have fy:=af du;clear du
  go_loopw [9,11,12,14] (fun c2 cY cy N wr=>∃(b G:Nat) (v:Value) (st:r9),c2=aO G/\cY=.bool st.tc/\cy=.bool st.full/\N=ak b/\b<=3/\Hid (BV w wr cb (cb+1) ab G rc aa (.slice R j.length U) (.slice P i.length Z) (.slice T k.length V) v st (100*b))/\Hid (lj C x b ([j,i,k].drop b) st=bs)/\Hid (j++(i++k)≠[]->st.es≠[])/\cb+2<=wr.heap.size) (fun _ _ _ N _=>3-(intOf N).toNat)
  case atStart=>exact⟨0,w2.heap.size,c0,aS,rfl,eA.1,eA.2,rfl,ae,dt,eR,eZ,ae⟩
  case round =>
   obtain⟨b,G,v,st,rfl,rfl,rfl,rfl,ao,u,bF,ay,ha⟩:=hrel;by_cases c3:b<3
   ·have eU:(b:Int)<3:=ae;obtain⟨em,gS,en,gm,ac,cx,ec,fY,a5,rfl⟩:=ag fy b c3;have r:=ag u;have d_:wr.cell? (aq (cb+1) b)=some (.slice em gm.length en):=by
     have:=r.aw.l;unfold World.cell?;rw[this]
     match b,c3,ac with
     | 0,_,ac=>simpa using ac
     | 1,_,ac=>simpa using ac
     | 2,_,ac=>simpa using ac
    have ed:=ec.below r.aw.b;have dd:=af (WJ (.slice em gm.length en) gm wr ed (fun n aD=>⟨(cJ n (a5 n aD)).1.below r.aw.b,(cJ n (a5 n aD)).2.below r.aw.b,by
     have h1:=(dS n (a5 n aD)).sum;have bJ:=oG n.2.2.2;omega⟩) ae)
    have fz:=af a5;have el:=af cx;clear r ec ed ac cx a5;go_wp2_with fail;refine dd.mono ?_;rintro e eB ⟨f3,rfl,bB,aB⟩;have hi:=aB.size;have dv:=af (u.below aB);obtain⟨l,a8⟩:∃l,dN gm=l:=⟨_,rfl⟩
    rw[a8]at bB;obtain⟨gT,fA,bO⟩:∃a B,f3=.slice a l.length B:=by
     rcases bB with⟨h,h0⟩|⟨d,g1,h,_⟩
     ·exact B1
     ·exact⟨_,_,h⟩
    subst bO;have et:=af bB;have Px:=af a8;have gU:l.length<=100:=by rw[<- a8];exact aZ (WF gm) fY
    obtain⟨a_,b4⟩:∃s,hH C x b l st=s:=⟨_,rfl⟩
    have dw:=af b4;have gu:Hid (lj C x (b+1) ([j,i,k].drop (b+1)) a_=bs):=by
     have:=ag bF;rw[ag el,lj,a8,b4]at this;exact this
    obtain⟨ex,db⟩:=a2 wr.heap.size;rw[<- db]at et;have gV:cb+2<=ex/\ex<=eB.heap.size:=ae;clear bB aB dd u bF el a8 b4 d_ db;generalize wr=gW at *;go_wp2_with fail
    go_loopw [9,11,12,16] (fun c2 cY cy N wr=>∃(c G:Nat) (v:Value) (st:r9),c2=aO G/\cY=.bool st.tc/\cy=.bool st.full/\N=ak c/\c<=l.length/\Hid (BV w wr cb (cb+1) ab G rc aa (.slice R j.length U) (.slice P i.length Z) (.slice T k.length V) v st (100*b+(l.take c).flatten.length))/\Hid (hH C x b (l.drop c) st=a_)/\Hid (j++(i++k)≠[]->st.es≠[])/\Hid (bG (fun X=>X≠cb) eB wr)) (fun _ _ _ N _=>l.length-(intOf N).toNat)
    case atStart=>exact⟨0,G,v,st,rfl,rfl,rfl,rfl,ae,dv.mono ae,dw,ay,bG.refl _ _⟩
    case round =>
     clear dv ay dw;obtain⟨c,G,v,st,rfl,rfl,rfl,rfl,aH,u,bU,ay,aX⟩:=hrel;have gv:=aX.size;by_cases hc:c<l.length/\st.full=false
     ·obtain⟨aT,b0⟩:=hc;have hA:(c:Int)<(l.length:Int):=ae;have fB:=et.fr aX (fun X J=>ae);rcases fB with⟨_,h0⟩|⟨cf,hx,bO,d_,fC,gX,eq⟩
      ·rw[h0]at aT;simp at aT
      obtain⟨rfl,-,rfl⟩:=gL bO;obtain⟨dB,y,hu,bC,da⟩:=eq c aT;have cE:=fQ aT;have cg:=Wy l c aT;have cK:=x_ l (c+1);rw[show l.flatten=gm from yy]at cK;have cI:=x_ l c;rw[show l.flatten=gm from yy]at cI;have bY:∀D∈l[c],D∈j++(i++k):=fun D M=>ag fz D (ul gm l[c] (by rw[ag Px];exact bM aT) D M);obtain⟨d,d8⟩:∃d,l[c]=d:=⟨_,rfl⟩
      rw[d8]at dB bC cE cg bY;obtain⟨ey,ez,bE⟩:∃a B,y=.slice a d.length B:=by
       rcases bC with⟨h,h0⟩|⟨_,_,_,h,_⟩
       ·exact B1
       ·exact⟨_,_,h⟩
      subst bE;have bi:st.es≠[]:=ag ay (fun h=>by
       cases d with
       | nil=>exact dB rfl
       | cons D cW=>have:=bY D am;rw[h]at this;cases this)
      have r:=ag u;have fO:=r.el;have dc:=af (Wk G w.heap.size st.S v st.es wr r.wr r.ow bi ae);have dg:=af (aQ hu (aQ bC da));have dC:=af bY;have dD:=af cE;have ch:=af (aQ cg cK);have hy:d.length<=100:=ae;clear eq hu bC da bY cE cg cK r bO fO bi d8;go_wp2_with fail;refine dc.mono ?_;rintro e bX ⟨H,bp,rfl,fX,bj,cj,bH⟩;have fD:=u.below bH;have dE:Hid (eI bX H st.S bp/\fJ bX w.heap.size H bp st.es):=⟨bj,Ww cj u.aw.b.size⟩
      have dF:=af (fun X J=>(cj.lt X J).1);have f1:=af bH;have hB:=bH.size;have gt:=u.aw.b.size;have dG:=af (fun D M=>ag dS D (dC D M));clear bj cj bH fD dc;generalize wr=fE at *;go_wp2_with fail
      go_loopw [18] (fun N wr=>∃(q:Nat) (aj:Value),N=ak q/\q<=d.length/\Hid (eI wr H (eV (d.take q) st.S st.es).1 aj/\fJ wr w.heap.size H aj (eV (d.take q) st.S st.es).2/\eQ H bX bp wr aj)) (fun N _=>d.length-(intOf N).toNat)
      case atStart=>exact⟨0,bp,rfl,ae,by rw[kW];exact dE.1,by rw[kW];exact dE.2,eQ.refl _ _ _⟩
      case round =>
       obtain⟨q,aj,rfl,d9,aI⟩:=hrel;have an:=Wx (ag f1) aI.2.2 fX (ag dF);have g7:=an.size;have fF:wr.cell? (aq cf c)=some (.slice ey d.length ez):=(an.cell (p:=⟨cf,c,none⟩) fC).trans dg.1;have g3:c<fA:=ae;have a9:=af an;have gy:=aZ u.aw.b.size an.size;have ef:∀X,aj.ownBlock=some X->fE.heap.size<=X:=fun X J=>by
        rcases aI.2.2.ob X J with h|h
        ·exact dF X h
        ·omega
       have ap:=KK (d.take q) (fun D M=>ag dG D (mJ M)) st.S st.es;have eP:(d.take q).length<=100:=jX
       have fi:=u.sl;have fj:=u.el;by_cases aW:q<d.length
       ·have fk:(q:Int)<(d.length:Int):=ae;have fl:=dg.2.1.below an;rcases fl with⟨_,h0⟩|⟨g_,hz,g9,bE,gx,g0,dH⟩
        ·rw[h0]at aW;simp at aW
        obtain⟨rfl,-,rfl⟩:=gL bE;obtain⟨cU,dT,dU,dW,dY⟩:=dH q aW;obtain⟨cM,cN⟩:=ag cJ d[q] (dC d[q] (bM aW));have ar:=ag dG d[q] (bM aW);have dk:=af (Wh d q aW st.S st.es);obtain⟨n,aD⟩:∃n,d[q]=n:=⟨_,rfl⟩
        rw[aD]at cU dT dU dW dY cM cN ar dk;obtain⟨hC,g6,eu,eo⟩:=n;simp only at cU dT dU dW dY cM cN;obtain⟨d1,f6,f5,rfl,f8,b5⟩:=cM;obtain⟨d2,f7,gq,rfl,fV,ck⟩:=cN;have hb:=b5.1;have hF:=ck.1;have cH:=u.aw.b.trans (an.mono gt);have eD:=af (Wu H w.heap.size (eV (d.take q) st.S st.es).1 aj (eV (d.take q) st.S st.es).2 eu d1 f6 f5 d2 f7 gq eo wr aI.1 aI.2.1 (b5.below cH) f8 ae (fun e=>by have:=ef d1 e.symm;omega) (ck.below cH) fV ae (fun e=>by have:=ef d2 e.symm;omega) ae ar.ne (aZ (oG eo) ar.sum) ar.lab ar.dat ar.aI ar.len ae (ap.2.2.2 ae u.Pm) ae);have dI:=af aI.2.2;generalize hw:(aC 32 eu.data).length=g4 at *;clear dH aD ar ap b5 ck cH an bE;go_wp2_with fail;refine eD.mono ?_;rintro e c1 ⟨rfl,aY,bR,bS,ek⟩;have fm:Hid (eI c1 H (eV (d.take (q+1)) st.S st.es).1 aY/\fJ c1 w.heap.size H aY (eV (d.take (q+1)) st.S st.es).2/\eQ H bX bp c1 aY):=by rw[Hid,ag dk];exact⟨bR,bS,dI.trans ek⟩
        clear bR bS ek eD dI;go_wp2;exact⟨⟨q+1,aY,bq,ae,fm⟩,ci⟩
       ·obtain rfl:q=d.length:=ae;have fk:¬(d.length:Int)<(d.length:Int):=ae;have be:=ag aI;rw[ie av]at be ap eP;obtain⟨F,bv⟩:∃eX,eV d st.S st.es=eX:=⟨_,rfl⟩
        rw[bv]at be ap;obtain⟨gz,gA⟩:=be.1.cells;have cl:=af be;obtain⟨aK,cG⟩:=a2 F.1.length;have gB:(ai F.1).size=aK:=by rw[a7,cG]
        have gC:aK<=80000:=ae;have gD:IntKind.i64.wrap ((aK:Int)+(x:Int))=(aK:Int)+(x:Int):=cX
        have fn:=af (ap.2.2.2 ae u.Pm);have eW:=af ap.2.2.1;have fo:=af ap.1;have fp:Hid (st.es.length<=F.2.length):=by rw[Hid,<- bv];exact KN d st.S st.es
        have b2:=af cG;have cm:=af bv;clear be cG bv ap an;by_cases d6:C<aK+x
        ·have eL:(C:Int)<(aK:Int)+(x:Int):=ae;have fL:Hid (a_ = { st with tc:=decide (b<2),full:=true }):=by
          have:=ag bU;rw[ag dD,KO b0 (by rw[ag cm,<- ag b2];exact d6)]at this;exact this.symm
         have fq:=af ((u.below a9).mono (m:=100*b+(l.take (c+1)).flatten.length) (by have:=ch.1;omega));have b8:=af (aX.trans (bG.wI (ag a9)));have fr:IntKind.i64.wrap ((c:Int)+1)=((c+1:Nat):Int):=cX
         go_wp2_with fail;refine⟨⟨c+1,G,v,{ st with tc:=decide (b<2),full:=true },rfl,bP Value.bool (decide_eq_decide.2 ae),rfl,bq,ae,?_,?_,ay,b8⟩,ci⟩
         ·have h:=ag fq;exact⟨h.wr,h.ow,h.aw,h.aa1,h.sl,h.el,h.Pm,h.cl,h.cn,h.lo⟩
         ·rw[Hid,CL rfl];exact fL.symm
        ·have eL:¬(C:Int)<(aK:Int)+(x:Int):=ae;have aN:=u.below a9;have bN:=aN.cl;have aM:b+1<st.cs.length:=ae;obtain⟨t,bf⟩:=a2 (st.cs[b+1]);have gE:t<=1000:=by
          have:=aN.cn t (by rw[bf];exact bM aM);have:=ch.2;have:=x_ l c;rw[show l.flatten=gm from yy]at this;omega
         have d7:wr.cell? (aq cb (b+1))=some (ak t):=by
          have:=aN.aw.c.cell (b+1) (by rw[bD];exact aM);rw[kT]at this;rw[bf];exact this
         have dJ:=aN.aw.c.frozen (b+1);have fM:Hid (hH C x b (l.drop (c+1)) { st with S:=F.1,es:=F.2,cs:=st.cs.set (b+1) (t+d.length) }=a_):=by
          have:=ag bU;rw[ag dD,KP b0 (by rw[ag cm,<- ag b2];exact d6),ag cm]at this;rw[Hid,<- this,bf,fh,dV aM];rfl
         have fr:IntKind.i64.wrap ((c:Int)+1)=((c+1:Nat):Int):=cX
         have fG:IntKind.i64.wrap ((b:Int)+1)=(b:Int)+1:=cX
         have hj:(0:Int)<=(b:Int)+1:=ae;have hk:(b:Int)+1<4:=ae;have hl:((b:Int)+1).toNat=b+1:=ae;have hm:b+1<4:=ae;have g2:IntKind.i64.wrap ((t:Int)+(d.length:Int))=(t:Int)+(d.length:Int):=cX
         have dK:=af aN;have eO:=af bf;have eK:wr.drew.cell? (aq cb (b+1))=some (ak t):=d7;have e5:wr.drew.cell? (aq cf c)=some (.slice ey d.length ez):=fF;have gh:wr.drew.frozen? (aq cb (b+1))=false:=dJ;clear aN bf fi fj;go_wp2_with fail
         go_region
         all_goals
          have h:=ag dK;have fN:((t+d.length:Nat):Int)=(t:Int)+(d.length:Int):=ae;have cn:=h.aw.set (b+1) (t+d.length) aM;rw[fN]at cn;have bo:Below (wr.setCell ⟨cb,b+1,none⟩ (.int .i64 ((t:Int)+(d.length:Int)))).heap.size (wr.setCell ⟨cb,b+1,none⟩ (.int .i64 ((t:Int)+(d.length:Int)))) (wr.setCell ⟨cb,b+1,none⟩ (.int .i64 ((t:Int)+(d.length:Int)))).drew:=aE.drew;have bj:eI (wr.setCell ⟨cb,b+1,none⟩ (.int .i64 ((t:Int)+(d.length:Int)))) H F.1 aj:=(kX wr (aq cb (b+1)) H _ (by show H≠cb;omega)).trans cl.1;have ea:=WI cl.2.1 h.aw.c (b+1) (by rw[bD];exact aM) ((t:Int)+(d.length:Int));have e6:Hid (BV w (wr.setCell ⟨cb,b+1,none⟩ (.int .i64 ((t:Int)+(d.length:Int)))).drew cb (cb+1) ab H rc aa (.slice R j.length U) (.slice P i.length Z) (.slice T k.length V) aj { st with S:=F.1,es:=F.2,cs:=st.cs.set (b+1) (t+d.length) } (100*b+(l.take (c+1)).flatten.length)):=by
           have ac:=ag eW;have cx:=ch.1;have g5:=h.el;refine⟨bj.below bo,ea.below bo,cn.below bo,ae,by show F.1.length<=1300;rw[<- ag b2];omega,by show F.2.length<=_;omega,fn,by show(st.cs.set _ _).length=4;rw[s1];exact bN,fun B hc=>?_,by show 12<=F.1.length;have:=h.lo;have:=ag fo;omega⟩;have bK:B∈st.cs.set (b+1) (t+d.length):=hc;rcases zJ bK with bK|bK
           ·have:=h.cn B bK;omega
           ·have:=h.cn t (by rw[ag eO];exact bM aM);omega
          have b8:=af (((aX.trans (bG.wI (ag a9))).trans (bG.kA (a:=⟨cb,b+1,none⟩) _ (fun _ J=>J))).trans (bG.wI bo));have ff:Hid (j++(i++k)≠[]->F.2≠[]):=fun aD fR=>by
           have:=ag ay aD;have c7:=(ag fp)
           rw[fR]at c7;exact this (df (by simpa using c7))
          clear h cn bo bj ea dK u aX a9 aI cl d7 dJ eK e5 gh;generalize (wr.setCell ⟨cb,b+1,none⟩ (.int .i64 ((t:Int)+(d.length:Int)))).drew=hD at *;go_wp2;exact⟨⟨c+1,H,aj,{ st with S:=F.1,es:=F.2,cs:=st.cs.set (b+1) (t+d.length) },rfl,rfl,by rw[b0],bq,ae,e6,fM,ff,b8⟩,ci⟩
     ·have bh:a_=st:=by
       have h:=ag bU;by_cases h1:c<l.length
       ·have bJ:st.full=true:=by
         exact F4
        rw[CL bJ]at h;exact h.symm
       ·rw[uY ae]at h;exact h.symm
      have gj:¬(c:Int)<(l.length:Int)\/((c:Int)<(l.length:Int)/\st.full=true):=by
       by_cases h1:c<l.length
       ·right;refine⟨ae,?_⟩;exact F4
       ·left;omega
      have cI:=x_ l c;rw[show l.flatten=gm from yy]at cI;have e7:=af (u.mono (m:=100*(b+1)) ae);have e8:Hid (lj C x (b+1) ([j,i,k].drop (b+1)) st=bs):=by rw[Hid,<- bh];exact gu
      have fG:IntKind.i64.wrap ((b:Int)+1)=((b+1:Nat):Int):=cX
      clear bh hc u bU aX;rcases gj with h1|⟨h1,bJ⟩
      all_goals
       go_wp2;exact⟨⟨b+1,G,v,st,rfl,rfl,by first|rfl|rw[bJ],bq,ae,e7,e8,ay,ae⟩,ci⟩
   ·obtain rfl:b=3:=ae;have eU:¬(3:Int)<3:=ae;have bh:st=bs:=ag bF;have r:=ag u;have bN:=r.cl;have e9:=r.lo;have e_:=r.sl;obtain⟨aG,b_,_,_,_⟩:=r.aw.a.cells;have gf:=r.wr.cells.1;have fW:=r.wr.lt;have hE:=r.aw.a.lt;have dL:=r.aw.c.lt;have b1:Hid (∀W,ax wr W->az 75 #[au s,.bool aa,.bool st.tc,ak rc,aF cb 0 4 4] W (aP (au (iu s aa st.tc rc st.cs)) W)):=fun W d4 =>
     G7 s aa st.tc rc cb 4 st.cs W fS ae gd bN (fun B hc=>by have:=r.cn B hc;omega) (cp dL d4.size) (fun q d9=>(d4.cell (p:=⟨cb,q,none⟩) dL).trans (by
      have:=r.aw.c.cell q (by rw[bD];exact d9);rw[kT]at this;exact this))
    obtain⟨aw,bw⟩:∃eS,eS=iu s aa st.tc rc st.cs:=⟨_,rfl⟩
    rw[<- bw]at b1;have dM:aw.length=12:=by
     rw[bw];unfold iu;rw[a6,a6,de,Ae,bN];simp;omega
    have eN:Hid (p0 s g A ad O rc aa [j,i,k]=aw++st.S.drop 12++Q):=by
     unfold p0;rw[Hid,ag d0,<- bh,<- al.2,<- bw]
    have gF:(ai aw).size=12:=by rw[a7,dM]
    obtain⟨Y,bt⟩:=a2 st.S.length;have gw:(ai st.S).size=Y:=by rw[a7,bt]
    have hq:(ai st.S).extract 12 Y=ai (st.S.drop 12):=by
     have:=qH st.S 12 Y;rw[this,bt,ie (by rw[c8];exact bb _)]
    have gZ:(ai (st.S.drop 12)).size=Y-12:=by rw[a7,c8,bt]
    have bR:ai aw++ai (st.S.drop 12)=ai (aw++st.S.drop 12):=j9 _ _;have hG:(ai (aw++st.S.drop 12)).size=Y:=by rw[a7,a6,c8,dM];omega
    have bS:ai (aw++st.S.drop 12)++ai Q=ai (aw++st.S.drop 12++Q):=j9 _ _;have hr:(12:Int)<=(Y:Int):=ae;have hs:12<=Y:=ae;have gG:Y<=1300:=ae;have ht:¬9223372036854775807<12+(Y-12):=ae;have hv:¬9223372036854775807<Y+x:=ae;have fa:wr.drew.cell? (aq G 0)=some (au st.S):=gf;have dA:wr.drew.cell? (aq ab 0)=some (ak rc):=aG;have gH:wr.drew.cell? (aq ab 1)=some (.bool aa):=b_;have cq:=af r.aw.b;clear r bh bw bt u bF ay e9 e_;go_wp2_with fail;go_region_with (go_at_call 75;refine(b1 _ aE.drew).mono ?_;rintro e gp ⟨rfl,cR⟩;have gg:gp.cell? (aq G 0)=some (au st.S):=(cR.cell (p:=⟨G,0,none⟩) fW).trans fa)
    all_goals
     have fb:=cq.trans (((bk wr.heap.size wr).drew.trans cR).mono cq.size);have eb:=ag eN;rw[c_]at eb;clear b1 cq cR gg;simp only[List.getElem_toArray,cF,cw,Act.put,ep,c5,dl];go_wp2;go_ret;rw[eb];exact⟨rfl,fb⟩
end Go.Proofs.YtkkpahmoljiepaaGreatDoor
