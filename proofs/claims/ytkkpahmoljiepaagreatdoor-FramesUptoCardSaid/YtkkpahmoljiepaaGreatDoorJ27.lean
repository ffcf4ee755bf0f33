import Derived.Test.YtkkpahmoljiepaaGreatDoorJ26
set_option maxRecDepth 1000000
set_option maxHeartbeats 12800000
set_option linter.unusedSimpArgs false
set_option linter.unusedVariables false
namespace Go.Proofs.YtkkpahmoljiepaaGreatDoor
open Go.RowKit Go.Proofs.Tryz
structure Lx(w0 W:World)(cb lb ab:Nat)(rc:Int)(aa:Bool)(va vu vd:Value)(cs:List Nat):Prop where
 c:f_ W cb (cs.map fun n:Nat=>(n:Int)) 3
 l:W.heap[lb]? = some (.cells #[va,vu,vd] 115)
 a:ew W ab rc aa va vu vd
 b:ax w0 W
 hc:w0.heap.size<=cb
 hl:w0.heap.size<=lb
 ha:w0.heap.size<=ab
 ne:lb≠cb/\ab≠cb
section
variable {w0 W:World} {cb lb ab:Nat} {rc:Int} {aa:Bool} {va vu vd:Value} {cs:List Nat} (h:Lx w0 W cb lb ab rc aa va vu vd cs)
include h
theorem Lx.below{b:World}(a:ax W b):Lx w0 b cb lb ab rc aa va vu vd cs :=
 ⟨(a.block cb h.c.lt).trans h.c,(a.block lb (bn.1 h.l).1).trans h.l,h.a.kept (a.block ab h.a.lt),h.b.trans (a.mono h.b.size),h.hc,h.hl,h.ha,h.ne⟩
theorem Lx.set(d e:Nat)(ao:d<cs.length):Lx w0 (W.setCell ⟨cb,d,none⟩ (.int .i64 (e:Int))) cb lb ab rc aa va vu vd (cs.set d e) where
 c:=by rw[zF];exact h.c.set d e
 l:=(kX W (aq cb d) lb _ h.ne.1).trans h.l
 a:=h.a.kept (kX W (aq cb d) ab _ h.ne.2)
 b:=h.b.setCell (p:=⟨cb,d,none⟩) h.hc _
 hc:=h.hc
 hl:=h.hl
 ha:=h.ha
 ne:=h.ne
end
structure BV(w0 W:World)(cb lb ab wb:Nat)(rc:Int)(aa:Bool)(va vu vd:Value)(v:Value)(st:r9)(n:Nat):Prop where
 wr:eI W wb st.S v
 ow:fJ W w0.heap.size wb v st.es
 aw:Lx w0 W cb lb ab rc aa va vu vd st.cs
 aa1:w0.heap.size<=wb
 sl:st.S.length<=1300
 el:st.es.length<=300+700*n
 Pm:∀e∈st.es,e.1.length<=1000/\e.2<=1000000
 cl:st.cs.length=4
 cn:∀c∈st.cs,c<=2+n
 lo:12<=st.S.length
theorem BV.below{w0 W b:World}{cb lb ab d:Nat}{rc:Int}{aa:Bool}{va vu vd v:Value}{c:r9}{n:Nat}(h:BV w0 W cb lb ab d rc aa va vu vd v c n)(a:ax W b):BV w0 b cb lb ab d rc aa va vu vd v c n :=
 ⟨h.wr.below a,h.ow.below a,h.aw.below a,h.aa1,h.sl,h.el,h.Pm,h.cl,h.cn,h.lo⟩
theorem BV.mono{w0 W:World}{cb lb ab c:Nat}{rc:Int}{aa:Bool}{va vu vd v:Value}{b:r9}{a m:Nat}(h:BV w0 W cb lb ab c rc aa va vu vd v b a)(g:a<=m):BV w0 W cb lb ab c rc aa va vu vd v b m :=
 ⟨h.wr,h.ow,h.aw,h.aa1,h.sl,aZ h.el ae,h.Pm,h.cl,fun d e=>aZ (h.cn d e) ae,h.lo⟩
theorem Ww{W:World}{a b e:Nat}{v:Value}{c:ey}(h:fJ W a e v c)(o:b<=a):fJ W b e v c:=by obtain⟨r,l,d,n⟩:=h;refine⟨r,l,⟨d.1,?_⟩,n⟩;rcases d.2 with h|⟨k,g,i,j,p,q⟩;{exact iG};{exact .inr ⟨k,g,i,j,aZ o p,q⟩}
theorem Wx{c d e:World}{i:Nat}{v l:Value}(h:ax c d)(b:eQ i d v e l)(n:c.heap.size<=i)(k:∀a,v.ownBlock=some a->c.heap.size<=a):ax c e :=
 ⟨b.fr.os.trans h.os,b.fr.tape.trans h.tape,b.fr.output.trans h.output,aZ h.size b.fr.size,fun a g=>(b.fr.block a (cp g h.size) ⟨ae,fun j=>by have:=k a j.symm;omega⟩).trans (h.block a g)⟩
theorem x_(a:List (List bL))(b:Nat):(a.take b).flatten.length<=a.flatten.length:=by
 conv=>rhs;rw[<- ft b a]
 rw[List.flatten_append,a6];omega
theorem Wy(a:List (List bL))(b:Nat)(h:b<a.length):(a.take (b+1)).flatten.length=(a.take b).flatten.length+a[b].length:=by rw[du h,List.flatten_append,a6];simp
theorem Wz(a:World):az 83 #[ak 1232] a (aP (au [ao 1232,aV 1232]) a):=iC 1232 a ae
theorem yy{P:Prop}(h:P:=by rw[<- ag Px];exact DC gm):P:=h
theorem BA{P:Prop}(h:P:=by exact⟨none,0,by rw[h,e];rfl⟩;exact⟨_,_,h⟩):P:=h
theorem WA(s i:ah)(B:List ah)(cS:Value)(c2 cx:Int)(al:Bool)(P:Nat)(cu:Int)(rc:Nat)(aa:Bool)(va vu vd:Value)(k j l:List bL)(w:World)(fV:12<=s.length)(hg:s.length<=2000000)(K:un w cS B)(fg:i.length<=1000)(dA:kV B<=300)(da:∀o∈B,o.length<=255)(gg:rc<4096)(bS:P<65536)(cW:iE w va k) (ca:iE w vu j) (cY:iE w vd l) (d2:∀o∈k++(j++l),eY w o.1 o.2.2.2/\eY w o.2.1 (aC 32 o.2.2.1.data)) (dU:∀o∈k++(j++l),Lr o) (eX:k.length<=100) (fk:j.length<=100) (e7:l.length<=100) (bl:k++(j++l)≠[]->B≠[]):az 78 #[au s,.agg #[au i,cS,ak c2,ak cx,.bool al,ak P,ak cu],.agg #[ak rc,.bool aa,va,vu,vd]] w fun e w'=>e=.returned (au (p0 s i B al P rc aa [k,j,l]))/\ax w w':=by
 obtain⟨T,X,gn⟩:∃a C,va=.slice a k.length C:=by rcases cW with⟨h,e⟩|⟨_,_,_,h,_⟩;exact BA
 obtain⟨Q,ad,fi⟩:∃a C,vu=.slice a j.length C:=by rcases ca with⟨h,e⟩|⟨_,_,_,h,_⟩;exact BA
 obtain⟨U,Y,gq⟩:∃a C,vd=.slice a l.length C:=by rcases cY with⟨h,e⟩|⟨_,_,_,h,_⟩;exact BA
 obtain⟨bf,bo,bn,ge⟩:∃a bp C,cS=.slice a bp C:=by rcases K with⟨_,h⟩|⟨_,_,_,h,_⟩<;>exact⟨_,_,_,h⟩
 have e3:=af K;have gv:=af cW;have ff:=af ca;have eL:=af cY;have cM:=af d2;have dW:=af dU;have e5:=af da;have gf:=af bl;clear K cW ca cY d2 dU da bl;subst gn fi gq ge;obtain⟨eH,cT⟩:∃eH:Obj,eH=.cells #[.string (ai i),.slice bf bo bn,.int .i64 c2,.int .i64 cx,.bool al,.int .i64 P,.int .i64 cu] 144:=⟨_,rfl⟩
 obtain⟨dP,cP⟩:∃dP:Obj,dP=.cells #[.int .i64 rc,.bool aa,.slice T k.length X,.slice Q j.length ad,.slice U l.length Y] 123:=⟨_,rfl⟩
 have cy:Hid (ax w ((w.alloc eH).alloc dP)):=(aE.alloc av _).alloc am _;have eh:((w.alloc eH).alloc dP).heap.size=w.heap.size+2:=am;have eF:((w.alloc eH).alloc dP).heap[w.heap.size]? = some (.cells #[.string (ai i),.slice bf bo bn,.int .i64 c2,.int .i64 cx,.bool al,.int .i64 P,.int .i64 cu] 144):=by
  rw[<- cT];exact B2
 have eK:ew ((w.alloc eH).alloc dP) (w.heap.size+1) rc aa (.slice T k.length X) (.slice Q j.length ad) (.slice U l.length Y):=by
  have:=World.alloc_heap_new (w.alloc eH) dP;rw[cv]at this;unfold ew;rw[this,cP]
 have bX:=af eF;have bt:=af eK;clear eF eK;obtain⟨D,dB⟩:=a2 (oJ al P);obtain⟨R,dC⟩:=a2 (iV al rc);have ap:=af (aQ dB dC);clear dB dC;go_enter func78,ntmps78
 go_upto_if 20 with fail
 rw[<- cT,<- cP];obtain⟨F,ej⟩:∃F,(w.alloc eH).alloc dP=F:=⟨_,rfl⟩
 rw[ej]at cy eh bX bt ⊢;have hi:w.heap.size+2<=F.heap.size:=ae;clear ej cT cP eh
 go_cut [7,8]from 21 to 33 (fun a1 gp gu=>a1=ak D/\gp=au R/\Hid (ax F gu))
 case first =>
  have cC:=ag bX;have gd:F.cell? (aq w.heap.size 5)=some (ak P):=by simp[World.cell?,cC]
  have aI:=bt.cells.1;cases al with
  | false =>
   have aX:D=512/\R=[]:=by rw[ap.1,ap.2];exact dX
   clear cC gd aI;go_wp2_with fail;go_meet
   case rel=>exact⟨by rw[aX.1];rfl,by rw[aX.2];rfl,bk _ _⟩
  | true =>
   have aX:((D:Nat):Int)=max 512 (min (P:Int) 1232)/\R=CM rc:=by
    rw[ap.1,ap.2];refine⟨?_,rfl⟩;show((max 512 (min P 1232):Nat):Int)=_;omega
   have dD:F.drew.cell? (aq (w.heap.size+1) 0)=some (ak rc):=aI;obtain⟨z,hu⟩:∃z:UInt8,z=UInt8.ofNat (rc/16):=⟨_,rfl⟩
   obtain⟨bV,eM⟩:=a2 (rc/16);have hp:(rc:Int)/16=(bV:Int):=ae;have hq:IntKind.u8.wrap (bV:Int)=(z.toNat:Int):=uA
   have hr:IntKind.i64.wrap (bV:Int)=(bV:Int):=cX
   have cd:R=[0,0,41]++[ao 1232,aV 1232]++[z,0,0,0,0,0]:=by rw[aX.2,hu];rfl
   have gM:=af cd;have d6:=aX.1;have fv:=af d6;have gN:(convert 58 9 (aF F.heap.size 0 6 6)).run prog (F.alloc (.cells #[.int .u8 z.toNat,.int .u8 0,.int .u8 0,.int .u8 0,.int .u8 0,.int .u8 0] 5)).drew=.ok (au [z,0,0,0,0,0]) (F.alloc (.cells #[.int .u8 z.toNat,.int .u8 0,.int .u8 0,.int .u8 0,.int .u8 0,.int .u8 0] 5)).drew:=KR [z,0,0,0,0,0] 6 rfl mv (World.alloc_heap_new F _);have fw:(F.alloc (.cells #[.int .u8 z.toNat,.int .u8 0,.int .u8 0,.int .u8 0,.int .u8 0,.int .u8 0] 5)).drew.cell? (aq (w.heap.size+1) 0)=some (ak rc):=(b7 (a:=⟨w.heap.size+1,0,none⟩) (bx F _ (w.heap.size+1) ae)).trans aI;have hN:(ai [z,0,0,0,0,0]).size=6:=rfl;have hK:(ai [ao 1232,aV 1232]).size=2:=rfl;have hL:ByteArray.size ⟨#[0,0,41]⟩=3:=rfl;have bT:(⟨#[0,0,41]⟩:ByteArray)++ai [ao 1232,aV 1232]=ai [0,0,41,ao 1232,aV 1232]:=rfl;have hM:(ai [0,0,41,ao 1232,aV 1232]).size=5:=rfl;have bU:ai [0,0,41,ao 1232,aV 1232]++ai [z,0,0,0,0,0]=ai R:=by rw[cd];exact iD
   clear cC hu eM aX cd d6;go_wp2_with fail;go_region_with (go_at_call 83;refine(Wz _).mono ?_;rintro e w2 ⟨rfl,M⟩;have gO:w2.cell? (aq (w.heap.size+1) 0)=some (ak rc):=(M.cell (p:=⟨w.heap.size+1,0,none⟩) (by show w.heap.size+1<_;simp;omega)).trans (by first|exact dD|exact fw);have gP:(convert 58 9 (aF w2.heap.size 0 6 6)).run prog (w2.alloc (.cells #[.int .u8 z.toNat,.int .u8 0,.int .u8 0,.int .u8 0,.int .u8 0,.int .u8 0] 5))=.ok (au [z,0,0,0,0,0]) (w2.alloc (.cells #[.int .u8 z.toNat,.int .u8 0,.int .u8 0,.int .u8 0,.int .u8 0,.int .u8 0] 5)):=pf w2 [z,0,0,0,0,0] 6 rfl mv;try have gQ:(convert 58 9 (aF F.heap.size 0 6 6)).run prog w2=.ok (au [z,0,0,0,0,0]) w2:=KR [z,0,0,0,0,0] 6 rfl mv ((M.block F.heap.size am).trans (World.alloc_heap_new F _)))
   all_goals
    go_wp2_with fail;go_meet
    case rel =>
     refine⟨bP (Value.int .i64) fv.symm,rfl,?_⟩
     first
      | exact(aE.drew).trans (M.alloc M.size _)
      | exact((aE.alloc av _).drew).trans (M.mono am)
 case rest =>
  obtain⟨rfl,rfl,dT⟩:=hcut;generalize wc=w2 at *;have M:=ag dT;have hj:=M.size;have ce:w2.heap[w.heap.size]? = _:=(M.block w.heap.size ae).trans (ag bX);have ev:w2.cell? (aq w.heap.size 1)=some (.slice bf bo bn):=by simp[World.cell?,ce]
  have eJ:=bt.kept (M.block (w.heap.size+1) ae);have em:=af ce;have ez:=af eJ;have bw:=cy.trans (M.mono ae);have cf:=af bw;obtain⟨y,bK⟩:=a2 R.length;have gR:(ai R).size=y:=by rw[a7,bK]
  have gS:y<=11:=by
   rw[bK,ap.2];unfold iV;split
   ·exact bb _
   ·simp
  have gT:512<=D/\D<=1232:=by
   rw[ap.1];unfold oJ;split<;>omega
  obtain⟨aT,b1⟩:∃aT:Obj,aT=.cells #[.string (ai cD),.slice none 0 0] 229:=⟨_,rfl⟩
  have fx:=dA;have e4:=aZ (oG B) dA;have d8:eI (w2.alloc aT) w2.heap.size cD (aJ):=by unfold eI;rw[World.alloc_heap_new,b1]
  have a3:ax w2 (w2.alloc aT):=aE.alloc av _;have dq:=af (WH w2.heap.size w.heap.size cD (aJ) [] (.slice bf bo bn) B w (w2.alloc aT) (ag e3) (bw.trans (a3.mono bw.size)) ae (fun d aK=>by cases aK) d8 (fJ.nil _ _ _) aA e4 (ag e5) ba (fun e bi=>by cases bi) am);have gh:=af bK;have fy:(w2.alloc (.cells #[.string ⟨#[116,119,101,108,118,101,32,98,121,116,101,115]⟩,.slice none 0 0] 229)).cell? (aq w.heap.size 1)=some (.slice bf bo bn):=(b7 (a:=⟨w.heap.size,1,none⟩) (bx w2 _ w.heap.size ae)).trans ev;clear M eJ ce bw bK fx dT cy bX bt;go_wp2_with fail;have dr:Obj.cells #[.string ⟨#[116,119,101,108,118,101,32,98,121,116,101,115]⟩,.slice none 0 0] 229=aT:=b1.symm;rw[dr];refine dq.mono ?_;rintro e q ⟨rfl,c3,bB,ds,aN⟩;have fW:=aN.fr.size;rw[cv]at fW;have bY:∀d,d<w2.heap.size->q.heap[d]? = w2.heap[d]?:=fun d aK=>(aN.fr.block d aA ⟨ae,fun e=>by cases e⟩).trans (a3.block d aK);have dt:=(bY w.heap.size ae).trans (ag em);have gc:q.cell? (aq w.heap.size 0)=some (au i):=by simp[World.cell?,dt]
  have c9:=ez.kept (bY (w.heap.size+1) ae);have ek:ax w q:=cf.trans ⟨aN.fr.os.trans a3.os,aN.fr.tape.trans a3.tape,aN.fr.output.trans a3.output,ae,fun d aK=>bY d (by have:=cf.size;omega)⟩;have cg:=ly bB ds (eQ.refl _ _ _) aE (cD++i);have fX:∀d,c3.ownBlock=some d->w.heap.size+2<=d:=fun d aK=>by
   rcases aN.ob d aK with h|h
   ·cases h
   ·rw[cv]at h;omega
  have b9:=c9.kept (w':=q.setCell ⟨w2.heap.size,0,none⟩ (.string (ai (cD++i)))) (kX q (aq w2.heap.size 0) (w.heap.size+1) _ (by show w.heap.size+1≠w2.heap.size;omega));have cB:=ek.setCell (p:=⟨w2.heap.size,0,none⟩) BX (au (cD++i));have f5:(⟨#[116,119,101,108,118,101,32,98,121,116,101,115]⟩:ByteArray)++ai i=ai (cD++i):=j9 cD i;have e6:ByteArray.size ⟨#[116,119,101,108,118,101,32,98,121,116,101,115]⟩=12:=rfl;have fz:(ai i).size<=1000:=by rw[a7];exact fg
  have fT:=bB.frozen;obtain⟨CF,up⟩:=bB.cells;obtain⟨aI,cc,dk,dm,dn⟩:=b9.cells;obtain⟨L,du⟩:∃f7,f7=y/11:=⟨_,rfl⟩
  have el:(y:Int)/11=(L:Int):=ae;have f2:IntKind.i64.wrap (L:Int)=(L:Int):=cX
  have f3:(y:Int).tdiv 11=(L:Int):=by rw[GL ae];exact el
  have cZ:Hid (((bd B cD []).2).length<=300/\∀e∈(bd B cD []).2,e.1.length<=1000/\e.2<=1000000):=by
   have V:=oH B cD [];refine⟨by simp at V;omega,x7 B cD [] (by show 12+kV B<=1000000;omega) ae (fun e bi=>by cases bi)⟩
  have dv:Hid (∀(A J:Obj),A=.cells #[.int .i64 1,.int .i64 0,.int .i64 0,.int .i64 L] 3->J=.cells #[.slice T k.length X,.slice Q j.length ad,.slice U l.length Y] 115 ->
    BV w (((q.setCell ⟨w2.heap.size,0,none⟩ (.string (ai (cD++i)))).alloc A).alloc J) q.heap.size (q.heap.size+1) (w.heap.size+1) w2.heap.size rc aa (.slice T k.length X) (.slice Q j.length ad) (.slice U l.length Y) c3 ⟨cD++i,(bd B cD []).2,[1,0,0,L],false,false⟩ 0):=fun A J a4 a5=>by
   have bS:(q.setCell ⟨w2.heap.size,0,none⟩ (.string (ai (cD++i)))).heap.size=q.heap.size:=am;have aG:Below (q.setCell ⟨w2.heap.size,0,none⟩ (.string (ai (cD++i)))).heap.size (q.setCell ⟨w2.heap.size,0,none⟩ (.string (ai (cD++i)))) (((q.setCell ⟨w2.heap.size,0,none⟩ (.string (ai (cD++i)))).alloc A).alloc J):=(aE.alloc av _).alloc am _;refine⟨cg.1.below aG,cg.2.1.below aG,⟨?_,?_,b9.kept (aG.block _ (by rw[bS];omega)),cB.trans (aG.mono cB.size),ae,ae,ae,ae,ae⟩,ae,by show(cD++i).length<=1300;rw[a6];show 12+i.length<=1300;omega,cZ.1,cZ.2,rfl,fun C hc=>?_,by show 12<=(cD++i).length;rw[a6];show 12<=12+i.length;omega⟩
   ·have V:(((q.setCell ⟨w2.heap.size,0,none⟩ (.string (ai (cD++i)))).alloc A).alloc J).heap[q.heap.size]? = some A:=by
     have h0:=World.alloc_heap_new (q.setCell ⟨w2.heap.size,0,none⟩ (.string (ai (cD++i)))) A;rw[bS]at h0;exact(bx ((q.setCell ⟨w2.heap.size,0,none⟩ (.string (ai (cD++i)))).alloc A) J q.heap.size am).trans h0
    unfold f_;rw[V,a4];rfl
   ·have:=World.alloc_heap_new ((q.setCell ⟨w2.heap.size,0,none⟩ (.string (ai (cD++i)))).alloc A) J;rw[cv,bS]at this;rw[this,a5]
   ·exact EG
  clear bB ds aN bY dt c9 cg b9 ek cB d8 a3 dq em ez cf cZ dr b1 f3;have hh:L<=1:=ae;have fA:=af du;clear du;have bC:∀(A:Obj) (c:Nat),((q.setCell ⟨w2.heap.size,0,none⟩ (.string (ai (cD++i)))).alloc A).cell? (aq (w.heap.size+1) c)=(q.setCell ⟨w2.heap.size,0,none⟩ (.string (ai (cD++i)))).cell? (aq (w.heap.size+1) c):=fun A c=>b7 (a:=⟨w.heap.size+1,c,none⟩) (bx _ _ (w.heap.size+1) aA);have fL:=(bC (.cells #[.int .i64 1,.int .i64 0,.int .i64 0,.int .i64 L] 3) 2).trans dk;have fM:=(bC (.cells #[.int .i64 1,.int .i64 0,.int .i64 0,.int .i64 L] 3) 3).trans dm;have fN:=(bC (.cells #[.int .i64 1,.int .i64 0,.int .i64 0,.int .i64 L] 3) 4).trans dn;clear bC aI cc dk dm dn;go_wp2_with fail;obtain⟨A,a4⟩:∃A:Obj,A=.cells #[.int .i64 1,.int .i64 0,.int .i64 0,.int .i64 L] 3:=⟨_,rfl⟩
  obtain⟨J,a5⟩:∃J:Obj,J=.cells #[.slice T k.length X,.slice Q j.length ad,.slice U l.length Y] 115:=⟨_,rfl⟩
  rw[<- a4,<- a5];have dw:=af (dv A J a4 a5);have ha:q.heap.size+2<=(((q.setCell ⟨w2.heap.size,0,none⟩ (.string (ai (cD++i)))).alloc A).alloc J).heap.size:=am;clear dv fL fM fN a4 a5;generalize ((q.setCell ⟨w2.heap.size,0,none⟩ (.string (ai (cD++i)))).alloc A).alloc J=gr at *;obtain⟨cb,cG⟩:=a2 q.heap.size;obtain⟨aU,a8⟩:∃b:r9,b=⟨cD++i,(bd B cD []).2,[1,0,0,L],false,false⟩:=⟨_,rfl⟩
  obtain⟨ab,cE⟩:=a2 (w.heap.size+1);rw[<- cG,<- cE,<- a8]at dw;have d3:Hid (sk i B al P rc [k,j,l]=lj D y 0 [k,j,l] aU):=by
   unfold sk;rw[Hid,<- ap.1,<- ap.2,<- ag gh,<- ag fA,<- a8]
  obtain⟨bu,b5⟩:∃eP,lj D y 0 [k,j,l] aU=eP:=⟨_,rfl⟩
  have eU:=af b5;rw[b5]at d3;rw[<- cG,<- cE];have dc:(Value.bool false)=.bool aU.tc/\(Value.bool false)=.bool aU.full:=by rw[a8];exact dX
  have eD:=af dc;have gU:w.heap.size+3<=cb/\cb+2<=gr.heap.size:=ae;have g1:w.heap.size<=ab/\ab<cb:=ae;have e2:Hid (k++(j++l)≠[]->aU.es≠[]):=fun h=>by
   have K:=ag gf h;rw[a8];show(bd B cD []).2≠[];cases B with
   | nil=>exact absurd rfl K
   | cons o c0 =>
    rw[lx dO];intro bi;have:=(oH c0 (cD++(UInt8.ofNat o.length::o)) ([]++[(cO (o::c0),cD.length)])).2.2.1;rw[bi]at this;simp at this
  clear a8 cG cE b5 dc CF up gc ev fy fT f5 e6 fz el f2 fX;have dx:∀c,c<3->∃(a:Option Addr) (bp d:Nat) (o:List bL),[Value.slice T k.length X,.slice Q j.length ad,.slice U l.length Y][c]? = some (.slice a bp d)/\[k,j,l].drop c=o::[k,j,l].drop (c+1)/\iE w (.slice a bp d) o/\o.length<=100/\(∀E∈o,E∈k++(j++l))/\bp=o.length:=fun c ao=>by
   match c,ao with
   | 0,_=>exact⟨T,_,X,k,rfl,rfl,gv,eX,fun E N=>by simp[N],rfl⟩
   | 1,_=>exact⟨Q,_,ad,j,rfl,rfl,ff,fk,fun E N=>by simp[N],rfl⟩
   | 2,_=>exact⟨U,_,Y,l,rfl,rfl,eL,e7,fun E N=>by simp[N],rfl⟩
  have fB:=af dx;clear dx
  go_loopw [9,11,12,14] (fun c6 c1 cA O wr=>∃(c H:Nat) (v:Value) (b:r9),c6=aO H/\c1=.bool b.tc/\cA=.bool b.full/\O=ak c/\c<=3/\Hid (BV w wr cb (cb+1) ab H rc aa (.slice T k.length X) (.slice Q j.length ad) (.slice U l.length Y) v b (100*c))/\Hid (lj D y c ([k,j,l].drop c) b=bu)/\Hid (k++(j++l)≠[]->b.es≠[])/\cb+2<=wr.heap.size) (fun _ _ _ O _=>3-(intOf O).toNat)
  case atStart=>exact⟨0,w2.heap.size,c3,aU,rfl,eD.1,eD.2,rfl,ae,dw,eU,e2,ae⟩
  case round =>
   obtain⟨c,H,v,b,rfl,rfl,rfl,rfl,ao,x,bI,aD,he⟩:=hrel;by_cases c7:c<3
   ·have eZ:(c:Int)<3:=ae;obtain⟨eq,gV,er,gm,aj,cz,ef,f1,a9,rfl⟩:=ag fB c c7;have t:=ag x;have ec:wr.cell? (aq (cb+1) c)=some (.slice eq gm.length er):=by
     have:=t.aw.l;unfold World.cell?;rw[this]
     match c,c7,aj with
     | 0,_,aj=>simpa using aj
     | 1,_,aj=>simpa using aj
     | 2,_,aj=>simpa using aj
    have eg:=ef.below t.aw.b;have di:=af (WJ (.slice eq gm.length er) gm wr eg (fun o aH=>⟨(cM o (a9 o aH)).1.below t.aw.b,(cM o (a9 o aH)).2.below t.aw.b,by
     have V:=(dW o (a9 o aH)).sum;have bN:=oG o.2.2.2;omega⟩) ae)
    have fC:=af a9;have eo:=af cz;clear t ef eg aj cz a9;go_wp2_with fail;refine di.mono ?_;rintro e eE ⟨f6,rfl,bE,aG⟩;have hk:=aG.size;have dy:=af (x.below aG);obtain⟨n,a_⟩:∃n,dN gm=n:=⟨_,rfl⟩
    rw[a_]at bE;obtain⟨gW,fD,bR⟩:∃a C,f6=.slice a n.length C:=by
     rcases bE with⟨h,h0⟩|⟨g,g4,h,_⟩
     ·exact B1
     ·exact⟨_,_,h⟩
    subst bR;have ex:=af bE;have Px:=af a_;have gX:n.length<=100:=by rw[<- a_];exact aZ (WF gm) f1
    obtain⟨be,b6⟩:∃s,hH D y c n b=s:=⟨_,rfl⟩
    have dz:=af b6;have gx:Hid (lj D y (c+1) ([k,j,l].drop (c+1)) be=bu):=by
     have:=ag bI;rw[ag eo,lj,a_,b6]at this;exact this
    obtain⟨eA,dg⟩:=a2 wr.heap.size;rw[<- dg]at ex;have gY:cb+2<=eA/\eA<=eE.heap.size:=ae;clear bE aG di x bI eo a_ b6 ec dg;generalize wr=gZ at *;go_wp2_with fail
    go_loopw [9,11,12,16] (fun c6 c1 cA O wr=>∃(d H:Nat) (v:Value) (b:r9),c6=aO H/\c1=.bool b.tc/\cA=.bool b.full/\O=ak d/\d<=n.length/\Hid (BV w wr cb (cb+1) ab H rc aa (.slice T k.length X) (.slice Q j.length ad) (.slice U l.length Y) v b (100*c+(n.take d).flatten.length))/\Hid (hH D y c (n.drop d) b=be)/\Hid (k++(j++l)≠[]->b.es≠[])/\Hid (bG (fun Z=>Z≠cb) eE wr)) (fun _ _ _ O _=>n.length-(intOf O).toNat)
    case atStart=>exact⟨0,H,v,b,rfl,rfl,rfl,rfl,ae,dy.mono ae,dz,aD,bG.refl _ _⟩
    case round =>
     clear dy aD dz;obtain⟨d,H,v,b,rfl,rfl,rfl,rfl,aK,x,bW,aD,a0⟩:=hrel;have gy:=a0.size;by_cases hc:d<n.length/\b.full=false
     ·obtain⟨aW,b2⟩:=hc;have hC:(d:Int)<(n.length:Int):=ae;have fE:=ex.fr a0 (fun Z K=>ae);rcases fE with⟨_,h0⟩|⟨ch,hz,bR,ec,fF,g0,eu⟩
      ·rw[h0]at aW;simp at aW
      obtain⟨rfl,-,rfl⟩:=gL bR;obtain⟨dE,z,hu,bF,dd⟩:=eu d aW;have cH:=fQ aW;have cj:=Wy n d aW;have cN:=x_ n (d+1);rw[show n.flatten=gm from yy]at cN;have cL:=x_ n d;rw[show n.flatten=gm from yy]at cL;have b0:∀E∈n[d],E∈k++(j++l):=fun E N=>ag fC E (ul gm n[d] (by rw[ag Px];exact bM aW) E N);obtain⟨g,ea⟩:∃g,n[d]=g:=⟨_,rfl⟩
      rw[ea]at dE bF cH cj b0;obtain⟨eB,eC,bH⟩:∃a C,z=.slice a g.length C:=by
       rcases bF with⟨h,h0⟩|⟨_,_,_,h,_⟩
       ·exact B1
       ·exact⟨_,_,h⟩
      subst bH;have bl:b.es≠[]:=ag aD (fun h=>by
       cases g with
       | nil=>exact dE rfl
       | cons E c0=>have:=b0 E am;rw[h]at this;cases this)
      have t:=ag x;have fS:=t.el;have dh:=af (Wk H w.heap.size b.S v b.es wr t.wr t.ow bl ae);have dj:=af (aQ hu (aQ bF dd));have dF:=af b0;have dG:=af cH;have ck:=af (aQ cj cN);have hA:g.length<=100:=ae;clear eu hu bF dd b0 cH cj cN t bR fS bl ea;go_wp2_with fail;refine dh.mono ?_;rintro e bZ ⟨I,bs,rfl,f0,bm,cl,bJ⟩;have fG:=x.below bJ;have dH:Hid (eI bZ I b.S bs/\fJ bZ w.heap.size I bs b.es):=⟨bm,Ww cl x.aw.b.size⟩
      have dI:=af (fun Z K=>(cl.lt Z K).1);have f4:=af bJ;have hD:=bJ.size;have gw:=x.aw.b.size;have dJ:=af (fun E N=>ag dW E (dF E N));clear bm cl bJ fG dh;generalize wr=fH at *;go_wp2_with fail
      go_loopw [18] (fun O wr=>∃(r:Nat) (an:Value),O=ak r/\r<=g.length/\Hid (eI wr I (eV (g.take r) b.S b.es).1 an/\fJ wr w.heap.size I an (eV (g.take r) b.S b.es).2/\eQ I bZ bs wr an)) (fun O _=>g.length-(intOf O).toNat)
      case atStart=>exact⟨0,bs,rfl,ae,by rw[kW];exact dH.1,by rw[kW];exact dH.2,eQ.refl _ _ _⟩
      case round =>
       obtain⟨r,an,rfl,eb,aL⟩:=hrel;have ar:=Wx (ag f4) aL.2.2 f0 (ag dI);have g_:=ar.size;have fI:wr.cell? (aq ch d)=some (.slice eB g.length eC):=(ar.cell (p:=⟨ch,d,none⟩) fF).trans dj.1;have g6:d<fD:=ae;have bc:=af ar;have gB:=aZ x.aw.b.size ar.size;have ei:∀Z,an.ownBlock=some Z->fH.heap.size<=Z:=fun Z K=>by
        rcases aL.2.2.ob Z K with h|h
        ·exact dI Z h
        ·omega
       have aw:=KK (g.take r) (fun E N=>ag dJ E (mJ N)) b.S b.es;have eT:(g.take r).length<=100:=jX
       have fl:=x.sl;have fm:=x.el;by_cases aY:r<g.length
       ·have fn:(r:Int)<(g.length:Int):=ae;have fo:=dj.2.1.below ar;rcases fo with⟨_,h0⟩|⟨hd,hB,hb,bH,gA,g3,dK⟩
        ·rw[h0]at aY;simp at aY
        obtain⟨rfl,-,rfl⟩:=gL bH;obtain⟨cU,dY,dZ,d0,d1⟩:=dK r aY;obtain⟨cQ,cR⟩:=ag cM g[r] (dF g[r] (bM aY));have ay:=ag dJ g[r] (bM aY);have dp:=af (Wh g r aY b.S b.es);obtain⟨o,aH⟩:∃o,g[r]=o:=⟨_,rfl⟩
        rw[aH]at cU dY dZ d0 d1 cQ cR ay dp;obtain⟨hE,g9,ey,et⟩:=o;simp only at cU dY dZ d0 d1 cQ cR;obtain⟨d4,f9,f8,rfl,gb,b8⟩:=cQ;obtain⟨d5,ga,gt,rfl,fY,cm⟩:=cR;have hf:=b8.1;have hI:=cm.1;have cK:=x.aw.b.trans (ar.mono gw);have eG:=af (Wu I w.heap.size (eV (g.take r) b.S b.es).1 an (eV (g.take r) b.S b.es).2 ey d4 f9 f8 d5 ga gt et wr aL.1 aL.2.1 (b8.below cK) gb ae (fun e=>by have:=ei d4 e.symm;omega) (cm.below cK) fY ae (fun e=>by have:=ei d5 e.symm;omega) ae ay.ne (aZ (oG et) ay.sum) ay.lab ay.dat ay.aI ay.len ae (aw.2.2.2 ae x.Pm) ae);have dL:=af aL.2.2;generalize hy:(aC 32 ey.data).length=g7 at *;clear dK aH ay aw b8 cm cK ar bH;go_wp2_with fail;refine eG.mono ?_;rintro e c4 ⟨rfl,a1,bT,bU,en⟩;have fp:Hid (eI c4 I (eV (g.take (r+1)) b.S b.es).1 a1/\fJ c4 w.heap.size I a1 (eV (g.take (r+1)) b.S b.es).2/\eQ I bZ bs c4 a1):=by rw[Hid,ag dp];exact⟨bT,bU,dL.trans en⟩
        clear bT bU en eG dL;go_wp2;exact⟨⟨r+1,a1,bq,ae,fp⟩,ci⟩
       ·obtain rfl:r=g.length:=ae;have fn:¬(g.length:Int)<(g.length:Int):=ae;have bg:=ag aL;rw[ie av]at bg aw eT;obtain⟨G,bz⟩:∃e1,eV g b.S b.es=e1:=⟨_,rfl⟩
        rw[bz]at bg aw;obtain⟨gC,gD⟩:=bg.1.cells;have cn:=af bg;obtain⟨aM,cJ⟩:=a2 G.1.length;have gE:(ai G.1).size=aM:=by rw[a7,cJ]
        have gF:aM<=80000:=ae;have gG:IntKind.i64.wrap ((aM:Int)+(y:Int))=(aM:Int)+(y:Int):=cX
        have fq:=af (aw.2.2.2 ae x.Pm);have e0:=af aw.2.2.1;have fr:=af aw.1;have fs:Hid (b.es.length<=G.2.length):=by rw[Hid,<- bz];exact KN g b.S b.es
        have b4:=af cJ;have cq:=af bz;clear bg cJ bz aw ar;by_cases d9:D<aM+y
        ·have eO:(D:Int)<(aM:Int)+(y:Int):=ae;have fO:Hid (be = { b with tc:=decide (c<2),full:=true }):=by
          have:=ag bW;rw[ag dG,KO b2 (by rw[ag cq,<- ag b4];exact d9)]at this;exact this.symm
         have ft:=af ((x.below bc).mono (m:=100*c+(n.take (d+1)).flatten.length) (by have:=ck.1;omega));have b_:=af (a0.trans (bG.wI (ag bc)));have fu:IntKind.i64.wrap ((d:Int)+1)=((d+1:Nat):Int):=cX
         go_wp2_with fail;refine⟨⟨d+1,H,v,{ b with tc:=decide (c<2),full:=true },rfl,bP Value.bool (decide_eq_decide.2 ae),rfl,bq,ae,?_,?_,aD,b_⟩,ci⟩
         ·have h:=ag ft;exact⟨h.wr,h.ow,h.aw,h.aa1,h.sl,h.el,h.Pm,h.cl,h.cn,h.lo⟩
         ·rw[Hid,CL rfl];exact fO.symm
        ·have eO:¬(D:Int)<(aM:Int)+(y:Int):=ae;have aS:=x.below bc;have bQ:=aS.cl;have aR:c+1<b.cs.length:=ae;obtain⟨u,bh⟩:=a2 (b.cs[c+1]);have gH:u<=1000:=by
          have:=aS.cn u (by rw[bh];exact bM aR);have:=ck.2;have:=x_ n d;rw[show n.flatten=gm from yy]at this;omega
         have d_:wr.cell? (aq cb (c+1))=some (ak u):=by
          have:=aS.aw.c.cell (c+1) (by rw[bD];exact aR);rw[kT]at this;rw[bh];exact this
         have dM:=aS.aw.c.frozen (c+1);have fP:Hid (hH D y c (n.drop (d+1)) { b with S:=G.1,es:=G.2,cs:=b.cs.set (c+1) (u+g.length) }=be):=by
          have:=ag bW;rw[ag dG,KP b2 (by rw[ag cq,<- ag b4];exact d9),ag cq]at this;rw[Hid,<- this,bh,fh,dV aR];rfl
         have fu:IntKind.i64.wrap ((d:Int)+1)=((d+1:Nat):Int):=cX
         have fK:IntKind.i64.wrap ((c:Int)+1)=(c:Int)+1:=cX
         have hl:(0:Int)<=(c:Int)+1:=ae;have hm:(c:Int)+1<4:=ae;have hn:((c:Int)+1).toNat=c+1:=ae;have ho:c+1<4:=ae;have g5:IntKind.i64.wrap ((u:Int)+(g.length:Int))=(u:Int)+(g.length:Int):=cX
         have dQ:=af aS;have eS:=af bh;have eN:wr.drew.cell? (aq cb (c+1))=some (ak u):=d_;have e8:wr.drew.cell? (aq ch d)=some (.slice eB g.length eC):=fI;have gl:wr.drew.frozen? (aq cb (c+1))=false:=dM;clear aS bh fl fm;go_wp2_with fail
         go_region
         all_goals
          have h:=ag dQ;have fR:((u+g.length:Nat):Int)=(u:Int)+(g.length:Int):=ae;have cr:=h.aw.set (c+1) (u+g.length) aR;rw[fR]at cr;have br:Below (wr.setCell ⟨cb,c+1,none⟩ (.int .i64 ((u:Int)+(g.length:Int)))).heap.size (wr.setCell ⟨cb,c+1,none⟩ (.int .i64 ((u:Int)+(g.length:Int)))) (wr.setCell ⟨cb,c+1,none⟩ (.int .i64 ((u:Int)+(g.length:Int)))).drew:=aE.drew;have bm:eI (wr.setCell ⟨cb,c+1,none⟩ (.int .i64 ((u:Int)+(g.length:Int)))) I G.1 an:=(kX wr (aq cb (c+1)) I _ (by show I≠cb;omega)).trans cn.1;have ed:=WI cn.2.1 h.aw.c (c+1) (by rw[bD];exact aR) ((u:Int)+(g.length:Int));have e9:Hid (BV w (wr.setCell ⟨cb,c+1,none⟩ (.int .i64 ((u:Int)+(g.length:Int)))).drew cb (cb+1) ab I rc aa (.slice T k.length X) (.slice Q j.length ad) (.slice U l.length Y) an { b with S:=G.1,es:=G.2,cs:=b.cs.set (c+1) (u+g.length) } (100*c+(n.take (d+1)).flatten.length)):=by
           have aj:=ag e0;have cz:=ck.1;have g8:=h.el;refine⟨bm.below br,ed.below br,cr.below br,ae,by show G.1.length<=1300;rw[<- ag b4];omega,by show G.2.length<=_;omega,fq,by show(b.cs.set _ _).length=4;rw[s1];exact bQ,fun C hc=>?_,by show 12<=G.1.length;have:=h.lo;have:=ag fr;omega⟩;have bO:C∈b.cs.set (c+1) (u+g.length):=hc;rcases zJ bO with bO|bO
           ·have:=h.cn C bO;omega
           ·have:=h.cn u (by rw[ag eS];exact bM aR);omega
          have b_:=af (((a0.trans (bG.wI (ag bc))).trans (bG.kA (a:=⟨cb,c+1,none⟩) _ (fun _ K=>K))).trans (bG.wI br));have fj:Hid (k++(j++l)≠[]->G.2≠[]):=fun aH fU=>by
           have:=ag aD aH;have db:=(ag fs)
           rw[fU]at db;exact this (df (by simpa using db))
          clear h cr br bm ed dQ x a0 bc aL cn d_ dM eN e8 gl;generalize (wr.setCell ⟨cb,c+1,none⟩ (.int .i64 ((u:Int)+(g.length:Int)))).drew=hF at *;go_wp2;exact⟨⟨d+1,I,an,{ b with S:=G.1,es:=G.2,cs:=b.cs.set (c+1) (u+g.length) },rfl,rfl,by rw[b2],bq,ae,e9,fP,fj,b_⟩,ci⟩
     ·have bj:be=b:=by
       have h:=ag bW;by_cases V:d<n.length
       ·have bN:b.full=true:=by
         cases cI:b.full
         ·exact absurd ⟨V,cI⟩ hc
         ·rfl
        rw[CL bN]at h;exact h.symm
       ·rw[uY ae]at h;exact h.symm
      have go:¬(d:Int)<(n.length:Int)\/((d:Int)<(n.length:Int)/\b.full=true):=by
       by_cases V:d<n.length
       ·right;refine⟨ae,?_⟩;cases cI:b.full
        ·exact absurd ⟨V,cI⟩ hc
        ·rfl
       ·left;omega
      have cL:=x_ n d;rw[show n.flatten=gm from yy]at cL;have e_:=af (x.mono (m:=100*(c+1)) ae);have fa:Hid (lj D y (c+1) ([k,j,l].drop (c+1)) b=bu):=by rw[Hid,<- bj];exact gx
      have fK:IntKind.i64.wrap ((c:Int)+1)=((c+1:Nat):Int):=cX
      clear bj hc x bW a0;rcases go with V|⟨V,bN⟩
      all_goals
       go_wp2;exact⟨⟨c+1,H,v,b,rfl,rfl,by first|rfl|rw[bN],bq,ae,e_,fa,aD,ae⟩,ci⟩
   ·obtain rfl:c=3:=ae;have eZ:¬(3:Int)<3:=ae;have bj:b=bu:=ag bI;have t:=ag x;have bQ:=t.cl;have fb:=t.lo;have fc:=t.sl;obtain⟨aI,cc,_,_,_⟩:=t.aw.a.cells;have gi:=t.wr.cells.1;have fZ:=t.wr.lt;have hG:=t.aw.a.lt;have dR:=t.aw.c.lt;have b3:Hid (∀W,ax wr W->az 75 #[au s,.bool aa,.bool b.tc,ak rc,aF cb 0 4 4] W (aP (au (iu s aa b.tc rc b.cs)) W)):=fun W d7 =>
     G7 s aa b.tc rc cb 4 b.cs W fV ae gg bQ (fun C hc=>by have:=t.cn C hc;omega) (cp dR d7.size) (fun r eb=>(d7.cell (p:=⟨cb,r,none⟩) dR).trans (by
      have:=t.aw.c.cell r (by rw[bD];exact eb);rw[kT]at this;exact this))
    obtain⟨aB,bA⟩:∃eW,eW=iu s aa b.tc rc b.cs:=⟨_,rfl⟩
    rw[<- bA]at b3;have dS:aB.length=12:=by
     rw[bA];unfold iu;rw[a6,a6,de,Ae,bQ];simp;omega
    have eR:Hid (p0 s i B al P rc aa [k,j,l]=aB++b.S.drop 12++R):=by
     unfold p0;rw[Hid,ag d3,<- bj,<- ap.2,<- bA]
    have gI:(ai aB).size=12:=by rw[a7,dS]
    obtain⟨ac,bv⟩:=a2 b.S.length;have gz:(ai b.S).size=ac:=by rw[a7,bv]
    have hs:(ai b.S).extract 12 ac=ai (b.S.drop 12):=by
     have:=qH b.S 12 ac;rw[this,bv,ie (by rw[c8];exact bb _)]
    have g2:(ai (b.S.drop 12)).size=ac-12:=by rw[a7,c8,bv]
    have bT:ai aB++ai (b.S.drop 12)=ai (aB++b.S.drop 12):=j9 _ _;have hJ:(ai (aB++b.S.drop 12)).size=ac:=by rw[a7,a6,c8,dS];omega
    have bU:ai (aB++b.S.drop 12)++ai R=ai (aB++b.S.drop 12++R):=j9 _ _;have ht:(12:Int)<=(ac:Int):=ae;have hv:12<=ac:=ae;have gJ:ac<=1300:=ae;have hw:¬9223372036854775807<12+(ac-12):=ae;have hx:¬9223372036854775807<ac+y:=ae;have fd:wr.drew.cell? (aq H 0)=some (au b.S):=gi;have dD:wr.drew.cell? (aq ab 0)=some (ak rc):=aI;have gK:wr.drew.cell? (aq ab 1)=some (.bool aa):=cc;have ct:=af t.aw.b;clear t bj bA bv x bI aD fb fc;go_wp2_with fail;go_region_with (go_at_call 75;refine(b3 _ aE.drew).mono ?_;rintro e gs ⟨rfl,cV⟩;have gj:gs.cell? (aq H 0)=some (au b.S):=(cV.cell (p:=⟨H,0,none⟩) fZ).trans fd)
    all_goals
     have fe:=ct.trans (((bk wr.heap.size wr).drew.trans cV).mono ct.size);have ee:=ag eR;rw[c_]at ee;clear b3 ct cV gj;simp only[List.getElem_toArray,cF,cw,Act.put,ep,c5,dl];go_wp2;go_ret;rw[ee];exact⟨rfl,fe⟩
end Go.Proofs.YtkkpahmoljiepaaGreatDoor
