import Derived.Test.YtkkpahmoljiepaaGreatDoorJ10
import Derived.Deep.RegionHeldLaw
import Derived.Deep.AppendLies
set_option maxRecDepth 1000000
set_option maxHeartbeats 12800000
set_option linter.unusedSimpArgs false
set_option linter.unusedVariables false
namespace Go.Proofs.YtkkpahmoljiepaaGreatDoor
open Go.RowKit Go.Proofs.Tryz
structure qD(r:aj)(aM:List eF):Prop where
 own:r.owner.length<=300
 typ:r.type=(r.type.toNat:Int)/\r.type.toNat<65536
 aI:r.aI<4294967296
 data:∀W,bT W->az 254 #[ars r] W fun e w'=>(∃v,e=.returned v/\CE w' W.heap.size v aM)/\ax W w'
 ok:∀(mb base:Nat) (I:World->Prop),(∀w,I w->bT w)->0<base->0<mb->∀f∈aM,f.zH mb base I
 ne:aM≠[]
 few:aM.length<=1000
def n9(a:aj)(d c:Nat)(b:List eF):List eF:=[lp a.owner,fa (cq a.type.toNat),fa (cq 1),fa (lI a.aI),wv d c b]
def eN(c:aj)(aM:List eF)(a:ah)(b:cY):ah×cY:=cL (n9 c 0 0 aM) a b
def bB(b:aj->List eF)(e:List aj)(c:ah)(d:cY):ah×cY:=e.foldl (fun s a=>eN a (b a) s.1 s.2) (c,d)
theorem HR(c:aj->List eF)(b:List aj)(a:Nat)(g:a<b.length)(d:ah)(e:cY):bB c (b.take (a+1)) d e=eN b[a] (c b[a]) (bB c (b.take a) d e).1 (bB c (b.take a) d e).2:=by rw[du g,bB,mG];rfl
theorem HT(a:aj->List eF)(d e:List aj)(b:ah)(c:cY):bB a (d++e) b c=bB a e (bB a d b c).1 (bB a d b c).2:=by rw[bB,mG];rfl
theorem HU{mb d:Nat}{g:World}{v:Value}{a:List eF}(e:CE g d v a)(hne:a≠[])(p:mb<d):∃c b,v=aF c 0 a.length b/\a.length<=b/\h8 mb g c a:=by have i:=e;obtain⟨_,⟨rfl,hz⟩|⟨c,b,n,rfl,o,h,j,_⟩⟩:=e;{exact us};{refine⟨c,b,rfl,j,ae,⟨_,_,h,ba,ba⟩,fun l k=>?_⟩;have:=kj i l ae;rw[this];simp[k]}
theorem HV{mb base g:Nat}{aM:List eF}(d:0<base)(e:0<mb):rJ mb base (fun a=>bT a/\h8 mb a g aM):=fun a h b c=>⟨b.1.tg c d e,b.2.tg c⟩
theorem HX{l:aj}{a:List eF}(c:qD l a)(d e h g:Nat)(i:0<e)(j:0<d)(o:a.length<=g):∀f∈n9 l h g a,f.zH d e (fun n=>bT n/\h8 d n h a):=by intro f k;simp only[n9,co,lE,kd]at k;rcases k with rfl|rfl|rfl|rfl|rfl;{exact rM _ c.own _ _ _ (fun _ b=>b.1) i j};{exact iR (gG _ c.typ.2) _ _ _};{exact iR (gG _ ae) _ _ _};{exact iR (q9 _ c.aI) _ _ _};{exact Id d e h g _ a (HV i j) (fun _ b=>b.2) (c.ok _ _ _ (fun _ b=>b.1) i j) o (by have:=c.few;omega)}
theorem HY{d:aj}{a:List eF}(e:qD d a)(c:ah)(b:cY):c.length<=(eN d a c b).1.length/\b.length<=(eN d a c b).2.length/\(jk b->jk (eN d a c b).2) :=
 rL (n9 d 0 a.length a) (HX e 1 1 0 a.length ae ae av) c b
theorem rO(aM:aj->List eF):∀(d:List aj),(∀c∈d,qD c (aM c))->∀b a,b.length<=(bB aM d b a).1.length/\a.length<=(bB aM d b a).2.length/\(jk a->jk (bB aM d b a).2)
 | [],_,b,a=>⟨bb _,bb _,id⟩
 | c::d,e,b,a=>by have g:=HY (e c am) b a;have h:=rO aM d (fun i j=>e i (by simp[j])) (eN c (aM c) b a).1 (eN c (aM c) b a).2;exact⟨aZ g.1 h.1,aZ g.2.1 h.2.1,fun e=>h.2.2 (g.2.2 e)⟩
theorem HZ(a:aj->List eF)(b:List aj)(h:∀g∈b,qD g (a g))(c:ah)(d:cY)(e:Nat):(bB a (b.take e) c d).1.length<=(bB a b c d).1.length/\(bB a (b.take e) c d).2.length<=(bB a b c d).2.length:=by
 have i:bB a b c d=bB a (b.drop e) (bB a (b.take e) c d).1 (bB a (b.take e) c d).2:=by rw[<- HT,ft]
 have:=rO a (b.drop e) (fun f j=>h f (vF j)) (bB a (b.take e) c d).1 (bB a (b.take e) c d).2;rw[i];exact⟨this.1,this.2.1⟩
theorem H0(mb base g d:Nat)(a:aj)(aM:List eF)(B:qD a aM)(l:0<base)(o:0<mb)(e:ah)(c:cY)(b:World)(y:bT b)(x:h8 mb b g aM)(t:aM.length<=d)(n:cj b mb base e c)(C:jk c)(E:base<=b.heap.size)(z:(eN a aM e c).1.length<=50000) (A:(eN a aM e c).2.length<=20000):az 139 #[aO mb,aF b.heap.size 0 5 5] (b.alloc (.cells #[.iface 291 (.string (ai a.owner)),.iface 284 (.int .u16 a.type.toNat),.iface 284 (.int .u16 1),.iface 344 (.int .u32 a.aI),.iface 293 (.slice (some ⟨g,0,none⟩) aM.length d)] 297)) fun k r=>k=.returned (.tuple #[])/\cj r mb base (eN a aM e c).1 (eN a aM e c).2/\bR mb base b r:=by
 have hnew:=World.alloc_heap_new b (.cells #[.iface 291 (.string (ai a.owner)),.iface 284 (.int .u16 a.type.toNat),.iface 284 (.int .u16 1),.iface 344 (.int .u32 a.aI),.iface 293 (.slice (some ⟨g,0,none⟩) aM.length d)] 297);have j:ax b (b.alloc (.cells #[.iface 291 (.string (ai a.owner)),.iface 284 (.int .u16 a.type.toNat),.iface 284 (.int .u16 1),.iface 344 (.int .u32 a.aI),.iface 293 (.slice (some ⟨g,0,none⟩) aM.length d)] 297)):=aE.alloc av _;have i:bR mb base b _:=bR.qB j;have D:=n.lt;have p:=HV (mb:=mb) (base:=base) (g:=g) (aM:=aM) l o;refine(AH mb base b.heap.size 5 (fun b=>bT b/\h8 mb b g aM) (n9 a g d aM) e c _ (p _ _ ⟨y,x⟩ i) p (n.below j) aA C (HX B mb base g d l o t) ⟨ae,⟨_,_,hnew,ba,ba⟩,?_⟩ (by simp[n9]) (by simp[n9]) z A).mono ?_;{
 intro q h;match q,h with
 | 0,_=>exact gA
 | 1,_=>exact gA
 | 2,_=>exact gA
 | 3,_=>exact gA
 | 4,_=>exact gA
 | q+5,h=>simp[n9]at h;omega};rintro k F ⟨rfl,u,w⟩;exact⟨rfl,u,i.trans w⟩
theorem H1{b c:World}{a d g:Nat}{e:aj}(h:i_ b a e)(j:bR d g b c)(i:a≠d):i_ c a e:=j.box h i ba ba
theorem SA(mb g x aP ao:Nat)(O:Int)(e:aj->List eF)(b:List aj)(h:cY)(i:ah)(j:World)(aC:cj j mb g i h)(aN:jk h)(aB:bT j)(a9:g<=j.heap.size)(ay:0<g)(aD:0<mb)(K:cy j x aP b) (bm:x<g) (aX:x≠mb) (bA:b.length<=ao) (bF:b.length<=3001) (am:∀a∈b,qD a (e a)) (bE:(bB e b i h).1.length<=50000) (bG:(bB e b i h).2.length<=20000) (bH:((bB e b i h).1.length:Int)<=O):az 203 #[aO mb,ak O,aF x aP b.length ao] j fun p c=>p=.returned (.bool true)/\cj c mb g (bB e b i h).1 (bB e b i h).2/\bR mb g j c:=by
 have Y:=af aC;obtain⟨bN,bP,Q,aH,T⟩:=aC;obtain⟨ab,aL,ap,rfl⟩:=i8 aH;obtain⟨ac,aM,an,rfl⟩:=i8 T;obtain⟨bI,bJ⟩:=Q.cells;have bs:=Q.lt;have Z:bR mb g j (j.alloc (.cells #[.slice ab aL ap,.slice ac aM an] 283)):=bR.qB (aE.alloc av _);have a_:=af (show cj (j.alloc (.cells #[.slice ab aL ap,.slice ac aM an] 283)) mb g i h from Y.below (aE.alloc av _));have bk:=af Z;have a0:=af aB;have a7:=af K;have E:=af am;have bp:=af aN;have aY:=K.1;clear Q aH T aB K am Z Y aN;go_enter func203,ntmps203;go_wp2_with fail
 go_loopw [15] (fun L wr=>∃(d:Nat),L=ak d/\d<=b.length/\cj wr mb g (bB e (b.take d) i h).1 (bB e (b.take d) i h).2/\bR mb g j wr) (fun L _=>b.length-(intOf L).toNat)
 case atStart=>exact⟨0,rfl,b6 _,a_,bk⟩
 case round =>
  obtain⟨d,rfl,bD,w,t⟩:=hrel;have aa:=af w;have a4:=af t;have bC:=t.size;by_cases J:d<b.length
  ·have bK:(d:Int)<(b.length:Int):=ae;have aR:=m3 (ag a7) t.size (t.block x aY aX (.inl bm));obtain⟨aS,aT,aU,aV⟩:=aR.four d J;have q:=ag E b[d] (bM J);have U:=af (HR e b d J i h);have S:=af (HZ e b (ag E) i h (d+1));have V:=af ((rO e (b.take d) (fun f bi=>ag E f (mJ bi)) i h).2.2 (ag bp));have I:=(a0.tg t ay aD)
   have G:ax wr (wr.alloc (.cells #[.string (ai b[d].owner),.int .i64 b[d].aI,.int .i64 b[d].type,.string (ai b[d].data)] 47)):=aE.alloc av _;have y:i_ (wr.alloc (.cells #[.string (ai b[d].owner),.int .i64 b[d].aI,.int .i64 b[d].type,.string (ai b[d].data)] 47)) wr.heap.size b[d]:=World.alloc_heap_new wr _;obtain⟨a,R⟩:=a2 (b[d]);rw[<- R]at aS aT aU aV q G y;obtain⟨u,r,z⟩:∃u r,bB e (b.take d) i h=(u,r):=⟨_,_,rfl⟩
   have D:Hid (bB e (b.take (d+1)) i h=eN a (e a) u r):=by
    have:=ag U;rw[z,<- R]at this;exact this
   have a5:Hid (cj wr mb g u r):=by rw[z]at w;exact w
   have a6:Hid (jk r):=by have:=ag V;rw[z]at this;exact this
   clear aR w t R U z aa V;have ba:wr.heap.size≠mb:=ae;have X:Hid (∀k,ax wr k->i_ k wr.heap.size a->az 254 #[.agg #[au a.owner,ak a.aI,ak a.type,au a.data]] k.drew fun p c=>∃n l,p=.returned (aF n 0 (e a).length l) /\
     (c.cell? (aq wr.heap.size 0)=some (au a.owner)/\c.cell? (aq wr.heap.size 1)=some (ak a.aI)/\c.cell? (aq wr.heap.size 2)=some (ak a.type)/\c.cell? (aq wr.heap.size 3)=some (au a.data)) /\
     Hid ((e a).length<=l/\h8 mb c n (e a)/\i_ c wr.heap.size a/\cj c mb g u r/\bT c/\bR mb g j c)):=by
    intro k bh aJ;have A:ax wr k.drew:=bh.drew;refine(q.data k.drew (I.below A)).mono ?_;rintro p c ⟨⟨v,rfl,bj⟩,aA⟩;obtain⟨n,l,rfl,P,N⟩:=HU (mb:=mb) bj q.ne (by have:=A.size;omega);have C:i_ c wr.heap.size a:=(aA.block _ (bn.1 aJ).1).trans aJ;have H:ax wr c:=A.trans (aA.mono A.size);have bo:bR mb g wr c:=bR.qB H;exact⟨n,l,rfl,C.cells,P,N,C,a5.below H,I.below H,a4.trans bo⟩
   have M:Hid (∀n l o,Hid ((e a).length<=l/\h8 mb o n (e a)/\i_ o wr.heap.size a/\cj o mb g u r/\bT o/\bR mb g j o) ->
     az 139 #[aO mb,aF o.heap.size 0 5 5] (o.alloc (.cells #[.iface 291 (.string (ai a.owner)),.iface 284 (.int .u16 a.type.toNat),.iface 284 (.int .u16 1),.iface 344 (.int .u32 a.aI),.iface 293 (.slice (some ⟨n,0,none⟩) (e a).length l)] 297)) fun p c =>
      p=.returned (.tuple #[])/\(c.cell? (aq wr.heap.size 0)=some (au a.owner)/\c.cell? (aq wr.heap.size 1)=some (ak a.aI)/\c.cell? (aq wr.heap.size 2)=some (ak a.type)/\c.cell? (aq wr.heap.size 3)=some (au a.data)) /\
      Hid (cj c mb g (bB e (b.take (d+1)) i h).1 (bB e (b.take (d+1)) i h).2/\bR mb g j c)):=by
    intro n l o bd;obtain⟨P,N,C,a1,a3,W⟩:=ag bd;have bf:=ag S;rw[ag D]at bf;refine(H0 mb g n l a (e a) q ay aD u r o a3 N P a1 (ag a6) (aZ a9 W.size) ae ae).mono ?_;rintro p c ⟨rfl,ar,B⟩;refine⟨rfl,(H1 C B ba).cells,?_,W.trans B⟩;rw[ag D];exact ar
   have br:IntKind.u16.wrap a.type=(a.type.toNat:Int):=by
    have F:=q.typ.1;have ar:=q.typ.2;rw[yQ];omega
   have bU:IntKind.u32.wrap (a.aI:Int)=(a.aI:Int):=by
    have F:=q.aI;rw[vS];omega
   clear q S I D;obtain⟨bL,aK⟩:=a2 a.type.toNat;rw[<- aK]at br M;clear aK;go_wp2_with fail;have aW:=af (X _ G y);have aw:=y.cells;clear G y X aS aT aU aV;generalize (wr.alloc (.cells #[.string (ai a.owner),.int .i64 a.aI,.int .i64 a.type,.string (ai a.data)] 47))=k at *;have bg:(k.drew.cell? (aq wr.heap.size 0)=some (au a.owner)/\k.drew.cell? (aq wr.heap.size 1)=some (ak a.aI)/\k.drew.cell? (aq wr.heap.size 2)=some (ak a.type)/\k.drew.cell? (aq wr.heap.size 3)=some (au a.data)):=aw;clear aw
   go_region_held (fun c=>c.cell? (aq wr.heap.size 0)=some (au a.owner)/\c.cell? (aq wr.heap.size 1)=some (ak a.aI)/\c.cell? (aq wr.heap.size 2)=some (ak a.type)/\c.cell? (aq wr.heap.size 3)=some (au a.data)) (first|assumption|go_keep)
    (first
     | (go_at_call 254;go_loud (refine aW.mono ?_;rintro p bQ ⟨n,l,rfl,bc,al⟩))
     | (go_at_call 139;go_loud (refine(M _ _ _ al).mono ?_;rintro p bS ⟨rfl,bl,a8⟩)))
   rename_i be;clear be bg bc bl al aW M;go_wp2_with fail;obtain⟨F,B⟩:=ag a8;exact⟨⟨d+1,bq,ae,F,B⟩,ci⟩
  ·have bb:d=b.length:=ae;subst bb;rw[dK]at w;have ad:=af (aQ w t);obtain⟨bO,bw,aG,aI,_⟩:=w;obtain⟨bv,bz,rfl⟩:=HQ aI;have bx:=aG.cells.1;have bt:¬O<(((bB e b i h).1).length:Int):=ae;clear aG aI t aa;generalize (bB e b i h).1.length=bu at *;go_wp2;go_ret;exact⟨rfl,ad.1,ad.2⟩
def ei(e a b ap c d:Nat):List kR:=[cq e,cq a,cq b,cq ap,cq c,cq d]
theorem rP(e a b ap c d:Nat):(bv (ei e a b ap c d)).length=12:=rfl
theorem SB:prog.underlying 285=some (.slice 297):=aB
theorem SC:(prog.info? 5).map (·.size)=some 1:=aB
theorem SD{d:Program}{h:Array Oper}{a:Oper}{b:Act}{l:World}{c:Act->World->Prop}{q:Exit->Act->World->Prop}{p:Prop}(hg:a.guard=none) (e o:Operand) (g i:TypeId) (u:a.op=Op.call { callee:=Callee.builtin Builtin.copy,args:=#[e,o],argTypes:=#[g,i] })(j k v:Value) (n:World) (r:b.eval e=j) (y:b.eval o=k) (w:(Builtin.copy_ #[g,i] a.type #[j,k]).run d l=.ok v n)(t:c (b.put a.dst v) n):if Region.wanted a (yielded h b.tmps)=true then Oper.wp d a b l c q else p:=by
 have x:Region.wanted a (yielded h b.tmps)=true:=Cj
 rw[ay x];unfold Oper.wp;simp[execOp,u,resolve,invoke,builtin,r,y,w,Result.andThen];exact t
theorem SE{n:World}{i c e:Nat}{b h:ah}(u:dA n i (aF c 0 b.length e) b)(B:h.length<=b.length):∃a,n.heap[c]? = some (.cells a 5 (0,0))/\h.length<=a.size/\∀d:World,d.heap[c]? = some (.cells a 5 (0,0))->dA (d.setRow c (a.toList.take 0++Lib.byteCells (ai h).data.toList++a.toList.drop (0+(ai h).size)).toArray) i (aF c 0 b.length e) (h++b.drop h.length):=by
 obtain⟨z,⟨g,D⟩|⟨y,x,a,g,r,o,A,t,C,l⟩⟩:=u;{cases g};{
 cases g;refine⟨a,o,ae,fun d w=>?_⟩;have k:(h++b.drop h.length).length=b.length:=aA;have j:=a7 h;refine⟨am,.inr ⟨c,e,_,by rw[k],r,setRow_heap d c a _ 5 (0,0) w,ae,t,?_,?_⟩⟩;{
 have:((ai h).data.toList).length=h.length:=by simp[ai]
 simp[Lib.byteCells,j,ai]at *;omega};{
 rw[k,lV];rw[lV]at l;have p:(ai h).data.toList=h:=by simp[ai]
 have q:a.toList.drop h.length=(a.toList.take b.length).drop h.length++a.toList.drop b.length:=by{
 conv=>lhs;rw[<- ft b.length a.toList]
 rw[zy aA]};simp only[kW,dJ,p,j,cT];rw[q,l,<- c_,List.take_left' (by simp[Lib.byteCells];omega)];simp[Lib.byteCells]}}
theorem Il(mb x b a c ap c2 c3:Nat)(aV bw:Value)(k:ah)(e:World)(r:bJ e mb aV bw)(L:dA e x aV k)(bF:x<=e.heap.size)(aM:12<=k.length)(bM:k.length<=60000)(aC:b<65536) (aD:a<65536) (aG:c<65536) (aH:ap<65536) (aI:c2<65536) (aJ:c3<65536):az 131 #[aO mb,.agg #[ak b,ak a,ak c,ak ap,ak c2,ak c3]] e fun l R=>l=.returned (au (bv (ei b a c ap c2 c3)++k.drop 12))/\WD mb x e R:=by
 obtain⟨bj,ao,bg,bh,bi⟩:=fO Ie;obtain⟨g,u,bG,rfl,bL,J,bH,_⟩:=An L (by intro h;subst h;simp at aM);have aN:=r.cells.1;have aX:=r.lt;have aS:=(bn.1 J).1;have bx:mb≠g:=fun l=>by
  rw[bJ,l,J]at r;simp at r
 have bI:=af r;have U:=af L;clear r L J;have bA:IntKind.u16.wrap (b:Int)=(b:Int):=iF
 have bB:IntKind.u16.wrap (a:Int)=(a:Int):=iF
 have Z:IntKind.u16.wrap (c:Int)=(c:Int):=iF
 have aa:IntKind.u16.wrap (ap:Int)=(ap:Int):=iF
 have ab:IntKind.u16.wrap (c2:Int)=(c2:Int):=iF
 have ac:IntKind.u16.wrap (c3:Int)=(c3:Int):=iF
 have aZ:Hid (b<65536/\a<65536/\c<65536/\ap<65536/\c2<65536/\c3<65536):=⟨aC,aD,aG,aH,aI,aJ⟩
 have al:Hid (∀d:Nat,d<4->∃w:Nat,(ei b a c ap c2 c3).take (2+(d+1))=(ei b a c ap c2 c3).take (2+d)++[cq w]/\IntKind.u16.wrap (w:Int)=(w:Int)/\∀Y:World,(Instr.index 131 (.agg #[ak c,ak ap,ak c2,ak c3]) (ak d)).run prog Y=.ok (ak w) Y):=by
  intro d A
  match d,A with
  | 0,_=>exact⟨c,rfl,Z,fun _=>aB⟩
  | 1,_=>exact⟨ap,rfl,aa,fun _=>aB⟩
  | 2,_=>exact⟨c2,rfl,ab,fun _=>aB⟩
  | 3,_=>exact⟨c3,rfl,ac,fun _=>aB⟩
  | d+4,h=>omega
 clear aC aD aG aH aI aJ Z aa ab ac;go_enter func131,ntmps131;go_wp2_with fail;have ad:Hid (kq ((e.alloc (.cells #[.int .i64 b,.int .i64 a,.int .i64 c,.int .i64 ap,.int .i64 c2,.int .i64 c3] 133)).alloc (.cells #[.iface 284 (.int .u16 b),.iface 284 (.int .u16 a)] 297)) (e.heap.size+1) (aF (e.heap.size+1) 0 2 2) ((ei b a c ap c2 c3).take (2+0))):=by
  have aQ:=World.alloc_heap_new (e.alloc (.cells #[.int .i64 b,.int .i64 a,.int .i64 c,.int .i64 ap,.int .i64 c2,.int .i64 c3] 133)) (.cells #[.iface 284 (.int .u16 b),.iface 284 (.int .u16 a)] 297);rw[cv]at aQ;exact⟨rfl,.inr ⟨e.heap.size+1,2,_,rfl,bb _,aQ,bb _,mv,rfl,rfl⟩⟩
 have ay:Hid (ax e ((e.alloc (.cells #[.int .i64 b,.int .i64 a,.int .i64 c,.int .i64 ap,.int .i64 c2,.int .i64 c3] 133)).alloc (.cells #[.iface 284 (.int .u16 b),.iface 284 (.int .u16 a)] 297))):=(aE.alloc av _).alloc am _
 go_loopw [19,5] (fun O v wr=>∃(d:Nat) (I:Option Addr) (C z:Nat),O=ak d/\v=.slice I C z/\d<=4/\kq wr (e.heap.size+1) (.slice I C z) ((ei b a c ap c2 c3).take (2+d))/\ax e wr/\e.heap.size+1<wr.heap.size) (fun O _ _=>4-(intOf O).toNat)
 case atStart=>exact⟨0,_,_,_,rfl,rfl,ae,ad,ay,am⟩
 case round =>
  obtain⟨d,I,C,z,rfl,rfl,A,aT,o,bE⟩:=hrel;have D:=af aT;have bm:=af o;have bc:=o.size;clear aT ad ay;by_cases be:d<4
  ·obtain⟨w,aR,bN,a0⟩:=ag al d be;have a4:=af aR;have bO:(d:Int)<4:=ae;have bo:((ei b a c ap c2 c3).take (2+d)).length=2+d:=by simp[ei];omega
   clear aR o;go_wp2_with (at_builtin;go_loud (refine vV _ rfl (.tmp 22) (.tmp 26) 285 rfl (e.heap.size+1) 297 bj .nilIface 1 16 SB ao bg bh bi rfl ba _ ((ei b a c ap c2 c3).take (2+d)).length _ rfl (D.alloc _) (aq wr.heap.size 0) 1 1 [.iface 284 (.int .u16 w)] rfl rfl ?ap ?c2 ?c3 ?aK ?b9 ?_))
   case ap =>
    intro P br hj
    match P,hj with
    | 0,hj=>exact uz
    | C+1,hj=>simp at hj
   case c2=>intro br S;simp at S;subst S;rfl
   case c3=>exact lC
   case aK=>omega
   case b9=>simp;omega
   intro bV E M K _;obtain⟨bs,bu,bt,rfl⟩:=i8 M;have a_:Hid (kq E (e.heap.size+1) (.slice bs bu bt) ((ei b a c ap c2 c3).take (2+(d+1)))):=by
    unfold Hid kq;rw[ag a4,a6,d0,bo,zG];exact M
   have aw:Hid (ax e E/\e.heap.size+1<E.heap.size):=⟨(bm.alloc ae _).grown K aA (fun bl bk=>by have:=(D.lt bl bk).1;omega),by have:=K.size;exact nh⟩
   clear M K a0;go_wp2;exact⟨⟨d+1,_,_,_,bq,rfl,ae,a_,aw.1,aw.2⟩,ci⟩
  ·have a5:d=4:=ae;subst a5;have ar:(ei b a c ap c2 c3).take (2+4)=ei b a c ap c2 c3:=rfl;rw[ar]at D;obtain⟨a9,bC,bf,a1,Q⟩:=Sz (mb:=mb) (ag D) (by simp[ei]) ae;cases bf;have bD:ax wr wr.drew:=aE.drew;have F:=af (Aa a9 z (ei b a c ap c2 c3) wr.drew (fun f aL=>by
    obtain⟨bP,bQ,bR,bS,bT,bU⟩:=ag aZ;simp only[ei,co,lE,kd]at aL;rcases aL with rfl|rfl|rfl|rfl|rfl|rfl<;>exact gG _ gj) Q.1 (fun P hj=>Q.2.2.2 P hj) a1 (by simp[ei]) (by rw[rP];omega))
   have aP:=o.block mb aX;have H:wr.drew.cell? (aq mb 0)=some (aF g 0 k.length u):=(b7 aP).trans aN;clear Q al ar;have a2:wr.cell? (aq mb 0)=some (aF g 0 k.length u):=H;obtain⟨q,G,T,N⟩:=SE (ag U) (h:=bv (ei b a c ap c2 c3)) (by rw[rP];exact aM);obtain⟨j,y⟩:∃bz,bz=bv (ei b a c ap c2 c3):=⟨_,rfl⟩
   have V:j.length=12:=by rw[y];exact rP b a c ap c2 c3
   rw[<- y]at F N T;have W:Hid (∀i,Below wr.drew.heap.size wr.drew i->(Builtin.copy_ #[58,9] 3 #[aF g 0 k.length u,au j]).run prog i=.ok (goInt (ai j).size) (i.setRow g (q.toList.take 0++Lib.byteCells (ai j).data.toList++q.toList.drop (0+(ai j).size)).toArray)):=fun i n=>by
    have l:=((n.block g (show g<wr.heap.size by omega)).trans (o.block g aS)).trans G;exact Lib.run_copy_row_string i _ _ _ _ g 0 k.length u (ai j) q 5 zY SC l gB gB
   have X:Hid (∀i,Below wr.drew.heap.size wr.drew i->dA (i.setRow g (q.toList.take 0++Lib.byteCells (ai j).data.toList++q.toList.drop (0+(ai j).size)).toArray) x (aF g 0 k.length u) (j++k.drop j.length)):=fun i n =>
    N i (((n.block g (show g<wr.heap.size by omega)).trans (o.block g aS)).trans G)
   clear N G T;generalize (q.toList.take 0++Lib.byteCells (ai j).data.toList++q.toList.drop (0+(ai j).size)).toArray=aU at *;have aY:=af y;clear y aP;go_wp2_with fail
   go_region_held_law (fun R=>R.cell? (aq mb 0)=some (aF g 0 k.length u)) (first|assumption|exact(cell_setRow_other _ _ _ _ bx).trans gj)
    (first
     | (refine SD rfl (.tmp 32) (.tmp 34) 58 9 rfl _ _ _ _ rfl rfl (W _ n) ?_)
     | (go_at_call 199;go_loud (refine F.mono ?_;rintro l i ⟨rfl,n⟩;have a8:=(n.cell (p:=⟨mb,0,none⟩) (show mb<wr.heap.size by omega)).trans H)))
   rename_i bK;have aW:=ag X i n;have bd:=tb aW;have t:ax e i:=o.trans ((aE.drew.trans n).mono bc);obtain⟨a3,aj⟩:=nZ (ag U) rfl;have bp:Hid (WD mb x e (i.setRow g aU)):=⟨t.os,t.tape,t.output,by rw[setRow_size];exact t.size,fun d A r B=>by
    by_cases l:d=g
    ·subst l;rcases B with B|B
     ·omega
     ·exact absurd aj (B a3)
    ·exact(setRow_other _ _ _ _ l).trans (t.block d A)⟩
   have an:Hid (j++List.drop (List.length j) k=bv (ei b a c ap c2 c3)++k.drop 12):=by rw[Hid,V,ag aY]
   rw[ag an]at bd;clear aW t aj n a8 W X F o aN H a2 an V;generalize i.setRow g aU=E at *;go_wp2;go_ret;exact⟨rfl,bp⟩
theorem R7(d:World)(g:Nat)(j:g=d.heap.size)(b:aj)(h:TypeId):∀(e:Nat) (i:Value),(dZ [b])[e]? = some i->(d.alloc (.cells #[.string (ai b.owner),.int .i64 b.aI,.int .i64 b.type,.string (ai b.data)] h)).cell? (((aq g 0):Addr).add e)=some i:=fun e i a=>by
 subst j;simp only[dZ,aj.aX,eT,rj,eu]at a;have c:=World.alloc_heap_new d (.cells #[.string (ai b.owner),.int .i64 b.aI,.int .i64 b.type,.string (ai b.data)] h);generalize d.alloc (.cells #[.string (ai b.owner),.int .i64 b.aI,.int .i64 b.type,.string (ai b.data)] h)=k at c ⊢;generalize d.heap.size=g at c ⊢
 match e,a with
 | 0,a=>simp at a;subst a;simp[Addr.add,World.cell?,c]
 | 1,a=>simp at a;subst a;simp[Addr.add,World.cell?,c]
 | 2,a=>simp at a;subst a;simp[Addr.add,World.cell?,c]
 | 3,a=>simp at a;subst a;simp[Addr.add,World.cell?,c]
 | l+4,a=>simp at a
theorem R8(a h I V ar W:Nat)(k:Int)(H:Bool)(M N O:Value)(l:ah)(aB b:List aj)(c:aj)(d:World)(A:cr d a h k 0 H M N O I)(z:cA d (a+1) M b)(D:e6 d h l V ar W aB) (aT:h<a) (aN:c.data.length<=3000) (aP:l.length<=3000) (aQ:b.length<8):az 247 #[aO a,c.uR] d fun e g=>e=.returned (.tuple #[au c.data,.bool (dU c.data l)])/\(∃J,cr g a h k 0 H J N O I/\cA g (a+1) J (b++[c]))/\Below a d g:=by
 obtain⟨ap,ao,ad,al,an⟩:=fO qT;obtain⟨x,y,rfl⟩:=z.slice;have aK:=A.lt;have n:=z.pM;have ab:some a≠(Value.slice x b.length y).ownBlock:=fun e=>by have:=n a e.symm;omega
 have ac:some h≠(Value.slice x b.length y).ownBlock:=fun e=>by have:=n h e.symm;omega
 have R:some d.heap.size≠(Value.slice x b.length y).ownBlock:=fun e=>by have:=n _ e.symm;omega
 obtain⟨aC,aD,aE,aG,aU,aH,aI,aJ⟩:=A.cells;have aM:((b.length:Int)==8)=false:=eP
 have F:Hid (∀w,az 110 #[au c.data,au l] w fun e g=>e=.returned (.bool (dU c.data l))/\g=w):=fun w=>by
  have:=tt (ai c.data) (ai l) w gB gB;rw[jC,jC]at this;exact this
 generalize dU c.data l=aV at F ⊢;have Q:=af A;have P:=af z;have ay:=af n;have ak:=D.2.1;have U:=D.1;clear A z n D aC aD aE aG aH aI aJ;unfold aj.uR;go_enter func247,ntmps247;go_upto_region 4 with fail
 go_region_law (first|(refine step_append_lies _ rfl (.tmp 25) (.tmp 27) 41 rfl (a+1) 47 ap _ 4 48 vi ao ad al an rfl ba _ b.length (dZ b) rfl ((P.alloc _).alloc _) _ 1 1 (dZ [c]) rfl rfl (R7 _ _ am c _) Az ba gW ae aA (d.heap.size+2) am ?_;intro j o u n q X aS;have r:∀i,i<d.heap.size+1->some i≠(Value.slice x b.length y).ownBlock->u.heap[i]? = (d.alloc (.cells #[.string (ai c.owner),.int .i64 c.aI,.int .i64 c.type,.string (ai c.data)] 47)).heap[i]?:=(fun i ao aa=>(q.block i aA aa).trans (bx _ _ _ aA));have B:=Q.kept ((r a ae ab).trans (bx _ _ _ aK));have Y:=B.frozen;have aL:=B.cells.2.2.2.2.1))
 all_goals
  have C:cA u (a+1) (aF j 0 (b.length+1) o) (b++[c]):=by
   unfold cA;rw[a6,Hb];exact n
  have Z:(Value.slice (some (aq j 0)) (b.length+1) o).ownBlock=some j:=rfl;have G:=(r d.heap.size ae R).trans (World.alloc_heap_new d _);have L:=(b7 ((r h ae ac).trans (bx _ _ _ U))).trans ak;have aR:=(C.pM j Z).1;have T:Hid (Below a d u):=⟨q.os,q.tape,q.output,aZ aA q.size,fun i ao=>(r i ae (fun e=>by have:=ag ay i e.symm;omega)).trans (bx _ _ _ ae)⟩
  have K:=af (B.mh (aF j 0 (b.length+1) o));have S:=af (C.nO (k:=a) (i:=4) ae (aF j 0 (b.length+1) o));have aw:(u.setCell ⟨a,4,none⟩ (.slice (some ⟨j,0,none⟩) (b.length+1) o)).cell? (aq d.heap.size 3)=some (au c.data):=by
   rw[zu _ _ _ _ (fun E=>by have:=bP Addr.block E;exact nh)];simp[World.cell?,G]
  have ax:(u.setCell ⟨a,4,none⟩ (.slice (some ⟨j,0,none⟩) (b.length+1) o)).cell? (aq h 0)=some (au l):=by
   rw[zu _ _ _ _ (fun E=>by have:=bP Addr.block E;exact nh)];exact L
  have av:=K.cells.1;clear n q X r B C G L Y aL;go_wp2_with fail
  go_region_held (fun g=>g.cell? (aq d.heap.size 3)=some (au c.data)/\g.cell? (aq a 0)=some (aO h)/\g.cell? (aq h 0)=some (au l)) (first|assumption|exact⟨aw,av,ax⟩|go_keep)
   (first|(go_at_call 110;refine(F _).mono ?_;rintro e g ⟨rfl,rfl⟩))
  all_goals
   go_wp2;go_ret2;have t:=T.setCell (p:=⟨a,4,none⟩) (bb a) (aF j 0 (b.length+1) o);exact⟨rfl,⟨_,K,S⟩,⟨t.os,t.tape,t.output,t.size,t.block⟩⟩
theorem R9(e A d c:Nat)(x:Int)(p:Bool)(l y z:Value)(j:List aj)(a:aj)(b:World)(h:cr b e A x 0 p l y z d)(w:cA b (e+1) l j)(g:h7 b d c false)(G:d≠c)(V:c<e)(U:j.length=8):az 247 #[aO e,a.uR] b fun q n=>q=.returned (.tuple #[au a.data,.bool true])/\cr n e A x 0 p l y z d/\h7 n d c true/\∀i,i<=c->Below i b n:=by
 obtain⟨S,T,rfl⟩:=w.slice;have O:=h.lt;have Q:=g.lt;obtain⟨I,J,K,L,Y,M,N,Z⟩:=h.cells;have R:((j.length:Int)==8)=true:=ni
 have r:ax b (b.alloc (.cells #[.string (ai a.owner),.int .i64 a.aI,.int .i64 a.type,.string (ai a.data)] 47)):=aE.alloc av _;have B:=af (Ro d c _ (g.below r g.1 Q) G);have o:(b.alloc (.cells #[.string (ai a.owner),.int .i64 a.aI,.int .i64 a.type,.string (ai a.data)] 47)).heap[b.heap.size]? = some (.cells #[.string (ai a.owner),.int .i64 a.aI,.int .i64 a.type,.string (ai a.data)] 47):=World.alloc_heap_new b _;have C:=af h;clear h w g I J K L M N;unfold aj.uR;go_enter func247,ntmps247;go_wp2_with fail;refine B.mono ?_;rintro q P ⟨⟨v,rfl⟩,u,k,W,t⟩;have X:P.cell? (aq b.heap.size 3)=some (au a.data):=by{have:=(k b.heap.size ae).trans o;simp[World.cell?,this]};have E:=af (C.kept ((k e ae).trans (bx _ _ _ O)));have H:=af u;have D:=af t;clear u k t o;go_wp2;go_ret2;exact⟨rfl,E,H,fun i F=>(r.mono ae).trans (D i F)⟩
def jl(c:ah)(b:List aj)(a:ah):Option aj:=if(ca c b a).length=0/\(cG b a).2=true/\iP (cG b a).1=true then some ((cG b a).1.headD aj.zero)else none
def dC(b:ah)(d:List aj):Nat->ah->Option (List aj×Option ah)
 | 0,a=>match jl b d a with
  | none=>some ([],some a)
  | some _=>none
 | m+1,a=>match jl b d a with
  | none=>some ([],some a)
  | some c=>if dU c.data b=true then(dC b d m c.data).map (fun e=>(c::e.1,e.2))else some ([c],none)
def mS(a:ah)(b:List aj):Option ah->Int
 | some c=>gE a b c
 | none=>0
def mo(b:ah)(c:List aj)(a:Int):Option ah->List aj
 | some d=>gZ b c a d
 | none=>[]
def mT(b:ah)(c:List aj)(a:Int):Option ah->List aj
 | some d=>h6 b c a d
 | none=>[]
theorem IQ(j k F r y t:Nat)(h:Int)(E:Bool)(Q R S:Value)(i b:ah)(c:List aj)(g:aj)(P:Bool)(C:World->Prop)(d:World)(o:cr d j k h 0 E Q R S F)(x:e6 d k i r y t c) (u:bT d) (av:Cq i c) (aq:b.length<=2900) (I:(h==5)=false) (N:(h==255)=false)(an:(ca i c b).length=0) (ao:(cG c b).2=true) (w:(cG c b).1=[g]) (aC:iP [g]=true)(G:∀a,ax d a->az 247 #[aO j,g.uR] a fun e z=>e=.returned (.tuple #[au g.data,.bool P])/\C z):az 194 #[aO j,au b] d fun e z=>e=.returned (.tuple #[au g.data,.bool P])/\C z:=by
 obtain⟨K,ai,ar⟩:=av;have aD:(h != 5)=true:=by unfold bne;rw[I];rfl
 have aE:(h != 255)=true:=by unfold bne;rw[N];rfl
 clear I N;have ay:=o.lt;obtain⟨aJ,aK,_⟩:=o.cells;have ad:=af x;have W:=af u;have V:=af (vx k r y t i b c d x u K ae ai);have T:Hid (∀a,ax d a->cr a j k h 0 E Q R S F):=fun a l=>o.kept (l.block j ay);have D:=af G;clear o x u G;have aQ:¬(0:Int)<((ca i c b).length:Int):=ae;clear an;have ac:=af (fun a (l:ax d a)=>AA k r y t i b c a (ad.below l) (W.below l) K aq (fun g w=>(ar g w).1));go_enter func194,ntmps194;go_wp2_with fail;refine V.mono ?_;rintro e U ⟨⟨aN,rfl,O⟩,n⟩;obtain⟨aF,ap,rfl⟩:=O.slice;clear O;obtain⟨aL,aM,_⟩:=(T U n).cells;go_wp2_with fail;refine(ac U n).mono ?_;rintro e q ⟨⟨aB,rfl,p⟩,al⟩;rw[ao];rw[w]at p;have H:=n.trans (al.mono n.size);have M:=ag T q H;obtain⟨u0,u1,u2,u3,u4,u5,u6,u7⟩:=M.cells;have A:=af (Iw aB _ q p.rv am);rw[aC]at A;have aw:=p.rv;clear p M u0 u2 u3 u4 u5 u6 u7;rcases aw with⟨_,ak⟩|⟨aG,aI,aH,rfl,aA,L⟩;{cases ak};obtain⟨Y,Z,aa,ab⟩:=L.four 0 am;simp only[i4,dT,cw]at Y Z aa ab;have B:=af (D q H);unfold aj.uR at B;clear L D;simp only[bi,cW]at aA A ⊢;go_wp2_with fail;refine A.mono ?_;rintro e q ⟨rfl,rfl⟩;go_wp2_with fail;refine B.mono ?_;rintro e aP ⟨rfl,J⟩;have X:=af J;clear J;go_wp2;go_ret2;exact⟨rfl,X⟩
theorem R_{c d:World}{b:Nat}(e:bT c)(a:Below b c d)(g:0<b):bT d:=by obtain⟨h,m,i⟩:=e;exact⟨cp h a.size,m,(a.cell (p:=⟨0,0,none⟩) g).trans i⟩
theorem AJ{i:ah}{c:List aj}{b:ah}{g:aj}(a:jl i c b=some g):(ca i c b).length=0/\(cG c b).2=true/\(cG c b).1=[g]/\iP [g]=true:=by unfold jl at a;split at a;{rename_i l;obtain⟨j,k,d⟩:=l;have e:=d;unfold iP at e;simp only[bW,dE]at e;obtain⟨n,h⟩:=vB.1 e.1;rw[h]at a d;simp only[List.headD_cons,nr]at a;subst a;exact⟨j,k,h,d⟩};{cases a}
theorem Sb{d:ah}{b:List aj}{a:ah}(c:jl d b a=none):(ca d b a).length=0->(cG b a).2=true->iP (cG b a).1=false:=fun g h=>by
 unfold jl at c;split at c
 ·cases c
 ·rename_i i;cases e:iP (cG b a).1
  ·rfl
  ·exact absurd ⟨g,h,e⟩ i
def kr(v b:Value):Prop:=∀a,v.ownBlock=some a->b.ownBlock≠some a
theorem B5{P:Prop}(h:P:=by rcases mq with h|h<;>omega):P:=h
theorem Fr{P:Prop}(h:P:=by rw[ht]at e3;go_wp2;go_ret2;refine⟨rfl,⟨dI,aJ,?_,?_,?_,?_⟩,hb3⟩;{rw[ag e1];exact gV};{rw[ag e2];exact fo};{rw[ag e3];exact e8 _ _ _ _};{exact fun g _ h2=>by cases h2}):P:=h
theorem Fp{P:Prop}(h:P:=by rw[ht]at e3;go_wp2_with fail;refine HD.mono ?_;rintro e w4 ⟨v4,rfl,lW,hb4⟩;obtain⟨a4,aK,rfl⟩:=lW.slice;have gT:=gV.kept (hb4.block sb Nj);obtain⟨z0,z1,z2,z3,z4,z5,z6,z7⟩:=gT.cells;have g5:=gT.frozen 5;have S5:=af (gT.pL (.slice a4 (eo o rs).length aK));have zK:=af ((fo.below hb4).nO (k:=sb) (i:=5) ae (.slice a4 (eo o rs).length aK));have rK:=af (lW.nO (k:=sb) (i:=5) Nj (.slice a4 (eo o rs).length aK));have hb5:Below sb w (w4.setCell ⟨sb,5,none⟩ (.slice a4 (eo o rs).length aK)):=(hb3.trans (hb4.mono (show sb<=_ by omega))).setCell (p:=⟨sb,5,none⟩) (bb sb) _;clear gT lW z0 z1 z2 z3 z4 z6 z7;go_wp2;go_ret2;refine⟨rfl,⟨dI,.slice a4 (eo o rs).length aK,?_,?_,?_,?_⟩,hb5⟩;{rw[ag e1];exact S5};{rw[ag e2];exact zK};{rw[ag e3];exact rK.base ae};{exact fun g h1 h2=>by have k1:=(fo.pM g h1).2;have k2:=(rK.pM g h2).1;omega}):P:=h
theorem Fj{P:Prop}(h:P:=by
 have e1:Hid (gE o rs n=0):=by unfold gE;rw[Hid,ar hc]
 have e2:Hid (gZ o rs k n=[]):=by unfold gZ;rw[Hid,ar hc]
 have e3:Hid (h6 o rs k n=ca o rs n):=by unfold h6;rw[Hid,ar hc]
 clear hc;go_enter func194,ntmps194;go_wp2_with fail;refine HC.mono ?_;rintro e w1 ⟨⟨v1,rfl,lD⟩,hb1⟩;have Hn:=af (yR v1 _ w1 (lD.rv (dm.below hb1).2.2.2.2) hcl);obtain⟨a1,ap,rfl⟩:=lD.slice;clear lD;go_wp2_with fail;refine Hn.mono ?_;rintro e w4 ⟨v4,rfl,lW,hb4⟩;obtain⟨a4,aK,rfl⟩:=lW.slice;have nK:=hb1.trans (hb4.mono hb1.size);have gT:=ag vw w4 nK;obtain⟨z0,z1,z2,z3,z4,z5,z6,z7⟩:=gT.cells;have g5:=gT.frozen 5;have S5:=af (gT.pL (.slice a4 (ca o rs n).length aK));have zK:=af ((HO.below nK).nO (k:=sb) (i:=5) ae (.slice a4 (ca o rs n).length aK));have rK:=af (lW.nO (k:=sb) (i:=5) (by have:=hb1.size;omega) (.slice a4 (ca o rs n).length aK));have hb5:Below sb w (w4.setCell ⟨sb,5,none⟩ (.slice a4 (ca o rs n).length aK)):=(nK.mono (show sb<=_ by omega)).setCell (p:=⟨sb,5,none⟩) (bb sb) _;clear gT lW z0 z1 z2 z3 z4 z6 z7;go_wp2;go_ret2;refine⟨rfl,⟨va,.slice a4 (ca o rs n).length aK,?_,?_,?_,?_⟩,hb5⟩;{rw[ag e1];exact S5};{rw[ag e2];simpa using ag zK};{rw[ag e3];exact rK.base (by have:=hb1.size;omega)};{exact fun g h1 h2=>by have k1:=(ri g h1).2;have k2:=(rK.pM g h2).1;have:=hb1.size;omega}):P:=h
theorem Eb{P:Prop}(h:P:=by
 rw[hm]at e1 e2 e3;go_enter func194,ntmps194;go_wp2_with fail;refine HC.mono ?_;rintro e w1 ⟨⟨v1,rfl,lD⟩,hb1⟩;obtain⟨a1,ap,rfl⟩:=lD.slice;clear lD;obtain⟨t0,t1,_⟩:=(vw w1 hb1).cells;go_wp2_with fail;refine(dW w1 hb1).mono ?_;rintro e w2 ⟨⟨v2,rfl,hv2⟩,hb2⟩;rw[hm];clear hv2;have fq:=hb1.trans (hb2.mono hb1.size);have hs2:=ag vw w2 fq;obtain⟨u0,u1,u2,u3,u4,u5,u6,u7⟩:=hs2.cells;have f2:=hs2.frozen 2;have S3:=af (hs2.set2 3);have hs3:=hs2.set2 3;obtain⟨y0,_⟩:=hs3.cells;have hb3:Below sb w (w2.setCell ⟨sb,2,none⟩ (.int .i64 3)):=(fq.mono (show sb<=w.heap.size by omega)).setCell (p:=⟨sb,2,none⟩) (bb sb) _;have hz3:=dm.low hb3 hzs ct;have HD:=af (yT zb b off cap o rs _ hz3 hlen (ag cB));have fo:=af ((HO.below fq).nO (k:=sb) (i:=2) ae (ak 3));have ub:(w2.setCell ⟨sb,2,none⟩ (.int .i64 3)).heap.size=w2.heap.size:=by simp[World.setCell]
 clear hs2 hs3 u0 u1 u3 u4 u6 u7;go_wp2_with fail;refine HD.mono ?_;rintro e w4 ⟨v4,rfl,lW,hb4⟩;obtain⟨a4,aK,rfl⟩:=lW.slice;have gT:=S3.kept (hb4.block sb (by rw[ub];exact cp sF fq.size));obtain⟨z0,z1,z2,z3,z4,z5,z6,z7⟩:=gT.cells;have g5:=gT.frozen 5;have S5:=af (gT.pL (.slice a4 (eo o rs).length aK));have zK:=af ((fo.below hb4).nO (k:=sb) (i:=5) ae (.slice a4 (eo o rs).length aK));have rK:=af (lW.nO (k:=sb) (i:=5) (by rw[ub];exact cp sF fq.size) (.slice a4 (eo o rs).length aK));have hb5:Below sb w (w4.setCell ⟨sb,5,none⟩ (.slice a4 (eo o rs).length aK)):=(hb3.trans (hb4.mono (show sb<=_ by rw[ub];have:=fq.size;omega))).setCell (p:=⟨sb,5,none⟩) (bb sb) _;clear gT lW z0 z1 z2 z3 z4 z6 z7;go_wp2;go_ret2;refine⟨rfl,⟨va,.slice a4 (eo o rs).length aK,?_,?_,?_,?_⟩,hb5⟩;{rw[ag e1];exact S5};{rw[ag e2];simpa using ag zK};{rw[ag e3];exact rK.base (by rw[ub];have:=fq.size;omega)};{exact fun g h1 h2=>by have k1:=(ri g h1).2;have k2:=(rK.pM g h2).1;rw[ub]at k2;have:=fq.size;omega}):P:=h
theorem Ft{P:Prop}(h:P:=by{intro h;have:=ag ri b' h;exact B5}):P:=h
theorem Sc(sb zb q b off cap:Nat)(k:Int)(l:Bool)(va K t:Value)(o n:ah)(rs j:List aj)(w:World)(c:cr w sb zb k 0 l va K t q)(z:cA w (sb+1) va j)(ab:K=aJ)(A:e6 w zb o b off cap rs) (y:bT w) (hzs:zb<sb) (ct:b<sb) (am:0<sb) (Z:Cq o rs) (V:n.length<=2900) (U:j.length<=90000)(C:∀d∈gU (cM rs o) 6,GW d/\d.data.length<=3000/\d.aI<=1000000000) (D:(k==5)=false) (I:(k==255)=false) (B:(ca o rs n).length=0->(cG rs n).2=true->iP (cG rs n).1=false) (J:(cG rs n).1.length<=3001):az 194 #[aO sb,au n] w fun e u=>e=.returned (.tuple #[.string ⟨#[]⟩,.bool false])/\(∃dI x,cr u sb zb k (gE o rs n) l dI x t q/\cA u (sb+1) dI (j++gZ o rs k n)/\cA u (sb+1) x (h6 o rs k n)/\kr dI x)/\Below sb w u:=by
 subst ab;obtain⟨hlen,T,X⟩:=Z;have ai:(k != 5)=true:=by unfold bne;rw[D];rfl
 have al:(k != 255)=true:=by unfold bne;rw[I];rfl
 clear D I;have sF:=c.lt;have G:=z.pM;obtain⟨av,aw,_⟩:=c.cells;have ad:=af c;have HO:=af z;have dm:=af A;have O:=af y;have cB:=af C;have HC:=af (vx zb b off cap o n rs w A y hlen ae T);have vw:Hid (∀a,ax w a->cr a sb zb k 0 l va (aJ) t q):=fun a r=>c.kept (r.block sb sF);have ri:=af G;clear c z A y C G;have hcl:=aZ (Ix o rs n) hlen;by_cases hc:(ca o rs n).length=0;{
 have ac:¬(0:Int)<((ca o rs n).length:Int):=ae;have R:=af (B hc);clear B;have e1:Hid (gE o rs n=if(cG rs n).2 then 0 else 3):=by unfold gE;rw[Hid,ay hc]
 have e2:Hid (gZ o rs k n=if(cG rs n).2 then fC k (cG rs n).1 else []):=by unfold gZ;rw[Hid,ay hc]
 have e3:Hid (h6 o rs k n=if(cG rs n).2 then(if jH k (cG rs n).1 then []else eo o rs)else eo o rs):=by unfold h6;rw[Hid,ay hc]
 clear hc;have dW:=af (fun a (r:ax w a)=>AA zb b off cap o n rs a (dm.below r) (O.below r) hlen V (fun d W=>(X d W).1));cases hm:(cG rs n).2;{
 exact Eb};{
 rw[hm]at e1 e2 e3;go_enter func194,ntmps194;go_wp2_with fail;refine HC.mono ?_;rintro e w1 ⟨⟨v1,rfl,lD⟩,hb1⟩;obtain⟨a1,ap,rfl⟩:=lD.slice;clear lD;obtain⟨t0,t1,_⟩:=(vw w1 hb1).cells;go_wp2_with fail;refine(dW w1 hb1).mono ?_;rintro e w2 ⟨⟨v2,rfl,hv2⟩,hb2⟩;rw[hm];have fq:=hb1.trans (hb2.mono hb1.size);have hs2:=ag vw w2 fq;obtain⟨u0,u1,u2,u3,u4,u5,u6,u7⟩:=hs2.cells;have M:=af (Iw v2 _ w2 hv2.rv J);obtain⟨b',aa,E,H,mq⟩:=hv2;have ao:=hb1.size;have P:b'≠sb:=by exact B5
 have Q:va.ownBlock≠some b':=Ft;have S:=af (Hc sb zb q b' aa k 0 l va (aJ) t v2 j _ w2 hs2 (HO.below fq) E H P Q J U);clear hs2 E H mq u0 u2 u3 u4 u5 u6 u7;rw[ag R hm]at M;go_wp2_with fail;refine M.mono ?_;rintro e w2 ⟨rfl,rfl⟩;go_wp2_with fail;refine S.mono ?_;rintro e L ⟨rfl,⟨dI,hs3,N⟩,F⟩;have hb3:Below sb w L:=(fq.mono (show sb<=w.heap.size by omega)).trans (F.below (fun Y an=>⟨ae,fun h=>by have:=ag ri Y h.symm;omega⟩) (by have:=fq.size;omega));have gV:=af hs3;have fo:=af N;obtain⟨y0,_,_,_,_,aq,_,_⟩:=hs3.cells;have Nj:=hs3.lt;have hz3:=dm.low hb3 hzs ct;have HD:=af (yT zb b off cap o rs L hz3 hlen (ag cB));clear hs3 N hz3 F;cases ht:jH k (cG rs n).1;{exact Fp};{exact Fr}}};{
 have ac:(0:Int)<((ca o rs n).length:Int):=ae;clear B;exact Fj}
theorem Sd(sb zb q b off cap:Nat)(k:Int)(l:Bool)(va H t:Value)(o n:ah)(rs j:List aj)(w:World)(c:cr w sb zb k 0 l va H t q)(z:cA w (sb+1) va j)(Z:H=aJ)(A:e6 w zb o b off cap rs) (y:bT w) (hzs:zb<sb) (ct:b<sb) (ad:0<sb) (X:Cq o rs) (S:n.length<=2900) (R:j.length<=90000)(B:∀d∈gU (cM rs o) 6,GW d/\d.data.length<=3000/\d.aI<=1000000000) (E:k=5\/k=255) (W:(cG rs n).1.length<=3001):az 194 #[aO sb,au n] w fun e u=>e=.returned (.tuple #[.string ⟨#[]⟩,.bool false])/\(∃dI x,cr u sb zb k (gE o rs n) l dI x t q/\cA u (sb+1) dI (j++gZ o rs k n)/\cA u (sb+1) x (h6 o rs k n)/\kr dI x)/\Below sb w u:=by
 subst Z;obtain⟨hlen,Q,U⟩:=X;have O:(k != 5)=false\/((k != 5)=true/\(k != 255)=false):=by{rcases E with h|h;{left;rw[h];rfl};{right;rw[h];exact dX}};clear E;have sF:=c.lt;have F:=z.pM;obtain⟨an,ao,_⟩:=c.cells;have ab:=af c;have HO:=af z;have dm:=af A;have K:=af y;have cB:=af B;have HC:=af (vx zb b off cap o n rs w A y hlen ae Q);have vw:Hid (∀a,ax w a->cr a sb zb k 0 l va (aJ) t q):=fun a r=>c.kept (r.block sb sF);have ri:=af F;clear c z A y B F;have hcl:=aZ (Ix o rs n) hlen;by_cases hc:(ca o rs n).length=0;{
 have aa:¬(0:Int)<((ca o rs n).length:Int):=ae;have e1:Hid (gE o rs n=if(cG rs n).2 then 0 else 3):=by unfold gE;rw[Hid,ay hc]
 have e2:Hid (gZ o rs k n=if(cG rs n).2 then fC k (cG rs n).1 else []):=by unfold gZ;rw[Hid,ay hc]
 have e3:Hid (h6 o rs k n=if(cG rs n).2 then(if jH k (cG rs n).1 then []else eo o rs)else eo o rs):=by unfold h6;rw[Hid,ay hc]
 clear hc;have dW:=af (fun a (r:ax w a)=>AA zb b off cap o n rs a (dm.below r) (K.below r) hlen S (fun d T=>(U d T).1));cases hm:(cG rs n).2;{
 exact Eb};{
 rw[hm]at e1 e2 e3;go_enter func194,ntmps194;go_wp2_with fail;refine HC.mono ?_;rintro e w1 ⟨⟨v1,rfl,lD⟩,hb1⟩;obtain⟨a1,ap,rfl⟩:=lD.slice;clear lD;obtain⟨t0,t1,_⟩:=(vw w1 hb1).cells;go_wp2_with fail;refine(dW w1 hb1).mono ?_;rintro e w2 ⟨⟨v2,rfl,hv2⟩,hb2⟩;rw[hm];have fq:=hb1.trans (hb2.mono hb1.size);have hs2:=ag vw w2 fq;obtain⟨u0,u1,u2,u3,u4,u5,u6,u7⟩:=hs2.cells;obtain⟨b',Y,C,G,mq⟩:=hv2;have al:=hb1.size;have M:b'≠sb:=by exact B5
 have N:va.ownBlock≠some b':=Ft;have P:=af (Hc sb zb q b' Y k 0 l va (aJ) t v2 j _ w2 hs2 (HO.below fq) C G M N W R);clear hs2 C G mq u0 u2 u3 u4 u5 u6 u7;rcases O with L|⟨L,ac⟩;all_goals(go_wp2_with fail;refine P.mono ?_;rintro e I ⟨rfl,⟨dI,hs3,J⟩,D⟩;have hb3:Below sb w I:=(fq.mono (show sb<=w.heap.size by omega)).trans (D.below (fun V ai=>⟨ae,fun h=>by have:=ag ri V h.symm;omega⟩) (by have:=fq.size;omega));have gV:=af hs3;have fo:=af J;obtain⟨y0,_,_,_,_,am,_,_⟩:=hs3.cells;have Nj:=hs3.lt;have hz3:=dm.low hb3 hzs ct;have HD:=af (yT zb b off cap o rs I hz3 hlen (ag cB));clear hs3 J hz3 D;cases ht:jH k (cG rs n).1;{exact Fp};{exact Fr})}};{
 have aa:(0:Int)<((ca o rs n).length:Int):=ae;exact Fj}
structure arN(o n:ah)(rs:List aj)(k:Int):Prop where
 fit:Cq o rs
 len:n.length<=2900
 Xs:∀r∈gU (cM rs o) 6,GW r/\r.data.length<=3000/\r.aI<=1000000000
 kk:k=5\/k=255
 Xt:(cG rs n).1.length<=3001
structure arO(V:ah->Prop)(o:ah)(rs:List aj)(k:Int):Prop where
 fit:Cq o rs
 Xs:∀r∈gU (cM rs o) 6,GW r/\r.data.length<=3000/\r.aI<=1000000000
 Xu:(k==5)=false
 Xv:(k==255)=false
 Xt:∀n,V n->(cG rs n).1.length<=3001
 afd:∀n r,V n->jl o rs n=some r->r.data.length<=2900/\V r.data
def wy(h o k:Nat)(d:Int)(j:Bool)(n:Value)(e:ah)(g l:List aj)(c:Option ah)(i:World):Prop :=
 ∃b a,cr i h o d (mS e g c) j b a n k/\cA i (h+1) b (l++mo e g d c)/\cA i (h+1) a (mT e g d c)/\kr b a
theorem WU{P:Prop}(h:P:=by
 go_wp2_with fail
 go_roundg 0
 case rel=>exact .inr (.inr ⟨rfl,a_⟩)
 case measure=>omega):P:=h
theorem Se(ab:ah->Prop)(b j g A K T S L:Nat)(l:Int)(o:Bool)(q:Value)(c n:ah)(d:List aj)(x:World)(W:cr x b j l 0 o (aJ) (aJ) q g)(aL:e6 x j c K T S d) (aB:bT x) (ak:j<b) (al:K<b) (ap:0<b) (aw:h7 x g A false) (a3:g≠A) (a0:g<b) (ay:A<b) (aV:L<=A) (a2:n.length<=2900) (a4:ab n) (aG:arO ab c d l):az 127 #[aO b,au n] x fun h u=>(dC c d 8 n=none/\h=.returned (.bool false)/\Below L x u)\/(∃a r,dC c d 8 n=some (a,r)/\a.length<=8/\h=.returned (.bool true)/\wy b j g l o q c d a r u/\Below b x u):=by
 obtain⟨_,_,_,_,_,_,_,bb⟩:=W.cells;have bc:=W.lt;have aQ:=af W;have aW:=af aL;have aP:=af aB;have aN:=af aw;have p:=af aG;clear W aL aB aw aG;go_enter func127,ntmps127;go_wp2_with fail
 go_loopg [1,5] 10 (fun ao a5 aa wr =>
  (∃(a:List aj) (i:ah) (w:Value),a5=au i/\aa=.bool true/\a.length<=8/\ao+a.length=10/\Hid (dC c d 8 n=(dC c d (8-a.length) i).map (fun H=>(a++H.1,H.2)))/\i.length<=2900/\Hid (ab i)/\Hid (cr wr b j l 0 o w (aJ) q g)/\Hid (cA wr (b+1) w a)/\Hid (Below b x wr)) \/
  (ao=1/\aa=.bool true/\Hid (dC c d 8 n=none)/\Hid (∃w,cr wr b j l 0 o w (aJ) q g)/\Hid (h7 wr g A true)/\Hid (Below L x wr)) \/
  (aa=.bool false/\Hid (∃a r,dC c d 8 n=some (a,r)/\a.length<=8/\wy b j g l o q c d a r wr/\Below b x wr)))
 case atStart =>
  refine .inl ⟨[],n,aJ,rfl,rfl,am,am,?_,a2,a4,aQ,e8 _ _ _ _,bk _ _⟩;rw[Hid];simp
 case round =>
  rcases hrel with⟨a,i,w,rfl,rfl,aR,ba,F,ad,ai,O,N,E⟩|⟨rfl,rfl,F,O,aZ,E⟩|⟨rfl,aT⟩
  ·have k:=ag O;obtain⟨_,_,_,_,_,_,_,a6⟩:=k.cells;have D:=aN.below E a0 ay;have I:=aW.low (ag E) ak al;have M:=R_ (ag aP) (ag E) ap;have Q:=af (wq g A false wr D);have a8:=af D;cases G:jl c d i with
   | none =>
    have R:=af (Sc b j g K T S l o w (aJ) q c i d a wr k (ag N) rfl I M ak al ap p.fit ad ae p.Xs p.Xu p.Xv (Sb G) (p.Xt i (ag ai)));have ac:Hid (dC c d 8 n=some (a,some i)):=by
     rw[Hid,ag F];have:dC c d (8-a.length) i=some ([],some i):=by
      cases h:8-a.length with
      | zero=>rw[dC,G]
      | succ m=>rw[dC,G]
     rw[this];simp
    clear k D I M O N F;go_wp2_with fail;refine Q.mono ?_;rintro h wr ⟨rfl,rfl⟩;go_wp2_with fail;refine R.mono ?_;rintro h P ⟨rfl,⟨J,aU,aH,aq,ar,aM⟩,av⟩;have a_:Hid (∃a r,dC c d 8 n=some (a,r)/\a.length<=8/\wy b j g l o q c d a r P/\Below b x P):=⟨a,some i,ac,aR,⟨J,aU,aH,aq,ar,aM⟩,E.trans av⟩
    clear aH aq ar av aM;exact WU
   | some e =>
    obtain⟨an,aC,aD,aE⟩:=AJ G;have a7:=(p.afd i e (ag ai) G).1;have aS:=af (p.afd i e (ag ai) G).2;have aX:=p.fit.2.1;by_cases aF:a.length=8
    ·have U:∀z,ax wr z->az 247 #[aO b,e.uR] z fun h u=>h=.returned (.tuple #[au e.data,.bool true])/\(cr u b j l 0 o w (aJ) q g/\h7 u g A true/\Below L wr u):=fun z C=>by
      have Z:=k.kept (C.block b k.lt);refine(R9 b j g A l o w _ q a e z Z (N.below C) (D.below C D.1 D.lt) a3 ay aF).mono ?_;rintro h u ⟨rfl,y,t,B⟩;exact⟨rfl,y,t,(C.mono (by have:=D.lt;omega)).trans (B L aV)⟩
     have R:=af (IQ b j g K T S l o w _ q c i d e true _ wr k I M p.fit ad p.Xu p.Xv an aC aD aE U);have ac:Hid (dC c d 8 n=none):=by
      rw[Hid,ag F,aF,i3,dC,G];rfl
     clear k D I M O N F U;go_wp2_with fail;refine Q.mono ?_;rintro h wr ⟨rfl,rfl⟩;go_wp2_with fail;refine R.mono ?_;rintro h P ⟨rfl,y,t,B⟩;have V:=af y;have X:=af t;have Y:=af ((E.mono (show L<=b by omega)).trans B);clear y t B;go_wp2_with fail
     go_roundg 1
     case rel=>exact .inr (.inl ⟨rfl,rfl,ac,⟨_,V⟩,X,Y⟩)
     case measure=>omega
    ·have U:∀z,ax wr z->az 247 #[aO b,e.uR] z fun h u=>h=.returned (.tuple #[au e.data,.bool (dU e.data c)])/\((∃J,cr u b j l 0 o J (aJ) q g/\cA u (b+1) J (a++[e]))/\Below b wr u):=fun z C=>by
      have Z:=k.kept (C.block b k.lt);refine(R8 b j g K T S l o w _ q c d a e z Z (N.below C) (I.below C) ak ae aX ae).mono ?_;rintro h u ⟨rfl,y,t⟩;exact⟨rfl,y,(C.mono (by have:=k.lt;omega)).trans t⟩
     have R:=af (IQ b j g K T S l o w _ q c i d e _ _ wr k I M p.fit ad p.Xu p.Xv an aC aD aE U);obtain⟨m,a1⟩:∃m,8-a.length=m+1:=⟨7-a.length,ae⟩
     have aI:Hid (dC c d 8 n=if dU e.data c=true then(dC c d (8-(a++[e]).length) e.data).map (fun H=>((a++[e])++H.1,H.2))else some (a++[e],none)):=by
      rw[Hid,ag F,a1,dC,G];have h:8-(a++[e]).length=m:=aA;rw[h];dsimp only;split
      ·cases dC c d m e.data<;>simp
      ·simp
     clear k D I M O N F U;go_wp2_with fail;refine Q.mono ?_;rintro h wr ⟨rfl,rfl⟩;go_wp2_with fail;refine R.mono ?_;rintro h P ⟨rfl,⟨J,y,t⟩,B⟩;have V:=af y;have X:=af t;have Y:=af (E.trans B);clear y t B;cases aK:dU e.data c
     ·have a_:Hid (∃a r,dC c d 8 n=some (a,r)/\a.length<=8/\wy b j g l o q c d a r P/\Below b x P):=by
       refine⟨a++[e],none,?_,aA,⟨J,aJ,V,?_,e8 _ _ _ _,fun a9 _ t=>by cases t⟩,Y⟩
       ·rw[ag aI,aK];rfl
       ·unfold mo;rw[eu];exact X
      exact WU
     ·have a_:Hid (dC c d 8 n=(dC c d (8-(a++[e]).length) e.data).map (fun H=>((a++[e])++H.1,H.2))):=by
       rw[Hid,ag aI,aK];rfl
      go_wp2_with fail
      go_roundg (9-a.length)
      case rel=>exact .inl ⟨a++[e],e.data,J,rfl,rfl,aA,aA,a_,a7,aS,V,X,Y⟩
      case measure=>omega
  ·obtain⟨w,k⟩:=ag O;obtain⟨_,_,_,_,_,_,_,a6⟩:=k.cells;have Q:=af (wq g A true wr (ag aZ));clear k;go_wp2_with fail;refine Q.mono ?_;rintro h wr ⟨rfl,rfl⟩;go_wp2;go_ret;exact .inl ⟨F,rfl,E⟩
  ·go_wp2;go_ret;obtain⟨a,r,y,t,B,aY⟩:=ag aT;exact .inr ⟨a,r,y,t,rfl,B,aY⟩
theorem Sf(a n k A t F B:Nat)(d:Int)(p:Bool)(y z q:Value)(e c:ah)(g:List aj)(b:World)(x:cr b a n d 0 p y z q k)(T:y=aJ)(U:z=aJ)(E:e6 b n e t F B g) (D:bT b) (K:n<a) (I:t<a) (J:0<a) (C:h7 b k A false) (l:arN e c g d):az 127 #[aO a,au c] b fun w r=>w=.returned (.bool true)/\(∃i h,cr r a n d (gE e g c) p i h q k/\cA r (a+1) i (gZ e g d c)/\cA r (a+1) h (h6 e g d c)/\kr i h)/\Below a b r:=by
 have H:=af (Sd a n k t F B d p y z q e c g [] b x (by subst T;exact e8 _ _ _ _) U E D K I J l.fit l.len am l.Xs l.kk l.Xt);have G:=af (wq k A false b C);obtain⟨M,N,O,P,Q,R,S,V⟩:=x.cells;clear x E D C l M N O P Q R S;go_enter func127,ntmps127;go_wp2_with fail;go_loopw [1,5] (fun L o wr=>(L=au c/\o=.bool true/\wr=b)\/(o=.bool false/\(∃i h,cr wr a n d (gE e g c) p i h q k/\cA wr (a+1) i (gZ e g d c)/\cA wr (a+1) h (h6 e g d c)/\kr i h)/\Below a b wr)) (fun _ o _=>IC o);case atStart=>exact .inl ⟨rfl,rfl,rfl⟩
 case round =>(
 rcases hrel with⟨rfl,rfl,rfl⟩|⟨rfl,j⟩;{
 go_wp2_with fail;refine G.mono ?_;rintro w b ⟨rfl,rfl⟩;go_wp2_with fail;refine H.mono ?_;rintro w W ⟨rfl,j⟩;rw[dJ]at j;have u:=af j;clear j;go_wp2_with fail;go_roundw;case rel=>exact .inr ⟨rfl,u⟩
 case measure=>simp[IC]};{have u:=af j;clear j;go_wp2;go_ret;exact⟨rfl,u⟩})
def k_(c:Bool)(b:Nat)(a:ah):Bool:=fA a||(b==0&&a==[42]&&c)
def fZ(b:Bool):Nat->List ah->Bool
 | _,[]=>true
 | a,c::d=>k_ b a c&&fZ b (a+1) d
theorem I8(b:Bool)(e:ah):∀(c:List ah) (a:Nat),fZ b a (c++[e])=(fZ b a c&&k_ b (a+c.length) e)
 | [],a=>by simp[fZ]
 | g::d,a=>by rw[dF,fZ,I8 b e d (a+1),fZ,bi,Bool.and_assoc,show a+1+d.length=a+(d.length+1) by omega]
theorem I9(e:Bool):∀(d:List ah) (a b:Nat) (g:b<d.length),k_ e (a+b) d[b]=false->fZ e a d=false
 | g::h,a,0,_,c=>by rw[fZ];simp at c;rw[c];rfl
 | g::h,a,b+1,i,c=>by rw[fZ,I9 e h (a+1) b (by simpa using i) (by simpa [show a+1+b=a+(b+1) by omega]using c),rd]
def dS(a:Bool)(s:ah):Option (List ah):=if s.length<=60/\fZ a 0 (aC 46 s)=true then some (aC 46 s)else none
def gJ(d:World)(b e:Nat)(c:List ah):Prop:=b<d.heap.size/\∀a (g:a<c.length),d.cell? (aq b (e+a))=some (.string (ai c[a]))
theorem gJ.below{w h:World}{a c:Nat}{g:List ah}(b:gJ w a c g)(d:Below w.heap.size w h):gJ h a c g :=
 ⟨cp b.1 d.size,fun e i=>(d.cell (p:=⟨a,c+e,none⟩) b.1).trans (b.2 e i)⟩
def eY(e:World)(v:Value)(a:List ah):Prop:=∃c d b,v=aF c d a.length b/\a.length<=b/\gJ e c d a
theorem eY.below{w b:World}{v:Value}{a:List ah}(e:eY w v a)(j:Below w.heap.size w b):eY b v a:=by obtain⟨d,k,c,g,h,i⟩:=e;exact⟨d,k,c,g,h,i.below j⟩
theorem l6{g:World}{d:Nat}{v:Value}{b:List ah}(e:nM g d v b)(hne:b≠[]):∃a c,v=aF a 0 b.length c/\b.length<=c/\d<=a/\gJ g a 0 b:=by have i:=e.1;obtain⟨_,⟨_,hz⟩|⟨a,c,o,rfl,j,h,k,_⟩⟩:=e.1;{exact us};{refine⟨a,c,rfl,k,j,(bn.1 h).1,fun n l=>?_⟩;rw[cT,kj i n ae,nR,dV l];rfl}
def jK(g:World)(d:Nat)(v:Value)(e:Option (List ah)):Prop:=match e with
 | none=>v=aJ
 | some a=>a≠[]/\∃b c,v=aF b 0 a.length c/\a.length<=c/\d<=b/\gJ g b 0 a
theorem Bc(a:ah):((ai a).toList==[42])=(a==[42]):=by rw[c7];rfl
theorem Fl{P:Prop}(h:P:=by go_wp2_with fail;refine(H3 _).mono ?_;rintro e w2 ⟨rfl,rfl⟩;go_wp2;go_ret;exact⟨ag wz (by rw[ag HST];rfl),HO.2.2⟩):P:=h
theorem rt(s:ah)(b:Bool)(j:World)(T:s.length<=2000000):az 63 #[au s,.bool b] j fun e I=>(∃v,e=.returned v/\jK I j.heap.size v (dS b s))/\Below j.heap.size j I:=by
 have ad:=a7 s;by_cases aa:(60:Int)<(s.length:Int);{have U:Hid (dS b s=none):=ar (fun g=>ae);go_enter func63,ntmps63;go_wp2;go_ret;rw[ag U];exact⟨⟨_,rfl,rfl⟩,bk _ _⟩};have G:=af (qI s 46 j T);have ac:(aC 46 s).length<=61:=by have:=iq 46 s;omega
 have E:∀c∈aC 46 s,c.length<=60:=fun c i=>by have:=jo 46 s.length s av c i;omega
 have J:Hid (∀o,fZ b 0 (aC 46 s)=o->dS b s=if o then some (aC 46 s)else none):=fun o R=>by{unfold dS;rw[R];cases o;{exact ar (fun g=>by cases g.2)};{exact ay ⟨ae,rfl⟩}};have W:=af E;have H:=af (io 46 s);clear E;generalize aC 46 s=d at *;go_enter func63,ntmps63;go_wp2_with fail;refine G.mono ?_;rintro e X ⟨⟨v,rfl,F⟩,B⟩;obtain⟨z,O,rfl,P,C,r⟩:=l6 F (ag H);have HO:=af (aQ C (aQ r B));have aj:=r.1;clear F B G C r;go_wp2_with fail;go_loopw [6] (fun u wr=>∃a:Nat,a<=d.length/\u=ak a/\fZ b 0 (d.take a)=true/\wr=X) (fun u _=>d.length-(intOf u).toNat);case atStart=>exact⟨0,b6 _,rfl,rfl,rfl⟩
 case round =>(
 obtain⟨a,S,rfl,A,rfl⟩:=hrel;have w:=af A;clear A;by_cases p:a<d.length;{
 have Q:(a:Int)<(d.length:Int):=ae;have Y:=af (du p);obtain⟨c,i⟩:=a2 (d[a]);have ai:c.length<=60:=by rw[i];exact W _ (bM p)
 have ab:wr.cell? (aq z a)=some (au c):=by{have:=HO.2.1.2 a p;rw[cT]at this;rw[i];exact this};have y:=af i;clear i;have H3:=af (fun L=>Qy c L ae);have K:=Bc c;have x:Hid (k_ b a c=true->fZ b 0 (d.take (a+1))=true):=fun g=>by{rw[ag Y,I8,ag w,de,kb S,cT,<- ag y,g];rfl};have N:Hid (k_ b a c=false->dS b s=none):=fun g=>by{have:=I9 b d 0 a p (by rw[cT,<- ag y];exact g);rw[ag J false this];rfl};have l:Hid (k_ b a c=(fA c||(a==0&&c==[42]&&b))):=rfl;cases n:fA c;{have Z:=af n;rw[n]at H3 l;clear n;have wz:Hid ((a==0&&c==[42]&&b)=false->∃v,Ending.returned (aJ)=.returned v/\jK wr j.heap.size v (dS b s)):=fun g=>by{rw[ag N (by rw[ag l,g];rfl)];exact⟨_,rfl,rfl⟩};by_cases D:a=0;{subst D;cases h:(c==[42]);{have HST:=af h;rw[h]at K;clear h;exact Fl};{have HST:=af h;rw[h]at K;clear h;cases b;{exact Fl};{have k:=ag x (by rw[ag l,ag HST];rfl);have q:=af k;clear k;go_wp2_with fail;refine(H3 _).mono ?_;rintro e w2 ⟨rfl,rfl⟩;go_wp2;exact⟨⟨0+1,ae,by first|rfl|go_num,q,o7⟩,ci⟩}}};{have al:(0:Int)<(a:Int):=ae;go_wp2_with fail;refine(H3 _).mono ?_;rintro e w2 ⟨rfl,rfl⟩;go_wp2;go_ret;exact⟨ag wz (by rw[show(a==0)=false by simpa using D];rfl),HO.2.2⟩}};{rw[n]at H3 l;clear n;have k:=ag x (by rw[ag l];rfl);have q:=af k;clear k;go_wp2_with fail;refine(H3 _).mono ?_;rintro e w2 ⟨rfl,rfl⟩;go_wp2;exact⟨⟨a+1,ae,by first|rfl|go_num,q,o7⟩,ci⟩}};{have Q:¬(a:Int)<(d.length:Int):=ae;have V:a=d.length:=ae;have t:=ag w;rw[V,dK]at t;have M:=af (J true t);clear t;go_wp2;go_ret;rw[ag M];exact⟨⟨_,rfl,H,z,O,rfl,P,HO.1,HO.2.1⟩,HO.2.2⟩})
end Go.Proofs.YtkkpahmoljiepaaGreatDoor
