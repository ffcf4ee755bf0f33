import Derived.Test.YtkkpahmoljiepaaGreatDoorJ24
set_option maxRecDepth 1000000
set_option maxHeartbeats 12800000
set_option linter.unusedSimpArgs false
set_option linter.unusedVariables false
namespace Go.Proofs.YtkkpahmoljiepaaGreatDoor
open Go.RowKit Go.Proofs.Tryz
def uK(L ans:List aj)(s:List ai×List aj)(r:aj):List ai×List aj :=
 if wH r && !s.1.contains (fX r.data)then(s.1++[fX r.data],s.2++(fz (cK L (fX r.data)) 1).filter (fun a=>!ans.any (a == ·)))else s
def mK(L ans l:List aj):List ai×List aj:=l.foldl (uK L ans) ([],[])
theorem LD(L ans l:List aj)(r:aj):mK L ans (l++[r])=uK L ans (mK L ans l) r:=by unfold mK;rw[CH];rfl
theorem alH{L ans:List aj}{s:List ai×List aj}{r:aj}(h:wH r=false):uK L ans s r=s:=by unfold uK;rw[h];rfl
theorem alI{L ans:List aj}{s:List ai×List aj}{r:aj}(h:s.1.contains (fX r.data)=true):uK L ans s r=s:=by unfold uK;rw[h,Mn,Mk];rfl
theorem alJ{L ans:List aj}{s:List ai×List aj}{r:aj}(hn:wH r=true)(h:s.1.contains (fX r.data)=false):uK L ans s r=(s.1++[fX r.data],s.2++(fz (cK L (fX r.data)) 1).filter (fun a=>!ans.any (a == ·))):=by unfold uK;rw[h,hn];rfl
theorem alK(L ans:List aj)(hL:L.length<=60):∀(l:List aj),(mK L ans l).1.length<=l.length/\(mK L ans l).2.length<=l.length*60:=by
 intro l;obtain⟨n,hn⟩:∃n,l.length=n:=⟨_,rfl⟩;induction n generalizing l with
 | zero=>obtain rfl:l = []:=gS hn;exact⟨aL _,dY _⟩
 | succ n ih =>{
 rcases tD l with rfl|⟨l',r,rfl⟩;{simp at hn};{
 rw[tC]at *;have hl:l'.length=n:=by simp at hn;exact hn
 obtain⟨h1,h2⟩:=ih l' hl;rw[LD];have ho:=yc (fun a:aj=>!ans.any (a == ·)) (fz (cK L (fX r.data)) 1);have hs:=a_ (Jm (cK L (fX r.data)) 1) (FL L (fX r.data));unfold uK;split;{refine⟨aX,?_⟩;show((mK L ans l').2++_).length<=_;rw[bU,bU];simp only[ab1];omega};{exact⟨aX,aX⟩}}}
theorem alL(x:aj)(w:World) :
  aF 234 #[bK,.agg #[aA x.owner,aq x.aV,aq x.type,aA x.data]] w (cS (aq (-1)) w):=by
 have eZ:∀o,aw w (w.alloc o):=fun o=>bj.alloc aB _;have mo:=ag eZ;clear eZ;go_enter func234,ntmps234;go_wp2_with fail;go_loopw [8] (fun i wr=>i=aq 0/\aw w wr) (fun _ _=>0);case atStart=>exact⟨rfl,af mo _⟩
 case round =>(obtain⟨rfl,hb⟩:=hrel;go_wp2;go_ret;exact⟨rfl,hb⟩)
theorem alM(x:aj)(w:World) :
  aF 178 #[bK,.agg #[aA x.owner,aq x.aV,aq x.type,aA x.data]] w (cS (.bool false) w):=by have eZ:∀o,aw w (w.alloc o):=fun o=>bj.alloc aB _;have mo:=ag eZ;have fp:=ag (fun W=>alL x W);clear eZ;go_enter func178,ntmps178;go_wp2_with fail;refine(fp _).mono ?_;rintro e w2 ⟨rfl,hb2⟩;go_wp2;go_ret;exact⟨rfl,(mo _).trans (hb2.mono ak)⟩
theorem alN(x:aj)(v:Value)(rs:List aj)(w:World)(hv:gV w v rs)(hl:rs.length<=3001) :
  aF 178 #[v,.agg #[aA x.owner,aq x.aV,aq x.type,aA x.data]] w (cS (.bool (rs.any (x == ·))) w):=by rcases hv with⟨rfl,rfl⟩|⟨b,off,cap,rfl,_,hr⟩;{exact alM x w};{exact Tu x b off cap rs w hr hl}
def Co(w:World)(base:Nat)(v:Value)(l:List ai):Prop:=w.ownsRow base 9 1 v l.length (l.map fun s=>aA s)
theorem Co.slice{w:World}{base:Nat}{v:Value}{l:List ai}(h:Co w base v l):∃a c,v=.slice a l.length c:=by rcases h.2 with⟨rfl,h0⟩|⟨g,cap,_,rfl,_⟩;{exact⟨none,0,by rw[h0]⟩};{exact⟨_,_,rfl⟩}
theorem alO(v:Value)(l:List ai)(x:ai)(base:Nat)(w:World)(h:Co w base v l)(hl:l.length<=100000) :
  aF 197 #[v,aA x] w fun e w'=>e=.returned (.bool (l.contains x))/\w'=w:=by
 have alP:∀a b:ai,ah a=ah b->a=b:=fun a b e=>by{have:=ek (fun z:ByteArray=>z.data.toList) e;exact this};have hc0:∀(n:Nat),n=l.length->Lib.containsS ((l.map ah).take n) (ah x)=l.contains x:=fun n hn=>by{rw[hn,show l.length=(l.map ah).length by simp,jV,tB,Lib.containsS_iff,List.contains_iff_mem,oh];exact⟨fun⟨a,h1,h2⟩=>by rw[<- alP _ _ h2];exact h1,fun h=>⟨x,h,rfl⟩⟩};rcases h.2 with⟨rfl,h0⟩|⟨g,cap,cur,rfl,hb,bp,hc,_,hsz,pV⟩;{have:=Tryz.slices_Contains_string_empty none 0 (ah x) w;have hl0:l = []:=gS h0;subst hl0;exact this};{
 have:=Tryz.slices_Contains_string g 0 l.length cap (l.map ah) (ah x) w ak ae (fun j hj=>by{
 have hj':j<l.length:=by simpa using hj
 have:=ek (fun z:List Value=>z[j]?) pV;rw[Ss ae,CL,mM hj']at this;unfold World.cell?;rw[bp,kR];have h2:cur[j]? = some (.string (ah l[j])):=by simpa using this
 simp[h2,hj']})
 rw[hc0 l.length rfl]at this;exact this}
theorem alQ:(prog.info? 9).map (fun i=>(i.zero,i.size,i.bytes))=some (some (.string ⟨#[]⟩),1,16):=aK
theorem alR:prog.underlying 49=some (.slice 9):=aK
theorem alS{w:World}{base:Nat}{v:Value}{l:List ai}(h:Co w base v l)(x:ai)(hb:base<=w.heap.size)(hl:l.length<=100000) :
  ∃v' w',(Builtin.append_ #[49,49] 49 #[v,aU w.heap.size 0 1 1]).run prog (w.alloc (.cells #[.string (ah x)] 9))=.ok v' w'/\Co w' base v' (l++[x])/\bh (fun k=>some k≠v.ownBlock) w w'/\(v'.ownBlock=v.ownBlock\/v'.ownBlock=some (w.heap.size+1)):=by
 obtain⟨i0,au,hz0,hz1,hz2⟩:=kS alQ;have eZ:aw w (w.alloc (.cells #[.string (ah x)] 9)):=bj.alloc aB _;have hsz:(w.alloc (.cells #[.string (ah x)] 9)).heap.size=w.heap.size+1:=dI w _;obtain⟨v',w',k1,k2,k3,_,k5⟩:=run_append_own_at (P:=prog) (w.alloc (.cells #[.string (ah x)] 9)) base 49 49 9 i0 _ 1 16 alR au hz0 hz1 hz2 rfl ae v l.length _ (oq h eZ) (ar w.heap.size 0) 1 1 [aA x] rfl (fun j y hj=>by{
 rw[Sh,kR];have:=World.alloc_heap_new w (.cells #[.string (ah x)] 9);unfold World.cell?;rw[this];cases j with
 | zero=>exact hj
 | succ j=>simp at hj}) (fun y hy=>by{
 have:y=aA x:=by simpa using hy
 rw[this];rfl}) (by simp[maxLen];omega) ae ae
 rw[hsz]at k5;refine⟨v',w',k1,?_,⟨k3.os,k3.tape,k3.output,a_ ae k3.size,fun k hk hn=>(k3.block k ae hn).trans (bV w _ k hk)⟩,k5⟩;unfold Co;rw[bU,n_];exact k2
structure uL(w wr:World)(vt vl:Value)(tg:List ai)(add:List aj):Prop where
 tg:Co wr w.heap.size vt tg
 ad:bT wr w.heap.size vl add
 ne:∀k,vt.ownBlock=some k->vl.ownBlock≠some k
 bl:aw w wr
theorem uL.below{w wr w1:World}{vt vl:Value}{tg:List ai}{add:List aj}(h:uL w wr vt vl tg add)(hb:aw wr w1):uL w w1 vt vl tg add :=
 ⟨oq h.tg hb,h.ad.below hb,h.ne,h.bl.trans (hb.mono h.bl.size)⟩
theorem uL.alT{w wr:World}{vt vl:Value}{tg:List ai}{add:List aj}(h:uL w wr vt vl tg add)(x:ai)(hl:tg.length<=100000) :
  ∃v' w',(Builtin.append_ #[49,49] 49 #[vt,aU wr.heap.size 0 1 1]).run prog (wr.alloc (.cells #[.string (ah x)] 9))=.ok v' w'/\uL w w' v' vl (tg++[x]) add/\(∃a c,v'=.slice a (tg.length+1) c):=by
 have Q0:=nC h.tg;have LF:=h.ad.Jr;obtain⟨v',w',k1,k2,k3,k5⟩:=alS h.tg x h.bl.size hl;refine⟨v',w',k1,⟨k2,?_,?_,?_⟩,?_⟩;{refine h.ad.kept (fun g hg=>k3.block g (LF g hg).2 (fun e=>h.ne g e.symm hg))};{
 intro k hk e;rcases k5 with h5|h5;{rw[h5]at hk;exact h.ne k hk e};{
 rw[h5]at hk;have:k=wr.heap.size+1:=by simpa using hk.symm
 have:=(LF k e).2;omega}};{exact h.bl.trans ⟨k3.os,k3.tape,k3.output,k3.size,fun k hk=>k3.block k (by have:=h.bl.size;omega) (fun e=>by have:=(Q0 k e.symm).1;omega)⟩};{obtain⟨a,c,e⟩:=k2.slice;rw[bU]at e;exact⟨a,c,e⟩}
theorem uL.alU{w wr:World}{vt vl:Value}{tg:List ai}{add:List aj}(h:uL w wr vt vl tg add){b':Nat}(r:aj)(hr:dz wr b' 0 [r])(hl:add.length<=90000) :
  ∃v' w',(Builtin.append_ #[41,41] 41 #[vl,aU b' 0 1 1]).run prog wr=.ok v' w'/\uL w w' vt v' tg (add++[r])/\(∃a c,v'=.slice a (add.length+1) c)/\Below w.heap.size wr w':=by
 have Q0:=nC h.tg;have LF:=h.ad.Jr;obtain⟨v',w',k1,k2,k3,k5⟩:=NL w.heap.size vl add [r] b' 0 1 wr h.ad hr h.bl.size aX;have hbl:Below w.heap.size wr w':=⟨k3.os,k3.tape,k3.output,k3.size,fun k hk=>k3.block k (by have:=h.bl.size;omega) (fun e=>by have:=(LF k e.symm).1;omega)⟩;refine⟨v',w',k1,⟨?_,k2,?_,h.bl.trans hbl⟩,?_,hbl⟩;{
 refine ab8 h.tg k3 ?_;cases alV:vt.ownBlock with
 | none=>exact .inl rfl
 | some k=>exact .inr (fun e=>h.ne k alV e.symm)};{
 intro k hk e;have:=(Q0 k hk).2;rcases k5 with h5|h5;{rw[h5]at e;exact h.ne k hk e};{
 rw[h5]at e;have:k=wr.heap.size:=by simpa using e.symm
 omega}};{obtain⟨a,c,e⟩:=k2.slice;rw[bU]at e;exact⟨a,c,e⟩}
theorem ZO{w:World}{b off cap:Nat}{zb:Nat}{o:ai}{rs l:List aj}{v:Value}(hz:fA w zb o b off cap rs)(h:lg b off rs v l):gV w v l:=h.rv hz.2.2.2.2
theorem alW(W:World)(r:aj)(t:TypeId):dz (W.alloc (.cells #[.string (ah r.owner),.int .i64 r.aV,.int .i64 r.type,.string (ah r.data)] t)) W.heap.size 0 [r]:=by
 have h:=World.alloc_heap_new W (.cells #[.string (ah r.owner),.int .i64 r.aV,.int .i64 r.type,.string (ah r.data)] t);refine⟨(di.1 h).1,fun j hj i v au=>?_⟩;have:j=0:=by simp at hj;omega
 subst this;unfold World.cell?;rw[h];simpa [aj.aN]using au
theorem alX(zb b off cap:Nat)(o:ai)(rc:Int)(bz:Bool)(va vb vc:Value)(Z ans eB:List aj)(w:World)(hz:fA w zb o b off cap Z)(hzl:Z.length<=60)(ha:gV w va ans)(hb:gV w vb eB)(ae4:ans.length<=500)(xm:eB.length<=500)
  (tV:∀r∈ans++eB,r.data.length<=3000) :
  aF 128 #[aO zb,.agg #[aq rc,.bool bz,va,vb,vc]] w fun e w'=>(∃v,e=.returned v/\bT w' w.heap.size v (mK Z ans (ans++eB)).2)/\aw w w':=by
 obtain⟨aa,ca,rfl⟩:=AA ha;obtain⟨ab,cb,rfl⟩:=AA hb;have dV:=ag ha;have aZ:=ag hb;have ZP:=ag tV;have eT:=ag hz;clear ha hb tV hz;go_enter func128,ntmps128;go_wp2_with fail;have eM:aw w ((w.alloc (.cells #[.int .i64 rc,.bool bz,.slice aa ans.length ca,.slice ab eB.length cb,vc] 43)).alloc (.cells #[.slice aa ans.length ca,.slice ab eB.length cb] 41)):=(bj.alloc aB _).alloc ak _;have ZQ:((w.alloc (.cells #[.int .i64 rc,.bool bz,.slice aa ans.length ca,.slice ab eB.length cb,vc] 43)).alloc (.cells #[.slice aa ans.length ca,.slice ab eB.length cb] 41)).cell? (ar w.heap.size 2)=some (.slice aa ans.length ca):=by go_simp
 refine(ae3 (w.heap.size+1) _ _ ans eB _ ak (by go_simp) (by go_simp) (dV.below eM) (aZ.below eM) ae ae).mono ?_;rintro e w1 ⟨v1,rfl,ho1,hb1⟩;have hB1:aw w w1:=eM.trans (hb1.mono c5);have jk:w1.cell? (ar w.heap.size 2)=some (.slice aa ans.length ca):=(hb1.cell (p:=⟨w.heap.size,2,none⟩) aX).trans ZQ;obtain⟨a1,az,rfl⟩:=ho1.slice;have ij:=ag ho1.rv;have ui:(ans++eB).length<=1000:=by rw[bU];omega
 have rW:=ag (dV.below hB1);have mC:=ag (eT.below hB1);have cM:=ag hB1;have dQ:=ag jk;have hs1:=hB1.size;have hwl:w.heap.size<w1.heap.size:=qD _ _ jk;clear ho1 eM hb1 ZQ dV aZ hB1 jk eT;obtain⟨L,hL⟩:∃L,ans++eB=L:=⟨_,rfl⟩;rw[hL]at ij ui ZP ⊢;have uq:=ag hL;clear hL;go_wp2_with fail;go_loopw [5,6,19] (fun vl vt i wr=>∃k:Nat,i=aq k/\k<=L.length/\(∃a n c,vl=.slice a n c)/\(∃a n c,vt=.slice a n c)/\uL w1 wr vt vl (mK Z ans (L.take k)).1 (mK Z ans (L.take k)).2) (fun _ _ i _=>L.length - (intOf i).toNat);case atStart=>exact⟨0,rfl,dY _,⟨_,_,_,rfl⟩,⟨_,_,_,rfl⟩,⟨iI _ _ _ _,iI _ _ _ _,(fun k hk=>by cases hk),bW _ _⟩⟩
 case round =>(
 obtain⟨k,rfl,hk,⟨la,ln,lc,rfl⟩,⟨ta,tn,tc,rfl⟩,bZ⟩:=hrel;obtain⟨bH,hG⟩:∃bH,mK Z ans (L.take k)=bH:=⟨_,rfl⟩;have hpl:=alK Z ans hzl (L.take k);have kY:(L.take k).length<=1000:=by rw[jU];omega
 rw[hG]at bZ hpl;obtain⟨bF,AD⟩:=bH;simp only at bZ hpl;have arO:bF.length<=1000:=ae;have arP:AD.length<=60000:=ae;have HG:=ag hG;have bG:=ag bZ;have bL:=bZ.bl.size;clear hG hpl;by_cases hlt:k<L.length;{
 have dJ:Hid (L.take (k+1)=L.take k++[L[k]]):=kQ hlt;have nJ:=ij.below bZ.bl;rcases nJ with⟨e1,e2⟩|⟨b',off',cap',e1,hc',hr'⟩;{rw[e2]at hlt;simp at hlt};{
 cases e1;obtain⟨q0,q1,q2,q3⟩:=hr'.four k hlt;have tV:=af ZP L[k] (iV hlt);have yB:=ag (fun W=>Uf L[k].data W tV);clear hr' bZ;generalize L[k]=r at *;go_wp2_with fail;refine(yB _).mono ?_;rintro e w4 ⟨rfl,hw4⟩;have hb4:aw wr w4:=by rw[hw4];exact bj.alloc aB _
 have d2:w4.cell? (ar wr.heap.size 2)=some (aq r.type):=by rw[hw4];go_simp
 have H4:=bG.below hb4;have GM:=ag H4;obtain⟨x,hx⟩:∃x,fX r.data=x:=⟨_,rfl⟩;rw[hx];have cN:=ag hx;have ZR:=ag (alO _ bF x _ w4 H4.tg ae);obtain⟨_,_,et⟩:=H4.tg.slice;obtain⟨-,alY,-⟩:=Iy et;obtain⟨_,_,el⟩:=H4.ad.slice;obtain⟨-,alZ,-⟩:=Iy el;subst alY alZ;have arQ:=hb4.size;generalize wr.heap.size=q at *;clear hw4 yB q0 q1 q2 q3 hb4 H4 et el hx;by_cases iy:wH r=false;{
 have hy2:(r.type != 2)=true:=by unfold wH at iy;simp at iy;simpa using iy.1
 have al0:(r.type != 15)=true:=by unfold wH at iy;simp at iy;simpa using iy.2
 have bu:Hid (mK Z ans (L.take (k+1))=(bF,AD)):=by rw[Hid,af dJ,LD,af HG,alH iy]
 clear iy;go_wp2;exact⟨⟨k+1,dD,ae,⟨_,_,_,rfl⟩,⟨_,_,_,rfl⟩,by rw[af bu];exact GM⟩,gN⟩};{
 have H5:wH r=true:=by simpa using iy
 have gA:(r.type != 2)=false\/((r.type != 2)=true/\(r.type != 15)=false):=by{by_cases h2:r.type=2;{left;simp[h2]};{right;unfold wH at H5;simp[h2]at H5;exact⟨by simpa using h2,by simp[H5]⟩}};have P8:=ag H5;clear iy H5;obtain⟨hc,Q1⟩:∃hc,bF.contains x=hc:=⟨_,rfl⟩;rw[Q1]at ZR;have ZT:=ag Q1;clear Q1;rcases gA with hy2|⟨hy2,al0⟩;all_goals(
 go_wp2_with fail;refine ZR.mono ?_;rintro e w5 ⟨rfl,rfl⟩;cases hc with
 | true =>{
 have bu:Hid (mK Z ans (L.take (k+1))=(bF,AD)):=by rw[Hid,af dJ,LD,af HG,alI (by rw[af cN];exact ZT)]
 go_wp2;exact⟨⟨k+1,dD,ae,⟨_,_,_,rfl⟩,⟨_,_,_,rfl⟩,by rw[af bu];exact GM⟩,gN⟩}
 | false =>{
 obtain⟨S,hS⟩:∃S,fz (cK Z x) 1=S:=⟨_,rfl⟩;have bu:Hid (mK Z ans (L.take (k+1))=(bF++[x],AD++S.filter (fun a=>!ans.any (a == ·)))):=by{rw[Hid,af dJ,LD,af HG,alJ (af P8) (by rw[af cN];exact ZT),af cN,hS]};obtain⟨v6,w6,hrun,Q2,a6,jl,al1⟩:=GM.alT x ae;subst al1;have LG:=ag hrun;have ZU:=ag Q2;have HST:=ag (Nx zb b off cap o x 1 Z w6 (mC.below Q2.bl) ae);rw[hS]at HST;clear hrun Q2;go_wp2_with (at_builtin;go_loud (refine JJ nz (.tmp 39) (.tmp 41) 49 nz _ _ _ _ nz nz (af LG) ?_));refine HST.mono ?_;rintro e w7 ⟨⟨v7,rfl,Q3⟩,oA⟩;have Q4:=ZU.below oA;have al2:=ag Q4;have ZV:=ZO (mC.below Q4.bl) Q3;obtain⟨s7,arR,rfl⟩:=AA ZV;have C9:=ag Q3;have arS:S.length<=60:=by rw[<- hS];exact a_ (a_ (Jm _ _) (FL _ _)) hzl
 clear Q3 oA Q4 hS HST LG ZU ZV;go_wp2_with fail;go_loopw [5,47] (fun vl i wr=>∃j:Nat,i=aq j/\j<=S.length/\(∃a n c,vl=.slice a n c)/\uL w1 wr (.slice a6 (bF.length+1) jl) vl (bF++[x]) (AD++(S.take j).filter (fun a=>!ans.any (a == ·)))) (fun _ i _=>S.length - (intOf i).toNat);case atStart=>exact⟨0,rfl,dY _,⟨_,_,_,rfl⟩,(by rw[IU,List.filter_nil,jt];exact al2)⟩
 case round =>(
 obtain⟨j,rfl,hj,⟨ma,mn,Cp,rfl⟩,zK⟩:=hrel;have ZW:=ZO (mC.below zK.bl) (af C9);have ZX:=ag zK;have arT:=zK.bl.size;have fj:wr.cell? (ar w.heap.size 2)=some (.slice aa ans.length ca):=(zK.bl.cell (p:=⟨w.heap.size,2,none⟩) hwl).trans (af dQ);have sH:((S.take j).filter (fun a=>!ans.any (a == ·))).length<=60:=by{have:=yc (fun a:aj=>!ans.any (a == ·)) (S.take j);rw[jU]at this;omega};by_cases FA:j<S.length;{
 have ZY:Hid (S.take (j+1)=S.take j++[S[j]]):=kQ FA;rcases ZW with⟨e1,e2⟩|⟨bs,os,cs,e1,hcs,mO⟩;{rw[e2]at FA;simp at FA};{
 cases e1;obtain⟨q0,q1,q2,q3⟩:=mO.four j FA;have arU:bs<wr.heap.size:=mO.1;have Q5:=ag (fun W (hW:aw wr W)=>alN S[j] _ ans W ((rW.below zK.bl).below hW) ae);generalize S[j]=a at *;have hne:¬bs=wr.heap.size:=ae;have arV:¬w.heap.size=wr.heap.size:=ae;have al:∀(o:Obj) (a:Addr) (v:Value),wr.cell? a=some v->(wr.alloc o).cell? a=some v:=fun o a v h=>(dC (bV wr o a.block (qD _ _ h))).trans h;have fa:=fun o=>al o _ _ fj;have eZ:∀o,aw wr (wr.alloc o):=fun o=>bj.alloc aB _;have mo:=ag eZ;obtain⟨hin,Q6⟩:∃hin,ans.any (a == ·)=hin:=⟨_,rfl⟩;have Bf:=ag Q6;rw[Q6]at Q5;obtain⟨_,_,em⟩:=zK.ad.slice;obtain⟨-,ZZ,-⟩:=Iy em;rw[bU]at ZZ;subst ZZ;clear mO zK al eZ Q6 em;go_wp2_with fail;refine(Q5 _ (mo _)).mono ?_;rintro e w8 ⟨rfl,uE⟩;have y5:=(mo (.cells #[.string (ah a.owner),.int .i64 a.aV,.int .i64 a.type,.string (ah a.data)] 47)).trans (uE.mono ak);have Z0:=ZX.below y5;have Kw:=ag Z0;have yZ:w8.heap[wr.heap.size]? = some (.cells #[.string (ah a.owner),.int .i64 a.aV,.int .i64 a.type,.string (ah a.data)] 47):=(uE.block wr.heap.size ak).trans (World.alloc_heap_new wr _);have p0:w8.cell? (ar wr.heap.size 0)=some (aA a.owner):=by unfold World.cell?; rw[yZ];rfl
 have p1:w8.cell? (ar wr.heap.size 1)=some (aq a.aV):=by unfold World.cell?; rw[yZ];rfl
 have gB:w8.cell? (ar wr.heap.size 2)=some (aq a.type):=by unfold World.cell?; rw[yZ];rfl
 have fD:w8.cell? (ar wr.heap.size 3)=some (aA a.data):=by unfold World.cell?; rw[yZ];rfl
 clear uE Z0 yZ q0 q1 q2 q3 fj fa Q5;cases hin with
 | true =>{have xy:Hid ((S.take (j+1)).filter (fun a=>!ans.any (a == ·))=(S.take j).filter (fun a=>!ans.any (a == ·))):=by{rw[Hid,af ZY,tE,tF (by rw[af Bf];simp)];simp};go_wp2;exact⟨⟨j+1,dD,ae,⟨_,_,_,rfl⟩,by rw[af xy];exact Kw⟩,gN⟩}
 | false =>{have xy:Hid ((S.take (j+1)).filter (fun a=>!ans.any (a == ·))=(S.take j).filter (fun a=>!ans.any (a == ·))++[a]):=by{rw[Hid,af ZY,tE,qF (by rw[af Bf];rfl)];rfl};have rz:aw w8 (w8.alloc (.cells #[.string (ah a.owner),.int .i64 a.aV,.int .i64 a.type,.string (ah a.data)] 47)):=bj.alloc aB _;obtain⟨v9,w9,hrun,Z2,⟨a9,c9,Z3⟩,al3⟩:=(Kw.below rz).alU a (alW w8 a _) (by rw[bU];omega);rw[bU]at Z3;subst Z3;have LG:=ag hrun;have al4:=ag Z2;clear hrun Z2 al3 rz;go_wp2_with (at_builtin;go_loud (refine JJ nz (.tmp 56) (.tmp 58) 41 nz _ _ _ _ nz nz (af LG) ?_));go_wp2;exact⟨⟨j+1,dD,ae,⟨_,_,_,rfl⟩,by rw[af xy,<- g_];exact al4⟩,gN⟩}}};{have al5:j=S.length:=ae;have hnl:¬(j:Int)<(S.length:Int):=ae;have lj:Hid (mK Z ans (L.take (k+1))=(bF++[x],AD++(S.take j).filter (fun a=>!ans.any (a == ·)))):=by{rw[Hid,af bu,al5,jV]};clear zK ZW;go_wp2;exact⟨⟨k+1,dD,ae,⟨_,_,_,rfl⟩,⟨_,_,_,rfl⟩,by rw[af lj];exact ZX⟩,gN⟩})})}}};{have al6:k=L.length:=ae;have hnl:¬(k:Int)<(L.length:Int):=ae;have bu:Hid (mK Z ans L=(bF,AD)):=by{have:=af HG;rw[al6,jV]at this;exact this};clear bZ;go_wp2;go_ret;exact⟨⟨_,rfl,by rw[af uq,af bu];exact bG.ad.base hs1⟩,cM.trans (bG.bl.mono hs1)⟩})
def Z4(RES:Option (Int×List aj×List aj))(zb b off cap:Nat)(k:Int)(o n:ai)(rs:List aj):Prop :=
 ∀(sb cb c:Nat) (bz:Bool) (W:World),dF W sb zb k 0 bz (bK) (bK) (bK) cb->fA W zb o b off cap rs->bH W->zb<sb->b<sb->0<sb->mW W cb c false->cb≠c->cb<sb->c<sb->∀base,base<=c ->
  aF 127 #[aO sb,aA n] W fun e w' =>
   (RES=none/\e=.returned (.bool false)/\Below base W w')\/(∃rc ans eB dr cE,RES=some (rc,ans,eB)/\e=.returned (.bool true)/\dF w' sb zb k rc bz dr cE (bK) cb/\bT w' (sb+1) dr ans/\bT w' (sb+1) cE eB/\rJ dr cE/\Below sb W w')
def Z5(RES:Option (Int×List aj×List aj))(o n:ai)(rs:List aj)(w':World)(base:Nat)(v:Value):Prop :=
 (RES=none/\v=.agg #[aq 2,.bool true,bK,bK,bK]) \/
 ∃rc ans eB va vb vd,RES=some (rc,ans,eB)/\v=.agg #[aq rc,.bool (decide ((dn o rs n).length=0)),va,vb,vd]/\bT w' base va ans/\bT w' base vb eB/\bT w' base vd (mK rs ans (ans++eB)).2/\rJ va vb/\rJ va vd/\rJ vb vd
theorem al7(RES:Option (Int×List aj×List aj))(zb b off cap:Nat)(k:Int)(o n:ai)(rs:List aj)(w:World)(hz:fA w zb o b off cap rs)(hg:bH w)(hnl:n.length<=2900)(hu:dU n o=true)(lT:w_ o rs)(hzl:rs.length<=60)(Z6:Z4 RES zb b off cap k o n rs)
  (hres:∀rc ans eB,RES=some (rc,ans,eB)->ans.length<=500/\eB.length<=500/\∀r∈ans++eB,r.data.length<=3000) :
  aF 69 #[aO zb,aA n,aq k] w fun e w'=>(∃v,e=.returned v/\Z5 RES o n rs w' w.heap.size v)/\aw w w':=by
 have hzb:=hz.1;have oY:=hz.2.2.2.2.1;have hz0:=hz.2.1;have hg0:=hg.1;have eT:=ag hz;have HG:=ag hg;have bG:=ag Z6;have eR:=lT.2.1;have hlen:=lT.1;have eM:aw w (w.alloc (.cells #[.int .i64 0,.bool false,.slice none 0 0,.slice none 0 0,.slice none 0 0] 43)):=bj.alloc aB _;have HU:Hid (∀W,aF 110 #[aA n,aA o] W fun e w'=>e=.returned (.bool true)/\w'=W):=fun W=>by{have:=Fl (ah n) (ah o) W (by rw[dt];omega) (by rw[dt];omega);rw[qJ,qJ,hu]at this;exact this};have AV:=ag hres;clear hz hg Z6 hu hres;go_enter func69,ntmps69;go_wp2_with fail;refine(HU _).mono ?_;rintro e w1 ⟨rfl,hw1⟩;have hb1:aw w w1:=by rw[hw1];exact eM
 have r1:w1.heap[w.heap.size]? = some (.cells #[.int .i64 0,.bool false,.slice none 0 0,.slice none 0 0,.slice none 0 0] 43):=by rw[hw1];exact I4 w _
 clear hw1 eM HU;go_wp2_with fail;refine(ae7 w1).mono ?_;rintro e w2 ⟨cb,c,rfl,hc2,hcb,hcc,hne,hb2⟩;have jA:=ag hc2;have arW:=(di.1 r1).1;have hcl:=hc2.lt;have Z7:=hc2.1;have dZ:=hb1.trans (hb2.mono hb1.size);have r2:=(hb2.block w.heap.size (di.1 r1).1).trans r1;clear hc2 r1;go_wp2_with fail;have hb3:aw w2 (w2.alloc (.cells #[.pointer (some ⟨zb,0,none⟩),.int .i64 k,.int .i64 0,.bool false,.slice none 0 0,.slice none 0 0,.slice none 0 0,.pointer (some ⟨cb,0,none⟩)] 210)):=bj.alloc aB _;have S3:dF (w2.alloc (.cells #[.pointer (some ⟨zb,0,none⟩),.int .i64 k,.int .i64 0,.bool false,.slice none 0 0,.slice none 0 0,.slice none 0 0,.pointer (some ⟨cb,0,none⟩)] 210)) w2.heap.size zb k 0 false (bK) (bK) (bK) cb:=I4 w2 _;have hs2:=hb2.size;have hs1:=hb1.size;refine(Jq zb b off cap o n rs _ ((eT.below dZ).below hb3) ((HG.below dZ).below hb3) hlen ae eR).mono ?_;rintro e w4 ⟨⟨v4,rfl,hv4⟩,hb4⟩;obtain⟨a4,bw,rfl⟩:=hv4.slice;have S4:=S3.kept (hb4.block w2.heap.size ak);have al8:aw w2 w4:=hb3.trans (hb4.mono c5);have fO:w2.heap.size<w4.heap.size:=S4.lt;clear S3 hv4 hb3 hb4;obtain⟨x0,x1,x2,x3,x4,x5,x6,x7⟩:=S4.cells;have xf:=S4.frozen 3;have v_:=ag S4;clear S4 x0 x1 x2 x4 x5 x6 x7;obtain⟨bz,Gs,Z8⟩:∃bz:Bool,(((dn o rs n).length:Int) == 0)=bz/\decide ((dn o rs n).length=0)=bz:=⟨_,rfl,by{by_cases h:(dn o rs n).length=0;{rw[h];rfl};{rw[hP h,eq_comm,gL];omega}}⟩;have al9:=ag Z8;clear Z8;have S5:=v_.De bz;have tW:aw w2 (w4.setCell ⟨w2.heap.size,3,none⟩ (.bool bz)):=al8.setCell (p:=⟨w2.heap.size,3,none⟩) aB _;have hs5:(w4.setCell ⟨w2.heap.size,3,none⟩ (.bool bz)).heap.size=w4.heap.size:=by simp[World.setCell]
 have bg:=ag (bG w2.heap.size cb c bz _ S5 (eT.below (dZ.trans (tW.mono dZ.size))) (HG.below (dZ.trans (tW.mono dZ.size))) ae ae ae (jA.below tW Z7 hcl) hne Z7 hcl (w.heap.size+1) ae);clear S5 v_;go_wp2_with fail;refine bg.mono ?_;rintro e w6 (⟨hch,rfl,p7⟩|⟨rc,Cq,EL,va,vb,hch,rfl,HN,oB,nJ,hap,p7⟩);{have rC:aw w w6:=(dZ.trans (tW.mono dZ.size)).trans (p7.mono ae);have r6:dG w6 w.heap.size (aq 0) (.bool false) (bK) (bK) (bK):=((p7.block w.heap.size ae).trans (tW.block w.heap.size ae)).trans r2;obtain⟨k0,k1,k2,k3,k4⟩:=dG.cells r6;have al_:=dG.frozen r6 0;have ama:=dG.frozen r6 1;have amb:=dG.frozen r6 2;have amc:=dG.frozen r6 3;have amd:=dG.frozen r6 4;have A9:=((((dG.set0 r6 (aq 2)).set1 (.bool true)).set2 (bK)).De (bK)).AO (bK);obtain⟨n0,n1,n2,n3,n4⟩:=A9.cells;clear bg r6;go_wp2_with fail;refine df (v:=.agg #[.int .i64 2,.bool true,.slice none 0 0,.slice none 0 0,.slice none 0 0]) ?_ rfl ?_;{simp[results,results69,go_sem,n0,n1,n2,n3,n4]};{exact⟨⟨_,rfl,.inl ⟨hch,rfl⟩⟩,((((rC.setCell (p:=⟨w.heap.size,0,none⟩) aB _).setCell (p:=⟨w.heap.size,1,none⟩) aB _).setCell (p:=⟨w.heap.size,2,none⟩) aB _).setCell (p:=⟨w.heap.size,3,none⟩) aB _).setCell (p:=⟨w.heap.size,4,none⟩) aB _⟩}};{obtain⟨Z9,Z_,nm⟩:=af AV rc Cq EL hch;have ame:=ag nm;have amf:=ag Z9;have amg:=ag Z_;have amh:=ag hch;have ami:=ag hap;clear nm Z9 Z_ hch hap;have rC:aw w2 w6:=tW.trans p7;have r6:=(rC.block w.heap.size ae).trans r2;obtain⟨y0,y1,y2,y3,y4,mA,y6,xW⟩:=HN.cells;obtain⟨aa,ca,rfl⟩:=oB.slice;obtain⟨ab,cb',rfl⟩:=nJ.slice;have HAD:=ag (alX zb b off cap o rc bz _ _ (bK) rs _ _ w6 (eT.below (dZ.trans (rC.mono dZ.size))) hzl oB.rv nJ.rv (af amf) (af amg) (af ame));have BS:=ag (bQ oB.mr nJ.mr);have xK:=ag HN;have JX:=ag oB;have NY:=ag nJ;have amj:=HN.lt;clear bg HN oB nJ;go_wp2_with fail;refine HAD.mono ?_;rintro e w7 ⟨⟨vd,rfl,LH⟩,oA⟩;obtain⟨ad,cd,rfl⟩:=LH.slice;have aaa:=ag LH;have Q7:=LH.mr;clear LH;obtain⟨zL,Q8⟩:∃zL,(mK rs Cq (Cq++EL)).2=zL:=⟨_,rfl⟩;rw[Q8]at aaa Q7 ⊢;have amk:=ag Q8;have aab:=ag Q7;clear Q8 Q7;have LI:=xK.kept (oA.block w2.heap.size amj);obtain⟨z0,z1,z2,z3,z4,z5,z6,z7⟩:=LI.cells;have arX:=LI.frozen 6;have O3:=LI.NK (.slice ad zL.length cd);obtain⟨p0,p1,gB,fD,p4,p5,p6,Bu⟩:=O3.cells;have r7:=(oA.block w.heap.size (by have:=p7.size;rw[hs5]at this;omega)).trans r6;have aml:=ag (bQ (JX.below oA) (NY.below oA));obtain⟨k0,k1,k2,k3,k4⟩:=dG.cells r7;have al_:=dG.frozen r7 0;have ama:=dG.frozen r7 1;have amb:=dG.frozen r7 2;have amc:=dG.frozen r7 3;have amd:=dG.frozen r7 4;clear LI O3 y0 y1 y2 y3 y4 mA y6 xW x3 xf r2 r6;go_wp2_with fail;have A9:=((((dG.set0 (show dG (w7.setCell ⟨w2.heap.size,6,none⟩ (.slice ad zL.length cd)) w.heap.size _ _ _ _ _ from(bf _ _ _ _ (by show w.heap.size≠w2.heap.size;omega)).trans r7) (aq rc)).set1 (.bool bz)).set2 (.slice aa Cq.length ca)).De (.slice ab EL.length cb')).AO (.slice ad zL.length cd);obtain⟨n0,n1,n2,n3,n4⟩:=A9.cells;have pq:aw w2 w7:=rC.trans (oA.mono ae);have aac:=af aml;refine df (v:=.agg #[.int .i64 rc,.bool bz,.slice aa Cq.length ca,.slice ab EL.length cb',.slice ad zL.length cd]) ?_ rfl ?_;{simp[results,results69,go_sem,n0,n1,n2,n3,n4]};{have iZ:∀ {v:Value} {l:List aj},bT w7 (w2.heap.size+1) v l->bT ((((((w7.setCell ⟨w2.heap.size,6,none⟩ (.slice ad zL.length cd)).setCell ⟨w.heap.size,0,none⟩ (.int .i64 rc)).setCell ⟨w.heap.size,1,none⟩ (.bool bz)).setCell ⟨w.heap.size,2,none⟩ (.slice aa Cq.length ca)).setCell ⟨w.heap.size,3,none⟩ (.slice ab EL.length cb')).setCell ⟨w.heap.size,4,none⟩ (.slice ad zL.length cd)) w.heap.size v l:=fun h=>((((((h.ky (k:=w2.heap.size) (i:=6) ae _).ky (k:=w.heap.size) (i:=0) ae _).ky (k:=w.heap.size) (i:=1) ae _).ky (k:=w.heap.size) (i:=2) ae _).ky (k:=w.heap.size) (i:=3) ae _).ky (k:=w.heap.size) (i:=4) ae _).base ae;refine⟨⟨_,rfl,.inr ⟨rc,Cq,EL,_,_,_,amh,by rw[af al9],iZ aac.1,iZ aac.2,?_,ami,fun g h1 h2=>?_,fun g h1 h2=>?_⟩⟩,?_⟩;{rw[af amk];exact iZ (aaa.base (by have:=rC.size;omega))};{have k1:=(BS.1 g h1).2;have k2:=(aab g h2).1;omega};{have k1:=(BS.2 g h1).2;have k2:=(aab g h2).1;omega};{have h7:=dZ.trans (pq.mono dZ.size);exact(((((h7.setCell (p:=⟨w2.heap.size,6,none⟩) (by show w.heap.size<=w2.heap.size;omega) _).setCell (p:=⟨w.heap.size,0,none⟩) aB _).setCell (p:=⟨w.heap.size,1,none⟩) aB _).setCell (p:=⟨w.heap.size,2,none⟩) aB _).setCell (p:=⟨w.heap.size,3,none⟩) aB _).setCell (p:=⟨w.heap.size,4,none⟩) aB _}}}
def fK(o:ai)(L:List aj)(t:Int)(first aa:Bool)(ans:List aj)(n:ai):Int×Bool×List aj×List aj×Option ai :=
 if dU n o=false then((if first then 5 else 0),aa,ans,[],none)
 else if(dn o L n).length≠0 then(0,aa || !first,ans,dn o L n,none)
 else match (if t=5\/t=255 then none else iQ o L n)with
  | some r=>if ans.length=8 then(2,true,[],[],none)else(0,true,ans++[r],[],some r.data)
  | none=>(jO o L n,true,ans++kE o L t n,lV o L t n,none)
section
section
variable {o n:ai} {L ans:List aj} {t:Int} {first aa:Bool} (hu:dU n o=true)
include hu
theorem Q9(hc:(dn o L n).length≠0):fK o L t first aa ans n=(0,aa || !first,ans,dn o L n,none):=by unfold fK;rw[aG (by simp[hu]),aP hc]
theorem aad(hc:dn o L n = [])(hm:(cg L n).2=false):fK o L t first aa ans n=(3,true,ans,fB o L,none):=by
 have hl:iQ o L n=none:=by unfold iQ;rw[aG (by simp[hm])]
 unfold fK;rw[aG (by simp[hu]),aG (by simp[hc]),hl,ite_self];unfold jO kE lV;simp[hc,hm]
theorem LJ{r:aj}(hc:dn o L n = [])(hl:iQ o L n=some r)(h5:t≠5)(iw:t≠255)(h8:ans.length≠8):fK o L t first aa ans n=(0,true,ans++[r],[],some r.data):=by unfold fK;rw[aG (by simp[hu]),aG (by simp[hc]),aG ae,hl];show(if _ then _ else _)=_;rw[aG h8]
theorem Q_{r:aj}(hc:dn o L n = [])(hl:iQ o L n=some r)(h5:t≠5)(iw:t≠255)(h8:ans.length=8):fK o L t first aa ans n=(2,true,[],[],none):=by unfold fK;rw[aG (by simp[hu]),aG (by simp[hc]),aG ae,hl];show(if _ then _ else _)=_;rw[aP h8]
theorem aae(hc:dn o L n = [])(hm:(cg L n).2=true)(hno:(t=5\/t=255)\/iQ o L n=none):fK o L t first aa ans n=(0,true,ans++jz t (cg L n).1,if sj t (cg L n).1 then []else fB o L,none):=by have hl:(if t=5\/t=255 then none else iQ o L n)=none:=by{rcases hno with h|h;{rw[aP h]};{rw[h,ite_self]}};unfold fK;rw[aG (by simp[hu]),aG (by simp[hc]),hl];unfold jO kE lV;simp[hc,hm]
end
end
def jT(o:ai)(L:List aj)(t:Int):Nat->Bool->Bool->List aj->ai->Int×Bool×List aj×List aj
 | 0,first,aa,ans,n=>((fK o L t first aa ans n).1,(fK o L t first aa ans n).2.1,(fK o L t first aa ans n).2.2.1,(fK o L t first aa ans n).2.2.2.1)
 | f+1,first,aa,ans,n=>match fK o L t first aa ans n with
  | (rc,nZ,nr,eB,none)=>(rc,nZ,nr,eB)
  | (_,nZ,nr,_,some d)=>jT o L t f false nZ nr d
structure uM(rs:List aj)(r:aj):Prop where
 dat:∃r0∈rs,r.type=r0.type/\r.data=r0.data
 own:r.owner.length<=260
section
variable {o:ai} {rs:List aj} (hz:l7 o rs)
include hz
theorem LK{n:ai}{r:aj}(hn:fk n)(h:iQ o (aQ rs) n=some r):∃r0∈rs,r=ig n r0/\r0.type=5/\fG r.data=true:=by
 obtain⟨_,h2,h3,h4⟩:=Oo h;rcases ZB rs (wG hz) hn with⟨_,c2⟩|⟨s,_,_,c3⟩;{rw[h2]at c2;cases c2};{
 rw[h3]at c3;cases hf:cK (aQ rs) s with
 | nil=>rw[hf]at c3;simp at c3
 | cons r0 l =>{
 rw[hf]at c3;have e:r=ig n r0:=by simp at c3;exact c3.1
 have hm:r0∈rs:=(Lz (by rw[hf];simp)).1;have h5:r0.type=5:=by{
 unfold rk at h4;rw[e]at h4;have:((ig n r0).type == 5)=true:=by simpa using h4
 have h':(r0.type == 5)=true:=this;simpa using h'};refine⟨r0,hm,e,h5,?_⟩;rw[e];exact(alG hz hm h5).2}}
omit hz in
theorem amm{n m:ai}{t:Int}(hm:m.length<=260):∀r∈(kO rs n t).map (ig m),uM rs r:=by intro r hr;obtain⟨r0,h0,rfl⟩:=oh.1 hr;have hmem:r0∈rs:=by{unfold kO at h0;split at h0;{obtain⟨k,_,hk⟩:=zZ.1 h0;exact(je.1 hk).1};{exact(je.1 h0).1}};exact⟨⟨r0,hmem,rfl,rfl⟩,hm⟩
theorem aaf:∀r∈fB o (aQ rs),uM rs r:=by
 intro r hr;obtain⟨a0,a1,a2,a3,_,_,_,h4,_⟩:=QZ hz;rw[h4]at hr;obtain rfl:r=_:=by simpa using hr
 have hm:=iV (xV hz);exact⟨⟨_,hm,rfl,rfl⟩,a_ (EJ (hz.recs _ hm).Cm).2 ae⟩
theorem amn{r:aj}(h:r∈rs):uM rs r:=⟨⟨r,h,rfl,rfl⟩,a_ (EJ (hz.recs r h).Cm).2 ae⟩
theorem H6{n:ai}(hn:fk n)(t:Int):jz t (cg (aQ rs) n).1 = []\/∃s,jz t (cg (aQ rs) n).1=(kO rs s t).map (ig n):=by rcases ZB rs (wG hz) hn with⟨_,c2⟩|⟨s,_,_,c3⟩;{left;have:(cg (aQ rs) n).1 = []:=by{unfold cg at c2 ⊢;split;{rename_i h;rw[aP h]at c2;cases c2};{rename_i h;rw[aG h]at c2;split;{rename_i a ha;rw[ha]at c2;simp only[SJ,Nat.not_lt,Nat.le_zero]at c2;show List.map (ig n) (cK (aQ rs) (42 :: 46 :: a)) = [];rw[gS c2];rfl};{rfl}}};rw[this];rfl};{right;exact⟨s,by rw[c3,aln rs s n t (wG hz)]⟩}
theorem aag{n:ai}(hn:fk n)(hu:dU n o=true):∀r∈dn o (aQ rs) n,r∈rs:=by rcases QS (wG hz) hn hu with⟨_,h⟩|⟨i,_,_,h,_⟩;{rw[h];intro r hr;cases hr};{rw[h];intro r hr;exact(je.1 hr).1}
theorem amo{n:ai}(hn:fk n)(hu:dU n o=true):(dn o (aQ rs) n).length<=60:=by rcases QS (wG hz) hn hu with⟨_,h⟩|⟨i,_,_,h,_⟩;{rw[h];simp};{rw[h];exact ZM hz _ _}
theorem aah:(fB o (aQ rs)).length=1:=by obtain⟨a0,a1,a2,a3,_,_,_,h4,_⟩:=QZ hz;rw[h4];rfl
structure amp(rs ans:List aj)(q:Int×Bool×List aj×List aj×Option ai):Prop where
 Ra:∀r∈q.2.2.1,uM rs r
 aai:∀r∈q.2.2.2.1,uM rs r
 aaj:q.2.2.1.length<=ans.length+60
 aak:q.2.2.2.1.length<=60
 amq:∀d,q.2.2.2.2=some d->fG d=true/\q.1=0/\q.2.2.2.1 = []/\q.2.2.1.length=ans.length+1/\ans.length≠8
theorem aal{n:ai}(hn:fk n)(hl:n.length<=260)(t:Int)(first aa:Bool)(ans:List aj)(ha:∀r∈ans,uM rs r):amp rs ans (fK o (aQ rs) t first aa ans n):=by
 cases hu:dU n o with
 | false =>{unfold fK;rw[aP hu];exact⟨ha,(by intro r hr;cases hr),z_ _ _,dY _,(by intro d aD;cases aD)⟩}
 | true =>{
 by_cases hc:(dn o (aQ rs) n).length=0;{
 have hc':=gS hc;cases hm:(cg (aQ rs) n).2 with
 | false =>{rw[aad hu hc' hm];exact⟨ha,aaf hz,z_ _ _,(by show(fB o (aQ rs)).length<=60;rw[aah hz];omega),(by intro d aD;cases aD)⟩}
 | true =>{
 by_cases uN:(t=5\/t=255)\/iQ o (aQ rs) n=none;{rw[aae hu hc' hm uN];have xd:∀r∈jz t (cg (aQ rs) n).1,uM rs r:=by{rcases H6 hz hn t with h|⟨s,h⟩;{rw[h];intro r hr;cases hr};{rw[h];exact amm hl}};have kY:(jz t (cg (aQ rs) n).1).length<=60:=by{rcases H6 hz hn t with h|⟨s,h⟩;{rw[h];simp};{rw[h,hE];exact ZN hz s t}};refine⟨fun r hr=>?_,fun r hr=>?_,?_,?_,(by intro d aD;cases aD)⟩;{rcases kP.1 hr with h|h;{exact ha r h};{exact xd r h}};{have hr':r∈(if sj t (cg (aQ rs) n).1 then []else fB o (aQ rs)):=hr;split at hr';{cases hr'};{exact aaf hz r hr'}};{show(ans++_).length<=_;rw[bU];omega};{show(if sj t (cg (aQ rs) n).1 then []else fB o (aQ rs)).length<=60;split;{simp};{rw[aah hz];omega}}};{
 have h5:t≠5:=fun h=>uN (.inl (.inl h));have iw:t≠255:=fun h=>uN (.inl (.inr h));cases hlk:iQ o (aQ rs) n with
 | none=>exact absurd (.inr hlk) uN
 | some r =>{
 obtain⟨r0,hm0,e,_,hp⟩:=LK hz hn hlk;by_cases h8:ans.length=8;{rw[Q_ hu hc' hlk h5 iw h8];exact⟨(by intro r hr;cases hr),(by intro r hr;cases hr),dY _,dY _,(by intro d aD;cases aD)⟩};{
 rw[LJ hu hc' hlk h5 iw h8];refine⟨fun x hx=>?_,(by intro r hr;cases hr),?_,dY _,fun d aD=>?_⟩;{
 rcases kP.1 hx with h|h;{exact ha x h};{
 obtain rfl:x=r:=by simpa using h
 rw[e];exact⟨⟨r0,hm0,rfl,rfl⟩,hl⟩}};{show(ans++[r]).length<=_;rw[bU];simp};{obtain rfl:r.data=d:=gT aD;exact⟨hp,rfl,rfl,ak,h8⟩}}}}}};{rw[Q9 hu hc];exact⟨ha,fun r hr=>amn hz (aag hz hn hu r hr),z_ _ _,amo hz hn hu,(by intro d aD;cases aD)⟩}}
theorem LL(t:Int):∀(f:Nat) (first aa:Bool) (ans:List aj) (n:ai),fk n->n.length<=260->(∀r∈ans,uM rs r)->ans.length<=8 ->
  (∀r∈(jT o (aQ rs) t f first aa ans n).2.2.1,uM rs r)/\(∀r∈(jT o (aQ rs) t f first aa ans n).2.2.2,uM rs r)/\(jT o (aQ rs) t f first aa ans n).2.2.1.length<=68/\(jT o (aQ rs) t f first aa ans n).2.2.2.length<=60
 | 0,first,aa,ans,n,hn,hl,ha,h8=>by
  have h:=aal hz hn hl t first aa ans ha
  exact⟨h.Ra,h.aai,by have:=h.aaj;show(fK o (aQ rs) t first aa ans n).2.2.1.length<=68;omega,h.aak⟩
 | f+1,first,aa,ans,n,hn,hl,ha,h8=>by
  have h:=aal hz hn hl t first aa ans ha
  unfold jT;generalize fK o (aQ rs) t first aa ans n=q at h
  obtain⟨rc,nZ,nr,eB,nx⟩:=q;cases nx with
  | none=>exact⟨h.Ra,h.aai,by have:=h.aaj;simp only at this;show nr.length<=68;omega,h.aak⟩
  | some d =>{obtain⟨hp,_,_,hl',aiZ⟩:=h.amq d rfl;simp only at hl';exact LL t f false nZ nr d (jd hp).1 (a_ (jd hp).2 ae) h.Ra ae}
end
def tq(o:ai)(L:List aj)(t:Int)(n:ai):Option (Int×List aj×List aj) :=
 if t=5\/t=255 then some (jO o L n,kE o L t n,lV o L t n)else(fx o L 8 n).map (fun x=>(xB o L x.2,x.1++vQ o L t x.2,xC o L t x.2))
section
variable {o:ai} {L:List aj} {t:Int}
theorem Rb{first aa:Bool}{ans:List aj}{n:ai}(hu:dU n o=false):fK o L t first aa ans n=((if first then 5 else 0),aa,ans,[],none):=by unfold fK;rw[aP hu]
theorem LM{first aa:Bool}{ans:List aj}{n:ai}(hu:dU n o=true)(hl:(t=5\/t=255)\/iQ o L n=none):fK o L t first aa ans n=(jO o L n,(if(dn o L n).length=0 then true else aa || !first),ans++kE o L t n,lV o L t n,none):=by by_cases hc:(dn o L n).length=0;{have hl':(if t=5\/t=255 then none else iQ o L n)=none:=by{rcases hl with h|h;{rw[aP h]};{rw[h,ite_self]}};unfold fK;rw[aG (by simp[hu]),aG (by simp[hc]),hl',aP hc]};{rw[Q9 hu hc,aG hc];unfold jO kE lV;rw[aG hc,aG hc,aG hc,jt]}
theorem zM{first aa:Bool}{ans:List aj}{n:ai}{rc:Int}{nZ:Bool}{nr eB:List aj}(f:Nat)(h:fK o L t first aa ans n=(rc,nZ,nr,eB,none)):jT o L t f first aa ans n=(rc,nZ,nr,eB):=by
 cases f with
 | zero=>unfold jT;rw[h]
 | succ f=>unfold jT;rw[h]
theorem aam{first aa:Bool}{ans:List aj}{n d:ai}{rc:Int}{nZ:Bool}{nr eB:List aj}(f:Nat)(h:fK o L t first aa ans n=(rc,nZ,nr,eB,some d)):jT o L t (f+1) first aa ans n=jT o L t f false nZ nr d:=by
 conv=>lhs;unfold jT
 rw[h]
theorem Rc{n:ai}{r:aj}(h:iQ o L n=some r):dn o L n = []:=gS (Oo h).1
theorem amr(h5:t≠5)(iw:t≠255):∀(m:Nat) (ans:List aj) (n:ai),ans.length+m=8->dU n o=true ->
  jT o L t (m+1) false true ans n=match fx o L m n with
   | none=>(2,true,[],[])
   | some x=>(xB o L x.2,true,ans++(x.1++vQ o L t x.2),xC o L t x.2):=by
 intro m;induction m with
 | zero =>{
 intro ans n hl hu;cases hk:iQ o L n with
 | none =>{rw[zM 1 (LM hu (.inr hk))];unfold fx;rw[hk];simp[xB,vQ,xC]}
 | some r =>{rw[zM 1 (Q_ hu (Rc hk) hk h5 iw ae)];unfold fx;rw[hk]}}
 | succ m ih =>{
 intro ans n hl hu;cases hk:iQ o L n with
 | none =>{rw[zM (m+2) (LM hu (.inr hk))];unfold fx;rw[hk];simp[xB,vQ,xC]}
 | some r =>{
 rw[aam (m+1) (LJ hu (Rc hk) hk h5 iw ae)];have hch:fx o L (m+1) n=if dU r.data o=true then(fx o L m r.data).map (fun x=>(r :: x.1,x.2))else some ([r],none):=by{
 conv=>lhs;unfold fx
 rw[hk]}
 rw[hch];cases hr:dU r.data o with
 | false =>{rw[zM (m+1) (Rb hr)];simp[xB,vQ,xC]}
 | true =>{
 rw[ih (ans++[r]) r.data aX hr];simp only[pM];cases fx o L m r.data with
 | none=>rfl
 | some x=>simp}}}
theorem aan{n:ai}(hu:dU n o=true):jT o L t 9 true false [] n=match tq o L t n with
  | none=>(2,true,[],[])
  | some x=>(x.1,decide ((dn o L n).length=0),x.2.1,x.2.2):=by
 have hdec:(if(dn o L n).length=0 then true else(false || !true))=decide ((dn o L n).length=0):=by{by_cases h:(dn o L n).length=0 <;> simp[h]};unfold tq;by_cases ht:t=5\/t=255;{rw[zM 9 (LM hu (.inl ht)),aP ht,hdec];rfl};{
 rw[aG ht];have h5:t≠5:=fun h=>ht (.inl h);have iw:t≠255:=fun h=>ht (.inr h);cases hk:iQ o L n with
 | none =>{
 rw[zM 9 (LM hu (.inr hk)),hdec];have:fx o L 8 n=some ([],some n):=by unfold fx;rw[hk]
 rw[this];simp[xB,vQ,xC]}
 | some r =>{
 have hc:=Rc hk;rw[aam 8 (LJ hu hc hk h5 iw ak),hc];have hch:fx o L 8 n=if dU r.data o=true then(fx o L 7 r.data).map (fun x=>(r :: x.1,x.2))else some ([r],none):=by{
 conv=>lhs;unfold fx
 rw[hk]}
 rw[hch];cases hr:dU r.data o with
 | false =>{rw[zM 8 (Rb hr)];simp[xB,vQ,xC]}
 | true =>{
 rw[amr h5 iw 7 ([]++[r]) r.data ak hr];simp only[pM];cases fx o L 7 r.data with
 | none=>rfl
 | some x=>simp}}}
section
variable {rs:List aj} (hz:l7 o rs)
include hz
def EM(rs ans:List aj):Prop:=∀x,ans.any (fun a=>a.owner == x && a.type == 1)=true->∀s∈gm rs x 1,s∈ans
theorem ams{n:ai}(h:ic (aQ rs) n=false)(k:Int):gm rs n k = []:=by unfold gm;rw[qG];intro r hr hc;simp only[fo,iv]at hc;rw[QT rs (wG hz)]at h;have:EH rs (dL n)=true:=by{unfold EH;refine uU.2 ⟨r,hr,?_⟩;rw[QK (wG hz r hr).2.2,hc.1];exact ak_ n};rw[h]at this;cases this
theorem amt{n:ai}(hn:fk n)(t:Int):jz t (cg (aQ rs) n).1 = []\/jz t (cg (aQ rs) n).1=kO rs n t\/(gm rs n 1 = []/\∀r∈jz t (cg (aQ rs) n).1,r.owner=n):=by
 by_cases ht:ic (aQ rs) n=true;{
 have:(cg (aQ rs) n).1=cK (aQ rs) n:=by unfold cg;rw[aP ht]
 rw[this,QP rs n t (wG hz)];exact .inr (.inl rfl)};{
 have HY:ic (aQ rs) n=false:=by simpa using ht
 rcases H6 hz hn t with h|⟨s,h⟩;{exact .inl h};{refine .inr (.inr ⟨ams hz HY 1,?_⟩);rw[h];intro r hr;obtain⟨r0,_,rfl⟩:=oh.1 hr;rfl}}
omit hz in
theorem amu{n:ai}{t:Int}{r:aj}(hr:r∈kO rs n t)(h1:r.type=1):∀s∈gm rs n 1,s∈kO rs n t:=by
 intro s hs;unfold kO at hr ⊢;split at hr;{rename_i h;rw[aP h];exact zZ.2 ⟨1,ak,hs⟩};{
 rename_i h;rw[aG h];have:=(je.1 hr).2;simp only[fo,iv]at this;have ht:t=1:=by rw[<- this.2,h1]
 rw[ht];exact hs}
omit hz in
theorem amv{n:ai}{t:Int}{r:aj}(hr:r∈kO rs n t):r.owner=n:=by unfold kO at hr;split at hr;{obtain⟨k,_,hk⟩:=zZ.1 hr;have:=(je.1 hk).2;simp only[fo,iv]at this;exact this.1};{have:=(je.1 hr).2;simp only[fo,iv]at this;exact this.1}
theorem amw{ls:List aj}{n:ai}(hn:fk n)(t:Int)(jR:∀r∈ls,r.type=5):EM rs (ls++jz t (cg (aQ rs) n).1):=by intro x hx s hs;obtain⟨a,ha,hc⟩:=uU.1 hx;simp only[fo,iv]at hc;rcases kP.1 ha with h|h;{have:=jR a h;rw[this]at hc;exact absurd hc.2 aC};{refine MB _ ?_;rcases amt hz hn t with e|e|⟨e1,e2⟩;{rw[e]at h;cases h};{rw[e]at h ⊢;have:=amv h;rw[hc.1]at this;subst this;exact amu h hc.2 s hs};{have:=e2 a h;rw[hc.1]at this;subst this;rw[e1]at hs;cases hs}}
omit hz in
theorem Re{ls:List aj}(jR:∀r∈ls,r.type=5):EM rs ls:=by intro x hx s hs;obtain⟨a,ha,hc⟩:=uU.1 hx;simp only[fo,iv]at hc;have:=jR a ha;rw[this]at hc;exact absurd hc.2 aC
theorem aao{ls:List aj}{n:ai}(hn:fk n)(t:Int)(jR:∀r∈ls,r.type=5):EM rs (ls++kE o (aQ rs) t n):=by unfold kE;split;{split;{exact amw hz hn t jR};{rw[jt];exact Re jR}};{rw[jt];exact Re jR}
theorem amx:∀(m:Nat) (n:ai) (x:List aj×Option ai),fk n->fx o (aQ rs) m n=some x->(∀r∈x.1,r.type=5)/\∀f,x.2=some f->fk f:=by
 intro m;induction m with
 | zero =>{
 intro n x hn h;unfold fx at h;cases hk:iQ o (aQ rs) n with
 | none=>rw[hk]at h;obtain rfl:=gT h;exact⟨fun r hr=>(by cases hr),fun f hf=>by obtain rfl:=gT hf;exact hn⟩
 | some r=>rw[hk]at h;cases h}
 | succ m ih =>{
 intro n x hn h;unfold fx at h;cases hk:iQ o (aQ rs) n with
 | none=>rw[hk]at h;obtain rfl:=gT h;exact⟨fun r hr=>(by cases hr),fun f hf=>by obtain rfl:=gT hf;exact hn⟩
 | some r =>{
 rw[hk]at h;obtain⟨r0,_,e,h5,hp⟩:=LK hz hn hk;have aap:r.type=5:=by rw[e];exact h5
 simp only at h;split at h;{
 cases hc:fx o (aQ rs) m r.data with
 | none=>rw[hc]at h;cases h
 | some y =>{rw[hc]at h;obtain rfl:=gT h;obtain⟨k1,k2⟩:=ih r.data y (jd hp).1 hc;exact⟨fun a ha=>by rcases eK.1 ha with rfl|ha;exact aap;exact k1 a ha,k2⟩}};{obtain rfl:=gT h;exact⟨fun a ha=>by rw[show a=r by simpa using ha];exact aap,fun f hf=>by cases hf⟩}}}
theorem amy{n:ai}(hn:fk n)(t:Int)(x:Int×List aj×List aj)(h:tq o (aQ rs) t n=some x):EM rs x.2.1:=by
 unfold tq at h;split at h;{obtain rfl:=gT h;have:=aao hz (ls:=[]) hn t (fun r hr=>by cases hr);rw[fF]at this;exact this};{
 cases hc:fx o (aQ rs) 8 n with
 | none=>rw[hc]at h;cases h
 | some y =>{
 rw[hc]at h;obtain rfl:=gT h;obtain⟨k1,k2⟩:=amx hz 8 n y hn hc;obtain⟨ls,fin⟩:=y;cases fin with
 | none =>{show EM rs (ls++[]);rw[jt];exact Re k1}
 | some f=>exact aao hz (k2 f rfl) t k1}}
omit hz in
theorem amz{ans:List aj}(ha:EM rs ans)(l:List aj):mK (aQ rs) ans l=LC rs ans l:=by
 have hstep:∀s r,uK (aQ rs) ans s r=Cn rs ans s r:=by{
 intro s r;unfold uK Cn;cases hn:wH r with
 | false=>simp
 | true =>{
 cases hc:s.1.contains (fX r.data)with
 | true=>simp
 | false =>{
 simp only[Bool.not_false,Sd,pM];rw[HV];congr 1;generalize fX r.data=x;by_cases hx:ans.any (fun a=>a.owner == x && a.type == 1)=true;{rw[aP hx];have:(gm rs x 1).filter (fun a=>!ans.any (a == ·)) = []:=by{rw[qG];intro s hs hc;have hm:=ha x hx s hs;have:ans.any (s == ·)=true:=uU.2 ⟨s,hm,ak⟩;rw[this]at hc;cases hc};rw[this,jt]};{
 rw[aG hx];have:(gm rs x 1).filter (fun a=>!ans.any (a == ·))=gm rs x 1:=by{
 rw[zX];intro s hs;rw[Mm,<- zU];intro hc;obtain⟨b,hb,e⟩:=uU.1 hc;have e':s=b:=by simpa using e
 have:=(je.1 hs).2;exact hx (uU.2 ⟨b,hb,by rw[<- e'];exact this⟩)};rw[this]}}}};unfold mK LC;congr 1;funext s r;exact hstep s r
end
end
def l9(o:ai)(rs:List aj)(t:Int)(n:ai):Int×Bool×List aj×List aj:=jT o (aQ rs) t 9 true false [] n
def xX(o:ai)(rs:List aj)(t:Int)(n:ai):List aj:=(LC rs (l9 o rs t n).2.2.1 ((l9 o rs t n).2.2.1++(l9 o rs t n).2.2.2)).2
def H7(w':World)(base:Nat)(v:Value)(q:Int×Bool×List aj×List aj)(add:List aj):Prop :=
 ∃va vb vd,v=.agg #[aq q.1,.bool q.2.1,va,vb,vd]/\bT w' base va q.2.2.1/\bT w' base vb q.2.2.2/\bT w' base vd add/\rJ va vb/\rJ va vd/\rJ vb vd
theorem xY(u:Value):rJ (bK) u:=fun g hg=>by cases hg
section
variable {o:ai} {rs:List aj} (hz:l7 o rs)
include hz
theorem Rf:w_ o (aQ rs):=by have hl:=(zJ rs).length_eq;refine⟨by rw[hl];have:=EK hz;omega,by have:=(jd hz.org).2;omega,fun r hr=>?_⟩;have hm:=(zJ rs).mem_iff.1 hr;exact⟨by have:=(EJ (hz.recs r hm).Cm).2;omega,(hz.recs r hm).len⟩
theorem aaq:∀r∈fz (cK (aQ rs) o) 6,AK r/\r.data.length<=3000/\r.aV<=1000000000:=by obtain⟨_,_,_,_,_,_,_,_,h⟩:=QZ hz;exact h
theorem aar{n:ai}(hn:fk n):(cg (aQ rs) n).1.length<=3001:=by have h:=H6 hz hn 255;have e:jz 255 (cg (aQ rs) n).1=(cg (aQ rs) n).1:=by{have Lx:=FW bJ (cg (aQ rs) n).1.length 0 (cg (aQ rs) n).1 aB;unfold jz mv;rw[zX.2 (fun x _=>by unfold kh;simp)];exact Lx};rw[e]at h;rcases h with h|⟨s,h⟩;{rw[h];simp};{rw[h,hE];have:=ZN hz s 255;omega}
theorem amA(zb b off cap:Nat)(t:Int){n:ai}(hn:fk n)(hl:n.length<=260):Z4 (tq o (aQ rs) t n) zb b off cap t o n (aQ rs):=by
 intro sb cb c bz W hs htab hg hzs bL h0 hc hne hcb hcs base eZ;by_cases ht:t=5\/t=255;{
 have hr:tq o (aQ rs) t n=some (jO o (aQ rs) n,kE o (aQ rs) t n,lV o (aQ rs) t n):=by unfold tq;rw[aP ht]
 refine(akm sb zb cb c b off cap t bz _ _ _ o n (aQ rs) W hs rfl rfl htab hg hzs bL h0 hc ⟨Rf hz,ae,aaq hz,ht,aar hz hn⟩).mono ?_;rintro e w' ⟨rfl,⟨dr,cE,h1,h2,h3,h4⟩,h5⟩;exact .inr ⟨_,_,_,dr,cE,hr,rfl,h1,h2,h3,h4,h5⟩};{
 have hr:tq o (aQ rs) t n=(fx o (aQ rs) 8 n).map (fun x=>(xB o (aQ rs) x.2,x.1++vQ o (aQ rs) t x.2,xC o (aQ rs) t x.2)):=by unfold tq;rw[aG ht]
 refine(akk (fun m=>fk m/\m.length<=260) sb zb cb c b off cap base t bz _ o n (aQ rs) W hs htab hg hzs bL h0 hc hne hcb hcs eZ ae ⟨hn,hl⟩ ⟨Rf hz,aaq hz,by simpa using fun h=>ht (.inl h),by simpa using fun h=>ht (.inr h),fun m hm=>aar hz hm.1,fun m r hm hlk=>?_⟩).mono ?_;{obtain⟨_,_,_,_,hp⟩:=LK hz hm.1 hlk;have:=jd hp;exact⟨ae,this.1,ae⟩};{rintro e w' (⟨h1,rfl,h2⟩|⟨ls,fin,h1,_,rfl,⟨dr,cE,k1,k2,k3,k4⟩,h2⟩);{exact .inl ⟨by rw[hr,h1];rfl,rfl,h2⟩};{exact .inr ⟨_,_,_,dr,cE,by rw[hr,h1];rfl,rfl,k1,k2,k3,k4,h2⟩}}}
theorem amB(t:Int){n:ai}(hn:fk n)(hl:n.length<=260)(hu:dU n o=true):∀rc ans eB,tq o (aQ rs) t n=some (rc,ans,eB)->ans.length<=500/\eB.length<=500/\∀r∈ans++eB,r.data.length<=3000:=by intro rc ans eB h;have hg:=LL hz t 9 true false [] n hn hl (fun r hr=>by cases hr) (dY _);rw[aan hu,h]at hg;obtain⟨h1,h2,h3,h4⟩:=hg;refine⟨by simp only at h3;omega,by simp only at h4;omega,fun r hr=>?_⟩;have bE:uM rs r:=by{rcases kP.1 hr with h|h;{exact h1 r h};{exact h2 r h}};obtain⟨r0,hm,_,aD⟩:=bE.dat;rw[aD];exact(hz.recs r0 hm).len
theorem amC{n:ai}(hn:fk n)(t:Int)(hu:dU n o=true){w':World}{base:Nat}{v:Value}(h:Z5 (tq o (aQ rs) t n) o n (aQ rs) w' base v):H7 w' base v (l9 o rs t n) (xX o rs t n):=by have he:l9 o rs t n=_:=aan hu;rcases h with⟨h1,rfl⟩|⟨rc,ans,eB,va,vb,vd,h1,rfl,k1,k2,k3,k4,k5,k6⟩;{rw[h1]at he;unfold xX;rw[he];exact⟨_,_,_,rfl,iI _ _ _ _,iI _ _ _ _,iI _ _ _ _,xY _,xY _,xY _⟩};{rw[h1]at he;unfold xX;rw[he];have ha:=amz (amy hz hn t _ h1) (ans++eB);refine⟨va,vb,vd,rfl,k1,k2,?_,k4,k5,k6⟩;show bT w' base vd (LC rs ans (ans++eB)).2;rw[<- ha];exact k3}
end
theorem aas(zb b off cap:Nat)(k:Int)(o n:ai)(rs:List aj)(w:World)(hz:fA w zb o b off cap rs)(hnl:n.length<=2900)(eR:o.length<=2900)(hu:dU n o=false) :
  aF 69 #[aO zb,aA n,aq k] w (cS (.agg #[aq 5,.bool false,bK,bK,bK]) w):=by
 have hz0:=hz.2.1;have hzb:=hz.1;have eM:aw w (w.alloc (.cells #[.int .i64 0,.bool false,.slice none 0 0,.slice none 0 0,.slice none 0 0] 43)):=bj.alloc aB _;have HU:Hid (∀W,aF 110 #[aA n,aA o] W fun e w'=>e=.returned (.bool false)/\w'=W):=fun W=>by{have:=Fl (ah n) (ah o) W (by rw[dt];omega) (by rw[dt];omega);rw[qJ,qJ,hu]at this;exact this};clear hz hu;go_enter func69,ntmps69;go_wp2_with fail;refine(HU _).mono ?_;rintro e w1 ⟨rfl,hw1⟩;have hb1:aw w w1:=by rw[hw1];exact eM
 have r1:dG w1 w.heap.size (aq 0) (.bool false) (bK) (bK) (bK):=by rw[hw1];exact I4 w _
 obtain⟨k0,k1,k2,k3,k4⟩:=dG.cells r1;have kf:=dG.frozen r1;have A9:=((((dG.set0 r1 (aq 5)).set1 (.bool false)).set2 (bK)).De (bK)).AO (bK);obtain⟨n0,n1,n2,n3,n4⟩:=A9.cells;have dv:=ag (bQ n0 (bQ n1 (bQ n2 (bQ n3 n4))));clear hw1 eM HU r1 A9 n0 n1 n2 n3 n4;go_wp2_with fail;obtain⟨n0,n1,n2,n3,n4⟩:=af dv;refine df (v:=.agg #[.int .i64 5,.bool false,.slice none 0 0,.slice none 0 0,.slice none 0 0]) ?_ rfl ⟨rfl,((((hb1.setCell (p:=⟨w.heap.size,0,none⟩) aB _).setCell (p:=⟨w.heap.size,1,none⟩) aB _).setCell (p:=⟨w.heap.size,2,none⟩) aB _).setCell (p:=⟨w.heap.size,3,none⟩) aB _).setCell (p:=⟨w.heap.size,4,none⟩) aB _⟩;simp[results,results69,go_sem,n0,n1,n2,n3,n4]
theorem amD(zb b off cap:Nat)(t:Int)(o n:ai)(rs:List aj)(w:World)(bE:l7 o rs)(hz:fA w zb o b off cap (aQ rs))(hg:bH w)(hn:fk n)(hl:n.length<=260) :
  aF 69 #[aO zb,aA n,aq t] w fun e w'=>(∃v,e=.returned v/\H7 w' w.heap.size v (l9 o rs t n) (xX o rs t n))/\aw w w':=by
 cases hu:dU n o with
 | false =>{have ho:=(jd bE.org).2;refine(aas zb b off cap t o n (aQ rs) w hz ae ae hu).mono ?_;rintro e w' ⟨rfl,hb⟩;have he:l9 o rs t n=(5,false,[],[]):=zM 9 (Rb hu);refine⟨⟨_,rfl,?_⟩,hb⟩;unfold xX;rw[he];exact⟨_,_,_,rfl,iI _ _ _ _,iI _ _ _ _,iI _ _ _ _,xY _,xY _,xY _⟩}
 | true =>{have hlen:=(zJ rs).length_eq;refine(al7 (tq o (aQ rs) t n) zb b off cap t o n (aQ rs) w hz hg ae hu (Rf bE) (by rw[hlen];exact EK bE) (amA bE zb b off cap t hn hl) (amB bE t hn ae hu)).mono ?_;rintro e w' ⟨⟨v,rfl,hv⟩,hb⟩;exact⟨⟨v,rfl,amC bE hn t hu hv⟩,hb⟩}
end Go.Proofs.YtkkpahmoljiepaaGreatDoor
