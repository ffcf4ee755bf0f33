import Derived.Test.YtkkpahmoljiepaaGreatDoorJ33
import Derived.Test.YtkkpahmoljiepaaGreatDoorJ34
import Derived.Test.YtkkpahmoljiepaaGreatDoorJ18
set_option maxRecDepth 1000000
set_option maxHeartbeats 12800000
set_option linter.unusedSimpArgs false
set_option linter.unusedVariables false
namespace Go.Proofs.YtkkpahmoljiepaaGreatDoor
open Go.RowKit Go.Proofs.Tryz
theorem anu(h0 h1 h2 h3 h4 h5:Int)(q n:ai)(k c sz bM:Int)(w:World) :
  aF 138 #[dK h0 h1 h2 h3 h4 h5 q n k c true sz bM] w (cS (aq (min (max sz 512) 1232)) w):=by unfold dK;go_enter func138,ntmps138;go_wp2;go_ret;refine⟨?_,bj.alloc aB _⟩;rfl
theorem anv(g cap:Nat)(I:World->Prop)(fs:List dH)(w:World)(hI:∀w',aw w w'->I w')(hst:Du w.heap.size (w.heap.size+1) I)(bE:∀f∈fs,f.uj w.heap.size (w.heap.size+1) I)(A6:mZ w.heap.size w g fs)
  (hn:fs.length<=cap) (hc:fs.length<=1000000) (hl:(en fs [] []).1.length<=50000) (hp:(en fs [] []).2.length<=20000) :
  aF 199 #[aU g 0 fs.length cap] w (cS (aA (en fs [] []).1) w):=by have hnew:=World.alloc_heap_new w (.cells #[.slice none 0 0,.slice none 0 0] 283);have eZ:aw w (w.alloc (.cells #[.slice none 0 0,.slice none 0 0] 283)):=bj.alloc aB _;have bG:=ag (Od w.heap.size (w.heap.size+1) g cap I fs [] [] (w.alloc (.cells #[.slice none 0 0,.slice none 0 0] 283)) (hI _ eZ) hst ⟨_,_,hnew,iI _ _ _ _,iI _ _ _ _⟩ ak (fun p hp=>by cases hp) bE (A6.tg (base:=w.heap.size+1) (bF.mX eZ)) hn hc hl hp);clear hnew bE A6 hI hst eZ;go_enter func199,ntmps199;go_wp2_with fail;refine bG.mono ?_;rintro e w2 ⟨rfl,⟨vb,vp,h1,h2,_⟩,h3⟩;have hc0:=h1.cells.1;have hcv:=JC h2;have aZ:Hid (aw w w2):=(bj.alloc aB _).trans ⟨h3.os,h3.tape,h3.output,h3.size,fun k hk=>h3.block k aX ae (.inl ae)⟩;obtain⟨va,vn,vc,rfl⟩:=oy h2;clear h1 h2 h3 bG;go_wp2;go_ret;exact⟨rfl,aZ⟩
def Cw(g:Nat)(x:UInt8):List dH:=[sI [],ik (dA 41),ik (dA 1232),ik (jN x),ik (ct [0,0,0]),JT g 0 []]
def tv(x:UInt8):ai:=[0,0,41,4,208,x,0,0,0,0,0]
theorem RH(g:Nat)(x:UInt8):en (Cw g x) [] []=(tv x,[]):=by
 have e:cu ([]:ai) = []:=by first|rfl|simp[cu]|decide
 simp[en,Cw,sI,e,gh,ik,dA,jN,ct,JT,A8,A7,au,eO,tv]
theorem Ii(g g2:Nat)(x:UInt8)(w:World)(hG:bH w)(hs:0<w.heap.size)(h1:w.heap[g]? = some (.cells #[.iface 291 (.string ⟨#[]⟩),.iface 284 (.int .u16 41),.iface 284 (.int .u16 1232),.iface 292 (.int .u8 x.toNat),.iface 224 (.string ⟨#[0,0,0]⟩),.iface 293 (.slice (some ⟨g2,0,none⟩) 0 0)] 297))(h2:w.heap[g2]? = some (.cells #[] 297)) :
  aF 199 #[aU g 0 6 6] w (cS (aA (tv x)) w):=by
 have hg:=(di.1 h1).1;have hg2:=(di.1 h2).1;have hst:Du w.heap.size (w.heap.size+1) (fun W=>bH W/\mZ w.heap.size W g2 []):=fun W W' h ht=>⟨h.1.tg ht ae hs,h.2.tg ht⟩;have:=anv g 6 (fun W=>bH W/\mZ w.heap.size W g2 []) (Cw g2 x) w (fun W hb=>⟨hG.below hb,ae,⟨_,_,(hb.block g2 hg2).trans h2,aC,aC⟩,fun j hj=>by simp at hj⟩) hst (fun f hf=>?_) ⟨ae,⟨_,_,h1,aC,aC⟩,fun j hj=>?_⟩ (by simp[Cw]) (by simp[Cw]) (by rw[RH];simp[tv]) (by rw[RH];simp);{rw[RH]at this;exact this};{simp only[Cw,eK,uW,uZ]at hf;rcases hf with rfl|rfl|rfl|rfl|rfl|rfl;{exact Dx _ ak _ _ _ (fun _ h=>h.1) ae hs};{exact oD (kC _ ae) _ _ _};{exact oD (kC _ ae) _ _ _};{exact oD (vG _) _ _ _};{exact oD (iO _) _ _ _};{exact Vy _ _ g2 0 _ [] hst (fun _ h=>h.2) (fun f hf=>by cases hf) ak ak}};{
 match j,hj with
 | 0,_=>unfold World.cell?; rw[h1];rfl
 | 1,_=>unfold World.cell?; rw[h1];rfl
 | 2,_=>unfold World.cell?; rw[h1];rfl
 | 3,_=>unfold World.cell?; rw[h1];rfl
 | 4,_=>unfold World.cell?; rw[h1];rfl
 | 5,_=>unfold World.cell?; rw[h1];rfl
 | j+6,hj=>simp[Cw]at hj;omega}
theorem anw(h0 h1 h2 h3 h4 h5:Int)(q n:ai)(k c sz bM:Int)(w:World)(hG:bH w) :
  aF 136 #[dK h0 h1 h2 h3 h4 h5 q n k c true sz bM,aq 0] w (cS (aA (tv 0)) w):=by have hb1:∀o,aw w (w.alloc o):=fun o=>bj.alloc aB _;have HG:Hid (∀W,aw w W->bH W):=fun W hb=>hG.below hb;clear hG;unfold dK;go_enter func136,ntmps136;go_wp2_with fail;refine(Ii (w.heap.size+1+1) (w.heap.size+1) 0 _ (HG _ (((hb1 _).alloc ak _).alloc c5 _)) ak ?_ ?_).mono ?_;{have:=World.alloc_heap_new ((w.alloc (.cells #[.int .i64 h0,.int .i64 h1,.int .i64 h2,.int .i64 h3,.int .i64 h4,.int .i64 h5,.string (ah q),.string (ah n),.int .i64 k,.int .i64 c,.bool true,.int .i64 sz,.int .i64 bM] 137)).alloc (.cells #[] 297)) (.cells #[.iface 291 (.string ⟨#[]⟩),.iface 284 (.int .u16 41),.iface 284 (.int .u16 1232),.iface 292 (.int .u8 (0:UInt8).toNat),.iface 224 (.string ⟨#[0,0,0]⟩),.iface 293 (.slice (some ⟨w.heap.size+1,0,none⟩) 0 0)] 297);simp only[dI]at this;exact this};{have:=World.alloc_heap_new (w.alloc (.cells #[.int .i64 h0,.int .i64 h1,.int .i64 h2,.int .i64 h3,.int .i64 h4,.int .i64 h5,.string (ah q),.string (ah n),.int .i64 k,.int .i64 c,.bool true,.int .i64 sz,.int .i64 bM] 137)) (.cells #[] 297);simp only[dI]at this;exact(bV _ _ _ ak).trans this};rintro e w2 ⟨rfl,hb2⟩;have aZ:Hid (aw w w2):=(((hb1 _).alloc ak _).alloc c5 _).trans (hb2.mono c5);clear hb2 hb1 HG;go_wp2;go_ret;exact⟨rfl,aZ⟩
theorem anx(h0 h1 h2 h3 h4 h5:Int)(q n:ai)(k c sz bM:Int)(w:World)(hG:bH w) :
  aF 136 #[dK h0 h1 h2 h3 h4 h5 q n k c true sz bM,aq 2] w (cS (aA (tv 0)) w):=by have hb1:∀o,aw w (w.alloc o):=fun o=>bj.alloc aB _;have HG:Hid (∀W,aw w W->bH W):=fun W hb=>hG.below hb;clear hG;unfold dK;go_enter func136,ntmps136;go_wp2_with fail;refine(Ii (w.heap.size+1+1) (w.heap.size+1) 0 _ (HG _ (((hb1 _).alloc ak _).alloc c5 _)) ak ?_ ?_).mono ?_;{have:=World.alloc_heap_new ((w.alloc (.cells #[.int .i64 h0,.int .i64 h1,.int .i64 h2,.int .i64 h3,.int .i64 h4,.int .i64 h5,.string (ah q),.string (ah n),.int .i64 k,.int .i64 c,.bool true,.int .i64 sz,.int .i64 bM] 137)).alloc (.cells #[] 297)) (.cells #[.iface 291 (.string ⟨#[]⟩),.iface 284 (.int .u16 41),.iface 284 (.int .u16 1232),.iface 292 (.int .u8 (0:UInt8).toNat),.iface 224 (.string ⟨#[0,0,0]⟩),.iface 293 (.slice (some ⟨w.heap.size+1,0,none⟩) 0 0)] 297);simp only[dI]at this;exact this};{have:=World.alloc_heap_new (w.alloc (.cells #[.int .i64 h0,.int .i64 h1,.int .i64 h2,.int .i64 h3,.int .i64 h4,.int .i64 h5,.string (ah q),.string (ah n),.int .i64 k,.int .i64 c,.bool true,.int .i64 sz,.int .i64 bM] 137)) (.cells #[] 297);simp only[dI]at this;exact(bV _ _ _ ak).trans this};rintro e w2 ⟨rfl,hb2⟩;have aZ:Hid (aw w w2):=(((hb1 _).alloc ak _).alloc c5 _).trans (hb2.mono c5);clear hb2 hb1 HG;go_wp2;go_ret;exact⟨rfl,aZ⟩
theorem anz(h0 h1 h2 h3 h4 h5:Int)(q n:ai)(k c sz bM:Int)(w:World)(hG:bH w) :
  aF 136 #[dK h0 h1 h2 h3 h4 h5 q n k c true sz bM,aq 3] w (cS (aA (tv 0)) w):=by have hb1:∀o,aw w (w.alloc o):=fun o=>bj.alloc aB _;have HG:Hid (∀W,aw w W->bH W):=fun W hb=>hG.below hb;clear hG;unfold dK;go_enter func136,ntmps136;go_wp2_with fail;refine(Ii (w.heap.size+1+1) (w.heap.size+1) 0 _ (HG _ (((hb1 _).alloc ak _).alloc c5 _)) ak ?_ ?_).mono ?_;{have:=World.alloc_heap_new ((w.alloc (.cells #[.int .i64 h0,.int .i64 h1,.int .i64 h2,.int .i64 h3,.int .i64 h4,.int .i64 h5,.string (ah q),.string (ah n),.int .i64 k,.int .i64 c,.bool true,.int .i64 sz,.int .i64 bM] 137)).alloc (.cells #[] 297)) (.cells #[.iface 291 (.string ⟨#[]⟩),.iface 284 (.int .u16 41),.iface 284 (.int .u16 1232),.iface 292 (.int .u8 (0:UInt8).toNat),.iface 224 (.string ⟨#[0,0,0]⟩),.iface 293 (.slice (some ⟨w.heap.size+1,0,none⟩) 0 0)] 297);simp only[dI]at this;exact this};{have:=World.alloc_heap_new (w.alloc (.cells #[.int .i64 h0,.int .i64 h1,.int .i64 h2,.int .i64 h3,.int .i64 h4,.int .i64 h5,.string (ah q),.string (ah n),.int .i64 k,.int .i64 c,.bool true,.int .i64 sz,.int .i64 bM] 137)) (.cells #[] 297);simp only[dI]at this;exact(bV _ _ _ ak).trans this};rintro e w2 ⟨rfl,hb2⟩;have aZ:Hid (aw w w2):=(((hb1 _).alloc ak _).alloc c5 _).trans (hb2.mono c5);clear hb2 hb1 HG;go_wp2;go_ret;exact⟨rfl,aZ⟩
theorem anA(h0 h1 h2 h3 h4 h5:Int)(q n:ai)(k c sz bM:Int)(w:World)(hG:bH w) :
  aF 136 #[dK h0 h1 h2 h3 h4 h5 q n k c true sz bM,aq 5] w (cS (aA (tv 0)) w):=by have hb1:∀o,aw w (w.alloc o):=fun o=>bj.alloc aB _;have HG:Hid (∀W,aw w W->bH W):=fun W hb=>hG.below hb;clear hG;unfold dK;go_enter func136,ntmps136;go_wp2_with fail;refine(Ii (w.heap.size+1+1) (w.heap.size+1) 0 _ (HG _ (((hb1 _).alloc ak _).alloc c5 _)) ak ?_ ?_).mono ?_;{have:=World.alloc_heap_new ((w.alloc (.cells #[.int .i64 h0,.int .i64 h1,.int .i64 h2,.int .i64 h3,.int .i64 h4,.int .i64 h5,.string (ah q),.string (ah n),.int .i64 k,.int .i64 c,.bool true,.int .i64 sz,.int .i64 bM] 137)).alloc (.cells #[] 297)) (.cells #[.iface 291 (.string ⟨#[]⟩),.iface 284 (.int .u16 41),.iface 284 (.int .u16 1232),.iface 292 (.int .u8 (0:UInt8).toNat),.iface 224 (.string ⟨#[0,0,0]⟩),.iface 293 (.slice (some ⟨w.heap.size+1,0,none⟩) 0 0)] 297);simp only[dI]at this;exact this};{have:=World.alloc_heap_new (w.alloc (.cells #[.int .i64 h0,.int .i64 h1,.int .i64 h2,.int .i64 h3,.int .i64 h4,.int .i64 h5,.string (ah q),.string (ah n),.int .i64 k,.int .i64 c,.bool true,.int .i64 sz,.int .i64 bM] 137)) (.cells #[] 297);simp only[dI]at this;exact(bV _ _ _ ak).trans this};rintro e w2 ⟨rfl,hb2⟩;have aZ:Hid (aw w w2):=(((hb1 _).alloc ak _).alloc c5 _).trans (hb2.mono c5);clear hb2 hb1 HG;go_wp2;go_ret;exact⟨rfl,aZ⟩
theorem anB(h0 h1 h2 h3 h4 h5:Int)(q n:ai)(k c sz bM:Int)(w:World)(hG:bH w) :
  aF 136 #[dK h0 h1 h2 h3 h4 h5 q n k c true sz bM,aq 16] w (cS (aA (tv 1)) w):=by have hb1:∀o,aw w (w.alloc o):=fun o=>bj.alloc aB _;have HG:Hid (∀W,aw w W->bH W):=fun W hb=>hG.below hb;clear hG;unfold dK;go_enter func136,ntmps136;go_wp2_with fail;refine(Ii (w.heap.size+1+1) (w.heap.size+1) 1 _ (HG _ (((hb1 _).alloc ak _).alloc c5 _)) ak ?_ ?_).mono ?_;{have:=World.alloc_heap_new ((w.alloc (.cells #[.int .i64 h0,.int .i64 h1,.int .i64 h2,.int .i64 h3,.int .i64 h4,.int .i64 h5,.string (ah q),.string (ah n),.int .i64 k,.int .i64 c,.bool true,.int .i64 sz,.int .i64 bM] 137)).alloc (.cells #[] 297)) (.cells #[.iface 291 (.string ⟨#[]⟩),.iface 284 (.int .u16 41),.iface 284 (.int .u16 1232),.iface 292 (.int .u8 (1:UInt8).toNat),.iface 224 (.string ⟨#[0,0,0]⟩),.iface 293 (.slice (some ⟨w.heap.size+1,0,none⟩) 0 0)] 297);simp only[dI]at this;exact this};{have:=World.alloc_heap_new (w.alloc (.cells #[.int .i64 h0,.int .i64 h1,.int .i64 h2,.int .i64 h3,.int .i64 h4,.int .i64 h5,.string (ah q),.string (ah n),.int .i64 k,.int .i64 c,.bool true,.int .i64 sz,.int .i64 bM] 137)) (.cells #[] 297);simp only[dI]at this;exact(bV _ _ _ ak).trans this};rintro e w2 ⟨rfl,hb2⟩;have aZ:Hid (aw w w2):=(((hb1 _).alloc ak _).alloc c5 _).trans (hb2.mono c5);clear hb2 hb1 HG;go_wp2;go_ret;exact⟨rfl,aZ⟩
theorem aa7{size:Int}{aI:aj->List dH}{i:Nat} : ∀(gs:List (List aj)) (st:lD),(lF size aI i gs st).cs.length=st.cs.length
 | [],_=>rfl
 | g :: gs,st=>by unfold lF;split;{rfl};{split;{rfl};{rw[aa7 gs];simp}}
theorem aa8{size:Int}{aI:aj->List dH}{i:Nat} : ∀(gs:List (List aj)) (st:lD) (K:Nat),(∀c∈st.cs,c<=K)->∀c∈(lF size aI i gs st).cs,c<=K+(gs.map (·.length)).sum
 | [],_,_,h=>fun c hc=>a_ (h c hc) (z_ _ _)
 | g :: gs,st,K,h=>by unfold lF;split;{exact fun c hc=>a_ (h c hc) (z_ _ _)};{split;{exact fun c hc=>a_ (h c hc) (z_ _ _)};{intro c hc;have:=aa8 gs _ (K+g.length) (fun c hc=>by{rcases Sy hc with hc|hc;{have:=h c hc;omega};{rw[hc,uV];by_cases au:i<st.cs.length;{rw[mM au];have:=h _ (iV au);simp only[IY];omega};{rw[Mw ae];simp}}}) c hc;simp only[og,MG];omega}}
theorem aa9{size:Int}{aI:aj->List dH}{i:Nat} : ∀(gs:List (List aj)) (st:lD) (M:Nat),(∀g∈gs,∀r∈g,na r (aI r))->size<=M->st.S.1.length<=M->st.S.1.length<=(lF size aI i gs st).S.1.length/\(lF size aI i gs st).S.1.length<=M
 | [],_,_,_,_,h=>⟨aL _,h⟩
 | g :: gs,st,M,hg,hs,h=>by unfold lF;split;{exact⟨aL _,h⟩};{split;{exact⟨aL _,h⟩};{rename_i h1 h2;have hm:=(Dz aI g (hg g ak) st.S.1 st.S.2).1;have:=aa9 (size:=size) (aI:=aI) (i:=i) gs { st with S:=cT aI g st.S.1 st.S.2,cs:=st.cs.set i (st.cs.getD i 0+g.length) } M (fun x hx=>hg x (by simp[hx])) hs (by show(cT aI g st.S.1 st.S.2).1.length<=M;omega);exact⟨a_ hm this.1,this.2⟩}}
theorem anC(l:List aj):(((bC bJ l).map (·.2)).map (·.length)).sum<=l.length:=by have h:=Oq l (bC bJ l).length;unfold lh at h;rw[jV,List.length_flatMap]at h;rw[pK];exact h
theorem aa_{size:Int}{aI:aj->List dH} : ∀(i:Nat) (ls:List (List aj)) (st:lD),(mI size aI i ls st).cs.length=st.cs.length
 | _,[],_=>rfl
 | i,l :: ls,st=>by unfold mI;rw[aa_ (i+1) ls,aa7]
theorem aba{size:Int}{aI:aj->List dH} : ∀(i:Nat) (ls:List (List aj)) (st:lD) (K:Nat),(∀c∈st.cs,c<=K)->∀c∈(mI size aI i ls st).cs,c<=K+(ls.map (·.length)).sum
 | _,[],_,_,h=>fun c hc=>a_ (h c hc) (z_ _ _)
 | i,l :: ls,st,K,h=>by unfold mI;intro c hc;have:=aba (i+1) ls _ _ (aa8 _ st K h) c hc;have h2:=anC l;simp only[og,MG];omega
theorem RI{size:Int}{aI:aj->List dH} : ∀(i:Nat) (ls:List (List aj)) (st:lD) (M:Nat),(∀l∈ls,∀r∈l,na r (aI r))->size<=M->st.S.1.length<=M->st.S.1.length<=(mI size aI i ls st).S.1.length/\(mI size aI i ls st).S.1.length<=M
 | _,[],_,_,_,_,h=>⟨aL _,h⟩
 | i,l :: ls,st,M,hg,hs,h=>by unfold mI;have h1:=aa9 (size:=size) (aI:=aI) (i:=i) ((bC bJ l).map (·.2)) st M (fun g mq r hr=>by{obtain⟨x,hx,rfl⟩:=oh.1 mq;exact hg l ak r (Ot hx hr)}) hs h;have h2:=RI (i+1) ls _ M (fun x hx=>hg x (by simp[hx])) hs h1.2;exact⟨a_ h1.1 h2.1,h2.2⟩
def rL(op:Bool)(sz:Int):Int:=if op=true then min (max sz 512) 1232 else 512
def rM(op:Bool)(rc:Int):ai:=if op=true then tv (UInt8.ofNat (rc.toNat/16))else []
def zP(op:Bool)(sz rc:Int)(q n:ai)(an ns ad:List aj):lD:=mI (rL op sz - ((rM op rc).length:Int)) eX 0 [an,ns,ad] ⟨(List.replicate 12 0++q,jo 12 n),[0,0,0],false⟩
def RJ(F:lD)(an ns:List aj):Bool:=decide (((F.cs.getD 0 0:Nat):Int)<(an.length:Int)) || decide (((F.cs.getD 1 0:Nat):Int)<(ns.length:Int))
def abb(b:Nat)(rc:Int)(bz tc:Bool):Int:=rA (rA (rf b rc) 1024 bz) 512 tc
def EZ(id b:Nat)(op bz:Bool)(sz rc:Int)(q n:ai)(an ns ad:List aj):ai :=
 bY (gG id (abb b rc bz (RJ (zP op sz rc q n an ns ad) an ns)).toNat 1 ((zP op sz rc q n an ns ad).cs.getD 0 0) ((zP op sz rc q n an ns ad).cs.getD 1 0) (cond op ((zP op sz rc q n an ns ad).cs.getD 2 0+1) ((zP op sz rc q n an ns ad).cs.getD 2 0)))++((zP op sz rc q n an ns ad).S.1++rM op rc).drop 12
theorem anD(h0 h1 h2 h3 h4 h5:Int)(q n:ai)(k c sz bM rc:Int)(op:Bool)(w:World)(hg:bH w)(EW:rc=0\/rc=2\/rc=3\/rc=5\/rc=16) :
  aF 136 #[dK h0 h1 h2 h3 h4 h5 q n k c op sz bM,aq rc] w (cS (aA (rM op rc)) w):=by
 cases op with
 | false=>exact aeh h0 h1 h2 h3 h4 h5 q n k c sz bM rc w
 | true =>{rcases EW with rfl|rfl|rfl|rfl|rfl;{exact anw h0 h1 h2 h3 h4 h5 q n k c sz bM w hg};{exact anx h0 h1 h2 h3 h4 h5 q n k c sz bM w hg};{exact anz h0 h1 h2 h3 h4 h5 q n k c sz bM w hg};{exact anA h0 h1 h2 h3 h4 h5 q n k c sz bM w hg};{exact anB h0 h1 h2 h3 h4 h5 q n k c sz bM w hg}}
theorem anE(h0 h1 h2 h3 h4 h5:Int)(q n:ai)(k c sz bM:Int)(op:Bool)(w:World) :
  aF 138 #[dK h0 h1 h2 h3 h4 h5 q n k c op sz bM] w (cS (aq (rL op sz)) w):=by
 cases op with
 | false=>exact aeg h0 h1 h2 h3 h4 h5 q n k c sz bM w
 | true=>exact anu h0 h1 h2 h3 h4 h5 q n k c sz bM w
theorem RL{w:World}{v:Value}{rs:List aj}(h:gV w v rs)(hg:bH w):∃a c b off,v=.slice a rs.length c/\C8 v b off rs/\dz w b off rs:=by rcases h with⟨rfl,rfl⟩|⟨b,off,cap,rfl,hc,hr⟩;{exact⟨none,0,0,0,rfl,.inl ⟨rfl,rfl⟩,hg.1,fun j hj=>by simp at hj⟩};{exact⟨_,_,b,off,rfl,.inr ⟨cap,rfl,hc⟩,hr⟩}
theorem anF{l:List Nat}(h:l.length=3):l = [l.getD 0 0,l.getD 1 0,l.getD 2 0]:=by
 match l,h with
 | [a,b,c],_=>rfl
def Ij(l:List aj):Prop:=∀x∈bC bJ l,∀(s:ai) (ps:cH),gw ps->s.length<=1300->ps.length<=s.length+300->(cT eX x.2 s ps).1.length<=50000/\(cT eX x.2 s ps).2.length<=20000/\(cT eX x.2 s ps).2.length<=(cT eX x.2 s ps).1.length+300
structure E0(l:List aj):Prop where
 rr:∀r∈l,na r (eX r)
 set:Ij l
 len:l.length<=1000
theorem anG(id b b1:Nat)(h2 h3 h4 h5 k kc:Int)(q n:ai)(op bz:Bool)(sz bM rc:Int)(an ns ad:List aj)(va vb vd:Value)(w:World)(hg:bH w)(pk:id<65536)
  (ra:gV w va an) (rb:gV w vb ns) (rd:gV w vd ad) (oa:E0 an) (ob:E0 ns) (od:E0 ad) (hn:n.length<=300) (hq:q.length<=300) (hpl:(jo 12 n).length<=300)
  (EW:rc=0\/rc=2\/rc=3\/rc=5\/rc=16) (hT:rA (rf b rc) 1024 bz=(b1:Int)) (hb1:b1<65536) (pX:∀tc,∃b2:Nat,rA b1 512 tc=(b2:Int)/\b2<65536) :
  aF 73 #[dK id b h2 h3 h4 h5 q n k kc op sz bM,.agg #[aq rc,.bool bz,va,vb,vd]] w (cS (aA (EZ id b op bz sz rc q n an ns ad)) w):=by
 obtain⟨aa,ca,ba,anH,rfl,la,ka⟩:=RL ra hg;obtain⟨ab,cb,bb,ob',rfl,lb,kb⟩:=RL rb hg;obtain⟨ac,cc,bd,anI,rfl,ld,kd⟩:=RL rd hg;have ar1:(rM op rc).length<=11:=by unfold rM;split <;> simp[tv]
 have I7:rL op sz<=1232/\512<=rL op sz:=by unfold rL;split <;> omega
 have nS:((List.replicate 12 0++q,jo 12 n):ai×cH).1.length=12+q.length:=by rw[bU,ab0]
 obtain⟨F,hF⟩:∃F,zP op sz rc q n an ns ad=F:=⟨_,rfl⟩;have anJ:F.cs.length=3:=by rw[<- hF];exact aa_ _ _ _
 have anK:∀c∈F.cs,c<=3000:=fun c hc=>by{rw[<- hF]at hc;have:=aba 0 [an,ns,ad] _ 0 (fun c hc=>by simp at hc;omega) c hc;have h1:=oa.len;have h2:=ob.len;have h3:=od.len;simp only[og,ye,MG,List.sum_nil]at this;omega};have ar2:12+q.length<=F.S.1.length/\F.S.1.length<=1300:=by{rw[<- hF,<- nS];exact RI 0 [an,ns,ad] ⟨(List.replicate 12 0++q,jo 12 n),[0,0,0],false⟩ 1300 (fun l hl r hr=>by{simp only[eK,uW,uZ]at hl;rcases hl with rfl|rfl|rfl;{exact oa.rr r hr};{exact ob.rr r hr};{exact od.rr r hr}}) ae (by rw[nS];omega)};have ou:∀i,F.cs.getD i 0<=3000:=fun i=>by{rw[uV];by_cases au:i<F.cs.length;{rw[mM au];exact anK _ (iV au)};{rw[Mw ae];simp}};obtain⟨b2,hb2,anL⟩:=pX (RJ F an ns);have anM:=anF anJ;have JL:EZ id b op bz sz rc q n an ns ad=bY (gG id b2 1 (F.cs.getD 0 0) (F.cs.getD 1 0) (cond op (F.cs.getD 2 0+1) (F.cs.getD 2 0)))++(F.S.1++rM op rc).drop 12:=by{unfold EZ abb;rw[hF,hT,hb2];rfl};rw[JL];have g0:=ou 0;have g1:=ou 1;have g2:=ou 2;refine agw id b1 b2 an.length ns.length ad.length (F.cs.getD 0 0) (F.cs.getD 1 0) (F.cs.getD 2 0) ca cb cc aa ab ac b h2 h3 h4 h5 k kc rc q n sz bM (rL op sz) (rM op rc) F.S w hg ae ae ae op bz _ rfl pk hb1 hT ae hq (RJ F an ns) rfl hb2 anL ?_ (fun W hW=>anD _ _ _ _ _ _ _ _ _ _ _ _ _ _ W hW EW) (fun W=>anE _ _ _ _ _ _ _ _ _ _ _ _ _ W) ae ae ae ae ae;intro W mb base anN qO ED bL ar3 anO hcell hne;have hw0:=hg.1;have hf:=aj3 mb base anN (rL op sz - ((rM op rc).length:Int)) eX (.slice aa an.length ca) (.slice ab ns.length cb) (.slice ac ad.length cc) an ns ad (List.replicate 12 0++q,jo 12 n) W anO (agu n ae) (hg.below qO) bL ae ae hcell hne (fun i au=>by{
 have l1:=oa.len;have l2:=ob.len;have l3:=od.len;match i,au with
 | 0,_=>exact⟨aa,_,ca,an,ba,anH,rfl,rfl,la,ka.below qO,eQ ka.1 ED,by have:=ka.1;omega,ae,oa.rr,rfl,oa.set⟩
 | 1,_=>exact⟨ab,_,cb,ns,bb,ob',rfl,rfl,lb,kb.below qO,eQ kb.1 ED,by have:=kb.1;omega,ae,ob.rr,rfl,ob.set⟩
 | 2,_=>exact⟨ac,_,cc,ad,bd,anI,rfl,rfl,ld,kd.below qO,eQ kd.1 ED,by have:=kd.1;omega,ae,od.rr,rfl,od.set⟩}) ae (by rw[nS];omega) (by rw[nS];show(jo 12 n).length<=_;omega)
 rw[show mI (rL op sz - ((rM op rc).length:Int)) eX 0 [an,ns,ad] ⟨(List.replicate 12 0++q,jo 12 n),[0,0,0],false⟩=F from hF]at hf;refine hf.mono ?_;rintro e w' ⟨rfl,kW,hm,ht⟩;refine⟨rfl,?_,hm,ht⟩;rw[anM]at kW;exact kW
theorem RM(a b:Nat)(ha:a<9223372036854775808)(hb:b<9223372036854775808):bits .and .i64 (a:Int) (b:Int)=((a &&& b:Nat):Int):=by have hx:a &&& b<2 ^ 63:=CQ Nat.and_le_left ae;show IntKind.i64.wrap ((BitVec.ofInt 64 (a:Int) &&& BitVec.ofInt 64 (b:Int)).toNat:Int)=_;rw[Mj,yf a ae,yf b ae];generalize a &&& b=x at *;rw[gM];first|omega|(unfold wrap64;omega)
def zQ(b rc:Nat):Nat:=(32768 ||| (b &&& 30976)) ||| (rc &&& 15)
theorem L_(b rc:Nat):zQ b rc<65536:=by have h1:b &&& 30976<2 ^ 16:=CQ IW ae;have h2:rc &&& 15<2 ^ 16:=CQ IW ae;exact Ff (Ff ae h1) h2
theorem RN(b rc:Nat)(hb:b<65536)(hr:rc<65536):rf (b:Int) (rc:Int)=(zQ b rc:Int):=by
 have h1:b &&& 30976<2 ^ 16:=CQ IW ae;have h2:rc &&& 15<2 ^ 16:=CQ IW ae;have h3:32768 ||| (b &&& 30976)<2 ^ 16:=Ff ae h1
 unfold rf;rw[show bits .and .i64 (b:Int) 30976=((b &&& 30976:Nat):Int)from RM b 30976 ae ae,show bits .and .i64 (rc:Int) 15=((rc &&& 15:Nat):Int)from RM rc 15 ae ae];rw[show bits .or .i64 32768 ((b &&& 30976:Nat):Int)=((32768 ||| (b &&& 30976):Nat):Int)from Fs 32768 _ ae ae];exact Fs _ _ ae ae
def E1(x m:Nat)(b:Bool):Nat:=if b=true then x ||| m else x
theorem abc{x m:Nat}{b:Bool}(hx:x<65536)(hm:m<65536):E1 x m b<65536:=by unfold E1;split;{exact Ff (n:=16) ae ae};{exact hx}
theorem abd(x m:Nat)(b:Bool)(hx:x<65536)(hm:m<65536):rA (x:Int) (m:Int) b=(E1 x m b:Int):=by unfold rA E1;split;{exact Fs x m ae ae};{rfl}
theorem abe(s:ai)(i:Nat):bO s i<65536:=by have h1:=jX (s.getD i 0);have h2:=jX (s.getD (i+1) 0);unfold bO;omega
theorem anP{m:ai}(h:12<=m.length):AQ m=([bO m 0,bO m 2,bO m 4,bO m 6,bO m 8,bO m 10],true):=by
 match m,h with
 | a0 :: a1 :: a2 :: a3 :: a4 :: a5 :: a6 :: a7 :: a8 :: a9 :: a10 :: a11 :: r,_ =>{simp only[AQ,lS,Cs,bO,List.getD_cons_zero,List.getD_cons_succ,Bool.not_false,jW]}
theorem abf:∀(k:Nat) (s:ai) (br:Bool),s.length<2*k->(lS k s br).2.2=true
 | 0,_,_,h=>by omega
 | k+1,s,br,h=>by
  show(lS k (cZ s br).2.1 (cZ s br).2.2).2.2=true
  match s,h with
  | [],_=>
   have hb:∀k s,(lS k s true).2.2=true:=by
    intro k;induction k with
    | zero=>intro s;rfl
    | succ k ih=>intro s;show(lS k _ (cZ s true).2.2).2.2=true;rw[aa2];exact ih _
   exact hb k _
  | [a],_ =>
   have hb:∀k s,(lS k s true).2.2=true:=by
    intro k;induction k with
    | zero=>intro s;rfl
    | succ k ih=>intro s;show(lS k _ (cZ s true).2.2).2.2=true;rw[aa2];exact ih _
   exact hb k _
  | a :: b :: s,h=>exact abf k s br (by simp only[cU]at h;omega)
theorem anQ{m:ai}(h:m.length<12):∃a b c d e f:Nat,AQ m=([a,b,c,d,e,f],false):=by have h1:=abf 6 m false ae;refine⟨_,_,_,_,_,_,SI rfl ?_⟩;show(!(lS 6 m false).2.2)=false;rw[h1];rfl
def Ma(k:Int):Prop:=k=0\/k=2\/k=3\/k=5\/k=16
theorem abg(o:ai)(rs:List aj)(t:Int)(first aa:Bool)(ans:List aj)(n:ai):Ma (fK o (aQ rs) t first aa ans n).1:=by
 unfold fK;split;{
 cases first
 {exact .inl rfl};{exact .inr (.inr (.inr (.inl rfl)))}};{
 split;{exact .inl rfl};{
 split;{split;{exact .inr (.inl rfl)};{exact .inl rfl}};{
 show Ma (jO o (aQ rs) n);unfold jO;repeat' split
 all_goals first|exact .inl rfl|exact .inr (.inr (.inl rfl))|exact .inr (.inl rfl)|exact .inr (.inr (.inr (.inl rfl)))}}}
theorem abh(o:ai)(rs:List aj)(t:Int):∀(f:Nat) (first aa:Bool) (ans:List aj) (n:ai),Ma (jT o (aQ rs) t f first aa ans n).1
 | 0,first,aa,ans,n=>abg o rs t first aa ans n
 | f+1,first,aa,ans,n=>by
  have h:=abg o rs t first aa ans n
  unfold jT;generalize fK o (aQ rs) t first aa ans n=q at h
  obtain⟨rc,nZ,nr,eB,nx⟩:=q;cases nx with
  | none=>exact h
  | some d=>exact abh o rs t f false nZ nr d
theorem anR(o:ai)(rs:List aj)(n:ai)(k c:Int)(op:Bool)(bN:Int):Ma (fU o rs n k c op bN).1.1:=by unfold fU;split;{exact .inr (.inr (.inr (.inr rfl)))};{split;{exact .inr (.inr (.inr (.inl rfl)))};{exact abh o rs k 9 true false [] n}}
theorem anS{m q:ai}{ls:List ai}{ty cl:Nat}{op:Bool}{sz bN:Nat}(h:ny m=some (q,ls,ty,cl,op,sz,bN)):bO m 4=1/\bO m 6=0/\bO m 8=0/\bO m 10=if op=true then 1 else 0:=by unfold ny at h;split at h;{cases h};{rename_i hc;have hc':bO m 4=1/\bO m 6=0/\bO m 8=0/\bO m 10<=1:=ae;refine⟨hc'.1,hc'.2.1,hc'.2.2.1,?_⟩;split at h;{cases h};{split at h;{cases h};{split at h;{rename_i h0;split at h;{have:=gT h;simp only[Ae]at this;rw[<- this.2.2.2.2.1,h0];rfl};{cases h}};{rename_i h0;split at h;{cases h};{have:=gT h;simp only[Ae]at this;rw[<- this.2.2.2.2.1];show bO m 10=1;omega}}}}}
def rN(o:ai)(rs:List aj)(m R:ai):Prop :=
 if m.length<12\/bO m 2 &&& 32768≠0 then R = []
 else if bO m 2 &&& 30720≠0 then R=bY (gG (bO m 0) (zQ (bO m 2) 4) 0 0 0 0)
 else match ny m with
  | none=>R=bY (gG (bO m 0) (zQ (bO m 2) 1) 0 0 0 0)
  | some (q,ls,ty,cl,op,sz,bN)=>R=EZ (bO m 0) (bO m 2) op (fU o rs (cJ ls) ty cl op bN).1.2.1 sz (fU o rs (cJ ls) ty cl op bN).1.1 q (cJ ls) (fU o rs (cJ ls) ty cl op bN).1.2.2.1 (fU o rs (cJ ls) ty cl op bN).1.2.2.2 (fU o rs (cJ ls) ty cl op bN).2
def abj(o:ai)(rs:List aj)(m:ai):Prop:=∀q ls ty cl op sz bN,ny m=some (q,ls,ty,cl,op,sz,bN)->Ij (fU o rs (cJ ls) ty cl op bN).1.2.2.1/\Ij (fU o rs (cJ ls) ty cl op bN).1.2.2.2/\Ij (fU o rs (cJ ls) ty cl op bN).2/\(jo 12 (cJ ls)).length<=300
theorem abk(b k:Nat)(hb:b<65536)(hk:k<65536):(bits .and .i64 (b:Int) (k:Int) != 0)=decide (b &&& k≠0):=by rw[RM b k ae ae];by_cases h:b &&& k=0;{rw[h];rfl};{rw[jY h];simp only[Fg,ne_eq];omega}
theorem anT(zb b off cap:Nat)(o m:ai)(rs:List aj)(w:World)(bE:l7 o rs)(hz:fA w zb o b off cap (aQ rs))(hg:bH w)(hl:m.length<=2000000)(Ct:abj o rs m) :
  aF 27 #[aO zb,.string (ah m)] w fun e w'=>(∃R,e=.returned (.string (ah R))/\rN o rs m R)/\aw w w':=by
 have hh:=ad9 m w ae;by_cases xF:m.length<12;{obtain⟨i,b',c0,az,c2,c3,he⟩:=anQ xF;rw[he]at hh;refine(aaW (aO zb) m i b' c0 az c2 c3 false w (.inl rfl) hh).mono ?_;rintro e w' ⟨rfl,hb⟩;exact⟨⟨[],rfl,by unfold rN;rw[aP (.inl xF)]⟩,hb⟩};rw[anP ae]at hh;have hb1:=abe m 2;have au:=abe m 0;have n1:=abk (bO m 2) 32768 hb1 ae;have n2:=abk (bO m 2) 30720 hb1 ae;by_cases h1:bO m 2 &&& 32768≠0;{rw[jY h1]at n1;refine(aaW (aO zb) m _ _ _ _ _ _ true w (.inr ⟨rfl,n1⟩) hh).mono ?_;rintro e w' ⟨rfl,hb⟩;exact⟨⟨[],rfl,by unfold rN;rw[aP (.inr h1)]⟩,hb⟩};rw[hP h1]at n1;have xR:¬(m.length<12\/bO m 2 &&& 32768≠0):=fun h=>h.elim xF h1;by_cases h2:bO m 2 &&& 30720≠0;{rw[jY h2]at n2;refine(am2 (aO zb) m (bO m 0) (bO m 2) (zQ (bO m 2) 4) _ _ _ _ w au (L_ _ _) (RN _ 4 hb1 ae) n1 n2 hh).mono ?_;rintro e w' ⟨rfl,hb⟩;exact⟨⟨_,rfl,by unfold rN;rw[aG xR,aP h2]⟩,hb⟩};rw[hP h2]at n2;have hq:=fun W=>ank m (bO m 0) (bO m 2) W ae ae;cases Cx:ny m with
 | none =>{refine(am3 (aO zb) m (bO m 0) (bO m 2) (zQ (bO m 2) 1) _ _ _ _ w au (L_ _ _) (RN _ 1 hb1 ae) n1 n2 hh (fun W=>(hq W).mono ?_)).mono ?_;{rintro e w' ⟨h,hb⟩;unfold Cu at h;rw[Cx]at h;exact⟨h,hb⟩};{rintro e w' ⟨rfl,hb⟩;exact⟨⟨_,rfl,by unfold rN;rw[aG xR,aG h2,Cx]⟩,hb⟩}}
 | some Q =>{obtain⟨q,ls,ty,cl,op,sz,bN⟩:=Q;obtain⟨k1,k2,k3,k4⟩:=anS Cx;obtain⟨o1,o2,o3,o4,ed,ee,ei,_⟩:=Rp Cx;obtain⟨s1,s2,s3,s4⟩:=Ct q ls ty cl op sz bN Cx;obtain⟨_,a2,a3,a4,a5⟩:=Rq bE o1 (fun x hx=>(o2 x hx).1) ty cl op bN;have iP:=anR o rs (cJ ls) ty cl op bN;have hnl:(cJ ls).length<=254:=by{by_cases he:ls = [];{subst he;exact dY _};{have:=Ib ls he;omega}};have jc:cJ ls = []\/fk (cJ ls):=by{by_cases he:ls = [];{subst he;exact .inl rfl};{exact .inr (L0 he (fun x hx=>(o2 x hx).1))}};obtain⟨Ik,RO⟩:∃Ik,fU o rs (cJ ls) ty cl op bN=Ik:=⟨_,rfl⟩;rw[RO]at a2 a3 a4 a5 iP s1 s2 s3;obtain⟨⟨rc,bz,an,ns⟩,ad⟩:=Ik;simp only at a2 a3 a4 a5 iP s1 s2 s3;have la:E0 an:=⟨fun r hr=>Ia (a2 r (by simp[hr])).1.wr,s1,ae⟩;have lb:E0 ns:=⟨fun r hr=>Ia (a2 r (by simp[hr])).1.wr,s2,ae⟩;have ld:E0 ad:=⟨fun r hr=>Ia (a2 r (by simp[hr])).1.wr,s3,ae⟩;have EW:∃k:Nat,k<65536/\rc=(k:Int):=by{rcases iP with rfl|rfl|rfl|rfl|rfl;{exact⟨0,ae,rfl⟩};{exact⟨2,ae,rfl⟩};{exact⟨3,ae,rfl⟩};{exact⟨5,ae,rfl⟩};{exact⟨16,ae,rfl⟩}};obtain⟨k,hk,rfl⟩:=EW;have hT:rA (rf (bO m 2:Nat) (k:Int)) 1024 bz=(E1 (zQ (bO m 2) k) 1024 bz:Int):=by{rw[RN _ k hb1 hk];exact abd _ 1024 bz (L_ _ _) ae};have hb2:E1 (zQ (bO m 2) k) 1024 bz<65536:=abc (L_ _ _) ae;refine(ant zb (bO m 0) (bO m 2) _ _ _ _ ty cl sz bN op m q (cJ ls) (EZ (bO m 0) (bO m 2) op bz sz k q (cJ ls) an ns ad) (fun W v0 v1 v2 v3 v4=>v0=aq k/\v1=.bool bz/\gV W v2 an/\gV W v3 ns/\gV W v4 ad) w n1 n2 hh (fun W=>(hq W).mono ?_) (fun W hW=>?_) (fun W v0 v1 v2 v3 v4 hW bZ=>?_)).mono ?_;{rintro e w' ⟨h,hb⟩;unfold Cu at h;rw[Cx]at h;rw[k1,k2,k3,k4];refine⟨h.trans ?_,hb⟩;cases op <;> rfl};{refine(amI zb b off cap ty cl o (cJ ls) q _ _ _ _ _ _ op sz bN rs W bE (hz.below hW) (hg.below hW) jc ae).mono ?_;rintro e w' ⟨⟨v,rfl,va,vb,vd,rfl,r1,r2,r3,_⟩,hb⟩;rw[RO]at *;exact⟨⟨_,_,_,_,_,rfl,rfl,rfl,r1.rv,r2.rv,r3.rv⟩,hb⟩};{obtain⟨rfl,rfl,r1,r2,r3⟩:=bZ;exact anG (bO m 0) (bO m 2) _ _ _ _ _ ty cl q (cJ ls) op bz sz bN k an ns ad v2 v3 v4 W (hg.below hW) au r1 r2 r3 la lb ld ae ae s4 iP hT hb2 (fun tc=>⟨_,abd _ 512 tc hb2 ae,abc hb2 ae⟩)};{rintro e w' ⟨rfl,hb⟩;exact⟨⟨_,rfl,by unfold rN;rw[aG xR,aG h2,Cx];simp only[RO]⟩,hb⟩}}
theorem abl:∀(es:List ai) (l:ai) (ps:cH),(gh es l ps).2.length<=ps.length+es.length/\(gh es l ps).2.length+l.length<=ps.length+(gh es l ps).1.length
 | [],l,ps=>⟨by simp[gh],by simp[gh]⟩
 | e :: es,l,ps=>by
  cases hf:lq ps e with
  | some n=>rw[Gd hf];exact⟨ak,ak⟩
  | none =>{rw[Ge hf];obtain⟨h1,h2⟩:=abl es (l++nP e) (oC ps e l.length);have h3:=Vd ps e l.length;have h4:(nP e).length=(vK e).length+1:=rfl;simp only[bU]at h2;exact⟨by simp only[cU];omega,ae⟩}
def tx:ER->Nat
 | []=>0
 | .inl _ :: t=>tx t
 | .inr x :: t=>(aS 46 x).length+tx t
theorem abm:∀(ns:List ai) (S:ai) (es:oM),(gR ns S es).2.length<=es.length+ns.length/\(gR ns S es).2.length+S.length<=es.length+(gR ns S es).1.length
 | [],S,es=>⟨by simp[gR],by simp[gR]⟩
 | x :: t,S,es=>by
  cases hf:wI (pG (x :: t)) es with
  | some a=>rw[Rh hf];exact⟨ak,ak⟩
  | none =>{rw[LQ hf];obtain⟨h1,h2⟩:=abm t (S++(UInt8.ofNat x.length :: x)) (es++[(pG (x :: t),S.length)]);simp only[bU,cU,fV]at h1 h2 ⊢;exact⟨ae,ae⟩}
theorem RP:∀(p:ER) (S:ai) (es:oM),(lI p S es).2.length<=es.length+tx p/\(lI p S es).2.length+S.length<=es.length+(lI p S es).1.length
 | [],S,es=>⟨aL _,aL _⟩
 | .inl b :: t,S,es=>by obtain⟨h1,h2⟩:=RP t (S++b) es;rw[bU]at h2;rw[lI,tx];exact⟨h1,ae⟩
 | .inr x :: t,S,es=>by obtain⟨h1,h2⟩:=RP t (gR (aS 46 x) S es).1 (gR (aS 46 x) S es).2;obtain⟨h3,h4⟩:=abm (aS 46 x) S es;rw[lI,tx];exact⟨ae,ae⟩
theorem anU{r:aj}(aD:eF r.type (aS 32 r.data)=true):tx (uP r)<=122:=by
 have ht:=H3 aD;have sp:=fun x=>yl 46 x;rcases ht with ht|ht|ht|ht|ht|ht;all_goals rw[ht]at aD
 all_goals unfold uP
 {rw[aP ht];simp[tx]};{obtain⟨a,dP,hp⟩:=zN (t:=2) (.inl rfl) aD;have:=(jd hp).2;have:=sp a;rw[aG ae,aG ae,aG ae,aG ae];simp[tx,eD,dP];omega};{obtain⟨a,dP,hp⟩:=zN (t:=5) (.inr rfl) aD;have:=(jd hp).2;have:=sp a;rw[aG ae,aG ae,aG ae,aG ae];simp[tx,eD,dP];omega};{obtain⟨a,b,c,d,dP,Cr,pH,_,_⟩:=LR aD;have:=(jd Cr).2;have:=(jd pH).2;have:=sp a;have:=sp b;rw[aG ae,aG ae,aG ae,aP ht];simp[tx,eD,dP];omega};{obtain⟨a,b,dP,_,pH⟩:=LS aD;have:=(jd pH).2;have:=sp b;rw[aG ae,aG ae,aP ht];simp[tx,eD,dP];omega};{rw[aG ae,aP ht];simp[tx]}
theorem abn:∀(f:Nat) (x:ai),x.length<=f->∀(l:ai) (ps:cH),(gh (cu x) l ps).1.length<=l.length+x.length+2
 | f,[],_,l,ps=>by rw[oW,gh];simp
 | 0,x :: t,h,_,_=>by simp at h
 | f+1,x :: t,h,l,ps=>by
  generalize hy:x :: t=y at *;have hne:y≠[]:=by rw[<- hy];simp
  rw[pW y hne];cases hf:lq ps y with
  | some n=>rw[Gd hf];have:(JM n).length=2:=rfl;simp only[bU];omega
  | none =>{
  rw[Ge hf];by_cases hc:(46:UInt8)∈y;{
  obtain⟨a,b,e,ha⟩:=E_ hc;have h1:=abn f (fW y) (by rw[e,AE a b ha];rw[e]at h;simp at h;omega) (l++nP y) (oC ps y l.length);have h2:(nP y).length=a.length+1:=by rw[e];unfold nP;rw[N5 a b ha];rfl
  have h3:fW y=b:=by rw[e];exact AE a b ha
  have h4:y.length=a.length+1+b.length:=by rw[e];simp;omega
  rw[bU,h2,h3]at h1;rw[h3];omega};{
  rw[Da y hc,oW,gh];have h2:(nP y).length=y.length+1:=by unfold nP;rw[N6 y hc];rfl
  simp only[bU,h2,cU,fV];omega}}
theorem abo:∀(f:Nat) (x:ai),x.length<=f->fk x->2*(cu x).length<=x.length+1
 | f,[],_,_=>by rw[oW];simp
 | 0,x :: t,h,_=>by simp at h
 | f+1,x :: t,h,hn=>by
  generalize hy:x :: t=y at *;have hne:y≠[]:=by rw[<- hy];simp
  rw[pW y hne,cU];rcases rK 46 y with⟨aD,hs⟩|⟨a,b,e0,ha,e⟩;{have qR:(46:UInt8) ∉ y:=aD;rw[Da y qR,oW];have:0<y.length:=My.2 hne;simp;omega};{
  have sP:fk b:=fun z hz=>hn z (by rw[e];exact nB _ hz);have ar4:0<a.length:=My.2 (hn a (by rw[e];simp));have h4:y.length=a.length+1+b.length:=by rw[e0];simp;omega
  have ih:=abo f b ae sP;rw[show fW y=b by rw[e0];exact AE a b ha];omega}
theorem anV(l:ai)(ps:cH)(h:gw ps):qB [] [] l (ps.map fun p=>(dL p.1,p.2)) l ps:=by refine⟨⟨l,rfl,rfl⟩,?_⟩;rw[zX];intro e he;obtain⟨p,hp,rfl⟩:=oh.1 he;exact jY (h p hp)
theorem anW{r:aj}(h:LX r)(l:ai)(ps:cH)(hp:gw ps):l.length<=(en (eX r) l ps).1.length/\(en (eX r) l ps).1.length<=l.length+300/\(en (eX r) l ps).2.length<=ps.length+122/\(en (eX r) l ps).2.length+l.length<=ps.length+(en (eX r) l ps).1.length:=by
 have e:=amV (h1:=[]) (h2:=[]) rfl h (anV l ps hp);obtain⟨t,e1,e2⟩:=e.same;have hs:(lI (uP r) l (ps.map fun p=>(dL p.1,p.2))).1.length=(en (eX r) l ps).1.length:=by rw[e1,e2]
 have hl:=ek List.length e.pl;rw[hE]at hl;have hf:=yc (fun e:List ai×Nat=>decide (e.2<16384)) (lI (uP r) l (ps.map fun p=>(dL p.1,p.2))).2;have h1:=Rl (uP r) l (ps.map fun p=>(dL p.1,p.2));have h2:=RP (uP r) l (ps.map fun p=>(dL p.1,p.2));have h3:=amW h.dat;have h4:=anU h.dat;rw[hE]at h2;rw[hs]at h1 h2;exact⟨ae,ae,ae,ae⟩
theorem anX{T:ai}{r:aj}(hg:lJ T r)(hn:fk r.owner)(l:ai)(ps:cH)(hp:gw ps) :
  (iE r (eX r) l ps).1.length<=l.length+567/\(iE r (eX r) l ps).2.length<=ps.length+250/\(iE r (eX r) l ps).2.length+l.length<=ps.length+(iE r (eX r) l ps).1.length/\gw (iE r (eX r) l ps).2:=by have kG:=(VI (Ia hg.wr) l ps).2.2 hp;refine⟨?_,?_,?_,kG⟩;all_goals(show _;have az:=abl (cu r.owner) l ps;have c2:=abn _ r.owner aB l ps;have c3:=abo _ r.owner aB hn;have bw:=hg.Rm;have dm:=(JS (cu r.owner) l ps).2.2 hp;have d:=anW hg.wr (((((gh (cu r.owner) l ps).1++(dA r.type.toNat).out)++(dA 1).out)++(ue r.aV).out)++[0,0]) (gh (cu r.owner) l ps).2 dm;have e:iE r (eX r) l ps=A8 (eX r) ((((gh (cu r.owner) l ps).1++(dA r.type.toNat).out)++(dA 1).out)++(ue r.aV).out) (gh (cu r.owner) l ps).2:=rfl;rw[e];unfold A8;simp only[Oe];have s1:(dA r.type.toNat).out.length=2:=rfl;have s2:(dA 1).out.length=2:=rfl;have s3:(ue r.aV).out.length=4:=rfl;simp only[bU,s1,s2,s3,cU,fV]at d;omega)
theorem abp{T:ai} : ∀(rs:List aj),(∀r∈rs,lJ T r/\fk r.owner)->∀(l:ai) (ps:cH),gw ps ->
  (cT eX rs l ps).1.length<=l.length+567*rs.length/\(cT eX rs l ps).2.length<=ps.length+250*rs.length/\(cT eX rs l ps).2.length+l.length<=ps.length+(cT eX rs l ps).1.length
 | [],_,l,ps,_=>⟨aL _,aL _,aL _⟩
 | r :: rs,h,l,ps,hp=>by obtain⟨h1,h2,h3,h4⟩:=anX (h r ak).1 (h r ak).2 l ps hp;obtain⟨k1,k2,k3⟩:=abp rs (fun x hx=>h x (by simp[hx])) (iE r (eX r) l ps).1 (iE r (eX r) l ps).2 h4;show(cT eX rs (iE r (eX r) l ps).1 (iE r (eX r) l ps).2).1.length<=_/\(cT eX rs (iE r (eX r) l ps).1 (iE r (eX r) l ps).2).2.length<=_/\(cT eX rs (iE r (eX r) l ps).1 (iE r (eX r) l ps).2).2.length+l.length<=ps.length+(cT eX rs (iE r (eX r) l ps).1 (iE r (eX r) l ps).2).1.length;rw[cU];exact⟨ae,ae,ae⟩
theorem RQ{T:ai}{l:List aj}(h:∀r∈l,lJ T r/\fk r.owner)(hl:l.length<=68):Ij l:=by intro x hx s ps hp hs iJ;have lR:=yw hx;obtain⟨h1,h2,h3⟩:=abp x.2 (fun r hr=>h r (Ot hx hr)) s ps hp;exact⟨ae,ae,ae⟩
theorem anY{o:ai}{rs:List aj}(hz:l7 o rs){ls:List ai}(hl:nv ls<=254)(hn:∀x∈ls,x≠[])(ty cl:Int)(op:Bool)(bN:Int) :
  (fU o rs (cJ ls) ty cl op bN).1.2.2.1.length<=68/\(fU o rs (cJ ls) ty cl op bN).1.2.2.2.length<=68/\(fU o rs (cJ ls) ty cl op bN).2.length<=68:=by
 unfold fU;split;{exact⟨ak,ak,ak⟩};{
 split;{exact⟨ak,ak,ak⟩};{
 rename_i h;have hT:cJ ls≠[]:=fun e=>h (.inr (.inr e));have jR:ls≠[]:=fun e=>by subst e;exact hT rfl
 have L6:=L0 jR hn;have Jk:=Ib ls jR;have g3:=LL hz ty 9 true false [] (cJ ls) L6 ae (fun r hr=>by cases hr) (dY _);have g5:=Ro (rs:=rs) (l9 o rs ty (cJ ls)).2.2.1 ((l9 o rs ty (cJ ls)).2.2.1++(l9 o rs ty (cJ ls)).2.2.2) ([],[]) ak;have g6:=EK hz;exact⟨a_ g3.2.2.1 ae,a_ g3.2.2.2 ae,a_ g5 ae⟩}}
theorem anZ{o:ai}{rs:List aj}(hz:l7 o rs)(m:ai):abj o rs m:=by intro q ls ty cl op sz bN hq;obtain⟨o1,o2,_⟩:=Rp hq;have hn:∀x∈ls,x≠[]:=fun x hx=>(o2 x hx).1;obtain⟨_,a2,_⟩:=Rq hz o1 hn ty cl op bN;obtain⟨l1,l2,l3⟩:=anY hz o1 hn ty cl op bN;have ha:∀r∈(fU o rs (cJ ls) ty cl op bN).1.2.2.1++((fU o rs (cJ ls) ty cl op bN).1.2.2.2++(fU o rs (cJ ls) ty cl op bN).2),lJ (cJ ls) r/\fk r.owner:=fun r hr=>by{obtain⟨g1,g2⟩:=a2 r hr;refine⟨g1,?_⟩;rcases g1.own with h|h;{rw[h];exact L0 g2 hn};{exact h.ne}};refine⟨RQ (fun r hr=>ha r (by simp[hr])) l1,RQ (fun r hr=>ha r (by simp[hr])) l2,RQ (fun r hr=>ha r (by simp[hr])) l3,?_⟩;unfold jo;rw[hE];have h1:=N7 _ (cJ ls) aB;by_cases he:ls = [];{subst he;have:(cJ []).length=0:=rfl;omega};{have:=Ib ls he;omega}
theorem abq(b:Nat)(s:ai)(br:Bool)(w:World)(h:cB w b s br)(hl:s.length<=1000000000){m s1 i s2:ai}{b1 b2:Bool}(e1:dh s br 6=(m,s1,b1))(e2:dh s1 b1 4=(i,s2,b2)) :
  Calls prog 255 #[.pointer (some ⟨b,0,none⟩)] w fun e w'=>e=.returned (.agg #[.string (ah m),.string (ah i)])/\cB w' b s2 b2/\cF b w w':=by have l1:=vu s br 6;rw[e1]at l1;simp only at l1;have hbl:=h.lt;have hne:w.heap.size≠b:=ae;have jL:cB (w.alloc (.cells #[.string ⟨#[]⟩,.string ⟨#[]⟩] 62)) b s br:=(bV _ _ _ hbl).trans h;have qd:Hid (ay (w.alloc (.cells #[.string ⟨#[]⟩,.string ⟨#[]⟩] 62)) w.heap.size [.string ⟨#[]⟩,.string ⟨#[]⟩] 62):=ay.eo w _ _;have fQ:=ag (pR b 6 s br _ jL ae hl);rw[e1]at fQ;have lj:=ag e2;have abr:Hid (cF b w (w.alloc (.cells #[.string ⟨#[]⟩,.string ⟨#[]⟩] 62))):=⟨rfl,rfl,rfl,ak,fun i au _=>bV _ _ _ au⟩;clear h jL e1 e2;go_enter func255,ntmps255;go_wp2_with (fail);refine(af fQ).mono ?_;rintro e w1 ⟨rfl,hr1,dN,hs1⟩;have f_:=ag (pR b 4 s1 b1 w1 hr1 ae ae);rw[af lj]at f_;have mC:=ag ((af qd).kept dN hne);have Aq:=ag (CX (af abr) dN);clear hr1 dN hs1 fQ qd abr lj;go_wp2_with (fail);refine(af f_).mono ?_;rintro e w2 ⟨rfl,hr2,hk2,hs2⟩;have hz2:=(af mC).kept hk2 hne;have hK2:=CX (af Aq) hk2;have hz3:=(hz2.set 0 (.string (ah m))).set 1 (.string (ah i));simp only[CP,IM]at hz3;have c0:=hz2.cell 0 ak;have az:=hz2.cell 1 ak;have hf:=hz2.frozen;have z0:=hz3.cell 0 ak;have z1:=hz3.cell 1 ak;simp only[dS,ej]at c0 az z0 z1;have jM:Hid (cB ((w2.setCell ⟨w.heap.size,0,none⟩ (.string (ah m))).setCell ⟨w.heap.size,1,none⟩ (.string (ah i))) b s2 b2):=((bf _ _ _ _ (fun e=>hne e.symm)).trans (bf _ _ _ _ (fun e=>hne e.symm))).trans hr2;have Fz:Hid (cF b w ((w2.setCell ⟨w.heap.size,0,none⟩ (.string (ah m))).setCell ⟨w.heap.size,1,none⟩ (.string (ah i)))):=⟨hK2.os,hK2.tape,hK2.output,by simpa [World.setCell]using hK2.size,fun j hj hjb=>((bf _ _ _ _ (by show j≠w.heap.size;omega)).trans (bf _ _ _ _ (by show j≠w.heap.size;omega))).trans (hK2.block j hj hjb)⟩;clear hr2 hk2 hs2 f_ mC Aq hz2 hK2 hz3;go_wp2;refine df (v:=.agg #[.string (ah m),.string (ah i)]) (by simp[results,results255,go_sem,z0,z1]) rfl ⟨rfl,af jM,af Fz⟩
def rO(op:Nat)(m1 i1 m2 i2:ai):ai:=[0,1,8,0,6,4]++[au op,eO op]++m1++i1++m2++i2
theorem an0(op:Nat)(m1 i1 m2 i2:ai)(w:World)(ho:op<65536)(h1:m1.length<=1000)(h2:i1.length<=1000)(h3:m2.length<=1000)(h4:i2.length<=1000) :
  Calls prog 208 #[.agg #[.int .i64 op,.string (ah m1),.string (ah i1),.string (ah m2),.string (ah i2)]] w fun e w'=>e=.returned (.string (ah (rO op m1 i1 m2 i2)))/\Below w.heap.size w w':=by
 have kw:IntKind.u16.wrap (op:Int)=(op:Int):=by rw[jZ];omega
 have HS:Hid (∀(gb:Nat) (W:World),gb=W.heap.size->Calls prog 199 #[.slice (some ⟨gb,0,none⟩) 6 6] (W.alloc (.cells #[.iface 224 (.string ⟨#[0,1,8,0,6,4]⟩),.iface 284 (.int .u16 op),.iface 224 (.string (ah m1)),.iface 224 (.string (ah i1)),.iface 224 (.string (ah m2)),.iface 224 (.string (ah i2))] 297)) fun e w'=>e=.returned (.string (ah (rO op m1 i1 m2 i2)))/\Below gb W w'):=fun gb W hgb=>by{subst hgb;have:=Bp [ct [0,1,8,0,6,4],dA op,ct m1,ct i1,ct m2,ct i2] W (im (iO _) (im (kC op ho) (im (iO m1) (im (iO i1) (im (iO m2) (qX (iO i2))))))) ak (by simp[bY,ct,dA];omega);rw[show bY [ct [0,1,8,0,6,4],dA op,ct m1,ct i1,ct m2,ct i2]=rO op m1 i1 m2 i2 by simp[bY,ct,dA,rO]]at this;exact this};go_enter func208,ntmps208;go_wp2_with (fail);refine(af HS _ _ c5).mono ?_;rintro e w1 ⟨rfl,hb1⟩;have aZ:=ag (((bW w.heap.size w).alloc (aL _) _).trans (hb1.mono ak));clear hb1;go_wp2_with (fail);go_ret;exact⟨rfl,af aZ⟩
abbrev Il(op:Nat)(m1 i1 m2 i2:ai):Value:=.agg #[.int .i64 op,.string (ah m1),.string (ah i1),.string (ah m2),.string (ah i2)]
theorem an1(a b r ax ip m1 i1 m2:ai)(k:Nat)(w:World)(l1:m1.length<=1000)(l2:ax.length<=1000)(l3:ip.length<=1000)(l4:i1.length<=1000)
  (bZ:∀W,Calls prog 207 #[.string (ah r)] W fun e w'=>e=.returned (.tuple #[Il 1 m1 i1 m2 ip,.bool true])/\Below W.heap.size W w') :
  Calls prog 149 #[lY a b k r,lC ax ip] w fun e w'=>e=.returned (.string (ah (m1++ax++[8,6]++rO 2 ax ip m1 i1)))/\Below w.heap.size w w':=by
 have bG:=ag bZ;have fe:=ag (mG.xM w a b k r ax ip);have G4:(rO 2 ax ip m1 i1).length<=100000:=by simp[rO];omega
 have an2:Hid (∀W,Calls prog 208 #[.agg #[.int .i64 2,.string (ah ax),.string (ah ip),.string (ah m1),.string (ah i1)]] W fun e w'=>e=.returned (.string (ah (rO 2 ax ip m1 i1)))/\Below W.heap.size W w'):=fun W=>an0 2 ax ip m1 i1 W ae l2 l3 l1 l4;have Pu:Hid (∀W,Calls prog 209 #[.agg #[.string (ah m1),.string (ah ax),.int .i64 2054,.string (ah (rO 2 ax ip m1 i1))]] W fun e w'=>e=.returned (.string (ah (m1++ax++[8,6]++rO 2 ax ip m1 i1)))/\Below W.heap.size W w'):=fun W=>Xk m1 ax (rO 2 ax ip m1 i1) 2054 W l1 l2 G4 ae;clear bZ l1 l2 l3 l4 G4;generalize rO 2 ax ip m1 i1=ab at *;go_enter func149,ntmps149;go_wp2_with (fail);refine(af bG _).mono ?_;rintro e w1 ⟨rfl,hb1⟩;have hS1:=(af fe).xL hb1;have hw1:=hS1.size;have eU:=hS1.alloc (.cells #[.int .i64 1,.string (ah m1),.string (ah i1),.string (ah m2),.string (ah ip)] 303);have uR:=ay.eo w1 [.int .i64 1,.string (ah m1),.string (ah i1),.string (ah m2),.string (ah ip)] 303;have iF:=eU.alloc (.cells #[.int .i64 2,.string (ah ax),.string (ah ip),.string (ah m1),.string (ah i1)] 303);have zR:=ay.eo (w1.alloc (.cells #[.int .i64 1,.string (ah m1),.string (ah i1),.string (ah m2),.string (ah ip)] 303)) [.int .i64 2,.string (ah ax),.string (ah ip),.string (ah m1),.string (ah i1)] 303;rw[dI]at zR;have RR:=uR.alloc (.cells #[.int .i64 2,.string (ah ax),.string (ah ip),.string (ah m1),.string (ah i1)] 303);have c0:=eU.c.cell 0 ak;have az:=eU.c.cell 1 ak;simp only[dS,ej]at c0 az;obtain⟨W3,hW3⟩:=bP ((w1.alloc (.cells #[.int .i64 1,.string (ah m1),.string (ah i1),.string (ah m2),.string (ah ip)] 303)).alloc (.cells #[.int .i64 2,.string (ah ax),.string (ah ip),.string (ah m1),.string (ah i1)] 303));rw[<- hW3]at iF zR RR;have O4:W3.drew.cell? ⟨w1.heap.size,1,none⟩=some (.string (ah m1))/\W3.drew.cell? ⟨w.heap.size+1,0,none⟩=some (.string (ah ax))/\W3.drew.cell? ⟨w1.heap.size+1,0,none⟩=some (.int .i64 2)/\W3.drew.cell? ⟨w1.heap.size+1,1,none⟩=some (.string (ah ax))/\W3.drew.cell? ⟨w1.heap.size+1,2,none⟩=some (.string (ah ip))/\W3.drew.cell? ⟨w1.heap.size+1,3,none⟩=some (.string (ah m1))/\W3.drew.cell? ⟨w1.heap.size+1,4,none⟩=some (.string (ah i1))/\Below w.heap.size w W3.drew :=
  ⟨RR.cell 1 ak,iF.c.cell 0 ak,zR.cell 0 ak,zR.cell 1 ak,zR.cell 2 ak,zR.cell 3 ak,zR.cell 4 ak,iF.below.drew⟩
 have G5:Hid (∀W W':World,(W.cell? ⟨w1.heap.size,1,none⟩=some (.string (ah m1))/\W.cell? ⟨w.heap.size+1,0,none⟩=some (.string (ah ax))/\W.cell? ⟨w1.heap.size+1,0,none⟩=some (.int .i64 2)/\W.cell? ⟨w1.heap.size+1,1,none⟩=some (.string (ah ax))/\W.cell? ⟨w1.heap.size+1,2,none⟩=some (.string (ah ip))/\W.cell? ⟨w1.heap.size+1,3,none⟩=some (.string (ah m1))/\W.cell? ⟨w1.heap.size+1,4,none⟩=some (.string (ah i1))/\Below w.heap.size w W)->Below W.heap.size W W'->(W'.cell? ⟨w1.heap.size,1,none⟩=some (.string (ah m1))/\W'.cell? ⟨w.heap.size+1,0,none⟩=some (.string (ah ax))/\W'.cell? ⟨w1.heap.size+1,0,none⟩=some (.int .i64 2)/\W'.cell? ⟨w1.heap.size+1,1,none⟩=some (.string (ah ax))/\W'.cell? ⟨w1.heap.size+1,2,none⟩=some (.string (ah ip))/\W'.cell? ⟨w1.heap.size+1,3,none⟩=some (.string (ah m1))/\W'.cell? ⟨w1.heap.size+1,4,none⟩=some (.string (ah i1))/\Below w.heap.size w W')):=fun W W' hW hb=>by
  have kp:∀(x:Addr) (v:Value),W.cell? x=some v->W'.cell? x=some v:=fun x v h=>(hb.cell (qD W x h)).trans h;obtain⟨h1,h2,h3,h4,h5,h6,h7,h8⟩:=hW;exact⟨kp _ _ h1,kp _ _ h2,kp _ _ h3,kp _ _ h4,kp _ _ h5,kp _ _ h6,kp _ _ h7,h8.trans (hb.mono h8.size)⟩
 clear hb1 fe bG hS1 eU uR iF zR RR;go_wp2_with (fail);rw[<- hW3];clear hW3
 go_region_held (fun w'=>w'.cell? ⟨w1.heap.size,1,none⟩=some (.string (ah m1))/\w'.cell? ⟨w.heap.size+1,0,none⟩=some (.string (ah ax))/\w'.cell? ⟨w1.heap.size+1,0,none⟩=some (.int .i64 2)/\w'.cell? ⟨w1.heap.size+1,1,none⟩=some (.string (ah ax))/\w'.cell? ⟨w1.heap.size+1,2,none⟩=some (.string (ah ip))/\w'.cell? ⟨w1.heap.size+1,3,none⟩=some (.string (ah m1))/\w'.cell? ⟨w1.heap.size+1,4,none⟩=some (.string (ah i1))/\Below w.heap.size w w') (first|assumption|go_keep)
  (first
   | (go_at_call 208;go_loud (refine(af an2 _).mono ?_;rintro e w' ⟨rfl,hq⟩;replace hq:=af G5 _ _ (by assumption) hq))
   | (go_at_call 209;go_loud (refine(af Pu _).mono ?_;rintro e w' ⟨rfl,hq⟩;replace hq:=af G5 _ _ (by assumption) hq)))
 all_goals
  have bg:=ag hq.2.2.2.2.2.2.2;clear hq;go_wp2_with (fail);go_ret;exact⟨ek (fun x=>Ending.returned (.string (ah x))) ak,af bg⟩
theorem an3(a b r ax ip x:ai)(zv:Value)(w:World)
  (hA:∀W,Below w.heap.size w W->Calls prog 149 #[lY a b 2054 r,lC ax ip] W fun e w'=>e=.returned (.string (ah x))/\Below W.heap.size W w') :
  Calls prog 80 #[lY a b 2054 r,zv,lC ax ip] w fun e w'=>e=.returned (.string (ah x))/\Below w.heap.size w w':=by have hS:=mG.xM w a b 2054 r ax ip;have aZ:=ag hS.below;have dV:=ag (hA _ hS.below);clear hS hA;go_enter func80,ntmps80;go_wp2_with (fail);refine(af dV).mono ?_;rintro e w1 ⟨rfl,hb1⟩;have cM:=ag ((af aZ).trans (hb1.mono (af aZ).size));clear hb1 dV aZ;go_wp2_with (fail);go_ret;exact⟨rfl,af cM⟩
theorem Mb(br:Bool):cY [] br=(0,[],true):=rfl
theorem Mc(br:Bool):cZ [] br=(0,[],true):=by simp[cZ,cY]
theorem abt(br:Bool):dh [] br 4=([],[],true):=rfl
theorem an4(S:ai)(w:World)(hl:S.length<20) :
  Calls prog 210 #[.string (ah S)] w fun e w'=>e=.returned (.tuple #[.agg #[.string ⟨#[]⟩,.string ⟨#[]⟩,.string ⟨#[]⟩],.bool false])/\Below w.heap.size w w':=by
 have hz0:ay ((w.alloc (.cells #[.string ⟨#[]⟩,.string ⟨#[]⟩,.string ⟨#[]⟩] 307)).alloc (.cells #[.string (ah S),.bool false] 215)) w.heap.size zl 307:=(ay.eo w _ _).alloc _;have jL:cB ((w.alloc (.cells #[.string ⟨#[]⟩,.string ⟨#[]⟩,.string ⟨#[]⟩] 307)).alloc (.cells #[.string (ah S),.bool false] 215)) (w.heap.size+1) S false:=by{have:=World.alloc_heap_new (w.alloc (.cells #[.string ⟨#[]⟩,.string ⟨#[]⟩,.string ⟨#[]⟩] 307)) (.cells #[.string (ah S),.bool false] 215);simpa [cB]using this};have ey:=ag (((bW w.heap.size w).alloc (aL _) (.cells #[.string ⟨#[]⟩,.string ⟨#[]⟩,.string ⟨#[]⟩] 307)).alloc ak (.cells #[.string (ah S),.bool false] 215));have fQ:=ag (pR _ 20 S false _ jL ae ae);rw[show dh S false 20=([],[],true)from by unfold dh;rw[aG ae]]at fQ;have qd:=ag hz0;clear hz0 jL;go_enter func210,ntmps210;go_wp2_with (fail);refine(af fQ).mono ?_;rintro e w1 ⟨rfl,hr1,dN,hs1⟩;have hsz:w1.heap.size=w.heap.size+2:=by rw[hs1];simp
 have fe:Hid (BD w (w1.alloc (.cells #[.string (ah []),.bool false] 215)) [] true [] false) := ⟨((af qd).kept dN ae).alloc _,(bV _ _ _ hr1.lt).trans hr1,by rw[<- hsz];exact World.alloc_heap_new _ _,aX,((af ey).trans (dN.below ae aX)).alloc ae _⟩;clear hr1 dN hs1 fQ qd ey;go_wp2_with (fail);generalize w1.alloc (.cells #[.string (ah []),.bool false] 215)=v0 at *;clear hsz w1;have HC:=ag (oT (w.heap.size+2) [] false v0 (af fe).h ak);rw[Mb]at HC;refine(af HC).mono ?_;rintro e v1 ⟨rfl,hr,hk,hs⟩;have fE:=ag ((af fe).call hr hk hs);clear hr hk hs HC fe;have HC:=ag (oT (w.heap.size+2) [] true v1 (af fE).h ak);rw[Mb]at HC;go_wp2_with (fail);refine(af HC).mono ?_;rintro e v2 ⟨rfl,hr,hk,hs⟩;have dO:=ag ((af fE).call hr hk hs);clear hr hk hs HC fE;have HC:=ag (kt (w.heap.size+2) [] true v2 (af dO).h ak);rw[Mc]at HC;go_wp2_with (fail);refine(af HC).mono ?_;rintro e v3 ⟨rfl,hr,hk,hs⟩;have gj:=ag ((af dO).call hr hk hs);clear hr hk hs HC dO;have HC:=ag (kt (w.heap.size+2) [] true v3 (af gj).h ak);rw[Mc]at HC;go_wp2_with (fail);refine(af HC).mono ?_;rintro e v4 ⟨rfl,hr,hk,hs⟩;have fP:=ag ((af gj).call hr hk hs);clear hr hk hs HC gj;have HC:=ag (kt (w.heap.size+2) [] true v4 (af fP).h ak);rw[Mc]at HC;go_wp2_with (fail);refine(af HC).mono ?_;rintro e v5 ⟨rfl,hr,hk,hs⟩;have BF:=ag ((af fP).call hr hk hs);clear hr hk hs HC fP;have HC:=ag (oT (w.heap.size+2) [] true v5 (af BF).h ak);rw[Mb]at HC;go_wp2_with (fail);refine(af HC).mono ?_;rintro e v6 ⟨rfl,hr,hk,hs⟩;have xK:=ag ((af BF).call hr hk hs);clear hr hk hs HC BF;have HC:=ag (oT (w.heap.size+2) [] true v6 (af xK).h ak);rw[Mb]at HC;go_wp2_with (fail);refine(af HC).mono ?_;rintro e v7 ⟨rfl,hr,hk,hs⟩;have BG:=ag ((af xK).call hr hk hs);clear hr hk hs HC xK;have HC:=ag (kt (w.heap.size+2) [] true v7 (af BG).h ak);rw[Mc]at HC;go_wp2_with (fail);refine(af HC).mono ?_;rintro e v8 ⟨rfl,hr,hk,hs⟩;have BH:=ag ((af BG).call hr hk hs);clear hr hk hs HC BG;have HC:=ag (pR (w.heap.size+2) 4 [] true v8 (af BH).h ae ak);rw[abt]at HC;go_wp2_with (fail);refine(af HC).mono ?_;rintro e v9 ⟨rfl,hr,hk,hs⟩;have BI:=ag ((af BH).call hr hk hs);clear hr hk hs HC BH;have HC:=ag (pR (w.heap.size+2) 4 [] true v9 (af BI).h ae ak);rw[abt]at HC;go_wp2_with (fail);refine(af HC).mono ?_;rintro e v10 ⟨rfl,hr,hk,hs⟩;have nk:=ag ((af BI).call hr hk hs);clear hr hk hs HC BI;have Xn:=(af nk).size;have y0:=(af nk).z.cell 0 ak;have y1:=(af nk).z.cell 1 ak;have y2:=(af nk).z.cell 2 ak;have Pn:=(af nk).z.frozen;simp only[zl,dS,ej]at y0 y1 y2;have zn:=ag (((((af nk).z.set 0 (.string ⟨#[]⟩)).set 1 (.string ⟨#[]⟩)).set 2 (.string ⟨#[]⟩)).alloc (.cells #[.string (ah []),.string (ah []),.string ⟨#[]⟩] 307));have Kz:=ag (((((af nk).below.setCell (aL _) (p:=⟨w.heap.size,0,none⟩) (.string ⟨#[]⟩)).setCell (aL _) (p:=⟨w.heap.size,1,none⟩) (.string ⟨#[]⟩)).setCell (aL _) (p:=⟨w.heap.size,2,none⟩) (.string ⟨#[]⟩)).alloc (by simp[World.setCell];omega) (.cells #[.string (ah []),.string (ah []),.string ⟨#[]⟩] 307));clear nk;go_wp2;refine df (v:=.tuple #[.agg #[.string ⟨#[]⟩,.string ⟨#[]⟩,.string ⟨#[]⟩],.bool false]) ?_ rfl ?_;{have r0:((((v10.setCell ⟨w.heap.size,0,none⟩ (.string ⟨#[]⟩)).setCell ⟨w.heap.size,1,none⟩ (.string ⟨#[]⟩)).setCell ⟨w.heap.size,2,none⟩ (.string ⟨#[]⟩)).alloc (.cells #[.string (ah []),.string (ah []),.string ⟨#[]⟩] 307)).cell? ⟨w.heap.size,0,none⟩=some (.string ⟨#[]⟩):=(af zn).cell 0 ak;have r1:((((v10.setCell ⟨w.heap.size,0,none⟩ (.string ⟨#[]⟩)).setCell ⟨w.heap.size,1,none⟩ (.string ⟨#[]⟩)).setCell ⟨w.heap.size,2,none⟩ (.string ⟨#[]⟩)).alloc (.cells #[.string (ah []),.string (ah []),.string ⟨#[]⟩] 307)).cell? ⟨w.heap.size,1,none⟩=some (.string ⟨#[]⟩):=(af zn).cell 1 ak;have r2:((((v10.setCell ⟨w.heap.size,0,none⟩ (.string ⟨#[]⟩)).setCell ⟨w.heap.size,1,none⟩ (.string ⟨#[]⟩)).setCell ⟨w.heap.size,2,none⟩ (.string ⟨#[]⟩)).alloc (.cells #[.string (ah []),.string (ah []),.string ⟨#[]⟩] 307)).cell? ⟨w.heap.size,2,none⟩=some (.string ⟨#[]⟩):=(af zn).cell 2 ak;simp[results,results210,go_sem,r0,r1,r2]};{exact⟨rfl,af Kz⟩}
end Go.Proofs.YtkkpahmoljiepaaGreatDoor
