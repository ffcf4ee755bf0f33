import Derived.Test.YtkkpahmoljiepaaGreatDoorJ20
import Derived.Test.YtkkpahmoljiepaaGreatDoorJ21
import Derived.HandedShaped
import Derived.Lay
import Derived.Stop.Joined
import Derived.MakeChecks
set_option maxRecDepth 1000000
set_option maxHeartbeats 12800000
set_option linter.unusedSimpArgs false
set_option linter.unusedVariables false
namespace Go.Proofs.YtkkpahmoljiepaaGreatDoor
open Go.RowKit Go.Proofs.Tryz
def vQ(s:ah):Option (ah×List ai):=if s.length<=3000/\(il s).isSome=true then jl s else none
def NA(s:ah)(base:Nat)(e:Ending)(w':World):Prop :=
 match vQ s with
 | none=>e=.returned (.tuple #[.pointer none,aj 1])
 | some p=>kE p.1 p.2/\∃zb g cap,e=.returned (.tuple #[aM zb,aj 0])/\base<=zb/\base<=g/\iD w' zb p.1 g 0 cap (aN p.2)
def NB(s:ah)(base:Nat)(e:Ending)(w':World):Prop :=
 match vQ s with
 | none=>e=.returned (.pointer none)
 | some p=>∃zb,e=.returned (aM zb)/\base<=zb/\mM w' zb p.1 p.2
theorem axp{ls:List ah}{o:ah}{rs:List ai}(h:zk ls=some (o,rs))(hl:∀l∈ls,l.length<=3000):dr o=true/\(∀r∈rs,IA r)/\rs.length<=ls.length:=by
 cases ls with
 | nil=>cases h
 | cons f ls =>{
 have h':(if Lib.hasPrefix f kK && dr (Lib.trimPrefix f kK)then(iZ ls).map (fun rs=>(Lib.trimPrefix f kK,rs))else none)=some (o,rs):=h;split at h';{
 rename_i hc;cases ha:iZ ls with
 | none=>rw[ha]at h';cases h'
 | some rs' =>{rw[ha]at h';have e:=fq h';have e1:Lib.trimPrefix f kK=o:=dE Prod.fst e;have e2:rs'=rs:=dE Prod.snd e;subst e2;rw[cY,e1]at hc;refine⟨hc.2,Xt ls rs' (fun l hl'=>hl l (jY _ hl')) ha,?_⟩;rw[Q6 ls rs' ha];simp}};{cases h'}}
theorem aje{s:ah}(hl:s.length<=3000){o:ah}{rs:List ai}(h:jl s=some (o,rs)):dr o=true/\(∀r∈rs,IA r)/\rs.length<=3001:=by
 rcases sY s with rfl|⟨t,c,hs⟩;{rw[Q5 (fun t h=>by simp at h)]at h;cases h};{
 rw[sW]at hs;by_cases hc:c=10;{
 rw[hs,hc,aga]at h;have kL:t.length<=3000:=by rw[hs]at hl;simp at hl;omega
 obtain⟨h1,h2,h3⟩:=axp h (fun x hx=>by have:=qK 10 t.length t aA x hx;omega);refine⟨h1,h2,?_⟩;have:=pQ 10 t;have:t.length+1<=3000:=by rw[hs]at hl;simpa using hl
 omega};{rw[Q5 (fun t' h'=>by{rw[hs]at h';have:=dE List.getLast? h';simp at this;exact hc this})]at h;cases h}}
theorem axq{s:ah}(hl:s.length<=3000):∀o rs,jl s=some (o,rs)->A0 o rs:=fun o rs h=>by
 obtain⟨h1,h2,h3⟩:=aje hl h;refine⟨h3,by have:=(gU h1).2;omega,fun r hr=>⟨by have:=(Dq (h2 r hr).tY).2;omega,(h2 r hr).len⟩⟩
theorem ajf{s:ah}(hl:s.length<=3000){p:ah×List ai}(h:il s=some p):∃o rs,jl s=some (o,rs)/\p=(o,aN rs)/\kE o rs/\vQ s=some (o,rs):=by
 have h0:=h;unfold il at h;cases hr:jl s with
 | none=>rw[hr]at h;cases h
 | some x =>{obtain⟨o,rs⟩:=x;rw[hr]at h;have h':(if lL o rs && lO o (aN rs)then some (o,aN rs)else none)=some p:=h;split at h';{rename_i hc;rw[cY]at hc;obtain⟨h1,h2,_⟩:=aje hl hr;refine⟨o,rs,rfl,(fq h').symm,⟨h1,h2,hc.1,hc.2⟩,?_⟩;unfold vQ;rw[aJ ⟨hl,by rw[h0];rfl⟩,hr]};{cases h'}}
theorem ajg{s:ah}(h:il s=none):vQ s=none:=by unfold vQ;rw[aF (by rw[h];simp)]
theorem axr(s:ah)(w:World)(hl:3000<s.length) :
  aB 16 #[ay s] w fun e w'=>e=.returned (.tuple #[.pointer none,aj 1])/\w'=w:=by have hs:(aq s).size=s.length:=bJ s;have Pt:(3000:Int)<(s.length:Int):=ae;go_enter func16,ntmps16;go_wp2;go_ret2;exact⟨rfl,by first|rfl|trivial⟩
theorem axs(s:ah)(w:World)(hl:3000<s.length) :
  aB 17 #[ay s] w fun e w'=>e=.returned (.pointer none)/\w'=w:=by have hs:(aq s).size=s.length:=bJ s;have Pt:(3000:Int)<(s.length:Int):=ae;have hs1:¬(s.length:Int)<1:=ae;go_enter func17,ntmps17;go_wp2;go_ret;exact⟨rfl,by first|rfl|trivial⟩
theorem ajh(s:ah)(w:World)(hg:bK w):aB 16 #[ay s] w fun e w'=>NA s w.heap.size e w'/\au w w':=by
 by_cases hl:s.length<=3000;{
 refine(aoQ (aq s) w hg (by rw[bJ];exact hl) (by rw[tA];exact axq hl)).mono ?_;rintro e w' ⟨h,hb⟩;rw[tA]at h;refine⟨?_,hb⟩;unfold NA;cases hp:il s with
 | none=>rw[hp]at h;rw[ajg hp];exact h
 | some p =>{rw[hp]at h;obtain⟨o,rs,h1,rfl,h3,h4⟩:=ajf hl hp;rw[h4];exact⟨h3,h⟩}};{
 refine(axr s w ae).mono ?_;rintro e w' ⟨rfl,rfl⟩;have:vQ s=none:=by unfold vQ;rw[aF (fun h=>hl h.1)]
 refine⟨?_,bR _ _⟩;unfold NA;rw[this]}
theorem axt(s:ah)(w:World):aB 17 #[ay s] w fun e w'=>NB s w.heap.size e w'/\au w w':=by
 by_cases hl:s.length<=3000;{
 refine(att s w hl).mono ?_;rintro e w' ⟨h,hb⟩;refine⟨?_,hb⟩;unfold Jl at h;unfold NB;cases hp:il s with
 | none=>rw[hp]at h;rw[ajg hp];exact h
 | some p =>{rw[hp]at h;obtain⟨o,rs,h1,rfl,h3,h4⟩:=ajf hl hp;obtain⟨zb,o',rs',k1,k2,k3,_,k5,_⟩:=h;rw[h1]at k5;have e1:=fq k5;have e2:o=o':=dE Prod.fst e1;have e3:rs=rs':=dE Prod.snd e1;subst e2 e3;rw[h4];exact⟨zb,k1,k2,k3⟩}};{
 refine(axs s w ae).mono ?_;rintro e w' ⟨rfl,rfl⟩;have:vQ s=none:=by unfold vQ;rw[aF (fun h=>hl h.1)]
 refine⟨?_,bR _ _⟩;unfold NB;rw[this]}
section
open Go.Sort
def qG:ah:=[101,120,97,109,112,108,101,46,111,114,103]
def Sg:ah:=[111,114,105,103,105,110,32,101,120,97,109,112,108,101,46,111,114,103,10,101,120,97,109,112,108,101,46,111,114,103,32,51,48,48,32,83,79,65,32,110,115,46,101,120,97,109,112,108,101,46,111,114,103,32,97,100,109,105,110,46,101,120,97,109,112,108,101,46,111,114,103,32,55,32,54,48,10,101,120,97,109,112,108,101,46,111,114,103,32,51,48,48,32,78,83,32,110,115,46,101,120,97,109,112,108,101,46,111,114,103,10,110,115,46,101,120,97,109,112,108,101,46,111,114,103,32,51,48,48,32,65,32,49,57,50,46,48,46,50,46,49,10,119,119,119,46,101,120,97,109,112,108,101,46,111,114,103,32,54,48,32,67,78,65,77,69,32,119,101,98,46,101,120,97,109,112,108,101,46,111,114,103,10,119,101,98,46,101,120,97,109,112,108,101,46,111,114,103,32,54,48,32,65,32,49,57,50,46,48,46,50,46,56,48,10,42,46,119,105,108,100,46,101,120,97,109,112,108,101,46,111,114,103,32,54,48,32,84,88,84,32,104,105,10,115,117,98,46,101,120,97,109,112,108,101,46,111,114,103,32,51,48,48,32,78,83,32,110,115,46,115,117,98,46,101,120,97,109,112,108,101,46,111,114,103,10,110,115,46,115,117,98,46,101,120,97,109,112,108,101,46,111,114,103,32,51,48,48,32,65,32,49,57,50,46,48,46,50,46,57,10]
def qH:List ai:=[([101,120,97,109,112,108,101,46,111,114,103],300,6,[110,115,46,101,120,97,109,112,108,101,46,111,114,103,32,97,100,109,105,110,46,101,120,97,109,112,108,101,46,111,114,103,32,55,32,54,48]),([101,120,97,109,112,108,101,46,111,114,103],300,2,[110,115,46,101,120,97,109,112,108,101,46,111,114,103]),([110,115,46,101,120,97,109,112,108,101,46,111,114,103],300,1,[49,57,50,46,48,46,50,46,49]),([119,119,119,46,101,120,97,109,112,108,101,46,111,114,103],60,5,[119,101,98,46,101,120,97,109,112,108,101,46,111,114,103]),([119,101,98,46,101,120,97,109,112,108,101,46,111,114,103],60,1,[49,57,50,46,48,46,50,46,56,48]),([42,46,119,105,108,100,46,101,120,97,109,112,108,101,46,111,114,103],60,16,[104,105]),([115,117,98,46,101,120,97,109,112,108,101,46,111,114,103],300,2,[110,115,46,115,117,98,46,101,120,97,109,112,108,101,46,111,114,103]),([110,115,46,115,117,98,46,101,120,97,109,112,108,101,46,111,114,103],300,1,[49,57,50,46,48,46,50,46,57])]
def Zd:List ai:=[([42,46,119,105,108,100,46,101,120,97,109,112,108,101,46,111,114,103],60,16,[104,105]),([101,120,97,109,112,108,101,46,111,114,103],300,2,[110,115,46,101,120,97,109,112,108,101,46,111,114,103]),([101,120,97,109,112,108,101,46,111,114,103],300,6,[110,115,46,101,120,97,109,112,108,101,46,111,114,103,32,97,100,109,105,110,46,101,120,97,109,112,108,101,46,111,114,103,32,55,32,54,48]),([110,115,46,101,120,97,109,112,108,101,46,111,114,103],300,1,[49,57,50,46,48,46,50,46,49]),([110,115,46,115,117,98,46,101,120,97,109,112,108,101,46,111,114,103],300,1,[49,57,50,46,48,46,50,46,57]),([115,117,98,46,101,120,97,109,112,108,101,46,111,114,103],300,2,[110,115,46,115,117,98,46,101,120,97,109,112,108,101,46,111,114,103]),([119,101,98,46,101,120,97,109,112,108,101,46,111,114,103],60,1,[49,57,50,46,48,46,50,46,56,48]),([119,119,119,46,101,120,97,109,112,108,101,46,111,114,103],60,5,[119,101,98,46,101,120,97,109,112,108,101,46,111,114,103])]
def Ze:ai:=([119,101,98,46,101,120,97,109,112,108,101,46,111,114,103],60,1,[49,57,50,46,48,46,50,46,56,48])
theorem aji:jl Sg=some (qG,qH):=aI
theorem ajj:aN qH=Zd:=by unfold aN Sort.insertionSort;simp only[show qH.length=8 from rfl];rw[insOuter_go _ _ _ _ _ bD,insOuter_go _ _ _ _ _ bD,insOuter_go _ _ _ _ _ bD,insOuter_go _ _ _ _ _ bD,insOuter_go _ _ _ _ _ bD,insOuter_go _ _ _ _ _ bD,insOuter_go _ _ _ _ _ bD,insOuter_stop _ _ _ _ _ bD];kernel_rfl
theorem axu:lL qG qH=true:=aI
theorem axv:lO qG Zd=true:=aI
theorem axw:il Sg=some (qG,Zd):=by unfold il;rw[aji];show(if lL qG qH && lO qG (aN qH)then some (qG,aN qH)else none)=_;rw[ajj,axu,axv];rfl
theorem axx:vQ Sg=some (qG,qH):=by unfold vQ;rw[aJ ⟨Nat.le_of_ble_eq_true aI,by rw[axw];rfl⟩,aji]
end
theorem axy(h0 h1 h2 h3 h4 h5:Int)(q n:ah)(k c sz bM:Int)(w:World) :
  aB 138 #[eu h0 h1 h2 h3 h4 h5 q n k c true sz bM] w (bQ (aj (min (max sz 512) 1232)) w):=by unfold eu;go_enter func138,ntmps138;go_wp2;go_ret;refine⟨?_,aO.alloc aA _⟩;rfl
theorem axz(g cap:Nat)(I:World->Prop)(fs:List dU)(w:World)(hI:∀w',au w w'->I w')(hst:I8 w.heap.size (w.heap.size+1) I)(bq:∀f∈fs,f.yK w.heap.size (w.heap.size+1) I)(DZ:pF w.heap.size w g fs)
  (hn:fs.length<=cap) (hc:fs.length<=1000000) (hl:(eU fs [] []).1.length<=50000) (hp:(eU fs [] []).2.length<=20000) :
  aB 199 #[aD g 0 fs.length cap] w (bQ (ay (eU fs [] []).1) w):=by have hnew:=World.alloc_heap_new w (.cells #[.slice none 0 0,.slice none 0 0] 283);have dw:au w (w.alloc (.cells #[.slice none 0 0,.slice none 0 0] 283)):=aO.alloc aA _;have bI:=ag (WS w.heap.size (w.heap.size+1) g cap I fs [] [] (w.alloc (.cells #[.slice none 0 0,.slice none 0 0] 283)) (hI _ dw) hst ⟨_,_,hnew,ia _ _ _ _,ia _ _ _ _⟩ ar (fun p hp=>by cases hp) bq (DZ.tg (base:=w.heap.size+1) (bG.pE dw)) hn hc hl hp);clear hnew bq DZ hI hst dw;go_enter func199,ntmps199;go_wp2_with fail;refine bI.mono ?_;rintro e w2 ⟨rfl,⟨vb,vp,h1,h2,_⟩,h3⟩;have hc0:=h1.cells.1;have hcv:=L8 h2;have aX:Hid (au w w2):=(aO.alloc aA _).trans ⟨h3.os,h3.tape,h3.output,h3.size,fun k hk=>h3.block k aP ae (.inl ae)⟩;obtain⟨va,vn,vc,rfl⟩:=sO h2;clear h1 h2 h3 bI;go_wp2;go_ret;exact⟨rfl,aX⟩
def Hl(g:Nat)(x:UInt8):List dU:=[xn [],jJ (jT 41),jJ (jT 1232),jJ (oW x),jJ (nH [0,0,0]),QR g 0 []]
def y8(x:UInt8):ah:=[0,0,41,4,208,x,0,0,0,0,0]
theorem Zf(g:Nat)(x:UInt8):eU (Hl g x) [] []=(y8 x,[]):=by
 have e:cg ([]:ah) = []:=by first|rfl|simp[cg]|decide
 simp[eU,Hl,xn,e,gO,jJ,jT,oW,nH,QR,BR,BQ,ax,bO,y8]
theorem NC(g g2:Nat)(x:UInt8)(w:World)(hG:bK w)(hs:0<w.heap.size)(h1:w.heap[g]? = some (.cells #[.iface 291 (.string ⟨#[]⟩),.iface 284 (.int .u16 41),.iface 284 (.int .u16 1232),.iface 292 (.int .u8 x.toNat),.iface 224 (.string ⟨#[0,0,0]⟩),.iface 293 (.slice (some ⟨g2,0,none⟩) 0 0)] 297))(h2:w.heap[g2]? = some (.cells #[] 297)) :
  aB 199 #[aD g 0 6 6] w (bQ (ay (y8 x)) w):=by
 have hg:=(bV.1 h1).1;have hg2:=(bV.1 h2).1;have hst:I8 w.heap.size (w.heap.size+1) (fun W=>bK W/\pF w.heap.size W g2 []):=fun W W' h ht=>⟨h.1.tg ht ae hs,h.2.tg ht⟩;have:=axz g 6 (fun W=>bK W/\pF w.heap.size W g2 []) (Hl g2 x) w (fun W hb=>⟨hG.below hb,ae,⟨_,_,(hb.block g2 hg2).trans h2,bD,bD⟩,fun j hj=>by simp at hj⟩) hst (fun f hf=>?_) ⟨ae,⟨_,_,h1,bD,bD⟩,fun j hj=>?_⟩ (by simp[Hl]) (by simp[Hl]) (by rw[Zf];simp[y8]) (by rw[Zf];simp);{rw[Zf]at this;exact this};{simp only[Hl,ei,vX,tk]at hf;rcases hf with rfl|rfl|rfl|rfl|rfl|rfl;{exact I_ _ ar _ _ _ (fun _ h=>h.1) ae hs};{exact ru (BO _ ae) _ _ _};{exact ru (BO _ ae) _ _ _};{exact ru (I4 _) _ _ _};{exact ru (L6 _) _ _ _};{exact afz _ _ g2 0 _ [] hst (fun _ h=>h.2) (fun f hf=>by cases hf) ar ar}};{
 match j,hj with
 | 0,_=>unfold World.cell?; rw[h1];rfl
 | 1,_=>unfold World.cell?; rw[h1];rfl
 | 2,_=>unfold World.cell?; rw[h1];rfl
 | 3,_=>unfold World.cell?; rw[h1];rfl
 | 4,_=>unfold World.cell?; rw[h1];rfl
 | 5,_=>unfold World.cell?; rw[h1];rfl
 | j+6,hj=>simp[Hl]at hj;omega}
theorem axA(h0 h1 h2 h3 h4 h5:Int)(q n:ah)(k c sz bM:Int)(w:World)(hG:bK w) :
  aB 136 #[eu h0 h1 h2 h3 h4 h5 q n k c true sz bM,aj 0] w (bQ (ay (y8 0)) w):=by have hb1:∀o,au w (w.alloc o):=fun o=>aO.alloc aA _;have HG:Hid (∀W,au w W->bK W):=fun W hb=>hG.below hb;clear hG;unfold eu;go_enter func136,ntmps136;go_wp2_with fail;refine(NC (w.heap.size+1+1) (w.heap.size+1) 0 _ (HG _ (((hb1 _).alloc ar _).alloc eI _)) ar ?_ ?_).mono ?_;{have:=World.alloc_heap_new ((w.alloc (.cells #[.int .i64 h0,.int .i64 h1,.int .i64 h2,.int .i64 h3,.int .i64 h4,.int .i64 h5,.string (aq q),.string (aq n),.int .i64 k,.int .i64 c,.bool true,.int .i64 sz,.int .i64 bM] 137)).alloc (.cells #[] 297)) (.cells #[.iface 291 (.string ⟨#[]⟩),.iface 284 (.int .u16 41),.iface 284 (.int .u16 1232),.iface 292 (.int .u8 (0:UInt8).toNat),.iface 224 (.string ⟨#[0,0,0]⟩),.iface 293 (.slice (some ⟨w.heap.size+1,0,none⟩) 0 0)] 297);simp only[dD]at this;exact this};{have:=World.alloc_heap_new (w.alloc (.cells #[.int .i64 h0,.int .i64 h1,.int .i64 h2,.int .i64 h3,.int .i64 h4,.int .i64 h5,.string (aq q),.string (aq n),.int .i64 k,.int .i64 c,.bool true,.int .i64 sz,.int .i64 bM] 137)) (.cells #[] 297);simp only[dD]at this;exact(cD _ _ _ ar).trans this};rintro e w2 ⟨rfl,hb2⟩;have aX:Hid (au w w2):=(((hb1 _).alloc ar _).alloc eI _).trans (hb2.mono eI);clear hb2 hb1 HG;go_wp2;go_ret;exact⟨rfl,aX⟩
theorem axB(h0 h1 h2 h3 h4 h5:Int)(q n:ah)(k c sz bM:Int)(w:World)(hG:bK w) :
  aB 136 #[eu h0 h1 h2 h3 h4 h5 q n k c true sz bM,aj 2] w (bQ (ay (y8 0)) w):=by have hb1:∀o,au w (w.alloc o):=fun o=>aO.alloc aA _;have HG:Hid (∀W,au w W->bK W):=fun W hb=>hG.below hb;clear hG;unfold eu;go_enter func136,ntmps136;go_wp2_with fail;refine(NC (w.heap.size+1+1) (w.heap.size+1) 0 _ (HG _ (((hb1 _).alloc ar _).alloc eI _)) ar ?_ ?_).mono ?_;{have:=World.alloc_heap_new ((w.alloc (.cells #[.int .i64 h0,.int .i64 h1,.int .i64 h2,.int .i64 h3,.int .i64 h4,.int .i64 h5,.string (aq q),.string (aq n),.int .i64 k,.int .i64 c,.bool true,.int .i64 sz,.int .i64 bM] 137)).alloc (.cells #[] 297)) (.cells #[.iface 291 (.string ⟨#[]⟩),.iface 284 (.int .u16 41),.iface 284 (.int .u16 1232),.iface 292 (.int .u8 (0:UInt8).toNat),.iface 224 (.string ⟨#[0,0,0]⟩),.iface 293 (.slice (some ⟨w.heap.size+1,0,none⟩) 0 0)] 297);simp only[dD]at this;exact this};{have:=World.alloc_heap_new (w.alloc (.cells #[.int .i64 h0,.int .i64 h1,.int .i64 h2,.int .i64 h3,.int .i64 h4,.int .i64 h5,.string (aq q),.string (aq n),.int .i64 k,.int .i64 c,.bool true,.int .i64 sz,.int .i64 bM] 137)) (.cells #[] 297);simp only[dD]at this;exact(cD _ _ _ ar).trans this};rintro e w2 ⟨rfl,hb2⟩;have aX:Hid (au w w2):=(((hb1 _).alloc ar _).alloc eI _).trans (hb2.mono eI);clear hb2 hb1 HG;go_wp2;go_ret;exact⟨rfl,aX⟩
theorem axC(h0 h1 h2 h3 h4 h5:Int)(q n:ah)(k c sz bM:Int)(w:World)(hG:bK w) :
  aB 136 #[eu h0 h1 h2 h3 h4 h5 q n k c true sz bM,aj 3] w (bQ (ay (y8 0)) w):=by have hb1:∀o,au w (w.alloc o):=fun o=>aO.alloc aA _;have HG:Hid (∀W,au w W->bK W):=fun W hb=>hG.below hb;clear hG;unfold eu;go_enter func136,ntmps136;go_wp2_with fail;refine(NC (w.heap.size+1+1) (w.heap.size+1) 0 _ (HG _ (((hb1 _).alloc ar _).alloc eI _)) ar ?_ ?_).mono ?_;{have:=World.alloc_heap_new ((w.alloc (.cells #[.int .i64 h0,.int .i64 h1,.int .i64 h2,.int .i64 h3,.int .i64 h4,.int .i64 h5,.string (aq q),.string (aq n),.int .i64 k,.int .i64 c,.bool true,.int .i64 sz,.int .i64 bM] 137)).alloc (.cells #[] 297)) (.cells #[.iface 291 (.string ⟨#[]⟩),.iface 284 (.int .u16 41),.iface 284 (.int .u16 1232),.iface 292 (.int .u8 (0:UInt8).toNat),.iface 224 (.string ⟨#[0,0,0]⟩),.iface 293 (.slice (some ⟨w.heap.size+1,0,none⟩) 0 0)] 297);simp only[dD]at this;exact this};{have:=World.alloc_heap_new (w.alloc (.cells #[.int .i64 h0,.int .i64 h1,.int .i64 h2,.int .i64 h3,.int .i64 h4,.int .i64 h5,.string (aq q),.string (aq n),.int .i64 k,.int .i64 c,.bool true,.int .i64 sz,.int .i64 bM] 137)) (.cells #[] 297);simp only[dD]at this;exact(cD _ _ _ ar).trans this};rintro e w2 ⟨rfl,hb2⟩;have aX:Hid (au w w2):=(((hb1 _).alloc ar _).alloc eI _).trans (hb2.mono eI);clear hb2 hb1 HG;go_wp2;go_ret;exact⟨rfl,aX⟩
theorem axD(h0 h1 h2 h3 h4 h5:Int)(q n:ah)(k c sz bM:Int)(w:World)(hG:bK w) :
  aB 136 #[eu h0 h1 h2 h3 h4 h5 q n k c true sz bM,aj 5] w (bQ (ay (y8 0)) w):=by have hb1:∀o,au w (w.alloc o):=fun o=>aO.alloc aA _;have HG:Hid (∀W,au w W->bK W):=fun W hb=>hG.below hb;clear hG;unfold eu;go_enter func136,ntmps136;go_wp2_with fail;refine(NC (w.heap.size+1+1) (w.heap.size+1) 0 _ (HG _ (((hb1 _).alloc ar _).alloc eI _)) ar ?_ ?_).mono ?_;{have:=World.alloc_heap_new ((w.alloc (.cells #[.int .i64 h0,.int .i64 h1,.int .i64 h2,.int .i64 h3,.int .i64 h4,.int .i64 h5,.string (aq q),.string (aq n),.int .i64 k,.int .i64 c,.bool true,.int .i64 sz,.int .i64 bM] 137)).alloc (.cells #[] 297)) (.cells #[.iface 291 (.string ⟨#[]⟩),.iface 284 (.int .u16 41),.iface 284 (.int .u16 1232),.iface 292 (.int .u8 (0:UInt8).toNat),.iface 224 (.string ⟨#[0,0,0]⟩),.iface 293 (.slice (some ⟨w.heap.size+1,0,none⟩) 0 0)] 297);simp only[dD]at this;exact this};{have:=World.alloc_heap_new (w.alloc (.cells #[.int .i64 h0,.int .i64 h1,.int .i64 h2,.int .i64 h3,.int .i64 h4,.int .i64 h5,.string (aq q),.string (aq n),.int .i64 k,.int .i64 c,.bool true,.int .i64 sz,.int .i64 bM] 137)) (.cells #[] 297);simp only[dD]at this;exact(cD _ _ _ ar).trans this};rintro e w2 ⟨rfl,hb2⟩;have aX:Hid (au w w2):=(((hb1 _).alloc ar _).alloc eI _).trans (hb2.mono eI);clear hb2 hb1 HG;go_wp2;go_ret;exact⟨rfl,aX⟩
theorem axE(h0 h1 h2 h3 h4 h5:Int)(q n:ah)(k c sz bM:Int)(w:World)(hG:bK w) :
  aB 136 #[eu h0 h1 h2 h3 h4 h5 q n k c true sz bM,aj 16] w (bQ (ay (y8 1)) w):=by have hb1:∀o,au w (w.alloc o):=fun o=>aO.alloc aA _;have HG:Hid (∀W,au w W->bK W):=fun W hb=>hG.below hb;clear hG;unfold eu;go_enter func136,ntmps136;go_wp2_with fail;refine(NC (w.heap.size+1+1) (w.heap.size+1) 1 _ (HG _ (((hb1 _).alloc ar _).alloc eI _)) ar ?_ ?_).mono ?_;{have:=World.alloc_heap_new ((w.alloc (.cells #[.int .i64 h0,.int .i64 h1,.int .i64 h2,.int .i64 h3,.int .i64 h4,.int .i64 h5,.string (aq q),.string (aq n),.int .i64 k,.int .i64 c,.bool true,.int .i64 sz,.int .i64 bM] 137)).alloc (.cells #[] 297)) (.cells #[.iface 291 (.string ⟨#[]⟩),.iface 284 (.int .u16 41),.iface 284 (.int .u16 1232),.iface 292 (.int .u8 (1:UInt8).toNat),.iface 224 (.string ⟨#[0,0,0]⟩),.iface 293 (.slice (some ⟨w.heap.size+1,0,none⟩) 0 0)] 297);simp only[dD]at this;exact this};{have:=World.alloc_heap_new (w.alloc (.cells #[.int .i64 h0,.int .i64 h1,.int .i64 h2,.int .i64 h3,.int .i64 h4,.int .i64 h5,.string (aq q),.string (aq n),.int .i64 k,.int .i64 c,.bool true,.int .i64 sz,.int .i64 bM] 137)) (.cells #[] 297);simp only[dD]at this;exact(cD _ _ _ ar).trans this};rintro e w2 ⟨rfl,hb2⟩;have aX:Hid (au w w2):=(((hb1 _).alloc ar _).alloc eI _).trans (hb2.mono eI);clear hb2 hb1 HG;go_wp2;go_ret;exact⟨rfl,aX⟩
theorem Sh{size:Int}{aK:ai->List dU}{i:Nat} : ∀(gs:List (List ai)) (st:lG),(iJ size aK i gs st).cs.length=st.cs.length
 | [],_=>rfl
 | g :: gs,st=>by unfold iJ;split;{rfl};{split;{rfl};{rw[Sh gs];simp}}
theorem ajk{size:Int}{aK:ai->List dU}{i:Nat} : ∀(gs:List (List ai)) (st:lG) (K:Nat),(∀c∈st.cs,c<=K)->∀c∈(iJ size aK i gs st).cs,c<=K+(gs.map (·.length)).sum
 | [],_,_,h=>fun c hc=>a_ (h c hc) (CD _ _)
 | g :: gs,st,K,h=>by unfold iJ;split;{exact fun c hc=>a_ (h c hc) (CD _ _)};{split;{exact fun c hc=>a_ (h c hc) (CD _ _)};{intro c hc;have:=ajk gs _ (K+g.length) (fun c hc=>by{rcases SQ hc with hc|hc;{have:=h c hc;omega};{rw[hc,mU];by_cases ax:i<st.cs.length;{rw[iw ax];have:=h _ (cM ax);simp only[S9];omega};{rw[SJ ae];simp}}}) c hc;simp only[jL,J8];omega}}
theorem ajl{size:Int}{aK:ai->List dU}{i:Nat} : ∀(gs:List (List ai)) (st:lG) (M:Nat),(∀g∈gs,∀r∈g,pH r (aK r))->size<=M->st.S.1.length<=M->st.S.1.length<=(iJ size aK i gs st).S.1.length/\(iJ size aK i gs st).S.1.length<=M
 | [],_,_,_,_,h=>⟨bH _,h⟩
 | g :: gs,st,M,hg,hs,h=>by unfold iJ;split;{exact⟨bH _,h⟩};{split;{exact⟨bH _,h⟩};{rename_i h1 h2;have hm:=(Jb aK g (hg g ar) st.S.1 st.S.2).1;have:=ajl (size:=size) (aK:=aK) (i:=i) gs { st with S:=cH aK g st.S.1 st.S.2,cs:=st.cs.set i (st.cs.getD i 0+g.length) } M (fun x hx=>hg x (by simp[hx])) hs (by show(cH aK g st.S.1 st.S.2).1.length<=M;omega);exact⟨a_ hm this.1,this.2⟩}}
theorem axF(l:List ai):(((bz bu l).map (·.2)).map (·.length)).sum<=l.length:=by have h:=XF l (bz bu l).length;unfold nj at h;rw[gV,List.length_flatMap]at h;rw[kY];exact h
theorem ajm{size:Int}{aK:ai->List dU} : ∀(i:Nat) (ls:List (List ai)) (st:lG),(mr size aK i ls st).cs.length=st.cs.length
 | _,[],_=>rfl
 | i,l :: ls,st=>by unfold mr;rw[ajm (i+1) ls,Sh]
theorem ajn{size:Int}{aK:ai->List dU} : ∀(i:Nat) (ls:List (List ai)) (st:lG) (K:Nat),(∀c∈st.cs,c<=K)->∀c∈(mr size aK i ls st).cs,c<=K+(ls.map (·.length)).sum
 | _,[],_,_,h=>fun c hc=>a_ (h c hc) (CD _ _)
 | i,l :: ls,st,K,h=>by unfold mr;intro c hc;have:=ajn (i+1) ls _ _ (ajk _ st K h) c hc;have h2:=axF l;simp only[jL,J8];omega
theorem ajo{size:Int}{aK:ai->List dU} : ∀(i:Nat) (ls:List (List ai)) (st:lG) (M:Nat),(∀l∈ls,∀r∈l,pH r (aK r))->size<=M->st.S.1.length<=M->st.S.1.length<=(mr size aK i ls st).S.1.length/\(mr size aK i ls st).S.1.length<=M
 | _,[],_,_,_,_,h=>⟨bH _,h⟩
 | i,l :: ls,st,M,hg,hs,h=>by unfold mr;have h1:=ajl (size:=size) (aK:=aK) (i:=i) ((bz bu l).map (·.2)) st M (fun g pq r hr=>by{obtain⟨x,hx,rfl⟩:=jZ.1 pq;exact hg l ar r (XG hx hr)}) hs h;have h2:=ajo (i+1) ls _ M (fun x hx=>hg x (by simp[hx])) hs h1.2;exact⟨a_ h1.1 h2.1,h2.2⟩
def Ar(op:Bool)(sz:Int):Int:=if op=true then min (max sz 512) 1232 else 512
def Au(op:Bool)(rc:Int):ah:=if op=true then y8 (UInt8.ofNat (rc.toNat/16))else []
def EG(op:Bool)(sz rc:Int)(q n:ah)(an ns ad:List ai):lG:=mr (Ar op sz - ((Au op rc).length:Int)) cX 0 [an,ns,ad] ⟨(List.replicate 12 0++q,iI 12 n),[0,0,0],false⟩
def JM(F:lG)(an ns:List ai):Bool:=decide (((F.cs.getD 0 0:Nat):Int)<(an.length:Int)) || decide (((F.cs.getD 1 0:Nat):Int)<(ns.length:Int))
def Zg(b:Nat)(rc:Int)(bw tc:Bool):Int:=vH (vH (vw b rc) 1024 bw) 512 tc
def Hm(id b:Nat)(op bw:Bool)(sz rc:Int)(q n:ah)(an ns ad:List ai):ah :=
 ew (iu id (Zg b rc bw (JM (EG op sz rc q n an ns ad) an ns)).toNat 1 ((EG op sz rc q n an ns ad).cs.getD 0 0) ((EG op sz rc q n an ns ad).cs.getD 1 0) (cond op ((EG op sz rc q n an ns ad).cs.getD 2 0+1) ((EG op sz rc q n an ns ad).cs.getD 2 0)))++((EG op sz rc q n an ns ad).S.1++Au op rc).drop 12
theorem axG(h0 h1 h2 h3 h4 h5:Int)(q n:ah)(k c sz bM rc:Int)(op:Bool)(w:World)(hg:bK w)(qy:rc=0\/rc=2\/rc=3\/rc=5\/rc=16) :
  aB 136 #[eu h0 h1 h2 h3 h4 h5 q n k c op sz bM,aj rc] w (bQ (ay (Au op rc)) w):=by
 cases op with
 | false=>exact arc h0 h1 h2 h3 h4 h5 q n k c sz bM rc w
 | true =>{rcases qy with rfl|rfl|rfl|rfl|rfl;{exact axA h0 h1 h2 h3 h4 h5 q n k c sz bM w hg};{exact axB h0 h1 h2 h3 h4 h5 q n k c sz bM w hg};{exact axC h0 h1 h2 h3 h4 h5 q n k c sz bM w hg};{exact axD h0 h1 h2 h3 h4 h5 q n k c sz bM w hg};{exact axE h0 h1 h2 h3 h4 h5 q n k c sz bM w hg}}
theorem axH(h0 h1 h2 h3 h4 h5:Int)(q n:ah)(k c sz bM:Int)(op:Bool)(w:World) :
  aB 138 #[eu h0 h1 h2 h3 h4 h5 q n k c op sz bM] w (bQ (aj (Ar op sz)) w):=by
 cases op with
 | false=>exact arb h0 h1 h2 h3 h4 h5 q n k c sz bM w
 | true=>exact axy h0 h1 h2 h3 h4 h5 q n k c sz bM w
theorem Zh{w:World}{v:Value}{rs:List ai}(h:jm w v rs)(hg:bK w):∃a c b off,v=.slice a rs.length c/\HL v b off rs/\dG w b off rs:=by rcases h with⟨rfl,rfl⟩|⟨b,off,cap,rfl,hc,hr⟩;{exact⟨none,0,0,0,rfl,.inl ⟨rfl,rfl⟩,hg.1,fun j hj=>by simp at hj⟩};{exact⟨_,_,b,off,rfl,.inr ⟨cap,rfl,hc⟩,hr⟩}
theorem axI{l:List Nat}(h:l.length=3):l = [l.getD 0 0,l.getD 1 0,l.getD 2 0]:=by
 match l,h with
 | [a,b,c],_=>rfl
def ND(l:List ai):Prop:=∀x∈bz bu l,∀(s:ah) (ps:cI),iH ps->s.length<=1300->ps.length<=s.length+300->(cH cX x.2 s ps).1.length<=50000/\(cH cX x.2 s ps).2.length<=20000/\(cH cX x.2 s ps).2.length<=(cH cX x.2 s ps).1.length+300
structure JN(l:List ai):Prop where
 rr:∀r∈l,pH r (cX r)
 set:ND l
 len:l.length<=1000
theorem axJ(id b b1:Nat)(h2 h3 h4 h5 k kc:Int)(q n:ah)(op bw:Bool)(sz bM rc:Int)(an ns ad:List ai)(va vb vd:Value)(w:World)(hg:bK w)(Jn:id<65536)
  (ra:jm w va an) (rb:jm w vb ns) (rd:jm w vd ad) (oa:JN an) (ob:JN ns) (od:JN ad) (hn:n.length<=300) (hq:q.length<=300) (hpl:(iI 12 n).length<=300)
  (qy:rc=0\/rc=2\/rc=3\/rc=5\/rc=16) (hT:vH (vw b rc) 1024 bw=(b1:Int)) (hb1:b1<65536) (uh:∀tc,∃b2:Nat,vH b1 512 tc=(b2:Int)/\b2<65536) :
  aB 73 #[eu id b h2 h3 h4 h5 q n k kc op sz bM,.agg #[aj rc,.bool bw,va,vb,vd]] w (bQ (ay (Hm id b op bw sz rc q n an ns ad)) w):=by
 obtain⟨aa,ca,ba,axK,rfl,la,ka⟩:=Zh ra hg;obtain⟨ab,cb,bb,ob',rfl,lb,kb⟩:=Zh rb hg;obtain⟨ac,cc,bd,axL,rfl,ld,kd⟩:=Zh rd hg;have aB6:(Au op rc).length<=11:=by unfold Au;split <;> simp[y8]
 have Td:Ar op sz<=1232/\512<=Ar op sz:=by unfold Ar;split <;> omega
 have ug:((List.replicate 12 0++q,iI 12 n):ah×cI).1.length=12+q.length:=by rw[bj,aj7]
 obtain⟨F,hF⟩:∃F,EG op sz rc q n an ns ad=F:=⟨_,rfl⟩;have axM:F.cs.length=3:=by rw[<- hF];exact ajm _ _ _
 have axN:∀c∈F.cs,c<=3000:=fun c hc=>by{rw[<- hF]at hc;have:=ajn 0 [an,ns,ad] _ 0 (fun c hc=>by simp at hc;omega) c hc;have h1:=oa.len;have h2:=ob.len;have h3:=od.len;simp only[jL,rI,J8,List.sum_nil]at this;omega};have aB7:12+q.length<=F.S.1.length/\F.S.1.length<=1300:=by{rw[<- hF,<- ug];exact ajo 0 [an,ns,ad] ⟨(List.replicate 12 0++q,iI 12 n),[0,0,0],false⟩ 1300 (fun l hl r hr=>by{simp only[ei,vX,tk]at hl;rcases hl with rfl|rfl|rfl;{exact oa.rr r hr};{exact ob.rr r hr};{exact od.rr r hr}}) ae (by rw[ug];omega)};have mE:∀i,F.cs.getD i 0<=3000:=fun i=>by{rw[mU];by_cases ax:i<F.cs.length;{rw[iw ax];exact axN _ (cM ax)};{rw[SJ ae];simp}};obtain⟨b2,hb2,axO⟩:=uh (JM F an ns);have axP:=axI axM;have QI:Hm id b op bw sz rc q n an ns ad=ew (iu id b2 1 (F.cs.getD 0 0) (F.cs.getD 1 0) (cond op (F.cs.getD 2 0+1) (F.cs.getD 2 0)))++(F.S.1++Au op rc).drop 12:=by{unfold Hm Zg;rw[hF,hT,hb2];rfl};rw[QI];have g0:=mE 0;have g1:=mE 1;have g2:=mE 2;refine aud id b1 b2 an.length ns.length ad.length (F.cs.getD 0 0) (F.cs.getD 1 0) (F.cs.getD 2 0) ca cb cc aa ab ac b h2 h3 h4 h5 k kc rc q n sz bM (Ar op sz) (Au op rc) F.S w hg ae ae ae op bw _ rfl Jn hb1 hT ae hq (JM F an ns) rfl hb2 axO ?_ (fun W hW=>axG _ _ _ _ _ _ _ _ _ _ _ _ _ _ W hW qy) (fun W=>axH _ _ _ _ _ _ _ _ _ _ _ _ _ W) ae ae ae ae ae;intro W mb base axQ eJ FC bX aB8 axR hcell hne;have hw0:=hg.1;have hf:=auw mb base axQ (Ar op sz - ((Au op rc).length:Int)) cX (.slice aa an.length ca) (.slice ab ns.length cb) (.slice ac ad.length cc) an ns ad (List.replicate 12 0++q,iI 12 n) W axR (aub n ae) (hg.below eJ) bX ae ae hcell hne (fun i ax=>by{
 have l1:=oa.len;have l2:=ob.len;have l3:=od.len;match i,ax with
 | 0,_=>exact⟨aa,_,ca,an,ba,axK,rfl,rfl,la,ka.below eJ,dP ka.1 FC,by have:=ka.1;omega,ae,oa.rr,rfl,oa.set⟩
 | 1,_=>exact⟨ab,_,cb,ns,bb,ob',rfl,rfl,lb,kb.below eJ,dP kb.1 FC,by have:=kb.1;omega,ae,ob.rr,rfl,ob.set⟩
 | 2,_=>exact⟨ac,_,cc,ad,bd,axL,rfl,rfl,ld,kd.below eJ,dP kd.1 FC,by have:=kd.1;omega,ae,od.rr,rfl,od.set⟩}) ae (by rw[ug];omega) (by rw[ug];show(iI 12 n).length<=_;omega)
 rw[show mr (Ar op sz - ((Au op rc).length:Int)) cX 0 [an,ns,ad] ⟨(List.replicate 12 0++q,iI 12 n),[0,0,0],false⟩=F from hF]at hf;refine hf.mono ?_;rintro e w' ⟨rfl,mX,hm,ht⟩;refine⟨rfl,?_,hm,ht⟩;rw[axP]at mX;exact mX
theorem Zi(a b:Nat)(ha:a<9223372036854775808)(hb:b<9223372036854775808):bits .and .i64 (a:Int) (b:Int)=((a &&& b:Nat):Int):=by have hx:a &&& b<2 ^ 63:=ER Nat.and_le_left ae;show IntKind.i64.wrap ((BitVec.ofInt 64 (a:Int) &&& BitVec.ofInt 64 (b:Int)).toNat:Int)=_;rw[BitVec.toNat_and,ofInt_u64 a ae,ofInt_u64 b ae];generalize a &&& b=x at *;rw[fF];first|omega|(unfold wrap64;omega)
def vR(b rc:Nat):Nat:=(32768 ||| (b &&& 30976)) ||| (rc &&& 15)
theorem JO(b rc:Nat):vR b rc<65536:=by have h1:b &&& 30976<2 ^ 16:=ER NX ae;have h2:rc &&& 15<2 ^ 16:=ER NX ae;exact J_ (J_ ae h1) h2
theorem Si(b rc:Nat)(hb:b<65536)(hr:rc<65536):vw (b:Int) (rc:Int)=(vR b rc:Int):=by
 have h1:b &&& 30976<2 ^ 16:=ER NX ae;have h2:rc &&& 15<2 ^ 16:=ER NX ae;have h3:32768 ||| (b &&& 30976)<2 ^ 16:=J_ ae h1
 unfold vw;rw[show bits .and .i64 (b:Int) 30976=((b &&& 30976:Nat):Int)from Zi b 30976 ae ae,show bits .and .i64 (rc:Int) 15=((rc &&& 15:Nat):Int)from Zi rc 15 ae ae];rw[show bits .or .i64 32768 ((b &&& 30976:Nat):Int)=((32768 ||| (b &&& 30976):Nat):Int)from KO 32768 _ ae ae];exact KO _ _ ae ae
def xH(x m:Nat)(b:Bool):Nat:=if b=true then x ||| m else x
theorem Zj{x m:Nat}{b:Bool}(hx:x<65536)(hm:m<65536):xH x m b<65536:=by unfold xH;split;{exact J_ (n:=16) ae ae};{exact hx}
theorem Sj(x m:Nat)(b:Bool)(hx:x<65536)(hm:m<65536):vH (x:Int) (m:Int) b=(xH x m b:Int):=by unfold vH xH;split;{exact KO x m ae ae};{rfl}
theorem Zk(s:ah)(i:Nat):bp s i<65536:=by have h1:=kZ (s.getD i 0);have h2:=kZ (s.getD (i+1) 0);unfold bp;omega
theorem axS{m:ah}(h:12<=m.length):Gd m=([bp m 0,bp m 2,bp m 4,bp m 6,bp m 8,bp m 10],true):=by
 match m,h with
 | a0 :: a1 :: a2 :: a3 :: a4 :: a5 :: a6 :: a7 :: a8 :: a9 :: a10 :: a11 :: r,_ =>{simp only[Gd,oy,Hi,bp,List.getD_cons_zero,List.getD_cons_succ,Bool.not_false,CE]}
theorem ajp:∀(k:Nat) (s:ah) (br:Bool),s.length<2*k->(oy k s br).2.2=true
 | 0,_,_,h=>by omega
 | k+1,s,br,h=>by
  show(oy k (dI s br).2.1 (dI s br).2.2).2.2=true
  match s,h with
  | [],_=>
   have hb:∀k s,(oy k s true).2.2=true:=by
    intro k;induction k with
    | zero=>intro s;rfl
    | succ k ih=>intro s;show(oy k _ (dI s true).2.2).2.2=true;rw[ai_];exact ih _
   exact hb k _
  | [a],_ =>
   have hb:∀k s,(oy k s true).2.2=true:=by
    intro k;induction k with
    | zero=>intro s;rfl
    | succ k ih=>intro s;show(oy k _ (dI s true).2.2).2.2=true;rw[ai_];exact ih _
   exact hb k _
  | a :: b :: s,h=>exact ajp k s br (by simp only[bP]at h;omega)
theorem axT{m:ah}(h:m.length<12):∃a b c d e f:Nat,Gd m=([a,b,c,d,e,f],false):=by have h1:=ajp 6 m false ae;refine⟨_,_,_,_,_,_,Hu rfl ?_⟩;show(!(oy 6 m false).2.2)=false;rw[h1];rfl
def Sl(k:Int):Prop:=k=0\/k=2\/k=3\/k=5\/k=16
theorem ajq(o:ah)(rs:List ai)(t:Int)(first aa:Bool)(ans:List ai)(n:ah):Sl (eo o (aN rs) t first aa ans n).1:=by
 unfold eo;split;{
 cases first
 {exact .inl rfl};{exact .inr (.inr (.inr (.inl rfl)))}};{
 split;{exact .inl rfl};{
 split;{split;{exact .inr (.inl rfl)};{exact .inl rfl}};{
 show Sl (lN o (aN rs) n);unfold lN;repeat' split
 all_goals first|exact .inl rfl|exact .inr (.inr (.inl rfl))|exact .inr (.inl rfl)|exact .inr (.inr (.inr (.inl rfl)))}}}
theorem ajr(o:ah)(rs:List ai)(t:Int):∀(f:Nat) (first aa:Bool) (ans:List ai) (n:ah),Sl (je o (aN rs) t f first aa ans n).1
 | 0,first,aa,ans,n=>ajq o rs t first aa ans n
 | f+1,first,aa,ans,n=>by
  have h:=ajq o rs t first aa ans n
  unfold je;generalize eo o (aN rs) t first aa ans n=q at h
  obtain⟨rc,jd,ou,bS,nx⟩:=q;cases nx with
  | none=>exact h
  | some d=>exact ajr o rs t f false jd ou d
theorem axU(o:ah)(rs:List ai)(n:ah)(k c:Int)(op:Bool)(aU:Int):Sl (dC o rs n k c op aU).1.1:=by unfold dC;split;{exact .inr (.inr (.inr (.inr rfl)))};{split;{exact .inr (.inr (.inr (.inl rfl)))};{exact ajr o rs k 9 true false [] n}}
theorem axV{m q:ah}{ls:List ah}{ty cl:Nat}{op:Bool}{sz aU:Nat}(h:fo m=some (q,ls,ty,cl,op,sz,aU)):bp m 4=1/\bp m 6=0/\bp m 8=0/\bp m 10=if op=true then 1 else 0:=by unfold fo at h;split at h;{cases h};{rename_i hc;have hc':bp m 4=1/\bp m 6=0/\bp m 8=0/\bp m 10<=1:=ae;refine⟨hc'.1,hc'.2.1,hc'.2.2.1,?_⟩;split at h;{cases h};{split at h;{cases h};{split at h;{rename_i h0;split at h;{have:=fq h;simp only[Hv]at this;rw[<- this.2.2.2.2.1,h0];rfl};{cases h}};{rename_i h0;split at h;{cases h};{have:=fq h;simp only[Hv]at this;rw[<- this.2.2.2.2.1];show bp m 10=1;omega}}}}}
def xI(o:ah)(rs:List ai)(m R:ah):Prop :=
 if m.length<12\/bp m 2 &&& 32768≠0 then R = []
 else if bp m 2 &&& 30720≠0 then R=ew (iu (bp m 0) (vR (bp m 2) 4) 0 0 0 0)
 else match fo m with
  | none=>R=ew (iu (bp m 0) (vR (bp m 2) 1) 0 0 0 0)
  | some (q,ls,ty,cl,op,sz,aU)=>R=Hm (bp m 0) (bp m 2) op (dC o rs (bh ls) ty cl op aU).1.2.1 sz (dC o rs (bh ls) ty cl op aU).1.1 q (bh ls) (dC o rs (bh ls) ty cl op aU).1.2.2.1 (dC o rs (bh ls) ty cl op aU).1.2.2.2 (dC o rs (bh ls) ty cl op aU).2
def ajs(o:ah)(rs:List ai)(m:ah):Prop:=∀q ls ty cl op sz aU,fo m=some (q,ls,ty,cl,op,sz,aU)->ND (dC o rs (bh ls) ty cl op aU).1.2.2.1/\ND (dC o rs (bh ls) ty cl op aU).1.2.2.2/\ND (dC o rs (bh ls) ty cl op aU).2/\(iI 12 (bh ls)).length<=300
theorem ajt(b k:Nat)(hb:b<65536)(hk:k<65536):(bits .and .i64 (b:Int) (k:Int) != 0)=decide (b &&& k≠0):=by rw[Zi b k ae ae];by_cases h:b &&& k=0;{rw[h];rfl};{rw[iy h];simp only[qJ,ne_eq];omega}
theorem Zl(zb b off cap:Nat)(o m:ah)(rs:List ai)(w:World)(bq:kE o rs)(hz:iD w zb o b off cap (aN rs))(hg:bK w)(hl:m.length<=2000000)(Cn:ajs o rs m) :
  aB 27 #[aM zb,.string (aq m)] w fun e w'=>(∃R,e=.returned (.string (aq R))/\xI o rs m R)/\au w w':=by
 have hh:=aq2 m w ae;by_cases vI:m.length<12;{obtain⟨i,b',c0,aC,c2,c3,he⟩:=axT vI;rw[he]at hh;refine(ai3 (aM zb) m i b' c0 aC c2 c3 false w (.inl rfl) hh).mono ?_;rintro e w' ⟨rfl,hb⟩;exact⟨⟨[],rfl,by unfold xI;rw[aJ (.inl vI)]⟩,hb⟩};rw[axS ae]at hh;have hb1:=Zk m 2;have ax:=Zk m 0;have n1:=ajt (bp m 2) 32768 hb1 ae;have n2:=ajt (bp m 2) 30720 hb1 ae;by_cases h1:bp m 2 &&& 32768≠0;{rw[iy h1]at n1;refine(ai3 (aM zb) m _ _ _ _ _ _ true w (.inr ⟨rfl,n1⟩) hh).mono ?_;rintro e w' ⟨rfl,hb⟩;exact⟨⟨[],rfl,by unfold xI;rw[aJ (.inr h1)]⟩,hb⟩};rw[iB h1]at n1;have Bj:¬(m.length<12\/bp m 2 &&& 32768≠0):=fun h=>h.elim vI h1;by_cases h2:bp m 2 &&& 30720≠0;{rw[iy h2]at n2;refine(aw2 (aM zb) m (bp m 0) (bp m 2) (vR (bp m 2) 4) _ _ _ _ w ax (JO _ _) (Si _ 4 hb1 ae) n1 n2 hh).mono ?_;rintro e w' ⟨rfl,hb⟩;exact⟨⟨_,rfl,by unfold xI;rw[aF Bj,aJ h2]⟩,hb⟩};rw[iB h2]at n2;have hq:=fun W=>axi m (bp m 0) (bp m 2) W ae ae;cases Hn:fo m with
 | none =>{refine(aw3 (aM zb) m (bp m 0) (bp m 2) (vR (bp m 2) 1) _ _ _ _ w ax (JO _ _) (Si _ 1 hb1 ae) n1 n2 hh (fun W=>(hq W).mono ?_)).mono ?_;{rintro e w' ⟨h,hb⟩;unfold Hj at h;rw[Hn]at h;exact⟨h,hb⟩};{rintro e w' ⟨rfl,hb⟩;exact⟨⟨_,rfl,by unfold xI;rw[aF Bj,aF h2,Hn]⟩,hb⟩}}
 | some Q =>{obtain⟨q,ls,ty,cl,op,sz,aU⟩:=Q;obtain⟨k1,k2,k3,k4⟩:=axV Hn;obtain⟨o1,o2,o3,o4,aB9,aB_,aCa,_⟩:=Nr Hn;obtain⟨s1,s2,s3,s4⟩:=Cn q ls ty cl op sz aU Hn;obtain⟨_,a2,a3,a4,a5⟩:=Nt bq o1 (fun x hx=>(o2 x hx).1) ty cl op aU;have iQ:=axU o rs (bh ls) ty cl op aU;have hnl:(bh ls).length<=254:=by{by_cases he:ls = [];{subst he;exact cV _};{have:=Hh ls he;omega}};have jE:bh ls = []\/fC (bh ls):=by{by_cases he:ls = [];{subst he;exact .inl rfl};{exact .inr (Ns he (fun x hx=>(o2 x hx).1))}};obtain⟨yY,Zm⟩:∃yY,dC o rs (bh ls) ty cl op aU=yY:=⟨_,rfl⟩;rw[Zm]at a2 a3 a4 a5 iQ s1 s2 s3;obtain⟨⟨rc,bw,an,ns⟩,ad⟩:=yY;simp only at a2 a3 a4 a5 iQ s1 s2 s3;have la:JN an:=⟨fun r hr=>Rz (a2 r (by simp[hr])).1.wr,s1,ae⟩;have lb:JN ns:=⟨fun r hr=>Rz (a2 r (by simp[hr])).1.wr,s2,ae⟩;have ld:JN ad:=⟨fun r hr=>Rz (a2 r (by simp[hr])).1.wr,s3,ae⟩;have qy:∃k:Nat,k<65536/\rc=(k:Int):=by{rcases iQ with rfl|rfl|rfl|rfl|rfl;{exact⟨0,ae,rfl⟩};{exact⟨2,ae,rfl⟩};{exact⟨3,ae,rfl⟩};{exact⟨5,ae,rfl⟩};{exact⟨16,ae,rfl⟩}};obtain⟨k,hk,rfl⟩:=qy;have hT:vH (vw (bp m 2:Nat) (k:Int)) 1024 bw=(xH (vR (bp m 2) k) 1024 bw:Int):=by{rw[Si _ k hb1 hk];exact Sj _ 1024 bw (JO _ _) ae};have hb2:xH (vR (bp m 2) k) 1024 bw<65536:=Zj (JO _ _) ae;refine(axo zb (bp m 0) (bp m 2) _ _ _ _ ty cl sz aU op m q (bh ls) (Hm (bp m 0) (bp m 2) op bw sz k q (bh ls) an ns ad) (fun W v0 v1 v2 v3 v4=>v0=aj k/\v1=.bool bw/\jm W v2 an/\jm W v3 ns/\jm W v4 ad) w n1 n2 hh (fun W=>(hq W).mono ?_) (fun W hW=>?_) (fun W v0 v1 v2 v3 v4 hW gM=>?_)).mono ?_;{rintro e w' ⟨h,hb⟩;unfold Hj at h;rw[Hn]at h;rw[k1,k2,k3,k4];refine⟨h.trans ?_,hb⟩;cases op <;> rfl};{refine(asW zb b off cap ty cl o (bh ls) q _ _ _ _ _ _ op sz aU rs W bq (hz.below hW) (hg.below hW) jE ae).mono ?_;rintro e w' ⟨⟨v,rfl,va,vb,vd,rfl,r1,r2,r3,_⟩,hb⟩;rw[Zm]at *;exact⟨⟨_,_,_,_,_,rfl,rfl,rfl,r1.rv,r2.rv,r3.rv⟩,hb⟩};{obtain⟨rfl,rfl,r1,r2,r3⟩:=gM;exact axJ (bp m 0) (bp m 2) _ _ _ _ _ ty cl q (bh ls) op bw sz aU k an ns ad v2 v3 v4 W (hg.below hW) ax r1 r2 r3 la lb ld ae ae s4 iQ hT hb2 (fun tc=>⟨_,Sj _ 512 tc hb2 ae,Zj hb2 ae⟩)};{rintro e w' ⟨rfl,hb⟩;exact⟨⟨_,rfl,by unfold xI;rw[aF Bj,aF h2,Hn];simp only[Zm]⟩,hb⟩}}
theorem Zn(c d k:Nat)(hd:d<256):(256*c+d) &&& (256*k)=256*(c &&& k):=by have h1:=Nat.and_div_two_pow (a:=256*c+d) (b:=256*k) (n:=8);have h2:=Nat.and_mod_two_pow (a:=256*c+d) (b:=256*k) (n:=8);rw[show(2 ^ 8:Nat)=256 from rfl,show(256*c+d)/256=c by omega,show 256*k/256=k by omega]at h1;rw[show(2 ^ 8:Nat)=256 from rfl,show 256*k%256=0 by omega,Nat.and_zero]at h2;omega
theorem Zo(a b c d:Nat)(hb:b<256)(hd:d<256):(256*a+b) ||| (256*c+d)=256*(a ||| c)+(b ||| d):=by have h1:=Nat.or_div_two_pow (a:=256*a+b) (b:=256*c+d) (n:=8);have h2:=Nat.or_mod_two_pow (a:=256*a+b) (b:=256*c+d) (n:=8);rw[show(2 ^ 8:Nat)=256 from rfl,show(256*a+b)/256=a by omega,show(256*c+d)/256=c by omega]at h1;rw[show(2 ^ 8:Nat)=256 from rfl,show(256*a+b)%256=b by omega,show(256*c+d)%256=d by omega]at h2;omega
theorem axW:∀rc:Nat,rc<17->rc &&& 15=rc%16:=by decide +kernel
theorem axX(c d rc:Nat)(hd:d<256)(hr:rc<17):vR (256*c+d) rc=256*(128 ||| (c &&& 121))+rc%16:=by unfold vR;rw[axW rc hr,show(30976:Nat)=256*121 from rfl,Zn c d 121 hd];have h1:=Zo 128 0 (c &&& 121) 0 ae ae;simp only[gK,Nat.or_self]at h1;rw[show(32768:Nat)=256*128 from rfl,h1];have h2:=Zo (128 ||| (c &&& 121)) 0 0 (rc%16) ae ae;simp only[gK,Nat.mul_zero,eY,Nat.or_zero,Nat.zero_or]at h2;exact h2
theorem axY:∀c:Nat,c<256->(128 ||| (c &&& 121)=uj c false false/\(128 ||| (c &&& 121)) ||| 4=uj c true false/\(128 ||| (c &&& 121)) ||| 2=uj c false true/\((128 ||| (c &&& 121)) ||| 4) ||| 2=uj c true true):=by decide +kernel
theorem aju(a b k:Nat)(hb:b<256)(t:Bool):xH (256*a+b) (256*k) t=256*(if t=true then a ||| k else a)+b:=by unfold xH;split;{have h:=Zo a b k 0 hb ae;simp only[gK,Nat.or_zero]at h;exact h};{rfl}
theorem axZ(c d rc:Nat)(aa tc:Bool)(hc:c<256)(hd:d<256)(hr:rc<17):xH (xH (vR (256*c+d) rc) 1024 aa) 512 tc=256*uj c aa tc+rc%16:=by
 obtain⟨b1,b2,b3,b4⟩:=axY c hc;rw[axX c d rc hd hr,show(1024:Nat)=256*4 from rfl,aju _ _ 4 ae aa,show(512:Nat)=256*2 from rfl,aju _ _ 2 ae tc];generalize 128 ||| (c &&& 121)=x at *;cases aa <;> cases tc <;> simp only[EK,ET,gZ];{rw[b1]};{rw[b3]};{rw[b2]};{rw[b4]}
theorem ax0:∀c:Nat,c<256->∀aa tc:Bool,uj c aa tc<256:=by decide +kernel
theorem ajv{m:ah}(h:12<=m.length)(aa tc:Bool)(rc c0 aC c2 c3:Nat)(hr:rc<17) :
  ew (iu (bp m 0) (xH (xH (vR (bp m 2) rc) 1024 aa) 512 tc) c0 aC c2 c3)=qx m aa tc rc [c0,aC,c2,c3]:=by
 match m,h with
 | a0 :: a1 :: a2 :: a3 :: r,_ =>{
 have h0:=kZ a0;have h1:=kZ a1;have h2:=kZ a2;have h3:=kZ a3;have e2:bp (a0 :: a1 :: a2 :: a3 :: r) 2=256*a2.toNat+a3.toNat:=rfl;have e0:bp (a0 :: a1 :: a2 :: a3 :: r) 0=256*a0.toNat+a1.toNat:=rfl;have hb:=ax0 a2.toNat h2 aa tc;rw[e2,e0,axZ _ _ rc aa tc h2 h3 hr];unfold qx;have gu:ax (256*a0.toNat+a1.toNat)=a0:=by unfold ax;rw[show(256*a0.toNat+a1.toNat)/256=a0.toNat by omega];simp
 have d1:bO (256*a0.toNat+a1.toNat)=a1:=by{unfold bO;apply CG.1;rw[lJ];omega};have d2:ax (256*uj a2.toNat aa tc+rc%16)=UInt8.ofNat (uj a2.toNat aa tc):=by unfold ax;rw[show(256*uj a2.toNat aa tc+rc%16)/256=uj a2.toNat aa tc by omega]
 have d3:bO (256*uj a2.toNat aa tc+rc%16)=UInt8.ofNat (rc%16):=by{unfold bO;apply CG.1;rw[lJ,lJ];omega};simp only[ew,iu,jT,iV,Hr,gu,d1,d2,d3,qw];rfl}
theorem ajw{m:ah}(h:12<=m.length)(rc c0 aC c2 c3:Nat)(hr:rc<17):ew (iu (bp m 0) (vR (bp m 2) rc) c0 aC c2 c3)=qx m false false rc [c0,aC,c2,c3]:=ajv h false false rc c0 aC c2 c3 hr
theorem ajx:∀c:Nat,c<256->((c &&& 128≠0 ↔ 128<=c)/\(c &&& 120≠0 ↔ c/8%16≠0)):=by decide +kernel
theorem ajy(m:ah):bp m 2 &&& 32768≠0 ↔ 128<=(m.getD 2 0).toNat:=by have h2:=kZ (m.getD 2 0);have h3:=kZ (m.getD 3 0);have:=(ajx _ h2).1;show(256*(m.getD 2 0).toNat+(m.getD 3 0).toNat) &&& (256*128)≠0 ↔ _;rw[Zn _ _ 128 h3,<- this];omega
theorem ajz(m:ah):bp m 2 &&& 30720≠0 ↔ (m.getD 2 0).toNat/8%16≠0:=by have h2:=kZ (m.getD 2 0);have h3:=kZ (m.getD 3 0);have:=(ajx _ h2).2;show(256*(m.getD 2 0).toNat+(m.getD 3 0).toNat) &&& (256*120)≠0 ↔ _;rw[Zn _ _ 120 h3,<- this];omega
def o9(y x:bA):Bool:=decide (y.2.2.2=x.2.2.2/\y.2.2.1.type=x.2.2.1.type)
def Cr:Nat->List bA->List (List bA)
 | 0,_=>[]
 | _+1,[]=>[]
 | f+1,x :: t=>(x :: t.takeWhile (o9 x)) :: Cr f (t.dropWhile (o9 x))
theorem ax1(f:Nat):Cr f [] = []:=by cases f <;> rfl
theorem Zp:∀(f:Nat) (xs:List bA) (gs:List (List bA)) (y:bA) (t:List bA),xs.length<=f->xs.foldl oZ (gs++[y :: t])=gs++[y :: (t++xs.takeWhile (o9 y))]++Cr f (xs.dropWhile (o9 y))
 | f,[],gs,y,t,_=>by simp[ax1]
 | f+1,x :: xs,gs,y,t,h=>by
  have hl:xs.length<=f:=by simpa using h
  rw[JX];by_cases hs:y.2.2.2=x.2.2.2/\y.2.2.1.type=x.2.2.1.type;{have h1:o9 y x=true:=iy hs;rw[ahI gs y t x hs,fU,Zp (f+1) xs gs y (t++[x]) ae,J9 h1,List.dropWhile_cons_of_pos h1,fP t [x]];rfl};{
  have h1:¬o9 y x=true:=by unfold o9;rw[iB hs];simp
  rw[ahJ gs y t x hs,Zp f xs (gs++[y :: t]) x [] hl,NW h1,List.dropWhile_cons_of_neg h1,h_,gb];rw[Cr,fP (gs++[y :: t])];rfl}
 termination_by f xs=>(f,xs.length)
theorem ajA(xs:List bA):gP xs=Cr xs.length xs:=by
 cases xs with
 | nil=>rfl
 | cons x xs =>{unfold gP;rw[JX,avf];have:=Zp xs.length xs [] x [] aA;rw[gb]at this;rw[this];rfl}
theorem ajB{α:Type}{p q:α->Bool} : ∀ {l:List α},(∀x∈l,p x=q x)->l.takeWhile p=l.takeWhile q/\l.dropWhile p=l.dropWhile q
 | [],_=>⟨rfl,rfl⟩
 | a :: l,h=>by have ih:=ajB (p:=p) (q:=q) (l:=l) (fun x hx=>h x (by simp[hx]));have ha:=h a ar;simp only[List.takeWhile_cons,List.dropWhile_cons,ha,ih.1,ih.2,and_self]
theorem ajC:∀(f k:Nat) (xs:List bA),(∀x∈xs,∀y∈xs,o9 x y=bu x.2.2.1 y.2.2.1)->(jy bu f k (xs.map (·.2.2.1))).map (·.2)=(Cr f xs).map (List.map (·.2.2.1))
 | 0,_,_,_=>rfl
 | _+1,_,[],_=>rfl
 | f+1,k,x :: t,h=>by have hs:∀y∈t,o9 x y=(bu x.2.2.1 ∘ fun z:bA=>z.2.2.1) y:=fun y hy=>h x ar y (by simp[hy]);obtain⟨e1,e2⟩:=ajB hs;rw[jL,jy,Cr,jL,jL,List.takeWhile_map,List.dropWhile_map,<- e1,<- e2];rw[ajC f _ (t.dropWhile (o9 x)) (fun a ha b hb=>h a (by simp[(ZO _).subset ha]) b (by simp[(ZO _).subset hb]))];rfl
theorem Zq(xs:List bA)(h:∀x∈xs,∀y∈xs,o9 x y=bu x.2.2.1 y.2.2.1):(bz bu (xs.map (·.2.2.1))).map (·.2)=(gP xs).map (List.map (·.2.2.1)):=by unfold bz;rw[ajC _ 0 xs h,ajA,bY]
theorem ax2{qn:List ah}{t:Bool}{a b:ah}{la lb:List ah}(ha:la=if t=false/\aT a=cC qn then qn else aT a)(hb:lb=if t=false/\aT b=cC qn then qn else aT b)(ka:cC (aT a)=aT a)(kb:cC (aT b)=aT b):la=lb ↔ a=b:=by constructor;{intro h;subst ha hb;refine Iq ?_;split at h;{rename_i h1;split at h;{rename_i h2;rw[h1.2,h2.2]};{rw[h1.2,h,kb]}};{split at h;{rename_i h2;rw[h2.2,<- h,ka]};{exact h}}};{intro h;subst h;rw[ha,hb]}
theorem ajD{a b:ah}{la lb:List ah}(ha:la=aT a)(hb:lb=aT b):la=lb ↔ a=b:=by rw[ha,hb];exact acU
theorem Zr{x y:bA}(h:x.2.2.2=y.2.2.2 ↔ x.2.2.1.owner=y.2.2.1.owner):o9 x y=bu x.2.2.1 y.2.2.1:=by unfold o9 bu;rw[rE,Hy,cY,fe,fe,h]
theorem ajE{n:List ah}{a:Nat} : ∀ {es:dN} (u:dN),jv n es=some a->jv n (es++u)=some a
 | [],_,h=>by cases h
 | e :: es,u,h=>by rw[fU,jv];rw[jv]at h;split;{rename_i hc;rw[aJ hc]at h;exact h};{rename_i hc;rw[aF hc]at h;exact ajE u h}
theorem Zs:∀(ns:List ah) (S:ah) (es:dN),∃u,(bB ns S es).2=es++u
 | [],_,es=>⟨[],by simp[bB]⟩
 | x :: t,S,es=>by
  cases hf:jv (cC (x :: t)) es with
  | some a=>rw[Ea hf];exact⟨[],ar⟩
  | none =>{rw[yM hf];obtain⟨u,hu⟩:=Zs t (S++(UInt8.ofNat x.length :: x)) (es++[(cC (x :: t),S.length)]);exact⟨_,by rw[hu,fP]⟩}
theorem Zt:∀(p:Ak) (S:ah) (es:dN),∃u,(dg p S es).2=es++u
 | [],_,es=>⟨[],by simp[dg]⟩
 | .inl b :: t,S,es=>Zt t (S++b) es
 | .inr x :: t,S,es=>by obtain⟨u,hu⟩:=Zs (az 46 x) S es;obtain⟨v,hv⟩:=Zt t (bB (az 46 x) S es).1 (bB (az 46 x) S es).2;exact⟨u++v,by rw[dg,hv,hu,fP]⟩
theorem ax3(r:ai)(ls:List ah)(S:ah)(es:dN):∃u,(mQ r ls S es).2=es++u:=by obtain⟨u,hu⟩:=Zs ls S es;obtain⟨v,hv⟩:=Zt (dO r) (jV r (bB ls S es).1) (bB ls S es).2;exact⟨u++v,by show(dg (dO r) (jV r (bB ls S es).1) (bB ls S es).2).2=_;rw[hv,hu,fP]⟩
structure EH(T:ah)(x:bA):Prop where
 wr:Jt x.2.2.1
 lab:(x.2.2.1.owner=T/\cC x.2.2.2=aT T)\/(vN x.2.2.1.owner/\x.2.2.2=az 46 x.2.2.1.owner)
theorem ajF{h1 h2 T:ah}{n:Nat}(hl:h1.length=h2.length)(hT:T≠[]):∀(g:List bA) (S:ah) (es:dN) (l:ah) (ps:cI),(∀x∈g,EH T x)->kW h1 h2 S es l ps->jI ps T=some n ->
  kW h1 h2 (jk g S es).1 (jk g S es).2 (cH cX (g.map (·.2.2.1)) l ps).1 (cH cX (g.map (·.2.2.1)) l ps).2/\jI (cH cX (g.map (·.2.2.1)) l ps).2 T=some n
 | [],_,_,_,_,_,e,hf=>⟨e,hf⟩
 | x :: g,S,es,l,ps,hx,e,hf=>by have hX:=hx x ar;have e1:=avb hl hX.wr (ls:=x.2.2.2) (by{rcases hX.lab with⟨h,h'⟩|h;{exact .inl ⟨n,by rw[h];exact hf,by rw[h];exact hT,by rw[h];exact h'⟩};{exact .inr h}}) e;have jH:jI (iP x.2.2.1 (cX x.2.2.1) l ps).2 T=some n:=by{rw[<- e1.find T];obtain⟨u,hu⟩:=ax3 x.2.2.1 x.2.2.2 S es;rw[hu];exact ajE u (by rw[e.find T];exact hf)};exact ajF hl hT g _ _ _ _ (fun y hy=>hx y (by simp[hy])) e1 jH
theorem ax4{h1 h2:ah}(hl:h1.length=h2.length)(S:ah)(es:dN)(l:ah)(ps:cI)(e:kW h1 h2 S es l ps):S.length=l.length:=by obtain⟨t,rfl,rfl⟩:=e.same;rw[bj,bj,hl]
structure Sm(h1 h2 T:ah)(n o1:Nat)(st:qE)(sf:lG):Prop where
 eq:kW h1 h2 st.S st.es sf.S.1 sf.S.2
 Zu:T≠[]->jI sf.S.2 T=some n
 cs:∃a b c,sf.cs = [a,b,c]/\st.cs = [1,a,b,c+o1]
 full:st.full=sf.full
theorem Sp{h1 h2 T:ah}{n o1 most ol i:Nat}(hl:h1.length=h2.length)(ax:i<3):∀(gs:List (List bA)) (st:qE) (sf:lG),(∀g∈gs,∀x∈g,EH T x/\T≠[])->Sm h1 h2 T n o1 st sf ->
  Sm h1 h2 T n o1 (o5 most ol i gs st) (iJ ((most:Int) - (ol:Int)) cX i (gs.map (List.map (·.2.2.1))) sf)/\(o5 most ol i gs st).tc=(if st.full=false/\(o5 most ol i gs st).full=true then decide (i<2)else st.tc)
 | [],st,sf,_,h=>⟨h,by
  rw[show o5 most ol i [] st=st from rfl];split
  ·rename_i hc;rw[hc.1]at hc;exact absurd hc.2 ar
  ·rfl⟩
 | g :: gs,st,sf,hx,h=>by
  by_cases hf:st.full=true;{rw[Yj hf,Rh (h.full ▸ hf)];exact⟨h,by rw[aF (by rw[hf];simp)]⟩};{
  have hf':st.full=false:=by simpa using hf
  have Sq:sf.full=false:=h.full ▸ hf';have hg:kW h1 h2 (jk g st.S st.es).1 (jk g st.S st.es).2 (cH cX (g.map (·.2.2.1)) sf.S.1 sf.S.2).1 (cH cX (g.map (·.2.2.1)) sf.S.1 sf.S.2).2/\(T≠[]->jI (cH cX (g.map (·.2.2.1)) sf.S.1 sf.S.2).2 T=some n):=by{
  by_cases hT:T = [];{
  cases g with
  | nil=>exact⟨h.eq,h.Zu⟩
  | cons x g=>exact absurd hT (hx (x :: g) ar x ar).2};{have:=ajF hl hT g st.S st.es sf.S.1 sf.S.2 (fun x hx'=>(hx g ar x hx').1) h.eq (h.Zu hT);exact⟨this.1,fun _=>this.2⟩}};have hlen:=ax4 hl _ _ _ _ hg.1;rw[jL];by_cases hm:most<(jk g st.S st.es).1.length+ol;{rw[ahU hf' hm,XT Sq ae];exact⟨⟨h.eq,h.Zu,h.cs,rfl⟩,by rw[aJ ⟨hf',rfl⟩]⟩};{
  rw[ahV hf' hm,XU Sq ae];obtain⟨a,b,c,e1,e2⟩:=h.cs;have hr:=Sp (T:=T) (n:=n) (o1:=o1) (most:=most) (ol:=ol) (i:=i) hl ax gs { st with S:=(jk g st.S st.es).1,es:=(jk g st.S st.es).2,cs:=st.cs.set (i+1) (st.cs.getD (i+1) 0+g.length) } { sf with S:=cH cX (g.map (·.2.2.1)) sf.S.1 sf.S.2,cs:=sf.cs.set i (sf.cs.getD i 0+(g.map (·.2.2.1)).length) } (fun g' pq=>hx g' (by simp[pq])) ⟨hg.1,hg.2,by{
  rw[e1,e2,bY];match i,ax with
  | 0,_=>exact⟨a+g.length,b,c,rfl,rfl⟩
  | 1,_=>exact⟨a,b+g.length,c,rfl,rfl⟩
  | 2,_=>exact⟨a,b,c+g.length,rfl,by show [1,a,b,c+o1+g.length]=_;rw[Nat.add_right_comm]⟩},h.full⟩
  exact⟨hr.1,hr.2⟩}}
theorem Sr{size:Int}{aK:ai->List dU}{i:Nat} : ∀(gs:List (List ai)) (st:lG),st.full=false->i<st.cs.length->(∀g∈gs,g≠[]) ->
  (∀j,j≠i->(iJ size aK i gs st).cs.getD j 0=st.cs.getD j 0)/\(if(iJ size aK i gs st).full=true then(iJ size aK i gs st).cs.getD i 0<st.cs.getD i 0+(gs.map (·.length)).sum else(iJ size aK i gs st).cs.getD i 0=st.cs.getD i 0+(gs.map (·.length)).sum)
 | [],st,hf,_,_=>⟨fun _ _=>rfl,by
  rw[show iJ size aK i [] st=st from rfl,aF (by rw[hf];simp)];rfl⟩
 | g :: gs,st,hf,ax,hne=>by have hg:0<g.length:=Cy.2 (hne g ar);by_cases hm:size<((cH aK g st.S.1 st.S.2).1.length:Int);{rw[XT hf hm];exact⟨fun _ _=>rfl,by rw[aJ rfl];simp only[jL,J8];omega⟩};{rw[XU hf hm];obtain⟨k1,k2⟩:=Sr gs { st with S:=cH aK g st.S.1 st.S.2,cs:=st.cs.set i (st.cs.getD i 0+g.length) } hf (by simpa using ax) (fun x hx=>hne x (by simp[hx]));have e1:(st.cs.set i (st.cs.getD i 0+g.length)).getD i 0=st.cs.getD i 0+g.length:=by{rw[mU,SK ax];rfl};refine⟨fun j hj=>(k1 j hj).trans ?_,?_⟩;{show(st.cs.set i (st.cs.getD i 0+g.length)).getD j 0=_;rw[mU,List.getElem?_set_ne (fun e=>hj e.symm),<- mU]};{simp only[e1]at k2;simp only[jL,J8];split;{rename_i h;rw[aJ h]at k2;omega};{rename_i h;rw[aF h]at k2;omega}}}
theorem ajG:∀(f:Nat) (xs:List bA),∀g∈Cr f xs,g≠[]
 | 0,_,_,h=>by cases h
 | _+1,[],_,h=>by cases h
 | f+1,x :: t,g,h=>by rw[Cr]at h;rcases ei.1 h with h|h;{rw[h];simp};{exact ajG f _ g h}
theorem ax5{xs:List bA}{g:List bA}(h:g∈gP xs):g≠[]:=by rw[ajA]at h;exact ajG _ _ g h
theorem ajH(xs:List bA):(((gP xs).map (List.map (·.2.2.1))).map (·.length)).sum=xs.length:=by have h:=dE List.length (MV xs);rw[List.length_flatten]at h;rw[<- h,kY];congr 1;exact oB fun g _=>by simp
abbrev vS(xs:List bA):List ai:=xs.map (·.2.2.1)
theorem ax6{h1 h2 T:ah}{n o1 most ol:Nat}(hl:h1.length=h2.length)(xa bL xd:List bA)(sa:∀x∈xa,∀y∈xa,o9 x y=bu x.2.2.1 y.2.2.1)(Zv:∀x∈bL,∀y∈bL,o9 x y=bu x.2.2.1 y.2.2.1)(sd:∀x∈xd,∀y∈xd,o9 x y=bu x.2.2.1 y.2.2.1)
  (hx:∀x∈xa++(bL++xd),EH T x/\T≠[]) (st:qE) (sf:lG) (h:Sm h1 h2 T n o1 st sf) (ajI:st.full=false) (sS:st.tc=false) (hcs:sf.cs = [0,0,0]) :
  Sm h1 h2 T n o1 (xC most ol 0 [xa,bL,xd] st) (mr ((most:Int) - (ol:Int)) cX 0 [vS xa,vS bL,vS xd] sf)/\(xC most ol 0 [xa,bL,xd] st).tc=JM (mr ((most:Int) - (ol:Int)) cX 0 [vS xa,vS bL,vS xd] sf) (vS xa) (vS bL):=by
 simp only[xC,mr,eY,Nat.reduceAdd];rw[Zq xa sa,Zq bL Zv,Zq xd sd];have Px:∀g∈gP xa,∀x∈g,EH T x/\T≠[]:=fun g hg x hx'=>hx x (by simp[MT xa g hg x hx']);have ax7:∀g∈gP bL,∀x∈g,EH T x/\T≠[]:=fun g hg x hx'=>hx x (by simp[MT bL g hg x hx']);have Er:∀g∈gP xd,∀x∈g,EH T x/\T≠[]:=fun g hg x hx'=>hx x (by simp[MT xd g hg x hx']);obtain⟨r1,t1⟩:=Sp (T:=T) (n:=n) (o1:=o1) (most:=most) (ol:=ol) (i:=0) hl ae (gP xa) st sf Px h;have Sq:sf.full=false:=h.full ▸ ajI;have hne:∀(xs:List bA),∀g∈(gP xs).map (List.map (·.2.2.1)),g≠[]:=fun xs g hg=>by{obtain⟨g',h1,rfl⟩:=jZ.1 hg;intro e;exact ax5 h1 (List.map_eq_nil_iff.1 e)};have aC:=Sr (size:=(most:Int) - (ol:Int)) (aK:=cX) (i:=0) _ sf Sq (by rw[hcs];simp) (hne xa);have l1:(iJ ((most:Int) - (ol:Int)) cX 0 ((gP xa).map (List.map (·.2.2.1))) sf).cs.length=3:=by rw[Sh,hcs];rfl
 rw[ajH]at aC;generalize hW1:o5 most ol 0 (gP xa) st=W1 at *;generalize aCb:iJ ((most:Int) - (ol:Int)) cX 0 ((gP xa).map (List.map (·.2.2.1))) sf=F1 at *;obtain⟨r2,t2⟩:=Sp (T:=T) (n:=n) (o1:=o1) (most:=most) (ol:=ol) (i:=1) hl ae (gP bL) W1 F1 ax7 r1;have c2:=fun hf=>Sr (size:=(most:Int) - (ol:Int)) (aK:=cX) (i:=1) _ F1 hf (by rw[l1];omega) (hne bL);have l2:(iJ ((most:Int) - (ol:Int)) cX 1 ((gP bL).map (List.map (·.2.2.1))) F1).cs.length=3:=by rw[Sh,l1]
 have f2:F1.full=true->iJ ((most:Int) - (ol:Int)) cX 1 ((gP bL).map (List.map (·.2.2.1))) F1=F1:=fun hf=>Rh hf;rw[ajH]at c2;generalize hW2:o5 most ol 1 (gP bL) W1=W2 at *;generalize hF2:iJ ((most:Int) - (ol:Int)) cX 1 ((gP bL).map (List.map (·.2.2.1))) F1=F2 at *;obtain⟨r3,t3⟩:=Sp (T:=T) (n:=n) (o1:=o1) (most:=most) (ol:=ol) (i:=2) hl ae (gP xd) W2 F2 Er r2;have c3:=fun hf=>(Sr (size:=(most:Int) - (ol:Int)) (aK:=cX) (i:=2) _ F2 hf (by rw[l2];omega) (hne xd)).1;have f3:F2.full=true->iJ ((most:Int) - (ol:Int)) cX 2 ((gP xd).map (List.map (·.2.2.1))) F2=F2:=fun hf=>Rh hf;generalize hW3:o5 most ol 2 (gP xd) W2=W3 at *;generalize xz:iJ ((most:Int) - (ol:Int)) cX 2 ((gP xd).map (List.map (·.2.2.1))) F2=F3 at *;refine⟨r3,?_⟩;have e0:sf.cs.getD 0 0=0:=by rw[hcs];rfl
 have e1:sf.cs.getD 1 0=0:=by rw[hcs];rfl
 have g0:F3.cs.getD 0 0=F2.cs.getD 0 0/\F3.cs.getD 1 0=F2.cs.getD 1 0:=by{
 cases hf:F2.full with
 | true=>rw[f3 hf];exact⟨rfl,rfl⟩
 | false=>exact⟨c3 hf 0 ae,c3 hf 1 ae⟩};have hcut:JM F3 (vS xa) (vS bL)=(decide (F2.cs.getD 0 0<xa.length) || decide (F2.cs.getD 1 0<bL.length)):=by{unfold JM;rw[g0.1,g0.2,bY,bY];simp only[Int.ofNat_lt]};rw[hcut];have k1:=r1.full;have k2:=r2.full;cases jH:F1.full with
 | true =>{have:=aC.2;rw[aJ jH,e0]at this;rw[f2 jH]at *;rw[iy (show F1.cs.getD 0 0<xa.length by omega),NG];rw[t3,aF (by rw[k2,jH];simp),t2,aF (by rw[k1,jH];simp),t1,aJ ⟨ajI,by rw[k1,jH]⟩];rfl}
 | false =>{
 obtain⟨d1,d2⟩:=c2 jH;have a0:=aC.2;rw[aF (by rw[jH];simp),e0]at a0;have b1:F1.cs.getD 1 0=0:=(aC.1 1 ae).trans e1;rw[d1 0 ae,iB (show ¬F1.cs.getD 0 0<xa.length by omega),Av];cases hf2:F2.full with
 | true =>{rw[aJ hf2,b1]at d2;rw[iy (show F2.cs.getD 1 0<bL.length by omega)];rw[t3,aF (by rw[k2,hf2];simp),t2,aJ ⟨by rw[k1,jH],by rw[k2,hf2]⟩];rfl}
 | false =>{
 rw[aF (by rw[hf2];simp),b1]at d2;rw[iB (show ¬F2.cs.getD 1 0<bL.length by omega),t3];have t2':W2.tc=false:=by rw[t2,aF (by rw[k2,hf2];simp),t1,aF (by rw[k1,jH];simp),sS]
 split;{rfl};{exact t2'}}}
def EI:List ah->Nat->dN
 | [],_=>[]
 | x :: t,p=>(cC (x :: t),p) :: EI t (p+1+x.length)
theorem ajJ{n:List ah} : ∀ {es:dN},(∀e∈es,e.1≠n)->jv n es=none
 | [],_=>rfl
 | e :: es,h=>by rw[jv,aF (fun hc=>h e ar hc.1)];exact ajJ fun x hx=>h x (by simp[hx])
theorem ajK:∀(ls:List ah) (S:ah) (es:dN),(∀e∈es,ls.length<e.1.length)->(bB ls S es).2=es++EI ls S.length
 | [],_,es,_=>by simp[bB,EI]
 | x :: t,S,es,h=>by have hn:jv (cC (x :: t)) es=none:=ajJ fun e he hc=>by{have:=h e he;rw[hc]at this;simp[cC]at this};rw[yM hn,ajK t _ _ (fun e he=>by{rcases gm.1 he with he|he;{have:=h e he;simp only[bP]at this;omega};{rw[vY]at he;rw[he];simp[cC]}}),EI,fP];simp only[bj,bP,fU,gb];rw[show S.length+(x.length+1)=S.length+1+x.length by omega]
theorem ajL(x:ah):(46:UInt8) ∉ kF x:=by unfold kF;intro hc;obtain⟨c,_,hcc⟩:=jZ.1 hc;unfold ki at hcc;split at hcc;{have:=dE UInt8.toNat hcc;rw[lJ]at this;have awS:(46:UInt8).toNat=46:=rfl;omega};{split at hcc;{cases hcc};{rename_i h1 h2;exact h2 (by rw[hcc];rfl)}}
theorem Zw(x:ah)(t:List ah)(hx:x≠[]):cg (bh (x :: t))=bh (x :: t) :: cg (bh t):=by
 have hf:kF x≠[]:=fun e=>hx (fp (by rw[<- LU,e];rfl));cases t with
 | nil =>{have e:bh [x]=kF x:=Lib.join_one _ _;rw[e,qP _ hf,Fc _ (ajL x)];rfl}
 | cons y t =>{have e:bh (x :: y :: t)=kF x++46 :: bh (y :: t):=Sa _ _ _;rw[e,qP _ ar,CR _ _ (ajL x)]}
theorem ajM:∀(ls:List ah) (p:Nat),(∀x∈ls,x≠[])->(iI p (bh ls)).map (fun e=>(aT e.1,e.2))=EI ls p
 | [],_,_=>rfl
 | [x],p,h=>by have e:bh [x]=kF x:=Lib.join_one _ _;unfold iI;rw[Zw x [] (h x ar)];simp only[jL,JH (show [x]≠[] by simp)];rw[show p+(bh [x]).length - (bh [x]).length=p by omega];rfl
 | x :: y :: t,p,h=>by
  have ih:=ajM (y :: t) (p+1+x.length) (fun z hz=>h z (by simp[hz]));have e:bh (x :: y :: t)=kF x++46 :: bh (y :: t):=Sa _ _ _;have hlen:(bh (x :: y :: t)).length=x.length+1+(bh (y :: t)).length:=by rw[e,bj,bP,LU];omega
  unfold iI at ih ⊢;rw[Zw x (y :: t) (h x ar),EI,<- ih];simp only[jL,kY,JH (show x :: y :: t≠[] by simp)];rw[show p+(bh (x :: y :: t)).length - (bh (x :: y :: t)).length=p by omega];congr 1;refine oB fun z _=>?_;show(aT z,p+(bh (x :: y :: t)).length - z.length)=(aT z,p+1+x.length+(bh (y :: t)).length - z.length);rw[hlen,show p+(x.length+1+(bh (y :: t)).length)=p+1+x.length+(bh (y :: t)).length by omega]
theorem ajN:∀(ls:List ah) (p:Nat),∀e∈EI ls p,e.2<=p+jW ls
 | [],_,_,h=>by cases h
 | x :: t,p,e,h=>by rw[EI]at h;rcases ei.1 h with h|h;{rw[h];exact CD _ _};{have:=ajN t _ e h;rw[Et];omega}
theorem ax8(ls:List ah)(q:ah)(hn:∀x∈ls,x≠[])(hl:jW ls<=1000):kW eB (List.replicate 12 0) (eB++q) (bB ls eB []).2 (List.replicate 12 0++q) (iI 12 (bh ls)):=by refine⟨⟨q,rfl,rfl⟩,?_⟩;rw[ajK ls eB [] (fun e he=>by cases he),gb,ajM ls 12 hn,show eB.length=12 from rfl];rw[Cu];intro e he;have:=ajN ls 12 e he;exact iy ae
theorem ax9(c:UInt8):eV (eV c)=eV c:=by
 have h:=kZ c;by_cases h1:65<=c.toNat/\c.toNat<=90;{
 have e:eV c=UInt8.ofNat (c.toNat+32):=by unfold eV;rw[aJ h1]
 have e2:(eV c).toNat=c.toNat+32:=by rw[e,lJ];omega
 generalize eV c=d at *;show(if 65<=d.toNat/\d.toNat<=90 then UInt8.ofNat (d.toNat+32)else d)=d;rw[aF (by rw[e2];omega)]};{
 have e:eV c=c:=by unfold eV;rw[aF h1]
 rw[e,e]}
theorem ajO(l:List ah):cC (cC l)=cC l:=by unfold cC;rw[kY];refine oB fun x _=>?_;show(x.map eV).map eV=x.map eV;rw[kY];exact oB fun c _=>ax9 c
theorem ax_{T r:ah}{ls:List ah}(hT:aT T=cC ls)(h:r=T\/vN r):cC (aT r)=aT r:=by rcases h with rfl|h;{rw[hT];exact ajO ls};{rw[yx h.p];exact ahz h.low}
theorem aya{ls:List ah}(iF:ls≠[]){x:bA}(hg:lX (bh ls) x.2.2.1)(hl:x.2.2.2=ls/\aT x.2.2.1.owner=cC ls\/x.2.2.2=aT x.2.2.1.owner):EH (bh ls) x:=by have hT:=JH iF;refine⟨hg.wr,?_⟩;rcases hl with⟨h1,h2⟩|h1;{exact .inl ⟨Iq (by rw[h2,hT]),by rw[h1,hT]⟩};{rcases hg.own with h|h;{exact .inl ⟨h,by rw[h1,h,hT];exact ajO ls⟩};{exact .inr ⟨h,by rw[h1,yx h.p]⟩}}
theorem ayb(op:Bool)(k:Nat):Au op (k:Int)=rB op k:=by cases op <;> rfl
theorem ayc(op:Bool)(sz:Nat):Ar op (sz:Int)=(Ew op sz:Int):=by unfold Ar Ew;cases op;{rfl};{simp only[gZ];omega}
theorem ayd(op:Bool)(k:Nat):(rB op k).length/11=cond op 1 0:=by cases op <;> simp[rB,Yk]
theorem aye(ls:List ah)(h:ls≠[])(hn:∀x∈ls,x≠[]):bh ls≠[]->∃n,jI (iI 12 (bh ls)) (bh ls)=some n:=by
 intro _;match ls,h with
 | x :: t,_ =>{unfold iI;rw[Zw x t (hn x ar),jL,jI,aJ ar];exact⟨_,rfl⟩}
theorem ayf{o m R1 R2:ah}{rs:List ai}(hz:kE o rs)(h1:xI o rs m R1)(h2:yX o rs m R2):R1=R2:=by
 unfold xI at h1;unfold yX at h2;by_cases hc:m.length<12\/128<=(m.getD 2 0).toNat;{rw[aJ hc]at h2;rw[aJ (hc.imp_right (ajy m).2)]at h1;rw[h1,h2]};rw[aF hc]at h2;rw[aF (fun h=>hc (h.imp_right (ajy m).1))]at h1;have vI:12<=m.length:=ae;by_cases hc2:(m.getD 2 0).toNat/8%16≠0;{rw[aJ hc2]at h2;rw[aJ ((ajz m).2 hc2)]at h1;rw[h1,h2,ajw vI 4 0 0 0 0 ae]};rw[aF hc2]at h2;rw[aF (fun h=>hc2 ((ajz m).1 h))]at h1;cases hq:fo m with
 | none =>{rw[hq]at h1 h2;rw[h1,h2,ajw vI 1 0 0 0 0 ae]}
 | some Q =>{
 obtain⟨q,ls,ty,cl,op,sz,aU⟩:=Q;rw[hq]at h1 h2;simp only at h1 h2;obtain⟨t,xa,bL,xd,hx,h2⟩:=h2;obtain⟨o1,o2,o3,_⟩:=Nr hq;have hn:∀x∈ls,x≠[]:=fun x hx=>(o2 x hx).1;obtain⟨⟨k,hk,qy⟩,a2,_⟩:=Nt hz o1 hn ty cl op aU;rw[qy]at h1 h2;have ma:=hx.ma;have mu:=hx.mu;have md:=hx.md;rw[<- ma,<- mu,<- md]at h1 a2;generalize (dC o rs (bh ls) ty cl op aU).1.2.1=bw at *;rw[h1,h2,EM];have hrg:∀x∈xa++(bL++xd),lX (bh ls) x.2.2.1/\ls≠[]:=fun x hx'=>a2 _ (by{rw[<- gJ,<- gJ];exact Cz hx'});have HR:∀x∈xa++(bL++xd),x.2.2.2=ls/\aT x.2.2.1.owner=cC ls\/x.2.2.2=aT x.2.2.1.owner:=fun x hx'=>by{rcases gm.1 hx' with h|h;{have:=hx.la x h;split at this;{rename_i hc;exact .inl ⟨this,hc.2⟩};{exact .inr this}};{exact .inr (hx.yU x h)}};have ayg:∀x∈xa++(bL++xd),EH (bh ls) x/\bh ls≠[]:=fun x hx'=>by{
 obtain⟨g1,g2⟩:=hrg x hx';refine⟨aya g2 g1 (HR x hx'),fun e=>?_⟩;have:=Hh ls g2;rw[e]at this;match ls,g2,hn with
 | y :: t,_,hn =>{have:=hn y ar;have h3:0<y.length:=Cy.2 this;rw[Et]at *;simp only[fy]at *;omega}};have Cb:∀x∈xa++(bL++xd),cC (aT x.2.2.1.owner)=aT x.2.2.1.owner:=fun x hx'=>ax_ (JH (hrg x hx').2) (hrg x hx').1.own;have sa:∀x∈xa,∀y∈xa,o9 x y=bu x.2.2.1 y.2.2.1:=fun x h y h'=>Zr (ax2 (hx.la x h) (hx.la y h') (Cb x (by simp[h])) (Cb y (by simp[h'])));have Zv:∀x∈bL,∀y∈bL,o9 x y=bu x.2.2.1 y.2.2.1:=fun x h y h'=>Zr (ajD (hx.yU x (by simp[h])) (hx.yU y (by simp[h'])));have sd:∀x∈xd,∀y∈xd,o9 x y=bu x.2.2.1 y.2.2.1:=fun x h y h'=>Zr (ajD (hx.yU x (by simp[h])) (hx.yU y (by simp[h'])));have Zx:∃n,bh ls≠[]->jI (iI 12 (bh ls)) (bh ls)=some n:=by{by_cases he:ls = [];{exact⟨0,fun h=>absurd (by rw[he];rfl) h⟩};{by_cases hT:bh ls = [];{exact⟨0,fun h=>absurd hT h⟩};{obtain⟨n,hn'⟩:=aye ls he hn hT;exact⟨n,fun _=>hn'⟩}}};obtain⟨n,Zx⟩:=Zx;have hR:=ax6 (h1:=eB) (h2:=List.replicate 12 0) (T:=bh ls) (n:=n) (o1:=(rB op k).length/11) (most:=Ew op sz) (ol:=(rB op k).length) (by simp[eB]) xa bL xd sa Zv sd ayg ⟨eB++q,(bB ls eB []).2,[1,0,0,(rB op k).length/11],false,false⟩ ⟨(List.replicate 12 0++q,iI 12 (bh ls)),[0,0,0],false⟩ ⟨ax8 ls q hn ae,Zx,⟨0,0,0,rfl,ar⟩,rfl⟩ rfl rfl rfl;unfold Hm EG G3 Jw;rw[ayb,ayc];obtain⟨ajP,sS⟩:=hR;generalize xC (Ew op sz) (rB op k).length 0 [xa,bL,xd] ⟨eB++q,(bB ls eB []).2,[1,0,0,(rB op k).length/11],false,false⟩=W at *;generalize mr ((Ew op sz:Int) - ((rB op k).length:Int)) cX 0 [vS xa,vS bL,vS xd] ⟨(List.replicate 12 0++q,iI 12 (bh ls)),[0,0,0],false⟩=F at *;obtain⟨a,b,c,e1,e2⟩:=ajP.cs;obtain⟨u,s1,s2⟩:=ajP.eq.same;rw[<- sS,e1,e2,s1,s2,ayd];unfold Zg;rw[Si _ k (Zk m 2) ae,show((1024:Int))=((1024:Nat):Int)from rfl,Sj _ 1024 bw (JO _ _) ae,show((512:Int))=((512:Nat):Int)from rfl,Sj _ 512 W.tc (Zj (JO _ _) ae) ae,EM];rw[ajv vI bw W.tc k 1 _ _ _ ae];have d1:(eB++u).drop 12=u:=by rw[List.drop_left' ee]
 have d2:(List.replicate 12 (0:UInt8)++u++rB op k).drop 12=u++rB op k:=by rw[fP,List.drop_left' ar]
 rw[d1,d2,fP];cases op <;> rfl}
theorem ajQ:∀(es:List ah) (l:ah) (ps:cI),(gO es l ps).2.length<=ps.length+es.length/\(gO es l ps).2.length+l.length<=ps.length+(gO es l ps).1.length
 | [],l,ps=>⟨by simp[gO],by simp[gO]⟩
 | e :: es,l,ps=>by
  cases hf:jI ps e with
  | some n=>rw[Mb hf];exact⟨ar,ar⟩
  | none =>{rw[Mc hf];obtain⟨h1,h2⟩:=ajQ es (l++qo e) (rq ps e l.length);have h3:=afg ps e l.length;have h4:(qo e).length=(Aa e).length+1:=rfl;simp only[bj]at h2;exact⟨by simp only[bP];omega,ae⟩}
def xJ:Ak->Nat
 | []=>0
 | .inl _ :: t=>xJ t
 | .inr x :: t=>(az 46 x).length+xJ t
theorem ajR:∀(ns:List ah) (S:ah) (es:dN),(bB ns S es).2.length<=es.length+ns.length/\(bB ns S es).2.length+S.length<=es.length+(bB ns S es).1.length
 | [],S,es=>⟨by simp[bB],by simp[bB]⟩
 | x :: t,S,es=>by
  cases hf:jv (cC (x :: t)) es with
  | some a=>rw[Ea hf];exact⟨ar,ar⟩
  | none =>{rw[yM hf];obtain⟨h1,h2⟩:=ajR t (S++(UInt8.ofNat x.length :: x)) (es++[(cC (x :: t),S.length)]);simp only[bj,bP,fy]at h1 h2 ⊢;exact⟨ae,ae⟩}
theorem Zy:∀(p:Ak) (S:ah) (es:dN),(dg p S es).2.length<=es.length+xJ p/\(dg p S es).2.length+S.length<=es.length+(dg p S es).1.length
 | [],S,es=>⟨bH _,bH _⟩
 | .inl b :: t,S,es=>by obtain⟨h1,h2⟩:=Zy t (S++b) es;rw[bj]at h2;rw[dg,xJ];exact⟨h1,ae⟩
 | .inr x :: t,S,es=>by obtain⟨h1,h2⟩:=Zy t (bB (az 46 x) S es).1 (bB (az 46 x) S es).2;obtain⟨h3,h4⟩:=ajR (az 46 x) S es;rw[dg,xJ];exact⟨ae,ae⟩
theorem ayh{r:ai}(hd:cE r.type (az 32 r.data)=true):xJ (dO r)<=122:=by
 have ht:=Dp hd;have sp:=fun x=>pQ 46 x;rcases ht with ht|ht|ht|ht|ht|ht;all_goals rw[ht]at hd
 all_goals unfold dO
 {rw[aJ ht];simp[xJ]};{obtain⟨a,bT,hp⟩:=Ch (t:=2) (.inl rfl) hd;have:=(gU hp).2;have:=sp a;rw[aF ae,aF ae,aF ae,aF ae];simp[xJ,ey,bT];omega};{obtain⟨a,bT,hp⟩:=Ch (t:=5) (.inr rfl) hd;have:=(gU hp).2;have:=sp a;rw[aF ae,aF ae,aF ae,aF ae];simp[xJ,ey,bT];omega};{obtain⟨a,b,c,d,bT,G1,lU,_,_⟩:=MK hd;have:=(gU G1).2;have:=(gU lU).2;have:=sp a;have:=sp b;rw[aF ae,aF ae,aF ae,aJ ht];simp[xJ,ey,bT];omega};{obtain⟨a,b,bT,_,lU⟩:=ML hd;have:=(gU lU).2;have:=sp b;rw[aF ae,aF ae,aJ ht];simp[xJ,ey,bT];omega};{rw[aF ae,aJ ht];simp[xJ]}
theorem ajS:∀(f:Nat) (x:ah),x.length<=f->∀(l:ah) (ps:cI),(gO (cg x) l ps).1.length<=l.length+x.length+2
 | f,[],_,l,ps=>by rw[rS,gO];simp
 | 0,x :: t,h,_,_=>by simp at h
 | f+1,x :: t,h,l,ps=>by
  generalize hy:x :: t=y at *;have hne:y≠[]:=by rw[<- hy];simp
  rw[qP y hne];cases hf:jI ps y with
  | some n=>rw[Mb hf];have:(QJ n).length=2:=rfl;simp only[bj];omega
  | none =>{
  rw[Mc hf];by_cases hc:(46:UInt8)∈y;{
  obtain⟨a,b,e,ha⟩:=JW hc;have h1:=ajS f (ik y) (by rw[e,CR a b ha];rw[e]at h;simp at h;omega) (l++qo y) (rq ps y l.length);have h2:(qo y).length=a.length+1:=by rw[e];unfold qo;rw[WI a b ha];rfl
  have h3:ik y=b:=by rw[e];exact CR a b ha
  have h4:y.length=a.length+1+b.length:=by rw[e];simp;omega
  rw[bj,h2,h3]at h1;rw[h3];omega};{
  rw[Fc y hc,rS,gO];have h2:(qo y).length=y.length+1:=by unfold qo;rw[WJ y hc];rfl
  simp only[bj,h2,bP,fy];omega}}
theorem ajT:∀(f:Nat) (x:ah),x.length<=f->fC x->2*(cg x).length<=x.length+1
 | f,[],_,_=>by rw[rS];simp
 | 0,x :: t,h,_=>by simp at h
 | f+1,x :: t,h,hn=>by
  generalize hy:x :: t=y at *;have hne:y≠[]:=by rw[<- hy];simp
  rw[qP y hne,bP];rcases oJ 46 y with⟨hd,hs⟩|⟨a,b,e0,ha,e⟩;{have uJ:(46:UInt8) ∉ y:=hd;rw[Fc y uJ,rS];have:0<y.length:=Cy.2 hne;simp;omega};{
  have yy:fC b:=fun z hz=>hn z (by rw[e];exact jY _ hz);have VO:0<a.length:=Cy.2 (hn a (by rw[e];simp));have h4:y.length=a.length+1+b.length:=by rw[e0];simp;omega
  have ih:=ajT f b ae yy;rw[show ik y=b by rw[e0];exact CR a b ha];omega}
theorem ayi(l:ah)(ps:cI)(h:iH ps):kW [] [] l (ps.map fun p=>(aT p.1,p.2)) l ps:=by refine⟨⟨l,rfl,rfl⟩,?_⟩;rw[Cu];intro e he;obtain⟨p,hp,rfl⟩:=jZ.1 he;exact iy (h p hp)
theorem ayj{r:ai}(h:Jt r)(l:ah)(ps:cI)(hp:iH ps):l.length<=(eU (cX r) l ps).1.length/\(eU (cX r) l ps).1.length<=l.length+300/\(eU (cX r) l ps).2.length<=ps.length+122/\(eU (cX r) l ps).2.length+l.length<=ps.length+(eU (cX r) l ps).1.length:=by
 have e:=ahG (h1:=[]) (h2:=[]) rfl h (ayi l ps hp);obtain⟨t,e1,e2⟩:=e.same;have hs:(dg (dO r) l (ps.map fun p=>(aT p.1,p.2))).1.length=(eU (cX r) l ps).1.length:=by rw[e1,e2]
 have hl:=dE List.length e.pl;rw[bY]at hl;have hf:=Cx (fun e:List ah×Nat=>decide (e.2<16384)) (dg (dO r) l (ps.map fun p=>(aT p.1,p.2))).2;have h1:=RF (dO r) l (ps.map fun p=>(aT p.1,p.2));have h2:=Zy (dO r) l (ps.map fun p=>(aT p.1,p.2));have h3:=ahP h.dat;have h4:=ayh h.dat;rw[bY]at h2;rw[hs]at h1 h2;exact⟨ae,ae,ae,ae⟩
theorem ayk{T:ah}{r:ai}(hg:lX T r)(hn:fC r.owner)(l:ah)(ps:cI)(hp:iH ps) :
  (iP r (cX r) l ps).1.length<=l.length+567/\(iP r (cX r) l ps).2.length<=ps.length+250/\(iP r (cX r) l ps).2.length+l.length<=ps.length+(iP r (cX r) l ps).1.length/\iH (iP r (cX r) l ps).2:=by have mP:=(afJ (Rz hg.wr) l ps).2.2 hp;refine⟨?_,?_,?_,mP⟩;all_goals(show _;have aC:=ajQ (cg r.owner) l ps;have c2:=ajS _ r.owner aA l ps;have c3:=ajT _ r.owner aA hn;have aV:=hg.R9;have gh:=(QQ (cg r.owner) l ps).2.2 hp;have d:=ayj hg.wr (((((gO (cg r.owner) l ps).1++(jT r.type.toNat).out)++(jT 1).out)++(yI r.aG).out)++[0,0]) (gO (cg r.owner) l ps).2 gh;have e:iP r (cX r) l ps=BR (cX r) ((((gO (cg r.owner) l ps).1++(jT r.type.toNat).out)++(jT 1).out)++(yI r.aG).out) (gO (cg r.owner) l ps).2:=rfl;rw[e];unfold BR;simp only[WT];have s1:(jT r.type.toNat).out.length=2:=rfl;have s2:(jT 1).out.length=2:=rfl;have s3:(yI r.aG).out.length=4:=rfl;simp only[bj,s1,s2,s3,bP,fy]at d;omega)
theorem ajU{T:ah} : ∀(rs:List ai),(∀r∈rs,lX T r/\fC r.owner)->∀(l:ah) (ps:cI),iH ps ->
  (cH cX rs l ps).1.length<=l.length+567*rs.length/\(cH cX rs l ps).2.length<=ps.length+250*rs.length/\(cH cX rs l ps).2.length+l.length<=ps.length+(cH cX rs l ps).1.length
 | [],_,l,ps,_=>⟨bH _,bH _,bH _⟩
 | r :: rs,h,l,ps,hp=>by obtain⟨h1,h2,h3,h4⟩:=ayk (h r ar).1 (h r ar).2 l ps hp;obtain⟨k1,k2,k3⟩:=ajU rs (fun x hx=>h x (by simp[hx])) (iP r (cX r) l ps).1 (iP r (cX r) l ps).2 h4;show(cH cX rs (iP r (cX r) l ps).1 (iP r (cX r) l ps).2).1.length<=_/\(cH cX rs (iP r (cX r) l ps).1 (iP r (cX r) l ps).2).2.length<=_/\(cH cX rs (iP r (cX r) l ps).1 (iP r (cX r) l ps).2).2.length+l.length<=ps.length+(cH cX rs (iP r (cX r) l ps).1 (iP r (cX r) l ps).2).1.length;rw[bP];exact⟨ae,ae,ae⟩
theorem Zz{T:ah}{l:List ai}(h:∀r∈l,lX T r/\fC r.owner)(hl:l.length<=68):ND l:=by intro x hx s ps hp hs jM;have g_:=CQ hx;obtain⟨h1,h2,h3⟩:=ajU x.2 (fun r hr=>h r (XG hx hr)) s ps hp;exact⟨ae,ae,ae⟩
theorem ayl{o:ah}{rs:List ai}(hz:kE o rs){ls:List ah}(hl:jW ls<=254)(hn:∀x∈ls,x≠[])(ty cl:Int)(op:Bool)(aU:Int) :
  (dC o rs (bh ls) ty cl op aU).1.2.2.1.length<=68/\(dC o rs (bh ls) ty cl op aU).1.2.2.2.length<=68/\(dC o rs (bh ls) ty cl op aU).2.length<=68:=by
 unfold dC;split;{exact⟨ar,ar,ar⟩};{
 split;{exact⟨ar,ar,ar⟩};{
 rename_i h;have hT:bh ls≠[]:=fun e=>h (.inr (.inr e));have iF:ls≠[]:=fun e=>by subst e;exact hT rfl
 have G9:=Ns iF hn;have AX:=Hh ls iF;have g3:=F9 hz ty 9 true false [] (bh ls) G9 ae (fun r hr=>by cases hr) (cV _);have g5:=YX (rs:=rs) (jf o rs ty (bh ls)).2.2.1 ((jf o rs ty (bh ls)).2.2.1++(jf o rs ty (bh ls)).2.2.2) ([],[]) ar;have g6:=FV hz;exact⟨a_ g3.2.2.1 ae,a_ g3.2.2.2 ae,a_ g5 ae⟩}}
theorem ZA{o:ah}{rs:List ai}(hz:kE o rs)(m:ah):ajs o rs m:=by intro q ls ty cl op sz aU hq;obtain⟨o1,o2,_⟩:=Nr hq;have hn:∀x∈ls,x≠[]:=fun x hx=>(o2 x hx).1;obtain⟨_,a2,_⟩:=Nt hz o1 hn ty cl op aU;obtain⟨l1,l2,l3⟩:=ayl hz o1 hn ty cl op aU;have ha:∀r∈(dC o rs (bh ls) ty cl op aU).1.2.2.1++((dC o rs (bh ls) ty cl op aU).1.2.2.2++(dC o rs (bh ls) ty cl op aU).2),lX (bh ls) r/\fC r.owner:=fun r hr=>by{obtain⟨g1,g2⟩:=a2 r hr;refine⟨g1,?_⟩;rcases g1.own with h|h;{rw[h];exact Ns g2 hn};{exact h.ne}};refine⟨Zz (fun r hr=>ha r (by simp[hr])) l1,Zz (fun r hr=>ha r (by simp[hr])) l2,Zz (fun r hr=>ha r (by simp[hr])) l3,?_⟩;unfold iI;rw[bY];have h1:=WL _ (bh ls) aA;by_cases he:ls = [];{subst he;have:(bh []).length=0:=rfl;omega};{have:=Hh ls he;omega}
def ZB:ah:=[0,1,1,0,0,1,0,0,0,0,0,0,3,119,101,98,7,101,120,97,109,112,108,101,3,111,114,103,0,0,1,0,1]
def ZC:ah:=[0,1,133,0,0,1,0,1,0,0,0,0,3,119,101,98,7,101,120,97,109,112,108,101,3,111,114,103,0,0,1,0,1,192,12,0,1,0,1,0,0,0,60,0,4,192,0,2,80]
def ajV:ah:=[115,104,111,114,116]
def ZE:List ah:=[[119,101,98],[101,120,97,109,112,108,101],[111,114,103]]
def JP:ah:=[119,101,98,46,101,120,97,109,112,108,101,46,111,114,103]
theorem aym:fo ZB=some ([3,119,101,98,7,101,120,97,109,112,108,101,3,111,114,103,0,0,1,0,1],ZE,1,1,false,0,0):=aI
theorem ajW:bh ZE=JP:=aI
theorem C9:jf qG qH 1 JP=(0,true,[Ze],[]):=by unfold jf;rw[ajj];kernel_rfl
theorem ahu:sJ qG qH 1 JP = []:=by unfold sJ;rw[C9];kernel_rfl
theorem ayn:dC qG qH (bh ZE) ((1:Nat):Int) ((1:Nat):Int) false ((0:Nat):Int)=((0,true,[Ze],[]),[]):=by rw[ajW];show(jf qG qH 1 JP,sJ qG qH 1 JP)=_;rw[C9,ahu]
theorem ayo:Hm 1 256 false true ((0:Nat):Int) 0 [3,119,101,98,7,101,120,97,109,112,108,101,3,111,114,103,0,0,1,0,1] JP [Ze] [] []=ZC:=aI
theorem ayp{R:ah}(h:xI qG qH ZB R):R=ZC:=by unfold xI at h;rw[aF bD,aF bD,aym]at h;simp only[ayn]at h;rw[h,ajW];exact ayo
theorem ayq:aq ZC=⟨#[0,1,133,0,0,1,0,1,0,0,0,0,3,119,101,98,7,101,120,97,109,112,108,101,3,111,114,103,0,0,1,0,1,192,12,0,1,0,1,0,0,0,60,0,4,192,0,2,80]⟩:=rfl
theorem ayr:aq []=⟨#[]⟩:=rfl
theorem ays{R:ah}(h:xI qG qH ajV R):R = []:=by unfold xI at h;rw[aJ (.inl bD)]at h;exact h
theorem ayt(w:World)(hg:bK w):aB 26 #[] w (bQ (.bool true) w):=by have bI:=ag (ajh Sg w hg);have HG:=ag hg;clear hg;go_enter func26,ntmps26;go_wp2_with fail;refine bI.mono ?_;rintro e w1 ⟨h1,hb1⟩;unfold NA at h1;rw[axx]at h1;obtain⟨bq,zb,g,cap,rfl,hzb,hgb,htab⟩:=h1;have eZ:=ag (Zl zb g 0 cap qG ZB qH w1 bq htab (HG.below hb1) bD (ZA bq _));have HS:=ag (fun W (hb:au w1 W)=>Zl zb g 0 cap qG ajV qH W bq (htab.below hb) (HG.below (hb1.trans (hb.mono hb1.size))) bD (ZA bq _));have bZ:=ag hb1;clear bq htab hb1 bI;go_wp2_with fail;refine eZ.mono ?_;rintro e w2 ⟨⟨R,rfl,hR⟩,hb2⟩;obtain rfl:=ayp hR;have bU:=ag hb2;clear hb2 hR eZ;go_wp2_with fail;refine(HS w2 bU).mono ?_;rintro e w3 ⟨⟨R,rfl,hR⟩,hb3⟩;obtain rfl:=ays hR;have cK:=ag (bZ.trans ((bU.trans (hb3.mono bU.size)).mono bZ.size));clear hb3 hR HS;rw[ayq,ayr];go_wp2;go_ret;exact⟨rfl,cK⟩
def ajX(w:World)(v:Value)(ms:List ah):Prop :=
 ((∃a c,v=.slice a 0 c)/\ms = [])\/∃g off cap,v=aD g off ms.length cap/\ms.length<=cap/\g<w.heap.size/\∀i (h:i<ms.length),w.cell? (ak g (off+i))=some (.string (aq ms[i]))
theorem ayu(s:ah)(ms:List ah)(va:Value)(w:World)(hg:bK w)(ha:ajX w va ms)(uK:ms.length<=10000000)(hnl:∀a∈ms,a.length<=2000000) :
  aB 6 #[ay s,va] w (bQ (.bool true) w):=by
 obtain⟨sa,sc,rU⟩:∃a c,va=.slice a ms.length c:=by{rcases ha with⟨⟨a,c,rfl⟩,rfl⟩|⟨g,off,cap,rfl,_⟩;{exact⟨_,_,rfl⟩};{exact⟨_,_,rfl⟩}};subst rU;have aW:=ag (ayt w hg);have HG:=ag hg;have eZ:=ag ha;have Eb:=ag hnl;clear hg ha hnl;go_enter func6,ntmps6;go_wp2_with fail;refine aW.mono ?_;rintro e w1 ⟨rfl,hb1⟩;have hs1:=hb1.size;have bI:=ag (ajh s w1 (HG.below hb1));have bZ:=ag hb1;clear aW hb1;go_wp2_with fail;refine bI.mono ?_;rintro e w2 ⟨h2,hb2⟩;have hs2:=hb2.size;have ajY:=bZ.trans (hb2.mono hs1);have dn:=ag (axt s w2);have bU:=ag ajY;clear bI hb2 ajY;unfold NA at h2;cases hz:vQ s with
 | none =>{
 rw[hz]at h2;have h2':e=.returned (.tuple #[.pointer none,aj 1]):=h2;subst h2';have dv:=ag hz;clear h2 hz;go_wp2_with fail;refine dn.mono ?_;rintro e w3 ⟨h3,hb3⟩;unfold NB at h3;rw[af dv]at h3;have Y1:e=.returned (.pointer none):=h3;subst Y1;have cK:=ag (bU.trans (hb3.mono ae));clear h3 hb3;go_wp2_with fail;go_loopw [9] (fun iv wr=>iv=aj 0/\wr=w3) (fun _ _=>0);case atStart=>exact⟨rfl,rfl⟩
 case round =>(obtain⟨rfl,rfl⟩:=hrel;by_cases hlt:0<ms.length;{have gy:(0:Int)<(ms.length:Int):=ae;go_wp2;go_ret;exact⟨rfl,cK⟩};{have gy:¬(0:Int)<(ms.length:Int):=ae;go_wp2;go_ret;exact⟨rfl,cK⟩})}
 | some p =>{
 rw[hz]at h2;obtain⟨bq,zp,g,cap,rfl,aCc,hgb,htab⟩:=h2;have dv:=ag hz;have cF:=ag bq;have cS:=ag htab;clear hz bq htab;go_wp2_with fail;refine dn.mono ?_;rintro e w3 ⟨h3,hb3⟩;unfold NB at h3;rw[af dv]at h3;obtain⟨zd,rfl,hzd,Pg⟩:=h3;have hs3:=hb3.size;have BP:=ag (cS.below hb3);have cK:=ag (bU.trans (hb3.mono ae));have Kv:=ag (HG.below cK);have tW:=ag Pg;clear hb3 Pg dn bU cS;go_wp2_with fail;go_loopw [9] (fun iv wr=>∃i:Nat,i<=ms.length/\iv=aj i/\au w3 wr) (fun iv _=>ms.length - (intOf iv).toNat);case atStart=>exact⟨0,cV _,rfl,bR _ _⟩
 case round =>(obtain⟨i,ax,rfl,hb⟩:=hrel;by_cases hlt:i<ms.length;{have gy:(i:Int)<(ms.length:Int):=ae;rcases af eZ with⟨_,h0⟩|⟨Ss,ao,ac,hv,yQ,ajZ,nB⟩;{rw[h0]at hlt;simp at hlt};obtain⟨kz,-,hv3⟩:=mS hv;subst kz hv3;have c0:=nB i hlt;have ij:=cK.trans (hb.mono ae);have gu:wr.cell? (ak Ss (ao+i))=some (.string (aq ms[i])):=(ij.cell (p:=⟨Ss,ao+i,none⟩) ajZ).trans c0;have jc:=af Eb _ (cM hlt);generalize ms[i]=m at *;have nw:=ag (Zl zp g 0 cap p.1 m p.2 wr (af cF) (BP.below hb) (Kv.below hb) jc (ZA (af cF) _));have fk:=hb.size;have kP:=ag (fun W (hb2:au wr W)=>awV zd p.1 m p.2 w3 W (af tW) (hb.trans (hb2.mono fk)) (af cF) jc);have aX:=ag hb;have HD:Hid (∀W,au wr W->W.cell? (ak Ss (ao+i))=some (ay m)):=fun W hW=>(hW.cell (p:=⟨Ss,ao+i,none⟩) (dP ajZ ij.size)).trans gu;clear nB hv hb ij c0 jc;go_wp2_with fail;refine nw.mono ?_;rintro e w5 ⟨⟨R1,rfl,hR1⟩,hb5⟩;have d5:=af HD w5 hb5;have fR:=ag hb5;have BK:=ag hR1;clear hb5 gu nw hR1;go_wp2_with fail;refine(kP w5 fR).mono ?_;rintro e w6 ⟨⟨R2,rfl,hR2⟩,dR⟩;obtain rfl:=ayf (af cF) (af BK) hR2;have hP:=ag (aX.trans ((fR.trans (dR.mono fR.size)).mono fk));clear dR hR2 kP d5;go_wp2;exact⟨⟨i+1,ae,bW,hP⟩,c5⟩};{have gy:¬(i:Int)<(ms.length:Int):=ae;have CY:=ag (cK.trans (hb.mono ae));clear hb;go_wp2;go_ret;exact⟨rfl,CY⟩})}
section
open Go.ChangeShapes Go.WideShapes Go.ChangeAt Go.RowKit
section
variable {H:Type} {enc:TypeId×Value->H}
theorem ayv:ownKnob prog.godebug=none:=aI
theorem ayw{W:World}(h:W.ShapedOpen prog):bK W:=by have hc:∃m,W.cell? (ak 0 0)=some (aj m) := cell_of_shapedOpen_int (zero:=#[aj 0]) (t:=3) h (Ka aI) aI rfl aI aI underlying3;refine⟨?_,hc⟩;obtain⟨m,hm⟩:=hc;rcases Nat.eq_zero_or_pos W.heap.size with h0|h0;{simp[World.cell?,ZH (show W.heap.size<=0 by omega)]at hm};{exact h0}
end
end
end Go.Proofs.YtkkpahmoljiepaaGreatDoor
