import Derived.Test.YtkkpahmoljiepaaGreatDoorJ16
set_option maxRecDepth 1000000
set_option maxHeartbeats 12800000
set_option linter.unusedSimpArgs false
set_option linter.unusedVariables false
namespace Go.Proofs.YtkkpahmoljiepaaGreatDoor
open Go.RowKit Go.Proofs.Tryz
def sW(x:Int):Prop:=(258<=x/\x<=323)\/(770<=x/\x<=835)\/(1024<=x/\x<13312)
theorem WY(rb mb ba bB av us id:Nat)(t:TypeId)(out:List Bool)(w:World)(hr:dy w rb t mb ba bB av us out)(hno:8<=id\/(id<8/\out[id]? = some false)) :
  Calls prog 216 #[.pointer (some ⟨rb,0,none⟩),.int .u32 id] w fun e w'=>e=.returned (.tuple #[.int .i64 0,.bool false])/\w'=w:=by rcases hno with pk|⟨pk,ho⟩;{have k0:(8:Int)<=(id:Int):=ae;clear hr;go_enter func216,ntmps216;go_wp2;refine df (v:=.tuple #[.int .i64 0,.bool false]) ?_ rfl ⟨rfl,rfl⟩;simp[results,results216,go_sem]};{have dm:=rH hr id false ho;have k0:¬(8:Int)<=(id:Int):=ae;clear hr ho;go_enter func216,ntmps216;go_wp2;refine df (v:=.tuple #[.int .i64 0,.bool false]) ?_ rfl ⟨rfl,rfl⟩;simp[results,results216,go_sem]}
theorem WZ(rb mb ba bB av us id:Nat)(t:TypeId)(out:List Bool)(w:World)(hr:dy w rb t mb ba bB av us out)(nW:us<65536)(eR:out.length=8) :
  Calls prog 216 #[.pointer (some ⟨rb,0,none⟩),.int .u32 id] w fun e w'=>∃(s:Nat) (ok:Bool) (zi:Nat) (out':List Bool),e=.returned (.tuple #[.int .i64 s,.bool ok])/\dy w' rb t mb ba bB av zi out'/\zi<65536/\out'.length=8/\(ok=false->out'=out)/\(ok=true->s=id/\id<8/\out[id]? = some true/\out'=out.set id false)/\cF rb w w'/\w'.heap.size=w.heap.size:=by
 by_cases pk:id<8;{
 cases hb:out[id]? with
 | none=>rw[List.getElem?_eq_none_iff]at hb;omega
 | some b =>{
 cases b with
 | true =>{refine(ahx rb mb ba bB av us id t out w hr pk hb nW).mono ?_;rintro e w' ⟨rfl,h1,h2,h3⟩;exact⟨id,true,_,_,rfl,h1,Aa _ ae,by simp[eR],fun h=>(Bool.noConfusion h),fun _=>⟨rfl,pk,rfl,rfl⟩,h2,h3⟩}
 | false =>{refine(WY rb mb ba bB av us id t out w hr (.inr ⟨pk,hb⟩)).mono ?_;rintro e w' ⟨rfl,rfl⟩;exact⟨0,false,us,out,rfl,hr,nW,eR,fun _=>rfl,fun h=>(Bool.noConfusion h),vh _ _,rfl⟩}}};{refine(WY rb mb ba bB av us id t out w hr (.inl ae)).mono ?_;rintro e w' ⟨rfl,rfl⟩;exact⟨0,false,us,out,rfl,hr,nW,eR,fun _=>rfl,fun h=>(Bool.noConfusion h),vh _ _,rfl⟩}
theorem W8(rb mb bb base ba bB av us:Nat)(t:TypeId)(o0 o1 o2 o3 o4 ed ee ei:Bool)(ns:List Int)(st:Nat)(w:World)(h:gi w mb bb base ns st)(hr:dy w rb t mb ba bB av us [o0,o1,o2,o3,o4,ed,ee,ei])(bL:base<=w.heap.size)(eZ:ba<=1000)(nU:ns.length<=900000)(nW:us<65536)(dW:t≠3)(cL:t≠177)(cV:rb≠mb)(dx:rb≠bb) :
  Calls prog 215 #[.pointer (some ⟨rb,0,none⟩)] w fun e w'=>∃n:Nat,e=.returned (.tuple #[.int .i64 n,.bool (decide ((n:Int)<=(qm [o0,o1,o2,o3,o4,ed,ee,ei]:Nat)))])/\n<65536/\gi w' mb bb base (ns++gH (ba+258) 2) st/\kM mb bb base w w':=by
 have eE:Hid (Calls prog 217 #[.pointer (some ⟨rb,0,none⟩),.int .i64 258,.int .i64 2] w.drew _):=Kq rb mb bb base ba bB av us 258 2 t _ ns st w.drew h hr bL ae ae nU dW cL cV dx;have cN:Hid (∀x:Nat,x<2 ^ (8*2)->∃n:Nat,n<65536/\IntKind.u16.wrap (x:Int)=(x:Int)/\IntKind.u16.wrap ((x:Int) - (us:Int))=(n:Int)/\IntKind.i64.wrap (n:Int)=(n:Int)):=fun x hx=>⟨(x+65536 - us)%65536,ae,by rw[jZ];omega,by rw[jZ];omega,by rw[gM];omega⟩
 have bw:=ay.cell hr 4 ak;simp only[dX,dS,ej]at bw;have nS:w.drew.cell? ⟨rb,4,none⟩=some (.int .u16 us):=bw;have aT:=ag hr;clear h hr;go_enter func215,ntmps215;go_wp2_with (fail)
 go_region_held (fun w'=>w'.cell? ⟨rb,4,none⟩=some (.int .u16 us)) (first|assumption|go_keep)
  (first|(go_at_call 217;go_loud (refine(af eE).mono ?_;rintro e w1 ⟨x,hx,rfl,hm1,cz⟩;obtain⟨n,hn,e1,e2,e5⟩:=af cN x hx;clear hx;have hR1:=lX (w:=w.drew) (af aT) cz dW cL cV dx;have hS1:w1.cell? ⟨rb,4,none⟩=some (.int .u16 us):=ay.cell hR1 4 ak)))
 all_goals
  have HC:=ag (ahI rb mb ba bB av us t o0 o1 o2 o3 o4 ed ee ei w1 hR1);have c4:=ag hm1;have dQ:=ag (vY (Kc (bW _ _).drew) cz);clear hm1 cz hR1;go_wp2_with (fail);refine(af HC).mono ?_;rintro e w1 ⟨rfl,rfl⟩;go_wp2_with (fail);refine df (v:=.tuple #[.int .i64 n,.bool (decide ((n:Int)<=(qm [o0,o1,o2,o3,o4,ed,ee,ei]:Nat)))]) ?_ rfl ?_
  ·simp[results,results215,go_sem,e5]
  ·exact⟨n,rfl,hn,af c4,af dQ⟩
theorem ahM(out:List Bool)(eR:out.length=8):∃o0 o1 o2 o3 o4 ed ee ei,out = [o0,o1,o2,o3,o4,ed,ee,ei]:=by
 match out,eR with
 | [o0,o1,o2,o3,o4,ed,ee,ei],_=>exact⟨_,_,_,_,_,_,_,_,rfl⟩
theorem Kr{p k:Nat}{l:List Int}(hl:∀x∈l,sW x)(h:(258<=p/\p+k<=324)\/(770<=p/\p+k<=836)\/(1024<=p/\p+k<=13312)):∀x∈l++gH p k,sW x:=fun x hx=>by
 rcases kP.1 hx with hx|hx
 ·exact hl x hx
 ·have:=O8 hx;unfold sW;omega
def ahN(rb mb bb base av:Nat)(t:TypeId)(ns:List Int)(st:Nat)(w:World)(e:Ending)(w':World):Prop :=
 ∃(ok:Bool) (l:List Int) (zi:Nat) (out':List Bool),e=.returned (.bool ok)/\l.length<=34/\(∀x∈l,sW x)/\gi w' mb bb base (ns++l) st/\dy w' rb t mb 512 13312 av zi out'/\zi<65536/\out'.length=8/\bX (fun i=>i≠rb/\i≠mb/\i≠bb) base w w'
theorem ahO(rb mb bb base av us:Nat)(t:TypeId)(out:List Bool)(ns:List Int)(st:Nat)(w:World)(h:gi w mb bb base ns st)(hr:dy w rb t mb 512 13312 av us out)(bL:base<=w.heap.size)(nW:us<65536)(eR:out.length=8)(nU:ns.length<=800000)(dW:t≠3)(cL:t≠177)(sM:t≠174)(cV:rb≠mb)(dx:rb≠bb) :
  Calls prog 161 #[.pointer (some ⟨rb,0,none⟩)] w fun e w' =>
   ahN rb mb bb base av t ns st w e w':=by
 obtain⟨o0,o1,o2,o3,o4,ed,ee,ei,rfl⟩:=ahM out eR;have pY:=ag (W8 rb mb bb base 512 13312 av us t o0 o1 o2 o3 o4 ed ee ei ns st w h hr bL ae ae nW dW cL cV dx);have Uz:qm [o0,o1,o2,o3,o4,ed,ee,ei]<=8:=by unfold qm;exact yc _ _
 have aT:=ag hr;generalize qm [o0,o1,o2,o3,o4,ed,ee,ei]=co at *;generalize [o0,o1,o2,o3,o4,ed,ee,ei]=out at *;clear h hr;go_enter func161,ntmps161;go_wp2_with (fail);refine(af pY).mono ?_;rintro e w1 ⟨n,rfl,hn,hm1,cz⟩;have fN:=ag (lX (af aT) cz dW cL cV dx);have c4:=ag hm1;have dQ:=ag (bX.Ed (p:=fun i=>i≠rb/\i≠mb/\i≠bb) cz fun i hp=>hp.2);have HC:Hid (decide ((n:Int)<=(co:Nat))=true->n<=8):=fun h=>by have:=CS h;omega
 clear hm1 cz aT pY Uz;generalize decide ((n:Int)<=(co:Nat))=ok at *;go_wp2_with (fail)
 go_loopw [3,4] (fun vn vo wr=>∃(m:Nat) (b:Bool) (l:List Int) (u:Nat) (o:List Bool),vo=.bool b/\vn=.int .i64 m/\m<65536/\l.length<=34/\(b=true->l.length+4*m<=34)/\(∀x∈l,sW x)/\gi wr mb bb base (ns++l) st/\dy wr rb t mb 512 13312 av u o/\u<65536/\o.length=8/\bX (fun i=>i≠rb/\i≠mb/\i≠bb) base w wr) (fun n _ _=>(intOf n).toNat)
 case atStart=>exact⟨n,ok,gH 770 2,us,out,rfl,rfl,hn,by simp[uA],fun h=>by have:=af HC h;simp[uA];omega,fun x hx=>by have:=O8 hx;unfold sW;omega,af c4,af fN,nW,eR,af dQ⟩
 case round =>
  obtain⟨m,b,l,u,o,rfl,rfl,hm,hl,qT,bE,hM,hR,hu,ho,hF⟩:=hrel;have rY:=hF.size;have W9:=ag hM;have O_:=ag hR;have Pa:=ag hF;have ew:=ag bE;clear c4 fN dQ HC bE;by_cases sL:b=true/\0<m
  ·obtain⟨rfl,hm0⟩:=sL;have qT:=qT rfl;have km:(0:Int)<(m:Int):=ae;obtain⟨m1,rfl⟩:∃m1,m=m1+1:=⟨m - 1,ae⟩
   have aqL:((m1+1:Nat):Int) - 1=(m1:Int):=ae;have aqM:IntKind.i64.wrap (m1:Int)=(m1:Int):=by rw[gM];omega
   obtain⟨q,hq⟩:=bP (260+8*(u%8));have Ee:=ag (WA rb mb 512 13312 av u t o wr.drew hR ae);rw[<- hq]at Ee;have ui:(ns++l).length<=900000:=by rw[bU];omega
   have GQ:Hid (Calls prog 217 #[.pointer (some ⟨rb,0,none⟩),.int .i64 q,.int .i64 4] wr.drew _):=Kq rb mb bb base 512 13312 av u q 4 t o (ns++l) st wr.drew hM hR (by show base<=wr.heap.size;omega) ae ae ui dW cL cV dx;have GR:=ag (fun(id:Nat) (W:World) (hW:dy W rb t mb 512 13312 av u o)=>WZ rb mb 512 13312 av u id t o W hW hu ho);have uq:=ag (Kr (p:=512+q) (k:=4) (af ew) ae);clear hM hR hF hq ui;go_wp2_with (fail)
   go_region_held (fun _=>True) (trivial)
    (first|(go_at_call 218;go_loud (refine(af Ee).mono ?_;rintro e w' ⟨rfl,rfl⟩))|(go_at_call 217;go_loud (refine(af GQ).mono ?_;rintro e w2 ⟨id,pk,rfl,fJ,hF2⟩;have hR2:=lX (w:=wr.drew) (af O_) hF2 dW cL cV dx;have ahP:=ag (af GR id w2 hR2)))|(go_at_call 216;go_loud (refine(af ahP).mono ?_;rintro e w3 ⟨s3,NP,u3,o3,rfl,iR,Ks,qa,_,_,hK3,hz3⟩)))
   all_goals
    have cI:=Ko fJ hR2 dW cL sM cV dx (fun i au hne=>hK3.block i au hne);rw[g_]at cI;have eN:=ag cI;have jM:=ag iR;have fY:=ag (((af Pa).trans (bX.sV (bW _ _).drew)).trans ((bX.Ed (p:=fun i=>i≠rb/\i≠mb/\i≠bb) hF2 fun i hp=>hp.2).trans (bX.WW hK3 ae fun i hp=>hp.1)));clear fJ hF2 hR2 cI iR hK3;go_wp2_with (fail);exact⟨⟨m1,NP,l++gH (512+q) 4,u3,o3,rfl,rfl,ae,by simp[uA];omega,fun _=>by simp[uA];omega,af uq,af eN,af jM,Ks,qa,af fY⟩,by simp[intOf]⟩
  ·clear hM hR hF;cases b with
   | false =>
    go_wp2;go_ret;exact⟨false,l,u,o,rfl,hl,af ew,af W9,af O_,hu,ho,af Pa⟩
   | true =>
    have hm0:m=0:=by have:¬0<m:=fun h=>sL ⟨rfl,h⟩;omega
    subst hm0;go_wp2;go_ret;exact⟨true,l,u,o,rfl,hl,af ew,af W9,af O_,hu,ho,af Pa⟩
theorem W_{w:World}{base base':Nat}{t t':TypeId}{sz sz' n n' g:Nat}{v v':Value}{xs xs':List Value}(h:w.ownsRow base t sz v n xs)(h':w.ownsRow base' t' sz' v' n' xs')(ht:t≠t')(hg:v.ownBlock=some g):some g≠v'.ownBlock:=fun e=>by
 obtain⟨_,cur,hc⟩:=px h hg;obtain⟨_,cur',hc'⟩:=px h' e.symm;rw[hc]at hc';simp at hc';exact ht hc'.2
theorem ahQ{w w':World}{mb bb base b0:Nat}{bs:ai}{bm:gY}{aH st:Nat}{v:Value}{l:ai}(h:jr w mb bb base bs bm aH st)(ho:d_ w b0 v l)(kA:bb<b0)(hk:∀i,i<w.heap.size->some i≠v.ownBlock->w'.heap[i]? = w.heap[i]?):jr w' mb bb base bs bm aH st:=by
 obtain⟨fg,vl,vm,ns,hm,hr,hl,hle,ms,eC,gW⟩:=h;have nb:some bb≠v.ownBlock:=fun e=>by obtain⟨hb,_⟩:=px ho e.symm;omega
 exact⟨fg,vl,vm,ns,gZ hm (hk mb (qh hm) (iG hm ho aC)),iH hr (hk bb hr.2.lt nb),jq hl fun g hg=>hk g (lB hl hg) (W_ hl ho aC hg),hle,ms,jq eC fun g hg=>hk g (lB eC hg) (W_ eC ho aC hg),gW⟩
theorem ahR{w w':World}{mb bb base b0:Nat}{v:Value}{l:ai}(ho:d_ w b0 v l)(hF:kM mb bb base w w')(eH:mb<b0)(kA:bb<b0):d_ w' b0 v l :=
 jq ho fun g hg=>by
  obtain⟨hb,cur,hc⟩:=px ho hg;exact hF.block g (lB ho hg) ae ae (.inr ⟨fun c e=>by rw[hc]at e;simp at e,fun c e=>by rw[hc]at e;simp at e⟩)
theorem ahS(w:World)(b:UInt8):∀j u,[Value.int .u8 b.toNat][j]? = some u->(w.alloc (.cells #[.int .u8 b.toNat] 5)).cell? ((⟨w.heap.size,0,none⟩:Addr).add j)=some u:=fun j u hj=>by
 match j,hj with
 | 0,hj=>simp at hj;subst hj;simp[Addr.add]
 | n+1,hj=>simp at hj
theorem ahT(b:UInt8):∀u∈[Value.int .u8 b.toNat],u.oneCell'=true:=fun u hu=>by simp at hu;subst hu;rfl
theorem ahU{w w':World}{mb bb base b0 st:Nat}{ns:List Int}{v:Value}{l:ai}(h:gi w mb bb base ns st)(ho:d_ w b0 v l)(kA:bb<b0)(hk:∀i,i<w.heap.size->some i≠v.ownBlock->w'.heap[i]? = w.heap[i]?):gi w' mb bb base ns st:=by obtain⟨bs,vp,np,h1,h2⟩:=h;exact⟨bs,vp,np,ahQ h1 ho kA hk,sQ h2 fun i _ au=>hk i au.lt (iG au ho aC)⟩
theorem ahV(rb mb bb base ba bB av us slot len n:Nat)(t:TypeId)(out:List Bool)(ns:List Int)(st:Nat)(w:World)(h:gi w mb bb base ns st)(hr:dy w rb t mb ba bB av us out)(bL:base<=w.heap.size)(GP:bB<=100000)(iA:slot<=100)(hlen:len=12+n)(aqN:len<=1536)(hpl:bB+1536*slot+1536<=25600)(nU:ns.length<=900000)(dW:t≠3)(cL:t≠177)(cV:rb≠mb)(dx:rb≠bb) :
  Calls prog 260 #[.pointer (some ⟨rb,0,none⟩),.int .i64 slot,.int .i64 len] w fun e w' =>
   ∃s:ai,e=.returned (.string (ah s))/\s.length=n/\gi w' mb bb base (ns++gH (bB+1536*slot+12) n) st/\kM mb bb base w w':=by
 obtain⟨i0,au,hz0,hz1,hz2⟩:=kS F7;obtain⟨mY,oY⟩:=Kn h;obtain⟨w1,km,ho1,hg1⟩:=run_make_own (P:=prog) w w.heap.size 58 5 i0 (.int .u8 0) 1 AY au hz0 hz1 .i64 .i64 n (by rw[hz2];omega) (by unfold maxLen;omega) (aL _);have k0:IntKind.i64.wrap ((len:Int) - 12)=(n:Int):=by rw[gM];omega
 have hB1:Below w.heap.size w w1:=(bW _ _).grown hg1 (aL _) (fun k hk=>by cases hk);have bA:=ag (O9 h hB1);have HO:Hid (d_ w1 w.heap.size (.slice (some ⟨w.heap.size,0,none⟩) 0 n) []):=ho1;have bg:=ag (Kc (mb:=mb) (bb:=bb) (base:=base) hB1);have aT:=ag hr;have fZ:=ag hlen;have sP:n<=1524:=ae;clear h hr ho1 hg1 hB1 hlen;go_enter func260,ntmps260;go_wp2_with (fail)
 go_loopw [7,8] (fun v i wr=>∃(k:Nat) (v':Value) (s:ai),v'=v/\i=.int .i64 (12+k:Nat)/\k<=n/\s.length=k/\d_ wr w.heap.size v s/\gi wr mb bb base (ns++gH (bB+1536*slot+12) k) st/\kM mb bb base w wr) (fun _ i _=>len - (intOf i).toNat)
 case atStart=>exact⟨0,_,[],rfl,rfl,dY _,rfl,af HO,by simpa [gH]using af bA,af bg⟩
 case round =>
  obtain⟨k,v,s,rfl,rfl,hk,GS,ho,hm,hF⟩:=hrel;have c4:=ag hm;have dQ:=ag hF;have ij:=ag ho;have rY:=hF.size;by_cases hlk:k<n
  ·have hR1:=lX (af aT) hF dW cL cV dx;have r0:=ay.cell hR1 0 ak;simp only[dX,dS,ej]at r0;have eC:=Ww mb;have vr:=Wx;obtain⟨q,hq⟩:=bP (bB+1536*slot);obtain⟨i,Kt⟩:=bP (12+k);obtain⟨jQ,gy⟩:=bP (q+i);have pj:Hid (gH (bB+1536*slot+12) (k+1)=gH (bB+1536*slot+12) k++[(jQ:Int)]):=by rw[Hid,gH,gy,Kt,hq,show bB+1536*slot+12+k=bB+1536*slot+(12+k) by omega]
   have ui:(ns++gH (bB+1536*slot+12) k).length<=1000000:=by rw[bU,uA];omega
   have e1:IntKind.i64.wrap ((q:Int)+(i:Int))=(jQ:Int):=by have:=af fZ;rw[gM];omega
   have GU:=ag (OW rb mb ba bB av us slot t out wr.drew hR1 GP iA);rw[<- hq]at GU;have GQ:=ag (WX mb bb base jQ _ st wr.drew hm (by show base<=wr.heap.size;omega) (by have:=af fZ;omega) ui);have nS:wr.drew.cell? ⟨rb,0,none⟩=some (.iface 71 (.pointer (some ⟨mb,0,none⟩))):=r0;have ot:Hid (∀W':World,kM mb bb base wr.drew W'->W'.cell? ⟨rb,0,none⟩=some (.iface 71 (.pointer (some ⟨mb,0,none⟩)))):=fun W' hF=>(dC (hF.block rb (ay.lt hR1) cV dx (.inr ⟨fun cur e=>dW (by have:=hR1.symm.trans e;simp at this;exact this.2),fun cur e=>cL (by have:=hR1.symm.trans e;simp at this;exact this.2)⟩))).trans r0;have ew:Hid (∀W':World,kM mb bb base wr.drew W'->W'.ownsRow w.heap.size 5 1 v k (s.map fun c=>.int .u8 c.toNat)/\wr.heap.size<=W'.heap.size):=fun W' hF=>by
    have:=ahR (w:=wr.drew) ho hF mY oY;unfold d_ at this;rw[GS]at this;exact⟨this,hF.size⟩
   rw[<- Kt];have N8:(i:Int)<(len:Int):=by have:=af fZ;omega
   obtain⟨i1,Pb⟩:=bP (12+(k+1));have ahW:(i:Int)+1=(i1:Int):=ae;have vA:=ag Pb;have ahX:=ag Kt;have Xa:rb<w.heap.size:=ay.lt (af aT);have ahY:some rb≠v.ownBlock:=fun e=>by obtain⟨hb,_⟩:=px ho e.symm;omega
   have Fz:Hid (∀(cb:UInt8) (w2 w3:World),wr.heap.size<=w2.heap.size->(w2.alloc (.cells #[.int .u8 cb.toNat] 5)).grownBy w3 v.ownBlock->w2.cell? ⟨rb,0,none⟩=some (.iface 71 (.pointer (some ⟨mb,0,none⟩)))->w3.cell? ⟨rb,0,none⟩=some (.iface 71 (.pointer (some ⟨mb,0,none⟩)))):=fun cb w2 w3 hz hg h2=>(dC ((hg.block rb aX ahY).trans (bV _ _ _ ae))).trans h2;clear hm hF ho hq gy hR1 Kt Pb ui;go_wp2_with (fail)
   go_region_held_law (fun w'=>w'.cell? ⟨rb,0,none⟩=some (.iface 71 (.pointer (some ⟨mb,0,none⟩)))) (first|assumption|go_keep)
    (first|(go_at_call 214;go_loud (refine(af GU).mono ?_;rintro e w' ⟨rfl,rfl⟩))|(go_at_call 159;go_loud (refine(af GQ).mono ?_;rintro e w2 ⟨cb,rfl,fJ,hF2⟩;have eU:=af ot w2 hF2;obtain⟨Ku,ahZ⟩:=af ew w2 hF2))|(refine step_append_lies _ nz (.tmp 17) (.tmp 33) 58 nz w.heap.size 5 i0 (.int .u8 0) 1 1 AY au hz0 hz1 hz2 rfl aC v k _ nz (Ku.alloc _) ⟨w2.heap.size,0,none⟩ 1 1 [.int .u8 cb.toNat] nz rfl (ahS w2 cb) (ahT cb) aC (by unfold maxLen;omega) ae aX (w2.heap.size+1) ak ?_;intro g cap w3 hown hgrow hat hlt3;have iF:=af Fz cb w2 w3 ahZ hgrow eU))
   all_goals
    have hv2:v.ownBlock=none\/∃g',v.ownBlock=some g'/\w.heap.size<=g':=by
     cases hv:v.ownBlock with
     | none=>exact .inl rfl
     | some g'=>exact .inr ⟨g',rfl,(px Ku hv).1⟩
    have hk3:∀i,i<w2.heap.size->some i≠v.ownBlock->w3.heap[i]? = w2.heap[i]?:=fun i au hne=>(hgrow.block i aX hne).trans (bV _ _ _ au);have cI:=ahU (b0:=w.heap.size) (l:=s) fJ (by unfold d_;rw[GS];exact Ku) oY hk3;have eN:=ag cI;have eV:Hid (d_ w3 w.heap.size (.slice (some ⟨g,0,none⟩) (k+1) cap) (s++[cb])):=by
     unfold Hid d_;rw[bU,GS,n_];exact hown
    have BA:=vY (vY (af dQ) (Kc (bW _ _).drew)) hF2;have fY:Hid (kM mb bb base w w3):=⟨hgrow.os.trans BA.os,hgrow.tape.trans BA.tape,hgrow.output.trans BA.output,a_ BA.size (a_ ak hgrow.size),fun i au h1 h2 hp=>(hk3 i (by have:=BA.size;omega) (fun e=>by
     rcases hv2 with hv|⟨g',hv,mq⟩
     ·rw[hv]at e;cases e
     ·rw[hv]at e;cases e;omega)).trans (BA.block i au h1 h2 hp)⟩
    clear fJ hF2 Ku hown hgrow cI hk3 BA hv2;go_wp2_with (fail);exact⟨⟨k+1,_,s++[cb],rfl,by rw[<- af vA],ae,by rw[bU,GS];rfl,af eV,by have:=af eN;rw[af pj,<- g_];exact this,af fY⟩,by have:=af fZ;have:=af vA;have:=af ahX;simp[intOf];omega⟩
  ·have eJ:k=n:=ae;subst eJ;have kc:=JC ho;have N8:¬(12:Int)+(k:Int)<(len:Int):=by have:=af fZ;omega
   clear hm hF ho ij;go_wp2;go_ret;exact⟨s,rfl,GS,af c4,af dQ⟩
def Xb(rb mb bb base:Nat)(t:TypeId)(out:List Bool)(ns:List Int)(st:Nat)(w:World)(e:Ending)(w':World):Prop :=
 ∃(s:ai) (ok:Bool) (l:List Int) (GV zi st':Nat),e=.returned (.tuple #[.string (ah s),.bool ok])/\s.length<=1524/\l.length<=1532/\(∀x∈l,sW x)/\st'<=st+4/\gi w' mb bb base (ns++l) st'/\dy w' rb t mb 0 1024 GV zi out/\GV<65536/\zi<65536/\bX (fun i=>i≠rb/\i≠mb/\i≠bb) base w w'
theorem Xc{w w':World}{mb bb base np aH st rb:Nat}{vp:Value}{bs:ai}{W:gY}{t:TypeId}{cs:List Value}(hp:jE w vp np)(hm:jr w mb bb base bs W aH st)(hr:ay w rb cs t)(ht:t≠174)(hF:bX (fun i=>i≠rb/\i≠mb/\i≠bb) base w w'):jE w' vp np:=ahK hp hm fun i _ au h1 h2=>hF.block i au.lt ⟨fun e=>by subst e;exact qo au (fun x=>ht x.symm) _ hr,h1,h2⟩ (.inr ⟨qo au aC,qo au aC⟩)
theorem ah0(rb mb bb base av us:Nat)(t:TypeId)(out:List Bool)(ns:List Int)(st:Nat)(w:World)(h:gi w mb bb base ns st)(hr:dy w rb t mb 0 1024 av us out)(bL:base<=w.heap.size)(sR:av<65536)(nW:us<65536)(eR:out.length=8)(nU:ns.length<=800000)(hst:st<=800000)(dW:t≠3)(cL:t≠177)(sM:t≠174)(cV:rb≠mb)(dx:rb≠bb) :
  Calls prog 220 #[.pointer (some ⟨rb,0,none⟩)] w fun e w'=>Xb rb mb bb base t out ns st w e w':=by
 obtain⟨mY,oY⟩:=Kn h;obtain⟨q,hq⟩:=bP (260+8*(us%8));obtain⟨q4,Gt⟩:=bP (q+4);have Ee:=ag (WA rb mb 0 1024 av us t out w hr nW);have Dh:Hid (Calls prog 217 #[.pointer (some ⟨rb,0,none⟩),.int .i64 q,.int .i64 4] w _):=Kq rb mb bb base 0 1024 av us q 4 t out ns st w h hr bL ae ae ae dW cL cV dx;rw[<- hq]at Ee;have e4:IntKind.i64.wrap ((q:Int)+4)=(q4:Int):=by rw[gM];omega
 have e4':(q:Int)+4=(q4:Int):=ae;have aT:=ag hr;have aqO:q4<=320:=ae;have sX:264<=q4:=ae;have yF:=ag Gt;clear h hr hq Gt;go_enter func220,ntmps220;go_wp2_with (fail);refine(af Ee).mono ?_;rintro e w ⟨rfl,rfl⟩;go_wp2_with (fail);refine(af Dh).mono ?_;rintro e w1 ⟨id,pk,rfl,hm1,cz⟩;have hR1:=lX (af aT) cz dW cL cV dx;have hz1:=cz.size;have dg:(ns++gH (0+q) 4).length<=900000:=by rw[bU,uA];omega
 have FZ:Hid (Calls prog 217 #[.pointer (some ⟨rb,0,none⟩),.int .i64 q4,.int .i64 4] w1 _):=Kq rb mb bb base 0 1024 av us q4 4 t out _ st w1 hm1 hR1 ae ae ae dg dW cL cV dx;have fN:=ag hR1;have dQ:=ag cz;clear Dh aT hm1 hR1 cz Ee dg;go_wp2_with (fail);refine(af FZ).mono ?_;rintro e w2 ⟨len,hlen,rfl,fJ,hF2⟩;have hR2:=lX (af fN) hF2 dW cL cV dx;have hz2:=hF2.size;have GR:=ag (WZ rb mb 0 1024 av us id t out w2 hR2 nW eR);rw[g_]at fJ;have eE:Hid (∀x∈gH (0+q) 4++gH (0+q4) 4,sW x):=Kr (fun x hx=>by have:=O8 hx;have:=af yF;unfold sW;omega) ae;have fZ:Hid ((gH (0+q) 4++gH (0+q4) 4).length=8):=by rw[Hid,bU,uA,uA]
 generalize gH (0+q) 4++gH (0+q4) 4=l at *;have jn:=ag fJ;have gv:=ag hR2;have iB:=ag (vY (af dQ) hF2);have yO:=ag (bX.Ed (p:=fun i=>i≠rb/\i≠mb/\i≠bb) (af iB) fun i hp=>hp.2);clear FZ fN dQ fJ hR2 hF2;by_cases hk:12<=len/\len<=1536;{
 have k1:¬(len:Int)<12:=ae;have k2:¬(1536:Int)<(len:Int):=ae;have k3:IntKind.i64.wrap (len:Int)=(len:Int):=by rw[gM];omega
 go_wp2_with (fail);refine(af GR).mono ?_;rintro e w3 ⟨sl,ok,Ef,Pc,rfl,iR,Ks,qa,Kv,Pg,hK3,hz3⟩;have eN:=ag (Ko (af jn) (af gv) dW cL sM cV dx (fun i au hne=>hK3.block i au hne));have fY:=ag ((af yO).trans (bX.WW hK3 ae fun i hp=>hp.1));have jM:=ag iR;clear GR jn gv iB yO iR hK3;cases ok with
 | false =>{have Au:=ag (Kv rfl);clear Kv Pg;go_wp2;refine df (v:=.tuple #[.string ⟨#[]⟩,.bool false]) ?_ rfl ?_;{simp[results,results220,go_sem]};{refine⟨[],false,l,av,Ef,st,rfl,ak,by rw[af fZ];omega,af eE,ae,af eN,?_,sR,Ks,af fY⟩;rw[<- af Au];exact af jM}}
 | true =>{
 obtain⟨rfl,aqP,hout,Xd⟩:=Pg rfl;obtain⟨n,rfl⟩:∃n,len=12+n:=⟨len - 12,ae⟩;have hl3:(ns++l).length<=900000:=by rw[bU,af fZ];omega
 have tP:=ag (ahV rb mb bb base 0 1024 av Ef sl (12+n) n t Pc _ st w3 (af eN) (af jM) ae ae ae rfl ae ae hl3 dW cL cV dx);have ah1:=ag Xd;have ah2:=ag hout;clear Kv Pg Xd hout hl3 eN;go_wp2_with (fail);refine(af tP).mono ?_;rintro e w4 ⟨s,rfl,iA,hm4,qj⟩;have nh:=lX (af jM) qj dW cL cV dx;have Ph:=qj.size;have tT:Below w4.heap.size w4 (w4.alloc (.cells #[.int .i64 sl] 3)):=(bW _ _).alloc (aL _) _;have kH:dy (w4.alloc (.cells #[.int .i64 sl] 3)) rb t mb 0 1024 av Ef Pc:=(bV _ _ _ (ay.lt nh)).trans nh;have hc5:(w4.alloc (.cells #[.int .i64 sl] 3)).cell? ⟨w4.heap.size,0,none⟩=some (.int .i64 sl):=ay.cell (ay.eo w4 [.int .i64 sl] 3) 0 ak;have Xa:=ay.lt nh;rw[g_]at hm4;have ah3:=ag (Kr (p:=1024+1536*sl+12) (k:=n) (af eE) ae);have ah4:Hid ((l++gH (1024+1536*sl+12) n).length<=1532):=by rw[Hid,bU,af fZ,uA];omega
 generalize l++gH (1024+1536*sl+12) n=l4 at *;obtain⟨bs,vp,np,hme,gy⟩:=O9 hm4 tT;have pj:=ag (bQ gy hme);have mV:=ag kH;have iN:Hid (Calls prog 153 #[.pointer (some ⟨rb,0,none⟩),.slice (some ⟨w4.heap.size,0,none⟩) 1 1] (w4.alloc (.cells #[.int .i64 sl] 3)) _) := WQ rb mb bb base 0 1024 av Ef w4.heap.size 1 t Pc _ _ st bs [sl] _ _ hme kH aX ae hst sR qa (fun x hx=>by simp at hx;omega) ak (.inr rfl) (fun e=>by cases e) (fun j hj=>by{
 have:j=0:=by simp at hj;omega
 subst this;exact hc5}) (fun _=>⟨ak,ae,ae,ae,fun cur e=>by have:=(World.alloc_heap_new w4 _).symm.trans e;simp at this⟩) dW cL cV dx
 have jB:=ag (((af fY).trans (bX.Ed qj fun i hp=>hp.2)).trans (bX.sV tT));clear tP jM fY hm4 qj nh kH hc5 tT hme gy eE fZ;go_wp2_with (fail);refine(af iN).mono ?_;rintro e w5 ⟨rfl,vM,kH,pA⟩;have Pj:=bX.WV (p:=fun i=>i≠rb/\i≠mb/\i≠bb) pA fun i hp=>hp;have GW:Hid (gi w5 mb bb base (ns++l4) (st+4)):=⟨_,vp,np,vM,Xc (af pj).1 (af pj).2 (af mV) sM Pj⟩;have Eg:Hid (dy w5 rb t mb 0 1024 ((av+1)%65536) Ef out):=by{simp only[nj]at kH;obtain⟨Xe,ah5⟩:=iu.1 (af ah2);rw[af ah1,List.set_set,show out.set sl true=out by rw[<- ah5];exact ab3 _]at kH;exact kH};have pB:=ag ((af jB).trans Pj);clear iN vM kH pA jB Pj pj mV;go_wp2_with (fail);refine df (v:=.tuple #[.string (ah s),.bool true]) ?_ rfl ?_;{simp[results,results220,go_sem]};{exact⟨s,true,l4,_,Ef,st+4,rfl,ae,af ah4,af ah3,ae,af GW,af Eg,Aa _ ae,Ks,af pB⟩}}};{clear GR;have qW:Hid (Xb rb mb bb base t out ns st w (.returned (.tuple #[.string ⟨#[]⟩,.bool false])) w2):=⟨[],false,l,av,us,st,rfl,ak,by rw[af fZ];omega,af eE,ae,af jn,af gv,sR,nW,af yO⟩;by_cases k1:(len:Int)<12;{go_wp2;refine df (v:=.tuple #[.string ⟨#[]⟩,.bool false]) ?_ rfl (af qW);simp[results,results220,go_sem]};{have k2:(1536:Int)<(len:Int):=ae;go_wp2;refine df (v:=.tuple #[.string ⟨#[]⟩,.bool false]) ?_ rfl (af qW);simp[results,results220,go_sem]}}
theorem ah6(rb mb ba bB av us j:Nat)(t:TypeId)(out:List Bool)(w:World)(hr:dy w rb t mb ba bB av us out)(hj:j<8)(hpre:∀i,i<j->out[i]? = some true)(hat:out[j]? = some false) :
  Calls prog 261 #[.slice (some ⟨rb,5,none⟩) 8 8,.bool false] w fun e w'=>e=.returned (.int .i64 j)/\w'=w:=by
 have aT:=ag hr;have bG:=ag hpre;have cj:=rH hr j false hat;clear hr hpre;go_enter func261,ntmps261;go_wp2_with (fail);go_loopw [8] (fun i wr=>∃k:Nat,i=.int .i64 k/\k<=j/\wr=w) (fun i _=>8 - (intOf i).toNat);case atStart=>exact⟨0,rfl,ae,rfl⟩
 case round =>(obtain⟨k,rfl,hk,rfl⟩:=hrel;have D8:k<8:=ae;by_cases hlk:k<j;{have ck:=rH (af aT) k true (af bG k hlk);go_wp2;exact⟨⟨k+1,dD,ae,by first|trivial|rfl⟩,gN⟩};{have eJ:k=j:=ae;subst eJ;go_wp2;go_ret;exact⟨rfl,rfl⟩})
theorem ah7(rb mb ba bB av us:Nat)(t:TypeId)(out:List Bool)(w:World)(hr:dy w rb t mb ba bB av us out)(hpre:∀i,i<8->out[i]? = some true) :
  Calls prog 261 #[.slice (some ⟨rb,5,none⟩) 8 8,.bool false] w fun e w'=>e=.returned (.int .i64 (-1))/\w'=w:=by
 have aT:=ag hr;have bG:=ag hpre;clear hr hpre;go_enter func261,ntmps261;go_wp2_with (fail);go_loopw [8] (fun i wr=>∃k:Nat,i=.int .i64 k/\k<=8/\wr=w) (fun i _=>8 - (intOf i).toNat);case atStart=>exact⟨0,rfl,ae,rfl⟩
 case round =>(obtain⟨k,rfl,hk,rfl⟩:=hrel;by_cases hlk:k<8;{have ck:=rH (af aT) k true (af bG k hlk);go_wp2;exact⟨⟨k+1,dD,ae,by first|trivial|rfl⟩,gN⟩};{have eJ:k=8:=ae;subst eJ;go_wp2;go_ret;exact⟨rfl,rfl⟩})
theorem ah8(rb mb bb base ba bB av us slot:Nat)(t:TypeId)(out:List Bool)(bm:gY)(aH st:Nat)(bs s:ai)(w:World)(h:jr w mb bb base bs bm aH st)(hr:dy w rb t mb ba bB av us out)(bL:base<=w.heap.size)(GP:bB<=100000)(iA:slot<=100)(hp:bB+1536*slot+12+s.length<=25600)(hst:st<=800000)(dW:t≠3)(cL:t≠177)(cV:rb≠mb)(dx:rb≠bb) :
  Calls prog 262 #[.pointer (some ⟨rb,0,none⟩),.int .i64 slot,.string (ah s)] w fun e w' =>
   e=.returned (.tuple #[])/\jr w' mb bb base (zh (fS bs (bB+1536*slot) 0 12) (bB+1536*slot+12) s s.length) bm aH (st+12+s.length)/\ni mb bb base w w':=by
 obtain⟨q,hq⟩:=bP (bB+1536*slot);have GU:=ag (OW rb mb ba bB av us slot t out w hr GP iA);rw[<- hq]at GU ⊢;have aqQ:q+12+s.length<=25600:=ae;have eC:=OU mb;have vr:=OV;have sz:(ah s).size=s.length:=dt s;have bA:=ag h;have aT:=ag hr;have Pk:Hid (∀W,ni mb bb base w W->W.cell? ⟨rb,0,none⟩=some (.iface 71 (.pointer (some ⟨mb,0,none⟩)))):=fun W hF=>ay.cell (lX hr (vZ hF) dW cL cV dx) 0 ak;clear h hr hq hp;go_enter func262,ntmps262;go_wp2_with (fail);refine(af GU).mono ?_;rintro e w ⟨rfl,rfl⟩;go_wp2_with (fail)
 go_loopw [14] (fun i wr=>∃k:Nat,i=.int .i64 k/\k<=12/\jr wr mb bb base (fS bs q 0 k) bm aH (st+k)/\ni mb bb base w wr) (fun i _=>12 - (intOf i).toNat)
 case atStart=>exact⟨0,rfl,dY _,af bA,Ws _ _ _ _⟩
 case round =>
  obtain⟨k,rfl,hk,hm,hF⟩:=hrel;have rY:=hF.size;by_cases hlk:k<12
  ·obtain⟨jQ,gy⟩:=bP (q+k);have e2:IntKind.i64.wrap ((q:Int)+(k:Int))=(jQ:Int):=by rw[gM];omega
   have e2':(q:Int)+(k:Int)=(jQ:Int):=ae;have r0:=af Pk wr hF;have HST:Hid (Calls prog 155 #[.pointer (some ⟨mb,0,none⟩),.int .i64 jQ,.int .u8 0] wr _):=Wv mb bb base jQ 0 bm aH (st+k) (fS bs q 0 k) wr hm ae ae ae;have D9:Hid ((fS bs q 0 k).set jQ 0=fS bs q 0 (k+1)):=by rw[Hid,fS,gy];simp
   have dQ:=ag hF;clear hm hF gy;go_wp2_with (fail);refine(af HST).mono ?_;rintro e w1 ⟨rfl,hm1,cz⟩;rw[af D9]at hm1;have c4:=ag hm1;have iB:=ag (zg (af dQ) cz);clear hm1 cz HST;go_wp2_with (fail);exact⟨⟨k+1,dD,ae,by have:=af c4;rwa [uX]at this,af iB⟩,gN⟩
  ·have eJ:k=12:=ae;subst eJ;have c4:=ag hm;have dQ:=ag hF;clear hm hF;go_wp2_with (fail)
   go_loopw [8,29] (fun _ i wr=>∃k:Nat,i=.int .i64 k/\k<=s.length/\jr wr mb bb base (zh (fS bs q 0 12) (q+12) s k) bm aH (st+12+k)/\ni mb bb base w wr) (fun _ i _=>s.length - (intOf i).toNat)
   case atStart=>exact⟨0,rfl,dY _,af c4,af dQ⟩
   case round =>
    obtain⟨k,rfl,hk2,hm,hF⟩:=hrel;have yq:=hF.size;by_cases ah9:k<s.length
    ·obtain⟨p_,Xf⟩:=bP (q+12);obtain⟨jQ,gy⟩:=bP (p_+k);have e1:IntKind.i64.wrap ((q:Int)+12)=(p_:Int):=by rw[gM];omega
     have e2:IntKind.i64.wrap ((p_:Int)+(k:Int))=(jQ:Int):=by rw[gM];omega
     have r0:=af Pk wr hF;obtain⟨cb,hcb⟩:∃cb:UInt8,s[k]=cb:=⟨_,rfl⟩
     have g1:∀h:k<(ah s).size,(ah s)[k]=cb:=fun h=>hcb;have HST:=ag (Wv mb bb base jQ cb bm aH (st+12+k) (zh (fS bs q 0 12) (q+12) s k) wr.drew hm (by show base<=wr.heap.size;omega) ae ae);have D9:Hid ((zh (fS bs q 0 12) (q+12) s k).set jQ cb=zh (fS bs q 0 12) (q+12) s (k+1)):=by
      rw[Hid,zh,gy,Xf,mM ah9,hcb];rfl
     have dQ:=ag hF;have nS:wr.drew.cell? ⟨rb,0,none⟩=some (.iface 71 (.pointer (some ⟨mb,0,none⟩))):=r0;have ot:Hid (∀W':World,ni mb bb base wr.drew W'->W'.cell? ⟨rb,0,none⟩=some (.iface 71 (.pointer (some ⟨mb,0,none⟩)))):=fun W' hF'=>af Pk W' (zg hF (zg (OT (bW _ _).drew) hF'));clear hm hF gy Xf hcb;go_wp2_with (fail)
     go_region_held (fun w'=>w'.cell? ⟨rb,0,none⟩=some (.iface 71 (.pointer (some ⟨mb,0,none⟩)))) (first|assumption|go_keep)
      (first|(go_at_call 155;go_loud (refine(af HST).mono ?_;rintro e w1 ⟨rfl,hm1,cz⟩;have eU:=af ot w1 cz)))
     all_goals
      rw[af D9]at hm1;have jn:=ag hm1;have iB:=ag (zg (af dQ) (zg (OT (bW _ _).drew) cz));clear hm1 cz;go_wp2_with (fail);refine⟨⟨_,_,_,_,_,_,_,_,_,_,_,_,_,_,_,_,_,_,_,_,⟨k+1,dD,ae,by have:=af jn;rwa [uX]at this,af iB⟩,rfl⟩,gN⟩
    ·have eJ:k=s.length:=ae;subst eJ;have jn:=ag hm;have iB:=ag hF;clear hm hF;go_wp2;refine fy (v:=.tuple #[]) (by simp[results,results262]) rfl ?_;exact⟨rfl,af jn,af iB⟩
def Xg(bs:ai)(ba bB av j:Nat)(s:ai):ai :=
 fS (fS (fS (zh (fS bs (bB+1536*j) 0 12) (bB+1536*j+12) s s.length) (ba+(16*j+8)) (12+s.length) 4) (ba+(132+2*(av%8))) j 2) (ba+130) ((av+1)%65536) 2
theorem ah_(rb mb ba bB av us:Nat)(t:TypeId)(out:List Bool)(s:ai)(w:World)(hr:dy w rb t mb ba bB av us out)(hpre:∀i,i<8->out[i]? = some true) :
  Calls prog 221 #[.pointer (some ⟨rb,0,none⟩),.string (ah s)] w fun e w'=>e=.returned (.bool false)/\w'=w:=by have fp:=ag (ah7 rb mb ba bB av us t out w hr hpre);clear hr hpre;go_enter func221,ntmps221;go_wp2_with (fail);refine(af fp).mono ?_;rintro e w ⟨rfl,rfl⟩;go_wp2_with (fail);go_ret;exact⟨rfl,rfl⟩
theorem aia(rb mb bb base ba bB av us j:Nat)(t:TypeId)(out:List Bool)(bm:gY)(aH st:Nat)(bs s:ai)(w:World)(h:jr w mb bb base bs bm aH st)(hr:dy w rb t mb ba bB av us out)(bL:base<=w.heap.size)(eZ:ba<=1000)(GP:bB<=13312)(sR:av<65536)(eR:out.length=8)(hj:j<8)(hpre:∀i,i<j->out[i]? = some true)(hat:out[j]? = some false)(iA:s.length<=1524)(hst:st<=700000)(dW:t≠3)(cL:t≠177)(cV:rb≠mb)(dx:rb≠bb) :
  Calls prog 221 #[.pointer (some ⟨rb,0,none⟩),.string (ah s)] w fun e w' =>
   e=.returned (.bool true)/\jr w' mb bb base (Xg bs ba bB av j s) bm aH (st+20+s.length)/\dy w' rb t mb ba bB ((av+1)%65536) us (out.set j true)/\bX (fun i=>i≠rb/\i≠mb/\i≠bb) base w w':=by
 obtain⟨mY,oY⟩:=Ec h;have fp:=ag (ah6 rb mb ba bB av us j t out w hr hj hpre hat);have HW:=ag (ah8 rb mb bb base ba bB av us j t out bm aH st bs s w h hr bL ae ae ae ae dW cL cV dx);have aT:=ag hr;have sz:(ah s).size=s.length:=dt s;obtain⟨p8,Xh⟩:=bP (16*j+8);obtain⟨l12,Xi⟩:=bP (12+s.length);have k1:(16:Int)*(j:Int)+8=(p8:Int):=ae;have k2:(12:Int)+(s.length:Int)=(l12:Int):=ae;have aqR:p8<=120:=ae;have aqS:l12<=1536:=ae;have Kw:=ag Xh;have aib:=ag Xi;clear h hr hpre hat Xh Xi;go_enter func221,ntmps221;go_wp2_with (fail);refine(af fp).mono ?_;rintro e w ⟨rfl,rfl⟩;go_wp2_with (fail);refine(af HW).mono ?_;rintro e w1 ⟨rfl,hm1,cz⟩;have hR1:=lX (af aT) (vZ cz) dW cL cV dx;have hz1:=cz.size;have HST:=ag (ahj rb mb bb base ba bB av us p8 4 l12 t out bm aH (st+12+s.length) _ w1 hm1 hR1 ae ae ae ae ae cL cV dx);have dQ:=ag cz;have fN:=ag hR1;clear HW fp aT hm1 cz hR1;go_wp2_with (fail);refine(af HST).mono ?_;rintro e w4 ⟨rfl,hm4,qj⟩;have nh:=lX (af fN) (vZ qj) dW cL cV dx;have Ph:=qj.size;have tT:Below w4.heap.size w4 (w4.alloc (.cells #[.int .i64 j] 3)):=(bW _ _).alloc (aL _) _;have kH:dy (w4.alloc (.cells #[.int .i64 j] 3)) rb t mb ba bB av us out:=(bV _ _ _ (ay.lt nh)).trans nh;have hc5:(w4.alloc (.cells #[.int .i64 j] 3)).cell? ⟨w4.heap.size,0,none⟩=some (.int .i64 j):=ay.cell (ay.eo w4 [.int .i64 j] 3) 0 ak;have Xa:=ay.lt nh;have iN:Hid (Calls prog 153 #[.pointer (some ⟨rb,0,none⟩),.slice (some ⟨w4.heap.size,0,none⟩) 1 1] (w4.alloc (.cells #[.int .i64 j] 3)) _) := WQ rb mb bb base ba bB av us w4.heap.size 1 t out bm aH (st+12+s.length+4) _ [j] _ _ (WR hm4 tT) kH aX eZ ae sR eR (fun x hx=>by simp at hx;omega) ak (.inr rfl) (fun e=>by cases e) (fun i au=>by{
 have:i=0:=by simp at au;omega
 subst this;exact hc5}) (fun _=>⟨ak,ae,ae,ae,fun cur e=>by have:=(World.alloc_heap_new w4 _).symm.trans e;simp at this⟩) dW cL cV dx
 have jB:=ag ((bX.Ed (p:=fun i=>i≠rb/\i≠mb/\i≠bb) (vZ (zg (af dQ) qj)) fun i hp=>hp.2).trans (bX.sV tT));clear HST fN dQ hm4 qj nh kH hc5 tT;go_wp2_with (fail);refine(af iN).mono ?_;rintro e w5 ⟨rfl,vM,kH,pA⟩;have GW:Hid (jr w5 mb bb base (Xg bs ba bB av j s) bm aH (st+20+s.length)):=by{have e1:st+12+s.length+4+2 * [j].length+2=st+20+s.length:=aX;rw[e1,af Kw,af aib]at vM;exact vM};have Eg:Hid (dy w5 rb t mb ba bB ((av+1)%65536) us (out.set j true)):=kH;have pB:=ag ((af jB).trans (bX.WV pA fun i hp=>hp));clear iN vM kH pA jB;go_wp2_with (fail);go_ret;exact⟨rfl,af GW,af Eg,af pB⟩
theorem qX{a:iD}(h1:a.nL):∀f∈[a],f.nL:=by intro f hf;simp at hf;subst hf;exact h1
theorem im{a:iD}{l:List iD}(h1:a.nL)(h2:∀f∈l,f.nL):∀f∈a :: l,f.nL:=by intro f hf;rcases eK.1 hf with rfl|hf;{exact h1};{exact h2 f hf}
def wj(a b s:ai):Nat:=kJ (aR true (a++b++[0,17,au s.length,eO s.length]++s))
theorem Xj(a b r s:ai)(w:World)(ha:a.length<=1000)(hb:b.length<=1000)(hs:s.length<65536) :
  Calls prog 282 #[.agg #[.string (ah a),.string (ah b),.string (ah r)],.string (ah s)] w fun e w'=>e=.returned (.int .i64 (wj a b s))/\Below w.heap.size w w':=by
 have hz:(ah s).size=s.length:=dt s;have kw:IntKind.u16.wrap (s.length:Int)=(s.length:Int):=by rw[jZ];omega
 have HS:Hid (∀(gb:Nat) (W:World),gb=W.heap.size->Calls prog 256 #[.slice (some ⟨gb,0,none⟩) 5 5] (W.alloc (.cells #[.iface 224 (.string (ah a)),.iface 224 (.string (ah b)),.iface 284 (.int .u16 17),.iface 284 (.int .u16 s.length),.iface 224 (.string (ah s))] 297)) fun e w'=>e=.returned (.int .i64 (wj a b s))/\Below gb W w'):=fun gb W hgb=>by{subst hgb;have:=OJ [ct a,ct b,dA 17,dA s.length,ct s] W (im (iO a) (im (iO b) (im (kC 17 ae) (im (kC _ hs) (qX (iO s)))))) ak (by simp[bY,ct,dA];omega);rw[show bY [ct a,ct b,dA 17,dA s.length,ct s]=a++b++[0,17,au s.length,eO s.length]++s by simp[bY,ct,dA];exact⟨rfl,rfl⟩]at this;exact this};go_enter func282,ntmps282;go_wp2_with (fail);refine(af HS _ _ c5).mono ?_;rintro e w1 ⟨rfl,hb1⟩;have aZ:=ag (((bW w.heap.size w).alloc (aL _) _).trans (hb1.mono ak));clear hb1;go_wp2_with (fail);go_ret;exact⟨rfl,af aZ⟩
theorem Xk(a b r:ai)(k:Nat)(w:World)(ha:a.length<=1000)(hb:b.length<=1000)(hr:r.length<=100000)(hk:k<65536) :
  Calls prog 209 #[.agg #[.string (ah a),.string (ah b),.int .i64 k,.string (ah r)]] w fun e w'=>e=.returned (.string (ah (a++b++[au k,eO k]++r)))/\Below w.heap.size w w':=by
 have kw:IntKind.u16.wrap (k:Int)=(k:Int):=by rw[jZ];omega
 have HS:Hid (∀(gb:Nat) (W:World),gb=W.heap.size->Calls prog 199 #[.slice (some ⟨gb,0,none⟩) 4 4] (W.alloc (.cells #[.iface 224 (.string (ah a)),.iface 224 (.string (ah b)),.iface 284 (.int .u16 k),.iface 224 (.string (ah r))] 297)) fun e w'=>e=.returned (.string (ah (a++b++[au k,eO k]++r)))/\Below gb W w'):=fun gb W hgb=>by{subst hgb;have:=Bp [ct a,ct b,dA k,ct r] W (im (iO a) (im (iO b) (im (kC k hk) (qX (iO r))))) ak (by simp[bY,ct,dA];omega);rw[show bY [ct a,ct b,dA k,ct r]=a++b++[au k,eO k]++r by simp[bY,ct,dA]]at this;exact this};go_enter func209,ntmps209;go_wp2_with (fail);refine(af HS _ _ c5).mono ?_;rintro e w1 ⟨rfl,hb1⟩;have aZ:=ag (((bW w.heap.size w).alloc (aL _) _).trans (hb1.mono ak));clear hb1;go_wp2_with (fail);go_ret;exact⟨ek (fun x=>Ending.returned (.string (ah x))) ak,af aZ⟩
def BB(n:Nat):ai:=[69,0,au (20+n),eO (20+n),0,0,64,0,64,17]
def Eh(a b:ai)(n:Nat):Nat:=65535 - kJ (aR true (BB n++a++b))
def uB(a b r:ai):ai:=BB r.length++[au (Eh a b r.length),eO (Eh a b r.length)]++a++b++r
theorem aic(a b r:ai)(w:World)(ha:a.length<=1000)(hb:b.length<=1000)(hr:r.length<=60000) :
  Calls prog 212 #[.agg #[.string (ah a),.string (ah b),.string (ah r)]] w fun e w'=>e=.returned (.string (ah (uB a b r)))/\Below w.heap.size w w':=by
 have hz:(ah r).size=r.length:=dt r;obtain⟨n,hn⟩:=bP (20+r.length);have kn:(20:Int)+(r.length:Int)=(n:Int):=ae;have kw:IntKind.u16.wrap (n:Int)=(n:Int):=by rw[jZ];omega
 have dV:Hid (BB r.length = [69,0,au n,eO n,0,0,64,0,64,17]):=by rw[Hid,hn];rfl
 have H1:Hid (∀(gb:Nat) (W:World),gb=W.heap.size->Calls prog 199 #[.slice (some ⟨gb,0,none⟩) 7 7] (W.alloc (.cells #[.iface 292 (.int .u8 69),.iface 292 (.int .u8 0),.iface 284 (.int .u16 n),.iface 284 (.int .u16 0),.iface 284 (.int .u16 16384),.iface 292 (.int .u8 64),.iface 292 (.int .u8 17)] 297)) fun e w'=>e=.returned (.string (ah (BB r.length)))/\Below gb W w'):=fun gb W hgb=>by{subst hgb;have:=Bp [jN 69,jN 0,dA n,dA 0,dA 16384,jN 64,jN 17] W (im (vG 69) (im (vG 0) (im (kC n ae) (im (kC 0 ae) (im (kC 16384 ae) (im (vG 64) (qX (vG 17)))))))) ak (by simp[bY,jN,dA]);rw[af dV];exact this};obtain⟨h,hh⟩:=bP (BB r.length);have GX:h.length=10:=by rw[hh];rfl
 have HC:Hid (Eh a b r.length=65535 - kJ (aR true (h++a++b))):=by rw[Hid,hh];rfl
 have HO:Hid (uB a b r=h++[au (Eh a b r.length),eO (Eh a b r.length)]++a++b++r):=by rw[Hid,hh];rfl
 rw[<- hh]at H1;have py:Hid (∀(gb:Nat) (W:World),gb=W.heap.size->Calls prog 256 #[.slice (some ⟨gb,0,none⟩) 3 3] (W.alloc (.cells #[.iface 224 (.string (ah h)),.iface 224 (.string (ah a)),.iface 224 (.string (ah b))] 297)) fun e w'=>e=.returned (.int .i64 (kJ (aR true (h++a++b))))/\Below gb W w'):=fun gb W hgb=>by{subst hgb;have:=OJ [ct h,ct a,ct b] W (im (iO h) (im (iO a) (qX (iO b)))) ak (by simp[bY,ct];omega);rw[show bY [ct h,ct a,ct b]=h++a++b by simp[bY,ct]]at this;exact this};have sH:=Gy (aR true (h++a++b));generalize kJ (aR true (h++a++b))=f at *;obtain⟨c,hc⟩:=bP (Eh a b r.length);rw[<- hc]at HC HO;have kc:(65535:Int) - (f:Int)=(c:Int):=by have:=af HC;omega
 have aid:IntKind.u16.wrap (c:Int)=(c:Int):=by rw[jZ];have:=af HC;omega
 have hcl:c<65536:=by have:=af HC;omega
 have pz:Hid (∀(gb:Nat) (W:World),gb=W.heap.size->Calls prog 199 #[.slice (some ⟨gb,0,none⟩) 5 5] (W.alloc (.cells #[.iface 224 (.string (ah h)),.iface 284 (.int .u16 c),.iface 224 (.string (ah a)),.iface 224 (.string (ah b)),.iface 224 (.string (ah r))] 297)) fun e w'=>e=.returned (.string (ah (uB a b r)))/\Below gb W w'):=fun gb W hgb=>by{subst hgb;have:=Bp [ct h,dA c,ct a,ct b,ct r] W (im (iO h) (im (kC c hcl) (im (iO a) (im (iO b) (qX (iO r)))))) ak (by simp[bY,ct,dA];omega);rw[show bY [ct h,dA c,ct a,ct b,ct r]=uB a b r by rw[af HO];simp[bY,ct,dA]]at this;exact this};clear dV HC HO hh hc hn GX;have eT:=ag (ay.eo w [.string (ah a),.string (ah b),.string (ah r)] 307);have aZ:=ag ((bW w.heap.size w).alloc (aL _) (.cells #[.string (ah a),.string (ah b),.string (ah r)] 307));have hsz:(w.alloc (.cells #[.string (ah a),.string (ah b),.string (ah r)] 307)).heap.size=w.heap.size+1:=ak;go_enter func212,ntmps212;go_wp2_with (fail);refine(af H1 _ _ c5).mono ?_;rintro e w1 ⟨rfl,hb1⟩;have mC:=ag ((af eT).below hb1 ak);have cM:=ag ((af aZ).trans (hb1.mono ak));clear hb1 eT aZ hsz;have y0:=(af mC).cell 0 ak;have y1:=(af mC).cell 1 ak;have y2:=(af mC).cell 2 ak;simp at y0 y1 y2;have hlt:=(af mC).lt;go_wp2_with (fail);refine(af py _ _ c5).mono ?_;rintro e w2 ⟨rfl,hb2⟩;have vT:=ag ((af mC).below hb2 hlt);have eu:=ag ((af cM).trans (hb2.mono ae));clear hb2 mC cM y0 y1 y2;have y0:=(af vT).cell 0 ak;have y1:=(af vT).cell 1 ak;have y2:=(af vT).cell 2 ak;simp at y0 y1 y2;have hlt2:=(af vT).lt;go_wp2_with (fail);refine(af pz _ _ c5).mono ?_;rintro e w3 ⟨rfl,hb3⟩;have jI:=ag ((af eu).trans (hb3.mono ae));clear hb3;go_wp2_with (fail);go_ret;exact⟨rfl,af jI⟩
def BC(sp dp:Nat)(m:ai):ai:=[au sp,eO sp,au dp,eO dp,au (8+m.length),eO (8+m.length)]
def Ei(a b:ai)(sp dp:Nat)(m:ai):Nat:=if 65535 - wj a b (BC sp dp m++[0,0]++m)=0 then 65535 else 65535 - wj a b (BC sp dp m++[0,0]++m)
def wm(a b:ai)(sp dp:Nat)(m:ai):ai:=BC sp dp m++[au (Ei a b sp dp m),eO (Ei a b sp dp m)]++m
structure zj(w W:World)(a b r m:ai)(sp dp:Nat):Prop where
 p:ay W w.heap.size [.string (ah a),.string (ah b),.string (ah r)] 307
 d:ay W (w.heap.size+1) [.int .i64 sp,.int .i64 dp,.string (ah m)] 349
 z:ay W (w.heap.size+2) [.string ⟨#[]⟩,.string ⟨#[]⟩,.string ⟨#[]⟩] 307
 below:Below w.heap.size w W
theorem zj.size{w W:World}{a b r m:ai}{sp dp:Nat}(h:zj w W a b r m sp dp):w.heap.size+2<W.heap.size:=h.z.lt
theorem zj.GY{w W W':World}{a b r m:ai}{sp dp:Nat}(h:zj w W a b r m sp dp)(hb:Below W.heap.size W W'):zj w W' a b r m sp dp :=
 ⟨h.p.below hb h.p.lt,h.d.below hb h.d.lt,h.z.below hb h.z.lt,h.below.trans (hb.mono (by have:=h.size;omega))⟩
theorem zj.aie(w:World)(a b r m:ai)(sp dp:Nat):zj w (((w.alloc (.cells #[.string (ah a),.string (ah b),.string (ah r)] 307)).alloc (.cells #[.int .i64 sp,.int .i64 dp,.string (ah m)] 349)).alloc (.cells #[.string ⟨#[]⟩,.string ⟨#[]⟩,.string ⟨#[]⟩] 307)) a b r m sp dp where
 p:=((ay.eo w _ _).alloc _).alloc _
 d:=by
  have:=(ay.eo (w.alloc (.cells #[.string (ah a),.string (ah b),.string (ah r)] 307)) [.int .i64 sp,.int .i64 dp,.string (ah m)] 349).alloc (.cells #[.string ⟨#[]⟩,.string ⟨#[]⟩,.string ⟨#[]⟩] 307);simpa using this
 z:=by
  have:=ay.eo ((w.alloc (.cells #[.string (ah a),.string (ah b),.string (ah r)] 307)).alloc (.cells #[.int .i64 sp,.int .i64 dp,.string (ah m)] 349)) [.string ⟨#[]⟩,.string ⟨#[]⟩,.string ⟨#[]⟩] 307;simpa using this
 below:=(((bW _ _).alloc (aL _) _).alloc ak _).alloc aX _
theorem aif(a b r m:ai)(sp dp:Nat)(w:World)(ha:a.length<=1000)(hb:b.length<=1000)(hm:m.length<=60000)(hsp:sp<65536)(GZ:dp<65536) :
  Calls prog 258 #[.agg #[.string (ah a),.string (ah b),.string (ah r)],.agg #[.int .i64 sp,.int .i64 dp,.string (ah m)]] w fun e w'=>e=.returned (.agg #[.string (ah a),.string (ah b),.string (ah (wm a b sp dp m))])/\Below w.heap.size w w':=by
 have hz:(ah m).size=m.length:=dt m;obtain⟨n,hn⟩:=bP (8+m.length);have kn:(8:Int)+(m.length:Int)=(n:Int):=ae;have kw:IntKind.u16.wrap (n:Int)=(n:Int):=by rw[jZ];omega
 have ks:IntKind.u16.wrap (sp:Int)=(sp:Int):=by rw[jZ];omega
 have kd:IntKind.u16.wrap (dp:Int)=(dp:Int):=by rw[jZ];omega
 have H1:Hid (∀(gb:Nat) (W:World),gb=W.heap.size->Calls prog 199 #[.slice (some ⟨gb,0,none⟩) 3 3] (W.alloc (.cells #[.iface 284 (.int .u16 sp),.iface 284 (.int .u16 dp),.iface 284 (.int .u16 n)] 297)) fun e w'=>e=.returned (.string (ah (BC sp dp m)))/\Below gb W w'):=fun gb W hgb=>by{subst hgb;have:=Bp [dA sp,dA dp,dA n] W (im (kC sp hsp) (im (kC dp GZ) (qX (kC n ae)))) ak (by simp[bY,dA]);rw[BC,<- hn];exact this};obtain⟨h,hh⟩:=bP (BC sp dp m);have GX:h.length=6:=by rw[hh];rfl
 rw[<- hh]at H1;have py:Hid (∀(gb:Nat) (W:World),gb=W.heap.size->Calls prog 199 #[.slice (some ⟨gb,0,none⟩) 3 3] (W.alloc (.cells #[.iface 224 (.string (ah h)),.iface 284 (.int .u16 0),.iface 224 (.string (ah m))] 297)) fun e w'=>e=.returned (.string (ah (h++[0,0]++m)))/\Below gb W w'):=fun gb W hgb=>by{subst hgb;have:=Bp [ct h,dA 0,ct m] W (im (iO h) (im (kC 0 ae) (qX (iO m)))) ak (by simp[bY,ct,dA];omega);rw[show bY [ct h,dA 0,ct m]=h++[0,0]++m by simp[bY,ct,dA];exact⟨rfl,rfl⟩]at this;exact this};have pz:=ag (fun W=>Xj a b r (h++[0,0]++m) W ha hb aX);have HC:Hid (Ei a b sp dp m=if 65535 - wj a b (h++[0,0]++m)=0 then 65535 else 65535 - wj a b (h++[0,0]++m)):=by rw[Hid,hh];rfl
 have HO:Hid (wm a b sp dp m=h++[au (Ei a b sp dp m),eO (Ei a b sp dp m)]++m):=by rw[Hid,hh];rfl
 have sH:wj a b (h++[0,0]++m)<=65535:=Gy _;generalize wj a b (h++[0,0]++m)=f at *;generalize h++[0,0]++m=u at *;obtain⟨c,hc⟩:=bP (Ei a b sp dp m);rw[<- hc]at HC HO;have hcl:c<65536:=by rw[af HC];split <;> omega
 have v_:Hid (∀(gb:Nat) (W:World),gb=W.heap.size->Calls prog 199 #[.slice (some ⟨gb,0,none⟩) 3 3] (W.alloc (.cells #[.iface 224 (.string (ah h)),.iface 284 (.int .u16 c),.iface 224 (.string (ah m))] 297)) fun e w'=>e=.returned (.string (ah (wm a b sp dp m)))/\Below gb W w'):=fun gb W hgb=>by{subst hgb;have:=Bp [ct h,dA c,ct m] W (im (iO h) (im (kC c hcl) (qX (iO m)))) ak (by simp[bY,ct,dA];omega);rw[show bY [ct h,dA c,ct m]=wm a b sp dp m by rw[af HO];simp[bY,ct,dA]]at this;exact this};clear HO hh hc hn GX;have fe:=ag (zj.aie w a b r m sp dp);go_enter func258,ntmps258;go_wp2_with (fail);refine(af H1 _ _ c5).mono ?_;rintro e w1 ⟨rfl,hb1⟩;have fE:=ag ((af fe).GY (hb1.mono c5));clear hb1 fe H1;have y2:=(af fE).d.cell 2 ak;simp at y2;go_wp2_with (fail);refine(af py _ _ c5).mono ?_;rintro e w2 ⟨rfl,hb2⟩;have dO:=ag ((af fE).GY hb2);clear hb2 fE py y2;have x0:=(af dO).p.cell 0 ak;have x1:=(af dO).p.cell 1 ak;have x2:=(af dO).p.cell 2 ak;have y2:=(af dO).d.cell 2 ak;simp at x0 x1 x2 y2;go_wp2_with (fail);refine(af pz _).mono ?_;rintro e w3 ⟨rfl,hb3⟩;have gj:=ag ((af dO).GY hb3);clear hb3 dO pz x0 x1 x2 y2;have x0:=(af gj).p.cell 0 ak;have x1:=(af gj).p.cell 1 ak;have x2:=(af gj).p.cell 2 ak;have y2:=(af gj).d.cell 2 ak;simp at x0 x1 x2 y2;by_cases h0:f=65535;{
 subst h0;have hc':c=65535:=by rw[af HC];rfl
 subst hc';go_wp2_with (fail);refine(af v_ _ _ c5).mono ?_;rintro e w4 ⟨rfl,hb4⟩;have fP:=ag ((af gj).GY hb4);clear hb4 gj v_ x0 x1 x2 y2;have x0:=(af fP).p.cell 0 ak;have x1:=(af fP).p.cell 1 ak;have x2:=(af fP).p.cell 2 ak;have z0:=(af fP).z.cell 0 ak;have z1:=(af fP).z.cell 1 ak;have z2:=(af fP).z.cell 2 ak;have jk:=(af fP).p.frozen;have hf2:=(af fP).z.frozen;simp at x0 x1 x2 z0 z1 z2;have aZ:=ag (af fP).below;clear fP;go_wp2;refine df (v:=.agg #[.string (ah a),.string (ah b),.string (ah (wm a b sp dp m))]) ?_ rfl ?_;{simp[results,results258,go_sem,x0,x1,x2,z0,z1,z2]};{exact⟨rfl,((((af aZ).setCell (aL _) _).setCell (by show w.heap.size<=w.heap.size+2;omega) _).setCell (by show w.heap.size<=w.heap.size+2;omega) _).setCell (by show w.heap.size<=w.heap.size+2;omega) _⟩}};{
 have hc':c=65535 - f:=by rw[af HC,aG ae]
 have kc:(65535:Int) - (f:Int)=(c:Int):=ae;have aqT:¬(c:Int)=0:=ae;have aid:IntKind.u16.wrap (c:Int)=(c:Int):=by rw[jZ];omega
 clear hc';go_wp2_with (fail);refine(af v_ _ _ c5).mono ?_;rintro e w4 ⟨rfl,hb4⟩;have fP:=ag ((af gj).GY hb4);clear hb4 gj v_ x0 x1 x2 y2;have x0:=(af fP).p.cell 0 ak;have x1:=(af fP).p.cell 1 ak;have x2:=(af fP).p.cell 2 ak;have z0:=(af fP).z.cell 0 ak;have z1:=(af fP).z.cell 1 ak;have z2:=(af fP).z.cell 2 ak;have jk:=(af fP).p.frozen;have hf2:=(af fP).z.frozen;simp at x0 x1 x2 z0 z1 z2;have aZ:=ag (af fP).below;clear fP;go_wp2;refine df (v:=.agg #[.string (ah a),.string (ah b),.string (ah (wm a b sp dp m))]) ?_ rfl ?_;{simp[results,results258,go_sem,x0,x1,x2,z0,z1,z2]};{exact⟨rfl,((((af aZ).setCell (aL _) _).setCell (by show w.heap.size<=w.heap.size+2;omega) _).setCell (by show w.heap.size<=w.heap.size+2;omega) _).setCell (by show w.heap.size<=w.heap.size+2;omega) _⟩}}
end Go.Proofs.YtkkpahmoljiepaaGreatDoor
