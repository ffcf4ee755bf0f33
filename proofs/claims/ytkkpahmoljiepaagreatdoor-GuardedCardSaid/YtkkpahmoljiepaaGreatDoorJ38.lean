import Derived.Test.YtkkpahmoljiepaaGreatDoorJ37
import Derived.HandedShaped
import Derived.Lay
import Derived.Stop.Joined
import Derived.MakeChecks
set_option maxRecDepth 1000000
set_option maxHeartbeats 12800000
set_option linter.unusedSimpArgs false
set_option linter.unusedVariables false
namespace Go.Proofs.YtkkpahmoljiepaaGreatDoor
open Go.RowKit Go.Proofs.Tryz
def tA:ai:=[111,114,105,103,105,110,32,122,122,10,122,122,32,53,48,32,83,79,65,32,97,46,122,122,32,98,46,122,122,32,57,32,52,48,10,122,122,32,53,48,32,78,83,32,97,46,122,122,10]
theorem abM:(oO tA).isSome=true:=by decide +kernel
theorem aoZ:oO (tA++[10])=none:=by
 have h:(oO (tA++[10])).isNone=true:=by decide +kernel
 simpa using h
theorem ao0(s:ByteArray)(aD:s.data.toList = [])(w:World)(hg:bH w) :
  Calls prog 22 #[.string s] w fun e w'=>∃zb,e=.returned (.pointer (some ⟨zb,0,none⟩))/\Below w.heap.size w w':=by
 have asr:s.size=0:=by rw[<- jv,aD];rfl
 obtain⟨hB,Mh⟩:∃hB:ByteArray,hB=⟨tA.toArray⟩:=⟨_,rfl⟩;have ass:hB.size=49:=by rw[Mh];rfl
 have e1:hB++s=ah tA:=by{apply Iu;apply Ip;rw[show(hB++s).data.toList=hB.data.toList++s.data.toList by simp,aD,Mh];simp[ah]};have e2:hB++s++⟨#[10]⟩=ah (tA++[10]):=by{rw[e1];apply Iu;apply Ip;simp[ah]};have rF:Hid (Calls prog 16 #[.string (hB++s)] w fun e w'=>Cz tA w.heap.size e w'/\Below w.heap.size w w'):=by rw[e1];exact RU tA w hg
 have xI:Hid (∀W,Below w.heap.size w W->Calls prog 16 #[.string (hB++s++⟨#[10]⟩)] W fun e w'=>e=.returned (.tuple #[.pointer none,.int .i64 1])/\Below W.heap.size W w'):=fun W hW=>by{rw[e2];refine(RU (tA++[10]) W (hg.below hW)).mono ?_;rintro e w' ⟨hz,hb⟩;unfold Cz at hz;rw[aoZ]at hz;exact⟨hz,hb⟩};clear e1 e2 aD hg;have Gq:(⟨#[111,114,105,103,105,110,32,122,122,10,122,122,32,53,48,32,83,79,65,32,97,46,122,122,32,98,46,122,122,32,57,32,52,48,10,122,122,32,53,48,32,78,83,32,97,46,122,122,10]⟩:ByteArray)=hB:=by rw[Mh];rfl
 clear Mh;go_enter func22,ntmps22;go_wp2_with (fail);refine(af rF).mono ?_;rintro e w1 ⟨hz,hb1⟩;obtain⟨zb,rfl⟩:∃zb,e=.returned (.tuple #[.pointer (some ⟨zb,0,none⟩),.int .i64 0]):=by{
 unfold Cz at hz;have h:=abM;cases hp:oO tA with
 | none=>rw[hp]at h;cases h
 | some p =>{rw[hp]at hz;obtain⟨_,zb,_,_,he,_⟩:=hz;exact⟨zb,he⟩}};clear hz;go_wp2_with (fail);refine(af xI w1 hb1).mono ?_;rintro e w2 ⟨rfl,hb2⟩;go_wp2_with (fail);go_ret;exact⟨zb,rfl,hb1.trans (hb2.mono hb1.size)⟩
theorem ao1(mb bb:Nat)(bs:ai)(w:World)(hg:bH w)(hm:s9 w mb bb bs) :
  Calls prog 43 #[.string (ah tA),.agg #[.string (ah Et),.string (ah Eu)],.iface 71 (.pointer (some ⟨mb,0,none⟩))] w fun e w'=>XZ mb bb w e w':=by have eH:mb<w.heap.size:=qh hm.1;have kA:bb<w.heap.size:=hm.2.2.lt;have n0:mb≠0:=fun e=>by{obtain⟨_,k,hk⟩:=hg;have:=iT hm.1;rw[e,hk]at this;cases this};have n1:bb≠0:=fun e=>by{obtain⟨_,k,hk⟩:=hg;have hl:=hm.2.1;have:=hm.2.2.cell 0 (by rw[hE,hl];omega);rw[e,hk]at this;simp at this};refine(aoP tA Et Eu mb bb bs w hg hm).mono ?_;intro e w' h;unfold x9 at h;rw[aP abM,aP nz]at h;obtain⟨xb,zb,rb,sb,base,rfl,⟨pI,R3⟩,⟨o1,o2,o3,o4⟩,hk,ho,p,g,cap,_,ao2,hT,q1,q2,q3,q4,q5,q6⟩:=h;have ao3:gi w' mb bb base [] 276:=by{obtain⟨vl,vm,ns,hm,hr,ho,⟨hl,_⟩,ms,eC,gW⟩:=R3;obtain rfl:ns = []:=n9.1 ae;exact⟨_,.slice none 0 0,0,⟨_,vl,vm,[],hm,hr,ho,⟨aL _,rfl⟩,ms,eC,gW⟩,none,0,rfl,aL _,.inl rfl⟩};refine⟨xb,zb,rb,sb,base,rfl,⟨ao3,⟨8,0,pI.rr,ae,ae⟩,⟨0,0,_,pI.sr,ae,ae,rfl⟩,⟨0,0,0,pI.ax,aL _,aL _,aL _⟩,pI.hb⟩,⟨o4,ae,ae,ae⟩,hk,ho,fun W hW f hf=>?_⟩;have ao4:fA W zb p.1 g 0 cap (aQ p.2):=abB hT hW.size (hW.block zb hT.1 ⟨q5,ae,ae,ae,ae⟩ (.inl q3)) (hW.block g (abA hT) ⟨q6,ae,ae,ae,ae⟩ (.inl q4));have ao5:bH w':=by{obtain⟨h0,k,hc⟩:=hg;have:=hT.1;exact⟨ae,k,(dC (hk 0 h0 (fun e=>n0 e.symm) (fun e=>n1 e.symm))).trans hc⟩};have Dp:bH W:=by{obtain⟨h0,k,hc⟩:=ao5;obtain⟨jf,_⟩:=hg;have:=hW.size;exact⟨ae,k,(dC (hW.block 0 h0 ⟨ae,ae,ae,fun e=>n0 e.symm,fun e=>n1 e.symm⟩ (.inl ae))).trans hc⟩};obtain⟨x,hx,hA⟩:=aom f Et Eu (.pointer (some ⟨zb,0,none⟩)) W rfl rfl ae (fun m hm=>aoq zb g cap p.1 p.2 W ao2 ao4 Dp m hm);exact(hA W (bW _ _)).mono fun e w'' h=>⟨x,h.1,hx,h.2⟩
theorem ao6(il:Option Addr)(sb0 so cap:Nat)(sd:ai)(pv:Value)(np:Nat)(polls:Int)(w:World)(hg:bH w)(sP:sd.length<=9223372036854775807)(xJ:sd≠[]->il=some ⟨sb0,so,none⟩/\sb0<w.heap.size)(oz:∀j (h:j<sd.length),w.cell? ⟨sb0,so+j,none⟩=some (.int .u8 sd[j].toNat))
  (gy:xP w pv np) (PS:np<=5864062014805) (xR : -9223372036854775808<=polls) (um:polls<=9223372036854775807) :
  Calls prog 14 #[.slice il sd.length cap,pv,.int .i64 polls] w fun e w'=>e=.returned (.bool true)/\Below w.heap.size w w' :=
 ajQ (fun W hW=>ao0 ⟨#[]⟩ rfl W hW) (fun mb bb bs W hW hN=>ao1 mb bb bs W hW hN) il sb0 so cap sd pv np polls w hg sP xJ oz gy PS xR um
section
open Go.ChangeShapes Go.WideShapes Go.ChangeAt Go.RowKit
section
variable {H:Type} {enc:TypeId×Value->H}
theorem ao7:ownKnob prog.godebug=none:=aK
theorem ao8{W:World}(h:W.ShapedOpen prog):bH W:=by have hc:∃m,W.cell? (ar 0 0)=some (aq m) := cell_of_shapedOpen_int (zero:=#[aq 0]) (t:=3) h (CS aK) aK rfl aK aK underlying3;refine⟨?_,hc⟩;obtain⟨m,hm⟩:=hc;rcases Nat.eq_zero_or_pos W.heap.size with h0|h0;{simp[World.cell?,abU (show W.heap.size<=0 by omega)]at hm};{exact h0}
end
end
end Go.Proofs.YtkkpahmoljiepaaGreatDoor
