import Derived.Test.YtkkpahmoljiepaaGreatDoorJ08
set_option maxRecDepth 1000000
set_option maxHeartbeats 12800000
set_option linter.unusedSimpArgs false
set_option linter.unusedVariables false
namespace Go.Proofs.YtkkpahmoljiepaaGreatDoor
open Go.RowKit Go.Proofs.Tryz
theorem aoQ(s:ByteArray)(w:World)(hg:bK w)(hs:s.size<=3000)(kC:∀o rs,jl s.data.toList=some (o,rs)->A0 o rs) :
  aB 16 #[.string s] w fun e w'=>al9 (il s.data.toList) w.heap.size e w'/\au w w':=by
 have HC:=ag (al_ s w ae);have Pt:¬(3000:Int)<(s.size:Int):=ae;have tW:=ag (fun w1 (h:au w w1)=>akU s w1 (hg.below h) hs);clear hg;cases hz:jl s.data.toList with
 | none =>{
 have aY:Hid (il s.data.toList=none):=by unfold il;rw[Hid,hz];rfl
 go_enter func16,ntmps16;go_wp2_with fail;refine HC.mono ?_;rintro e w1 ⟨rfl,hb1⟩;go_wp2_with fail;refine(tW w1 hb1).mono ?_;rintro e w2 ⟨hr2,hb2⟩;rw[hz]at hr2;obtain rfl:e=.returned Kk:=hr2;unfold Kk;go_wp2;go_ret2;rw[af aY];exact⟨rfl,hb1.trans (hb2.mono hb1.size)⟩}
 | some x =>{
 obtain⟨o,rs⟩:=x;obtain⟨hlen,gX,hrl⟩:=kC o rs hz;have aoR:=ag hrl;clear kC hrl;have gM:Hid (il s.data.toList=if lL o rs && lO o (aN rs)then some (o,aN rs)else none):=by unfold il;rw[Hid,hz];rfl
 cases hst:lL o rs;{
 have aY:Hid (il s.data.toList=none):=by rw[Hid,af gM,hst];rfl
 go_enter func16,ntmps16;go_wp2_with fail;refine HC.mono ?_;rintro e w1 ⟨rfl,hb1⟩;go_wp2_with fail;refine(tW w1 hb1).mono ?_;rintro e w2 ⟨hr2,hb2⟩;rw[hz]at hr2;obtain⟨v,rfl,hown⟩:=hr2;have HS:=ag (Tt o v rs w2 hown.rv ae);clear hown;go_wp2_with fail;refine HS.mono ?_;rintro e w3 ⟨rfl,hb3⟩;go_wp2;go_ret2;rw[af aY];exact⟨rfl,(hb1.trans (hb2.mono hb1.size)).trans (hb3.mono (a_ hb1.size hb2.size))⟩};{
 have hne:rs≠[]:=by intro h;rw[h]at hst;cases hst
 have tX:Hid (∀r∈aN rs,r.owner.length<=3000/\r.data.length<=3000):=al7 (af aoR);have jP:=abm rs;cases hrt:lO o (aN rs);{
 have aY:Hid (il s.data.toList=none):=by rw[Hid,af gM,hst,hrt];rfl
 go_enter func16,ntmps16;go_wp2_with fail;refine HC.mono ?_;rintro e w1 ⟨rfl,hb1⟩;go_wp2_with fail;refine(tW w1 hb1).mono ?_;rintro e w2 ⟨hr2,hb2⟩;rw[hz]at hr2;obtain⟨v,rfl,hown⟩:=hr2;have HS:=ag (Tt o v rs w2 hown.rv ae);obtain⟨g,cap,cur,rfl,hg,aZ,dt,CU⟩:=abp hown hne;have Vt:=ag aZ;have uZ:=ag CU;clear hown aZ CU;have eF:=hb1.trans (hb2.mono hb1.size);go_wp2_with fail;refine HS.mono ?_;rintro e w3 ⟨rfl,hb3⟩;have Ln:=eF.trans (hb3.mono eF.size);have jq:=uZ.1;go_wp2_with fail;refine(acq g cap rs w3 cur _ ((hb3.block g jq).trans Vt) (uZ.below hb3) hlen).mono ?_;rintro e w4 ⟨rfl,hr4,hb4⟩;have mC:=hb4 w.heap.size w (a_ hb1.size hg) Ln.size Ln;have eG:=ag (abc g 0 cap o (aN rs) w4 hr4 ae ae gX (fun r hr=>(tX r hr).1));rw[jP]at eG;clear hr4 hb4;go_wp2_with fail;refine eG.mono ?_;rintro e w5 ⟨rfl,hb5⟩;go_wp2;go_ret2;rw[af aY];exact⟨rfl,mC.trans (hb5.mono mC.size)⟩};{
 have aY:Hid (il s.data.toList=some (o,aN rs)):=by rw[Hid,af gM,hst,hrt];rfl
 go_enter func16,ntmps16;go_wp2_with fail;refine HC.mono ?_;rintro e w1 ⟨rfl,hb1⟩;go_wp2_with fail;refine(tW w1 hb1).mono ?_;rintro e w2 ⟨hr2,hb2⟩;rw[hz]at hr2;obtain⟨v,rfl,hown⟩:=hr2;have HS:=ag (Tt o v rs w2 hown.rv ae);obtain⟨g,cap,cur,rfl,hg,aZ,dt,CU⟩:=abp hown hne;have Vt:=ag aZ;have uZ:=ag CU;clear hown aZ CU;have eF:=hb1.trans (hb2.mono hb1.size);go_wp2_with fail;refine HS.mono ?_;rintro e w3 ⟨rfl,hb3⟩;have Ln:=eF.trans (hb3.mono eF.size);have jq:=uZ.1;go_wp2_with fail;refine(acq g cap rs w3 cur _ ((hb3.block g jq).trans Vt) (uZ.below hb3) hlen).mono ?_;rintro e w4 ⟨rfl,hr4,hb4⟩;have mC:=hb4 w.heap.size w (a_ hb1.size hg) Ln.size Ln;have eG:=ag (abc g 0 cap o (aN rs) w4 hr4 ae ae gX (fun r hr=>(tX r hr).1));rw[jP]at eG;have x8:=ag hr4;clear hr4 hb4;go_wp2_with fail;refine eG.mono ?_;rintro e w5 ⟨rfl,hb5⟩;have Vu:=mC.trans (hb5.mono mC.size);have n9:=ag (x8.below hb5);go_wp2_with fail;refine(ama o g 0 rs.length cap w5).mono ?_;rintro e w6 ⟨rfl,dR,Vv,adf,adg⟩;have cS:Hid (iD w6 w5.heap.size o g 0 cap (aN rs)):=⟨Vv,adf,by rw[jP];exact adg,ae,n9.below dR⟩;clear adf adg;go_wp2;go_ret2;rw[af aY];exact⟨⟨_,_,_,rfl,Vu.size,a_ hb1.size hg,cS⟩,Vu.trans (dR.mono Vu.size)⟩}}}
structure IA(r:ai):Prop where
 tY:iC r.owner=true
 aG:r.aG<=86400
 dat:cE r.type (az 32 r.data)=true
 len:r.data.length<=3000
structure kE(o:ah)(rs:List ai):Prop where
 org:dr o=true
 recs:∀r∈rs,IA r
 P2:lL o rs=true
 aoS:lO o (aN rs)=true
theorem adh:∀(l:ah) (n:Nat),mL n l=Lib.decFrom n l
 | [],n=>rfl
 | c :: r,n=>by
  unfold mL Lib.decFrom Lib.digitVal;by_cases h:48<=c.toNat/\c.toNat<=57;{
  have hd:rN c.toNat=true:=by unfold rN;simp;omega
  rw[aJ hd,aJ h,adh r,CE]};{
  have hd:¬rN c.toNat=true:=by unfold rN;simp;omega
  rw[aF hd,aF h]}
theorem adi{s:ah}(h:dz 86400 s=true):s.length<=10/\Lib.atoi s=some (iY 86400 s:Int)/\iY 86400 s<=86400:=by
 have h0:=h;rw[OU 86400 ae]at h;cases hf:qW s with
 | none=>rw[hf]at h;cases h
 | some v =>{
 rw[hf]at h;have hv:v<=86400:=by simpa using h
 rw[Ur 86400 ae s v hf hv];unfold qW at hf;split at hf;{
 rename_i hl;refine⟨hl.2.1,?_,hv⟩;cases s with
 | nil=>simp at hl
 | cons c r =>{
 have hc:rN c.toNat=true:=by{refine Cs fun hc=>?_;unfold mL at hf;rw[aF hc]at hf;cases hf};have hc':48<=c.toNat/\c.toNat<=57:=by unfold rN at hc;simp at hc;omega
 have aoT:(c == 45)=false:=by rw[d_];rintro rfl;exact absurd hc'.1 bD
 have aoU:(c == 43)=false:=by rw[d_];rintro rfl;exact absurd hc'.1 bD
 have e1:Lib.atoi (c :: r)=(Lib.decNat (c :: r)).map (fun m:Nat=>(m:Int)):=by{unfold Lib.atoi;simp[aoT,aoU]};rw[e1];unfold Lib.decNat;rw[aF ar,<- adh,hf];rfl}};{cases hf}}
theorem Vw(l:ah)(j:Nat):(aq l).data[j]! = l[j]?.getD default:=by show l.toArray[j]! = _;rw[Array.getElem!_eq_getD,Array.getD_eq_getD_getElem?,ZR]
theorem aoV(a b:ah)(h:(32:UInt8) ∉ b):fW (a++32 :: b)=b:=by
 have IB:Lib.lastIndexByte (aq (a++32 :: b)) 32=(a.length:Int):=by{
 unfold Lib.lastIndexByte;have hsz:(aq (a++32 :: b)).size=a.length+1+b.length:=by rw[bJ];simp;omega
 have hat:(((aq (a++32 :: b)).data[a.length]!).toNat:Int)=32:=by rw[Vw];simp
 rcases Lib.lastIdx_spec (aq (a++32 :: b)) 32 (aq (a++32 :: b)).size with⟨_,h2⟩|⟨i,h1,h2,h3,h4⟩;{exact absurd hat (h2 a.length ae)};{rw[h2];rcases Nat.lt_trichotomy i a.length with ax|ax|ax;{exact absurd hat (h4 a.length ax ae)};{rw[ax]};{exfalso;rw[Vw,y_ ae,show i - a.length=(i - a.length - 1)+1 by omega,List.getElem?_cons_succ,iw ae]at h3;have hm:b[i - a.length - 1]' ae∈b:=cM _;have:b[i - a.length - 1]' ae=32:=by{apply CG.1;have:((b[i - a.length - 1]' ae).toNat:Int)=32:=h3;show _=32;omega};rw[this]at hm;exact h hm}}};unfold fW;rw[IB,show((a.length:Int)+1).toNat=a.length+1 by omega,show a++32 :: b=(a++[32])++b by simp,SD ar];simp
theorem aoW(b:ah)(h:(32:UInt8) ∉ b):fW b=b:=by have IB:Lib.lastIndexByte (aq b) 32 = -1:=by{unfold Lib.lastIndexByte;rcases Lib.lastIdx_spec (aq b) 32 (aq b).size with⟨h1,_⟩|⟨i,h1,h2,h3,h4⟩;{exact h1};{exfalso;rw[bJ]at h1;rw[Vw,iw h1]at h3;have hm:b[i]∈b:=cM _;have:b[i]=32:=by{apply CG.1;have:((b[i]).toNat:Int)=32:=h3;show _=32;omega};rw[this]at hm;exact h hm}};unfold fW;rw[IB];rfl
theorem adj(c:UInt8):∀(f:Nat) (s:ah),s.length<=f->∀x∈az c s,c ∉ x
 | f,s,hf,x,hx=>by
  rcases oJ c s with⟨h,e⟩|⟨a,b,e0,h,e⟩;{
  rw[e]at hx;have:x=s:=by simpa using hx
  rw[this];exact h};{
  rw[e]at hx;rcases ei.1 hx with rfl|hx;{exact h};{
  have hl:b.length<f:=by rw[e0]at hf;simp at hf;omega
  exact adj c (f - 1) b ae x hx}}
termination_by f=>f
decreasing_by omega
theorem Vx(d:ah)(ws:List ah)(x:ah)(h:az 32 d=ws++[x]):fW d=x:=by
 have hno:=adj 32 d.length d aA x (by rw[h];simp);have hj:=C8 32 d;rw[h]at hj;cases ws with
 | nil=>rw[<- hj];exact aoW x hno
 | cons y t =>{rw[Uw 32 x (y :: t) ar]at hj;rw[<- hj];exact aoV _ x hno}
theorem Dp{k:Int}{ws:List ah}(h:cE k ws=true):k=1\/k=2\/k=5\/k=6\/k=15\/k=16:=by
 unfold cE at h
 repeat' (split at h)
 all_goals first
  | (cases h;done)
  | omega
theorem aoX{ws:List ah}(h:cE 6 ws=true):∃a b c d,ws = [a,b,c,d]/\dz 86400 d=true:=by
 unfold cE at h;rw[aJ rfl]at h;match ws,h with
 | [a,b,c,d],h=>exact⟨a,b,c,d,rfl,by simp at h;exact h.2⟩
theorem adk{k:Int}{ws:List ah}(hk:k=2\/k=5)(h:cE k ws=true):∃a,ws = [a]/\dr a=true:=by
 unfold cE at h;rw[aF ae,aJ hk]at h;match ws,h with
 | [a],h=>exact⟨a,rfl,h⟩
theorem aoY{ws:List ah}(h:cE 15 ws=true):∃a b,ws = [a,b]/\dr b=true:=by
 unfold cE at h;rw[aF ae,aF ae,aF ae,aF ae,aJ rfl]at h;match ws,h with
 | [a,b],h=>exact⟨a,b,rfl,by simp at h;exact h.2⟩
theorem wY{d a:ah}(h:az 32 d = [a]):d=a:=by have:=C8 32 d;rw[h]at this;exact this.symm
theorem aoZ{r:ai}(h:IA r)(ht:r.type=2\/r.type=15):∃ws x,az 32 r.data=ws++[x]/\fW r.data=x/\dr x=true:=by have hd:=h.dat;rcases ht with ht|ht;{rw[ht]at hd;obtain⟨a,e,hp⟩:=adk (.inl rfl) hd;exact⟨[],a,e,Vx _ [] a e,hp⟩};{rw[ht]at hd;obtain⟨a,b,e,hp⟩:=aoY hd;exact⟨[a],b,e,Vx _ [a] b e,hp⟩}
theorem adl{star:Bool}{n:ah}(h:(gT star n).isSome=true):fC n/\n.length<=60:=by
 unfold gT at h;split at h;{
 rename_i hh;refine⟨fun x hx=>?_,hh.1⟩;have key:∀(l:List ah) (i:Nat),lu star i l=true->∀x∈l,x≠[]:=by{
 intro l;induction l with
 | nil=>intro i _ x hx;cases hx
 | cons a l ih =>{intro i h x hx;rw[lu,cY]at h;rcases ei.1 hx with rfl|hx;{rintro rfl;have:=h.1;unfold wM jx at this;simp at this};{exact ih (i+1) h.2 x hx}}};exact key _ 0 hh.2 x hx};{cases h}
theorem adm{star:Bool}{n:ah}(h:(gT star n).isSome=true):(80:UInt8) ∉ n:=by
 intro hc;unfold gT at h;split at h;{
 rename_i hh;have key:∀(l:List ah) (i:Nat),lu star i l=true->∀x∈l,(80:UInt8) ∉ x:=by{
 intro l;induction l with
 | nil=>intro i _ x hx;cases hx
 | cons a l ih =>{intro i h x hx;rw[lu,cY]at h;rcases ei.1 hx with rfl|hx;{intro IC;have:=h.1;unfold wM at this;rw[xK]at this;rcases this with this|this;{unfold jx at this;rw[cY,vT]at this;exact absurd (this.2 80 IC) bD};{simp only[cY,fe]at this;rw[this.1.2]at IC;exact absurd IC bD}};{exact ih (i+1) h.2 x hx}}};rcases Ve _ n 80 aA hc with h|⟨l,h1,h2⟩;{exact absurd h bD};{exact key _ 0 hh.2 l h1 h2}};{cases h}
theorem P5{n:ah}(h:dr n=true):(80:UInt8) ∉ n:=adm (star:=false) (by rw[zJ];exact h)
theorem P6{n:ah}(h:iC n=true):(80:UInt8) ∉ n:=adm (star:=true) (by rw[KS];exact h)
theorem gU{n:ah}(h:dr n=true):fC n/\n.length<=60:=adl (by rw[zJ];exact h)
theorem Dq{n:ah}(h:iC n=true):fC n/\n.length<=60:=adl (by rw[KS];exact h)
section
variable {o:ah} {rs:List ai} (hz:kE o rs)
include hz
theorem tZ:sF rs:=fun r hr=>by have:=Dp (hz.recs r hr).dat;exact⟨ae,ae,P6 (hz.recs r hr).tY⟩
theorem P7:Bk o rs:=by
 refine⟨by have:=(gU hz.org).2;omega,?_,fun r hr=>by have:=(Dq (hz.recs r hr).tY).2;omega⟩;have:=hz.P2;unfold lL at this;cases rs with
 | nil=>simp
 | cons r t=>simp at this ⊢; omega
theorem FV:rs.length<=60:=by
 have:=hz.P2;unfold lL at this;cases rs with
 | nil=>simp
 | cons r t=>simp at this ⊢; omega
theorem u_:0<rs.length:=by
 have:=hz.P2;unfold lL at this;cases rs with
 | nil=>simp at this
 | cons r t=>simp
theorem adn(n:ah)(k:Int):(eH rs n k).length<=60:=a_ (Cx _ _) (FV hz)
theorem ao0:eH rs o 6 = [rs[0]'(u_ hz)]/\(rs[0]'(u_ hz)).type=6/\(rs[0]'(u_ hz)).owner=o:=by
 have h:=hz.P2;unfold lL at h;cases rs with
 | nil=>simp at h
 | cons r t =>{simp only[cY,tj,fe,y9]at h;obtain⟨_,⟨h1,h2⟩,h3⟩:=h;refine⟨?_,h2,h1⟩;unfold eH;rw[rG (by simp[h1,h2])];show r :: _ = [r];congr 1;rw[rH];intro x hx hc;simp only[cY,fe]at hc;rw[<- qI]at h3;exact h3 (oA.2 ⟨x,hx,by unfold lZ;simpa using hc.2⟩)}
theorem P8:∃a0 a1 a2 a3,az 32 (rs[0]'(u_ hz)).data = [a0,a1,a2,a3]/\dz 86400 a3=true/\a3.length<=1000000/\fQ o (aN rs) = [Iz (rs[0]'(u_ hz)) a3]/\(∀r∈gi (cB (aN rs) o) 6,Fe r/\r.data.length<=3000/\r.aG<=1000000000):=by
 obtain⟨h1,h2,h3⟩:=ao0 hz;have hr:=hz.recs _ (cM (u_ hz));have hd:=hr.dat;rw[h2]at hd;obtain⟨a0,a1,a2,a3,e,hn⟩:=aoX hd;obtain⟨n1,n2,n3⟩:=adi hn;have hl:fW (rs[0]'(u_ hz)).data=a3:=Vx _ [a0,a1,a2] a3 e;refine⟨a0,a1,a2,a3,e,hn,ae,?_,?_⟩;{unfold fQ;rw[Ir,h1];show [xT _]=_;unfold xT TT Iz;rw[hl,n2];rfl};{
 rw[Ir,h1];intro r hr';have:r=rs[0]'(u_ hz):=by simpa using hr'
 subst this;refine⟨⟨by rw[hl];omega,iY 86400 a3,by rw[hl];exact n2,ae⟩,hr.len,by have:=hr.aG;omega⟩}
theorem ao1{s:ah}{r:ai}(hr:r∈cB (aN rs) s)(h5:r.type=5):cB (aN rs) s = [r]:=by
 have hval:∀r∈aN rs,iC r.owner=true:=fun r hr=>(hz.recs r ((zO rs).mem_iff.1 hr)).tY;have hp:=(acJ (FE rs) o).1 hz.aoS;obtain⟨gz,hb⟩:=acK (FE rs) hval o hp;rw[Dn]at hr ⊢;have hall:∀x∈(aN rs).filter (fun r=>r.owner == s),x=r:=fun x hx=>by{refine Cs fun hne=>?_;have hx':=fA.1 hx;have hr':=fA.1 hr;have:=(hb x hx'.1 r hr'.1 hne).2.1 (by have h1:=hx'.2;have h2:=hr'.2;simp only[fe]at h1 h2;rw[h1,h2]);exact this.2.1 h5};have t_:((aN rs).filter (fun r=>r.owner == s)).Nodup:=JV _ gz;generalize (aN rs).filter (fun r=>r.owner == s)=F at *;match F,hr,hall,t_ with
 | [],hr,_,_=>cases hr
 | [x],_,hall,_=>rw[hall x ar]
 | x :: y :: t,_,hall,t_ =>{have e1:=hall x ar;have e2:=hall y ar;rw[e1,e2]at t_;simp at t_}
theorem Vy(s n:ah):iG rs (aT s) 5=qT ((cB (aN rs) s).map (eM n))/\(iG rs (aT s) 5=true->∃r,r.type=5/\r∈rs/\cB (aN rs) s = [r]/\dL rs s 5 = [r]):=by
 have h5:dL rs s 5=eH rs s 5:=by unfold dL;rw[aF bD]
 rw[Vk rs s 5 (tZ hz),h5];have hs:=Ir rs s 5;rw[acW (FT rs s) (Ll rs s)]at hs;cases ho:eH rs s 5 with
 | nil =>{
 refine⟨?_,fun h=>by simp at h⟩;rw[ho,rH]at hs;unfold qT;cases hf:cB (aN rs) s with
 | nil=>rfl
 | cons x t =>{have hx:=hs x (by rw[hf];simp);show false=((List.map (eM n) (x :: t)).length == 1 && (eM n x).type == 5);have:((eM n x).type == 5)=false:=by{show(x.type == 5)=false;simpa using hx};rw[this,JQ]}}
 | cons r t =>{
 rw[ho]at hs;have hm:r∈(cB (aN rs) s).filter (fun r=>r.type == 5):=by rw[hs];simp
 obtain⟨m1,m2⟩:=fA.1 hm;have P9:r.type=5:=by simpa using m2
 have e:=ao1 hz m1 P9;have et:r :: t = [r]:=by rw[<- hs,e];simp[P9]
 refine⟨?_,fun _=>⟨r,P9,(Lm m1).1,e,et⟩⟩;rw[e];show true=((1:Nat) == 1 && (eM n r).type == 5);have:((eM n r).type == 5)=true:=by show(r.type == 5)=true;rw[P9];rfl
 rw[this];rfl}
end
def iq(w:World)(x:Nat->Prop)(v:Value)(ls:List ah):Prop:=∃g off cap,v=aD g off ls.length cap/\ls.length<=cap/\fS w g off ls/\¬x g
def wZ(x:Value×Value×ai):List Value:=[x.1,aj x.2.2.aG,aj x.2.2.type,ay x.2.2.data,x.2.1]
def dB(x:Nat->Prop)(w:World)(base:Nat)(v:Value)(l:List ai):Prop :=
 ∃xs:List (Value×Value×ai),xs.map (·.2.2)=l/\w.ownsRow base 119 5 v xs.length (xs.flatMap wZ) /\
  ∀y∈xs,iq w (fun k=>x k\/some k=v.ownBlock) y.1 (aT y.2.2.owner)/\iq w (fun k=>x k\/some k=v.ownBlock) y.2.1 (az 32 y.2.2.data)
def ao2(w:World)(x:Nat->Prop)(b o:Nat)(r:ai):Prop:=∃vo dS,w.cell? (ak b o)=some vo/\w.cell? (ak b (o+1))=some (aj r.aG)/\w.cell? (ak b (o+2))=some (aj r.type)/\w.cell? (ak b (o+3))=some (ay r.data)/\w.cell? (ak b (o+4))=some dS/\iq w x vo (aT r.owner)/\iq w x dS (az 32 r.data)
def dM(w:World)(ab:Nat)(rc:Int)(aa:Bool)(va vu vd:Value):Prop:=w.heap[ab]? = some (.cells #[.int .i64 rc,.bool aa,va,vu,vd] 123)
section
section
variable {w w':World} {ab:Nat} {rc:Int} {aa:Bool} {va vu vd:Value} (h:dM w ab rc aa va vu vd)
include h
theorem dM.lt:ab<w.heap.size:=(bV.1 h).1
theorem dM.cells:w.cell? (ak ab 0)=some (aj rc)/\w.cell? (ak ab 1)=some (.bool aa)/\w.cell? (ak ab 2)=some va/\w.cell? (ak ab 3)=some vu/\w.cell? (ak ab 4)=some vd:=by unfold dM at h;refine⟨?_,?_,?_,?_,?_⟩ <;> simp[World.cell?,h]
theorem dM.frozen(i:Nat):w.frozen? (ak ab i)=false:=by unfold dM at h;simp[World.frozen?,h]
theorem dM.kept(hb:w'.heap[ab]? = w.heap[ab]?):dM w' ab rc aa va vu vd:=hb.trans h
theorem dM.set0(u:Int):dM (w.setCell ⟨ab,0,none⟩ (.int .i64 u)) ab u aa va vu vd:=by unfold dM at *;simp only[World.setCell,fw,gZ,h];rfl
theorem dM.set1(u:Bool):dM (w.setCell ⟨ab,1,none⟩ (.bool u)) ab rc u va vu vd:=by unfold dM at *;simp only[World.setCell,fw,gZ,h];rfl
theorem dM.set2(u:Value):dM (w.setCell ⟨ab,2,none⟩ u) ab rc aa u vu vd:=by unfold dM at *;simp only[World.setCell,fw,gZ,h];rfl
theorem dM.iM(u:Value):dM (w.setCell ⟨ab,3,none⟩ u) ab rc aa va u vd:=by unfold dM at *;simp only[World.setCell,fw,gZ,h];rfl
theorem dM.lj(u:Value):dM (w.setCell ⟨ab,4,none⟩ u) ab rc aa va vu u:=by unfold dM at *;simp only[World.setCell,fw,gZ,h];rfl
end
theorem fS.fr{p:Nat->Prop}{A B:World}{g off:Nat}{ls:List ah}(h:fS A g off ls)(hf:bn p A B)(hp:p g):fS B g off ls :=
 ⟨dP h.1 hf.size,fun j hj=>(dh (a:=⟨g,off+j,none⟩) (hf.block g h.1 hp)).trans (h.2 j hj)⟩
theorem iq.nm{w:World}{x:Nat->Prop}{v:Value}{ls:List ah}(h:iq w x v ls):en w v ls:=by obtain⟨g,off,cap,h1,h2,h3,_⟩:=h;exact⟨g,off,cap,h1,h2,h3⟩
theorem iq.fr{p x:Nat->Prop}{A B:World}{v:Value}{ls:List ah}(h:iq A x v ls)(hf:bn p A B)(hp:∀k,¬x k->p k):iq B x v ls:=by obtain⟨g,off,cap,h1,h2,h3,h4⟩:=h;exact⟨g,off,cap,h1,h2,h3.fr hf (hp g h4),h4⟩
theorem iq.imp{x y:Nat->Prop}{A:World}{v:Value}{ls:List ah}(h:iq A x v ls)(hy:∀k,k<A.heap.size->¬x k->¬y k):iq A y v ls:=by obtain⟨g,off,cap,h1,h2,h3,h4⟩:=h;exact⟨g,off,cap,h1,h2,h3,hy g h3.1 h4⟩
theorem dB.nil(x:Nat->Prop)(w:World)(base:Nat):dB x w base (aH) []:=⟨[],rfl,ia w base _ 5,fun y hy=>by cases hy⟩
section
variable {x:Nat->Prop} {w:World} {base:Nat} {v:Value} {l:List ai} (h:dB x w base v l)
include h
theorem dB.slice:∃a c,v=.slice a l.length c:=by obtain⟨xs,rfl,h1,_⟩:=h;rw[bY];rcases h1.2 with⟨rfl,h0⟩|⟨g,cap,_,rfl,_⟩;{exact⟨none,0,by rw[h0]⟩};{exact⟨_,_,rfl⟩}
theorem dB.lt:∀k,v.ownBlock=some k->base<=k/\k<w.heap.size:=by obtain⟨xs,_,h1,_⟩:=h;exact iW h1
theorem dB.fr{p:Nat->Prop}{w':World}(hf:bn p w w')(hp:∀k,k<w.heap.size->¬x k->some k≠v.ownBlock->p k)(ho:∀k,v.ownBlock=some k->p k):dB x w' base v l:=by obtain⟨xs,h0,h1,h2⟩:=h;have hf2:bn (fun k=>k<w.heap.size->p k) w w':=⟨hf.os,hf.tape,hf.output,hf.size,fun k hk gF=>hf.block k hk (gF hk)⟩;refine⟨xs,h0,?_,fun y hy=>⟨(h2 y hy).1.fr hf2 (fun k hk gF=>hp k gF (fun hx=>hk (.inl hx)) (fun he=>hk (.inr he))),(h2 y hy).2.fr hf2 (fun k hk gF=>hp k gF (fun hx=>hk (.inl hx)) (fun he=>hk (.inr he)))⟩⟩;refine⟨h1.1,?_⟩;rcases h1.2 with hn|⟨g,cap,cur,rfl,hb,zQ,rest⟩;{exact .inl hn};{exact .inr ⟨g,cap,cur,rfl,hb,(hf.block g (bV.1 zQ).1 (ho g rfl)).trans zQ,rest⟩}
theorem dB.below{w':World}(hb:au w w'):dB x w' base v l:=h.fr (p:=fun _=>True) (bn.uM hb) (fun _ _ _ _=>aQ) (fun _ _=>aQ)
theorem dB.set{a:Addr}(u:Value)(hx:x a.block)(hb:a.block<base):dB x (w.setCell a u) base v l :=
 h.fr (p:=fun k=>k≠a.block) (bn.jD u (fun _ h=>h)) (fun k _ h1 _ e=>h1 (by rw[e];exact hx)) (fun k hk e=>by have:=(h.lt k hk).1;omega)
theorem dB.imp{y:Nat->Prop}(hy:∀k,k<w.heap.size->¬x k->some k≠v.ownBlock->¬y k):dB y w base v l:=by obtain⟨xs,h0,h1,h2⟩:=h;have ax:∀k,k<w.heap.size->¬(x k\/some k=v.ownBlock)->¬(y k\/some k=v.ownBlock):=fun k hk hn hc=>by{rcases hc with hc|hc;{exact hy k hk (fun hx=>hn (.inl hx)) (fun he=>hn (.inr he)) hc};{exact hn (.inr hc)}};exact⟨xs,h0,h1,fun z hz=>⟨(h2 z hz).1.imp ax,(h2 z hz).2.imp ax⟩⟩
theorem dB.Lp:(v=aH/\l = [])\/∃g cap,v=aD g 0 l.length cap/\base<=g/\l.length<=cap/\∀k (hk:k<l.length),ao2 w (fun k=>x k\/some k=v.ownBlock) g (k*5) l[k]:=by
 obtain⟨xs,rfl,h1,h2⟩:=h;rcases h1.2 with⟨hv,hn⟩|⟨g,cap,cur,hv,hg,aZ,dt,_,hsz,ja⟩;{refine .inl ⟨hv,?_⟩;rw[fp hn];rfl};{
 refine .inr ⟨g,cap,by rw[bY];exact hv,hg,by rw[bY];exact dt,fun k hk=>?_⟩;rw[bY]at hk;have flat:∀(ys:List (Value×Value×ai)) (k i:Nat) (hk:k<ys.length),i<5->(ys.flatMap wZ)[k*5+i]? = (wZ ys[k])[i]?:=by{
 intro ys;induction ys with
 | nil=>intro k i hk;simp at hk
 | cons y ys ih =>{
 intro k i hk ax;have h5:(wZ y).length=5:=rfl;cases k with
 | zero=>rw[iV,rK,eY,EO ae];rfl
 | succ k =>{rw[iV,y_ ae,h5,show(k+1)*5+i - 5=k*5+i by omega];exact ih k i (by simpa using hk) ax}}};have hcell:∀i,i<5->w.cell? (ak g (k*5+i))=(wZ xs[k])[i]?:=by{intro i ax;rw[<- flat xs k i hk ax,<- ja,ze ae];unfold World.cell?;rw[aZ];simp};have hn:=h2 xs[k] (cM hk);rw[vW];exact⟨xs[k].1,xs[k].2.1,hcell 0 ae,hcell 1 ae,hcell 2 ae,hcell 3 ae,hcell 4 ae,hn.1,hn.2⟩}
theorem dB.recs(IC:∀r∈l,(80:UInt8) ∉ r.owner):(v=aH/\l = [])\/∃g cap,v=aD g 0 l.length cap/\base<=g/\l.length<=cap/\Dh w g 0 l:=by rcases h.Lp with h|⟨g,cap,h1,h2,h3,h4⟩;{exact .inl h};{refine .inr ⟨g,cap,h1,h2,h3,fun k hk=>?_⟩;obtain⟨vo,dS,c0,aC,c2,c3,aV,n0,n1⟩:=h4 k hk;rw[eY];exact⟨vo,dS,c0,aC,c2,c3,aV,by rw[<- yx (IC _ (cM hk))];exact n0.nm,n1.nm⟩}
end
end
theorem ao3{x:Nat->Prop}{w0 w w':World}{base b off:Nat}{rs:List ai}{n:ah}{ow v:Value}{js:List Nat}(hz:Dh w0 b off rs)(hb0:au w0 w)(hb:au w w')(hx:∀k,k<w0.heap.size->¬x k)(dw:base<=w.heap.size)
  (ado:∀j∈js,j<rs.length) (how:iq w x ow (aT n)) (hrow:w'.ownsRow w.heap.size 119 5 v js.length (js.flatMap (Dm w b off ow rs))):dB x w' base v (js.map (PS rs n)):=by
 refine⟨js.map fun j=>(ow,Io w b off j,PS rs n j),by rw[kY];rfl,?_,?_⟩;{rw[bY,List.flatMap_map];exact EZ hrow dw};{
 intro y hy;obtain⟨j,hj,rfl⟩:=jZ.1 hy;have hown:∀k,k<w.heap.size->some k≠v.ownBlock:=fun k hk e=>by have:=(iW hrow k e.symm).1;omega
 have hs0:=hb0.size;refine⟨?_,?_⟩;{obtain⟨g,o',c,h1,h2,h3,h4⟩:=how;exact⟨g,o',c,h1,h2,h3.below hb,fun hc=>hc.elim h4 (hown g h3.1)⟩};{
 have kM:=ado j hj;obtain⟨vo,dS,q0,q1,q2,q3,q4,q5,q6⟩:=hz j kM;have Vz:w.cell? (ak b (off+j*5+4))=some dS:=(hb0.cell (iz _ _ q4)).trans q4;have hwd:Io w b off j=dS:=by unfold Io;rw[Vz];rfl
 show iq w' _ (Io w b off j) (az 32 (rs[j]?.getD ai.zero).data);rw[hwd,iw kM];obtain⟨g,o',c,h1,h2,h3⟩:=q6;exact⟨g,o',c,h1,h2,(h3.below hb0).below hb,fun hc=>hc.elim (hx g h3.1) (hown g (by have:=h3.1;omega))⟩}}
theorem ID{x y:Nat->Prop}{w:World}{base base':Nat}{va xv:Value}{ans xs:List ai}(ho:dB x w base va ans)(hx:dB y w base' xv xs)(hy:∀k,k<w.heap.size->(x k\/some k=va.ownBlock)->y k)(hb:base<=w.heap.size)(hl:ans.length+xs.length<=100000)(uB:∀k,x k->k<w.heap.size) :
  ∃v' w',(Builtin.append_ #[115,115] 115 #[va,xv]).run prog w=.ok v' w'/\dB x w' base v' (ans++xs)/\w.grownBy w' va.ownBlock/\(v'.ownBlock=va.ownBlock\/v'.ownBlock=some w.heap.size):=by
 obtain⟨i0,ax,hz0,hz1,hz2⟩:=kJ U_;obtain⟨ys0,rfl,a1,a2⟩:=ho;obtain⟨bs,rfl,b1,b2⟩:=hx;have FW:∀(ys:List (Value×Value×ai)),(∀z∈ys,z.1.oneCell'=true/\z.2.1.oneCell'=true)->∀u∈ys.flatMap wZ,u.oneCell'=true:=by{intro ys VA u hu;obtain⟨z,hz,hu⟩:=Ay.1 hu;have:=VA z hz;simp only[wZ,ei,List.not_mem_nil,tk]at hu;rcases hu with rfl|rfl|rfl|rfl|rfl;{exact this.1};{rfl};{rfl};{rfl};{exact this.2}};have adp:∀(ys:List (Value×Value×ai)),(ys.flatMap wZ).length=ys.length*5:=by{
 intro ys;induction ys with
 | nil=>rfl
 | cons z ys ih=>rw[iV,bj,ih,bP];show 5+_=_;omega};rw[bY,bY]at hl;rcases b1.2 with⟨rfl,h0⟩|⟨g,cap,cur,rfl,hg,aZ,dt,hmx,hsz,ja⟩;{have:bs = []:=fp h0;subst this;refine⟨va,w,run_append_owned_none (P:=prog) (w:=w) base 115 115 119 i0 5 PR ax va _ _ a1,?_,⟨rfl,rfl,rfl,bH _,fun _ _ _=>rfl⟩,.inl rfl⟩;rw[rI,h_];exact⟨ys0,rfl,a1,a2⟩};{
 have nB:∀j u,(bs.flatMap wZ)[j]? = some u->w.cell? (((ak g 0):Addr).add j)=some u:=by{intro j u hj;rw[JS,eY];have kM:j<bs.length*5:=by{have:=(jX.1 hj).1;rw[adp]at this;exact this};rw[<- ja,ze kM]at hj;unfold World.cell?;rw[aZ];simpa using hj};have ao4:∀z∈bs,z.1.oneCell'=true/\z.2.1.oneCell'=true:=by{intro z hz;obtain⟨⟨_,_,_,e1,_⟩,⟨_,_,_,e2,_⟩⟩:=b2 z hz;rw[e1,e2];exact⟨rfl,rfl⟩};obtain⟨v',w',h1,h2,h3,_,h5⟩:=run_append_own_at (P:=prog) w base 115 115 119 i0 _ 5 80 PR ax hz0 hz1 hz2 rfl ae va ys0.length (ys0.flatMap wZ) a1 (ak g 0) bs.length cap (bs.flatMap wZ) (adp bs) nB (FW bs ao4) (by simp[maxLen];omega) ae hb;refine⟨v',w',h1,⟨ys0++bs,by rw[gJ],by rw[bj,sZ];exact h2,?_⟩,h3,h5⟩;have hfr:bn (fun k=>some k≠va.ownBlock) w w':=bn.OA h3 (fun _ h=>h);have hnew:∀k,k<w.heap.size->some k≠va.ownBlock->some k≠v'.ownBlock:=fun k hk hn e=>by{
 rcases h5 with h5|h5;{rw[h5]at e;exact hn e};{
 rw[h5]at e;have:k=w.heap.size:=by simpa using e
 omega}};have go1:∀(z:Nat->Prop) (u:Value) (ls:List ah),(∀k,k<w.heap.size->x k\/some k=va.ownBlock->z k)->iq w z u ls->iq w' (fun k=>x k\/some k=v'.ownBlock) u ls:=by{intro z u ls hz hu;obtain⟨g',o',c',e1,e2,e3,e4⟩:=hu;have n1:¬x g':=fun hc=>e4 (hz g' e3.1 (.inl hc));have n2:some g'≠va.ownBlock:=fun hc=>e4 (hz g' e3.1 (.inr hc));exact⟨g',o',c',e1,e2,e3.fr hfr n2,fun hc=>hc.elim n1 (hnew g' e3.1 n2)⟩};intro z hz;rcases gm.1 hz with hz|hz;{exact⟨go1 _ _ _ (fun _ _ h=>h) (a2 z hz).1,go1 _ _ _ (fun _ _ h=>h) (a2 z hz).2⟩};{exact⟨go1 _ _ _ (fun k hk h=>.inl (hy k hk h)) (b2 z hz).1,go1 _ _ _ (fun k hk h=>.inl (hy k hk h)) (b2 z hz).2⟩}}
theorem IE{o:ah}{rs:List ai}(hz:kE o rs)(s:ah)(t:Int):(dL rs s t).length<=60:=by by_cases h:t=255;{subst h;rw[<- adb rs (tZ hz),Dn];have:=(zO rs).length_eq;exact a_ (Cx _ _) (by rw[this];exact FV hz)};{unfold dL;rw[aF h];exact adn hz s t}
theorem adq{o:ah}{rs:List ai}(hz:kE o rs){r:ai}(hr:r∈rs)(h5:r.type=5):az 32 r.data = [r.data]/\dr r.data=true:=by have hd:=(hz.recs r hr).dat;rw[h5]at hd;obtain⟨a,e,hp⟩:=adk (.inr rfl) hd;have:=wY e;rw[this]at e ⊢;exact⟨e,hp⟩
section
variable {zb:Nat} {o:ah} {rs:List ai} {w0 W:World} (hz:mM w0 zb o rs) (bq:kE o rs) (hb:au w0 W) {x:Nat->Prop} (hx : ∀ k,k<w0.heap.size->¬ x k) {base:Nat} (dw:base<=W.heap.size)
include hz bq hb hx dw
theorem VB(s m:ah)(u ow:Value)(t:Int)(hu:en W u (aT s))(hs:(aT s).length<=1000)(how:iq W x ow (aT m)) :
  aB 237 #[aM zb,u,aj t,ow] W fun e w'=>(∃v,e=.returned v/\dB x w' base v ((dL rs s t).map (eM m)))/\au W w':=by obtain⟨vo,b,off,cap,z0,z1,z2,z3⟩:=hz;have z0':=(hb.block zb (bV.1 z0).1).trans z0;have ao5:=how;obtain⟨g,o',c,rfl,_⟩:=ao5;refine(aog zb o rs u (some (ak g o')) _ c _ t W b off cap vo z0' z2 (z3.below hb) (P7 bq) hu hs).mono ?_;rintro e w' ⟨⟨v,rfl,hrow⟩,hb'⟩;refine⟨⟨v,rfl,?_⟩,hb'⟩;rw[<- aox rs s m t (tZ bq)];exact ao3 z3 hb hb' hx dw (fun j hj=>acT rs _ t 17 j hj) how hrow
theorem P_:aB 239 #[aM zb] W fun e w'=>(∃v,e=.returned v/\dB x w' base v (fQ o (aN rs)))/\au W w':=by
 obtain⟨vo,b,off,cap,z0,z1,z2,z3⟩:=hz;have z0':=(hb.block zb (bV.1 z0).1).trans z0;obtain⟨a0,a1,a2,a3,h1,h2,h3,h4,_⟩:=P8 bq;refine(aoN zb o rs W b off cap vo z0' z2 (z3.below hb) (u_ bq) a0 a1 a2 a3 h3 h2 h1).mono ?_;rintro e w' ⟨⟨q,ro,ml,rfl,hq,hcell,c0,aV⟩,hb'⟩;refine⟨⟨_,rfl,?_⟩,hb'⟩;rw[h4];obtain⟨Qa,Qb,q0,_,_,_,q4,q5,q6⟩:=z3 0 (u_ bq);rw[rK,gK]at q0 q4;have e0:ro=Qa:=by{have:=(hb.cell (iz _ _ q0)).trans q0;rw[c0]at this;exact fq this};have e4:ml=Qb:=by{have:=(hb.cell (iz _ _ q4)).trans q4;rw[aV]at this;exact fq this};subst e0 e4;have hs0:=hb.size;refine⟨[(ro,ml,Iz (rs[0]'(u_ bq)) a3)],rfl,⟨rfl,.inr ⟨q,1,_,rfl,ae,hcell,bH _,by unfold maxLen;omega,rfl,rfl⟩⟩,?_⟩;intro y hy;obtain rfl:y=_:=by simpa using hy
 have hne:∀k,k<w0.heap.size->¬(x k\/some k=(Value.slice (some (ak q 0)) 1 1).ownBlock):=fun k hk hc=>by{
 rcases hc with hc|hc;{exact hx k hk hc};{
 have:k=q:=by simpa [Value.ownBlock]using hc
 omega}};rw[<- yx (tZ bq _ (cM (u_ bq))).2.2]at q5;obtain⟨g1,o1,aC,e1,f1,t1⟩:=q5;obtain⟨g2,o2,c2,e2,f2,t2⟩:=q6;exact⟨⟨g1,o1,aC,e1,f1,(t1.below hb).below hb',hne g1 t1.1⟩,⟨g2,o2,c2,e2,f2,(t2.below hb).below hb',hne g2 t2.1⟩⟩
end
def lT(r:ai):Bool:=r.type == 2 || r.type == 15
def rh(rs ans:List ai)(s:List ah×List ai)(r:ai):List ah×List ai :=
 if lT r then(if s.1.contains (fW r.data)then s else(s.1++[fW r.data],if ans.any (fun a=>a.owner == fW r.data && a.type == 1)then s.2 else s.2++eH rs (fW r.data) 1))else s
def kh(rs ans l:List ai):List ah×List ai:=l.foldl (rh rs ans) ([],[])
def yz(x:Nat->Prop)(w:World)(base:Nat)(v:Value)(l:List ah):Prop :=
 ∃vs:List Value,w.ownsRow base 113 1 v l.length vs/\∀j (h:j<l.length),∃u,vs[j]? = some u/\iq w (fun k=>x k\/some k=v.ownBlock) u (aT l[j])
structure ub(X:Nat->Prop)(w wr:World)(ab:Nat)(rc:Int)(aa:Bool)(va vu vd vs:Value)(seen:List ah)(add:List ai):Prop where
 an:dM wr ab rc aa va vu vd
 fr:bn (fun k=>k≠ab) w wr
 sn:yz (fun k=>X k\/some k=vd.ownBlock) wr w.heap.size vs seen
 ad:dB (fun k=>X k\/some k=vs.ownBlock) wr w.heap.size vd add
 ne:∀k,vs.ownBlock=some k->vd.ownBlock≠some k
 lt:ab<w.heap.size
 IG:X ab
 xl:∀k,X k->k<=ab
theorem ao6:prog.underlying 328=some (.slice 113):=aI
theorem ao7:(prog.info? 113).map (fun i=>(i.zero,i.size,i.bytes))=some (some (aH),1,24):=aI
theorem Lq{P:Program}{o:Oper}{a:Act}{w:World}{K:Act->World->Prop}{Q:Exit->Act->World->Prop}(s x:Operand)(t:TypeId)(ho:o.op=.call { callee:=.builtin .append,args:=#[s,x],argTypes:=#[t,t] })(v xv v':Value)(w':World)(hs:a.eval s=v)(hx:a.eval x=xv)
  (hr:(Builtin.append_ #[t,t] o.type #[v,xv]).run P w=.ok v' w') (h:K (a.put o.dst v') w'):o.wp P a w K Q:=by unfold Oper.wp execOp;simp only[ho,resolve,invoke,builtin,Sem.run_bind,JT,EL,J5,jL,rI,hs,hx,hr];exact h
section
variable {x:Nat->Prop} {w:World} {base:Nat} {v:Value} {l:List ah} (h:yz x w base v l)
include h
theorem yz.slice:∃a c,v=.slice a l.length c:=by obtain⟨vs,h1,_⟩:=h;rcases h1.2 with⟨rfl,h0⟩|⟨g,cap,_,rfl,_⟩;{exact⟨none,0,by rw[h0]⟩};{exact⟨_,_,rfl⟩}
theorem yz.lt:∀k,v.ownBlock=some k->base<=k/\k<w.heap.size:=by obtain⟨vs,h1,_⟩:=h;exact iW h1
theorem yz.fr{p:Nat->Prop}{w':World}(hf:bn p w w')(hp:∀k,k<w.heap.size->¬x k->some k≠v.ownBlock->p k)(ho:∀k,v.ownBlock=some k->p k):yz x w' base v l:=by obtain⟨vs,h1,h2⟩:=h;have hf2:bn (fun k=>k<w.heap.size->p k) w w':=⟨hf.os,hf.tape,hf.output,hf.size,fun k hk gF=>hf.block k hk (gF hk)⟩;refine⟨vs,⟨h1.1,?_⟩,fun j hj=>?_⟩;{rcases h1.2 with hn|⟨g,cap,cur,rfl,hb,zQ,rest⟩;{exact .inl hn};{exact .inr ⟨g,cap,cur,rfl,hb,(hf.block g (bV.1 zQ).1 (ho g rfl)).trans zQ,rest⟩}};{obtain⟨u,h3,h4⟩:=h2 j hj;exact⟨u,h3,h4.fr hf2 (fun k hk gF=>hp k gF (fun hx=>hk (.inl hx)) (fun he=>hk (.inr he)))⟩}
theorem yz.imp{y:Nat->Prop}(hy:∀k,k<w.heap.size->¬x k->some k≠v.ownBlock->¬y k):yz y w base v l:=by obtain⟨vs,h1,h2⟩:=h;refine⟨vs,h1,fun j hj=>?_⟩;obtain⟨u,h3,h4⟩:=h2 j hj;refine⟨u,h3,h4.imp (fun k hk hn hc=>?_)⟩;rcases hc with hc|hc;{exact hy k hk (fun hx=>hn (.inl hx)) (fun he=>hn (.inr he)) hc};{exact hn (.inr hc)}
theorem yz.at{k:Nat}(hk:k<l.length):∃g cap u,v=aD g 0 l.length cap/\l.length<=cap/\w.cell? (ak g k)=some u/\iq w (fun k=>x k\/some k=v.ownBlock) u (aT l[k]):=by obtain⟨vs,h1,h2⟩:=h;obtain⟨u,h3,h4⟩:=h2 k hk;rcases h1.2 with⟨_,h0⟩|⟨g,cap,cur,hv,hb,aZ,hc,_,hsz,ja⟩;{omega};{refine⟨g,cap,u,hv,hc,?_,h4⟩;rw[<- h3,<- ja,ze ae];unfold World.cell?;rw[aZ];simp}
theorem ao8{s:ah}{u:Value}(hu:iq w (fun k=>x k\/some k=v.ownBlock) u (aT s))(hb:base<=w.heap.size)(hl:l.length<=100000) :
  ∃v' w',(Builtin.append_ #[328,328] 328 #[v,aD w.heap.size 0 1 1]).run prog (w.alloc (.cells #[u] 113))=.ok v' w'/\yz (fun k=>x k/\k<w.heap.size) w' base v' (l++[s])/\bn (fun k=>some k≠v.ownBlock) w w'/\(v'.ownBlock=v.ownBlock\/v'.ownBlock=some (w.heap.size+1)):=by
 obtain⟨i0,ax,hz0,hz1,hz2⟩:=kJ ao7;have hne:some w.heap.size≠v.ownBlock:=fun e=>by have:=(yz.lt h _ e.symm).2;omega
 obtain⟨vs,h1,h2⟩:=h;have dw:au w (w.alloc (.cells #[u] 113)):=aO.alloc aA _;have FW:u.oneCell'=true:=by obtain⟨_,_,_,rfl,_⟩:=hu;rfl
 have hsz:(w.alloc (.cells #[u] 113)).heap.size=w.heap.size+1:=dD w _;obtain⟨v',w',k1,k2,k3,_,k5⟩:=run_append_own_at (P:=prog) (w.alloc (.cells #[u] 113)) base 328 328 113 i0 _ 1 24 ao6 ax hz0 hz1 hz2 rfl ae v l.length vs (ic h1 dw) (ak w.heap.size 0) 1 1 [u] rfl (fun j y hj=>by{
 rw[JS,eY];have:=World.alloc_heap_new w (.cells #[u] 113);unfold World.cell?;rw[this];cases j with
 | zero=>exact hj
 | succ j=>simp at hj}) (fun y hy=>by rw[show y=u by simpa using hy];exact FW) (by simp[maxLen];omega) ae ae
 rw[hsz]at k5;have hfr:bn (fun k=>some k≠v.ownBlock) w w':=⟨k3.os,k3.tape,k3.output,a_ ae k3.size,fun k hk hn=>(k3.block k ae hn).trans (cD w _ k hk)⟩;have hnew:∀k,k<w.heap.size->some k≠v.ownBlock->some k≠v'.ownBlock:=fun k hk hn e=>by{
 rcases k5 with h5|h5;{rw[h5]at e;exact hn e};{
 rw[h5]at e;have:k=w.heap.size+1:=by simpa using e
 omega}};have go1:∀(y:Value) (ls:List ah),iq w (fun k=>x k\/some k=v.ownBlock) y ls->iq w' (fun k=>(x k/\k<w.heap.size)\/some k=v'.ownBlock) y ls:=fun y ls hy=>by{obtain⟨g',o',c',e1,e2,e3,e4⟩:=hy;exact⟨g',o',c',e1,e2,e3.fr hfr (fun e=>e4 (.inr e)),fun hc=>hc.elim (fun hx=>e4 (.inl hx.1)) (hnew g' e3.1 (fun e=>e4 (.inr e)))⟩};refine⟨v',w',k1,⟨vs++[u],by rw[bj];exact k2,fun j hj=>?_⟩,hfr,k5⟩;have sG:vs.length=l.length:=by have:=h1.1;omega
 rw[bj,J3]at hj;by_cases kM:j<l.length;{obtain⟨y,h3,h4⟩:=h2 j kM;refine⟨y,by rw[EO ae];exact h3,?_⟩;rw[ZT kM];exact go1 y _ h4};{have:j=l.length:=ae;subst this;refine⟨u,by rw[y_ ae];simp[sG],?_⟩;rw[JY ae];simp only[rJ,lI];exact go1 u _ hu}
end
section
variable {X:Nat->Prop} {w wr:World} {ab:Nat} {rc:Int} {aa:Bool} {va vu vd vs:Value} {seen:List ah} {add:List ai} (h:ub X w wr ab rc aa va vu vd vs seen add)
include h
theorem ub.below{w1:World}(hb:au wr w1):ub X w w1 ab rc aa va vu vd vs seen add :=
 ⟨h.an.kept (hb.block ab h.an.lt),h.fr.trans (bn.uM hb),h.sn.fr (p:=fun _=>True) (bn.uM hb) (fun _ _ _ _=>aQ) (fun _ _=>aQ),h.ad.below hb,h.ne,h.lt,h.IG,h.xl⟩
theorem ub.adr{w0:World}(hb:au w0 w)(hab:w0.heap.size<=ab):au w0 wr :=
 hb.trans ((h.fr.below (n:=w0.heap.size) (fun k hk e=>ae) hb.size))
theorem ub.own{v:Value}{l:List ai}(ho:dB X w (ab+1) v l):dB X wr (ab+1) v l :=
 ho.fr h.fr (fun k _ hk _ e=>hk (by rw[e];exact h.IG)) (fun k hk e=>by have:=(ho.lt k hk).1;omega)
theorem ub.ao9{s:ah}{u:Value}(hu:iq wr (fun k=>X k\/some k=vd.ownBlock\/some k=vs.ownBlock) u (aT s))(hl:seen.length<=100000) :
  ∃v' w',(Builtin.append_ #[328,328] 328 #[vs,aD wr.heap.size 0 1 1]).run prog (wr.alloc (.cells #[u] 113))=.ok v' w'/\ub X w w' ab rc aa va vu vd v' (seen++[s]) add/\iq w' (fun k=>X k\/some k=vd.ownBlock\/some k=v'.ownBlock) u (aT s)/\wr.heap.size<=w'.heap.size:=by
 have hsz:=h.fr.size;obtain⟨v',w',k1,k2,k3,k5⟩:=ao8 h.sn (s:=s) (u:=u) (hu.imp (fun k _ hn hc=>hn (by rcases hc with(hc|hc)|hc;exact .inl hc;exact .inr (.inl hc);exact .inr (.inr hc)))) hsz hl;have w_:=h.sn.lt;have ue:=h.ad.lt;have hlt:=h.lt;have hab:some ab≠vs.ownBlock:=fun e=>by have:=(w_ ab e.symm).1;omega
 have hnew:∀k,k<wr.heap.size->some k≠vs.ownBlock->some k≠v'.ownBlock:=fun k hk hn e=>by{
 rcases k5 with h5|h5;{rw[h5]at e;exact hn e};{
 rw[h5]at e;have:k=wr.heap.size+1:=by simpa using e
 omega}};refine⟨v',w',k1,⟨h.an.kept (k3.block ab ae hab),⟨k3.os.trans h.fr.os,k3.tape.trans h.fr.tape,k3.output.trans h.fr.output,a_ hsz k3.size,fun k hk hn=>(k3.block k ae (fun e=>by have:=(w_ k e.symm).1;omega)).trans (h.fr.block k hk hn)⟩,?_,?_,?_,h.lt,h.IG,h.xl⟩,?_,k3.size⟩;{exact k2.imp (fun k _ h1 _ hc=>by{rcases hc with hc|hc;{exact h1 ⟨.inl hc,by have:=h.xl k hc;omega⟩};{exact h1 ⟨.inr hc,(ue k hc.symm).2⟩}})};{have:dB (fun k=>X k\/some k=vs.ownBlock) w' w.heap.size vd add:=h.ad.fr k3 (fun k _ h1 _ e=>h1 (.inr e)) (fun k hk e=>h.ne k e.symm hk);have h2:=h.ad.imp (y:=fun k=>(X k\/some k=vs.ownBlock)\/some k=v'.ownBlock) (fun k hk h1 h2 hc=>by{rcases hc with hc|hc;{exact h1 hc};{exact hnew k hk (fun e=>h1 (.inr e)) hc}});exact(h2.fr k3 (fun k _ h1 _ e=>h1 (.inl (.inr e))) (fun k hk e=>h.ne k e.symm hk)).imp (fun k _ h1 _ hc=>h1 (by rcases hc with hc|hc;exact .inl (.inl hc);exact .inr hc))};{
 intro k hk e;rcases k5 with h5|h5;{rw[h5]at hk;exact h.ne k hk e};{
 rw[h5]at hk;have:k=wr.heap.size+1:=by simpa using hk.symm
 have:=(ue k e).2;omega}};{obtain⟨g',o',c',e1,e2,e3,e4⟩:=hu;exact⟨g',o',c',e1,e2,e3.fr k3 (fun e=>e4 (.inr (.inr e))),fun hc=>by{rcases hc with hc|hc|hc;{exact e4 (.inl hc)};{exact e4 (.inr (.inl hc))};{exact hnew g' e3.1 (fun e=>e4 (.inr (.inr e))) hc}}⟩}
theorem ub.add1{xv:Value}{xs:List ai}{base':Nat}(hx:dB (fun k=>(X k\/some k=vs.ownBlock)\/some k=vd.ownBlock) wr base' xv xs)(hl:add.length+xs.length<=100000) :
  ∃v' w',(Builtin.append_ #[115,115] 115 #[vd,xv]).run prog wr=.ok v' w'/\dM w' ab rc aa va vu vd/\ub X w (w'.setCell ⟨ab,4,none⟩ v') ab rc aa va vu v' vs seen (add++xs)/\(∃a c,v'=.slice a (add.length+xs.length) c):=by
 have hsz:=h.fr.size;have w_:=h.sn.lt;have ue:=h.ad.lt;have hlt:=h.lt;obtain⟨v',w',k1,k2,k3,k5⟩:=ID h.ad hx (fun k _ hc=>hc) hsz hl (fun k hk=>by{rcases hk with hk|hk;{have:=h.xl k hk;omega};{exact(w_ k hk.symm).2}});have hab:some ab≠vd.ownBlock:=fun e=>by have:=(ue ab e.symm).1;omega
 have S:=h.an.kept (k3.block ab ae hab);have hfr:bn (fun k=>some k≠vd.ownBlock) wr w':=bn.OA k3 (fun _ h=>h);have hnew:∀k,k<wr.heap.size->some k≠vd.ownBlock->some k≠v'.ownBlock:=fun k hk hn e=>by{
 rcases k5 with h5|h5;{rw[h5]at e;exact hn e};{
 rw[h5]at e;have:k=wr.heap.size:=by simpa using e
 omega}};have eN:bn (fun k=>k≠ab) w' (w'.setCell ⟨ab,4,none⟩ v'):=bn.jD (a:=⟨ab,4,none⟩) v' (fun _ h=>h);refine⟨v',w',k1,S,⟨S.lj v',?_,?_,?_,?_,h.lt,h.IG,h.xl⟩,?_⟩;{have h2:bn (fun k=>k≠ab) w w':=⟨k3.os.trans h.fr.os,k3.tape.trans h.fr.tape,k3.output.trans h.fr.output,a_ hsz k3.size,fun k hk hn=>(k3.block k ae (fun e=>by have:=(ue k e.symm).1;omega)).trans (h.fr.block k hk hn)⟩;exact h2.trans eN};{have h1:=h.sn.imp (y:=fun k=>(X k\/some k=vd.ownBlock)\/some k=v'.ownBlock) (fun k hk n1 n2 hc=>by{rcases hc with hc|hc;{exact n1 hc};{exact hnew k hk (fun e=>n1 (.inr e)) hc}});have h2:=h1.fr hfr (fun k _ n1 _ e=>n1 (.inl (.inr e))) (fun k hk e=>h.ne k hk e.symm);have h3:=h2.fr eN (fun k _ n1 _ e=>n1 (.inl (.inl (by rw[e];exact h.IG)))) (fun k hk e=>by have:=(w_ k hk).1;omega);exact h3.imp (fun k _ n1 _ hc=>n1 (by rcases hc with hc|hc;exact .inl (.inl hc);exact .inr hc))};{exact k2.set (a:=⟨ab,4,none⟩) v' (.inl h.IG) hlt};{
 intro k hk e;have:=w_ k hk;rcases k5 with h5|h5;{rw[h5]at e;exact h.ne k hk e};{
 rw[h5]at e;have:k=wr.heap.size:=by simpa using e.symm
 omega}};{obtain⟨a,c,e⟩:=k2.slice;rw[bj]at e;exact⟨a,c,e⟩}
end
def yA(L ans:List ai)(s:List ah×List ai)(r:ai):List ah×List ai :=
 if lT r && !s.1.contains (fW r.data)then(s.1++[fW r.data],s.2++(gi (cB L (fW r.data)) 1).filter (fun a=>!ans.any (a == ·)))else s
def oP(L ans l:List ai):List ah×List ai:=l.foldl (yA L ans) ([],[])
theorem Qc(L ans l:List ai)(r:ai):oP L ans (l++[r])=yA L ans (oP L ans l) r:=by unfold oP;rw[Ax];rfl
theorem ao_{L ans:List ai}{s:List ah×List ai}{r:ai}(h:lT r=false):yA L ans s r=s:=by unfold yA;rw[h];rfl
theorem apa{L ans:List ai}{s:List ah×List ai}{r:ai}(h:s.1.contains (fW r.data)=true):yA L ans s r=s:=by unfold yA;rw[h,Bool.not_true,JQ];rfl
theorem apb{L ans:List ai}{s:List ah×List ai}{r:ai}(hn:lT r=true)(h:s.1.contains (fW r.data)=false):yA L ans s r=(s.1++[fW r.data],s.2++(gi (cB L (fW r.data)) 1).filter (fun a=>!ans.any (a == ·))):=by unfold yA;rw[h,hn];rfl
theorem apc(L ans:List ai)(hL:L.length<=60):∀(l:List ai),(oP L ans l).1.length<=l.length/\(oP L ans l).2.length<=l.length*60:=by
 intro l;obtain⟨n,hn⟩:∃n,l.length=n:=⟨_,rfl⟩;induction n generalizing l with
 | zero=>obtain rfl:l = []:=fp hn;exact⟨bH _,cV _⟩
 | succ n ih =>{
 rcases sY l with rfl|⟨l',r,rfl⟩;{simp at hn};{
 rw[sW]at *;have hl:l'.length=n:=by simp at hn;exact hn
 obtain⟨h1,h2⟩:=ih l' hl;rw[Qc];have ho:=Cx (fun a:ai=>!ans.any (a == ·)) (gi (cB L (fW r.data)) 1);have hs:=a_ (Ok (cB L (fW r.data)) 1) (Kt L (fW r.data));unfold yA;split;{refine⟨aP,?_⟩;show((oP L ans l').2++_).length<=_;rw[bj,bj];simp only[J3];omega};{exact⟨aP,aP⟩}}}
theorem apd(x:ai)(w:World) :
  aB 234 #[aH,.agg #[ay x.owner,aj x.aG,aj x.type,ay x.data]] w (bQ (aj (-1)) w):=by
 have dw:∀o,au w (w.alloc o):=fun o=>aO.alloc aA _;have mD:=ag dw;clear dw;go_enter func234,ntmps234;go_wp2_with fail;go_loopw [8] (fun i wr=>i=aj 0/\au w wr) (fun _ _=>0);case atStart=>exact⟨rfl,af mD _⟩
 case round =>(obtain⟨rfl,hb⟩:=hrel;go_wp2;go_ret;exact⟨rfl,hb⟩)
theorem ape(x:ai)(w:World) :
  aB 178 #[aH,.agg #[ay x.owner,aj x.aG,aj x.type,ay x.data]] w (bQ (.bool false) w):=by have dw:∀o,au w (w.alloc o):=fun o=>aO.alloc aA _;have mD:=ag dw;have eG:=ag (fun W=>apd x W);clear dw;go_enter func178,ntmps178;go_wp2_with fail;refine(eG _).mono ?_;rintro e w2 ⟨rfl,hb2⟩;go_wp2;go_ret;exact⟨rfl,(mD _).trans (hb2.mono ar)⟩
theorem apf(x:ai)(v:Value)(rs:List ai)(w:World)(hv:jm w v rs)(hl:rs.length<=3001) :
  aB 178 #[v,.agg #[ay x.owner,aj x.aG,aj x.type,ay x.data]] w (bQ (.bool (rs.any (x == ·))) w):=by rcases hv with⟨rfl,rfl⟩|⟨b,off,cap,rfl,_,hr⟩;{exact ape x w};{exact aan x b off cap rs w hr hl}
def FX(w:World)(base:Nat)(v:Value)(l:List ah):Prop:=w.ownsRow base 9 1 v l.length (l.map fun s=>ay s)
theorem FX.slice{w:World}{base:Nat}{v:Value}{l:List ah}(h:FX w base v l):∃a c,v=.slice a l.length c:=by rcases h.2 with⟨rfl,h0⟩|⟨g,cap,_,rfl,_⟩;{exact⟨none,0,by rw[h0]⟩};{exact⟨_,_,rfl⟩}
theorem apg(v:Value)(l:List ah)(x:ah)(base:Nat)(w:World)(h:FX w base v l)(hl:l.length<=100000) :
  aB 197 #[v,ay x] w fun e w'=>e=.returned (.bool (l.contains x))/\w'=w:=by
 have aph:∀a b:ah,aq a=aq b->a=b:=fun a b e=>by{have:=dE (fun z:ByteArray=>z.data.toList) e;exact this};have hc0:∀(n:Nat),n=l.length->Lib.containsS ((l.map aq).take n) (aq x)=l.contains x:=fun n hn=>by{rw[hn,show l.length=(l.map aq).length by simp,gV,rE,Lib.containsS_iff,List.contains_iff_mem,jZ];exact⟨fun⟨a,h1,h2⟩=>by rw[<- aph _ _ h2];exact h1,fun h=>⟨x,h,rfl⟩⟩};rcases h.2 with⟨rfl,h0⟩|⟨g,cap,cur,rfl,hb,aZ,hc,_,hsz,ja⟩;{have:=Tryz.slices_Contains_string_empty none 0 (aq x) w;have hl0:l = []:=fp h0;subst hl0;exact this};{
 have:=Tryz.slices_Contains_string g 0 l.length cap (l.map aq) (aq x) w ar ae (fun j hj=>by{
 have hj':j<l.length:=by simpa using hj
 have:=dE (fun z:List Value=>z[j]?) ja;rw[ze ae,Cv,iw hj']at this;unfold World.cell?;rw[aZ,eY];have h2:cur[j]? = some (.string (aq l[j])):=by simpa using this
 simp[h2,hj']})
 rw[hc0 l.length rfl]at this;exact this}
theorem api:(prog.info? 9).map (fun i=>(i.zero,i.size,i.bytes))=some (some (.string ⟨#[]⟩),1,16):=aI
theorem apj:prog.underlying 49=some (.slice 9):=aI
theorem apk{w:World}{base:Nat}{v:Value}{l:List ah}(h:FX w base v l)(x:ah)(hb:base<=w.heap.size)(hl:l.length<=100000) :
  ∃v' w',(Builtin.append_ #[49,49] 49 #[v,aD w.heap.size 0 1 1]).run prog (w.alloc (.cells #[.string (aq x)] 9))=.ok v' w'/\FX w' base v' (l++[x])/\bn (fun k=>some k≠v.ownBlock) w w'/\(v'.ownBlock=v.ownBlock\/v'.ownBlock=some (w.heap.size+1)):=by
 obtain⟨i0,ax,hz0,hz1,hz2⟩:=kJ api;have dw:au w (w.alloc (.cells #[.string (aq x)] 9)):=aO.alloc aA _;have hsz:(w.alloc (.cells #[.string (aq x)] 9)).heap.size=w.heap.size+1:=dD w _;obtain⟨v',w',k1,k2,k3,_,k5⟩:=run_append_own_at (P:=prog) (w.alloc (.cells #[.string (aq x)] 9)) base 49 49 9 i0 _ 1 16 apj ax hz0 hz1 hz2 rfl ae v l.length _ (ic h dw) (ak w.heap.size 0) 1 1 [ay x] rfl (fun j y hj=>by{
 rw[JS,eY];have:=World.alloc_heap_new w (.cells #[.string (aq x)] 9);unfold World.cell?;rw[this];cases j with
 | zero=>exact hj
 | succ j=>simp at hj}) (fun y hy=>by{
 have:y=ay x:=by simpa using hy
 rw[this];rfl}) (by simp[maxLen];omega) ae ae
 rw[hsz]at k5;refine⟨v',w',k1,?_,⟨k3.os,k3.tape,k3.output,a_ ae k3.size,fun k hk hn=>(k3.block k ae hn).trans (cD w _ k hk)⟩,k5⟩;unfold FX;rw[bj,gJ];exact k2
structure yB(w wr:World)(vt vl:Value)(tg:List ah)(add:List ai):Prop where
 tg:FX wr w.heap.size vt tg
 ad:b_ wr w.heap.size vl add
 ne:∀k,vt.ownBlock=some k->vl.ownBlock≠some k
 bl:au w wr
theorem yB.below{w wr w1:World}{vt vl:Value}{tg:List ah}{add:List ai}(h:yB w wr vt vl tg add)(hb:au wr w1):yB w w1 vt vl tg add :=
 ⟨ic h.tg hb,h.ad.below hb,h.ne,h.bl.trans (hb.mono h.bl.size)⟩
theorem yB.apl{w wr:World}{vt vl:Value}{tg:List ah}{add:List ai}(h:yB w wr vt vl tg add)(x:ah)(hl:tg.length<=100000) :
  ∃v' w',(Builtin.append_ #[49,49] 49 #[vt,aD wr.heap.size 0 1 1]).run prog (wr.alloc (.cells #[.string (aq x)] 9))=.ok v' w'/\yB w w' v' vl (tg++[x]) add/\(∃a c,v'=.slice a (tg.length+1) c):=by
 have VC:=iW h.tg;have sG:=h.ad.Ot;obtain⟨v',w',k1,k2,k3,k5⟩:=apk h.tg x h.bl.size hl;refine⟨v',w',k1,⟨k2,?_,?_,?_⟩,?_⟩;{refine h.ad.kept (fun g hg=>k3.block g (sG g hg).2 (fun e=>h.ne g e.symm hg))};{
 intro k hk e;rcases k5 with h5|h5;{rw[h5]at hk;exact h.ne k hk e};{
 rw[h5]at hk;have:k=wr.heap.size+1:=by simpa using hk.symm
 have:=(sG k e).2;omega}};{exact h.bl.trans ⟨k3.os,k3.tape,k3.output,k3.size,fun k hk=>k3.block k (by have:=h.bl.size;omega) (fun e=>by have:=(VC k e.symm).1;omega)⟩};{obtain⟨a,c,e⟩:=k2.slice;rw[bj]at e;exact⟨a,c,e⟩}
theorem yB.apm{w wr:World}{vt vl:Value}{tg:List ah}{add:List ai}(h:yB w wr vt vl tg add){b':Nat}(r:ai)(hr:dG wr b' 0 [r])(hl:add.length<=90000) :
  ∃v' w',(Builtin.append_ #[41,41] 41 #[vl,aD b' 0 1 1]).run prog wr=.ok v' w'/\yB w w' vt v' tg (add++[r])/\(∃a c,v'=.slice a (add.length+1) c)/\Below w.heap.size wr w':=by
 have VC:=iW h.tg;have sG:=h.ad.Ot;obtain⟨v',w',k1,k2,k3,k5⟩:=TX w.heap.size vl add [r] b' 0 1 wr h.ad hr h.bl.size aP;have hbl:Below w.heap.size wr w':=⟨k3.os,k3.tape,k3.output,k3.size,fun k hk=>k3.block k (by have:=h.bl.size;omega) (fun e=>by have:=(sG k e.symm).1;omega)⟩;refine⟨v',w',k1,⟨?_,k2,?_,h.bl.trans hbl⟩,?_,hbl⟩;{
 refine Kc h.tg k3 ?_;cases apn:vt.ownBlock with
 | none=>exact .inl rfl
 | some k=>exact .inr (fun e=>h.ne k apn e.symm)};{
 intro k hk e;have:=(VC k hk).2;rcases k5 with h5|h5;{rw[h5]at e;exact h.ne k hk e};{
 rw[h5]at e;have:k=wr.heap.size:=by simpa using e.symm
 omega}};{obtain⟨a,c,e⟩:=k2.slice;rw[bj]at e;exact⟨a,c,e⟩}
theorem ads{w:World}{b off cap:Nat}{zb:Nat}{o:ah}{rs l:List ai}{v:Value}(hz:iD w zb o b off cap rs)(h:nh b off rs v l):jm w v l:=h.rv hz.2.2.2.2
theorem apo(W:World)(r:ai)(t:TypeId):dG (W.alloc (.cells #[.string (aq r.owner),.int .i64 r.aG,.int .i64 r.type,.string (aq r.data)] t)) W.heap.size 0 [r]:=by
 have h:=World.alloc_heap_new W (.cells #[.string (aq r.owner),.int .i64 r.aG,.int .i64 r.type,.string (aq r.data)] t);refine⟨(bV.1 h).1,fun j hj i v ax=>?_⟩;have:j=0:=by simp at hj;omega
 subst this;unfold World.cell?;rw[h];simpa [ai.aS]using ax
theorem apq(zb b off cap:Nat)(o:ah)(rc:Int)(bw:Bool)(va vb vc:Value)(Z ans bS:List ai)(w:World)(hz:iD w zb o b off cap Z)(hzl:Z.length<=60)(ha:jm w va ans)(hb:jm w vb bS)(HR:ans.length<=500)(rV:bS.length<=500)
  (kQ:∀r∈ans++bS,r.data.length<=3000) :
  aB 128 #[aM zb,.agg #[aj rc,.bool bw,va,vb,vc]] w fun e w'=>(∃v,e=.returned v/\b_ w' w.heap.size v (oP Z ans (ans++bS)).2)/\au w w':=by
 obtain⟨aa,ca,rfl⟩:=Fa ha;obtain⟨ab,cb,rfl⟩:=Fa hb;have eZ:=ag ha;have aX:=ag hb;have adt:=ag kQ;have dv:=ag hz;clear ha hb kQ hz;go_enter func128,ntmps128;go_wp2_with fail;have dX:au w ((w.alloc (.cells #[.int .i64 rc,.bool bw,.slice aa ans.length ca,.slice ab bS.length cb,vc] 43)).alloc (.cells #[.slice aa ans.length ca,.slice ab bS.length cb] 41)):=(aO.alloc aA _).alloc ar _;have adu:((w.alloc (.cells #[.int .i64 rc,.bool bw,.slice aa ans.length ca,.slice ab bS.length cb,vc] 43)).alloc (.cells #[.slice aa ans.length ca,.slice ab bS.length cb] 41)).cell? (ak w.heap.size 2)=some (.slice aa ans.length ca):=by go_simp
 refine(alH (w.heap.size+1) _ _ ans bS _ ar (by go_simp) (by go_simp) (eZ.below dX) (aX.below dX) ae ae).mono ?_;rintro e w1 ⟨v1,rfl,ho1,hb1⟩;have hB1:au w w1:=dX.trans (hb1.mono eI);have jH:w1.cell? (ak w.heap.size 2)=some (.slice aa ans.length ca):=(hb1.cell (p:=⟨w.heap.size,2,none⟩) aP).trans adu;obtain⟨a1,aC,rfl⟩:=ho1.slice;have pz:=ag ho1.rv;have C6:(ans++bS).length<=1000:=by rw[bj];omega
 have AR:=ag (eZ.below hB1);have VD:=ag (dv.below hB1);have bZ:=ag hB1;have zx:=ag jH;have hs1:=hB1.size;have hwl:w.heap.size<w1.heap.size:=iz _ _ jH;clear ho1 dX hb1 adu eZ aX hB1 jH dv;obtain⟨L,hL⟩:∃L,ans++bS=L:=⟨_,rfl⟩;rw[hL]at pz C6 adt ⊢;have OI:=ag hL;clear hL;go_wp2_with fail;go_loopw [5,6,19] (fun vl vt i wr=>∃k:Nat,i=aj k/\k<=L.length/\(∃a n c,vl=.slice a n c)/\(∃a n c,vt=.slice a n c)/\yB w1 wr vt vl (oP Z ans (L.take k)).1 (oP Z ans (L.take k)).2) (fun _ _ i _=>L.length - (intOf i).toNat);case atStart=>exact⟨0,rfl,cV _,⟨_,_,_,rfl⟩,⟨_,_,_,rfl⟩,⟨ia _ _ _ _,ia _ _ _ _,(fun k hk=>by cases hk),bR _ _⟩⟩
 case round =>(
 obtain⟨k,rfl,hk,⟨la,ln,lc,rfl⟩,⟨ta,tn,tc,rfl⟩,gM⟩:=hrel;obtain⟨bK,hG⟩:∃bK,oP Z ans (L.take k)=bK:=⟨_,rfl⟩;have hpl:=apc Z ans hzl (L.take k);have kL:(L.take k).length<=1000:=by rw[gD];omega
 rw[hG]at gM hpl;obtain⟨bG,AD⟩:=bK;simp only at gM hpl;have azN:bG.length<=1000:=ae;have azO:AD.length<=60000:=ae;have HG:=ag hG;have bI:=ag gM;have bX:=gM.bl.size;clear hG hpl;by_cases hlt:k<L.length;{
 have cS:Hid (L.take (k+1)=L.take k++[L[k]]):=gp hlt;have pV:=pz.below gM.bl;rcases pV with⟨e1,e2⟩|⟨b',off',cap',e1,hc',hr'⟩;{rw[e2]at hlt;simp at hlt};{
 cases e1;obtain⟨q0,q1,q2,q3⟩:=hr'.four k hlt;have kQ:=af adt L[k] (cM hlt);have CV:=ag (fun W=>aaT L[k].data W kQ);clear hr' gM;generalize L[k]=r at *;go_wp2_with fail;refine(CV _).mono ?_;rintro e w4 ⟨rfl,hw4⟩;have hb4:au wr w4:=by rw[hw4];exact aO.alloc aA _
 have d2:w4.cell? (ak wr.heap.size 2)=some (aj r.type):=by rw[hw4];go_simp
 have Dr:=bI.below hb4;have II:=ag Dr;obtain⟨x,hx⟩:∃x,fW r.data=x:=⟨_,rfl⟩;rw[hx];have cu:=ag hx;have Lr:=ag (apg _ bG x _ w4 Dr.tg ae);obtain⟨_,_,et⟩:=Dr.tg.slice;obtain⟨-,apr,-⟩:=mS et;obtain⟨_,_,el⟩:=Dr.ad.slice;obtain⟨-,aps,-⟩:=mS el;subst apr aps;have azP:=hb4.size;generalize wr.heap.size=q at *;clear hw4 CV q0 q1 q2 q3 hb4 Dr et el hx;by_cases gz:lT r=false;{
 have hy2:(r.type != 2)=true:=by unfold lT at gz;simp at gz;simpa using gz.1
 have apt:(r.type != 15)=true:=by unfold lT at gz;simp at gz;simpa using gz.2
 have bf:Hid (oP Z ans (L.take (k+1))=(bG,AD)):=by rw[Hid,af cS,Qc,af HG,ao_ gz]
 clear gz;go_wp2;exact⟨⟨k+1,bW,ae,⟨_,_,_,rfl⟩,⟨_,_,_,rfl⟩,by rw[af bf];exact II⟩,c5⟩};{
 have t_:lT r=true:=by simpa using gz
 have dJ:(r.type != 2)=false\/((r.type != 2)=true/\(r.type != 15)=false):=by{by_cases h2:r.type=2;{left;simp[h2]};{right;unfold lT at t_;simp[h2]at t_;exact⟨by simpa using h2,by simp[t_]⟩}};have Ds:=ag t_;clear gz t_;obtain⟨hc,VE⟩:∃hc,bG.contains x=hc:=⟨_,rfl⟩;rw[VE]at Lr;have Qd:=ag VE;clear VE;rcases dJ with hy2|⟨hy2,apt⟩;all_goals(
 go_wp2_with fail;refine Lr.mono ?_;rintro e w5 ⟨rfl,rfl⟩;cases hc with
 | true =>{
 have bf:Hid (oP Z ans (L.take (k+1))=(bG,AD)):=by rw[Hid,af cS,Qc,af HG,apa (by rw[af cu];exact Qd)]
 go_wp2;exact⟨⟨k+1,bW,ae,⟨_,_,_,rfl⟩,⟨_,_,_,rfl⟩,by rw[af bf];exact II⟩,c5⟩}
 | false =>{
 obtain⟨S,hS⟩:∃S,gi (cB Z x) 1=S:=⟨_,rfl⟩;have bf:Hid (oP Z ans (L.take (k+1))=(bG++[x],AD++S.filter (fun a=>!ans.any (a == ·)))):=by{rw[Hid,af cS,Qc,af HG,apb (af Ds) (by rw[af cu];exact Qd),af cu,hS]};obtain⟨v6,w6,hrun,VF,a6,jF,apu⟩:=II.apl x ae;subst apu;have oQ:=ag hrun;have adv:=ag VF;have HST:=ag (TK zb b off cap o x 1 Z w6 (VD.below VF.bl) ae);rw[hS]at HST;clear hrun VF;go_wp2_with (at_builtin;go_loud (refine A5 ee (.tmp 39) (.tmp 41) 49 ee _ _ _ _ ee ee (af oQ) ?_));refine HST.mono ?_;rintro e w7 ⟨⟨v7,rfl,VG⟩,di⟩;have VH:=adv.below di;have apv:=ag VH;have adw:=ads (VD.below VH.bl) VG;obtain⟨s7,azQ,rfl⟩:=Fa adw;have jB:=ag VG;have azR:S.length<=60:=by rw[<- hS];exact a_ (a_ (Ok _ _) (Kt _ _)) hzl
 clear VG di VH hS HST oQ adv adw;go_wp2_with fail;go_loopw [5,47] (fun vl i wr=>∃j:Nat,i=aj j/\j<=S.length/\(∃a n c,vl=.slice a n c)/\yB w1 wr (.slice a6 (bG.length+1) jF) vl (bG++[x]) (AD++(S.take j).filter (fun a=>!ans.any (a == ·)))) (fun _ i _=>S.length - (intOf i).toNat);case atStart=>exact⟨0,rfl,cV _,⟨_,_,_,rfl⟩,(by rw[vZ,List.filter_nil,h_];exact apv)⟩
 case round =>(
 obtain⟨j,rfl,hj,⟨ma,mn,mc,rfl⟩,Dt⟩:=hrel;have adx:=ads (VD.below Dt.bl) (af jB);have ady:=ag Dt;have azS:=Dt.bl.size;have fj:wr.cell? (ak w.heap.size 2)=some (.slice aa ans.length ca):=(Dt.bl.cell (p:=⟨w.heap.size,2,none⟩) hwl).trans (af zx);have oM:((S.take j).filter (fun a=>!ans.any (a == ·))).length<=60:=by{have:=Cx (fun a:ai=>!ans.any (a == ·)) (S.take j);rw[gD]at this;omega};by_cases kM:j<S.length;{
 have adz:Hid (S.take (j+1)=S.take j++[S[j]]):=gp kM;rcases adx with⟨e1,e2⟩|⟨bs,os,cs,e1,hcs,tC⟩;{rw[e2]at kM;simp at kM};{
 cases e1;obtain⟨q0,q1,q2,q3⟩:=tC.four j kM;have azT:bs<wr.heap.size:=tC.1;have VI:=ag (fun W (hW:au wr W)=>apf S[j] _ ans W ((AR.below Dt.bl).below hW) ae);generalize S[j]=a at *;have hne:¬bs=wr.heap.size:=ae;have adA:¬w.heap.size=wr.heap.size:=ae;have al:∀(o:Obj) (a:Addr) (v:Value),wr.cell? a=some v->(wr.alloc o).cell? a=some v:=fun o a v h=>(dh (cD wr o a.block (iz _ _ h))).trans h;have fa:=fun o=>al o _ _ fj;have dw:∀o,au wr (wr.alloc o):=fun o=>aO.alloc aA _;have mD:=ag dw;obtain⟨hin,VJ⟩:∃hin,ans.any (a == ·)=hin:=⟨_,rfl⟩;have Ls:=ag VJ;rw[VJ]at VI;obtain⟨_,_,em⟩:=Dt.ad.slice;obtain⟨-,adB,-⟩:=mS em;rw[bj]at adB;subst adB;clear tC Dt al dw VJ em;go_wp2_with fail;refine(VI _ (mD _)).mono ?_;rintro e w8 ⟨rfl,ve⟩;have Du:=(mD (.cells #[.string (aq a.owner),.int .i64 a.aG,.int .i64 a.type,.string (aq a.data)] 47)).trans (ve.mono ar);have adC:=ady.below Du;have adD:=ag adC;have Dv:w8.heap[wr.heap.size]? = some (.cells #[.string (aq a.owner),.int .i64 a.aG,.int .i64 a.type,.string (aq a.data)] 47):=(ve.block wr.heap.size ar).trans (World.alloc_heap_new wr _);have p0:w8.cell? (ak wr.heap.size 0)=some (ay a.owner):=by unfold World.cell?; rw[Dv];rfl
 have p1:w8.cell? (ak wr.heap.size 1)=some (aj a.aG):=by unfold World.cell?; rw[Dv];rfl
 have fh:w8.cell? (ak wr.heap.size 2)=some (aj a.type):=by unfold World.cell?; rw[Dv];rfl
 have eK:w8.cell? (ak wr.heap.size 3)=some (ay a.data):=by unfold World.cell?; rw[Dv];rfl
 clear ve adC Dv q0 q1 q2 q3 fj fa VI;cases hin with
 | true =>{have Bu:Hid ((S.take (j+1)).filter (fun a=>!ans.any (a == ·))=(S.take j).filter (fun a=>!ans.any (a == ·))):=by{rw[Hid,af adz,vV,uw (by rw[af Ls];simp)];simp};go_wp2;exact⟨⟨j+1,bW,ae,⟨_,_,_,rfl⟩,by rw[af Bu];exact adD⟩,c5⟩}
 | false =>{have Bu:Hid ((S.take (j+1)).filter (fun a=>!ans.any (a == ·))=(S.take j).filter (fun a=>!ans.any (a == ·))++[a]):=by{rw[Hid,af adz,vV,rG (by rw[af Ls];rfl)];rfl};have rY:au w8 (w8.alloc (.cells #[.string (aq a.owner),.int .i64 a.aG,.int .i64 a.type,.string (aq a.data)] 47)):=aO.alloc aA _;obtain⟨v9,w9,hrun,adE,⟨a9,c9,adF⟩,apw⟩:=(adD.below rY).apm a (apo w8 a _) (by rw[bj];omega);rw[bj]at adF;subst adF;have oQ:=ag hrun;have apx:=ag adE;clear hrun adE apw rY;go_wp2_with (at_builtin;go_loud (refine A5 ee (.tmp 56) (.tmp 58) 41 ee _ _ _ _ ee ee (af oQ) ?_));go_wp2;exact⟨⟨j+1,bW,ae,⟨_,_,_,rfl⟩,by rw[af Bu,<- fP];exact apx⟩,c5⟩}}};{have apy:j=S.length:=ae;have hnl:¬(j:Int)<(S.length:Int):=ae;have oq:Hid (oP Z ans (L.take (k+1))=(bG++[x],AD++(S.take j).filter (fun a=>!ans.any (a == ·)))):=by{rw[Hid,af bf,apy,gV]};clear Dt adx;go_wp2;exact⟨⟨k+1,bW,ae,⟨_,_,_,rfl⟩,⟨_,_,_,rfl⟩,by rw[af oq];exact ady⟩,c5⟩})})}}};{have Lj:k=L.length:=ae;have hnl:¬(k:Int)<(L.length:Int):=ae;have bf:Hid (oP Z ans L=(bG,AD)):=by{have:=af HG;rw[Lj,gV]at this;exact this};clear gM;go_wp2;go_ret;exact⟨⟨_,rfl,by rw[af OI,af bf];exact bI.ad.base hs1⟩,bZ.trans (bI.bl.mono hs1)⟩})
def adG(RES:Option (Int×List ai×List ai))(zb b off cap:Nat)(k:Int)(o n:ah)(rs:List ai):Prop :=
 ∀(sb cb c:Nat) (bw:Bool) (W:World),dQ W sb zb k 0 bw (aH) (aH) (aH) cb->iD W zb o b off cap rs->bK W->zb<sb->b<sb->0<sb->pA W cb c false->cb≠c->cb<sb->c<sb->∀base,base<=c ->
  aB 127 #[aM sb,ay n] W fun e w' =>
   (RES=none/\e=.returned (.bool false)/\Below base W w')\/(∃rc ans bS df cJ,RES=some (rc,ans,bS)/\e=.returned (.bool true)/\dQ w' sb zb k rc bw df cJ (aH) cb/\b_ w' (sb+1) df ans/\b_ w' (sb+1) cJ bS/\uR df cJ/\Below sb W w')
def adH(RES:Option (Int×List ai×List ai))(o n:ah)(rs:List ai)(w':World)(base:Nat)(v:Value):Prop :=
 (RES=none/\v=.agg #[aj 2,.bool true,aH,aH,aH]) \/
 ∃rc ans bS va vb vd,RES=some (rc,ans,bS)/\v=.agg #[aj rc,.bool (decide ((cU o rs n).length=0)),va,vb,vd]/\b_ w' base va ans/\b_ w' base vb bS/\b_ w' base vd (oP rs ans (ans++bS)).2/\uR va vb/\uR va vd/\uR vb vd
theorem apz(RES:Option (Int×List ai×List ai))(zb b off cap:Nat)(k:Int)(o n:ah)(rs:List ai)(w:World)(hz:iD w zb o b off cap rs)(hg:bK w)(hnl:n.length<=2900)(hu:dy n o=true)(kC:A0 o rs)(hzl:rs.length<=60)(adI:adG RES zb b off cap k o n rs)
  (hres:∀rc ans bS,RES=some (rc,ans,bS)->ans.length<=500/\bS.length<=500/\∀r∈ans++bS,r.data.length<=3000) :
  aB 69 #[aM zb,ay n,aj k] w fun e w'=>(∃v,e=.returned v/\adH RES o n rs w' w.heap.size v)/\au w w':=by
 have hzb:=hz.1;have CW:=hz.2.2.2.2.1;have hz0:=hz.2.1;have hg0:=hg.1;have dv:=ag hz;have HG:=ag hg;have bI:=ag adI;have gX:=kC.2.1;have hlen:=kC.1;have dX:au w (w.alloc (.cells #[.int .i64 0,.bool false,.slice none 0 0,.slice none 0 0,.slice none 0 0] 43)):=aO.alloc aA _;have HU:Hid (∀W,aB 110 #[ay n,ay o] W fun e w'=>e=.returned (.bool true)/\w'=W):=fun W=>by{have:=Kh (aq n) (aq o) W (by rw[bJ];omega) (by rw[bJ];omega);rw[tA,tA,hu]at this;exact this};have jG:=ag hres;clear hz hg adI hu hres;go_enter func69,ntmps69;go_wp2_with fail;refine(HU _).mono ?_;rintro e w1 ⟨rfl,hw1⟩;have hb1:au w w1:=by rw[hw1];exact dX
 have r1:w1.heap[w.heap.size]? = some (.cells #[.int .i64 0,.bool false,.slice none 0 0,.slice none 0 0,.slice none 0 0] 43):=by rw[hw1];exact N0 w _
 clear hw1 dX HU;go_wp2_with fail;refine(alK w1).mono ?_;rintro e w2 ⟨cb,c,rfl,hc2,hcb,hcc,hne,hb2⟩;have n_:=ag hc2;have azU:=(bV.1 r1).1;have hcl:=hc2.lt;have adJ:=hc2.1;have eF:=hb1.trans (hb2.mono hb1.size);have r2:=(hb2.block w.heap.size (bV.1 r1).1).trans r1;clear hc2 r1;go_wp2_with fail;have hb3:au w2 (w2.alloc (.cells #[.pointer (some ⟨zb,0,none⟩),.int .i64 k,.int .i64 0,.bool false,.slice none 0 0,.slice none 0 0,.slice none 0 0,.pointer (some ⟨cb,0,none⟩)] 210)):=aO.alloc aA _;have S3:dQ (w2.alloc (.cells #[.pointer (some ⟨zb,0,none⟩),.int .i64 k,.int .i64 0,.bool false,.slice none 0 0,.slice none 0 0,.slice none 0 0,.pointer (some ⟨cb,0,none⟩)] 210)) w2.heap.size zb k 0 false (aH) (aH) (aH) cb:=N0 w2 _;have hs2:=hb2.size;have hs1:=hb1.size;refine(Oq zb b off cap o n rs _ ((dv.below eF).below hb3) ((HG.below eF).below hb3) hlen ae gX).mono ?_;rintro e w4 ⟨⟨v4,rfl,hv4⟩,hb4⟩;obtain⟨a4,aV,rfl⟩:=hv4.slice;have S4:=S3.kept (hb4.block w2.heap.size ar);have apA:au w2 w4:=hb3.trans (hb4.mono eI);have gj:w2.heap.size<w4.heap.size:=S4.lt;clear S3 hv4 hb3 hb4;obtain⟨x0,x1,x2,x3,x4,x5,x6,x7⟩:=S4.cells;have xf:=S4.frozen 3;have wO:=ag S4;clear S4 x0 x1 x2 x4 x5 x6 x7;obtain⟨bw,xY,adK⟩:∃bw:Bool,(((cU o rs n).length:Int) == 0)=bw/\decide ((cU o rs n).length=0)=bw:=⟨_,rfl,by{by_cases h:(cU o rs n).length=0;{rw[h];rfl};{rw[iB h,eq_comm,d_];omega}}⟩;have apB:=ag adK;clear adK;have S5:=wO.iM bw;have xU:au w2 (w4.setCell ⟨w2.heap.size,3,none⟩ (.bool bw)):=apA.setCell (p:=⟨w2.heap.size,3,none⟩) aA _;have hs5:(w4.setCell ⟨w2.heap.size,3,none⟩ (.bool bw)).heap.size=w4.heap.size:=by simp[World.setCell]
 have aW:=ag (bI w2.heap.size cb c bw _ S5 (dv.below (eF.trans (xU.mono eF.size))) (HG.below (eF.trans (xU.mono eF.size))) ae ae ae (n_.below xU adJ hcl) hne adJ hcl (w.heap.size+1) ae);clear S5 wO;go_wp2_with fail;refine aW.mono ?_;rintro e w6 (⟨hch,rfl,dR⟩|⟨rc,FY,IJ,va,vb,hch,rfl,sk,qU,pV,hap,dR⟩);{have vg:au w w6:=(eF.trans (xU.mono eF.size)).trans (dR.mono ae);have r6:dY w6 w.heap.size (aj 0) (.bool false) (aH) (aH) (aH):=((dR.block w.heap.size ae).trans (xU.block w.heap.size ae)).trans r2;obtain⟨k0,k1,k2,k3,k4⟩:=dY.cells r6;have apC:=dY.frozen r6 0;have apD:=dY.frozen r6 1;have apE:=dY.frozen r6 2;have apF:=dY.frozen r6 3;have apG:=dY.frozen r6 4;have A9:=((((dY.set0 r6 (aj 2)).set1 (.bool true)).set2 (aH)).iM (aH)).lj (aH);obtain⟨n0,n1,n2,n3,n4⟩:=A9.cells;clear aW r6;go_wp2_with fail;refine fB (v:=.agg #[.int .i64 2,.bool true,.slice none 0 0,.slice none 0 0,.slice none 0 0]) ?_ rfl ?_;{simp[results,results69,go_sem,n0,n1,n2,n3,n4]};{exact⟨⟨_,rfl,.inl ⟨hch,rfl⟩⟩,((((vg.setCell (p:=⟨w.heap.size,0,none⟩) aA _).setCell (p:=⟨w.heap.size,1,none⟩) aA _).setCell (p:=⟨w.heap.size,2,none⟩) aA _).setCell (p:=⟨w.heap.size,3,none⟩) aA _).setCell (p:=⟨w.heap.size,4,none⟩) aA _⟩}};{obtain⟨adL,adM,nm⟩:=af jG rc FY IJ hch;have apH:=ag nm;have Qe:=ag adL;have apI:=ag adM;have apJ:=ag hch;have IK:=ag hap;clear nm adL adM hch hap;have vg:au w2 w6:=xU.trans dR;have r6:=(vg.block w.heap.size ae).trans r2;obtain⟨y0,y1,y2,y3,y4,oH,y6,Bv⟩:=sk.cells;obtain⟨aa,ca,rfl⟩:=qU.slice;obtain⟨ab,cb',rfl⟩:=pV.slice;have HAD:=ag (apq zb b off cap o rc bw _ _ (aH) rs _ _ w6 (dv.below (eF.trans (vg.mono eF.size))) hzl qU.rv pV.rv (af Qe) (af apI) (af apH));have adN:=ag (bg qU.oG pV.oG);have vh:=ag sk;have Qf:=ag qU;have T_:=ag pV;have apK:=sk.lt;clear aW sk qU pV;go_wp2_with fail;refine HAD.mono ?_;rintro e w7 ⟨⟨vd,rfl,ue⟩,di⟩;obtain⟨ad,cd,rfl⟩:=ue.slice;have Lt:=ag ue;have VK:=ue.oG;clear ue;obtain⟨Dw,VL⟩:∃Dw,(oP rs FY (FY++IJ)).2=Dw:=⟨_,rfl⟩;rw[VL]at Lt VK ⊢;have apL:=ag VL;have adO:=ag VK;clear VL VK;have Dx:=vh.kept (di.block w2.heap.size apK);obtain⟨z0,z1,z2,z3,z4,z5,z6,z7⟩:=Dx.cells;have Lu:=Dx.frozen 6;have adP:=Dx.rT (.slice ad Dw.length cd);obtain⟨p0,p1,fh,eK,p4,p5,p6,adQ⟩:=adP.cells;have r7:=(di.block w.heap.size (by have:=dR.size;rw[hs5]at this;omega)).trans r6;have apM:=ag (bg (Qf.below di) (T_.below di));obtain⟨k0,k1,k2,k3,k4⟩:=dY.cells r7;have apC:=dY.frozen r7 0;have apD:=dY.frozen r7 1;have apE:=dY.frozen r7 2;have apF:=dY.frozen r7 3;have apG:=dY.frozen r7 4;clear Dx adP y0 y1 y2 y3 y4 oH y6 Bv x3 xf r2 r6;go_wp2_with fail;have A9:=((((dY.set0 (show dY (w7.setCell ⟨w2.heap.size,6,none⟩ (.slice ad Dw.length cd)) w.heap.size _ _ _ _ _ from(cZ _ _ _ _ (by show w.heap.size≠w2.heap.size;omega)).trans r7) (aj rc)).set1 (.bool bw)).set2 (.slice aa FY.length ca)).iM (.slice ab IJ.length cb')).lj (.slice ad Dw.length cd);obtain⟨n0,n1,n2,n3,n4⟩:=A9.cells;have pB:au w2 w7:=vg.trans (di.mono ae);have adR:=af apM;refine fB (v:=.agg #[.int .i64 rc,.bool bw,.slice aa FY.length ca,.slice ab IJ.length cb',.slice ad Dw.length cd]) ?_ rfl ?_;{simp[results,results69,go_sem,n0,n1,n2,n3,n4]};{have eN:∀ {v:Value} {l:List ai},b_ w7 (w2.heap.size+1) v l->b_ ((((((w7.setCell ⟨w2.heap.size,6,none⟩ (.slice ad Dw.length cd)).setCell ⟨w.heap.size,0,none⟩ (.int .i64 rc)).setCell ⟨w.heap.size,1,none⟩ (.bool bw)).setCell ⟨w.heap.size,2,none⟩ (.slice aa FY.length ca)).setCell ⟨w.heap.size,3,none⟩ (.slice ab IJ.length cb')).setCell ⟨w.heap.size,4,none⟩ (.slice ad Dw.length cd)) w.heap.size v l:=fun h=>((((((h.mF (k:=w2.heap.size) (i:=6) ae _).mF (k:=w.heap.size) (i:=0) ae _).mF (k:=w.heap.size) (i:=1) ae _).mF (k:=w.heap.size) (i:=2) ae _).mF (k:=w.heap.size) (i:=3) ae _).mF (k:=w.heap.size) (i:=4) ae _).base ae;refine⟨⟨_,rfl,.inr ⟨rc,FY,IJ,_,_,_,apJ,by rw[af apB],eN adR.1,eN adR.2,?_,IK,fun g h1 h2=>?_,fun g h1 h2=>?_⟩⟩,?_⟩;{rw[af apL];exact eN (Lt.base (by have:=vg.size;omega))};{have k1:=(adN.1 g h1).2;have k2:=(adO g h2).1;omega};{have k1:=(adN.2 g h1).2;have k2:=(adO g h2).1;omega};{have h7:=eF.trans (pB.mono eF.size);exact(((((h7.setCell (p:=⟨w2.heap.size,6,none⟩) (by show w.heap.size<=w2.heap.size;omega) _).setCell (p:=⟨w.heap.size,0,none⟩) aA _).setCell (p:=⟨w.heap.size,1,none⟩) aA _).setCell (p:=⟨w.heap.size,2,none⟩) aA _).setCell (p:=⟨w.heap.size,3,none⟩) aA _).setCell (p:=⟨w.heap.size,4,none⟩) aA _}}}
def eo(o:ah)(L:List ai)(t:Int)(first aa:Bool)(ans:List ai)(n:ah):Int×Bool×List ai×List ai×Option ah :=
 if dy n o=false then((if first then 5 else 0),aa,ans,[],none)
 else if(cU o L n).length≠0 then(0,aa || !first,ans,cU o L n,none)
 else match (if t=5\/t=255 then none else iE o L n)with
  | some r=>if ans.length=8 then(2,true,[],[],none)else(0,true,ans++[r],[],some r.data)
  | none=>(lN o L n,true,ans++mH o L t n,nZ o L t n,none)
def apN(w:World)(x:Nat->Prop)(v vu:Value):Option ah->Prop
 | none=>v=aH
 | some d=>vu=aH/\∃g cap,v=aD g 0 (aT d).length cap/\(aT d).length<=cap/\fS w g 0 (aT d)/\¬x g
def adS(X:Nat->Prop)(w0 w':World)(ab:Nat)(q:Int×Bool×List ai×List ai×Option ah)(e:Ending):Prop :=
 ∃va vu v,e=.returned v/\dM w' ab q.1 q.2.1 va vu (aH)/\dB X w' (ab+1) va q.2.2.1/\dB X w' (ab+1) vu q.2.2.2.1/\apN w' (fun k=>X k\/some k=va.ownBlock) v vu q.2.2.2.2/\Below w0.heap.size w0 w'
section
theorem apO(a:Option Addr)(l c:Nat)(w:World):(binOp .eql 113 (.slice a l c) (aH)).run prog w=.ok (.bool a.isNone) w:=ZZ w _ _ a l c 0 0 Iw
attribute [local go_sem] apO
section
variable {o n:ah} {L ans:List ai} {t:Int} {first aa:Bool} (hu:dy n o=true)
include hu
theorem Qg(hc:(cU o L n).length≠0):eo o L t first aa ans n=(0,aa || !first,ans,cU o L n,none):=by unfold eo;rw[aF (by simp[hu]),aJ hc]
theorem VM(hc:cU o L n = [])(hm:(ct L n).2=false):eo o L t first aa ans n=(3,true,ans,fQ o L,none):=by
 have hl:iE o L n=none:=by unfold iE;rw[aF (by simp[hm])]
 unfold eo;rw[aF (by simp[hu]),aF (by simp[hc]),hl,ite_self];unfold lN mH nZ;simp[hc,hm]
omit hu in
theorem apP{r:ai}(hc:cU o L n = [])(hm:(ct L n).2=true)(h1:(ct L n).1 = [r])(h5:qT [r]=true):iE o L n=some r:=by unfold iE;rw[aJ ⟨by rw[hc];rfl,hm,by rw[h1];exact h5⟩,h1];rfl
theorem Lv{r:ai}(hc:cU o L n = [])(hl:iE o L n=some r)(h5:t≠5)(gS:t≠255)(h8:ans.length≠8):eo o L t first aa ans n=(0,true,ans++[r],[],some r.data):=by unfold eo;rw[aF (by simp[hu]),aF (by simp[hc]),aF ae,hl];show(if _ then _ else _)=_;rw[aF h8]
theorem Qh{r:ai}(hc:cU o L n = [])(hl:iE o L n=some r)(h5:t≠5)(gS:t≠255)(h8:ans.length=8):eo o L t first aa ans n=(2,true,[],[],none):=by unfold eo;rw[aF (by simp[hu]),aF (by simp[hc]),aF ae,hl];show(if _ then _ else _)=_;rw[aJ h8]
theorem VN(hc:cU o L n = [])(hm:(ct L n).2=true)(hno:(t=5\/t=255)\/iE o L n=none):eo o L t first aa ans n=(0,true,ans++kB t (ct L n).1,if tE t (ct L n).1 then []else fQ o L,none):=by have hl:(if t=5\/t=255 then none else iE o L n)=none:=by{rcases hno with h|h;{rw[aJ h]};{rw[h,ite_self]}};unfold eo;rw[aF (by simp[hu]),aF (by simp[hc]),hl];unfold lN mH nZ;simp[hc,hm]
end
theorem apQ(rs:List ai)(ns l:List ah)(h:rf rs ns=some l):l.length<=ns.length+1:=by
 have key:∀f i,tV rs ns i f=some l->l.length<=ns.length+1:=by{
 intro f;induction f with
 | zero=>intro i h;cases h
 | succ f ih =>{intro i h;unfold tV at h;split at h;{split at h;{have:=fq h;rw[<- this];simp};{cases h}};{exact ih _ h}}};unfold rf at h;split at h;{have:=fq h;rw[<- this];omega};{exact key _ _ h}
theorem apR(zb ab gn no nc:Nat)(o n:ah)(rs ans:List ai)(t:Int)(first aa:Bool)(va:Value)(X:Nat->Prop)(kS w0 w:World)(hzz:mM kS zb o rs)(jO:Below kS.heap.size kS w0)(Lx:X ab)(Lz:∀k,k<kS.heap.size->¬X k)(LA:∀k,w0.heap.size<=k->k≠ab->¬X k)(zR:∀k,X k->k<=ab)(bq:kE o rs)(hb0:Below w0.heap.size w0 w)(hab:w0.heap.size<=ab)
  (hs:dM w ab 0 aa va (aH) (aH)) (ho:dB X w (ab+1) va ans) (uK:ans.length<=8) (hn:fS w gn no (aT n)) (qa:(aT n).length<=nc) (VO:gn≠ab) (adT:¬X gn) (hno:some gn≠va.ownBlock) (hne:fC n) (hnl:n.length<=260) :
  aB 186 #[aM zb,aM ab,aD gn no (aT n).length nc,aj t,.bool first] w fun e w'=>adS X w0 w' ab (eo o (aN rs) t first aa ans n) e:=by
 have hz:=hzz.below jO;have kC:=P7 bq;have dJ:=tZ bq;have nT:0<(aT n).length:=by rw[yw];exact Di n
 have hlen:(aT n).length<=261:=by have:=pQ 46 n;rw[yw];omega
 have hlo:(az 46 o).length<=1000:=p8 kC.1;have dv:=ag hz;have IL:=ag hzz;have tT:Hid (∀W,Below w0.heap.size w0 W->Below kS.heap.size kS W):=fun W hW=>jO.trans (hW.mono jO.size);have hzs:=jO.size;have aW:=ag kC;have xe:=ag dJ;have cF:=ag bq;have gN:=ag hb0;have HS:=ag hs;have HO:=ag ho;have dm:=ag hn;have p2:=ag hne;have VP:=hs.lt;have np:=hn.1;have hs0:=hb0.size;obtain⟨jd,ac,rfl⟩:=ho.slice;obtain⟨s0,s1,s2,s3,s4⟩:=hs.cells;have sf:=hs.frozen;obtain⟨vo,b,off,cap,z0,z1,z2,z3⟩:=hz;have hzl:zb<w0.heap.size:=(bV.1 z0).1;have zw:w.heap[zb]? = w0.heap[zb]?:=hb0.block zb hzl;have zc:w.cell? (ak zb 0)=some vo:=by unfold World.cell?; rw[zw,z0];rfl
 have HU:Hid (aB 119 #[aD gn no (aT n).length nc,vo] w (bQ (.bool (dy n o)) w)):=by{have:=OY (aD gn no (aT n).length nc) vo _ _ w ⟨gn,no,nc,rfl,qa,hn⟩ (z1.below hb0) ae hlo (Di o);rw[aom (P5 bq.org)]at this;exact this};have azV:=ag z1;obtain⟨aoO,aoP,azW,rfl,_,_⟩:=z1;have Z0:=ag z0;have Z3:=ag z3;have oT:=ag Lx;have Dy:=ag Lz;have LB:=ag LA;have Qi:=ag zR;have kN:=ag adT;clear bq hb0 hs ho hn hne kC dJ z0 z3 zw hzz jO Lx Lz LA zR adT;generalize mN:(aT n).length=N at *;go_enter func186,ntmps186;go_wp2_with fail;refine HU.mono ?_;rintro e w1 ⟨rfl,hb1⟩;have hs1:=hb1.size;have S1:=HS.kept (hb1.block ab VP);have VQ:=ag (HO.below hb1);have bZ:=ag (gN.trans (hb1.mono hs0));have ll:=ag (dm.below hb1);obtain⟨t0,t1,t2,t3,t4⟩:=S1.cells;have tf:=S1.frozen;have tH:=ag S1;clear HU hb1 s0 s1 s2 s3 s4 sf zc S1;cases hu:dy n o with
 | false =>{
 have bC:Hid (eo o (aN rs) t first aa ans n=((if first then 5 else 0),aa,ans,[],none)):=by{rw[Hid,eo,aJ hu]};cases first with
 | false =>{go_wp2;go_ret;rw[af bC];exact⟨_,_,_,rfl,tH,VQ,dB.nil _ _ _,rfl,bZ⟩}
 | true =>{go_wp2;go_ret;rw[af bC];exact⟨_,_,_,rfl,tH.set0 5,VQ.set _ (af oT) (by show ab<ab+1;omega),dB.nil _ _ _,rfl,bZ.setCell (p:=⟨ab,0,none⟩) hab _⟩}}
 | true =>{
 have LC:Hid (∀W,Below w0.heap.size w0 W->ab<W.heap.size->∀(s:ah) (u:Value) (tt:Int),en W u (aT s)->(aT s).length<=1000->fS W gn no (aT n)->aB 237 #[aM zb,u,aj tt,aD gn no N nc] W fun e w'=>(∃v,e=.returned v/\dB (fun k=>X k\/some k=(Value.slice jd ans.length ac).ownBlock) w' W.heap.size v ((dL rs s tt).map (eM n)))/\Below W.heap.size W w'):=fun W hW hl s u tt hu jP hN=>by{refine VB (af IL) (af cF) (tT W hW) (fun k hk hc=>?_) aA s n u _ tt hu jP ⟨gn,no,nc,by rw[mN],by rw[mN];exact qa,hN,fun hc=>hc.elim (af kN) hno⟩;rcases hc with hc|hc;{exact Dy k hk hc};{have:=(HO.lt k hc.symm).1;omega}};have adU:Hid (aB 236 #[aM zb,aD gn no N nc] w1 fun e w'=>(∃v,e=.returned v/\((v=aH/\cU o (aN rs) n = [])\/∃i,i<N/\v=aD gn (no+i) (N - i) (nc - i)/\cU o (aN rs) n=eH rs (gB n i) 2/\eH rs (gB n i) 2≠[]))/\Below w1.heap.size w1 w'):=by{have h1:=(Vo hu).1;rw[<- yw n]at h1;rw[Hid,<- mN];refine(aoy zb o rs gn no nc (aT n) w1 (dv.below bZ) (af aW) (af ll) (by rw[mN];exact qa) ae h1).mono ?_;rintro e w' ⟨⟨v,rfl,hv⟩,hb⟩;refine⟨⟨v,rfl,?_⟩,hb⟩;rcases aoK hv with⟨rfl,k1⟩|⟨i,k1,k2,rfl⟩ <;> rcases P0 (af xe) (af p2) hu with⟨aC,c2⟩|⟨j,c0,aC,c2,c3⟩;{exact .inl ⟨rfl,c2⟩};{rw[k1]at aC;cases aC};{rw[k2]at aC;cases aC};{rw[k2]at aC;obtain rfl:=fq aC;exact .inr ⟨i,ae,rfl,c2,c3⟩}};have azX:=ag (af ll);go_wp2_with fail;refine adU.mono ?_;rintro e w2 ⟨⟨v2,rfl,hv2⟩,hb2⟩;have hs2:=hb2.size;have S2:=tH.kept (hb2.block ab ae);have O2:=ag (VQ.below hb2);have bU:=ag (bZ.trans (hb2.mono bZ.size));have uU:=ag (ll.below hb2);obtain⟨u0,u1,u2,u3,u4⟩:=S2.cells;have VR:=S2.frozen;have jQ:=ag S2;clear adU hb2 t0 t1 t2 t3 t4 tf S2;rcases hv2 with⟨rfl,hcut⟩|⟨i,ax,rfl,hcut,apS⟩;{
 have S3:=jQ.set1 true;have apT:=ag (O2.set (a:=⟨ab,1,none⟩) (.bool true) (af oT) (by show ab<ab+1;omega));have cK:=ag (bU.setCell (p:=⟨ab,1,none⟩) hab (.bool true));have wL:=ag (uU.fr (p:=fun k=>k≠ab) (bn.jD (a:=⟨ab,1,none⟩) (.bool true) (fun _ h=>h)) VO);have hs3:(w2.setCell ⟨ab,1,none⟩ (.bool true)).heap.size=w2.heap.size:=by simp[World.setCell]
 have Ba:=ag S3;have adV:Hid (aB 238 #[aM zb,aD gn no N nc] (w2.setCell ⟨ab,1,none⟩ (.bool true)) fun e w'=>(∃v,e=.returned v/\((v=aH/\(ct (aN rs) n).2=false)\/∃s,en w' v (aT s)/\(aT s).length<=1000/\(ct (aN rs) n).2=true/\(ct (aN rs) n).1=(cB (aN rs) s).map (eM n)))/\Below (w2.setCell ⟨ab,1,none⟩ (.bool true)).heap.size (w2.setCell ⟨ab,1,none⟩ (.bool true)) w'):=by{rw[Hid,<- mN];refine(aoG zb o rs gn no nc (aT n) _ (dv.below cK) (af aW) (af wL) (by rw[mN];exact qa) ae ae).mono ?_;rintro e w' ⟨⟨v,rfl,hv⟩,hb⟩;refine⟨⟨v,rfl,?_⟩,hb⟩;rcases Vr rs (af xe) (af p2)with⟨aC,c2⟩|⟨s,aC,c2,c3⟩;{rw[aC]at hv;exact .inl ⟨hv,c2⟩};{have:=apQ rs _ _ aC;rw[aC]at hv;exact .inr ⟨s,hv,ae,c2,c3⟩}};clear S3;go_wp2_with fail;refine adV.mono ?_;rintro e w4 ⟨⟨v4,rfl,hv4⟩,hb4⟩;have gj:=hb4.size;have S4:=Ba.kept (hb4.block ab ae);have FZ:=ag (apT.below hb4);have jb:=ag (cK.trans (hb4.mono cK.size));have zA:=ag (wL.below hb4);obtain⟨q0,q1,q2,q3,q4⟩:=S4.cells;have qc:=S4.frozen;have Fk:=ag S4;clear adV hb4 u0 u1 u2 u3 u4 VR S4;rcases hv4 with⟨rfl,hm⟩|⟨s,w_,jP,hm,jc⟩;{
 have bC:=ag (VM (L:=aN rs) (ans:=ans) (t:=t) (first:=first) (aa:=aa) hu hcut hm);have S5:=Fk.set0 3;have Qj:=ag (FZ.set (a:=⟨ab,0,none⟩) (aj 3) (af oT) (by show ab<ab+1;omega));have fR:=ag (jb.setCell (p:=⟨ab,0,none⟩) hab (aj 3));have hs5:(w4.setCell ⟨ab,0,none⟩ (.int .i64 3)).heap.size=w4.heap.size:=by simp[World.setCell]
 have F0:=ag S5;have yC:=ag (P_ (W:=w4.setCell ⟨ab,0,none⟩ (.int .i64 3)) (x:=X) (base:=ab+1) (af IL) (af cF) (tT _ fR) (af Dy) ae);clear S5;go_wp2_with fail;refine yC.mono ?_;rintro e w7 ⟨⟨vd,rfl,jt⟩,di⟩;have Dx:=di.size;have S7:=F0.kept (di.block ab ae);have Bx:=ag (Qj.below di);have ri:=ag (fR.trans (di.mono fR.size));obtain⟨da,dc,rfl⟩:=jt.slice;obtain⟨y0,y1,y2,y3,y4⟩:=S7.cells;have nC:=S7.frozen;have F4:=ag jt;have F5:=ag S7;clear S7 jt di q0 q1 q2 q3 q4 qc yC;go_wp2;go_ret;rw[af bC];exact⟨_,_,_,rfl,F5.iM _,Bx.set _ (af oT) (by show ab<ab+1;omega),F4.set _ (af oT) (by show ab<ab+1;omega),rfl,ri.setCell (p:=⟨ab,3,none⟩) hab _⟩};have VS:Hid (((t=5\/t=255)\/iE o (aN rs) n=none)->eo o (aN rs) t first aa ans n=(0,true,ans++(dL rs s t).map (eM n),if dL rs s t = []then fQ o (aN rs)else [],none)):=fun hno=>by{rw[VN hu hcut hm hno,jc,Vj rs s n t (af xe)];congr 4;rw[aoq (acX (FT rs s) (Ll rs s) n),Vj rs s n t (af xe)];cases dL rs s t <;> simp};have zy:=ag w_;obtain⟨gs,os,cs,rfl,hcs,fZ⟩:=w_;clear hcs fZ;by_cases h5:t=5;{
 have zS:=ag (VS (.inl (.inl h5)));have LD:Hid (eo o (aN rs) 5 first aa ans n=(0,true,ans++(dL rs s 5).map (eM n),if dL rs s 5 = []then fQ o (aN rs)else [],none)):=by rw[<- h5];exact zS
 subst h5;go_wp2_with fail;refine(LC w4 jb ae s _ _ (af zy) jP (af zA)).mono ?_;rintro e w6 ⟨⟨vl,rfl,nD⟩,dR⟩;have sk:=dR.size;have S6:=Fk.kept (dR.block ab ae);have zT:=ag (FZ.below dR);have hP:=ag (jb.trans (dR.mono jb.size));obtain⟨x0,x1,x2,x3,x4⟩:=S6.cells;have xf:=S6.frozen;have vh:=ag S6;obtain⟨la,lc,rfl⟩:=nD.slice;rw[bY];have uf:=ag nD;have yD:=nD.lt;have adW:=ag dR;clear S6 nD dR;by_cases yE:(dL rs s 5).length=0;{
 have LF:(((dL rs s 5).length:Int) == 0)=true:=by simp[yE]
 have hnil:dL rs s 5 = []:=fp yE;have bC:=ag (af LD);have yC:=ag (P_ (W:=w6) (x:=X) (base:=ab+1) (af IL) (af cF) (tT _ hP) (af Dy) ae);clear uf yD;go_wp2_with fail;refine yC.mono ?_;rintro e w7 ⟨⟨vd,rfl,jt⟩,di⟩;have Dx:=di.size;have S7:=vh.kept (di.block ab ae);have Bx:=ag (zT.below di);have ri:=ag (hP.trans (di.mono hP.size));obtain⟨da,dc,rfl⟩:=jt.slice;obtain⟨y0,y1,y2,y3,y4⟩:=S7.cells;have nC:=S7.frozen;have F4:=ag jt;have F5:=ag S7;clear S7 jt di x0 x1 x2 x3 x4 xf;go_wp2;go_ret;rw[af bC,hnil];refine⟨_,_,_,rfl,F5.iM _,?_,?_,rfl,ri.setCell (p:=⟨ab,3,none⟩) hab _⟩;{rw[rI,h_];exact Bx.set (a:=⟨ab,3,none⟩) _ (af oT) (by show ab<ab+1;omega)};{exact F4.set (a:=⟨ab,3,none⟩) _ (af oT) (by show ab<ab+1;omega)}};{
 have LF:(((dL rs s 5).length:Int) == 0)=false:=by rw[d_];omega
 have jE:dL rs s 5≠[]:=fun h=>yE (by rw[h];rfl);have C6:=IE (af cF) s 5;have adX:((dL rs s 5).map (eM n)).length<=2000:=by rw[bY];omega
 obtain⟨v8,w8,hrun,qd,hZ,F6⟩:=ID (af zT) (af uf) (fun k hk h=>h) ae ae (fun k hk=>by have:=af Qi k hk;omega);rw[bY]at hrun;have F7:some ab≠(Value.slice jd ans.length ac).ownBlock:=fun e=>by have:=(HO.lt ab e.symm).1;omega
 have S8:=vh.kept (hZ.block ab ae F7);have VT:=hZ.size;have Bz:Hid (Below w0.heap.size w0 w8):=hP.trans ⟨hZ.os,hZ.tape,hZ.output,hZ.size,fun k hk=>hZ.block k (by have:=hP.size;omega) (fun e=>by have:=(HO.lt k e.symm).1;omega)⟩;have IM:=ag qd;obtain⟨a8,oU,qf⟩:=qd.slice;rw[bj,bY]at qf;subst qf;obtain⟨y0,y1,y2,y3,y4⟩:=S8.cells;have nC:=S8.frozen;have LG:=ag S8;have bC:=ag (af LD);have oQ:=ag hrun;clear S8 qd hrun uf yD hZ F6;go_wp2_with (at_builtin;go_loud (refine A5 ee (.tmp 127) (.tmp 128) 115 ee _ _ _ _ ee ee (af oQ) ?_));go_ret;rw[af bC,aF jE];exact⟨_,_,_,rfl,LG.set2 _,IM.set (a:=⟨ab,2,none⟩) _ (af oT) (by show ab<ab+1;omega),dB.nil _ _ _,rfl,Bz.setCell (p:=⟨ab,2,none⟩) hab _⟩}};by_cases gS:t=255;{
 have zS:=ag (VS (.inl (.inr gS)));have LD:Hid (eo o (aN rs) 255 first aa ans n=(0,true,ans++(dL rs s 255).map (eM n),if dL rs s 255 = []then fQ o (aN rs)else [],none)):=by rw[<- gS];exact zS
 subst gS;go_wp2_with fail;refine(LC w4 jb ae s _ _ (af zy) jP (af zA)).mono ?_;rintro e w6 ⟨⟨vl,rfl,nD⟩,dR⟩;have sk:=dR.size;have S6:=Fk.kept (dR.block ab ae);have zT:=ag (FZ.below dR);have hP:=ag (jb.trans (dR.mono jb.size));obtain⟨x0,x1,x2,x3,x4⟩:=S6.cells;have xf:=S6.frozen;have vh:=ag S6;obtain⟨la,lc,rfl⟩:=nD.slice;rw[bY];have uf:=ag nD;have yD:=nD.lt;have adW:=ag dR;clear S6 nD dR;by_cases yE:(dL rs s 255).length=0;{
 have LF:(((dL rs s 255).length:Int) == 0)=true:=by simp[yE]
 have hnil:dL rs s 255 = []:=fp yE;have bC:=ag (af LD);have yC:=ag (P_ (W:=w6) (x:=X) (base:=ab+1) (af IL) (af cF) (tT _ hP) (af Dy) ae);clear uf yD;go_wp2_with fail;refine yC.mono ?_;rintro e w7 ⟨⟨vd,rfl,jt⟩,di⟩;have Dx:=di.size;have S7:=vh.kept (di.block ab ae);have Bx:=ag (zT.below di);have ri:=ag (hP.trans (di.mono hP.size));obtain⟨da,dc,rfl⟩:=jt.slice;obtain⟨y0,y1,y2,y3,y4⟩:=S7.cells;have nC:=S7.frozen;have F4:=ag jt;have F5:=ag S7;clear S7 jt di x0 x1 x2 x3 x4 xf;go_wp2;go_ret;rw[af bC,hnil];refine⟨_,_,_,rfl,F5.iM _,?_,?_,rfl,ri.setCell (p:=⟨ab,3,none⟩) hab _⟩;{rw[rI,h_];exact Bx.set (a:=⟨ab,3,none⟩) _ (af oT) (by show ab<ab+1;omega)};{exact F4.set (a:=⟨ab,3,none⟩) _ (af oT) (by show ab<ab+1;omega)}};{
 have LF:(((dL rs s 255).length:Int) == 0)=false:=by rw[d_];omega
 have jE:dL rs s 255≠[]:=fun h=>yE (by rw[h];rfl);have C6:=IE (af cF) s 255;have adX:((dL rs s 255).map (eM n)).length<=2000:=by rw[bY];omega
 obtain⟨v8,w8,hrun,qd,hZ,F6⟩:=ID (af zT) (af uf) (fun k hk h=>h) ae ae (fun k hk=>by have:=af Qi k hk;omega);rw[bY]at hrun;have F7:some ab≠(Value.slice jd ans.length ac).ownBlock:=fun e=>by have:=(HO.lt ab e.symm).1;omega
 have S8:=vh.kept (hZ.block ab ae F7);have VT:=hZ.size;have Bz:Hid (Below w0.heap.size w0 w8):=hP.trans ⟨hZ.os,hZ.tape,hZ.output,hZ.size,fun k hk=>hZ.block k (by have:=hP.size;omega) (fun e=>by have:=(HO.lt k e.symm).1;omega)⟩;have IM:=ag qd;obtain⟨a8,oU,qf⟩:=qd.slice;rw[bj,bY]at qf;subst qf;obtain⟨y0,y1,y2,y3,y4⟩:=S8.cells;have nC:=S8.frozen;have LG:=ag S8;have bC:=ag (af LD);have oQ:=ag hrun;clear S8 qd hrun uf yD hZ F6;go_wp2_with (at_builtin;go_loud (refine A5 ee (.tmp 127) (.tmp 128) 115 ee _ _ _ _ ee ee (af oQ) ?_));go_ret;rw[af bC,aF jE];exact⟨_,_,_,rfl,LG.set2 _,IM.set (a:=⟨ab,2,none⟩) _ (af oT) (by show ab<ab+1;omega),dB.nil _ _ _,rfl,Bz.setCell (p:=⟨ab,2,none⟩) hab _⟩}};have Fh:(t != 5)=true:=by simpa using h5
 have Uc:(t != 255)=true:=by simpa using gS
 have HAS:=ag (dv.below jb);have Lr:Hid (aB 118 #[aM zb,aD gs os (aT s).length cs,aj 5] w4 (bQ (.bool (iG rs (aT s) 5)) w4)):=PA zb o rs _ _ 5 w4 (af HAS) (af aW) (af zy) jP;go_wp2_with fail;refine Lr.mono ?_;rintro e w5 ⟨rfl,hb5⟩;have hs5:=hb5.size;have S5:=Fk.kept (hb5.block ab ae);have Qj:=ag (FZ.below hb5);have fR:=ag (jb.trans (hb5.mono jb.size));have LH:=ag (zA.below hb5);have adY:=ag (zy.below hb5);obtain⟨p0,p1,fh,eK,p4⟩:=S5.cells;have pf:=S5.frozen;have F0:=ag S5;clear Lr HAS hb5 q0 q1 q2 q3 q4 qc S5;cases hh:iG rs (aT s) 5 with
 | false =>{
 have hlk:iE o (aN rs) n=none:=by{unfold iE;rw[aF];rintro⟨_,_,h3⟩;rw[jc,<- (Vy (af cF) s n).1,hh]at h3;cases h3};have zS:=ag (VS (.inr hlk));go_wp2_with fail;refine(LC w5 fR ae s _ _ (af adY) jP (af LH)).mono ?_;rintro e w6 ⟨⟨vl,rfl,nD⟩,dR⟩;have sk:=dR.size;have S6:=F0.kept (dR.block ab ae);have zT:=ag (Qj.below dR);have hP:=ag (fR.trans (dR.mono fR.size));obtain⟨x0,x1,x2,x3,x4⟩:=S6.cells;have xf:=S6.frozen;have vh:=ag S6;obtain⟨la,lc,rfl⟩:=nD.slice;rw[bY];have uf:=ag nD;have yD:=nD.lt;have adW:=ag dR;clear S6 nD dR;by_cases yE:(dL rs s t).length=0;{
 have LF:(((dL rs s t).length:Int) == 0)=true:=by simp[yE]
 have hnil:dL rs s t = []:=fp yE;have bC:=ag (af zS);have yC:=ag (P_ (W:=w6) (x:=X) (base:=ab+1) (af IL) (af cF) (tT _ hP) (af Dy) ae);clear uf yD;go_wp2_with fail;refine yC.mono ?_;rintro e w7 ⟨⟨vd,rfl,jt⟩,di⟩;have Dx:=di.size;have S7:=vh.kept (di.block ab ae);have Bx:=ag (zT.below di);have ri:=ag (hP.trans (di.mono hP.size));obtain⟨da,dc,rfl⟩:=jt.slice;obtain⟨y0,y1,y2,y3,y4⟩:=S7.cells;have nC:=S7.frozen;have F4:=ag jt;have F5:=ag S7;clear S7 jt di x0 x1 x2 x3 x4 xf;go_wp2;go_ret;rw[af bC,hnil];refine⟨_,_,_,rfl,F5.iM _,?_,?_,rfl,ri.setCell (p:=⟨ab,3,none⟩) hab _⟩;{rw[rI,h_];exact Bx.set (a:=⟨ab,3,none⟩) _ (af oT) (by show ab<ab+1;omega)};{exact F4.set (a:=⟨ab,3,none⟩) _ (af oT) (by show ab<ab+1;omega)}};{
 have LF:(((dL rs s t).length:Int) == 0)=false:=by rw[d_];omega
 have jE:dL rs s t≠[]:=fun h=>yE (by rw[h];rfl);have C6:=IE (af cF) s t;have adX:((dL rs s t).map (eM n)).length<=2000:=by rw[bY];omega
 obtain⟨v8,w8,hrun,qd,hZ,F6⟩:=ID (af zT) (af uf) (fun k hk h=>h) ae ae (fun k hk=>by have:=af Qi k hk;omega);rw[bY]at hrun;have F7:some ab≠(Value.slice jd ans.length ac).ownBlock:=fun e=>by have:=(HO.lt ab e.symm).1;omega
 have S8:=vh.kept (hZ.block ab ae F7);have VT:=hZ.size;have Bz:Hid (Below w0.heap.size w0 w8):=hP.trans ⟨hZ.os,hZ.tape,hZ.output,hZ.size,fun k hk=>hZ.block k (by have:=hP.size;omega) (fun e=>by have:=(HO.lt k e.symm).1;omega)⟩;have IM:=ag qd;obtain⟨a8,oU,qf⟩:=qd.slice;rw[bj,bY]at qf;subst qf;obtain⟨y0,y1,y2,y3,y4⟩:=S8.cells;have nC:=S8.frozen;have LG:=ag S8;have bC:=ag (af zS);have oQ:=ag hrun;clear S8 qd hrun uf yD hZ F6;go_wp2_with (at_builtin;go_loud (refine A5 ee (.tmp 127) (.tmp 128) 115 ee _ _ _ _ ee ee (af oQ) ?_));go_ret;rw[af bC,aF jE];exact⟨_,_,_,rfl,LG.set2 _,IM.set (a:=⟨ab,2,none⟩) _ (af oT) (by show ab<ab+1;omega),dB.nil _ _ _,rfl,Bz.setCell (p:=⟨ab,2,none⟩) hab _⟩}}
 | true =>{
 obtain⟨r,BA,E9,l9,how⟩:=(Vy (af cF) s n).2 hh;have VU:=(Vy (af cF) s n).1;rw[hh,l9]at VU;have hlk:iE o (aN rs) n=some (eM n r):=apP hcut hm (by rw[jc,l9];rfl) VU.symm;clear VU;have sH:=ag (LC w5 fR ae s _ 5 (af adY) jP (af LH));go_wp2_with fail;refine sH.mono ?_;rintro e w6 ⟨⟨vl,rfl,nD⟩,dR⟩;rw[how]at nD;have sk:=dR.size;have S6:=F0.kept (dR.block ab ae);have zT:=ag (Qj.below dR);have hP:=ag (fR.trans (dR.mono fR.size));obtain⟨x0,x1,x2,x3,x4⟩:=S6.cells;have xf:=S6.frozen;have vh:=ag S6;have uf:=ag nD;have yD:=nD.lt;rcases nD.Lp with⟨_,h⟩|⟨gl,cl,rfl,azY,hcl,om⟩;{cases h};obtain⟨_,dS,_,_,_,_,l4,_,l6⟩:=om 0 ar;rw[rK,eY]at l4;obtain⟨FW,hpl⟩:=adq (af cF) E9 BA;obtain⟨gw,ow,cw,rfl,hcw,eB,hxw⟩:=l6;have adZ:w6.cell? (ak gw ow)=some (ay r.data):=by{have:=eB.2 0 (by show 0<(az 32 r.data).length;rw[FW];simp);rw[gK]at this;rw[this];congr 3;show(az 32 r.data)[0]'_=_;simp[FW]};have vk:=eB.1;have hw1:(az 32 (List.map (eM n) [r])[0].data).length=1:=by show(az 32 r.data).length=1;rw[FW];rfl
 rw[hw1]at l4 hcw;simp only[bY,bP,fy]at hcl ⊢;clear S6 nD dR p0 p1 fh eK p4 pf sH om eB hw1;by_cases h8:ans.length=8;{
 have Ub:((ans.length:Int) == 8)=true:=by simp[h8]
 have bC:=ag (Qh (first:=first) (aa:=aa) hu hcut hlk h5 gS h8);have S8:=vh.set0 2;clear l4;go_wp2;go_ret;rw[af bC];exact⟨_,_,_,rfl,S8.set2 _,dB.nil _ _ _,dB.nil _ _ _,rfl,(hP.setCell (p:=⟨ab,0,none⟩) hab _).setCell (p:=⟨ab,2,none⟩) hab _⟩};{
 have Ub:((ans.length:Int) == 8)=false:=by rw[d_];omega
 have bC:=ag (Lv (first:=first) (aa:=aa) hu hcut hlk h5 gS h8);obtain⟨v8,w8,hrun,qd,hZ,F6⟩:=ID (af zT) (af uf) (fun k hk h=>h) ae aP (fun k hk=>by have:=af Qi k hk;omega);have F7:some ab≠(Value.slice jd ans.length ac).ownBlock:=fun e=>by have:=(HO.lt ab e.symm).1;omega
 have apU:some gl≠(Value.slice jd ans.length ac).ownBlock:=fun e=>by have:=(HO.lt gl e.symm).2;omega
 have apV:some gw≠(Value.slice jd ans.length ac).ownBlock:=fun e=>hxw (.inl (.inr e));have apW:gw≠ab:=fun e=>hxw (.inl (.inl (by rw[e];exact oT)));have apX:gl≠ab:=ae;have apY:=(yD gl rfl).2;have S8:=vh.kept (hZ.block ab ae F7);have l48:=(dh (a:=⟨gl,4,none⟩) (hZ.block gl apY apU)).trans l4;have apZ:=(dh (a:=⟨gw,ow,none⟩) (hZ.block gw vk apV)).trans adZ;have VT:=hZ.size;have Bz:Hid (Below w0.heap.size w0 w8):=hP.trans ⟨hZ.os,hZ.tape,hZ.output,hZ.size,fun k hk=>hZ.block k (by have:=hP.size;omega) (fun e=>by have:=(HO.lt k e.symm).1;omega)⟩;have IM:=ag qd;obtain⟨a8,oU,qf⟩:=qd.slice;rw[bj,bY,J3]at qf;subst qf;obtain⟨y0,y1,y2,y3,y4⟩:=S8.cells;have nC:=S8.frozen;have oQ:=ag hrun;have ad0:=S8.set2 (.slice a8 (ans.length+1) oU);have ap0:=ag (qd.set (a:=⟨ab,2,none⟩) (.slice a8 (ans.length+1) oU) (af oT) (by show ab<ab+1;omega));have Qk:=ag (Bz.setCell (p:=⟨ab,2,none⟩) hab (.slice a8 (ans.length+1) oU));have l49:(w8.setCell ⟨ab,2,none⟩ (.slice a8 (ans.length+1) oU)).cell? (ak gl 4)=_:=(dh (a:=⟨gl,4,none⟩) (cZ _ _ _ _ apX)).trans l48;have azZ:(w8.setCell ⟨ab,2,none⟩ (.slice a8 (ans.length+1) oU)).cell? (ak gw ow)=_:=(dh (a:=⟨gw,ow,none⟩) (cZ _ _ _ _ apW)).trans apZ;have az0:(w8.setCell ⟨ab,2,none⟩ (.slice a8 (ans.length+1) oU)).heap.size=w8.heap.size:=by simp[World.setCell]
 have ap1:=ag ad0;have kQ:=(gU hpl).2;have ot:=ag (fun W=>H5 r.data false W ae);have ap2:=ag (qd.lt);clear S8 ad0 qd hrun uf yD hZ F6 l4 adZ;go_wp2_with (at_builtin;go_loud (refine A5 ee (.tmp 98) (.tmp 99) 115 ee _ _ _ _ ee ee (af oQ) ?_));refine(ot _).mono ?_;rintro e w10 ⟨⟨v10,rfl,ad1⟩,F8⟩;have az1:=F8.size;have f_:gT false r.data=some (az 46 r.data):=by{have:=zJ r.data;rw[hpl]at this;unfold gT at this ⊢;split at this;{rename_i h;rw[aJ h]};{cases this}};rw[f_,<- yx (P5 hpl)]at ad1;obtain⟨_,g10,zU,rfl,ap3,az2,Dz⟩:=ad1;go_wp2;go_ret;rw[af bC];refine⟨_,_,_,rfl,ap1.kept (F8.block ab ae),ap0.below F8,dB.nil _ _ _,⟨rfl,g10,zU,rfl,ap3,Dz,?_⟩,Qk.trans (F8.mono Qk.size)⟩;rintro(h|h);{exact LB g10 ae ae h};{have:=(ap2 g10 h.symm).2;omega}}}};{
 have uI:(cU o (aN rs) n).length≠0:=by rw[hcut];intro h;exact apS (fp h)
 have bC:=ag (Qg (t:=t) (first:=first) (aa:=aa) (ans:=ans) hu uI);have hown:(dL rs (gB n i) 2).map (eM (gB n i))=cU o (aN rs) n:=by rw[acZ,ac8,hcut]
 have HST:Hid (∀x:Bool,aB 237 #[aM zb,aD gn (no+i) (N - i) (nc - i),aj 2,aD gn (no+i) (N - i) (nc - i)] (w2.setCell ⟨ab,1,none⟩ (.bool x)) fun e w'=>(∃v,e=.returned v/\dB X w' (ab+1) v (cU o (aN rs) n))/\Below (w2.setCell ⟨ab,1,none⟩ (.bool x)).heap.size (w2.setCell ⟨ab,1,none⟩ (.bool x)) w'):=fun x=>by{
 have hs3:(w2.setCell ⟨ab,1,none⟩ (.bool x)).heap.size=w2.heap.size:=by simp[World.setCell]
 have ad2:=uU.fr (p:=fun k=>k≠ab) (bn.jD (a:=⟨ab,1,none⟩) (.bool x) (fun _ h=>h)) VO;have hlt:i<(az 46 n).length:=by rw[<- yw];omega
 have hv:=OX ad2 (cap:=nc) ae i ae;rw[<- PZ hlt,mN]at hv;have hdr:(aT (gB n i)).length=N - i:=by rw[PZ hlt,fM,mN]
 rw[<- hown];refine VB (af IL) (af cF) (tT _ (bU.setCell (p:=⟨ab,1,none⟩) hab _)) (af Dy) ae (gB n i) (gB n i) _ _ 2 hv ae ⟨gn,no+i,nc - i,by rw[hdr],ae,?_,kN⟩;obtain⟨g',o',c',e1,e2,e3⟩:=hv;obtain⟨h1,_,_⟩:=mS e1;cases fq h1;exact e3};clear LC;have Lh:Hid (∀x:Bool,(aa || !first)=x->∀(w7:World) (vd:Value),Below (w2.setCell ⟨ab,1,none⟩ (.bool x)).heap.size (w2.setCell ⟨ab,1,none⟩ (.bool x)) w7->dB X w7 (ab+1) vd (cU o (aN rs) n)->adS X w0 (w7.setCell ⟨ab,3,none⟩ vd) ab (eo o (aN rs) t first aa ans n) (.returned (aH))/\dM w7 ab 0 x (.slice jd ans.length ac) (aH) (aH)):=fun x hx w7 vd di jt=>by{
 have hs3:(w2.setCell ⟨ab,1,none⟩ (.bool x)).heap.size=w2.heap.size:=by simp[World.setCell]
 have S7:=(jQ.set1 x).kept (di.block ab ae);have Bx:=(O2.set (a:=⟨ab,1,none⟩) (.bool x) (af oT) (by show ab<ab+1;omega)).below di;have B3:=bU.setCell (p:=⟨ab,1,none⟩) hab (.bool x);have B7:=B3.trans (di.mono B3.size);rw[af bC,hx];exact⟨⟨_,_,_,rfl,S7.iM _,Bx.set _ (af oT) (by show ab<ab+1;omega),jt.set _ (af oT) (by show ab<ab+1;omega),rfl,B7.setCell (p:=⟨ab,3,none⟩) hab _⟩,S7⟩};clear hcut hown uI;cases aa with
 | true =>{go_wp2_with fail;refine(HST true).mono ?_;rintro e w7 ⟨⟨vd,rfl,jt⟩,di⟩;obtain⟨aY,S7⟩:=af Lh true rfl w7 vd di jt;have fX:=ag aY;obtain⟨da,dc,rfl⟩:=jt.slice;obtain⟨y0,y1,y2,y3,y4⟩:=S7.cells;have nC:=S7.frozen;clear S7 jt di aY u0 u1 u2 u3 u4 VR;go_wp2;go_ret;exact fX}
 | false =>{obtain⟨nf,ap4⟩:∃nf:Bool,(!first)=nf:=⟨_,rfl⟩;have ap5:(false || !first)=nf:=ap4;go_wp2_with fail;refine(HST nf).mono ?_;rintro e w7 ⟨⟨vd,rfl,jt⟩,di⟩;obtain⟨aY,S7⟩:=af Lh nf ap5 w7 vd di jt;have fX:=ag aY;obtain⟨da,dc,rfl⟩:=jt.slice;obtain⟨y0,y1,y2,y3,y4⟩:=S7.cells;have nC:=S7.frozen;clear S7 jt di aY u0 u1 u2 u3 u4 VR;go_wp2;go_ret;exact fX}}}
end
end Go.Proofs.YtkkpahmoljiepaaGreatDoor
