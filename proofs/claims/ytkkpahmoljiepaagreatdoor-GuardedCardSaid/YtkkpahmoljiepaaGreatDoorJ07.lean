import Derived.Test.YtkkpahmoljiepaaGreatDoorJ06
set_option maxRecDepth 1000000
set_option maxHeartbeats 12800000
set_option linter.unusedSimpArgs false
set_option linter.unusedVariables false
namespace Go.Proofs.YtkkpahmoljiepaaGreatDoor
open Go.RowKit Go.Proofs.Tryz
def eG(w:World)(b:Nat)(h0 h1 h2 h3 h4 h5:Int)(q n:ai)(k c:Int)(opt:Bool)(sz bM:Int):Prop :=
 w.heap[b]? = some (.cells #[.int .i64 h0,.int .i64 h1,.int .i64 h2,.int .i64 h3,.int .i64 h4,.int .i64 h5,.string (ah q),.string (ah n),.int .i64 k,.int .i64 c,.bool opt,.int .i64 sz,.int .i64 bM] 137)
section
variable {w:World} {b:Nat} {h0 h1 h2 h3 h4 h5:Int} {q n:ai} {k c:Int} {opt:Bool} {sz bM:Int}
theorem eG.lt(h:eG w b h0 h1 h2 h3 h4 h5 q n k c opt sz bM):b<w.heap.size:=(di.1 h).1
theorem eG.frozen(h:eG w b h0 h1 h2 h3 h4 h5 q n k c opt sz bM)(i:Nat):w.frozen? (ar b i)=false:=by unfold eG at h;simp[World.frozen?,h]
theorem eG.cells(h:eG w b h0 h1 h2 h3 h4 h5 q n k c opt sz bM) :
  w.cell? (ar b 0)=some (aq h0)/\w.cell? (ar b 1)=some (aq h1)/\w.cell? (ar b 2)=some (aq h2)/\w.cell? (ar b 3)=some (aq h3)/\w.cell? (ar b 4)=some (aq h4)/\w.cell? (ar b 5)=some (aq h5) /\
  w.cell? (ar b 6)=some (aA q)/\w.cell? (ar b 7)=some (aA n)/\w.cell? (ar b 8)=some (aq k)/\w.cell? (ar b 9)=some (aq c)/\w.cell? (ar b 10)=some (.bool opt)/\w.cell? (ar b 11)=some (aq sz)/\w.cell? (ar b 12)=some (aq bM):=by unfold eG at h;refine⟨?_,?_,?_,?_,?_,?_,?_,?_,?_,?_,?_,?_,?_⟩ <;> simp[World.cell?,h]
theorem eG.NK(h:eG w b h0 h1 h2 h3 h4 h5 q n k c opt sz bM)(x:ai):eG (w.setCell ⟨b,6,none⟩ (.string (ah x))) b h0 h1 h2 h3 h4 h5 x n k c opt sz bM:=by unfold eG at *; simp only[World.setCell];rw[iq,aP rfl,h];rfl
theorem eG.aea(h:eG w b h0 h1 h2 h3 h4 h5 q n k c opt sz bM)(x:ai):eG (w.setCell ⟨b,7,none⟩ (.string (ah x))) b h0 h1 h2 h3 h4 h5 q x k c opt sz bM:=by unfold eG at *; simp only[World.setCell];rw[iq,aP rfl,h];rfl
theorem eG.aeb(h:eG w b h0 h1 h2 h3 h4 h5 q n k c opt sz bM)(x:Int):eG (w.setCell ⟨b,8,none⟩ (.int .i64 x)) b h0 h1 h2 h3 h4 h5 q n x c opt sz bM:=by unfold eG at *; simp only[World.setCell];rw[iq,aP rfl,h];rfl
theorem eG.aec(h:eG w b h0 h1 h2 h3 h4 h5 q n k c opt sz bM)(x:Int):eG (w.setCell ⟨b,9,none⟩ (.int .i64 x)) b h0 h1 h2 h3 h4 h5 q n k x opt sz bM:=by unfold eG at *; simp only[World.setCell];rw[iq,aP rfl,h];rfl
theorem eG.kept{w':World}(h:eG w b h0 h1 h2 h3 h4 h5 q n k c opt sz bM)(hb:w'.heap[b]? = w.heap[b]?):eG w' b h0 h1 h2 h3 h4 h5 q n k c opt sz bM:=hb.trans h
end
theorem aed{w:World}{base:Nat}{v:Value}{ls:List ai}(h:Fx w base v ls):TV w v ls:=by obtain⟨⟨h1,h2⟩,h3⟩:=h;rcases h2 with⟨hv,_⟩|⟨g,cap,cur,hv,hb,bp,hn,hm,hs,ht⟩;{exact .inl ⟨hv,h3.1 hv⟩};{refine .inr ⟨g,cap,hv,hn,(di.1 bp).1,fun j hj=>?_⟩;have e:cur.toList[j]? = (ls.map fun l=>Value.string (ah l))[j]?:=by{rw[<- ht,wM];rw[aP ae]};simp only[World.cell?,bp];rw[<- Iq,e];simp[hj]}
theorem JA(s:ai)(br:Bool)(n:Nat):(dh s br n).1.length<=n:=by unfold dh;split <;> simp;omega
theorem Uu:∀(f n:Nat) (s:ai) (br:Bool) (size:Nat) (acc:List ai),(∀l∈acc,l.length<=63)->acc.length<=size->size<=255 ->
  (∀l∈(kZ f n s br size acc).1,l.length<=63)/\(kZ f n s br size acc).1.length<=255/\(kZ f n s br size acc).2.1.length<=s.length
 | 0,n,s,br,size,acc,h1,h2,h3=>⟨h1,by simp only[kZ];omega,aL _⟩
 | f+1,n,s,br,size,acc,h1,h2,h3=>by rw[kZ];split;{exact⟨h1,by simp only;omega,aL _⟩};{split;{exact⟨ak,ak,aL _⟩};{rename_i hn hb;have:=Uu f (cY (dh s br n).2.1 (dh s br n).2.2).1 (cY (dh s br n).2.1 (dh s br n).2.2).2.1 (cY (dh s br n).2.1 (dh s br n).2.2).2.2 (size+1+n) (acc++[(dh s br n).1]) ?_ aX ae;{exact⟨this.1,this.2.1,a_ this.2.2 (a_ (vk _ _) (vu _ _ _))⟩};{intro l hl;rcases kP.1 hl with hl|hl;{exact h1 l hl};{rw[Sz.1 hl];have:=JA s br n;omega}}}}
theorem Uv(s:ai)(br:Bool):(∀l∈(pS s br).1,l.length<=63)/\(pS s br).1.length<=255/\(pS s br).2.1.length<=s.length:=by have:=Uu 256 (cY s br).1 (cY s br).2.1 (cY s br).2.2 1 [] ak ak ae;exact⟨this.1,this.2.1,a_ this.2.2 (vk _ _)⟩
theorem Uw(qb rb:Nat)(s:ai)(br:Bool)(w:World){h0 h1 h2 h3 h4 h5:Int}{q n:ai}{k c:Int}{opt:Bool}{sz bM:Int}
  (hq:eG w qb h0 h1 h2 h3 h4 h5 q n k c opt sz bM) (hr:cB w rb s br) (hne:qb≠rb) (hl:s.length<=1000000000)
  {ls:List ai} {k' c':Nat} {s1 s2 s3:ai} {nK o6 kB:Bool} (e1:pS s br=(ls,s1,nK)) (e2:cZ s1 nK=(k',s2,o6)) (e3:cZ s2 o6=(c',s3,kB)) :
  aF 133 #[aO qb,aO rb] w fun e w' =>
   e=.returned (.tuple #[])/\eG w' qb h0 h1 h2 h3 h4 h5 (s.take (s.length - s3.length)) (cJ ls) k' c' opt sz bM/\cB w' rb s3 kB/\bh (fun i=>i≠qb/\i≠rb) w w':=by have f_:=ag (ada rb s br w hr hl);have bE:=Uv s br;rw[e1]at bE;rw[Hid,e1]at f_;obtain⟨qX,ok2,NP⟩:=bE;simp only at f_ qX ok2 NP;have l2:=sq s1 nK;have l3:=sq s2 o6;rw[e2]at l2;rw[e3]at l3;simp only at l2 l3;have hc0:=hr.cells.1;have tY:=ag hq;have lj:=ag e2;have su:=ag e3;have ew:=ag qX;have hlt:=hq.lt;clear hq hr e1 e2 e3 qX;go_enter func133,ntmps133;go_wp2_with fail;refine f_.mono ?_;rintro e w1 ⟨v,rfl,hv,hr1,dN⟩;have jA:=ag (adL v ls w1 (aed hv) ae (fun l hl=>by have:=af ew l hl;omega));have qY:=ag (tY.kept (dN.block qb hlt hne));have fN:=ag hr1;have dQ:Hid (bh (fun i=>i≠qb/\i≠rb) w w1):=(bh.si dN).mono fun i _ h=>h.2;clear hv hr1 dN f_;go_wp2_with fail;refine jA.mono ?_;rintro e w2 ⟨rfl,hb2⟩;have mS:=ag (qY.kept (hb2.block qb qY.lt));have gv:Hid (cB w2 rb s1 nK):=(hb2.block rb fN.lt).trans fN;have iB:Hid (bh (fun i=>i≠qb/\i≠rb) w w2):=dQ.trans (bh.Um hb2);have hfz:=mS.frozen;have Ux:=mS.cells.2.2.2.2.2.2.2.1;clear hb2 jA qY fN dQ;go_wp2_with fail;have qZ:=ag (mS.aea (cJ ls));have jM:Hid (cB (w2.setCell ⟨qb,7,none⟩ (.string (ah (cJ ls)))) rb s1 nK):=(bf _ _ _ _ (by show rb≠qb;omega)).trans (af gv);have fY:Hid (bh (fun i=>i≠qb/\i≠rb) w (w2.setCell ⟨qb,7,none⟩ (.string (ah (cJ ls))))):=iB.trans (bh.gF _ fun i h=>h.1);clear mS gv iB Ux hfz;generalize w2.setCell ⟨qb,7,none⟩ (.string (ah (cJ ls)))=w3 at *;have mU:=kt rb s1 nK w3 (af jM) ae;rw[af lj]at mU;refine mU.mono ?_;rintro e w4 ⟨rfl,hr4,hk4,fO⟩;have yF:=ag (qZ.kept (hk4.block qb qZ.lt hne));have oU:=ag hr4;have o7:Hid (bh (fun i=>i≠qb/\i≠rb) w w4):=fY.trans ((bh.si hk4).mono fun i _ h=>h.2);clear hr4 hk4 fO mU qZ jM fY;go_wp2_with fail;have sw:=kt rb s2 o6 w4 (af oU) ae;rw[af su]at sw;refine sw.mono ?_;rintro e w5 ⟨rfl,Uy,hk5,hs5⟩;have p2:=ag (yF.kept (hk5.block qb yF.lt hne));have mV:Hid (cB w5 rb s3 kB):=Uy;have jB:Hid (bh (fun i=>i≠qb/\i≠rb) w w5):=o7.trans ((bh.si hk5).mono fun i _ h=>h.2);clear Uy hk5 hs5 sw yF oU o7;have hfz:=p2.frozen;obtain⟨-,-,-,-,-,-,ap9,-,Uz,ap_,-,-,-⟩:=p2.cells;have hcr:=mV.cells.1;have hs:(ah s).size=s.length:=dt s;have hs3:(ah s3).size=s3.length:=dt s3;have aqa:(s.length:Int) - s3.length=((s.length - s3.length:Nat):Int):=ae;have hle:s.length - s3.length<=s.length:=ae;have dJ:=ag (MZ s (s.length - s3.length) hle);have M8:rb≠qb:=fun e=>hne e.symm;generalize aD:s.length - s3.length=d at *;go_wp2_with fail;refine fy (v:=.tuple #[]) (by simp[results,results133]) rfl ?_;rw[af dJ,aD];refine⟨rfl,((p2.aeb _).aec _).NK _,?_,((jB.trans (bh.gF _ fun i h=>h.1)).trans (bh.gF _ fun i h=>h.1)).trans (bh.gF _ fun i h=>h.1)⟩;exact(bf _ _ _ _ (by show rb≠qb;omega)).trans ((bf _ _ _ _ (by show rb≠qb;omega)).trans ((bf _ _ _ _ (by show rb≠qb;omega)).trans (af mV)))
def dK(h0 h1 h2 h3 h4 h5:Int)(q n:ai)(k c:Int)(opt:Bool)(sz bM:Int):Value :=
 .agg #[aq h0,aq h1,aq h2,aq h3,aq h4,aq h5,.string (ah q),.string (ah n),aq k,aq c,.bool opt,aq sz,aq bM]
theorem aee(W:World):(Op.equalIn 10000 131 (.agg #[aq 1,aq 0,aq 0,aq 0]) (.agg #[aq 1,aq 0,aq 0,aq 0])).run prog W=.ok true W:=aK
def Di(w:World)(id bits:Int)(s:ai):World :=
 (((w.alloc (.cells #[.int .i64 id,.int .i64 bits,.int .i64 1,.int .i64 0,.int .i64 0,.int .i64 0] 133)).alloc
   (.cells #[.int .i64 0,.int .i64 0,.int .i64 0,.int .i64 0,.int .i64 0,.int .i64 0,.string ⟨#[]⟩,.string ⟨#[]⟩,.int .i64 0,.int .i64 0,.bool false,.int .i64 0,.int .i64 0] 137)).alloc
   (.cells #[.int .i64 id,.int .i64 bits,.int .i64 1,.int .i64 0,.int .i64 0,.int .i64 0,.string ⟨#[]⟩,.string ⟨#[]⟩,.int .i64 0,.int .i64 0,.bool false,.int .i64 0,.int .i64 0] 137)).alloc
   (.cells #[.string (ah s),.bool false] 215)
theorem aef(w:World)(id bits:Int)(s:ai):eG (Di w id bits s) (w.heap.size+1+1) id bits 1 0 0 0 [] [] 0 0 false 0 0/\eG (Di w id bits s) (w.heap.size+1) 0 0 0 0 0 0 [] [] 0 0 false 0 0/\cB (Di w id bits s) (w.heap.size+1+1+1) s false/\aw w (Di w id bits s):=by refine⟨?_,?_,?_,?_⟩;{refine(bV _ _ _ ak).trans ?_;have:=World.alloc_heap_new ((w.alloc (.cells #[.int .i64 id,.int .i64 bits,.int .i64 1,.int .i64 0,.int .i64 0,.int .i64 0] 133)).alloc (.cells #[.int .i64 0,.int .i64 0,.int .i64 0,.int .i64 0,.int .i64 0,.int .i64 0,.string ⟨#[]⟩,.string ⟨#[]⟩,.int .i64 0,.int .i64 0,.bool false,.int .i64 0,.int .i64 0] 137)) (.cells #[.int .i64 id,.int .i64 bits,.int .i64 1,.int .i64 0,.int .i64 0,.int .i64 0,.string ⟨#[]⟩,.string ⟨#[]⟩,.int .i64 0,.int .i64 0,.bool false,.int .i64 0,.int .i64 0] 137);simpa [ah]using this};{refine(bV _ _ _ ak).trans ((bV _ _ _ ak).trans ?_);have:=World.alloc_heap_new (w.alloc (.cells #[.int .i64 id,.int .i64 bits,.int .i64 1,.int .i64 0,.int .i64 0,.int .i64 0] 133)) (.cells #[.int .i64 0,.int .i64 0,.int .i64 0,.int .i64 0,.int .i64 0,.int .i64 0,.string ⟨#[]⟩,.string ⟨#[]⟩,.int .i64 0,.int .i64 0,.bool false,.int .i64 0,.int .i64 0] 137);simpa [ah]using this};{have:=World.alloc_heap_new (((w.alloc (.cells #[.int .i64 id,.int .i64 bits,.int .i64 1,.int .i64 0,.int .i64 0,.int .i64 0] 133)).alloc (.cells #[.int .i64 0,.int .i64 0,.int .i64 0,.int .i64 0,.int .i64 0,.int .i64 0,.string ⟨#[]⟩,.string ⟨#[]⟩,.int .i64 0,.int .i64 0,.bool false,.int .i64 0,.int .i64 0] 137)).alloc (.cells #[.int .i64 id,.int .i64 bits,.int .i64 1,.int .i64 0,.int .i64 0,.int .i64 0,.string ⟨#[]⟩,.string ⟨#[]⟩,.int .i64 0,.int .i64 0,.bool false,.int .i64 0,.int .i64 0] 137)) (.cells #[.string (ah s),.bool false] 215);simpa [cB,Di]using this};{exact(((bj.alloc aB _).alloc ak _).alloc aX _).alloc aX _}
theorem NQ(id bits:Int)(m:ai)(w:World)(hm:12<=m.length)(hl:m.length<=1000000000)
  {ls:List ai} {k' c':Nat} {s1 s2 s3:ai} {nK o6 kB:Bool} (e1:pS (m.drop 12) false=(ls,s1,nK)) (e2:cZ s1 nK=(k',s2,o6)) (e3:cZ s2 o6=(c',s3,kB)) :
  aF 72 #[.agg #[aq id,aq bits,aq 1,aq 0,aq 0,aq 0],.string (ah m)] w fun e w' =>
   e=.returned (.tuple #[dK id bits 1 0 0 0 ((m.drop 12).take ((m.drop 12).length - s3.length)) (cJ ls) k' c' false 0 0,.bool (!kB && s3.isEmpty)])/\aw w w':=by
 have hs:(ah m).size=m.length:=dt m;have HD:=ag (M0 m 12 _ rfl);have kq:∀W:World,(Op.equalIn 10000 131 (.agg #[aq 1,aq 0,aq 0,aq 0]) (.agg #[aq 1,aq 0,aq 0,aq 0])).run prog W=.ok true W:=aee;have AR:=ag e1;have lj:=ag e2;have su:=ag e3;clear e1 e2 e3;obtain⟨AU,F3,jL,hb0⟩:=aef w id bits (m.drop 12);have HC:=ag (Uw (w.heap.size+1+1) (w.heap.size+1+1+1) (m.drop 12) false (Di w id bits (m.drop 12)) AU jL ae aX (af AR) (af lj) (af su));have tZ:=ag F3;have ey:=ag hb0;clear AU F3 jL hb0;go_enter func72,ntmps72;go_wp2_with fail;rw[af HD];refine HC.mono ?_;rintro e w1 ⟨rfl,sD,hr1,jk⟩;have ja:=ag (tZ.kept (jk.block _ tZ.lt ⟨ae,ae⟩));have cM:Hid (aw w w1):=ey.trans (jk.below (fun i au=>⟨ae,ae⟩) ey.size);have qY:=ag sD;have fN:=ag hr1;clear sD hr1 jk HC tZ ey kq;generalize F4:(m.drop 12).take ((m.drop 12).length - s3.length)=q at *;generalize vF:cJ ls=nm at *;have F5:=ag F4;have AV:=ag vF;clear F4 vF;obtain⟨c0,az,c2,c3,bw,dm,jl,c7,t_,c9,ua,yG,yH⟩:=qY.cells;obtain⟨bI,d1,d2,d3,d4,d5,d6,d7,d8,d9,d10,d11,d12⟩:=ja.cells;have hfz:=ja.frozen;obtain⟨r0,r1⟩:=fN.cells;go_wp2_with fail;clear AR lj su HD hm hl hs qY fN ja;have ret:∀b:Bool,(!kB && s3.isEmpty)=b->Ending.returned (.tuple #[dK id bits 1 0 0 0 q nm k' c' false 0 0,.bool b])=.returned (.tuple #[dK id bits 1 0 0 0 ((m.drop 12).take ((m.drop 12).length - s3.length)) (cJ ls) k' c' false 0 0,.bool (!kB && s3.isEmpty)]):=fun b hb=>by{rw[af F5,af AV,hb]};have AW:=ag ret;clear ret F5 AV;have aW:=ag fun(W:World) (hW:aw w W) (o:Nat) (v:Value)=>hW.setCell (p:=⟨w.heap.size+1,o,none⟩) (by show w.heap.size<=w.heap.size+1;omega) v;cases kB;{
 cases s3 with
 | nil =>{have e1:ah []=⟨#[]⟩:=rfl;rw[e1]at r0;go_region;all_goals(go_wp2;refine df (v:=.tuple #[dK id bits 1 0 0 0 q nm k' c' false 0 0,.bool true]) (by simp[results,results72,go_sem,dK,bI,d1,d2,d3,d4,d5,d6,d7,d8,d9,d10,d11,d12]) rfl ⟨af AW true rfl,?_⟩;first|exact(aW _ (aW _ (aW _ (aW _ (aW _ (aW _ (aW _ (aW _ (aW _ (aW _ (aW _ (aW _ (aW _ cM _ _) _ _) _ _) _ _) _ _) _ _) _ _) _ _) _ _) _ _) _ _) _ _) _ _).drew|exact(aW _ (aW _ (aW _ (aW _ (aW _ (aW _ (aW _ (aW _ (aW _ (aW _ (aW _ (aW _ (aW _ cM.drew _ _) _ _) _ _) _ _) _ _) _ _) _ _) _ _) _ _) _ _) _ _) _ _) _ _))}
 | cons x t =>{
 have e1:((ah (x :: t)).toList == (⟨#[]⟩:ByteArray).toList)=false:=by rw[CT];rfl
 have e2:(ah (x :: t)).toList.isEmpty=false:=by rw[gO];rfl
 have e3:¬(ah (x :: t)).size=0:=by rw[dt];simp
 generalize ah (x :: t)=bt at *;go_region;all_goals(go_wp2;refine df (v:=.tuple #[dK id bits 1 0 0 0 q nm k' c' false 0 0,.bool false]) (by simp[results,results72,go_sem,dK,bI,d1,d2,d3,d4,d5,d6,d7,d8,d9,d10,d11,d12]) rfl ⟨af AW false rfl,?_⟩;first|exact(aW _ (aW _ (aW _ (aW _ (aW _ (aW _ (aW _ (aW _ (aW _ (aW _ (aW _ (aW _ (aW _ cM _ _) _ _) _ _) _ _) _ _) _ _) _ _) _ _) _ _) _ _) _ _) _ _) _ _).drew|exact(aW _ (aW _ (aW _ (aW _ (aW _ (aW _ (aW _ (aW _ (aW _ (aW _ (aW _ (aW _ (aW _ cM.drew _ _) _ _) _ _) _ _) _ _) _ _) _ _) _ _) _ _) _ _) _ _) _ _) _ _))}};{go_region;all_goals(go_wp2;refine df (v:=.tuple #[dK id bits 1 0 0 0 q nm k' c' false 0 0,.bool false]) (by simp[results,results72,go_sem,dK,bI,d1,d2,d3,d4,d5,d6,d7,d8,d9,d10,d11,d12]) rfl ⟨af AW false rfl,?_⟩;first|exact(aW _ (aW _ (aW _ (aW _ (aW _ (aW _ (aW _ (aW _ (aW _ (aW _ (aW _ (aW _ (aW _ cM _ _) _ _) _ _) _ _) _ _) _ _) _ _) _ _) _ _) _ _) _ _) _ _) _ _).drew|exact(aW _ (aW _ (aW _ (aW _ (aW _ (aW _ (aW _ (aW _ (aW _ (aW _ (aW _ (aW _ (aW _ cM.drew _ _) _ _) _ _) _ _) _ _) _ _) _ _) _ _) _ _) _ _) _ _) _ _) _ _))}
def F6(k:Int):Bool:=k != 0 && k != 41 && (decide (k<249) || decide (254<k))
def rf(b rc:Int):Int:=bits .or .i64 (bits .or .i64 32768 (bits .and .i64 b 30976)) (bits .and .i64 rc 15)
theorem UA(i b c0 az c2 c3 rc:Int)(w:World) :
  aF 132 #[.agg #[aq i,aq b,aq c0,aq az,aq c2,aq c3],aq rc] w fun e w' =>
   e=.returned (.agg #[aq i,aq (rf b rc),aq 0,aq 0,aq 0,aq 0])/\aw w w':=by go_enter func132,ntmps132;go_wp2;refine df (v:=.agg #[.int .i64 i,.int .i64 (rf b rc),.int .i64 0,.int .i64 0,.int .i64 0,.int .i64 0]) (by simp[results,results132,go_sem,rf]) rfl ⟨rfl,?_⟩;first|exact(bj.alloc aB _).alloc ak _|exact(((((((((Below.refl _ _).alloc (Nat.le_refl _) _).alloc ak _).setCell (by show w.heap.size<=w.heap.size+1;omega) _).setCell (by show w.heap.size<=w.heap.size+1;omega) _).setCell (by show w.heap.size<=w.heap.size+1;omega) _).setCell (by show w.heap.size<=w.heap.size+1;omega) _).setCell (by show w.heap.size<=w.heap.size+1;omega) _).setCell (by show w.heap.size<=w.heap.size+1;omega) _)
theorem aeg(h0 h1 h2 h3 h4 h5:Int)(q n:ai)(k c sz bM:Int)(w:World) :
  aF 138 #[dK h0 h1 h2 h3 h4 h5 q n k c false sz bM] w (cS (aq 512) w):=by unfold dK;go_enter func138,ntmps138;go_wp2;go_ret;exact⟨rfl,bj.alloc aB _⟩
theorem aeh(h0 h1 h2 h3 h4 h5:Int)(q n:ai)(k c sz bM rc:Int)(w:World) :
  aF 136 #[dK h0 h1 h2 h3 h4 h5 q n k c false sz bM,aq rc] w (cS (.string ⟨#[]⟩) w):=by unfold dK;go_enter func136,ntmps136;go_wp2;go_ret;exact⟨rfl,bj.alloc aB _⟩
section
open Go
def AX:Value->Nat
 | .slice _ n _=>n
 | _=>0
structure fR(w w':World)(t:TypeId)(sz:Nat)(v v':Value):Prop where
 row:∀(i:Nat) (cur:Array Value),w.heap[i]? = some (.cells cur t (0,0))->∃cur',w'.heap[i]? = some (.cells cur' t (0,0))/\cur'.size=cur.size/\∀j,(v.ownBlock=some i->j<AX v*sz)->cur'[j]? = cur[j]?
 own:∀g,v'.ownBlock=some g->(v.ownBlock=some g/\AX v<=AX v')\/w.heap.size<=g
section
variable {w w' w1:World} {t:TypeId} {sz:Nat} {v v' v1:Value}
theorem fR.same(v:Value)(sz:Nat)(h:∀(i:Nat) (cur:Array Value),w.heap[i]? = some (.cells cur t (0,0))->w'.heap[i]? = w.heap[i]?):fR w w' t sz v v :=
 ⟨fun i cur hc=>⟨cur,(h i cur hc).trans hc,rfl,fun _ _=>rfl⟩,fun _ hg=>.inl ⟨hg,aL _⟩⟩
theorem fR.refl(w:World)(t:TypeId)(sz:Nat)(v:Value):fR w w t sz v v:=fR.same v sz fun _ _ _=>rfl
theorem fR.trans(h:fR w w1 t sz v v1)(k:fR w1 w' t sz v1 v')(hs:w.heap.size<=w1.heap.size):fR w w' t sz v v':=by refine⟨fun i cur hc=>?_,fun g hg=>?_⟩;{obtain⟨az,h1,h2,h3⟩:=h.row i cur hc;obtain⟨c2,k1,k2,k3⟩:=k.row i az h1;have au:=(di.1 hc).1;refine⟨c2,k1,k2.trans h2,fun j hj=>(k3 j fun e=>?_).trans (h3 j hj)⟩;rcases h.own i e with⟨a,b⟩|a;{exact eQ (hj a) (Ab _ b)};{omega}};{rcases k.own g hg with⟨a,b⟩|a;{rcases h.own g a with⟨c,d⟩|c;{exact .inl ⟨c,a_ d b⟩};{exact .inr c}};{exact .inr (a_ hs a)}}
theorem fR.UB(h:fR w w' t sz v v'){base n:Nat}{xs:List Value}(ho:w.ownsRow base t sz v n xs):w'.ownsRow base t sz v n xs:=by refine⟨ho.1,?_⟩;rcases ho.2 with hn|⟨g,cap,cur,rfl,hb,hg,h1,h2,h3,h4⟩;{exact .inl hn};{obtain⟨cur',k1,k2,k3⟩:=h.row g cur hg;refine .inr ⟨g,cap,cur',rfl,hb,k1,h1,h2,k2.trans h3,?_⟩;rw[<- h4];apply List.ext_getElem?;intro j;rw[wM,wM];split;{rename_i hj;have:=k3 j fun _=>hj;simpa using this};{rfl}}
end
theorem aei{w:World}{o:Obj}{i:Nat}(au:i<w.heap.size):(w.drew.alloc o).heap[i]? = w.heap[i]?:=bV w.drew o i au
theorem JB{w:World}{t:TypeId}{sz:Nat}{v v':Value}(o:Obj)(hv:v'.ownBlock=some w.heap.size):fR w (w.drew.alloc o) t sz v v' :=
 ⟨fun i cur hc=>⟨cur,(aei (di.1 hc).1).trans hc,rfl,fun _ _=>rfl⟩,fun g hg=>.inr (by rw[hv]at hg;cases hg;exact aL _)⟩
theorem UC{w:World}{t:TypeId}{sz g n k cap:Nat}{cur:Array Value}{news:List Value}(hg:w.heap[g]? = some (.cells cur t (0,0)))(lT:n*sz+news.length<=cur.size)(hk:n<=k) :
  fR w (w.setRow g (cur.toList.take (n*sz)++news++cur.toList.drop (n*sz+news.length)).toArray) t sz (aU g 0 n cap) (aU g 0 k cap):=by
 refine⟨fun i c hc=>?_,fun g' mq=>.inl ⟨mq,hk⟩⟩;by_cases e:i=g;{
 subst e;rw[hg]at hc;obtain rfl:cur=c:=by simpa using hc
 refine⟨_,setRow_heap w i cur _ t _ hg,aX,fun j hj=>?_⟩;have hj':j<n*sz:=hj rfl;rw[Su,g_,CJ aX,wM,aP hj'];simp};{exact⟨c,(setRow_other w g i _ e).trans hc,rfl,fun _ _=>rfl⟩}
section
variable {P:Program} (w:World)
theorem aej(base:Nat)(t ty e:TypeId)(i:TypeInfo)(z:Value)(size xi:Nat)(ht:P.underlying t=some (.slice e))(au:P.info? e=some i)(hz:i.zero=some z)
  (hsize:i.size=size) (hby:i.bytes=xi) (hsz:0<size)
  (v:Value) (n:Nat) (xs:List Value) (hown:w.ownsRow base e size v n xs)
  (a:Addr) (m c:Nat) (news:List Value) (hl:news.length=m*size) (hnews:∀j u,news[j]? = some u->w.cell? (a.add j)=some u) (h1:∀u∈news,u.oneCell'=true)
  (h63:n+m<=maxLen) (hbytes:(n+m)*xi<=140737488355328) (v':Value) (w':World) (hr:(Builtin.append_ #[t,t] ty #[v,.slice (some a) m c]).run P w=.ok v' w') (hm:0<m):fR w w' e size v v':=by
 subst hsize;subst hby;have aek:n+m<=9223372036854775807:=by simp only[maxLen]at h63;omega
 rcases hown.2 with⟨rfl,rfl⟩|⟨g,cap,cur,rfl,hbg,hg,NR,hcm,hcs,rZ⟩;{have q:=run_append_nil (P:=P) w t ty e i z ht au hz a m c news hl hnews hm ae (by simp only[kR]at hbytes;omega);rw[q]at hr;cases hr;exact JB _ rfl};{
 by_cases hroom:n+m<=cap;{
 have lT:n*i.size+news.length<=cur.size:=by rw[hl,hcs,<- IV];exact Ab _ hroom
 have q:=run_append_room (P:=P) w t ty e i ht au g n cap cur hg a m c news hl hnews h1 hroom lT;rw[q]at hr;cases hr;exact UC hg lT ae};{have holds:=hown.cells (g:=g) rfl;have q:=run_append_grow (P:=P) w t ty e i z ht au hz (ar g 0) n cap xs hown.1 holds a m c news hl hnews ae ae (growslice_fits ae hbytes);rw[q]at hr;cases hr;exact JB _ rfl}}
theorem ael(base:Nat)(t u ty e:TypeId)(i:TypeInfo)(ht:P.underlying t=some (.slice e))(hu:P.underlying u=some .string)(au:P.info? e=some i)(hz:i.zero=some (.int .u8 0))
  (hsize:i.size=1) (hby:i.bytes=1) (v:Value) (n:Nat) (xs:List Value) (hown:w.ownsRow base e 1 v n xs) (s:ByteArray)
  (h63:n+s.size<=maxLen) (hbytes:n+s.size<=140737488355328) (v':Value) (w':World) (hr:(Builtin.append_ #[t,u] ty #[v,.string s]).run P w=.ok v' w'):fR w w' e 1 v v':=by
 have aek:n+s.size<=9223372036854775807:=by simp only[maxLen]at h63;omega
 have lR:xs.length=n:=by simpa using hown.1
 rcases hown.2 with⟨rfl,rfl⟩|⟨g,cap,cur,rfl,hbg,hg,NR,hcm,hcs,rZ⟩;{by_cases hm:s.size=0;{have hf:=Lib.run_firstCells_string (P:=P) w 1 s;rw[hm]at hf;have q:(Builtin.append_ #[t,u] ty #[bK,.string s]).run P w=.ok (bK) w:=by{simp[Builtin.append_,Mq ht,Mq hu,sizeOf,typeInfo,au,hsize,Builtin.lenOf,hm,hf]};rw[q]at hr;cases hr;exact fR.refl _ _ _ _};{have q:=run_append_nil_string (P:=P) w t u ty e i (.int .u8 0) ht hu au hz s ae ae (by rw[hby];omega);rw[q]at hr;cases hr;exact JB _ rfl}};{
 have aqb:cur.size=cap:=by simpa using hcs
 by_cases hroom:n+s.size<=cap;{have q:=Lib.run_append_room_string (P:=P) w t u ty e i ht hu au hsize g n cap cur hg s hroom ae;rw[q]at hr;cases hr;have:=UC (sz:=1) (n:=n) (k:=n+s.size) (cap:=cap) (news:=Lib.strCells s) hg (by rw[Lib.strCells_length];omega) ae;rw[Ac,Lib.strCells_length]at this;exact this};{have holds:=hown.cells (g:=g) rfl;have q:=Lib.run_append_grow_string (P:=P) w t u ty e i (.int .u8 0) ht hu au hz (ar g 0) n cap xs (by rw[hsize];simpa using lR) holds s ae ae (by rw[hby];exact growslice_fits ae ae);rw[q]at hr;cases hr;exact JB _ rfl}}
theorem UD{ops:Array Oper}{rest:List Oper}{o:Oper}{a:Act}{Q:Exit->Act->World->Prop}(hgd:o.guard=none)(s x:Operand)(t:TypeId)
  (ho:o.op=.call { callee:=.builtin .append,args:=#[s,x],argTypes:=#[t,t] })
  (base:Nat) (e:TypeId) (i:TypeInfo) (z:Value) (size xi:Nat) (ht:P.underlying t=some (.slice e)) (au:P.info? e=some i) (hz:i.zero=some z)
  (hsize:i.size=size) (hby:i.bytes=xi) (hzs:z.cells.size=size) (hsz:0<size)
  (v:Value) (n:Nat) (xs:List Value) (hs:a.eval s=v) (hown:w.ownsRow base e size v n xs)
  (ad:Addr) (m c:Nat) (news:List Value) (hm:0<m) (hx:a.eval x=.slice (some ad) m c) (hl:news.length=m*size) (hnews:∀j u,news[j]? = some u->w.cell? (ad.add j)=some u) (h1:∀u∈news,u.oneCell'=true)
  (h63:n+m<=maxLen) (hbytes:(n+m)*xi<=140737488355328) (hbase:base<=w.heap.size)
  (h:∀v' w',w'.ownsRow base e size v' (n+m) (xs++news)->w.grownBy w' v.ownBlock->fR w w' e size v v'->(v'.ownBlock=v.ownBlock\/v'.ownBlock=some w.heap.size)->wpList P ops Q rest (a.put o.dst v') w') :
  wpList P ops Q (o :: rest) a w:=by refine wpList_plain hgd fun K hK=>?_;obtain⟨v',w',hr,h2,h3,_,h5⟩:=run_append_own_at (P:=P) w base t o.type e i z size xi ht au hz hsize hby hzs hsz v n xs hown ad m c news hl hnews h1 h63 hbytes hbase;have h4:=aej (P:=P) w base t o.type e i z size xi ht au hz hsize hby hsz v n xs hown ad m c news hl hnews h1 h63 hbytes v' w' hr hm;unfold Oper.wp execOp;simp only[ho,resolve,invoke,builtin,Sem.run_bind,Iw,CG,IJ,og,ye,hs,hx,hr];exact hK _ _ (h v' w' h2 h3 h4 h5)
theorem aem{ops:Array Oper}{rest:List Oper}{o:Oper}{a:Act}{Q:Exit->Act->World->Prop}(hgd:o.guard=none)(sl x:Operand)(t u:TypeId)
  (ho:o.op=.call { callee:=.builtin .append,args:=#[sl,x],argTypes:=#[t,u] })
  (base:Nat) (e:TypeId) (i:TypeInfo) (ht:P.underlying t=some (.slice e)) (hu:P.underlying u=some .string) (au:P.info? e=some i) (hz:i.zero=some (.int .u8 0))
  (hsize:i.size=1) (hby:i.bytes=1)
  (v:Value) (n:Nat) (xs:List Value) (hs:a.eval sl=v) (hown:w.ownsRow base e 1 v n xs) (s:ByteArray) (hx:a.eval x=.string s)
  (h63:n+s.size<=maxLen) (hbytes:n+s.size<=140737488355328) (hbase:base<=w.heap.size)
  (h:∀v' w',w'.ownsRow base e 1 v' (n+s.size) (xs++Lib.strCells s)->w.grownBy w' v.ownBlock->fR w w' e 1 v v'->wpList P ops Q rest (a.put o.dst v') w'):wpList P ops Q (o :: rest) a w:=by refine wpList_plain hgd fun K hK=>?_;obtain⟨v',w',hr,h2,h3,_⟩:=Lib.run_append_own_string (P:=P) w base t u o.type e i ht hu au hz hsize hby v n xs hown s h63 hbytes hbase;have h4:=ael (P:=P) w base t u o.type e i ht hu au hz hsize hby v n xs hown s h63 hbytes v' w' hr;unfold Oper.wp execOp;simp only[ho,resolve,invoke,builtin,Sem.run_bind,Iw,CG,IJ,og,ye,hs,hx,hr];exact hK _ _ (h v' w' h2 h3 h4)
end
end
def cG(w:World)(b:Nat)(vb vp:Value):Prop:=w.heap[b]? = some (.cells #[vb,vp] 283)
section
variable {w:World} {b:Nat} {vb vp:Value}
theorem cG.lt(h:cG w b vb vp):b<w.heap.size:=(di.1 h).1
theorem cG.cells(h:cG w b vb vp):w.cell? (ar b 0)=some vb/\w.cell? (ar b 1)=some vp:=by unfold cG at h;constructor <;> simp[World.cell?,h]
theorem cG.frozen(h:cG w b vb vp)(i:Nat):w.frozen? (ar b i)=false:=by unfold cG at h;simp[World.frozen?,h]
theorem cG.set0(h:cG w b vb vp)(v:Value):cG (w.setCell ⟨b,0,none⟩ v) b v vp:=by unfold cG at *; simp only[World.setCell];rw[iq,aP rfl,h];rfl
theorem cG.set1(h:cG w b vb vp)(v:Value):cG (w.setCell ⟨b,1,none⟩ v) b vb v:=by unfold cG at *; simp only[World.setCell];rw[iq,aP rfl,h];rfl
theorem cG.kept{w':World}(h:cG w b vb vp)(hb:w'.heap[b]? = w.heap[b]?):cG w' b vb vp:=hb.trans h
end
theorem yI{w:World}{mb:Nat}{vb vp:Value}{t:TypeId}(hm:cG w mb vb vp)(ht:t≠283)(o:Nat)(u v:Value)(sz:Nat):fR w (w.setCell ⟨mb,o,none⟩ u) t sz v v :=
 fR.same v sz fun i cur hc=>bf _ _ _ _ fun e=>by
  have e':i=mb:=e;rw[e',hm]at hc;simp at hc;exact ht hc.2.symm
theorem UE(w:World)(o:Obj)(t:TypeId)(sz:Nat)(v:Value):fR w (w.alloc o) t sz v v :=
 fR.same v sz fun _ _ hc=>bV _ _ _ (di.1 hc).1
def d_(w:World)(base:Nat)(v:Value)(l:ai):Prop:=w.ownsRow base 5 1 v l.length (l.map fun c=>.int .u8 c.toNat)
theorem F7:(prog.info? 5).map (fun i=>(i.zero,i.size,i.bytes))=some (some (.int .u8 0),1,1):=aK
theorem AY:prog.underlying 58=some (.slice 5):=aK
theorem jm{w:World}{base d:Nat}{t:TypeId}{sz n:Nat}{v:Value}{xs:List Value}(h:w.ownsRow base t sz v n xs)(aD:some d≠v.ownBlock)(o:Nat)(u:Value):(w.setCell ⟨d,o,none⟩ u).ownsRow base t sz v n xs:=by obtain⟨h1,h2⟩:=h;refine⟨h1,?_⟩;rcases h2 with h2|⟨g,cap,cur,rfl,hb,bp,hr⟩;{exact .inl h2};{exact .inr ⟨g,cap,cur,rfl,hb,(bf _ _ _ _ (by show g≠d;intro e;subst e;exact aD rfl)).trans bp,hr⟩}
theorem F8{w:World}{mb base:Nat}{vb vp v:Value}{l:ai}(hm:cG w mb vb vp)(ho:d_ w base v l):some mb≠v.ownBlock:=fun e=>by
 obtain⟨_,⟨rfl,_⟩|⟨g,cap,cur,rfl,_,bp,_⟩⟩:=ho
 ·simp[Value.ownBlock]at e
 ·simp only[Value.ownBlock,pL]at e;subst e;rw[hm]at bp;simp at bp
theorem oy{w:World}{base:Nat}{t:TypeId}{sz n:Nat}{v:Value}{xs:List Value}(h:w.ownsRow base t sz v n xs):∃a m c,v=.slice a m c:=by obtain⟨_,⟨rfl,_⟩|⟨g,cap,cur,rfl,_⟩⟩:=h;{exact⟨_,_,_,rfl⟩};{exact⟨_,_,_,rfl⟩}
theorem aen(mb base:Nat)(c:UInt8)(vb vp:Value)(l:ai)(w:World)(hm:cG w mb vb vp)(ho:d_ w base vb l)(bL:base<=w.heap.size)(hl:l.length<=1000000) :
  aF 341 #[.int .u8 c.toNat,aO mb] w fun e w' =>
   e=.returned (.tuple #[])/\∃cE,cG w' mb cE vp/\d_ w' base cE (l++[c])/\(cE.ownBlock=vb.ownBlock\/∃g,cE.ownBlock=some g/\w.heap.size<=g)/\fR w w' 5 1 vb cE/\bh (fun i=>i≠mb/\some i≠vb.ownBlock) w w':=by
 obtain⟨i0,au,hz0,hz1,hz2⟩:=kS F7;have hc0:=hm.cells.1;have bA:=ag hm;have HO:=ag ho;have hlt:=hm.lt;clear hm ho;go_enter func341,ntmps341;go_wp2_with (at_builtin;go_loud (refine UD _ rfl (.tmp 8) (.tmp 10) 58 rfl base 5 i0 (.int .u8 0) 1 1 AY au hz0 hz1 hz2 rfl aC _ l.length _ rfl (HO.alloc _) (ar w.heap.size 0) 1 1 [.int .u8 c.toNat] aC rfl rfl ?az ?c2 ?c3 ?bw ?dm ?_))
 case az =>
  intro j u hj
  match j,hj with
  | 0,hj=>simp at hj;subst hj;simp[Addr.add]
  | n+1,hj=>simp at hj
 case c2=>intro u hu;simp at hu;subst hu;rfl
 case c3=>unfold maxLen;omega
 case bw=>omega
 case dm=>simp;omega
 intro v' w3 hown' hgrow yJ hat;obtain⟨va,vn,vc,rfl⟩:=oy hown';have eV:Hid (d_ w3 base (.slice va vn vc) (l++[c])):=by
  unfold Hid d_;rw[bU,n_];exact hown'
 have hblk:∀i,i<w.heap.size->some i≠vb.ownBlock->w3.heap[i]? = w.heap[i]?:=fun i au hne =>
  (hgrow.block i aX hne).trans (bV _ _ _ au)
 have hne:some mb≠vb.ownBlock:=F8 (af bA) (af HO);have eN:=ag (bA.kept (hblk mb hlt hne));have fY:Hid (bh (fun i=>i≠mb/\some i≠vb.ownBlock) w w3) :=
  ⟨hgrow.os,hgrow.tape,hgrow.output,a_ ak hgrow.size,fun i au hp=>hblk i au hp.2⟩
 have dV:Hid ((Value.slice va vn vc).ownBlock=vb.ownBlock\/∃g,(Value.slice va vn vc).ownBlock=some g/\w.heap.size<=g):=by
  rcases hat with h|h
  ·exact .inl h
  ·exact .inr ⟨_,h,ak⟩
 have aeo:Hid (fR w w3 5 1 vb (.slice va vn vc)):=(UE w _ _ _ _).trans yJ ak;have hfz:=eN.frozen;have hc:=eN.cells.1;clear hown' hgrow yJ hat hblk hne bA HO;go_wp2_with fail;refine fy (v:=.tuple #[]) (by simp[results,results341]) rfl ?_;refine⟨rfl,_,eN.set0 _,?_,dV,aeo.trans (yI (af eN) aC _ _ _ _) fY.size,fY.trans (bh.gF _ fun i h=>h.1)⟩;exact jm (af eV) (F8 (af eN) (af eV)) _ _
def iC(mb:Nat)(w w':World):Prop:=∀vb vp,cG w mb vb vp->∃cE cC,cG w' mb cE cC/\fR w w' 5 1 vb cE/\fR w w' 343 2 vp cC
theorem iC.of{mb:Nat}{w w':World}{vb vp cE cC:Value}(hm:cG w mb vb vp)(my:cG w' mb cE cC)(h1:fR w w' 5 1 vb cE)(h2:fR w w' 343 2 vp cC):iC mb w w':=fun xb xp hx=>by
 unfold cG at hm hx;rw[hm]at hx;obtain⟨rfl,rfl⟩:vb=xb/\vp=xp:=by simpa using hx
 exact⟨_,_,my,h1,h2⟩
theorem iC.trans{mb:Nat}{w w1 w':World}(h:iC mb w w1)(k:iC mb w1 w')(hs:w.heap.size<=w1.heap.size):iC mb w w':=fun vb vp hm=>by
 obtain⟨b1,p1,m1,x1,y1⟩:=h vb vp hm;obtain⟨b2,gB,m2,x2,y2⟩:=k b1 p1 m1;exact⟨b2,gB,m2,x1.trans x2 hs,y1.trans y2 hs⟩
theorem iC.same{mb:Nat}{w w1 w':World}(h:iC mb w w1)(hb:∀i,i<w.heap.size->w'.heap[i]? = w1.heap[i]?):iC mb w w':=fun vb vp hm=>by
 obtain⟨b1,p1,m1,x1,y1⟩:=h vb vp hm;have hlt:=hm.lt;refine⟨b1,p1,m1.kept (hb mb hlt),⟨fun i cur hc=>?_,x1.own⟩,⟨fun i cur hc=>?_,y1.own⟩⟩
 ·obtain⟨c,k1,k2⟩:=x1.row i cur hc;exact⟨c,(hb i (di.1 hc).1).trans k1,k2⟩
 ·obtain⟨c,k1,k2⟩:=y1.row i cur hc;exact⟨c,(hb i (di.1 hc).1).trans k1,k2⟩
theorem iC.refl(mb:Nat)(w:World):iC mb w w:=fun vb vp hm=>⟨vb,vp,hm,fR.refl _ _ _ _,fR.refl _ _ _ _⟩
theorem iC.below{mb:Nat}{w w':World}(h:aw w w'):iC mb w w':=(iC.refl mb w).same fun i au=>h.block i au
theorem iC.aep{mb:Nat}{w w1:World}{vb vp v1 p1:Value}(h:iC mb w w1)(hm:cG w mb vb vp)(hm1:cG w1 mb v1 p1){g k:Nat}(hg:v1.ownBlock=some g)(hk:AX vb<=k){cur:Array Value}(bp:w1.heap[g]? = some (.cells cur 5 (0,0)))(u:Value):iC mb w (w1.setCell ⟨g,k,none⟩ u):=by
 obtain⟨b1,q1,m1,x1,y1⟩:=h vb vp hm;obtain⟨rfl,rfl⟩:b1=v1/\q1=p1:=by{unfold cG at m1 hm1;rw[m1]at hm1;simpa using hm1};have hne:∀i,i≠g->(w1.setCell ⟨g,k,none⟩ u).heap[i]? = w1.heap[i]?:=fun i au=>bf _ _ _ _ au;have aeq:mb≠g:=fun e=>by rw[<- e,m1]at bp;simp at bp
 refine iC.of hm (m1.kept (hne mb aeq)) ⟨fun i c hc=>?_,x1.own⟩ ⟨fun i c hc=>?_,y1.own⟩;{obtain⟨c',k1,k2,k3⟩:=x1.row i c hc;by_cases e:i=g;{subst e;refine⟨c'.setIfInBounds k u,?_,by simpa using k2,fun j hj=>?_⟩;{simp only[World.setCell];rw[iq,aP rfl,k1];rfl};{have hjk:k≠j:=fun e'=>by{rcases x1.own i hg with⟨a,b⟩|a;{have:=hj a;omega};{have:=(di.1 hc).1;omega}};rw[Sa hjk];exact k3 j hj}};{exact⟨c',(hne i e).trans k1,k2,k3⟩}};{obtain⟨c',k1,k2,k3⟩:=y1.row i c hc;refine⟨c',(hne i fun e=>?_).trans k1,k2,k3⟩;rw[e,bp]at k1;simp at k1}
structure NS(mb base:Nat)(w w':World):Prop where
 os:w'.os=w.os
 tape:w'.tape=w.tape
 output:w'.output=w.output
 size:w.heap.size<=w'.heap.size
 block:∀i,i<w.heap.size->i≠mb->(i<base\/∀cur,w.heap[i]?≠some (.cells cur 5 (0,0)))->w'.heap[i]? = w.heap[i]?
structure jb(mb base:Nat)(w w':World):Prop where
 os:w'.os=w.os
 tape:w'.tape=w.tape
 output:w'.output=w.output
 size:w.heap.size<=w'.heap.size
 block:∀i,i<w.heap.size->i≠mb->(i<base\/∀cur,w.heap[i]?≠some (.cells cur 5 (0,0)))->w'.heap[i]? = w.heap[i]?
 kp:iC mb w w'
theorem jb.refl(mb base:Nat)(w:World):jb mb base w w:=⟨rfl,rfl,rfl,aL _,fun _ _ _ _=>rfl,iC.refl _ _⟩
theorem jb.trans{mb base:Nat}{A B C:World}(h:jb mb base A B)(k:jb mb base B C):jb mb base A C :=
 ⟨k.os.trans h.os,k.tape.trans h.tape,k.output.trans h.output,a_ h.size k.size,fun i au hm hp=>by
  have e:=h.block i au hm hp;refine(k.block i (eQ au h.size) hm ?_).trans e;rw[e];exact hp,h.kp.trans k.kp h.size⟩
theorem jb.NT{mb base:Nat}{A B:World}(h:aw A B):jb mb base A B:=⟨h.os,h.tape,h.output,h.size,fun i au _ _=>h.block i au,iC.below h⟩
theorem jb.UF{mb base:Nat}{A B:World}{v:Value}{l:ai}(ho:d_ A base v l)(h:bh (fun i=>i≠mb/\some i≠v.ownBlock) A B){vp v':Value}(hm:cG A mb v vp)(my:cG B mb v' vp)(hs:fR A B 5 1 v v'):jb mb base A B :=
 ⟨h.os,h.tape,h.output,h.size,fun i au hm hp=>h.block i au ⟨hm,fun e=>by
  obtain⟨_,⟨rfl,_⟩|⟨g,cap,cur,rfl,hb,bp,_⟩⟩:=ho
  ·simp[Value.ownBlock]at e
  ·simp only[Value.ownBlock,pL]at e;subst e;rcases hp with hp|hp
   ·omega
   ·exact hp cur bp⟩,iC.of hm my hs (fR.same _ _ fun i cur hc=>h.block i (di.1 hc).1 ⟨fun e=>by rw[e,hm]at hc;simp at hc,fun e=>by
  obtain⟨_,⟨rfl,_⟩|⟨g,cap,cur',rfl,hb,bp,_⟩⟩:=ho
  ·simp[Value.ownBlock]at e
  ·simp only[Value.ownBlock,pL]at e;subst e;rw[bp]at hc;simp at hc⟩)⟩
theorem aer(mb base:Nat)(c:UInt8)(vb vp:Value)(l:ai)(w:World)(hm:cG w mb vb vp)(ho:d_ w base vb l)(bL:base<=w.heap.size)(hl:l.length<=1000000) :
  aF 341 #[.int .u8 c.toNat,aO mb] w fun e w' =>
   e=.returned (.tuple #[])/\(∃cE,cG w' mb cE vp/\d_ w' base cE (l++[c]))/\jb mb base w w':=by refine(aen mb base c vb vp l w hm ho bL hl).mono ?_;rintro e w' ⟨rfl,cE,h1,h2,_,h3,h4⟩;exact⟨rfl,⟨cE,h1,h2⟩,jb.UF ho h4 hm h1 h3⟩
theorem aes(mb base:Nat)(s:ai)(vb vp:Value)(l:ai)(w:World)(hm:cG w mb vb vp)(ho:d_ w base vb l)(bL:base<=w.heap.size)(hl:l.length<=1000000)(hs:s.length<=1000000000) :
  aF 336 #[aA s,aO mb] w fun e w' =>
   e=.returned (.tuple #[])/\(∃cE,cG w' mb cE vp/\d_ w' base cE (l++s))/\jb mb base w w':=by
 obtain⟨i0,au,hz0,hz1,hz2⟩:=kS F7;have hc0:=hm.cells.1;have bA:=ag hm;have HO:=ag ho;have hlt:=hm.lt;have hsz:(ah s).size=s.length:=dt s;have HU:Hid (prog.underlying 224=some .string):=by unfold Hid;kernel_rfl
 clear hm ho;go_enter func336,ntmps336;go_wp2_with (at_builtin;go_loud (refine aem _ rfl (.tmp 8) (.tmp 9) 58 224 rfl base 5 i0 AY (af HU) au hz0 hz1 hz2 _ l.length _ rfl (af HO) (ah s) rfl ?c3 ?bw bL ?_));case c3=>unfold maxLen;omega
 case bw=>omega
 intro v' w3 hown' hgrow yJ;obtain⟨va,vn,vc,rfl⟩:=oy hown';have eV:Hid (d_ w3 base (.slice va vn vc) (l++s)):=by{unfold Hid d_;rw[bU,n_,<- hsz];exact hown'};have hne:some mb≠vb.ownBlock:=F8 (af bA) (af HO);have eN:=ag (bA.kept (hgrow.block mb hlt hne));have fY:Hid (jb mb base w (w3.setCell ⟨mb,0,none⟩ (.slice va vn vc))):=jb.UF (af HO) (bh.trans ⟨hgrow.os,hgrow.tape,hgrow.output,hgrow.size,fun i au hp=>hgrow.block i au hp.2⟩ (bh.gF _ fun i h=>h.1)) (af bA) (eN.set0 _) (yJ.trans (yI (af eN) aC _ _ _ _) hgrow.size);have hfz:=eN.frozen;have hc:=eN.cells.1;clear hown' hgrow yJ hne bA HO;go_wp2_with fail;refine fy (v:=.tuple #[]) (by simp[results,results336]) rfl ?_;refine⟨rfl,⟨_,eN.set0 _,jm (af eV) (F8 (af eN) (af eV)) _ _⟩,fY⟩
def NU(fn:FuncId)(x:Value)(out:ai):Prop:=∀(mb base:Nat) (vb vp:Value) (l:ai) (w:World),cG w mb vb vp->d_ w base vb l->base<=w.heap.size->l.length+out.length<=1000000 ->
 aF fn #[x,aO mb] w fun e w'=>e=.returned (.tuple #[])/\(∃cE,cG w' mb cE vp/\d_ w' base cE (l++out))/\jb mb base w w'
structure iD where
 t:TypeId
 x:Value
 fn:FuncId
 out:ai
def iD.nL (f : iD) : Prop := (∀ W : World, (method 521 f.t f.x "beacon/wire.writeTo").run prog W = .ok (f.fn, f.x) W) ∧ (∀ (args : Array Value) (W : World), (callFunc f.fn args).run prog W = .ok (.enter f.fn args) W) ∧ NU f.fn f.x f.out
def bY(fs:List iD):ai:=fs.flatMap (·.out)
theorem UG(fs:List iD)(k:Nat)(h:k<fs.length):bY (fs.take (k+1))=bY (fs.take k)++fs[k].out:=by rw[bY,kQ h,zY];simp[bY]
theorem aet(fs:List iD)(k:Nat):(bY (fs.take k)).length<=(bY fs).length:=by
 have:bY fs=bY (fs.take k)++bY (fs.drop k):=by rw[bY,bY,bY,<- zY,jH]
 rw[this];simp
theorem F9(mb base g cap:Nat)(fs:List iD)(vb vp:Value)(l:ai)(w:World)(hm:cG w mb vb vp)(ho:d_ w base vb l)(bL:base<=w.heap.size)
  (bE:∀f∈fs,f.nL) (hlt:g<w.heap.size) (ub:g≠mb) (AZ:g<base\/∀cur,w.heap[g]?≠some (.cells cur 5 (0,0))) (oX:∀j (h:j<fs.length),w.cell? (ar g j)=some (.iface fs[j].t fs[j].x))
  (hn:fs.length<=cap) (hc:fs.length<=1000000) (hl:l.length+(bY fs).length<=1000000) :
  aF 139 #[aO mb,aU g 0 fs.length cap] w fun e w' =>
   e=.returned (.tuple #[])/\(∃cE,cG w' mb cE vp/\d_ w' base cE (l++bY fs))/\jb mb base w w':=by
 have bA:=ag hm;have HO:=ag ho;have ew:=ag bE;have HC:=ag oX;have HK:=ag AZ;clear hm ho bE oX AZ;go_enter func139,ntmps139;go_wp2_with fail;go_loopw [8] (fun i wr=>∃(k:Nat) (cE:Value),i=aq k/\k<=fs.length/\cG wr mb cE vp/\d_ wr base cE (l++bY (fs.take k))/\jb mb base w wr) (fun i _=>fs.length - (intOf i).toNat);case atStart=>exact⟨0,vb,rfl,dY _,bA,by simpa [bY]using af HO,jb.refl _ _ _⟩
 case round =>(obtain⟨k,cE,rfl,hk,hm,ho,ht⟩:=hrel;have c4:=ag hm;have ij:=ag ho;have ja:=ag ht;have hsz:=ht.size;clear hm ho ht;by_cases hlk:k<fs.length;{have hcell:wr.cell? (ar g k)=some (.iface fs[k].t fs[k].x):=(dC (w:=w) (ja.block g hlt ub (af HK))).trans (HC k hlk);have xj:=af ew fs[k] (iV hlk);have bu:=ag (UG fs k hlk);have eE:=ag (aet fs (k+1));rw[UG fs k hlk,bU]at eE;generalize fs[k]=f at *;have aeu:=xj.1;have vr:=xj.2.1;have HW:=ag (xj.2.2 mb base cE vp _ wr (af c4) (af ij) ae (by rw[bU];have:=af eE;omega));clear xj;go_wp2_with fail;refine HW.mono ?_;rintro e w2 ⟨rfl,⟨Dj,h1,h2⟩,h3⟩;rw[g_,<- af bu]at h2;have bg:=ag (bQ h1 (bQ h2 (ja.trans h3)));clear h1 h2 h3 HW;go_wp2;exact⟨⟨k+1,Dj,dD,ae,bg.1,bg.2.1,bg.2.2⟩,gN⟩};{have eJ:k=fs.length:=ae;subst eJ;have h9:=af ij;rw[jV]at h9;have eV:=ag h9;clear h9;go_wp2;refine fy (v:=.tuple #[]) (by simp[results,results139]) rfl ?_;exact⟨rfl,⟨cE,c4,eV⟩,ja⟩})
def jN(c:UInt8):iD:=⟨292,.int .u8 c.toNat,341,[c]⟩
def ct(s:ai):iD:=⟨224,aA s,336,s⟩
theorem aev (n : Int) (W : World) : (method 521 292 (.int .u8 n) "beacon/wire.writeTo").run prog W = .ok (341, .int .u8 n) W := by kernel_rfl
theorem aew (s : ByteArray) (W : World) : (method 521 224 (.string s) "beacon/wire.writeTo").run prog W = .ok (336, .string s) W := by kernel_rfl
theorem aex(args:Array Value)(W:World):(callFunc 341 args).run prog W=.ok (.enter 341 args) W:=aK
theorem aey(args:Array Value)(W:World):(callFunc 336 args).run prog W=.ok (.enter 336 args) W:=aK
theorem vG(c:UInt8):(jN c).nL :=
 ⟨aev _,aex,fun mb base vb vp l w hm ho bL hl=>aer mb base c vb vp l w hm ho bL (by simp[jN]at hl;omega)⟩
theorem iO(s:ai):(ct s).nL :=
 ⟨aew _,aey,fun mb base vb vp l w hm ho bL hl=>aes mb base s vb vp l w hm ho bL (by simp[ct]at hl;omega) (by simp[ct]at hl;omega)⟩
def au(n:Nat):UInt8:=UInt8.ofNat (n/256)
def eO(n:Nat):UInt8:=UInt8.ofNat n
def dA(n:Nat):iD:=⟨284,.int .u16 n,337,[au n,eO n]⟩
theorem aez (n : Int) (W : World) : (method 521 284 (.int .u16 n) "beacon/wire.writeTo").run prog W = .ok (337, .int .u16 n) W := by kernel_rfl
theorem aeA(args:Array Value)(W:World):(callFunc 337 args).run prog W=.ok (.enter 337 args) W:=aK
theorem aeB(n:Nat)(hn:n<65536):NU 337 (.int .u16 n) [au n,eO n]:=by
 intro mb base vb vp l w hm ho bL hl;have bA:=ag hm;have HO:=ag ho;have hlt:=hm.lt;clear hm ho;go_enter func337,ntmps337;go_wp2_with fail;have eh:(n:Int)/256=((au n).toNat:Int):=by unfold au;rw[rQ];omega
 have el:(n:Int)%256=((eO n).toNat:Int):=by unfold eO;rw[rQ];omega
 rw[eh,el];have hnew:=World.alloc_heap_new w (.cells #[.iface 292 (.int .u8 (au n).toNat),.iface 292 (.int .u8 (eO n).toNat)] 297);refine(F9 mb base w.heap.size 2 [jN (au n),jN (eO n)] vb vp l _ ((bV _ _ _ hlt).trans bA) (HO.alloc _) aX ?_ ak ae (.inr ?_) ?_ ak ak ?_).mono ?_;{intro f hf;simp at hf;rcases hf with rfl|rfl <;> exact vG _};{intro cur h;rw[hnew]at h;simp at h};{
 intro j hj;match j,hj with
 | 0,_=>unfold World.cell?; rw[hnew];rfl
 | 1,_=>unfold World.cell?; rw[hnew];rfl
 | j+2,hj=>simp at hj;omega};{simp[bY,jN]at hl ⊢; omega};rintro e w2 ⟨rfl,⟨Dj,h1,h2⟩,h3⟩;have bg:Hid ((∃cE,cG w2 mb cE vp/\d_ w2 base cE (l++[au n,eO n]))/\jb mb base w w2) := ⟨⟨Dj,h1,h2⟩,(jb.NT (bj.alloc aB _)).trans h3⟩;clear h1 h2 h3 hnew eh el;go_wp2_with fail;refine fy (v:=.tuple #[]) (by simp[results,results337]) rfl ?_;exact⟨rfl,bg⟩
theorem kC(n:Nat)(hn:n<65536):(dA n).nL:=⟨aez _,aeA,aeB n hn⟩
def ue(n:Nat):iD:=⟨344,.int .u32 n,343,[au (n/65536),eO (n/65536),au (n%65536),eO (n%65536)]⟩
theorem aeC (n : Int) (W : World) : (method 521 344 (.int .u32 n) "beacon/wire.writeTo").run prog W = .ok (343, .int .u32 n) W := by kernel_rfl
theorem aeD(args:Array Value)(W:World):(callFunc 343 args).run prog W=.ok (.enter 343 args) W:=aK
theorem aeE(n:Nat)(hn:n<4294967296):NU 343 (.int .u32 n) [au (n/65536),eO (n/65536),au (n%65536),eO (n%65536)]:=by
 intro mb base vb vp l w hm ho bL hl;have bA:=ag hm;have HO:=ag ho;have hlt:=hm.lt;clear hm ho;go_enter func343,ntmps343;go_wp2_with fail;have eh:(n:Int)/65536=((n/65536:Nat):Int):=ae;have el:IntKind.u16.wrap (n:Int)=((n%65536:Nat):Int):=by rw[IntKind.wrap_u16];omega
 rw[eh,el];have hnew:=World.alloc_heap_new w (.cells #[.iface 284 (.int .u16 (n/65536:Nat)),.iface 284 (.int .u16 (n%65536:Nat))] 297);refine(F9 mb base w.heap.size 2 [dA (n/65536),dA (n%65536)] vb vp l _ ((bV _ _ _ hlt).trans bA) (HO.alloc _) aX ?_ ak ae (.inr ?_) ?_ ak ak ?_).mono ?_;{intro f hf;simp at hf;rcases hf with rfl|rfl <;> exact kC _ ae};{intro cur h;rw[hnew]at h;simp at h};{
 intro j hj;match j,hj with
 | 0,_=>unfold World.cell?; rw[hnew];rfl
 | 1,_=>unfold World.cell?; rw[hnew];rfl
 | j+2,hj=>simp at hj;omega};{simp[bY,dA]at hl ⊢; omega};rintro e w2 ⟨rfl,⟨Dj,h1,h2⟩,h3⟩;have bg:Hid ((∃cE,cG w2 mb cE vp/\d_ w2 base cE (l++[au (n/65536),eO (n/65536),au (n%65536),eO (n%65536)]))/\jb mb base w w2) := ⟨⟨Dj,h1,h2⟩,(jb.NT (bj.alloc aB _)).trans h3⟩;clear h1 h2 h3 hnew eh el;go_wp2_with fail;refine fy (v:=.tuple #[]) (by simp[results,results343]) rfl ?_;exact⟨rfl,bg⟩
theorem Dk(n:Nat)(hn:n<4294967296):(ue n).nL:=⟨aeC _,aeD,aeE n hn⟩
theorem JC{w:World}{base:Nat}{v:Value}{l:ai}(h:d_ w base v l):(convert 58 9 v).run prog w=.ok (aA l) w:=by
 obtain⟨h1,⟨rfl,h2⟩|⟨g,cap,cur,rfl,hb,bp,hn,hm,hs,ht⟩⟩:=h;{obtain rfl:l = []:=gS h2;kernel_rfl};{
 refine SN (P:=prog) w 58 9 5 (ar g 0) cap l underlying58 underlying5 underlying9 fun j hj=>?_;have e:((ar g 0):Addr).add j=(ar g j):=by unfold Addr.add;by_cases h:j=0 <;> simp[h]
 rw[e];have e2:cur.toList[j]? = (l.map fun c=>Value.int .u8 (c.toNat:Int))[j]?:=by{rw[<- ht,wM,aP ae]};simp only[World.cell?,bp];rw[<- Iq,e2];simp[hj]}
theorem NV(g cap:Nat)(fs:List iD)(w:World)(bE:∀f∈fs,f.nL)(hlt:g<w.heap.size)(oX:∀j (h:j<fs.length),w.cell? (ar g j)=some (.iface fs[j].t fs[j].x))
  (hn:fs.length<=cap) (hc:fs.length<=1000000) (hl:(bY fs).length<=1000000) :
  aF 199 #[aU g 0 fs.length cap] w (cS (aA (bY fs)) w):=by have hnew:=World.alloc_heap_new w (.cells #[.slice none 0 0,.slice none 0 0] 283);have bG:=ag (F9 w.heap.size (w.heap.size+1) g cap fs (bK) (bK) [] (w.alloc (.cells #[.slice none 0 0,.slice none 0 0] 283)) hnew (iI _ _ _ _) ak bE aX ae (.inl ae) (fun j hj=>(dC (w:=w) (bV _ _ _ hlt)).trans (oX j hj)) hn hc (by simpa using hl));clear hnew bE oX;go_enter func199,ntmps199;go_wp2_with fail;refine bG.mono ?_;rintro e w2 ⟨rfl,⟨vb,h1,h2⟩,h3⟩;have hc0:=h1.cells.1;have hcv:=JC h2;have aZ:Hid (aw w w2):=(bj.alloc aB _).trans ⟨h3.os,h3.tape,h3.output,h3.size,fun k hk=>h3.block k aX ae (.inl ae)⟩;rw[fF]at hcv;obtain⟨va,vn,vc,rfl⟩:=oy h2;clear h1 h2 h3 bG;go_wp2;go_ret;exact⟨rfl,aZ⟩
section
attribute [local go_sem] Oper.semAt_some
def sF(k:Int)(r:aj):Bool:=r.type != k
def vH(n:ai)(x:Nat×List aj):Bool:=!wU (cO x) && !x.2.any (sF (if cO x == n then 2 else 1))
def rh(rs:List aj)(n:ai):Bool:=(sf n rs).all (vH n)
theorem NW{p:Nat×List aj->Bool}{l:List (Nat×List aj)}{i:Nat}{x:Nat×List aj}(h:l[i]? = some x):(l.drop i).all p=(p x && (l.drop (i+1)).all p):=by obtain⟨au,rfl⟩:=iu.1 h;rw[nA au,zV]
theorem aeF(r:aj)(k:Int)(bk:Nat)(W:World)(hc:W.cell? (ar bk 0)=some (aq k))(hb:bk<W.heap.size) :
  aF 183 #[.agg #[aA r.owner,aq r.aV,aq r.type,aA r.data],aO bk] W (cS (.bool (sF k r)) W):=by go_enter func183,ntmps183;go_wp2;go_ret;exact⟨rfl,bj.alloc aB _⟩
theorem aeG(k:Int)(bk:Nat)(w:World)(hc:w.cell? (ar bk 0)=some (aq k))(hb:bk<w.heap.size) :
  PredBelow prog 183 #[aO bk] (fun x=>.agg (aj.aN x).toArray) (sF k) w:=by intro W r hB;refine(aeF r k bk W ((hB.cell (p:=⟨bk,0,none⟩) hb).trans hc) (eQ hb hB.size)).mono ?_;rintro e w' ⟨rfl,hb'⟩;exact⟨rfl,hB.trans (hb'.mono hB.size)⟩
theorem UH(k:Int)(bk b off cap:Nat)(rs:List aj)(w:World)(hc:w.cell? (ar bk 0)=some (aq k))(hb:bk<w.heap.size)(hr:dz w b off rs)(hl:rs.length<=3001) :
  aF 171 #[aU b off rs.length cap,.func (.func 183) #[] #[aO bk]] w fun e w' =>
   e=.returned (.bool (rs.any (sF k)))/\aw w w':=by have:=AnyQ.slices_ContainsFunc Tryz.Te 4 Tryz.isAgg47 Tryz.sizeOf47 aj.aN (fun _=>rfl) (sF k) 183 #[aO bk] (enters_of func183 aK rfl) b off rs.length cap rs w (aeG k bk w hc hb) aB ae hr.1 hr.2;rw[jV]at this;exact this
theorem aeH{n:ai}{rs:List aj}{i:Nat}{x:Nat×List aj}(kk:Int)(h:Hid (rh rs n=(vH n x && ((sf n rs).drop (i+1)).all (vH n))))(hs:wU (cO x)=false)(ho:(if cO x == n then(2:Int)else 1)=kk) :
  (x.2.any (sF kk)=false->((sf n rs).drop (i+1)).all (vH n)=rh rs n)/\(x.2.any (sF kk)=true->rh rs n=false):=by have h':=af h;have hc:vH n x = !x.2.any (sF kk):=by{unfold vH;rw[hs,ho];rfl};rw[hc]at h';refine⟨fun e=>?_,fun e=>?_⟩;{rw[h',e];rfl};{rw[h',e];rfl}
theorem aeI(b off cap:Nat)(n:ai)(rs:List aj)(w:World)(hr:dz w b off rs)(fw:rs.length<=cap)(hlen:rs.length<=3001)(hn:n.length<=3000)(ho:∀r∈rs,r.owner.length<=3000) :
  aF 111 #[aA n,aU b off rs.length cap] w (cS (.bool (rh rs n)) w):=by
 refine(bR (n:=0)).1 ?_;refine callsIn_of_wp_marks func111 rfl aY ?_;simp only[ntmps111,lK,cU,fV,Nat.reduceAdd,Nat.reduceSub,l_,mf,mh,mg,fF,dX];have aT:=ag hr;have HO:=ag ho;have hb:=hr.1;clear hr ho;gi_wp2_with fail;refine⟨aY,rfl,?_⟩;refine(bR.2 (TF _ _ _ _ _)).mono ?_;rintro e W2 ⟨rfl,e4,hb2,e2,e3⟩;have e0:aM W2 w.heap.size (aA n) 9:=((aM.ke _ _ _).alloc _).below hb2 c5;have e1:aM W2 (w.heap.size+1) (.bool false) 4:=by
  have:=(aM.ke (w.alloc (.cells #[.string (ah n)] 9)) (.bool false) 4).below hb2 c5
  rwa [dI]at this
 have e5:aw w W2:=((bj.alloc aB _).alloc ak _).trans (hb2.mono c5);simp only[dI]at e4 e2 e3;gi_wp2_with fail;have hr2:=ag (aT.below e5);have hgrow:∀r,aw W2 ((W2.alloc (.deferred (some []))).alloc (.loop r)):=fun r=>(bj.alloc aB _).alloc ak _;have Az:∀r,((W2.alloc (.deferred (some []))).alloc (.loop r)).heap.size=W2.heap.size+2:=fun r=>by simp
 refine Ao (xs:=sf n rs) (encs:=fun x:Nat×List aj=>#[aA (cO x),aU b (off+x.1*4) x.2.length x.2.length]) (St:=fun A B=>Below (W2.heap.size+2) A B) (Kp:=fun A B=>(B.heap[b]? = A.heap[b]?/\B.heap[w.heap.size+1+1+1]? = A.heap[w.heap.size+1+1+1]?)/\b_ (W2.heap.size+2) A B) (Kx:=fun A B=>b_ (W2.heap.size+2) A B)
  (gf:=235) (lb:=#[aO (w.heap.size+1+1),aO (w.heap.size+1+1+1)]) rfl (enters_of func235 aK rfl) (fun _=>rfl) ?seq
  [b,w.heap.size+1+1+1] aX (fun _ _ _ h=>h) (fun A B h h'=>⟨⟨h _ ak,h _ ak⟩,h'⟩) (fun _ _ h=>h)
  (fun i W=>((sf n rs).drop i).all (vH n)=rh rs n/\aw w W/\aM W w.heap.size (aA n) 9/\aM W (w.heap.size+1) (.bool false) 4)
  (fun c W=>c=.ret/\rh rs n=false/\aw w W/\aM W (w.heap.size+1) (.bool false) 4)
  (fun i A B h hb=>⟨h.1,h.2.1.trans (hb.mono ae),h.2.2.1.below hb ae,h.2.2.2.below hb ae⟩)
  (fun c A B h hb=>⟨h.1,h.2.1,h.2.2.1.trans (hb.mono ae),h.2.2.2.below hb ae⟩)
  ⟨rfl,e5,e0,e1⟩
  ?round ?done ?stop
 case seq =>
  intro r;have hg:=hgrow r;have:=TH b off cap (w.heap.size+1+1) (w.heap.size+1+1+1) n rs ((W2.alloc (.deferred (some []))).alloc (.loop r)) (hr2.below hg) fw ((hg.cell (p:=⟨w.heap.size+1+1,0,none⟩) (by show w.heap.size+1+1<W2.heap.size;omega)).trans e2) ((hg.cell (p:=⟨w.heap.size+1+1+1,0,none⟩) (by show w.heap.size+1+1+1<W2.heap.size;omega)).trans e3) (by have:=hg.size;omega) (by have:=hg.size;omega) hlen hn (af HO);rw[Az r]at this;exact this
 case round =>
  intro l' i x V W hx hI hsz;gi_wp2_with fail;refine⟨aY,?_⟩;obtain⟨hf,hB,hn',hc⟩:=hI;have cn:=hn'.cell;have hmem:x∈bC dw rs:=(je.1 (qH hx)).1;have bZ:=Ax (aT.below hB) hmem;have hrl:=yw hmem;have hst:=NW (p:=vH n) hx;rw[hf]at hst;have HS:=ag hst;have FK:=ag hn';have kx:=ag hc;have bG:=ag bZ;have h_:((ah (cO x)).toList == (ah n).toList)=(cO x == n):=yu;have NB:=hn'.lt;have qU:=hc.lt;clear hf hst hn' hc hmem bZ;have hcs:=fun W'=>S_ (ah (cO x)) W';have FP:Hid (∀W',aF 124 #[aA (cO x)] W' fun e w'=>e=.returned (.bool (wU (cO x)))/\w'=W'):=hcs;clear hcs
  -- what follows a tested owner,at a world that only has more
  have fq:∀(kk:Int) (W3 W4:World),aw W W3->aw W3 W4->wU (cO x)=false->(if cO x == n then(2:Int)else 1)=kk ->
    Hid ((x.2.any (sF kk)=false->b_ W2.heap.size W W4/\(∀k∈[b,w.heap.size+1+1+1],W4.heap[k]? = W.heap[k]?)/\(((sf n rs).drop (i+1)).all (vH n)=rh rs n/\aw w W4/\aM W4 w.heap.size (aA n) 9/\aM W4 (w.heap.size+1) (.bool false) 4)) /\
     (x.2.any (sF kk)=true->b_ W2.heap.size W (W4.setCell ⟨w.heap.size+1,0,none⟩ (.bool false))/\rh rs n=false/\aw w (W4.setCell ⟨w.heap.size+1,0,none⟩ (.bool false))/\aM (W4.setCell ⟨w.heap.size+1,0,none⟩ (.bool false)) (w.heap.size+1) (.bool false) 4)):=by
   intro kk W3 W4 h3 h4 oz ho;have hs:=aeH kk HS oz ho;have xk:=h3.trans (h4.mono h3.size);have aqc:=xk.size;refine⟨fun e=>⟨b_.tN xk,fun k hk=>xk.block k (by simp at hk;omega),hs.1 e,hB.trans (xk.mono hB.size),FK.below xk NB,kx.below xk qU⟩,fun e=>⟨(b_.tN xk).trans (b_.setCell W4 _ _ ae),hs.2 e,(hB.trans (xk.mono hB.size)).setCell (by show w.heap.size<=w.heap.size+1;omega) _,(kx.below xk qU).set _⟩⟩
  cases oz:wU (cO x)
  ·cases ho:cO x == n
   ·rw[ho]at h_;gi_wp2_with fail;refine⟨aY,rfl,?_⟩;refine(CallsIn.inRound l' (bR.2 (FP _))).mono ?_;rintro e W3 ⟨rfl,hW3⟩;have h3:aw W W3:=by rw[hW3];exact bj.alloc aB _
    have c3:W3.cell? (ar W.heap.size 0)=some (aq 1):=by rw[hW3];go_simp
    have l3:W.heap.size<W3.heap.size:=by rw[hW3];simp
    clear hW3;have sw:=ag (UH 1 W.heap.size b (off+x.1*4) x.2.length x.2 W3 c3 l3 (bG.below h3) ae);gi_wp2_with fail;refine⟨aY,rfl,?_⟩;refine(CallsIn.inRound l' (bR.2 (af sw))).mono ?_;rintro e W4 ⟨rfl,hb4⟩;have bu:=fq 1 W3 W4 h3 hb4 oz (by rw[ho];rfl);have b4:=((kx.below h3 qU).below hb4 (eQ qU h3.size))
    have NC:=b4.cell;have ND:=b4.frozen;clear fq b4;cases hm:x.2.any (sF 1)
    ·gi_wp2_with fail;exact bu.1 hm
    ·gi_wp2_with fail;obtain⟨r1,r2⟩:=bu.2 hm;exact⟨r1,rfl,r2⟩
   ·rw[ho]at h_;gi_wp2_with fail;refine⟨aY,rfl,?_⟩;refine(CallsIn.inRound l' (bR.2 (FP _))).mono ?_;rintro e W3 ⟨rfl,hW3⟩;have h3:aw W W3:=by rw[hW3];exact bj.alloc aB _
    have c3:W3.cell? (ar W.heap.size 0)=some (aq 2):=by rw[hW3];go_simp
    have l3:W.heap.size<W3.heap.size:=by rw[hW3];simp
    clear hW3;have sw:=ag (UH 2 W.heap.size b (off+x.1*4) x.2.length x.2 W3 c3 l3 (bG.below h3) ae);gi_wp2_with fail;refine⟨aY,rfl,?_⟩;refine(CallsIn.inRound l' (bR.2 (af sw))).mono ?_;rintro e W4 ⟨rfl,hb4⟩;have bu:=fq 2 W3 W4 h3 hb4 oz (by rw[ho];rfl);have b4:=((kx.below h3 qU).below hb4 (eQ qU h3.size))
    have NC:=b4.cell;have ND:=b4.frozen;clear fq b4;cases hm:x.2.any (sF 2)
    ·gi_wp2_with fail;exact bu.1 hm
    ·gi_wp2_with fail;obtain⟨r1,r2⟩:=bu.2 hm;exact⟨r1,rfl,r2⟩
  ·have bg:Hid (rh rs n=false):=by
    rw[Hid,af HS,vH,oz];rfl
   clear fq;cases ho:cO x == n
   all_goals
    rw[ho]at h_;gi_wp2_with fail;refine⟨aY,rfl,?_⟩;refine(CallsIn.inRound l' (bR.2 (FP _))).mono ?_;rintro e W3 ⟨rfl,hW3⟩;have h3:aw W W3:=by
     rw[hW3]
     first
     | exact bj.alloc aB _
     | exact((Below.refl _ _).alloc (Nat.le_refl _) _).setCell (p:=⟨W.heap.size,0,none⟩) (Nat.le_refl W.heap.size) _
    clear hW3;have b4:=kx.below h3 qU;have NC:=b4.cell;have ND:=b4.frozen;have B4:=ag b4;clear b4;have s3:=h3.size;gi_wp2_with fail;refine⟨aY,?_⟩;gi_wp2_with fail;exact⟨(b_.tN h3).trans (b_.setCell W3 _ _ ae),rfl,bg,(hB.trans (h3.mono hB.size)).setCell (by show w.heap.size<=w.heap.size+1;omega) _,B4.set _⟩
 case done =>
  intro W hI cD hsz;obtain⟨hf,hB,hn',hc⟩:=hI;have cb:=hc.cell;have cf:=hc.frozen;have bg:Hid (rh rs n=true):=by
   rw[Hid,<- hf,pJ aB];rfl
  clear hf;gi_wp2_with fail;have qR:=(bf W (ar (w.heap.size+1) 0) (.bool true) W2.heap.size (by show W2.heap.size≠w.heap.size+1;omega)).trans cD;refine⟨ak,.inl ⟨_,_,rfl,run_takeDeferred qR,?_⟩⟩;have cr:=((hc.set (.bool true)).put (d:=W2.heap.size) (o:=.deferred none) ae).cell;refine⟨.bool true,by simp[results,results111,go_sem,cr],by rw[af bg],?_⟩;exact(hB.setCell (by show w.heap.size<=w.heap.size+1;omega) _).trans (belowK_b (w:=W2) ae _ _ _ _ aB qR rfl rfl)
 case stop =>
  intro c W hI cD hsz;obtain⟨rfl,lN,hB,hc⟩:=hI;have bg:=ag lN;clear lN;have cb:=hc.cell;gi_wp2_with fail;refine⟨ak,.inl ⟨_,_,rfl,run_takeDeferred cD,?_⟩⟩;have cr:=(hc.put (d:=W2.heap.size) (o:=.deferred none) ae).cell;have jJ:=hB.trans (belowK_b (w:=W2) (show w.heap.size<=W2.heap.size by omega) W _ _ (.deferred none) aB cD rfl rfl);exact⟨.bool false,by simp[results,results111,go_sem,cr],by rw[af bg],jJ⟩
end
end Go.Proofs.YtkkpahmoljiepaaGreatDoor
