import Derived.Test.YtkkpahmoljiepaaGreatDoorJ10
set_option maxRecDepth 1000000
set_option maxHeartbeats 12800000
set_option linter.unusedSimpArgs false
set_option linter.unusedVariables false
namespace Go.Proofs.YtkkpahmoljiepaaGreatDoor
open Go.RowKit Go.Proofs.Tryz
section
open Go
def Gk:Value->Nat
 | .slice _ n _=>n
 | _=>0
structure h9(w w':World)(t:TypeId)(sz:Nat)(v v':Value):Prop where
 row:∀(i:Nat) (cur:Array Value),w.heap[i]? = some (.cells cur t (0,0))->∃cur',w'.heap[i]? = some (.cells cur' t (0,0))/\cur'.size=cur.size/\∀j,(v.ownBlock=some i->j<Gk v*sz)->cur'[j]? = cur[j]?
 own:∀g,v'.ownBlock=some g->(v.ownBlock=some g/\Gk v<=Gk v')\/w.heap.size<=g
section
variable {w w' w1:World} {t:TypeId} {sz:Nat} {v v' v1:Value}
theorem h9.same(v:Value)(sz:Nat)(h:∀(i:Nat) (cur:Array Value),w.heap[i]? = some (.cells cur t (0,0))->w'.heap[i]? = w.heap[i]?):h9 w w' t sz v v :=
 ⟨fun i cur hc=>⟨cur,(h i cur hc).trans hc,rfl,fun _ _=>rfl⟩,fun _ hg=>.inl ⟨hg,bH _⟩⟩
theorem h9.refl(w:World)(t:TypeId)(sz:Nat)(v:Value):h9 w w t sz v v:=h9.same v sz fun _ _ _=>rfl
theorem h9.trans(h:h9 w w1 t sz v v1)(k:h9 w1 w' t sz v1 v')(hs:w.heap.size<=w1.heap.size):h9 w w' t sz v v':=by refine⟨fun i cur hc=>?_,fun g hg=>?_⟩;{obtain⟨aC,h1,h2,h3⟩:=h.row i cur hc;obtain⟨c2,k1,k2,k3⟩:=k.row i aC h1;have ax:=(bV.1 hc).1;refine⟨c2,k1,k2.trans h2,fun j hj=>(k3 j fun e=>?_).trans (h3 j hj)⟩;rcases h.own i e with⟨a,b⟩|a;{exact dP (hj a) (ES _ b)};{omega}};{rcases k.own g hg with⟨a,b⟩|a;{rcases h.own g a with⟨c,d⟩|c;{exact .inl ⟨c,a_ d b⟩};{exact .inr c}};{exact .inr (a_ hs a)}}
theorem h9.owns(h:h9 w w' t sz v v'){base n:Nat}{xs:List Value}(ho:w.ownsRow base t sz v n xs):w'.ownsRow base t sz v n xs:=by refine⟨ho.1,?_⟩;rcases ho.2 with hn|⟨g,cap,cur,rfl,hb,hg,h1,h2,h3,h4⟩;{exact .inl hn};{obtain⟨cur',k1,k2,k3⟩:=h.row g cur hg;refine .inr ⟨g,cap,cur',rfl,hb,k1,h1,h2,k2.trans h3,?_⟩;rw[<- h4];apply List.ext_getElem?;intro j;rw[za,za];split;{rename_i hj;have:=k3 j fun _=>hj;simpa using this};{rfl}}
end
theorem arw{w:World}{o:Obj}{i:Nat}(ax:i<w.heap.size):(w.drew.alloc o).heap[i]? = w.heap[i]?:=cD w.drew o i ax
theorem QF{w:World}{t:TypeId}{sz:Nat}{v v':Value}(o:Obj)(hv:v'.ownBlock=some w.heap.size):h9 w (w.drew.alloc o) t sz v v' :=
 ⟨fun i cur hc=>⟨cur,(arw (bV.1 hc).1).trans hc,rfl,fun _ _=>rfl⟩,fun g hg=>.inr (by rw[hv]at hg;cases hg;exact bH _)⟩
theorem ae3{w:World}{t:TypeId}{sz g n k cap:Nat}{cur:Array Value}{news:List Value}(hg:w.heap[g]? = some (.cells cur t (0,0)))(kC:n*sz+news.length<=cur.size)(hk:n<=k) :
  h9 w (w.setRow g (cur.toList.take (n*sz)++news++cur.toList.drop (n*sz+news.length)).toArray) t sz (aD g 0 n cap) (aD g 0 k cap):=by
 refine⟨fun i c hc=>?_,fun g' pq=>.inl ⟨pq,hk⟩⟩;by_cases e:i=g;{
 subst e;rw[hg]at hc;obtain rfl:cur=c:=by simpa using hc
 refine⟨_,setRow_heap w i cur _ t _ hg,aP,fun j hj=>?_⟩;have hj':j<n*sz:=hj rfl;rw[ZR,fP,EO aP,za,aJ hj'];simp};{exact⟨c,(setRow_other w g i _ e).trans hc,rfl,fun _ _=>rfl⟩}
section
variable {P:Program} (w:World)
theorem arx(base:Nat)(t ty e:TypeId)(i:TypeInfo)(z:Value)(size bytes:Nat)(ht:P.underlying t=some (.slice e))(ax:P.info? e=some i)(hz:i.zero=some z)
  (hsize:i.size=size) (hby:i.bytes=bytes) (hsz:0<size)
  (v:Value) (n:Nat) (xs:List Value) (hown:w.ownsRow base e size v n xs)
  (a:Addr) (m c:Nat) (news:List Value) (hl:news.length=m*size) (hnews:∀j u,news[j]? = some u->w.cell? (a.add j)=some u) (h1:∀u∈news,u.oneCell'=true)
  (h63:n+m<=maxLen) (hbytes:(n+m)*bytes<=140737488355328) (v':Value) (w':World) (hr:(Builtin.append_ #[t,t] ty #[v,.slice (some a) m c]).run P w=.ok v' w') (hm:0<m):h9 w w' e size v v':=by
 subst hsize;subst hby;have ary:n+m<=9223372036854775807:=by simp only[maxLen]at h63;omega
 rcases hown.2 with⟨rfl,rfl⟩|⟨g,cap,cur,rfl,hbg,hg,qa,hcm,hcs,zl⟩;{have q:=run_append_nil (P:=P) w t ty e i z ht ax hz a m c news hl hnews hm ae (by simp only[eY]at hbytes;omega);rw[q]at hr;cases hr;exact QF _ rfl};{
 by_cases hroom:n+m<=cap;{
 have kC:n*i.size+news.length<=cur.size:=by rw[hl,hcs,<- Hs];exact ES _ hroom
 have q:=run_append_room (P:=P) w t ty e i ht ax g n cap cur hg a m c news hl hnews h1 hroom kC;rw[q]at hr;cases hr;exact ae3 hg kC ae};{have holds:=hown.cells (g:=g) rfl;have q:=run_append_grow (P:=P) w t ty e i z ht ax hz (ak g 0) n cap xs hown.1 holds a m c news hl hnews ae ae (growslice_fits ae hbytes);rw[q]at hr;cases hr;exact QF _ rfl}}
theorem arz(base:Nat)(t u ty e:TypeId)(i:TypeInfo)(ht:P.underlying t=some (.slice e))(hu:P.underlying u=some .string)(ax:P.info? e=some i)(hz:i.zero=some (.int .u8 0))
  (hsize:i.size=1) (hby:i.bytes=1) (v:Value) (n:Nat) (xs:List Value) (hown:w.ownsRow base e 1 v n xs) (s:ByteArray)
  (h63:n+s.size<=maxLen) (hbytes:n+s.size<=140737488355328) (v':Value) (w':World) (hr:(Builtin.append_ #[t,u] ty #[v,.string s]).run P w=.ok v' w'):h9 w w' e 1 v v':=by
 have ary:n+s.size<=9223372036854775807:=by simp only[maxLen]at h63;omega
 have g_:xs.length=n:=by simpa using hown.1
 rcases hown.2 with⟨rfl,rfl⟩|⟨g,cap,cur,rfl,hbg,hg,qa,hcm,hcs,zl⟩;{by_cases hm:s.size=0;{have hf:=Lib.run_firstCells_string (P:=P) w 1 s;rw[hm]at hf;have q:(Builtin.append_ #[t,u] ty #[aH,.string s]).run P w=.ok (aH) w:=by{simp[Builtin.append_,SA ht,SA hu,sizeOf,typeInfo,ax,hsize,Builtin.lenOf,hm,hf]};rw[q]at hr;cases hr;exact h9.refl _ _ _ _};{have q:=run_append_nil_string (P:=P) w t u ty e i (.int .u8 0) ht hu ax hz s ae ae (by rw[hby];omega);rw[q]at hr;cases hr;exact QF _ rfl}};{
 have aAn:cur.size=cap:=by simpa using hcs
 by_cases hroom:n+s.size<=cap;{have q:=Lib.run_append_room_string (P:=P) w t u ty e i ht hu ax hsize g n cap cur hg s hroom ae;rw[q]at hr;cases hr;have:=ae3 (sz:=1) (n:=n) (k:=n+s.size) (cap:=cap) (news:=Lib.strCells s) hg (by rw[Lib.strCells_length];omega) ae;rw[zf,Lib.strCells_length]at this;exact this};{have holds:=hown.cells (g:=g) rfl;have q:=Lib.run_append_grow_string (P:=P) w t u ty e i (.int .u8 0) ht hu ax hz (ak g 0) n cap xs (by rw[hsize];simpa using g_) holds s ae ae (by rw[hby];exact growslice_fits ae ae);rw[q]at hr;cases hr;exact QF _ rfl}}
theorem ae4{ops:Array Oper}{rest:List Oper}{o:Oper}{a:Act}{Q:Exit->Act->World->Prop}(hgd:o.guard=none)(s x:Operand)(t:TypeId)
  (ho:o.op=.call { callee:=.builtin .append,args:=#[s,x],argTypes:=#[t,t] })
  (base:Nat) (e:TypeId) (i:TypeInfo) (z:Value) (size bytes:Nat) (ht:P.underlying t=some (.slice e)) (ax:P.info? e=some i) (hz:i.zero=some z)
  (hsize:i.size=size) (hby:i.bytes=bytes) (hzs:z.cells.size=size) (hsz:0<size)
  (v:Value) (n:Nat) (xs:List Value) (hs:a.eval s=v) (hown:w.ownsRow base e size v n xs)
  (ad:Addr) (m c:Nat) (news:List Value) (hm:0<m) (hx:a.eval x=.slice (some ad) m c) (hl:news.length=m*size) (hnews:∀j u,news[j]? = some u->w.cell? (ad.add j)=some u) (h1:∀u∈news,u.oneCell'=true)
  (h63:n+m<=maxLen) (hbytes:(n+m)*bytes<=140737488355328) (hbase:base<=w.heap.size)
  (h:∀v' w',w'.ownsRow base e size v' (n+m) (xs++news)->w.grownBy w' v.ownBlock->h9 w w' e size v v'->(v'.ownBlock=v.ownBlock\/v'.ownBlock=some w.heap.size)->wpList P ops Q rest (a.put o.dst v') w') :
  wpList P ops Q (o :: rest) a w:=by refine wpList_plain hgd fun K hK=>?_;obtain⟨v',w',hr,h2,h3,_,h5⟩:=run_append_own_at (P:=P) w base t o.type e i z size bytes ht ax hz hsize hby hzs hsz v n xs hown ad m c news hl hnews h1 h63 hbytes hbase;have h4:=arx (P:=P) w base t o.type e i z size bytes ht ax hz hsize hby hsz v n xs hown ad m c news hl hnews h1 h63 hbytes v' w' hr hm;unfold Oper.wp execOp;simp only[ho,resolve,invoke,builtin,Sem.run_bind,JT,EL,J5,jL,rI,hs,hx,hr];exact hK _ _ (h v' w' h2 h3 h4 h5)
theorem arA{ops:Array Oper}{rest:List Oper}{o:Oper}{a:Act}{Q:Exit->Act->World->Prop}(hgd:o.guard=none)(sl x:Operand)(t u:TypeId)
  (ho:o.op=.call { callee:=.builtin .append,args:=#[sl,x],argTypes:=#[t,u] })
  (base:Nat) (e:TypeId) (i:TypeInfo) (ht:P.underlying t=some (.slice e)) (hu:P.underlying u=some .string) (ax:P.info? e=some i) (hz:i.zero=some (.int .u8 0))
  (hsize:i.size=1) (hby:i.bytes=1)
  (v:Value) (n:Nat) (xs:List Value) (hs:a.eval sl=v) (hown:w.ownsRow base e 1 v n xs) (s:ByteArray) (hx:a.eval x=.string s)
  (h63:n+s.size<=maxLen) (hbytes:n+s.size<=140737488355328) (hbase:base<=w.heap.size)
  (h:∀v' w',w'.ownsRow base e 1 v' (n+s.size) (xs++Lib.strCells s)->w.grownBy w' v.ownBlock->h9 w w' e 1 v v'->wpList P ops Q rest (a.put o.dst v') w'):wpList P ops Q (o :: rest) a w:=by refine wpList_plain hgd fun K hK=>?_;obtain⟨v',w',hr,h2,h3,_⟩:=Lib.run_append_own_string (P:=P) w base t u o.type e i ht hu ax hz hsize hby v n xs hown s h63 hbytes hbase;have h4:=arz (P:=P) w base t u o.type e i ht hu ax hz hsize hby v n xs hown s h63 hbytes v' w' hr;unfold Oper.wp execOp;simp only[ho,resolve,invoke,builtin,Sem.run_bind,JT,EL,J5,jL,rI,hs,hx,hr];exact hK _ _ (h v' w' h2 h3 h4)
end
end
def cL(w:World)(b:Nat)(vb vp:Value):Prop:=w.heap[b]? = some (.cells #[vb,vp] 283)
section
variable {w:World} {b:Nat} {vb vp:Value}
theorem cL.lt(h:cL w b vb vp):b<w.heap.size:=(bV.1 h).1
theorem cL.cells(h:cL w b vb vp):w.cell? (ak b 0)=some vb/\w.cell? (ak b 1)=some vp:=by unfold cL at h;constructor <;> simp[World.cell?,h]
theorem cL.frozen(h:cL w b vb vp)(i:Nat):w.frozen? (ak b i)=false:=by unfold cL at h;simp[World.frozen?,h]
theorem cL.set0(h:cL w b vb vp)(v:Value):cL (w.setCell ⟨b,0,none⟩ v) b v vp:=by unfold cL at *; simp only[World.setCell];rw[fw,aJ rfl,h];rfl
theorem cL.set1(h:cL w b vb vp)(v:Value):cL (w.setCell ⟨b,1,none⟩ v) b vb v:=by unfold cL at *; simp only[World.setCell];rw[fw,aJ rfl,h];rfl
theorem cL.kept{w':World}(h:cL w b vb vp)(hb:w'.heap[b]? = w.heap[b]?):cL w' b vb vp:=hb.trans h
end
theorem DU{w:World}{mb:Nat}{vb vp:Value}{t:TypeId}(hm:cL w mb vb vp)(ht:t≠283)(o:Nat)(u v:Value)(sz:Nat):h9 w (w.setCell ⟨mb,o,none⟩ u) t sz v v :=
 h9.same v sz fun i cur hc=>cZ _ _ _ _ fun e=>by
  have e':i=mb:=e;rw[e',hm]at hc;simp at hc;exact ht hc.2.symm
theorem ae5(w:World)(o:Obj)(t:TypeId)(sz:Nat)(v:Value):h9 w (w.alloc o) t sz v v :=
 h9.same v sz fun _ _ hc=>cD _ _ _ (bV.1 hc).1
def gC(w:World)(base:Nat)(v:Value)(l:ah):Prop:=w.ownsRow base 5 1 v l.length (l.map fun c=>.int .u8 c.toNat)
theorem ae6:(prog.info? 5).map (fun i=>(i.zero,i.size,i.bytes))=some (some (.int .u8 0),1,1):=aI
theorem Wx:prog.underlying 58=some (.slice 5):=aI
theorem Gl{w:World}{base d:Nat}{t:TypeId}{sz n:Nat}{v:Value}{xs:List Value}(h:w.ownsRow base t sz v n xs)(hd:some d≠v.ownBlock)(o:Nat)(u:Value):(w.setCell ⟨d,o,none⟩ u).ownsRow base t sz v n xs:=by obtain⟨h1,h2⟩:=h;refine⟨h1,?_⟩;rcases h2 with h2|⟨g,cap,cur,rfl,hb,aZ,hr⟩;{exact .inl h2};{exact .inr ⟨g,cap,cur,rfl,hb,(cZ _ _ _ _ (by show g≠d;intro e;subst e;exact hd rfl)).trans aZ,hr⟩}
theorem LZ{w:World}{mb base:Nat}{vb vp v:Value}{l:ah}(hm:cL w mb vb vp)(ho:gC w base v l):some mb≠v.ownBlock:=fun e=>by
 obtain⟨_,⟨rfl,_⟩|⟨g,cap,cur,rfl,_,aZ,_⟩⟩:=ho
 ·simp[Value.ownBlock]at e
 ·simp only[Value.ownBlock,xN]at e;subst e;rw[hm]at aZ;simp at aZ
theorem sO{w:World}{base:Nat}{t:TypeId}{sz n:Nat}{v:Value}{xs:List Value}(h:w.ownsRow base t sz v n xs):∃a m c,v=.slice a m c:=by obtain⟨_,⟨rfl,_⟩|⟨g,cap,cur,rfl,_⟩⟩:=h;{exact⟨_,_,_,rfl⟩};{exact⟨_,_,_,rfl⟩}
theorem arB(mb base:Nat)(c:UInt8)(vb vp:Value)(l:ah)(w:World)(hm:cL w mb vb vp)(ho:gC w base vb l)(bX:base<=w.heap.size)(hl:l.length<=1000000) :
  aB 341 #[.int .u8 c.toNat,aM mb] w fun e w' =>
   e=.returned (.tuple #[])/\∃cJ,cL w' mb cJ vp/\gC w' base cJ (l++[c])/\(cJ.ownBlock=vb.ownBlock\/∃g,cJ.ownBlock=some g/\w.heap.size<=g)/\h9 w w' 5 1 vb cJ/\bn (fun i=>i≠mb/\some i≠vb.ownBlock) w w':=by
 obtain⟨i0,ax,hz0,hz1,hz2⟩:=kJ ae6;have hc0:=hm.cells.1;have dA:=ag hm;have HO:=ag ho;have hlt:=hm.lt;clear hm ho;go_enter func341,ntmps341;go_wp2_with (at_builtin;go_loud (refine ae4 _ rfl (.tmp 8) (.tmp 10) 58 rfl base 5 i0 (.int .u8 0) 1 1 Wx ax hz0 hz1 hz2 rfl bD _ l.length _ rfl (HO.alloc _) (ak w.heap.size 0) 1 1 [.int .u8 c.toNat] bD rfl rfl ?aC ?c2 ?c3 ?aV ?gh ?_))
 case aC =>
  intro j u hj
  match j,hj with
  | 0,hj=>simp at hj;subst hj;simp[Addr.add]
  | n+1,hj=>simp at hj
 case c2=>intro u hu;simp at hu;subst hu;rfl
 case c3=>unfold maxLen;omega
 case aV=>omega
 case gh=>simp;omega
 intro v' w3 hown' hgrow DV hat;obtain⟨va,vn,vc,rfl⟩:=sO hown';have eE:Hid (gC w3 base (.slice va vn vc) (l++[c])):=by
  unfold Hid gC;rw[bj,gJ];exact hown'
 have hblk:∀i,i<w.heap.size->some i≠vb.ownBlock->w3.heap[i]? = w.heap[i]?:=fun i ax hne =>
  (hgrow.block i aP hne).trans (cD _ _ _ ax)
 have hne:some mb≠vb.ownBlock:=LZ (af dA) (af HO);have jR:=ag (dA.kept (hblk mb hlt hne));have qj:Hid (bn (fun i=>i≠mb/\some i≠vb.ownBlock) w w3) :=
  ⟨hgrow.os,hgrow.tape,hgrow.output,a_ ar hgrow.size,fun i ax hp=>hblk i ax hp.2⟩
 have eZ:Hid ((Value.slice va vn vc).ownBlock=vb.ownBlock\/∃g,(Value.slice va vn vc).ownBlock=some g/\w.heap.size<=g):=by
  rcases hat with h|h
  ·exact .inl h
  ·exact .inr ⟨_,h,ar⟩
 have arC:Hid (h9 w w3 5 1 vb (.slice va vn vc)):=(ae5 w _ _ _ _).trans DV ar;have hfz:=jR.frozen;have hc:=jR.cells.1;clear hown' hgrow DV hat hblk hne dA HO;go_wp2_with fail;refine pO (v:=.tuple #[]) (by simp[results,results341]) rfl ?_;refine⟨rfl,_,jR.set0 _,?_,eZ,arC.trans (DU (af jR) bD _ _ _ _) qj.size,qj.trans (bn.jD _ fun i h=>h.1)⟩;exact Gl (af eE) (LZ (af jR) (af eE)) _ _
def jS(mb:Nat)(w w':World):Prop:=∀vb vp,cL w mb vb vp->∃cJ fK,cL w' mb cJ fK/\h9 w w' 5 1 vb cJ/\h9 w w' 343 2 vp fK
theorem jS.QG{mb:Nat}{w w':World}{vb vp cJ fK:Value}(hm:cL w mb vb vp)(Ia:cL w' mb cJ fK)(h1:h9 w w' 5 1 vb cJ)(h2:h9 w w' 343 2 vp fK):jS mb w w':=fun xb xp hx=>by
 unfold cL at hm hx;rw[hm]at hx;obtain⟨rfl,rfl⟩:vb=xb/\vp=xp:=by simpa using hx
 exact⟨_,_,Ia,h1,h2⟩
theorem jS.trans{mb:Nat}{w w1 w':World}(h:jS mb w w1)(k:jS mb w1 w')(hs:w.heap.size<=w1.heap.size):jS mb w w':=fun vb vp hm=>by
 obtain⟨b1,p1,m1,x1,y1⟩:=h vb vp hm;obtain⟨b2,fh,m2,x2,y2⟩:=k b1 p1 m1;exact⟨b2,fh,m2,x1.trans x2 hs,y1.trans y2 hs⟩
theorem jS.same{mb:Nat}{w w1 w':World}(h:jS mb w w1)(hb:∀i,i<w.heap.size->w'.heap[i]? = w1.heap[i]?):jS mb w w':=fun vb vp hm=>by
 obtain⟨b1,p1,m1,x1,y1⟩:=h vb vp hm;have hlt:=hm.lt;refine⟨b1,p1,m1.kept (hb mb hlt),⟨fun i cur hc=>?_,x1.own⟩,⟨fun i cur hc=>?_,y1.own⟩⟩
 ·obtain⟨c,k1,k2⟩:=x1.row i cur hc;exact⟨c,(hb i (bV.1 hc).1).trans k1,k2⟩
 ·obtain⟨c,k1,k2⟩:=y1.row i cur hc;exact⟨c,(hb i (bV.1 hc).1).trans k1,k2⟩
theorem jS.refl(mb:Nat)(w:World):jS mb w w:=fun vb vp hm=>⟨vb,vp,hm,h9.refl _ _ _ _,h9.refl _ _ _ _⟩
theorem jS.below{mb:Nat}{w w':World}(h:au w w'):jS mb w w':=(jS.refl mb w).same fun i ax=>h.block i ax
theorem jS.arD{mb:Nat}{w w1:World}{vb vp v1 p1:Value}(h:jS mb w w1)(hm:cL w mb vb vp)(hm1:cL w1 mb v1 p1){g k:Nat}(hg:v1.ownBlock=some g)(hk:Gk vb<=k){cur:Array Value}(aZ:w1.heap[g]? = some (.cells cur 5 (0,0)))(u:Value):jS mb w (w1.setCell ⟨g,k,none⟩ u):=by
 obtain⟨b1,q1,m1,x1,y1⟩:=h vb vp hm;obtain⟨rfl,rfl⟩:b1=v1/\q1=p1:=by{unfold cL at m1 hm1;rw[m1]at hm1;simpa using hm1};have hne:∀i,i≠g->(w1.setCell ⟨g,k,none⟩ u).heap[i]? = w1.heap[i]?:=fun i ax=>cZ _ _ _ _ ax;have arE:mb≠g:=fun e=>by rw[<- e,m1]at aZ;simp at aZ
 refine jS.QG hm (m1.kept (hne mb arE)) ⟨fun i c hc=>?_,x1.own⟩ ⟨fun i c hc=>?_,y1.own⟩;{obtain⟨c',k1,k2,k3⟩:=x1.row i c hc;by_cases e:i=g;{subst e;refine⟨c'.setIfInBounds k u,?_,by simpa using k2,fun j hj=>?_⟩;{simp only[World.setCell];rw[fw,aJ rfl,k1];rfl};{have hjk:k≠j:=fun e'=>by{rcases x1.own i hg with⟨a,b⟩|a;{have:=hj a;omega};{have:=(bV.1 hc).1;omega}};rw[ZI hjk];exact k3 j hj}};{exact⟨c',(hne i e).trans k1,k2,k3⟩}};{obtain⟨c',k1,k2,k3⟩:=y1.row i c hc;refine⟨c',(hne i fun e=>?_).trans k1,k2,k3⟩;rw[e,aZ]at k1;simp at k1}
structure Wy(mb base:Nat)(w w':World):Prop where
 os:w'.os=w.os
 tape:w'.tape=w.tape
 output:w'.output=w.output
 size:w.heap.size<=w'.heap.size
 block:∀i,i<w.heap.size->i≠mb->(i<base\/∀cur,w.heap[i]?≠some (.cells cur 5 (0,0)))->w'.heap[i]? = w.heap[i]?
structure kH(mb base:Nat)(w w':World):Prop where
 os:w'.os=w.os
 tape:w'.tape=w.tape
 output:w'.output=w.output
 size:w.heap.size<=w'.heap.size
 block:∀i,i<w.heap.size->i≠mb->(i<base\/∀cur,w.heap[i]?≠some (.cells cur 5 (0,0)))->w'.heap[i]? = w.heap[i]?
 WA:jS mb w w'
theorem kH.refl(mb base:Nat)(w:World):kH mb base w w:=⟨rfl,rfl,rfl,bH _,fun _ _ _ _=>rfl,jS.refl _ _⟩
theorem kH.trans{mb base:Nat}{A B C:World}(h:kH mb base A B)(k:kH mb base B C):kH mb base A C :=
 ⟨k.os.trans h.os,k.tape.trans h.tape,k.output.trans h.output,a_ h.size k.size,fun i ax hm hp=>by
  have e:=h.block i ax hm hp;refine(k.block i (dP ax h.size) hm ?_).trans e;rw[e];exact hp,h.WA.trans k.WA h.size⟩
theorem kH.WB{mb base:Nat}{A B:World}(h:au A B):kH mb base A B:=⟨h.os,h.tape,h.output,h.size,fun i ax _ _=>h.block i ax,jS.below h⟩
theorem kH.ae7{mb base:Nat}{A B:World}{v:Value}{l:ah}(ho:gC A base v l)(h:bn (fun i=>i≠mb/\some i≠v.ownBlock) A B){vp v':Value}(hm:cL A mb v vp)(Ia:cL B mb v' vp)(hs:h9 A B 5 1 v v'):kH mb base A B :=
 ⟨h.os,h.tape,h.output,h.size,fun i ax hm hp=>h.block i ax ⟨hm,fun e=>by
  obtain⟨_,⟨rfl,_⟩|⟨g,cap,cur,rfl,hb,aZ,_⟩⟩:=ho
  ·simp[Value.ownBlock]at e
  ·simp only[Value.ownBlock,xN]at e;subst e;rcases hp with hp|hp
   ·omega
   ·exact hp cur aZ⟩,jS.QG hm Ia hs (h9.same _ _ fun i cur hc=>h.block i (bV.1 hc).1 ⟨fun e=>by rw[e,hm]at hc;simp at hc,fun e=>by
  obtain⟨_,⟨rfl,_⟩|⟨g,cap,cur',rfl,hb,aZ,_⟩⟩:=ho
  ·simp[Value.ownBlock]at e
  ·simp only[Value.ownBlock,xN]at e;subst e;rw[aZ]at hc;simp at hc⟩)⟩
theorem arF(mb base:Nat)(c:UInt8)(vb vp:Value)(l:ah)(w:World)(hm:cL w mb vb vp)(ho:gC w base vb l)(bX:base<=w.heap.size)(hl:l.length<=1000000) :
  aB 341 #[.int .u8 c.toNat,aM mb] w fun e w' =>
   e=.returned (.tuple #[])/\(∃cJ,cL w' mb cJ vp/\gC w' base cJ (l++[c]))/\kH mb base w w':=by refine(arB mb base c vb vp l w hm ho bX hl).mono ?_;rintro e w' ⟨rfl,cJ,h1,h2,_,h3,h4⟩;exact⟨rfl,⟨cJ,h1,h2⟩,kH.ae7 ho h4 hm h1 h3⟩
theorem arG(mb base:Nat)(s:ah)(vb vp:Value)(l:ah)(w:World)(hm:cL w mb vb vp)(ho:gC w base vb l)(bX:base<=w.heap.size)(hl:l.length<=1000000)(hs:s.length<=1000000000) :
  aB 336 #[ay s,aM mb] w fun e w' =>
   e=.returned (.tuple #[])/\(∃cJ,cL w' mb cJ vp/\gC w' base cJ (l++s))/\kH mb base w w':=by
 obtain⟨i0,ax,hz0,hz1,hz2⟩:=kJ ae6;have hc0:=hm.cells.1;have dA:=ag hm;have HO:=ag ho;have hlt:=hm.lt;have hsz:(aq s).size=s.length:=bJ s;have HU:Hid (prog.underlying 224=some .string):=by unfold Hid;kernel_rfl
 clear hm ho;go_enter func336,ntmps336;go_wp2_with (at_builtin;go_loud (refine arA _ rfl (.tmp 8) (.tmp 9) 58 224 rfl base 5 i0 Wx (af HU) ax hz0 hz1 hz2 _ l.length _ rfl (af HO) (aq s) rfl ?c3 ?aV bX ?_));case c3=>unfold maxLen;omega
 case aV=>omega
 intro v' w3 hown' hgrow DV;obtain⟨va,vn,vc,rfl⟩:=sO hown';have eE:Hid (gC w3 base (.slice va vn vc) (l++s)):=by{unfold Hid gC;rw[bj,gJ,<- hsz];exact hown'};have hne:some mb≠vb.ownBlock:=LZ (af dA) (af HO);have jR:=ag (dA.kept (hgrow.block mb hlt hne));have qj:Hid (kH mb base w (w3.setCell ⟨mb,0,none⟩ (.slice va vn vc))):=kH.ae7 (af HO) (bn.trans ⟨hgrow.os,hgrow.tape,hgrow.output,hgrow.size,fun i ax hp=>hgrow.block i ax hp.2⟩ (bn.jD _ fun i h=>h.1)) (af dA) (jR.set0 _) (DV.trans (DU (af jR) bD _ _ _ _) hgrow.size);have hfz:=jR.frozen;have hc:=jR.cells.1;clear hown' hgrow DV hne dA HO;go_wp2_with fail;refine pO (v:=.tuple #[]) (by simp[results,results336]) rfl ?_;refine⟨rfl,⟨_,jR.set0 _,Gl (af eE) (LZ (af jR) (af eE)) _ _⟩,qj⟩
def WC(fn:FuncId)(x:Value)(out:ah):Prop:=∀(mb base:Nat) (vb vp:Value) (l:ah) (w:World),cL w mb vb vp->gC w base vb l->base<=w.heap.size->l.length+out.length<=1000000 ->
 aB fn #[x,aM mb] w fun e w'=>e=.returned (.tuple #[])/\(∃cJ,cL w' mb cJ vp/\gC w' base cJ (l++out))/\kH mb base w w'
structure nG where
 t:TypeId
 x:Value
 fn:FuncId
 out:ah
def nG.BM (f : nG) : Prop := (∀ W : World, (method 521 f.t f.x "beacon/wire.writeTo").run prog W = .ok (f.fn, f.x) W) ∧ (∀ (args : Array Value) (W : World), (callFunc f.fn args).run prog W = .ok (.enter f.fn args) W) ∧ WC f.fn f.x f.out
def ew(fs:List nG):ah:=fs.flatMap (·.out)
theorem ae8(fs:List nG)(k:Nat)(h:k<fs.length):ew (fs.take (k+1))=ew (fs.take k)++fs[k].out:=by rw[ew,gp h,sZ];simp[ew]
theorem arH(fs:List nG)(k:Nat):(ew (fs.take k)).length<=(ew fs).length:=by
 have:ew fs=ew (fs.take k)++ew (fs.drop k):=by rw[ew,ew,ew,<- sZ,j9]
 rw[this];simp
theorem L0(mb base g cap:Nat)(fs:List nG)(vb vp:Value)(l:ah)(w:World)(hm:cL w mb vb vp)(ho:gC w base vb l)(bX:base<=w.heap.size)
  (bq:∀f∈fs,f.BM) (hlt:g<w.heap.size) (vz:g≠mb) (QH:g<base\/∀cur,w.heap[g]?≠some (.cells cur 5 (0,0))) (nB:∀j (h:j<fs.length),w.cell? (ak g j)=some (.iface fs[j].t fs[j].x))
  (hn:fs.length<=cap) (hc:fs.length<=1000000) (hl:l.length+(ew fs).length<=1000000) :
  aB 139 #[aM mb,aD g 0 fs.length cap] w fun e w' =>
   e=.returned (.tuple #[])/\(∃cJ,cL w' mb cJ vp/\gC w' base cJ (l++ew fs))/\kH mb base w w':=by
 have dA:=ag hm;have HO:=ag ho;have cF:=ag bq;have HC:=ag nB;have HK:=ag QH;clear hm ho bq nB QH;go_enter func139,ntmps139;go_wp2_with fail;go_loopw [8] (fun i wr=>∃(k:Nat) (cJ:Value),i=aj k/\k<=fs.length/\cL wr mb cJ vp/\gC wr base cJ (l++ew (fs.take k))/\kH mb base w wr) (fun i _=>fs.length - (intOf i).toNat);case atStart=>exact⟨0,vb,rfl,cV _,dA,by simpa [ew]using af HO,kH.refl _ _ _⟩
 case round =>(obtain⟨k,cJ,rfl,hk,hm,ho,ht⟩:=hrel;have ov:=ag hm;have pz:=ag ho;have kg:=ag ht;have hsz:=ht.size;clear hm ho ht;by_cases hlk:k<fs.length;{have hcell:wr.cell? (ak g k)=some (.iface fs[k].t fs[k].x):=(dh (w:=w) (kg.block g hlt vz (af HK))).trans (HC k hlk);have BN:=af cF fs[k] (cM hlk);have bf:=ag (ae8 fs k hlk);have ej:=ag (arH fs (k+1));rw[ae8 fs k hlk,bj]at ej;generalize fs[k]=f at *;have arI:=BN.1;have Oe:=BN.2.1;have HW:=ag (BN.2.2 mb base cJ vp _ wr (af ov) (af pz) ae (by rw[bj];have:=af ej;omega));clear BN;go_wp2_with fail;refine HW.mono ?_;rintro e w2 ⟨rfl,⟨I3,h1,h2⟩,h3⟩;rw[fP,<- af bf]at h2;have aW:=ag (bg h1 (bg h2 (kg.trans h3)));clear h1 h2 h3 HW;go_wp2;exact⟨⟨k+1,I3,bW,ae,aW.1,aW.2.1,aW.2.2⟩,c5⟩};{have fJ:k=fs.length:=ae;subst fJ;have gv:=af pz;rw[gV]at gv;have eE:=ag gv;clear gv;go_wp2;refine pO (v:=.tuple #[]) (by simp[results,results139]) rfl ?_;exact⟨rfl,⟨cJ,ov,eE⟩,kg⟩})
def oW(c:UInt8):nG:=⟨292,.int .u8 c.toNat,341,[c]⟩
def nH(s:ah):nG:=⟨224,ay s,336,s⟩
theorem arJ (n : Int) (W : World) : (method 521 292 (.int .u8 n) "beacon/wire.writeTo").run prog W = .ok (341, .int .u8 n) W := by kernel_rfl
theorem arK (s : ByteArray) (W : World) : (method 521 224 (.string s) "beacon/wire.writeTo").run prog W = .ok (336, .string s) W := by kernel_rfl
theorem arL(args:Array Value)(W:World):(callFunc 341 args).run prog W=.ok (.enter 341 args) W:=aI
theorem arM(args:Array Value)(W:World):(callFunc 336 args).run prog W=.ok (.enter 336 args) W:=aI
theorem I4(c:UInt8):(oW c).BM :=
 ⟨arJ _,arL,fun mb base vb vp l w hm ho bX hl=>arF mb base c vb vp l w hm ho bX (by simp[oW]at hl;omega)⟩
theorem L6(s:ah):(nH s).BM :=
 ⟨arK _,arM,fun mb base vb vp l w hm ho bX hl=>arG mb base s vb vp l w hm ho bX (by simp[nH]at hl;omega) (by simp[nH]at hl;omega)⟩
def ax(n:Nat):UInt8:=UInt8.ofNat (n/256)
def bO(n:Nat):UInt8:=UInt8.ofNat n
def jT(n:Nat):nG:=⟨284,.int .u16 n,337,[ax n,bO n]⟩
theorem arN (n : Int) (W : World) : (method 521 284 (.int .u16 n) "beacon/wire.writeTo").run prog W = .ok (337, .int .u16 n) W := by kernel_rfl
theorem arO(args:Array Value)(W:World):(callFunc 337 args).run prog W=.ok (.enter 337 args) W:=aI
theorem arP(n:Nat)(hn:n<65536):WC 337 (.int .u16 n) [ax n,bO n]:=by
 intro mb base vb vp l w hm ho bX hl;have dA:=ag hm;have HO:=ag ho;have hlt:=hm.lt;clear hm ho;go_enter func337,ntmps337;go_wp2_with fail;have eh:(n:Int)/256=((ax n).toNat:Int):=by unfold ax;rw[lJ];omega
 have el:(n:Int)%256=((bO n).toNat:Int):=by unfold bO;rw[lJ];omega
 rw[eh,el];have hnew:=World.alloc_heap_new w (.cells #[.iface 292 (.int .u8 (ax n).toNat),.iface 292 (.int .u8 (bO n).toNat)] 297);refine(L0 mb base w.heap.size 2 [oW (ax n),oW (bO n)] vb vp l _ ((cD _ _ _ hlt).trans dA) (HO.alloc _) aP ?_ ar ae (.inr ?_) ?_ ar ar ?_).mono ?_;{intro f hf;simp at hf;rcases hf with rfl|rfl <;> exact I4 _};{intro cur h;rw[hnew]at h;simp at h};{
 intro j hj;match j,hj with
 | 0,_=>unfold World.cell?; rw[hnew];rfl
 | 1,_=>unfold World.cell?; rw[hnew];rfl
 | j+2,hj=>simp at hj;omega};{simp[ew,oW]at hl ⊢; omega};rintro e w2 ⟨rfl,⟨I3,h1,h2⟩,h3⟩;have aW:Hid ((∃cJ,cL w2 mb cJ vp/\gC w2 base cJ (l++[ax n,bO n]))/\kH mb base w w2) := ⟨⟨I3,h1,h2⟩,(kH.WB (aO.alloc aA _)).trans h3⟩;clear h1 h2 h3 hnew eh el;go_wp2_with fail;refine pO (v:=.tuple #[]) (by simp[results,results337]) rfl ?_;exact⟨rfl,aW⟩
theorem BO(n:Nat)(hn:n<65536):(jT n).BM:=⟨arN _,arO,arP n hn⟩
def yI(n:Nat):nG:=⟨344,.int .u32 n,343,[ax (n/65536),bO (n/65536),ax (n%65536),bO (n%65536)]⟩
theorem arQ (n : Int) (W : World) : (method 521 344 (.int .u32 n) "beacon/wire.writeTo").run prog W = .ok (343, .int .u32 n) W := by kernel_rfl
theorem arR(args:Array Value)(W:World):(callFunc 343 args).run prog W=.ok (.enter 343 args) W:=aI
theorem arS(n:Nat)(hn:n<4294967296):WC 343 (.int .u32 n) [ax (n/65536),bO (n/65536),ax (n%65536),bO (n%65536)]:=by
 intro mb base vb vp l w hm ho bX hl;have dA:=ag hm;have HO:=ag ho;have hlt:=hm.lt;clear hm ho;go_enter func343,ntmps343;go_wp2_with fail;have eh:(n:Int)/65536=((n/65536:Nat):Int):=ae;have el:IntKind.u16.wrap (n:Int)=((n%65536:Nat):Int):=by rw[IntKind.wrap_u16];omega
 rw[eh,el];have hnew:=World.alloc_heap_new w (.cells #[.iface 284 (.int .u16 (n/65536:Nat)),.iface 284 (.int .u16 (n%65536:Nat))] 297);refine(L0 mb base w.heap.size 2 [jT (n/65536),jT (n%65536)] vb vp l _ ((cD _ _ _ hlt).trans dA) (HO.alloc _) aP ?_ ar ae (.inr ?_) ?_ ar ar ?_).mono ?_;{intro f hf;simp at hf;rcases hf with rfl|rfl <;> exact BO _ ae};{intro cur h;rw[hnew]at h;simp at h};{
 intro j hj;match j,hj with
 | 0,_=>unfold World.cell?; rw[hnew];rfl
 | 1,_=>unfold World.cell?; rw[hnew];rfl
 | j+2,hj=>simp at hj;omega};{simp[ew,jT]at hl ⊢; omega};rintro e w2 ⟨rfl,⟨I3,h1,h2⟩,h3⟩;have aW:Hid ((∃cJ,cL w2 mb cJ vp/\gC w2 base cJ (l++[ax (n/65536),bO (n/65536),ax (n%65536),bO (n%65536)]))/\kH mb base w w2) := ⟨⟨I3,h1,h2⟩,(kH.WB (aO.alloc aA _)).trans h3⟩;clear h1 h2 h3 hnew eh el;go_wp2_with fail;refine pO (v:=.tuple #[]) (by simp[results,results343]) rfl ?_;exact⟨rfl,aW⟩
theorem I5(n:Nat)(hn:n<4294967296):(yI n).BM:=⟨arQ _,arR,arS n hn⟩
theorem L8{w:World}{base:Nat}{v:Value}{l:ah}(h:gC w base v l):(convert 58 9 v).run prog w=.ok (ay l) w:=by
 obtain⟨h1,⟨rfl,h2⟩|⟨g,cap,cur,rfl,hb,aZ,hn,hm,hs,ht⟩⟩:=h;{obtain rfl:l = []:=fp h2;kernel_rfl};{
 refine Ta (P:=prog) w 58 9 5 (ak g 0) cap l underlying58 underlying5 underlying9 fun j hj=>?_;have e:((ak g 0):Addr).add j=(ak g j):=by unfold Addr.add;by_cases h:j=0 <;> simp[h]
 rw[e];have e2:cur.toList[j]? = (l.map fun c=>Value.int .u8 (c.toNat:Int))[j]?:=by{rw[<- ht,za,aJ ae]};simp only[World.cell?,aZ];rw[<- ZK,e2];simp[hj]}
theorem arT(g cap:Nat)(fs:List nG)(w:World)(bq:∀f∈fs,f.BM)(hlt:g<w.heap.size)(nB:∀j (h:j<fs.length),w.cell? (ak g j)=some (.iface fs[j].t fs[j].x))
  (hn:fs.length<=cap) (hc:fs.length<=1000000) (hl:(ew fs).length<=1000000) :
  aB 199 #[aD g 0 fs.length cap] w (bQ (ay (ew fs)) w):=by have hnew:=World.alloc_heap_new w (.cells #[.slice none 0 0,.slice none 0 0] 283);have bI:=ag (L0 w.heap.size (w.heap.size+1) g cap fs (aH) (aH) [] (w.alloc (.cells #[.slice none 0 0,.slice none 0 0] 283)) hnew (ia _ _ _ _) ar bq aP ae (.inl ae) (fun j hj=>(dh (w:=w) (cD _ _ _ hlt)).trans (nB j hj)) hn hc (by simpa using hl));clear hnew bq nB;go_enter func199,ntmps199;go_wp2_with fail;refine bI.mono ?_;rintro e w2 ⟨rfl,⟨vb,h1,h2⟩,h3⟩;have hc0:=h1.cells.1;have hcv:=L8 h2;have aX:Hid (au w w2):=(aO.alloc aA _).trans ⟨h3.os,h3.tape,h3.output,h3.size,fun k hk=>h3.block k aP ae (.inl ae)⟩;rw[gb]at hcv;obtain⟨va,vn,vc,rfl⟩:=sO h2;clear h1 h2 h3 bI;go_wp2;go_ret;exact⟨rfl,aX⟩
def z_(ps:List (ah×Nat)):List Value:=ps.flatMap fun p=>[ay p.1,aj (p.2:Int)]
def lD(w:World)(base:Nat)(v:Value)(ps:List (ah×Nat)):Prop:=w.ownsRow base 343 2 v ps.length (z_ ps)
theorem arU:(prog.info? 343).map (fun i=>(i.zero,i.size,i.bytes))=some (some (.agg #[.string ⟨#[]⟩,aj 0]),2,24):=aI
theorem arV:prog.underlying 281=some (.slice 343):=aI
theorem arW(ps:List (ah×Nat))(p:ah×Nat):z_ (ps++[p])=z_ ps++[ay p.1,aj (p.2:Int)]:=by simp[z_]
theorem ae9:∀(ps:List (ah×Nat)) (j:Nat) (h:j<ps.length),(z_ ps)[j*2]? = some (.string (aq ps[j].1))/\(z_ ps)[j*2+1]? = some (aj (ps[j].2:Int))
 | [],j,h=>by simp at h
 | p :: t,0,h=>by simp[z_]
 | p :: t,j+1,h=>by
  have:=ae9 t j (by simpa using h);have e:z_ (p :: t)=ay p.1 :: aj (p.2:Int) :: z_ t:=by simp[z_]
  rw[e,show(j+1)*2=j*2+1+1 by omega];simpa using this
theorem WD{w:World}{mb base:Nat}{vb vp v:Value}{ps:List (ah×Nat)}(hm:cL w mb vb vp)(ho:lD w base v ps):some mb≠v.ownBlock:=fun e=>by
 obtain⟨_,⟨rfl,_⟩|⟨g,cap,cur,rfl,_,aZ,_⟩⟩:=ho
 ·simp[Value.ownBlock]at e
 ·simp only[Value.ownBlock,xN]at e;subst e;rw[hm]at aZ;simp at aZ
theorem ae_(w:World) :
  aB 130 #[] w fun e w'=>e=.returned (aM (w.heap.size+1))/\(∃vb,cL w' (w.heap.size+1) vb (aH)/\gC w' w.heap.size vb (List.replicate 12 0))/\au w w':=by
 have hmk:∀w:World,(Instr.makeSlice 58 (aj 12) (aj 12)).run prog w=.ok (aD w.heap.size 0 12 12) (w.alloc (.cells (Array.replicate 12 (.int .u8 0)) 5)):=fun _=>by kernel_rfl
 generalize QI:(Array.replicate 12 (Value.int .u8 0))=R at *;go_enter func130,ntmps130;go_wp2;go_ret;have hnew:=World.alloc_heap_new (w.alloc (.cells R 5)) (.cells #[.slice (some ⟨w.heap.size,0,none⟩) 12 12,.slice none 0 0] 283);simp only[dD]at hnew;refine⟨rfl,⟨_,hnew,ar,.inr ⟨w.heap.size,12,R,rfl,bH _,(cD _ _ _ ar).trans (World.alloc_heap_new w _),ar,by unfold maxLen;omega,by rw[<- QI];rfl,by rw[<- QI];rfl⟩⟩,(aO.alloc aA _).alloc ar _⟩
theorem afa(mb base:Nat)(x:ah)(n:Nat)(vb vp:Value)(ps:List (ah×Nat))(w:World)(hm:cL w mb vb vp)(ho:lD w base vp ps)(bX:base<=w.heap.size)(hl:ps.length<=30000)(hn:n<16384) :
  aB 202 #[aM mb,ay x,aj (n:Int)] w fun e w' =>
   e=.returned (.tuple #[])/\∃fK,cL w' mb vb fK/\lD w' base fK (ps++[(x,n)])/\(fK.ownBlock=vp.ownBlock\/∃g,fK.ownBlock=some g/\w.heap.size<=g)/\jS mb w w'/\bn (fun i=>i≠mb/\some i≠vp.ownBlock) w w':=by
 obtain⟨i0,ax,hz0,hz1,hz2⟩:=kJ arU;have hc0:=hm.cells.2;have dA:=ag hm;have HO:=ag ho;have hlt:=hm.lt;have arX:(n:Int)<16384:=ae;clear hm ho;go_enter func202,ntmps202;go_wp2_with (at_builtin;go_loud (refine ae4 _ rfl (.tmp 12) (.tmp 16) 281 rfl base 343 i0 (.agg #[.string ⟨#[]⟩,aj 0]) 2 24 arV ax hz0 hz1 hz2 rfl bD _ ps.length _ rfl (HO.alloc _) (ak w.heap.size 0) 1 1 [ay x,aj (n:Int)] bD rfl rfl ?aC ?c2 ?c3 ?aV ?gh ?_))
 case aC =>
  intro j u hj
  match j,hj with
  | 0,hj=>simp at hj;subst hj;simp[Addr.add]
  | 1,hj=>simp at hj;subst hj;simp[Addr.add]
  | n+2,hj=>simp at hj
 case c2=>intro u hu;simp at hu;rcases hu with rfl|rfl <;> rfl
 case c3=>unfold maxLen;omega
 case aV=>omega
 case gh=>simp;omega
 intro v' w3 hown' hgrow DV hat;obtain⟨va,vn,vc,rfl⟩:=sO hown';have eE:Hid (lD w3 base (.slice va vn vc) (ps++[(x,n)])):=by
  unfold Hid lD;rw[bj,arW];exact hown'
 have hblk:∀i,i<w.heap.size->some i≠vp.ownBlock->w3.heap[i]? = w.heap[i]?:=fun i ax hne =>
  (hgrow.block i aP hne).trans (cD _ _ _ ax)
 have hne:some mb≠vp.ownBlock:=WD (af dA) (af HO);have jR:=ag (dA.kept (hblk mb hlt hne));have qj:Hid (bn (fun i=>i≠mb/\some i≠vp.ownBlock) w w3) :=
  ⟨hgrow.os,hgrow.tape,hgrow.output,a_ ar hgrow.size,fun i ax hp=>hblk i ax hp.2⟩
 have eZ:Hid ((Value.slice va vn vc).ownBlock=vp.ownBlock\/∃g,(Value.slice va vn vc).ownBlock=some g/\w.heap.size<=g):=by
  rcases hat with h|h
  ·exact .inl h
  ·exact .inr ⟨_,h,ar⟩
 have tL:Hid (jS mb w (w3.setCell ⟨mb,1,none⟩ (.slice va vn vc))):=by
  refine jS.QG (af dA) (jR.set1 _) ?_ (((ae5 w _ _ _ _).trans DV ar).trans (DU (af jR) bD _ _ _ _) qj.size);refine h9.trans (h9.same _ _ fun i cur hc=>hblk i (bV.1 hc).1 fun e=>?_) (DU (af jR) bD _ _ _ _) qj.size;obtain⟨_,⟨h0,_⟩|⟨g,cap,cur',h0,_,aZ,_⟩⟩:=af HO
  ·rw[h0]at e;simp[Value.ownBlock]at e
  ·rw[h0]at e;simp only[Value.ownBlock,xN]at e;subst e;rw[aZ]at hc;simp at hc
 have hfz:=jR.frozen;have hc:=jR.cells.2;clear hown' hgrow DV hat hblk hne dA HO;go_wp2_with fail;refine pO (v:=.tuple #[]) (by simp[results,results202]) rfl ?_;refine⟨rfl,_,jR.set1 _,?_,eZ,tL,qj.trans (bn.jD _ fun i h=>h.1)⟩;exact Gl (af eE) (WD (af jR) (af eE)) _ _
theorem arY(mb base:Nat)(x:ah)(n:Nat)(vb vp:Value)(ps:List (ah×Nat))(w:World)(hm:cL w mb vb vp)(ho:lD w base vp ps)(bX:base<=w.heap.size)(hl:ps.length<=30000)(hn:n<16384) :
  aB 202 #[aM mb,ay x,aj (n:Int)] w fun e w' =>
   e=.returned (.tuple #[])/\∃fK,cL w' mb vb fK/\lD w' base fK (ps++[(x,n)])/\(fK.ownBlock=vp.ownBlock\/∃g,fK.ownBlock=some g/\w.heap.size<=g)/\bn (fun i=>i≠mb/\some i≠vp.ownBlock) w w':=by refine(afa mb base x n vb vp ps w hm ho bX hl hn).mono ?_;rintro e w' ⟨rfl,fK,k1,k2,k3,_,k4⟩;exact⟨rfl,fK,k1,k2,k3,k4⟩
theorem afb{w:World}{base:Nat}{v:Value}{ps:List (ah×Nat)}(h:lD w base v ps)(hne:ps≠[]):∃g cap,v=aD g 0 ps.length cap/\g<w.heap.size/\ps.length<=cap/\∀j (hj:j<ps.length),w.cell? (ak g (j*2))=some (.string (aq ps[j].1))/\w.cell? (ak g (j*2+1))=some (aj (ps[j].2:Int)):=by have h0:=h;obtain⟨_,⟨rfl,hz⟩|⟨g,cap,cur,rfl,hb,aZ,hc,_⟩⟩:=h;{exact absurd (fp hz) hne};{refine⟨g,cap,rfl,(bV.1 aZ).1,hc,fun j hj=>?_⟩;have hg:=ae9 ps j hj;have c0:=uy h0 (j*2) ae;have aC:=uy h0 (j*2+1) ae;exact⟨c0.trans hg.1,aC.trans hg.2⟩}
theorem arZ(mb base j0:Nat)(x:ah)(vb vp:Value)(ps:List (ah×Nat))(w:World)(hm:cL w mb vb vp)(ho:lD w base vp ps)(hj:j0<ps.length)(he:ps[j0].1=x)(hb:∀j (h:j<j0),(ps[j].1 == x)=false)(hl:ps.length<=30000) :
  aB 339 #[aM mb,ay x] w fun e w' =>
   e=.returned (.tuple #[aj (ps[j0].2:Int),.bool true])/\au w w':=by
 obtain⟨g,cap,rfl,hg,dt,hcell⟩:=afb ho (by intro h;subst h;simp at hj);have hc0:=hm.cells.2;have HC:=ag hcell;have aX:=ag hb;have bf:=ag he;clear hm ho hcell hb he;go_enter func339,ntmps339;go_wp2_with fail;go_loopw [13] (fun i wr=>∃k:Nat,i=aj k/\k<=j0/\au w wr) (fun i _=>ps.length - (intOf i).toNat);case atStart=>exact⟨0,rfl,cV _,bR _ _⟩
 case round =>(
 obtain⟨k,rfl,hk,hbr⟩:=hrel;have fJ:k<ps.length:=ae;have rR:(k:Int)<(ps.length:Int):=ae;obtain⟨c0,aC⟩:=af HC k fJ;have gu:=(hbr.cell (p:=⟨g,k*2,none⟩) hg).trans c0;have d1:=(hbr.cell (p:=⟨g,k*2+1,none⟩) hg).trans aC;have lh:((aq ps[k].1).toList == (aq x).toList)=(ps[k].1 == x):=CN;have ly:=ag hbr;have hs:=hbr.size;clear c0 aC hbr;by_cases hkj:k=j0;{subst hkj;clear lh hk;rw[af bf]at gu;obtain⟨pn,xm⟩:=bF (ps[k].2);rw[<- xm]at d1;have ar0:=ag xm;clear xm;go_wp2;go_ret2;refine⟨?_,ly.alloc hs _⟩;rw[<- af ar0];rfl};{
 rw[af aX k ae]at lh;generalize ps[k].2=pn at *;generalize aq ps[k].1=pb at *;go_wp2_with fail;go_roundw;case rel=>exact⟨k+1,bW,ae,ly.alloc hs _⟩
 case measure=>simp[intOf];omega})
def ar1(mb:Nat)(w:World)(g:Nat)(fs:List nG):Prop:=g<w.heap.size/\g≠mb/\(∀cur,w.heap[g]?≠some (.cells cur 5 (0,0)))/\∀j (h:j<fs.length),w.cell? (ak g j)=some (.iface fs[j].t fs[j].x)
theorem WE{w:World}{base:Nat}{v:Value}{l:ah}(h:gC w base v l)(hne:l≠[]):∃g cap cur,v=aD g 0 l.length cap/\base<=g/\w.heap[g]? = some (.cells cur 5 (0,0))/\l.length<=cap/\cap<=maxLen:=by obtain⟨_,⟨rfl,hz⟩|⟨g,cap,cur,rfl,hb,aZ,hc,hm,_⟩⟩:=h;{exact absurd (fp hz) hne};{exact⟨g,cap,cur,rfl,hb,aZ,hc,hm⟩}
theorem afc{w:World}{base g n cap:Nat}{l:ah}(h:gC w base (aD g 0 n cap) l)(i:Nat)(c:UInt8)(ax:i<l.length) :
  gC (w.setCell ⟨g,i,none⟩ (.int .u8 c.toNat)) base (aD g 0 n cap) (l.set i c):=by obtain⟨h1,⟨e,hz⟩|⟨g',cap',cur,e,hb,aZ,hc,hm,hs,ht⟩⟩:=h;{cases e};{cases e;refine⟨ar,.inr ⟨g,cap,cur.setIfInBounds i (.int .u8 c.toNat),ar,hb,?_,by rw[JZ];exact hc,hm,by rw[Array.size_setIfInBounds];exact hs,?_⟩⟩;{simp only[World.setCell];rw[fw,aJ rfl,aZ];rfl};{rw[Sw,List.take_set];rw[JZ,ht];rw[SL]}}
theorem ar2{w:World}{base:Nat}{v:Value}{l:ah}(h:gC w base v l):Gk v=l.length:=by obtain⟨_,⟨rfl,h0⟩|⟨g,cap,cur,rfl,_⟩⟩:=h;{exact h0.symm};{rfl}
theorem ar3 (a : Option Addr) (n c : Nat) (W : World) : (method 521 293 (.slice a n c) "beacon/wire.writeTo").run prog W = .ok (342, .slice a n c) W := by kernel_rfl
theorem ar4(args:Array Value)(W:World):(callFunc 342 args).run prog W=.ok (.enter 342 args) W:=aI
section
variable {P:Program} {α:Type}
theorem ar5{g:Operand}{ps:Array Tmp}{assign body:Code}{Q:Exit->Act->World->Prop}{a:Act}{w:World}
  {gf:Nat} {lb:Array Value} (hg:a.eval g=.func (.func gf) #[] lb) (eg:∀args w,(callFunc gf args).run P w=.ok (.enter gf args) w)
  {encs:α->Array Value} {xs:List α} {St Kp Kx:World->World->Prop} (jM:∀x,(encs x).size=ps.size)
  (hseq:∀r,tD P gf lb encs xs St Kp Kx ((w.alloc (.deferred (some []))).alloc (.loop r)))
  (I:Nat->World->Prop) (Ix:Code->World->Prop)
  (ku:∀A B,w.heap.size+2<=A.heap.size->St A B->jN w.heap.size A B)
  (hI:∀i A B,I i A->St A B->I i B) (mY:∀c A B,Ix c A->St A B->Ix c B)
  (uD:∀i A r o,I i A->A.heap[w.heap.size+1]? = some (.loop r)->I i (A.putObj (w.heap.size+1) o))
  (rP:∀c A r o,Ix c A->A.heap[w.heap.size+1]? = some (.loop r)->Ix c (A.putObj (w.heap.size+1) o))
  (h0:∀r,I 0 ((w.alloc (.deferred (some []))).alloc (.loop r)))
  (Kb:World->World->Prop)
  (pU:∀W r r' r'' Wc,W.heap[w.heap.size+1]? = some (.loop r)->Kb (W.putObj (w.heap.size+1) (.loop r')) Wc->jN w.heap.size (W.putObj (w.heap.size+1) (.loop r')) Wc->Kp W (Wc.putObj (w.heap.size+1) (.loop r'')))
  (pT:World->World->Prop)
  (hKx:∀W r r' r'' Wc,W.heap[w.heap.size+1]? = some (.loop r)->pT (W.putObj (w.heap.size+1) (.loop r')) Wc->jN w.heap.size (W.putObj (w.heap.size+1) (.loop r')) Wc->Kx W (Wc.putObj (w.heap.size+1) (.loop r'')))
  (xQ:∀(l i:Nat) (x:α) (V W:World),xs[i]? = some x->I i W->w.heap.size+2<=W.heap.size->W.heap[w.heap.size]? = some (.deferred (some []))->(∃r,W.heap[w.heap.size+1]? = some (.loop r)) ->
   assign.wpIn (Fence.wide.inRound l) 0 P (Exit.then (fun a₁ V'=>V'=V/\body.wpIn (Fence.wide.inRound l) 0 P (Tw w.heap.size Kb pT (I (i+1)) Ix W) a₁ W) (fun _ _ _=>False)) { tmps:=(ps.zip (encs x)).foldl (fun t (p,v)=>t.setIfInBounds p v) a.tmps,defers:=[] } V)
  (hdone:∀W,I xs.length W->W.heap[w.heap.size]? = some (.deferred (some []))->w.heap.size+2<=W.heap.size->Q .normal { a with defers:={ target:=.collected w.heap.size,args:=#[] } :: a.defers } W)
  (uE:∀c W,Ix c W->W.heap[w.heap.size]? = some (.deferred (some []))->w.heap.size+2<=W.heap.size->c.wpIn Fence.wide 0 P Q { a with defers:={ target:=.collected w.heap.size,args:=#[] } :: a.defers } W) :
  (Code.rangeFunc g ps assign body).wpIn Fence.wide 0 P Q a w:=by
 refine wpIn_rangeFunc fun fn hfn=>?_;obtain⟨D,hD⟩:=bF w.heap.size;obtain⟨rec,cO⟩:∃rec:LoopState->Option Code->Loop,rec=fun st pe=>{ state:=st,pending:=pe,fn,tmps:=a.tmps,params:=ps,assign,body,defers:=w.heap.size }:=⟨_,rfl⟩
 have Tx:=run_enterLoop_outer (P:=P) (w:=w) fn a.tmps ps assign body;refine⟨w.heap.size+1,[{ target:=.collected w.heap.size,args:=#[] }],(w.alloc (.deferred (some []))).alloc (.loop (rec .ready none)),
  { target:=.fn (.func gf) lb,args:=#[.func (.yield (w.heap.size+1)) #[] #[]] },(w.alloc (.deferred (some []))).alloc (.loop (rec .ready none)),gf,
  #[.func (.yield (w.heap.size+1)) #[] #[]]++lb,(w.alloc (.deferred (some []))).alloc (.loop (rec .ready none)),?_,?_,fun _ _=>aQ,?_,fun h=>by simp[Fence.wide]at h,?_⟩
 ·rw[cO];exact Tx
 ·simp only[resolve,hg];simp[go_sem]
 ·simp[invoke,go_sem,eg]
 ·obtain⟨W1,hW1⟩:∃W1,(w.alloc (.deferred (some []))).alloc (.loop (rec .ready none))=W1:=⟨_,rfl⟩
  have dH:W1.heap[w.heap.size+1]? = some (.loop (rec .ready none)):=by
   rw[<- hW1];have:=World.alloc_heap_new (w.alloc (.deferred (some []))) (.loop (rec .ready none));rwa [dD]at this
  have eP:W1.heap[w.heap.size]? = some (.deferred (some [])):=by
   rw[<- hW1];exact(cD _ _ _ ar).trans (World.alloc_heap_new w _)
  have hsz:∀W:World,(∃o,W.heap[w.heap.size+1]? = some o)->w.heap.size+2<=W.heap.size:=fun W ⟨o,h⟩=>by
   have:=(bV.1 h).1;omega
  have hs:=hseq (rec .ready none) (w.heap.size+1)
   (fun i W=>I i W/\W.heap[w.heap.size+1]? = some (.loop (rec .ready none))/\W.heap[w.heap.size]? = some (.deferred (some [])))
   (fun W=>∃c,Ix c W/\W.heap[w.heap.size+1]? = some (.loop (rec .done (some c)))/\W.heap[w.heap.size]? = some (.deferred (some [])))
   (fun i A B hA hst=>by
    obtain⟨h1,h2,h3⟩:=hA;have hL:=ku A B (hsz A ⟨_,h2⟩) hst;exact⟨hI i A B h1 hst,hL.2.2.trans h2,hL.2.1.trans h3⟩)
   (fun A B hA hst=>by
    obtain⟨c,h1,h2,h3⟩:=hA;have hL:=ku A B (hsz A ⟨_,h2⟩) hst;exact⟨c,mY c A B h1 hst,hL.2.2.trans h2,hL.2.1.trans h3⟩)
   (fun i x W hx hj=>by
    obtain⟨h1,h2,h3⟩:=hj;have hy:=run_yield (P:=P) (args:=encs x) h2 (by rw[cO];exact jM x);rw[cO]at hy;have hlt:w.heap.size+1<W.heap.size:=(bV.1 h2).1;have e2:(W.putObj (w.heap.size+1) (.loop { rec .ready none with state:=.busy })).heap[w.heap.size+1]? = some (.loop { rec .ready none with state:=.busy }):=World.putObj_heap_same hlt;have e3:(W.putObj (w.heap.size+1) (.loop { rec .ready none with state:=.busy })).heap[w.heap.size]? = some (.deferred (some [])):=(World.putObj_heap_other ae).trans h3;refine⟨fn,_,assign,body,hy,roundIn_of_wpIn hfn (wpIn_mono (xQ _ i x W (W.putObj (w.heap.size+1) (.loop { rec .ready none with state:=.busy })) hx (uD i W _ _ h1 h2) (by rw[World.putObj_size];omega) e3 ⟨_,e2⟩) ?_)⟩;rintro e0 a0 V0 jo;have eQ:e0=.normal:=by cases e0 <;> first|rfl|exact jo.elim
    subst eQ;obtain⟨oD,ie⟩:=jo
    replace oD:=oD.symm
    subst oD;refine⟨_,run_beginRound h2 (by rw[cO]),wpIn_mono ie ?_⟩;have fin:∀(jump:Option Code) (W3:World),jN w.heap.size (W.putObj (w.heap.size+1) (.loop { rec .ready none with state:=.busy })) W3 ->
      (Instr.endRound (w.heap.size+1) jump).run P W3=.ok (.bool jump.isNone) (W3.putObj (w.heap.size+1) (.loop (rec (if jump.isNone then .ready else .done) jump))) /\
      W3.heap[w.heap.size+1]? = some (.loop { rec .ready none with state:=.busy }) /\
      (W3.putObj (w.heap.size+1) (.loop (rec (if jump.isNone then .ready else .done) jump))).heap[w.heap.size+1]? = some (.loop (rec (if jump.isNone then .ready else .done) jump)) /\
      (W3.putObj (w.heap.size+1) (.loop (rec (if jump.isNone then .ready else .done) jump))).heap[w.heap.size]? = some (.deferred (some [])):=fun jump W3 hL=>by
     have l3:=hL.2.2.trans e2;have hr:=run_endRound (P:=P) jump l3;refine⟨?_,l3,World.putObj_heap_same (bV.1 l3).1,(World.putObj_heap_other ae).trans (hL.2.1.trans e3)⟩;rw[hr,cO]
    rintro e a3 W3 hp;cases e with
    | normal =>
     obtain⟨hL,hk,ax⟩:=hp;obtain⟨f1,f2,f3,f4⟩:=fin none W3 hL;exact⟨_,_,f1,.inl ⟨rfl,⟨uD _ _ _ _ ax f2,f3,f4⟩,pU W _ _ _ W3 h2 hk hL⟩⟩
    | ret =>
     obtain⟨hL,hk,ax⟩:=hp;obtain⟨f1,f2,f3,f4⟩:=fin (some .ret) W3 hL;exact⟨_,_,f1,.inr ⟨rfl,⟨.ret,rP _ _ _ _ ax f2,f3,f4⟩,hKx W _ _ _ W3 h2 hk hL⟩⟩
    | exit id =>
     obtain⟨hL,hk,ax⟩:=hp;obtain⟨f1,f2,f3,f4⟩:=fin (some (.exit id)) W3 hL;exact⟨_,_,f1,.inr ⟨rfl,⟨.exit id,rP _ _ _ _ ax f2,f3,f4⟩,hKx W _ _ _ W3 h2 hk hL⟩⟩
    | goto t =>
     obtain⟨hL,hk,ax⟩:=hp;obtain⟨f1,f2,f3,f4⟩:=fin (some (.goto t)) W3 hL;exact⟨_,_,f1,.inr ⟨rfl,⟨.goto t,rP _ _ _ _ ax f2,f3,f4⟩,hKx W _ _ _ W3 h2 hk hL⟩⟩
    | panic ch=>exact hp.elim
    | outgrown=>exact hp.elim)
   (by rw[hW1];exact⟨by rw[<- hW1];exact h0 _,dH,eP⟩)
  refine hs.mono ?_;rintro e W2 ⟨⟨v,rfl⟩,⟨ax,hl,hk⟩|⟨c,ax,hl,hk⟩⟩
  ·have:=run_endLoop (P:=P) hl (by rw[cO];simp);exact⟨none,_,by rw[this,cO],hdone _ (uD _ _ _ _ ax hl) ((World.putObj_heap_other ae).trans hk) (by rw[World.putObj_size];exact hsz _ ⟨_,hl⟩)⟩
  ·have:=run_endLoop (P:=P) hl (by rw[cO];simp);exact⟨some c,_,by rw[this,cO],uE c _ (rP _ _ _ _ ax hl) ((World.putObj_heap_other ae).trans hk) (by rw[World.putObj_size];exact hsz _ ⟨_,hl⟩)⟩
theorem WG{g:Operand}{ps:Array Tmp}{assign body:Code}{Q:Exit->Act->World->Prop}{a:Act}{w:World}
  {gf:Nat} {lb:Array Value} (hg:a.eval g=.func (.func gf) #[] lb) (eg:∀args w,(callFunc gf args).run P w=.ok (.enter gf args) w)
  {encs:α->Array Value} {xs:List α} {St Kp Kx:World->World->Prop} (jM:∀x,(encs x).size=ps.size)
  (hseq:∀r,tD P gf lb encs xs St Kp Kx ((w.alloc (.deferred (some []))).alloc (.loop r)))
  (ks:List Nat) (ng:∀k∈ks,k<w.heap.size)
  (ku:∀A B,St A B->au A B)
  (pU:∀A B,(∀k∈ks,B.heap[k]? = A.heap[k]?)->A.heap.size<=B.heap.size->Kp A B)
  (hKx:∀A B,Kx A B)
  (I:Nat->World->Prop) (Ix:Code->World->Prop)
  (hI:∀i A B,I i A->w.heap.size<=A.heap.size->dF (w.heap.size+1) A B->I i B) (mY:∀c A B,Ix c A->w.heap.size+2<=A.heap.size->dF (w.heap.size+1) A B->Ix c B)
  (h0:I 0 w)
  (xQ:∀(l i:Nat) (x:α) (V W:World),xs[i]? = some x->I i W->w.heap.size+2<=W.heap.size->W.heap[w.heap.size]? = some (.deferred (some []))->(∃r,W.heap[w.heap.size+1]? = some (.loop r)) ->
   assign.wpIn (Fence.wide.inRound l) 0 P (Exit.then (fun a₁ V'=>V'=V/\body.wpIn (Fence.wide.inRound l) 0 P (Oj w.heap.size ks (I (i+1)) Ix W) a₁ W) (fun _ _ _=>False)) { tmps:=(ps.zip (encs x)).foldl (fun t (p,v)=>t.setIfInBounds p v) a.tmps,defers:=[] } V)
  (hdone:∀W,I xs.length W->W.heap[w.heap.size]? = some (.deferred (some []))->w.heap.size+2<=W.heap.size->Q .normal { a with defers:={ target:=.collected w.heap.size,args:=#[] } :: a.defers } W)
  (uE:∀c W,Ix c W->W.heap[w.heap.size]? = some (.deferred (some []))->w.heap.size+2<=W.heap.size->c.wpIn Fence.wide 0 P Q { a with defers:={ target:=.collected w.heap.size,args:=#[] } :: a.defers } W) :
  (Code.rangeFunc g ps assign body).wpIn Fence.wide 0 P Q a w:=by
 have hput:∀(A:World) (r:Loop) (o:Obj),A.heap[w.heap.size+1]? = some (.loop r)->dF (w.heap.size+1) A (A.putObj (w.heap.size+1) o):=fun A r o cO=>dF.put A _ o;refine ar5 (Kb:=fun A B=>∀k∈ks,B.heap[k]? = A.heap[k]?) (pT:=fun _ _=>True) hg eg jM hseq (fun i W=>I i W/\w.heap.size+2<=W.heap.size) (fun c W=>Ix c W/\w.heap.size+2<=W.heap.size) ?_ ?_ ?_ ?_ ?_ ?_ ?_ ?_ ?_ (fun W h=>hdone W h.1) (fun c W h=>uE c W h.1);{intro A B hA hst;have:=ku A B hst;exact⟨this.size,this.block _ ae,this.block _ ae⟩};{intro i A B hA hst;have:=ku A B hst;exact⟨hI i A B hA.1 ae (dF.zt this),a_ hA.2 this.size⟩};{intro c A B hA hst;have:=ku A B hst;exact⟨mY c A B hA.1 hA.2 (dF.zt this),a_ hA.2 this.size⟩};{exact fun i A r o h cO=>⟨hI i A _ h.1 ae (hput A r o cO),by rw[World.putObj_size];exact h.2⟩};{exact fun c A r o h cO=>⟨mY c A _ h.1 h.2 (hput A r o cO),by rw[World.putObj_size];exact h.2⟩};{exact fun r=>⟨hI 0 w _ h0 aA (dF.zt ((aO.alloc aA _).alloc ar _)),ar⟩};{intro W r r' r'' Wc cO hk hL;refine pU _ _ (fun k gF=>?_) ?_;{have:=ng k gF;rw[World.putObj_heap_other ae,hk k gF,World.putObj_heap_other ae]};{have:=hL.1;rw[World.putObj_size]at this ⊢;exact this}};{intro W r r' r'' Wc cO hk hL;exact hKx _ _};{
 intro l i x V W hx ax hsz eP oI;refine wpIn_mono (xQ l i x V W hx ax.1 hsz eP oI) ?_;rintro e0 a0 V0 jo;have eQ:e0=.normal:=by cases e0 <;> first|rfl|exact jo.elim
 subst eQ;obtain⟨oD,ie⟩:=jo;refine⟨oD,wpIn_mono ie ?_⟩;rintro e a3 W3 hp;cases e with
 | normal=>exact⟨hp.1,hp.2.1,hp.2.2,a_ hsz hp.1.1⟩
 | ret=>exact⟨hp.1,aQ,hp.2,a_ hsz hp.1.1⟩
 | exit id=>exact⟨hp.1,aQ,hp.2,a_ hsz hp.1.1⟩
 | goto t=>exact⟨hp.1,aQ,hp.2,a_ hsz hp.1.1⟩
 | panic ch=>exact hp.elim
 | outgrown=>exact hp.elim}
theorem aR.kept{W W':World}{k:Nat}{v:Value}{t:TypeId}(h:aR W k v t)(e:W'.heap[k]? = W.heap[k]?):aR W' k v t:=e.trans h
end
section
attribute [local go_sem] Oper.semAt_some undef
theorem qm{w w':World}{base n sz:Nat}{t:TypeId}{v:Value}{xs:List Value}(h:w.ownsRow base t sz v n xs)(hg:∀g,v.ownBlock=some g->w'.heap[g]? = w.heap[g]?):w'.ownsRow base t sz v n xs:=by obtain⟨h1,h2⟩:=h;refine⟨h1,?_⟩;rcases h2 with h2|⟨g,cap,cur,rfl,hb,aZ,hr⟩;{exact .inl h2};{exact .inr ⟨g,cap,cur,rfl,hb,(hg g rfl).trans aZ,hr⟩}
theorem DW{W:World}{base g:Nat}{v:Value}{l:ah}(h:gC W base v l)(hg:v.ownBlock=some g):∃cur,W.heap[g]? = some (.cells cur 5 (0,0)):=by obtain⟨_,⟨rfl,_⟩|⟨g',cap,cur,rfl,_,aZ,_⟩⟩:=h;{simp[Value.ownBlock]at hg};{simp only[Value.ownBlock,xN]at hg;subst hg;exact⟨cur,aZ⟩}
theorem ar6(n:Nat)(h:n<16384):bits .or .i64 49152 (n:Int)=((49152+n:Nat):Int):=by
 have h1:=KO 49152 n ae ae;have h2:49152+n=49152 ||| n:=Nat.two_pow_add_eq_or_of_lt (i:=14) (b:=n) ae 3
 rw[h2];exact h1
theorem ar7 (s : ByteArray) (W : World) : (method 521 291 (.string s) "beacon/wire.writeTo").run prog W = .ok (338, .string s) W := by kernel_rfl
theorem ar8(args:Array Value)(W:World):(callFunc 338 args).run prog W=.ok (.enter 338 args) W:=aI
def QJ(n:Nat):ah:=[ax (49152+n),bO (49152+n)]
end
structure bG(mb base:Nat)(w w':World):Prop where
 os:w'.os=w.os
 tape:w'.tape=w.tape
 output:w'.output=w.output
 size:w.heap.size<=w'.heap.size
 block:∀i,i<w.heap.size->i≠mb->(i<base\/((∀cur,w.heap[i]?≠some (.cells cur 5 (0,0)))/\∀cur,w.heap[i]?≠some (.cells cur 343 (0,0))))->w'.heap[i]? = w.heap[i]?
 L9:jS mb w w'
section
variable {mb base:Nat} {A B C:World}
theorem bG.refl(mb base:Nat)(w:World):bG mb base w w:=⟨rfl,rfl,rfl,bH _,fun _ _ _ _=>rfl,jS.refl _ _⟩
theorem bG.same{w:World}(h:bG mb base w A)(h1:B.os=A.os)(h2:B.tape=A.tape)(h3:B.output=A.output)(h4:A.heap.size<=B.heap.size)(hb:∀i,i<w.heap.size->B.heap[i]? = A.heap[i]?):bG mb base w B :=
 ⟨h1.trans h.os,h2.trans h.tape,h3.trans h.output,a_ h.size h4,fun i ax hm hp=>(hb i ax).trans (h.block i ax hm hp),h.L9.same hb⟩
theorem bG.trans(h:bG mb base A B)(k:bG mb base B C):bG mb base A C :=
 ⟨k.os.trans h.os,k.tape.trans h.tape,k.output.trans h.output,a_ h.size k.size,fun i ax hm hp=>by
  have e:=h.block i ax hm hp;refine(k.block i (dP ax h.size) hm ?_).trans e;rw[e];exact hp,h.L9.trans k.L9 h.size⟩
theorem bG.pE(h:au A B):bG mb base A B:=⟨h.os,h.tape,h.output,h.size,fun i ax _ _=>h.block i ax,jS.below h⟩
theorem bG.afd(h:kH mb base A B):bG mb base A B:=⟨h.os,h.tape,h.output,h.size,fun i ax hm hp=>h.block i ax hm (hp.imp id And.left),h.WA⟩
theorem bG.keeps{w:World}{d:Nat}(h:bG mb base w A)(hk:dF d A B)(hd:w.heap.size<=d):bG mb base w B :=
 h.same hk.os hk.tape hk.output hk.size fun i ax=>hk.block i (dP ax h.size) ae
theorem bK.tg{w w':World}(h:bK w)(ht:bG mb base w w')(hb:0<base)(hm:0<mb):bK w':=by obtain⟨h0,m,hc⟩:=h;exact⟨dP h0 ht.size,m,(dh (ht.block 0 h0 ae (.inl hb))).trans hc⟩
theorem bG.afe{w w':World}(h:bG mb base w w'){vb vp v1 p1:Value}(hm:cL w mb vb vp)(hm1:cL w' mb v1 p1){g k:Nat}(hg:v1.ownBlock=some g)(hk:Gk vb<=k)(hb:base<=g){cur:Array Value}(aZ:w'.heap[g]? = some (.cells cur 5 (0,0)))(u:Value):bG mb base w (w'.setCell ⟨g,k,none⟩ u) :=
 ⟨h.os,h.tape,h.output,by simpa [World.setCell]using h.size,fun i ax hm hp=>by
  by_cases e:i=g
  ·subst e;have he:=h.block i ax hm hp;rcases hp with hp|hp
   ·omega
   ·rw[he]at aZ;exact absurd aZ (hp.1 cur)
  ·exact(cZ _ _ _ _ e).trans (h.block i ax hm hp),h.L9.arD hm hm1 hg hk aZ u⟩
theorem bG.box{w w':World}(ht:bG mb base w w'){k:Nat}{cs:Array Value}{t:TypeId}(h:w.heap[k]? = some (.cells cs t))(hm:k≠mb)(h1:t≠5)(h2:t≠343):w'.heap[k]? = some (.cells cs t) :=
 (ht.block k (bV.1 h).1 hm (.inr ⟨fun c hc=>by rw[h]at hc;simp at hc;exact h1 hc.2,fun c hc=>by rw[h]at hc;simp at hc;exact h2 hc.2⟩)).trans h
end
theorem L_{w:World}{d:Nat}{o:Obj}(h:w.heap[d]? = some o)(ho:∀cs t f,o≠.cells cs t f):(∀cur,w.heap[d]?≠some (.cells cur 5 (0,0)))/\∀cur,w.heap[d]?≠some (.cells cur 343 (0,0)) :=
 ⟨fun c hc=>by rw[h]at hc;exact ho _ _ _ (fq hc),fun c hc=>by rw[h]at hc;exact ho _ _ _ (fq hc)⟩
theorem bG.other{mb base:Nat}{w w':World}(ht:bG mb base w w'){d:Nat}{o:Obj}(h:w.heap[d]? = some o)(hm:d≠mb)(ho:∀cs t f,o≠.cells cs t f):w'.heap[d]? = w.heap[d]? :=
 ht.block d (bV.1 h).1 hm (.inr (L_ h ho))
abbrev cI:=List (ah×Nat)
def nI(w:World)(mb base d:Nat)(l:ah)(ps:cI):Prop:=∃vb vp,cL w mb vb vp/\gC w base vb l/\lD w base vp ps/\(∀g,vb.ownBlock=some g->g≠d)/\∀g,vp.ownBlock=some g->g≠d
def dK(w:World)(mb base:Nat)(l:ah)(ps:cI):Prop:=∃vb vp,cL w mb vb vp/\gC w base vb l/\lD w base vp ps
theorem DX{W:World}{base g:Nat}{v:Value}{ps:cI}(h:lD W base v ps)(hg:v.ownBlock=some g):∃cur,W.heap[g]? = some (.cells cur 343 (0,0)):=by obtain⟨_,⟨rfl,_⟩|⟨g',cap,cur,rfl,_,aZ,_⟩⟩:=h;{simp[Value.ownBlock]at hg};{simp only[Value.ownBlock,xN]at hg;subst hg;exact⟨cur,aZ⟩}
section
variable {w w':World} {mb base d:Nat} {l:ah} {ps:cI}
theorem nI.msg(h:nI w mb base d l ps):dK w mb base l ps:=by obtain⟨vb,vp,h1,h2,h3,_⟩:=h;exact⟨vb,vp,h1,h2,h3⟩
theorem dK.lt(h:dK w mb base l ps):mb<w.heap.size:=by obtain⟨vb,vp,h1,_⟩:=h;exact h1.lt
theorem dK.away(h:dK w mb base l ps)(hd:(∀cur,w.heap[d]?≠some (.cells cur 5 (0,0)))/\∀cur,w.heap[d]?≠some (.cells cur 343 (0,0))):nI w mb base d l ps:=by obtain⟨vb,vp,h1,h2,h3⟩:=h;refine⟨vb,vp,h1,h2,h3,fun g hg e=>?_,fun g hg e=>?_⟩;{obtain⟨cur,aZ⟩:=DW h2 hg;rw[e]at aZ;exact hd.1 cur aZ};{obtain⟨cur,aZ⟩:=DX h3 hg;rw[e]at aZ;exact hd.2 cur aZ}
theorem dK.ar9(h:dK w mb base l ps)(hd:w.heap.size<=d):nI w mb base d l ps:=h.away ⟨fun cur hc=>by have:=(bV.1 hc).1;omega,fun cur hc=>by have:=(bV.1 hc).1;omega⟩
theorem dK.below(h:dK w mb base l ps)(hb:au w w'):dK w' mb base l ps:=by obtain⟨vb,vp,h1,h2,h3⟩:=h;exact⟨vb,vp,h1.kept (hb.block mb h1.lt),ic h2 hb,ic h3 hb⟩
theorem nI.keeps(h:nI w mb base d l ps)(hk:dF d w w')(hm:mb≠d):nI w' mb base d l ps:=by obtain⟨vb,vp,h1,h2,h3,h4,h5⟩:=h;exact⟨vb,vp,h1.kept (hk.block mb h1.lt hm),qm h2 fun g hg=>hk.block g (iW h2 g hg).2 (h4 g hg),qm h3 fun g hg=>hk.block g (iW h3 g hg).2 (h5 g hg),h4,h5⟩
theorem nI.put(h:nI w mb base d l ps)(o:Obj)(hm:mb≠d):dK (w.putObj d o) mb base l ps:=(h.keeps (dF.put (d:=d) w d o) hm).msg
end
theorem aff{w w':World}{mb base:Nat}{vb vp:Value}{ps:cI}(h:lD w base vp ps)(hm:cL w mb vb vp)(ht:kH mb base w w'):lD w' base vp ps :=
 qm h fun g hg=>by
  obtain⟨cur,aZ⟩:=DX h hg;refine ht.block g (iW h g hg).2 (fun e=>?_) (.inr fun c hc=>?_)
  ·rw[e,hm]at aZ;simp at aZ
  ·rw[aZ]at hc;simp at hc
theorem Ma(mb base g cap:Nat)(fs:List nG)(l:ah)(ps:cI)(w:World)(hm:dK w mb base l ps)(bX:base<=w.heap.size)
  (bq:∀f∈fs,f.BM) (hlt:g<w.heap.size) (vz:g≠mb) (QH:g<base\/∀cur,w.heap[g]?≠some (.cells cur 5 (0,0))) (nB:∀j (h:j<fs.length),w.cell? (ak g j)=some (.iface fs[j].t fs[j].x))
  (hn:fs.length<=cap) (hc:fs.length<=1000000) (hl:l.length+(ew fs).length<=1000000) :
  aB 139 #[aM mb,aD g 0 fs.length cap] w fun e w' =>
   e=.returned (.tuple #[])/\dK w' mb base (l++ew fs) ps/\bG mb base w w':=by obtain⟨vb,vp,h1,h2,h3⟩:=hm;refine(L0 mb base g cap fs vb vp l w h1 h2 bX bq hlt vz QH nB hn hc hl).mono ?_;rintro e w' ⟨rfl,⟨cJ,k1,k2⟩,k3⟩;exact⟨rfl,⟨cJ,vp,k1,k2,aff h3 h1 k3⟩,bG.afd k3⟩
def rq(ps:cI)(x:ah)(n:Nat):cI:=if n<16384 then ps++[(x,n)]else ps
theorem afg(ps:cI)(x:ah)(n:Nat):(rq ps x n).length<=ps.length+1:=by unfold rq;split <;> simp
theorem ar_(ps:cI)(x:ah)(n:Nat):ps.length<=(rq ps x n).length:=by unfold rq;split <;> simp
theorem asa(mb:Nat)(x:ah)(n:Nat)(w:World)(hn:¬n<16384)(lq:n<=1000000) :
  aB 202 #[aM mb,ay x,aj (n:Int)] w fun e w'=>e=.returned (.tuple #[])/\w'=w:=by have arX:¬(n:Int)<16384:=ae;go_enter func202,ntmps202;go_wp2;refine pO (v:=.tuple #[]) (by simp[results,results202]) rfl ?_;exact⟨rfl,rfl⟩
def jI:cI->ah->Option Nat
 | [],_=>none
 | p :: t,x=>if p.1 == x then some p.2 else jI t x
theorem afh:∀(ps:cI) (x:ah),jI ps x=none->∀j (h:j<ps.length),(ps[j].1 == x)=false
 | [],_,_,j,h=>by simp at h
 | p :: t,x,hf,j,h=>by
  unfold jI at hf;split at hf;{cases hf};{
  rename_i hp;match j,h with
  | 0,_=>simpa using hp
  | j+1,h=>exact afh t x hf j (by simpa using h)}
theorem WH:∀(ps:cI) (x:ah) (n:Nat),jI ps x=some n->∃j,∃h:j<ps.length,ps[j].2=n/\ps[j].1=x/\∀i (ax:i<j),(ps[i].1 == x)=false
 | [],_,_,hf=>by cases hf
 | p :: t,x,n,hf=>by
  unfold jI at hf;split at hf;{rename_i hp;exact⟨0,ar,by simpa using hf,by simpa using hp,fun i ax=>ae⟩};{
  rename_i hp;obtain⟨j,hj,h1,h2,h3⟩:=WH t x n hf;refine⟨j+1,by simpa using hj,by simpa using h1,by simpa using h2,fun i ax=>?_⟩;match i,ax with
  | 0,_=>simpa using hp
  | i+1,ax=>simpa using h3 i ae}
theorem asb(mb base:Nat)(x:ah)(vb vp:Value)(ps:cI)(w:World)(hm:cL w mb vb vp)(ho:lD w base vp ps)(hb:∀j (h:j<ps.length),(ps[j].1 == x)=false)(hl:ps.length<=30000) :
  aB 339 #[aM mb,ay x] w fun e w' =>
   e=.returned (.tuple #[aj 0,.bool false])/\au w w':=by
 by_cases hne:ps = [];{subst hne;obtain⟨a,n,c,rfl⟩:=sO ho;obtain rfl:n=0:=by{obtain⟨_,⟨e,hz⟩|⟨g',cap',cur',e,_⟩⟩:=ho;{cases e;rfl};{cases e;rfl}};have hc0:=hm.cells.2;clear hm ho hb;go_enter func339,ntmps339;go_wp2_with fail;refine wp_loop_rounds 1 ?_;rw[rounds_succ];go_wp2;go_ret2;exact⟨rfl,bR _ _⟩};obtain⟨g,cap,rfl,hg,dt,hcell⟩:=afb ho hne;have hc0:=hm.cells.2;have HC:=ag hcell;have aX:=ag hb;clear hm ho hcell hb hne;go_enter func339,ntmps339;go_wp2_with fail;go_loopw [13] (fun i wr=>∃k:Nat,i=aj k/\k<=ps.length/\au w wr) (fun i _=>ps.length - (intOf i).toNat);case atStart=>exact⟨0,rfl,cV _,bR _ _⟩
 case round =>(
 obtain⟨k,rfl,hk,hbr⟩:=hrel;have ly:=ag hbr;have hs:=hbr.size;by_cases fJ:k<ps.length;{
 have rR:(k:Int)<(ps.length:Int):=ae;obtain⟨c0,aC⟩:=af HC k fJ;have gu:=(hbr.cell (p:=⟨g,k*2,none⟩) hg).trans c0;have d1:=(hbr.cell (p:=⟨g,k*2+1,none⟩) hg).trans aC;have lh:((aq ps[k].1).toList == (aq x).toList)=(ps[k].1 == x):=CN;clear c0 aC hbr;rw[af aX k fJ]at lh;generalize ps[k].2=pn at *;generalize aq ps[k].1=pb at *;go_wp2_with fail;go_roundw;case rel=>exact⟨k+1,bW,ae,ly.alloc hs _⟩
 case measure=>simp[intOf];omega};{obtain rfl:k=ps.length:=ae;clear hbr;go_wp2;go_ret2;exact⟨rfl,ly⟩})
theorem asc(mb base:Nat)(x:ah)(l:ah)(ps:cI)(w:World)(hm:dK w mb base l ps)(hl:ps.length<=30000) :
  aB 339 #[aM mb,ay x] w fun e w' =>
   e=.returned (.tuple #[aj ((jI ps x).getD 0:Nat),.bool (jI ps x).isSome])/\au w w':=by
 obtain⟨vb,vp,h1,h2,h3⟩:=hm;cases hf:jI ps x with
 | none=>exact asb mb base x vb vp ps w h1 h3 (afh ps x hf) hl
 | some n =>{obtain⟨j,hj,e1,e2,e3⟩:=WH ps x n hf;have:=arZ mb base j x vb vp ps w h1 h3 hj e2 e3 hl;rw[e1]at this;exact this}
section
variable {P:Program} {ops:Array Oper} {Q:Exit->Act->World->Prop} {S:World->Prop} {l:Nat}
def jh(Q:Exit->Act->World->Prop)(e:Exit)(a:Act)(w:World):Prop:=e=.normal/\Q .normal a w
theorem jh.mm{e:Exit}{a:Act}{w:World}(h:jh Q e a w)(he:e≠.normal):False:=he h.1
theorem jh.out(h:LetsOut (jh Q)):False:=by obtain⟨a,w,h⟩:=h;cases h.1
theorem ase{i:Nat}{K K':Act->World->Prop}(hK:∀a w,K a w->K' a w){a:Act}{w:World}(h:wpOp P ops (jh Q) i K a w):wpOpIn Fence.wide 0 P ops Q i K' a w:=by
 unfold wpOp at h;unfold wpOpIn;split
 ·rename_i ho;simp only[ho]at h;exact hK _ _ h
 ·rename_i o ho;simp only[ho]at h;split
  ·rename_i hw;simp only[hw,gZ]at h;rcases h with h|⟨_,h⟩
   ·unfold Oper.wp at h;unfold Oper.wpIn;refine⟨fun _ _=>aQ,?_⟩;rw[show Fence.wide.round=none from rfl,Oper.semAt_none];generalize (execOp a.eval o).run P w=r at *;cases r with
    | ok x w' =>
     cases x <;> simp only[Oper.upon]at h
     all_goals first
      | exact hK _ _ h
      | exact h.elim
      | (refine⟨fun h'=>by simp[Fence.wide]at h',callsIn_wide.2 (h.mono fun e w'' he=>?_)⟩
         cases e with
         | returned v=>exact hK _ _ he
         | panicked c=>exact(jh.mm he ar).elim
         | outgrown=>exact(jh.out he).elim)
      | skip
     exact⟨fun h'=>by simp[Fence.wide]at h',fun c cs _=>let ⟨v,w'',r,s⟩:=h c cs;⟨v,w'',hK _ _ r,stepsIn_wide.2 s⟩⟩
    | halt x w' =>
     cases x <;> simp only[Oper.upon]at h
     all_goals first
      | exact(jh.mm h ar).elim
      | exact h.elim
   ·exact(jh.out h).elim
  ·rename_i hw;simp only[hw]at h;exact⟨fun _ _=>aQ,hK _ _ h⟩
theorem afi{md:Region.Mode} : ∀(fuel:Nat) (listed:Array Bool) (a:Act) (w:World),wpAnyH P md ops (jh Q) S fuel listed a w->wpAnyIn Fence.wide 0 P md ops Q fuel listed a w
 | 0,_,_,_,h=>⟨h.1,h.2.2⟩
 | fuel+1,_,_,_,h=>⟨fun h0=>(h.1 h0).2,fun i ax=>ase (fun a' w' h'=>afi fuel _ a' w' h'.2) (h.2 i ax)⟩
theorem afj{id:Nat}{a:Act}{w:World}(S:World->Prop)(hm:P.follows .mixedOrders=true)(gz:∀(i:Nat) (o:Oper),ops[i]? = some o->∀c,o.op≠.defer c)(hS:S w.drew)
  (h:S w.drew->wpAnyH P .any ops (jh Q) S ops.size (Array.replicate ops.size false) a w.drew):(Code.region id ops true).wpIn (Fence.wide.inRound l) 0 P Q a w :=
 E5 hm gz (afi _ _ _ _ (h hS))
end
section
attribute [local go_sem] Oper.semAt_some undef
def Aa(e:ah):ah:=(Lib.cut e [46]).1
theorem WI(a b:ah)(h:(46:UInt8) ∉ a):Aa (a++46 :: b)=a:=by unfold Aa Lib.cut;rw[Lib.index_one,N8 46 a b h,aJ ae];simp[EM]
theorem WJ(l:ah)(h:(46:UInt8) ∉ l):Aa l=l:=by unfold Aa Lib.cut;rw[Lib.index_one,N7 46 l h,aF bD]
theorem asf(l:ah):(Aa l).length+(ik l).length<=l.length:=by by_cases hc:(46:UInt8)∈l;{obtain⟨a,b,rfl,ha⟩:=JW hc;rw[CR a b ha,WI a b ha];simp};{rw[Fc l hc,WJ l hc];simp}
theorem WL:∀(f:Nat) (n:ah),n.length<=f->(cg n).length<=n.length
 | 0,n,h=>by obtain rfl:n = []:=fp ae;simp[rS]
 | f+1,n,h=>by by_cases hn:n = [];{subst hn;simp[rS]};{have h1:=CS n hn;rw[qP n hn,bP];have:=WL f (ik n) ae;omega}
def qo(e:ah):ah:=UInt8.ofNat (Aa e).length :: Aa e
def iH(ps:cI):Prop:=∀p∈ps,p.2<16384
def gO:List ah->ah->cI->ah×cI
 | [],l,ps=>(l++[0],ps)
 | e :: es,l,ps=>match jI ps e with
  | some n=>(l++QJ n,ps)
  | none=>gO es (l++qo e) (rq ps e l.length)
theorem Mb{e:ah}{es:List ah}{l:ah}{ps:cI}{n:Nat}(h:jI ps e=some n):gO (e :: es) l ps=(l++QJ n,ps):=by rw[gO,h]
theorem Mc{e:ah}{es:List ah}{l:ah}{ps:cI}(h:jI ps e=none):gO (e :: es) l ps=gO es (l++qo e) (rq ps e l.length):=by rw[gO,h]
theorem afk{ps:cI}(h:iH ps)(x:ah)(n:Nat):iH (rq ps x n):=by intro p hp;unfold rq at hp;split at hp;{rename_i hn;rw[gm]at hp;rcases hp with hp|hp;{exact h p hp};{simp at hp;subst hp;exact hn}};{exact h p hp}
theorem asg{ps:cI}(h:iH ps){x:ah}{n:Nat}(hf:jI ps x=some n):n<16384:=by obtain⟨j,hj,e1,_⟩:=WH ps x n hf;rw[<- e1];exact h _ (cM hj)
theorem ash(mb base:Nat)(x:ah)(n:Nat)(l:ah)(ps:cI)(vb vp:Value)(w:World)(h1:cL w mb vb vp)(h2:gC w base vb l)(h3:lD w base vp ps)(bX:base<=w.heap.size)(hl:ps.length<=30000)(hn:n<=1000000) :
  aB 202 #[aM mb,ay x,aj (n:Int)] w fun e w' =>
   e=.returned (.tuple #[])/\∃fK,cL w' mb vb fK/\gC w' base vb l/\lD w' base fK (rq ps x n)/\bG mb base w w':=by unfold rq;split;{rename_i hlt;refine(afa mb base x n vb vp ps w h1 h3 bX hl hlt).mono ?_;rintro e w' ⟨rfl,fK,k1,k2,_,k5,k4⟩;refine⟨rfl,fK,k1,qm h2 fun g hg=>?_,k2,k4.os,k4.tape,k4.output,k4.size,fun i ax yi hp=>?_,k5⟩;{obtain⟨cur,aZ⟩:=DW h2 hg;refine k4.block g (iW h2 g hg).2 ⟨fun e=>?_,fun e=>?_⟩;{rw[e,h1]at aZ;simp at aZ};{obtain⟨cur',QK⟩:=DX h3 e.symm;rw[aZ]at QK;simp at QK}};{refine k4.block i ax ⟨yi,fun e=>?_⟩;rcases hp with hp|hp;{have:=(iW h3 i e.symm).1;omega};{obtain⟨cur',QK⟩:=DX h3 e.symm;exact hp.2 cur' QK}}};{rename_i hlt;refine(asa mb x n w hlt hn).mono ?_;rintro e w' ⟨rfl,rfl⟩;exact⟨rfl,vp,h1,h2,h3,bG.refl _ _ _⟩}
theorem asi(mb base:Nat)(x:ah)(l:ah)(ps:cI)(w:World)(hm:dK w mb base l ps)(hg:bK w)(bX:base<=w.heap.size)(hb0:0<base)(hm0:0<mb)(g_:x.length<=3000)(bq:iH ps)(hpl:ps.length+x.length<=30000)(hl:l.length<=60000) :
  aB 338 #[ay x,aM mb] w fun e w' =>
   e=.returned (.tuple #[])/\dK w' mb base (gO (cg x) l ps).1 (gO (cg x) l ps).2/\bG mb base w w':=by
 refine(cj (n:=0)).1 ?_;refine callsIn_of_wp_marks func338 rfl aQ ?_;simp only[ntmps338,pc,bP,fy,Nat.reduceAdd,Nat.reduceSub,o_,pL,pN,pM,gb,fU];have dA:=ag hm;have HG:=ag hg;have cF:=ag bq;have hlt:=hm.lt;have hg0:=hg.1;have hmx:prog.follows .mixedOrders=true:=aI;have asj:=WL _ x aA;clear hm hg bq;obtain⟨R,hR⟩:=bF (gO (cg x) l ps);rw[<- hR];have bC:=ag hR;clear hR;gi_wp2_with fail;refine⟨aQ,rfl,?_⟩;refine(cj.2 (Om _ _)).mono ?_;rintro e W2 ⟨rfl,e4,hb2,e2⟩;have e0:aR W2 w.heap.size (aM mb) 216:=(aR.l7 _ _ _).below hb2 ar;have e5:au w W2:=(aO.alloc aA _).trans (hb2.mono ar);simp only[dD]at e4 e2;have s2:w.heap.size+2<=W2.heap.size:=ae;have tM:=ag (dA.below e5);have tO:Hid (bG mb base w W2):=bG.pE e5;have H8:=ag (HG.below e5);clear e4 e5 hb2;gi_wp2_with fail;have hgrow:∀r,au W2 ((W2.alloc (.deferred (some []))).alloc (.loop r)):=fun r=>(aO.alloc aA _).alloc ar _;refine WG (xs:=cg x) (encs:=fun e:ah=>#[ay e]) (St:=fun A B=>au A B) (Kp:=fun A B=>A.heap.size<=B.heap.size/\B.heap[0]? = A.heap[0]?) (Kx:=fun _ _=>True) (gf:=241) (lb:=#[aM (w.heap.size+1)]) rfl (enters_of func241 aI rfl) (fun _=>rfl) ?seq [0] aP (fun A B h=>h) (fun A B h h'=>⟨h',h _ ar⟩) (fun _ _=>aQ) (fun i W=>(∃y li nJ,(cg x).drop i=cg y/\R=gO (cg y) li nJ/\li.length+y.length<=l.length+x.length+i/\nJ.length<=ps.length+i/\iH nJ/\nI W mb base (W2.heap.size+1) li nJ)/\bG mb base w W/\aR W w.heap.size (aM mb) 216/\bK W) (fun c W=>c=.ret/\nI W mb base (W2.heap.size+1) R.1 R.2/\bG mb base w W) (fun i A B h hA hk=>by{obtain⟨⟨y,li,nJ,q1,q2,q3,q4,q5,q6⟩,hT,hB,hG⟩:=h;refine⟨⟨y,li,nJ,q1,q2,q3,q4,q5,q6.keeps hk ae⟩,hT.keeps hk ae,aR.kept hB (hk.block _ (aR.lt hB) ae),?_⟩;obtain⟨g0,m,hc⟩:=hG;exact⟨dP g0 hk.size,m,(dh (hk.block 0 g0 ae)).trans hc⟩}) (fun c A B h hA hk=>⟨h.1,h.2.1.keeps hk ae,h.2.2.keeps hk ae⟩) ⟨⟨x,l,ps,rfl,bC,ae,ae,cF,tM.ar9 ae⟩,tO,e0,H8⟩ ?round ?done ?stop;case seq =>(intro r;have hg:=hgrow r;exact Oo _ x _ ((hg.cell (p:=⟨w.heap.size+1,0,none⟩) (by show w.heap.size+1<W2.heap.size;omega)).trans e2) (H8.below hg) g_)
 case round =>(
 intro l' i y' asl W hy hI hsz eP oI;obtain⟨⟨y,li,nJ,q1,q2,q3,q4,q5,q6⟩,hT,hB,QL⟩:=hI;have yu:i<(cg x).length:=(jX.1 hy).1;have zN:y'.length<=x.length:=Ol (ux hy);have yJ:y≠[]:=by{intro h;subst h;rw[rS]at q1;have:=dE List.length q1;simp at this;omega};have asm:y'=y/\(cg x).drop (i+1)=cg (ik y):=by{
 rw[qP y yJ]at q1;have h1:((cg x).drop i)[0]? = some y':=by simpa using hy
 rw[q1]at h1;refine⟨by simpa using h1.symm,?_⟩;rw[<- rF,q1];rfl};obtain⟨rfl,q7⟩:=asm;rw[qP y' yJ]at q2;have asn:=asf y';have I6:=asc mb base y' li nJ W q6.msg ae;have cS:=ag hT;have aX:=ag hB;have afl:=ag QL;have Md:=ag q6;have DY:=q6.msg.lt;have cb:=aR.cell hB;have QM:=ag q7;have rp:=ag q5;have rX:=ag eP;have Ab:=ag oI;have aso:=hT.size;clear hT hB QL q6 q1 q7 eP oI hy;cases hf:jI nJ y' with
 | some pn =>{
 have xm:=asg (af rp) hf;rw[hf]at I6;have vA:Hid (aB 339 #[aM mb,ay y'] W (bQ (.tuple #[aj (pn:Int),.bool true]) W)):=I6;rw[Mb hf]at q2;have ju:=ag q2;clear q2 hf I6;gi_wp2_with fail;refine⟨aQ,?_⟩;gi_wp2_with fail;refine⟨aQ,rfl,?_⟩;refine(CallsIn.inRound l' (cj.2 (af vA))).mono ?_;rintro e W3 ⟨rfl,hb3⟩;have sq:=Md.msg.below hb3;have ig:=aR.below aX hb3 (aR.lt (af aX));have hs3:=hb3.size;have c3:=aR.cell ig;have asp:=ar6 pn xm;have hwr:IntKind.u16.wrap ((49152+pn:Nat):Int)=((49152+pn:Nat):Int):=by rw[zh];omega
 have hnew:=World.alloc_heap_new W3 (.cells #[.iface 284 (.int .u16 ((49152+pn:Nat):Int))] 297);have sP:=ag (Ma mb base W3.heap.size 1 [jT (49152+pn)] li nJ (W3.alloc (.cells #[.iface 284 (.int .u16 ((49152+pn:Nat):Int))] 297)) (sq.below (aO.alloc aA _)) aP (fun f hf=>by simp at hf;subst hf;exact BO _ ae) ar (by have:=sq.lt;omega) (.inr fun cur h=>by rw[hnew]at h;simp at h) (fun j hj=>by{
 match j,hj with
 | 0,_=>unfold World.cell?; rw[hnew];rfl
 | j+1,hj=>simp at hj}) ar ar (by simp[ew,jT];omega))
 obtain⟨q,hq⟩:=bF (49152+pn);rw[<- hq]at sP hwr asp;have dn:=ag hq;have cK:=ag hb3;clear hq hnew sq ig hb3 vA cb;gi_wp2_with fail;refine⟨aQ,rfl,?_⟩;refine(CallsIn.inRound l' (cj.2 (af sP))).mono ?_;rintro e W4 ⟨rfl,hm4,Me⟩;have Mf:bG mb base W W4:=(bG.pE (af cK)).trans ((bG.pE (aO.alloc aA _)).trans Me);have d1:=af rX;obtain⟨r,d2⟩:=af Ab;have g1:W4.heap[W2.heap.size]? = W.heap[W2.heap.size]?:=Mf.other d1 ae (fun _ _ _ h=>by cases h);have g2:W4.heap[W2.heap.size+1]? = W.heap[W2.heap.size+1]?:=Mf.other d2 ae (fun _ _ _ h=>by cases h);have bf:Hid (jN W2.heap.size W W4/\nI W4 mb base (W2.heap.size+1) R.1 R.2/\bG mb base w W4):=by{refine⟨⟨Mf.size,g1,g2⟩,?_,cS.trans Mf⟩;rw[af ju,show QJ pn=ew [jT q] by rw[af dn];rfl];exact hm4.away (L_ (g2.trans d2) (fun _ _ _ h=>by cases h))};clear hm4 Me Mf d1 d2 g1 g2 sP;gi_wp2_with fail;exact⟨bf.1,rfl,bf.2⟩}
 | none =>{
 rw[hf]at I6;have vA:Hid (aB 339 #[aM mb,ay y'] W (bQ (.tuple #[aj 0,.bool false]) W)):=I6;rw[Mc hf]at q2;have ju:=ag q2;clear q2 hf I6;gi_wp2_with fail;refine⟨aQ,?_⟩;gi_wp2_with fail;refine⟨aQ,rfl,?_⟩;refine(CallsIn.inRound l' (cj.2 (af vA))).mono ?_;rintro e W3 ⟨rfl,hb3⟩;obtain⟨WM,Mg,m3,b3,eK⟩:=Md.msg.below hb3;have WN:=aR.below aX hb3 (aR.lt (af aX));have hs3:=hb3.size;have c3:=aR.cell WN;obtain⟨ab,nb,cb3,rfl⟩:=sO b3;obtain rfl:nb=li.length:=by{obtain⟨_,⟨e,hz⟩|⟨g',cap',cur',e,_⟩⟩:=b3;{cases e;omega};{cases e;rfl}};have afm:=m3.cells.1;have FB:au W3 W3.drew:=aO.drew;have afn:aR W3.drew w.heap.size (aM mb) 216:=WN;have Mh:=ag (ash mb base y' li.length li nJ _ Mg W3.drew (m3.kept rfl) (ic b3 FB) (ic eK FB) (by show base<=W3.heap.size;omega) ae ae);have T3:bG mb base W W3.drew:=bG.pE (hb3.trans (FB.mono hs3));have BP:=ag T3;have sM:=ag (bg m3 (bg b3 eK));clear m3 b3 eK hb3 FB T3 vA cb;gi_wp2_with fail;refine afj (fun W=>W.cell? (ak w.heap.size 0)=some (aM mb)/\W.cell? (ak mb 0)=some (.slice ab li.length cb3)) hmx (AZ aI) ⟨c3,afm⟩ fun hS=>?_;refine mW 0 hS (fun _ _ _ h=>(jh.mm h ar).elim) ?_;refine mW 1 hS (fun _ _ _ h=>(jh.mm h ar).elim) ?_;refine mW 2 hS (fun _ _ _ h=>(jh.mm h ar).elim) ?_;refine mW 3 hS (fun _ _ _ h=>(jh.mm h ar).elim) ?_;refine mW 4 hS (fun _ _ _ h=>(jh.mm h ar).elim) ?_;refine mW 5 hS (fun _ _ _ h=>(jh.mm h ar).elim) ?_;refine mW 6 hS (fun _ _ _ h=>(jh.mm h ar).elim) ?_;refine fH (rs:=[7]) aI ar (eT rfl (fun K hK=>?_) fG);go_simp;refine Mh.mono ?_;rintro e W4 ⟨rfl,asq,m4,b4,p4,g4⟩;have x4:=g4.box afn ae bD bD;refine hK.out _ _ ⟨aR.cell x4,m4.cells.1⟩ (fun hS=>?_);clear hK K hS;refine rL aI ?_ _;refine⟨rfl,?_⟩;have afo:=(afl.tg (BP.trans g4) hb0 hm0);have T4:bG mb base W W4:=BP.trans g4;have aAo:=T4.size;have Gm:=ag (aqW y' W4 afo ae);have afp:Hid (dK W4 mb base li (rq nJ y' li.length)):=⟨_,_,m4,b4,p4⟩;have WO:=ag x4;have QN:=ag T4;have aV:=aR.cell x4;clear m4 b4 p4 g4 x4 T4 afo Mh c3 afm WN afn;gi_wp2_with fail;refine⟨aQ,rfl,?_⟩;refine(CallsIn.inRound l' (cj.2 (af Gm))).mono ?_;rintro e W5 ⟨rfl,hb5⟩;have Ac:Hid ((Lib.cut y' [46]).1=Aa y'):=rfl;rw[af Ac];have WQ:=afp.below hb5;have WR:=aR.below WO hb5 (aR.lt (af WO));have gh:=aR.cell WR;have hs5:=hb5.size;have C6:=afg nJ y' li.length;obtain⟨fl,oM⟩:=bF (Aa y');have Gn:Hid (qo y'=UInt8.ofNat fl.length :: fl):=by rw[oM];rfl
 rw[<- oM]at asn ⊢;obtain⟨oc,oO⟩:=bF (UInt8.ofNat fl.length);have aAp:IntKind.u8.wrap (fl.length:Int)=(oc.toNat:Int):=by rw[AB,oO,lJ];omega
 rw[<- oO]at Gn;have DZ:(aq fl).size=fl.length:=bJ fl;have hnew:=World.alloc_heap_new W5 (.cells #[.iface 292 (.int .u8 oc.toNat),.iface 224 (.string (aq fl))] 297);have sP:=ag (Ma mb base W5.heap.size 2 [oW oc,nH fl] li _ (W5.alloc (.cells #[.iface 292 (.int .u8 oc.toNat),.iface 224 (.string (aq fl))] 297)) (WQ.below (aO.alloc aA _)) aP (fun f hf=>by{simp at hf;rcases hf with rfl|rfl;{exact I4 _};{exact L6 _}}) ar (by have:=WQ.lt;omega) (.inr fun cur h=>by rw[hnew]at h;simp at h) (fun j hj=>by{
 match j,hj with
 | 0,_=>unfold World.cell?; rw[hnew];rfl
 | 1,_=>unfold World.cell?; rw[hnew];rfl
 | j+2,hj=>simp at hj;omega}) ar ar (by simp[ew,oW,nH];omega))
 have T5:bG mb base W W5:=QN.trans (bG.pE hb5);have asr:=ag T5;have aAq:=ag WR;clear oM oO hnew WQ WR hb5 T5 Gm afp WO aV Ac;gi_wp2_with fail;refine⟨aQ,rfl,?_⟩;refine(CallsIn.inRound l' (cj.2 (af sP))).mono ?_;rintro e W6 ⟨rfl,Ad,afq⟩;have T6:bG mb base W W6:=asr.trans ((bG.pE (aO.alloc aA _)).trans afq);have d1:=af rX;obtain⟨r,d2⟩:=af Ab;have g1:W6.heap[W2.heap.size]? = W.heap[W2.heap.size]?:=T6.other d1 ae (fun _ _ _ h=>by cases h);have g2:W6.heap[W2.heap.size+1]? = W.heap[W2.heap.size+1]?:=T6.other d2 ae (fun _ _ _ h=>by cases h);have bf:Hid (jN W2.heap.size W W6/\(∀k∈[0],W6.heap[k]? = W.heap[k]?)/\(∃y li nJ,(cg x).drop (i+1)=cg y/\R=gO (cg y) li nJ/\li.length+y.length<=l.length+x.length+(i+1)/\nJ.length<=ps.length+(i+1)/\iH nJ/\nI W6 mb base (W2.heap.size+1) li nJ)/\bG mb base w W6/\aR W6 w.heap.size (aM mb) 216/\bK W6):=by{
 refine⟨⟨T6.size,g1,g2⟩,fun k hk=>?_,⟨ik y',li++qo y',_,QM,ju,?_,ae,afk (af rp) _ _,?_⟩,cS.trans T6,T6.box (af aX) ae bD bD,afl.tg T6 hb0 hm0⟩;{
 obtain rfl:k=0:=by simpa using hk
 exact T6.block 0 ae ae (.inl hb0)};{rw[af Gn,bj,bP];omega};{
 rw[af Gn];have:li++ew [oW oc,nH fl]=li++oc :: fl:=by simp[ew,oW,nH]
 rw[<- this];exact Ad.away (L_ (g2.trans d2) (fun _ _ _ h=>by cases h))}};clear Ad afq T6 d1 d2 g1 g2 sP;gi_wp2_with fail;exact⟨bf.1,bf.2.1,bf.2.2⟩})
 case done =>(
 intro W hI cT hsz;obtain⟨⟨y,li,nJ,q1,q2,q3,q4,q5,q6⟩,hT,hB,QL⟩:=hI;have yJ:y = []:=by{rw[vU]at q1;by_cases h:y = [];{exact h};{rw[qP y h]at q1;cases q1}};subst yJ;rw[rS]at q2;have c3:=aR.cell hB;have sq:=q6.msg;have aso:=hT.size;have hnew:=World.alloc_heap_new W (.cells #[.iface 292 (.int .u8 (0:UInt8).toNat)] 297);have sP:Hid (aB 139 #[aM mb,aD W.heap.size 0 1 1] (W.alloc (.cells #[.iface 292 (.int .u8 0)] 297)) fun e w'=>e=.returned (.tuple #[])/\dK w' mb base (li++[0]) nJ/\bG mb base (W.alloc (.cells #[.iface 292 (.int .u8 0)] 297)) w') := Ma mb base W.heap.size 1 [oW 0] li nJ (W.alloc (.cells #[.iface 292 (.int .u8 (0:UInt8).toNat)] 297)) (sq.below (aO.alloc aA _)) aP (fun f hf=>by simp at hf;subst hf;exact I4 _) ar (by have:=sq.lt;omega) (.inr fun cur h=>by rw[hnew]at h;simp at h) (fun j hj=>by{
 match j,hj with
 | 0,_=>unfold World.cell?; rw[hnew];rfl
 | j+1,hj=>simp at hj}) ar ar (by simp[ew,oW];simp at q3;omega)
 have ju:=ag q2;have cS:=ag hT;have HD:=ag cT;clear q1 q2 hT hB QL q6 sq hnew cT;gi_wp2_with fail;refine⟨aQ,rfl,?_⟩;refine(cj.2 (af sP)).mono ?_;rintro e W4 ⟨rfl,hm4,Me⟩;have T4:bG mb base W W4:=(bG.pE (aO.alloc aA _)).trans Me;have I7:W4.heap[W2.heap.size]? = some (.deferred (some [])):=(T4.other (af HD) ae (fun _ _ _ h=>by cases h)).trans (af HD);have hN:=hm4.away (d:=W2.heap.size) (L_ I7 (fun _ _ _ h=>by cases h));have aW:Hid (nI W4 mb base W2.heap.size R.1 R.2/\bG mb base w W4/\W4.heap[W2.heap.size]? = some (.deferred (some []))):=⟨by rw[af ju];exact hN,cS.trans T4,I7⟩;clear hm4 Me T4 I7 hN sP HD c3;gi_wp2_with fail;refine⟨ar,.inl ⟨_,_,rfl,run_takeDeferred aW.2.2,?_⟩⟩;exact⟨.tuple #[],by simp[results,results338],rfl,aW.1.put _ ae,aW.2.1.keeps (dF.put (d:=W2.heap.size) W4 W2.heap.size (.deferred none)) ae⟩)
 case stop =>(intro c W hI cT hsz;obtain⟨rfl,h2,h3⟩:=hI;have H:=ag (bg h2 h3);have hN:=h2.msg.away (d:=W2.heap.size) (L_ cT (fun _ _ _ h=>by cases h));have dm:=ag hN;clear h2 h3 hN;gi_wp2_with fail;refine⟨ar,.inl ⟨_,_,rfl,run_takeDeferred cT,?_⟩⟩;exact⟨.tuple #[],by simp[results,results338],rfl,dm.put _ ae,H.2.keeps (dF.put (d:=W2.heap.size) W W2.heap.size (.deferred none)) ae⟩)
end
def afr(mb base:Nat)(I:World->Prop)(fn:FuncId)(x:Value)(step:ah->cI->ah×cI):Prop:=∀(l:ah) (ps:cI) (w:World),I w->dK w mb base l ps->base<=w.heap.size->iH ps->(step l ps).1.length<=50000->(step l ps).2.length<=20000 ->
 aB fn #[x,aM mb] w fun e w'=>e=.returned (.tuple #[])/\dK w' mb base (step l ps).1 (step l ps).2/\bG mb base w w'
structure dU where
 t:TypeId
 x:Value
 fn:FuncId
 Ae:ah->cI->ah×cI
structure dU.yK(f:dU)(mb base:Nat)(I:World->Prop):Prop where
 meth : ∀ W : World, (method 521 f.t f.x "beacon/wire.writeTo").run prog W = .ok (f.fn, f.x) W
 call:∀(args:Array Value) (W:World),(callFunc f.fn args).run prog W=.ok (.enter f.fn args) W
 wr:afr mb base I f.fn f.x f.Ae
 QO:∀l ps,l.length<=(f.Ae l ps).1.length/\ps.length<=(f.Ae l ps).2.length/\(iH ps->iH (f.Ae l ps).2)
def eU(fs:List dU)(l:ah)(ps:cI):ah×cI:=fs.foldl (fun s f=>f.Ae s.1 s.2) (l,ps)
def I8(mb base:Nat)(I:World->Prop):Prop:=∀w w',I w->bG mb base w w'->I w'
def pF(mb:Nat)(w:World)(g:Nat)(fs:List dU):Prop:=g≠mb/\(∃cs t,w.heap[g]? = some (.cells cs t)/\t≠5/\t≠343)/\∀j (h:j<fs.length),w.cell? (ak g j)=some (.iface fs[j].t fs[j].x)
theorem pF.tg{mb base g:Nat}{fs:List dU}{w w':World}(h:pF mb w g fs)(ht:bG mb base w w'):pF mb w' g fs:=by obtain⟨h1,⟨cs,t,h2,h3,h4⟩,h5⟩:=h;have e:=ht.box h2 h1 h3 h4;exact⟨h1,⟨cs,t,e,h3,h4⟩,fun j hj=>(dh (e.trans h2.symm)).trans (h5 j hj)⟩
theorem afs(l:ah)(ps:cI):eU [] l ps=(l,ps):=rfl
theorem QP(f:dU)(fs:List dU)(l:ah)(ps:cI):eU (f :: fs) l ps=eU fs (f.Ae l ps).1 (f.Ae l ps).2:=rfl
theorem aft(fs gs:List dU)(l:ah)(ps:cI):eU (fs++gs) l ps=eU gs (eU fs l ps).1 (eU fs l ps).2:=by unfold eU;rw[Ax]
theorem afu(fs:List dU)(k:Nat)(h:k<fs.length)(l:ah)(ps:cI):eU (fs.take (k+1)) l ps=fs[k].Ae (eU (fs.take k) l ps).1 (eU (fs.take k) l ps).2:=by rw[gp h,aft];rfl
theorem I9{mb base:Nat}{I:World->Prop} : ∀(fs:List dU),(∀f∈fs,f.yK mb base I)->∀l ps,l.length<=(eU fs l ps).1.length/\ps.length<=(eU fs l ps).2.length/\(iH ps->iH (eU fs l ps).2)
 | [],_,l,ps=>⟨bH _,bH _,id⟩
 | f :: fs,h,l,ps=>by have h1:=(h f ar).QO l ps;have h2:=I9 fs (fun g hg=>h g (by simp[hg])) (f.Ae l ps).1 (f.Ae l ps).2;rw[QP];exact⟨ae,ae,fun h=>h2.2.2 (h1.2.2 h)⟩
theorem ass{mb base:Nat}{I:World->Prop}(fs:List dU)(bq:∀f∈fs,f.yK mb base I)(l:ah)(ps:cI)(k:Nat):(eU (fs.take k) l ps).1.length<=(eU fs l ps).1.length/\(eU (fs.take k) l ps).2.length<=(eU fs l ps).2.length:=by
 have e:eU fs l ps=eU (fs.drop k) (eU (fs.take k) l ps).1 (eU (fs.take k) l ps).2:=by rw[<- aft,j9]
 have:=I9 (fs.drop k) (fun f hf=>bq f (NR hf)) (eU (fs.take k) l ps).1 (eU (fs.take k) l ps).2;rw[e];exact⟨this.1,this.2.1⟩
theorem WS(mb base g cap:Nat)(I:World->Prop)(fs:List dU)(l:ah)(ps:cI)(w:World)(hI:I w)(hst:I8 mb base I)(hm:dK w mb base l ps)(bX:base<=w.heap.size)(mP:iH ps)
  (bq:∀f∈fs,f.yK mb base I) (DZ:pF mb w g fs) (hn:fs.length<=cap) (hc:fs.length<=1000000) (hl:(eU fs l ps).1.length<=50000) (hp:(eU fs l ps).2.length<=20000) :
  aB 139 #[aM mb,aD g 0 fs.length cap] w fun e w' =>
   e=.returned (.tuple #[])/\dK w' mb base (eU fs l ps).1 (eU fs l ps).2/\bG mb base w w':=by
 have dA:=ag hm;have cF:=ag bq;have HC:=ag DZ;have eG:=ag hI;have HST:=ag hst;have vA:=ag mP;have np:g<w.heap.size:=by obtain⟨_,⟨cs,t,h2,_⟩,_⟩:=DZ;exact(bV.1 h2).1
 clear hm bq DZ hI hst mP;go_enter func139,ntmps139;go_wp2_with fail;go_loopw [8] (fun i wr=>∃(k:Nat),i=aj k/\k<=fs.length/\dK wr mb base (eU (fs.take k) l ps).1 (eU (fs.take k) l ps).2/\bG mb base w wr) (fun i _=>fs.length - (intOf i).toNat);case atStart=>exact⟨0,rfl,cV _,dA,bG.refl _ _ _⟩
 case round =>(obtain⟨k,rfl,hk,qp,ht⟩:=hrel;have ov:=ag qp;have kg:=ag ht;have hsz:=ht.size;clear qp ht;by_cases hlk:k<fs.length;{have hcell:wr.cell? (ak g k)=some (.iface fs[k].t fs[k].x):=(HC.tg (af kg)).2.2 k hlk;have BN:=af cF fs[k] (cM hlk);have bf:=ag (afu fs k hlk l ps);have h1:=ass fs (af cF) l ps (k+1);rw[afu fs k hlk l ps]at h1;have D5:=(I9 (fs.take k) (fun f hf=>af cF f (Az hf)) l ps).2.2 (af vA);generalize fs[k]=f at *;have arI:=BN.meth;have Oe:=BN.call;have HW:=ag (BN.wr _ _ wr (HST w wr eG kg) (af ov) ae D5 ae ae);clear BN h1 D5;go_wp2_with fail;refine HW.mono ?_;rintro e w2 ⟨rfl,h1,h3⟩;rw[<- af bf]at h1;have aW:=ag (bg h1 (kg.trans h3));clear h1 h3 HW;go_wp2;exact⟨⟨k+1,bW,ae,aW.1,aW.2⟩,c5⟩};{have fJ:k=fs.length:=ae;subst fJ;have gv:=af ov;rw[gV]at gv;have eE:=ag gv;clear gv;go_wp2;refine pO (v:=.tuple #[]) (by simp[results,results139]) rfl ?_;exact⟨rfl,eE,kg⟩})
def jJ(f:nG):dU:=⟨f.t,f.x,f.fn,fun l ps=>(l++f.out,ps)⟩
theorem ru{f:nG}(h:f.BM)(mb base:Nat)(I:World->Prop):(jJ f).yK mb base I where
 meth:=h.1
 call:=h.2.1
 wr:=fun l ps w _ hm bX _ hl _=>by
  obtain⟨vb,vp,h1,h2,h3⟩:=hm;simp only[jJ,bj]at hl;refine(h.2.2 mb base vb vp l w h1 h2 bX ae).mono ?_;rintro e w' ⟨rfl,⟨cJ,k1,k2⟩,k3⟩;exact⟨rfl,⟨cJ,vp,k1,k2,aff h3 h1 k3⟩,bG.afd k3⟩
 QO:=fun l ps=>⟨by simp[jJ],bH _,id⟩
def xn(x:ah):dU:=⟨291,ay x,338,fun l ps=>gO (cg x) l ps⟩
theorem QQ:∀(es:List ah) (l:ah) (ps:cI),l.length<=(gO es l ps).1.length/\ps.length<=(gO es l ps).2.length/\(iH ps->iH (gO es l ps).2)
 | [],l,ps=>⟨by simp[gO],bH _,id⟩
 | e :: es,l,ps=>by
  cases hf:jI ps e with
  | some n=>rw[Mb hf];exact⟨ar,bH _,id⟩
  | none =>{rw[Mc hf];have h1:=QQ es (l++qo e) (rq ps e l.length);have h2:=ar_ ps e l.length;rw[bj]at h1;exact⟨ae,ae,fun h=>h1.2.2 (afk h _ _)⟩}
theorem I_(x:ah)(hx:x.length<=300)(mb base:Nat)(I:World->Prop)(ast:∀w,I w->bK w)(hb0:0<base)(hm0:0<mb):(xn x).yK mb base I where
 meth:=ar7 _
 call:=ar8
 wr:=fun l ps w hI hm bX mP hl hp=>by
  have h1:=QQ (cg x) l ps;exact asi mb base x l ps w hm (ast w hI) bX hb0 hm0 ae mP (by have:(gO (cg x) l ps).2.length<=20000:=hp;omega) (by have:(gO (cg x) l ps).1.length<=50000:=hl;omega)
 QO:=fun l ps=>QQ (cg x) l ps
def BQ(l:ah)(n:Nat)(k:Nat):ah:=(l.set n (ax k)).set (n+1) (bO k)
theorem WT(l:ah)(n k:Nat):(BQ l n k).length=l.length:=by simp[BQ]
def BR(fs:List dU)(l:ah)(ps:cI):ah×cI :=
 (BQ (eU fs (l++[0,0]) ps).1 l.length ((eU fs (l++[0,0]) ps).1.length - (l.length+2)),(eU fs (l++[0,0]) ps).2)
def QR(g cap:Nat)(fs:List dU):dU:=⟨293,aD g 0 fs.length cap,342,BR fs⟩
theorem asu(mb base g cap:Nat)(I:World->Prop)(fs:List dU)(hst:I8 mb base I)(hI:∀w,I w->pF mb w g fs)(bq:∀f∈fs,f.yK mb base I)(hn:fs.length<=cap)(hc:fs.length<=1000000) :
  afr mb base I 342 (aD g 0 fs.length cap) (BR fs):=by
 intro l ps w afv hm bX mP hl hp;have Ja:=I9 fs bq (l++[0,0]) ps;rw[bj]at Ja;simp only[bP,fy]at Ja;simp only[BR,WT]at hl hp;have dA:=ag hm;have afw:=ag afv;have HST:=ag hst;have eG:=ag hI;have cF:=ag bq;have vA:=ag mP;have hlt:=hm.lt;clear hm afv hst hI bq mP;go_enter func342,ntmps342;go_wp2_with fail;have hnew:=World.alloc_heap_new w (.cells #[.iface 284 (.int .u16 0)] 297);refine(Ma mb base w.heap.size 1 [jT 0] l ps _ (dA.below (aO.alloc aA _)) aP ?_ ar ae (.inr ?_) ?_ ar ar ?_).mono ?_;{intro f hf;simp at hf;subst hf;exact BO _ ae};{intro cur h;rw[hnew]at h;simp at h};{
 intro j hj;match j,hj with
 | 0,_=>unfold World.cell?; rw[hnew];rfl
 | j+1,hj=>simp at hj};{simp[ew,jT];omega};rintro e w2 ⟨rfl,h1,h3⟩;have T2:Hid (bG mb base w w2):=(bG.pE (aO.alloc aA _)).trans h3;have tM:Hid (dK w2 mb base (l++[0,0]) ps):=h1;have xq:Hid (∃vb vp,cL w mb vb vp/\Gk vb=l.length):=by{obtain⟨vb,vp,q1,q2,_⟩:=af dA;exact⟨vb,vp,q1,ar2 q2⟩};clear h1 h3 hnew dA;obtain⟨I3,aAr,m2,o2,fh⟩:=af tM;obtain⟨g2,cap2,D6,rfl,hb2,Mi,hc2,_⟩:=WE o2 ar;have c2:=m2.cells.1;have hs2:=T2.size;rw[bj]at c2;simp only[bP,fy]at c2;have bI:=ag (WS mb base g cap I fs (l++[0,0]) ps w2 (HST w w2 afw T2) (af HST) (af tM) ae (af vA) (af cF) (eG _ (HST w w2 afw T2)) hn hc hl hp);clear Mi hb2 m2 o2 fh hc2;go_wp2_with fail;refine bI.mono ?_;rintro e w3 ⟨rfl,h1,h3⟩;have T3:Hid (bG mb base w w3):=T2.trans h3;clear h3 bI c2;obtain⟨WM,Mg,m3,o3,eK⟩:=h1;obtain⟨st,WU⟩:=bF (eU fs (l++[0,0]) ps);have WV:Hid (BR fs l ps=(BQ st.1 l.length (st.1.length - (l.length+2)),st.2)):=by rw[Hid,WU];rfl
 rw[<- WU]at Ja hl hp o3 eK;obtain⟨s1,s2⟩:=st;simp only at Ja hl hp o3 eK WV;have hne:s1≠[]:=by intro h;subst h;simp at Ja
 obtain⟨g3,cap3,asv,rfl,hb3,Mj,hc3,sq⟩:=WE o3 hne;have c3:=m3.cells.1;have vz:mb≠g3:=fun e=>by{rw[cL,e,Mj]at m3;simp at m3};have k0:w3.frozen? (ak g3 l.length)=false:=by simp[World.frozen?,Mj]
 have k1:∀u,(w3.setCell ⟨g3,l.length,none⟩ u).frozen? (ak g3 (l.length+1))=false:=fun u=>by{simp[World.frozen?,World.setCell,fw,Mj]};have hx0:∃u,w3.cell? (ak g3 l.length)=some (.int .u8 u):=⟨_,by{rw[uy o3 l.length ae];rw[Cv,iw ae];rfl}⟩;have hx1:∃u,w3.cell? (ak g3 (l.length+1))=some (.int .u8 u):=⟨_,by{rw[uy o3 (l.length+1) ae];rw[Cv,iw ae];rfl}⟩;obtain⟨u0,hx0⟩:=hx0;obtain⟨u1,hx1⟩:=hx1;obtain⟨L,hL⟩:∃L,s1.length=l.length+2+L:=⟨s1.length - (l.length+2),ae⟩;have afx:s1.length - (l.length+2)=L:=ae;rw[afx]at WV;have sM:=ag Mj;have eE:=ag o3;have jR:=ag m3;have afy:=ag eK;have aAs:=ag hL;have hl0:l.length<s1.length:=ae;have dH:l.length+1<s1.length:=ae;rw[hL]at c3 hc3;clear Mj o3 m3 eK WU;have e1:(l.length:Int)+2+(L:Int) - ((l.length:Int)+2)=(L:Int):=ae;have aAt:l.length+L+2<=60000:=ae;clear Ja hl hp hL afx hne tM;go_wp2_with fail;go_region;have eh:(L:Int)/256=((ax L).toNat:Int):=by unfold ax;rw[lJ];omega
 have el:(L:Int)%256=((bO L).toNat:Int):=by unfold bO;rw[lJ];omega
 rw[eh,el];have FZ:=afc (afc (af eE) l.length (ax L) hl0) (l.length+1) (bO L) aP;have WW:∀k,k≠g3->((w3.setCell ⟨g3,l.length,none⟩ (.int .u8 (ax L).toNat)).setCell ⟨g3,l.length+1,none⟩ (.int .u8 (bO L).toNat)).heap[k]? = w3.heap[k]?:=fun k hk=>(cZ _ _ _ _ hk).trans (cZ _ _ _ _ hk);have M4:=jR.kept (w':=((w3.setCell ⟨g3,l.length,none⟩ (.int .u8 (ax L).toNat)).setCell ⟨g3,l.length+1,none⟩ (.int .u8 (bO L).toNat))) (WW mb vz);have P4:lD ((w3.setCell ⟨g3,l.length,none⟩ (.int .u8 (ax L).toNat)).setCell ⟨g3,l.length+1,none⟩ (.int .u8 (bO L).toNat)) base Mg s2:=qm (af afy) fun k hk=>WW k fun e=>by{obtain⟨cur,aZ⟩:=DX (af afy) hk;rw[e,af sM]at aZ;simp at aZ};have T4:bG mb base w ((w3.setCell ⟨g3,l.length,none⟩ (.int .u8 (ax L).toNat)).setCell ⟨g3,l.length+1,none⟩ (.int .u8 (bO L).toNat)):=by{obtain⟨vb0,aAu,q1,q2⟩:=af xq;exact(T3.afe q1 (af jR) rfl (Nat.le_of_eq q2) hb3 (af sM) _).afe q1 (jR.kept (cZ _ _ _ _ vz)) rfl (by rw[q2];omega) hb3 (cur:=asv.setIfInBounds l.length (.int .u8 (ax L).toNat)) (by simp only[World.setCell];rw[fw,aJ rfl,af sM];rfl) _};have aW:Hid (dK ((w3.setCell ⟨g3,l.length,none⟩ (.int .u8 (ax L).toNat)).setCell ⟨g3,l.length+1,none⟩ (.int .u8 (bO L).toNat)) mb base (BQ s1 l.length L) s2/\bG mb base w ((w3.setCell ⟨g3,l.length,none⟩ (.int .u8 (ax L).toNat)).setCell ⟨g3,l.length+1,none⟩ (.int .u8 (bO L).toNat))):=⟨⟨_,_,M4,FZ,P4⟩,T4⟩;clear FZ M4 P4 T4 eh el WW;generalize ((w3.setCell ⟨g3,l.length,none⟩ (.int .u8 (ax L).toNat)).setCell ⟨g3,l.length+1,none⟩ (.int .u8 (bO L).toNat))=w4 at *;go_wp2_with fail;refine pO (v:=.tuple #[]) (by simp[results,results342]) rfl ?_;refine⟨rfl,?_,aW.2.trans (bG.pE aO.drew)⟩;rw[af WV];exact aW.1.below aO.drew
theorem afz(mb base g cap:Nat)(I:World->Prop)(fs:List dU)(hst:I8 mb base I)(hI:∀w,I w->pF mb w g fs)(bq:∀f∈fs,f.yK mb base I)(hn:fs.length<=cap)(hc:fs.length<=1000000):(QR g cap fs).yK mb base I where
 meth:=ar3 _ _ _
 call:=ar4
 wr:=asu mb base g cap I fs hst hI bq hn hc
 QO:=fun l ps=>by
  have h:=I9 fs bq (l++[0,0]) ps;rw[bj]at h;refine⟨?_,h.2⟩;show l.length<=(BQ _ _ _).length;rw[WT];have:=h.1;simp at this;omega
end Go.Proofs.YtkkpahmoljiepaaGreatDoor
