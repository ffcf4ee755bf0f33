import Derived.Test.YtkkpahmoljiepaaGreatDoorJ19
set_option maxRecDepth 1000000
set_option maxHeartbeats 12800000
set_option linter.unusedSimpArgs false
set_option linter.unusedVariables false
namespace Go.Proofs.YtkkpahmoljiepaaGreatDoor
open Go.RowKit Go.Proofs.Tryz
theorem rp{o:ah}{rs:List aj}(hz:kG o rs)(s:ah)(a:Int):(cz rs s a).length<=60:=by by_cases h:a=255;{subst h;rw[<- Kg rs (jR hz),oV];have:=(l_ rs).length_eq;exact aZ (nS _ _) (by rw[this];exact p9 hz)};{unfold cz;rw[ar h];exact Ko hz s a}
theorem Kq{o:ah}{rs:List aj}(hz:kG o rs){a:aj}(g:a∈rs)(d:a.type=5):aC 32 a.data=[a.data]/\dQ a.data=true:=by have c:=(hz.recs a g).dat;rw[d]at c;obtain⟨h,b,e⟩:=Kl (.inr rfl) c;have:=mC b;rw[this]at b ⊢;exact⟨b,e⟩
section
variable {zb:Nat} {o:ah} {rs:List aj} {w0 W:World} (hz:nC w0 zb o rs) (bm:kG o rs) (hb:ax w0 W) {x:Nat->Prop} (hx : ∀ k,k<w0.heap.size->¬ x k) {base:Nat} (dR:base<=W.heap.size)
include hz bm hb hx dR
theorem CD(s m:ah)(b h:Value)(a:Int)(w:eY W b (aY s))(u:(aY s).length<=1000)(g:ek W x h (aY m)):az 237 #[aO zb,b,ak a,h] W fun d c=>(∃v,d=.returned v/\dY x c base v ((cz rs s a).map (cI m)))/\ax W c:=by obtain⟨B,l,A,p,i,E,D,j⟩:=hz;have C:=(hb.block zb (bn.1 i).1).trans i;have k:=g;obtain⟨q,z,n,rfl,_⟩:=k;refine(UT zb o rs b (some (aq q z)) _ n _ a W l A p B C D (j.below hb) (xD bm) w u).mono ?_;rintro d c ⟨⟨v,rfl,t⟩,e⟩;refine⟨⟨v,rfl,?_⟩,e⟩;rw[<- Uu rs s m a (jR bm)];exact UL j hb e hx dR (fun y r=>JR rs _ a 17 y r) g t
theorem DE:az 239 #[aO zb] W fun i g=>(∃v,i=.returned v/\dY x g base v (eo o (aS rs)))/\ax W g:=by
 obtain⟨Y,D,V,G,u,af,ab,w⟩:=hz;have aa:=(hb.block zb (bn.1 u).1).trans u;obtain⟨A,B,C,h,N,O,P,Q,_⟩:=xF bm;refine(UJ zb o rs W D V G Y aa ab (w.below hb) (k8 bm) A B C h P O N).mono ?_;rintro i g ⟨⟨c,q,gw,rfl,ac,R,E,aK⟩,b⟩;refine⟨⟨_,rfl,?_⟩,b⟩;rw[Q];obtain⟨y,z,d,_,_,_,e,p,X⟩:=w 0 (k8 bm);rw[i4,dT]at d e;have H:q=y:=by{have:=(hb.cell (ef _ _ d)).trans d;rw[E]at this;exact cZ this};have K:gw=z:=by{have:=(hb.cell (ef _ _ e)).trans e;rw[aK]at this;exact cZ this};subst H K;have ad:=hb.size;refine⟨[(q,gw,rI (rs[0]'(k8 bm)) h)],rfl,⟨rfl,.inr ⟨c,1,_,rfl,ae,R,bb _,gW,rfl,rfl⟩⟩,?_⟩;intro Z hy;obtain rfl:Z=_:=sC
 have n:∀k,k<w0.heap.size->¬(x k\/some k=(Value.slice (some (aq c 0)) 1 1).ownBlock):=fun k S a=>by{
 rcases a with a|a;{exact hx k S a};{
 have:k=c:=by simpa [Value.ownBlock]using a
 omega}};rw[<- lv (jR bm _ (bM (k8 bm))).2.2]at p;obtain⟨j,T,ap,I,L,r⟩:=p;obtain⟨l,U,F,J,M,t⟩:=X;exact⟨⟨j,T,ap,I,L,(r.below hb).below b,n j r.1⟩,⟨l,U,F,J,M,(t.below hb).below b,n l t.1⟩⟩
end
def ge(a:aj):Bool:=a.type==2||a.type==15
def iY(rs c:List aj)(s:List ah×List aj)(a:aj):List ah×List aj :=
 if ge a then(if s.1.contains (dq a.data)then s else(s.1++[dq a.data],if c.any (fun b=>b.owner==dq a.data&&b.type==1)then s.2 else s.2++cE rs (dq a.data) 1))else s
def fx(rs a l:List aj):List ah×List aj:=l.foldl (iY rs a) ([],[])
def Af(x:Nat->Prop)(w:World)(base:Nat)(v:Value)(l:List ah):Prop :=
 ∃vs:List Value,w.ownsRow base 113 1 v l.length vs/\∀a (h:a<l.length),∃b,vs[a]? = some b/\ek w (fun k=>x k\/some k=v.ownBlock) b (aY l[a])
structure vO(X:Nat->Prop)(w wr:World)(ab:Nat)(rc:Int)(aa:Bool)(va vu vd vs:Value)(seen:List ah)(add:List aj):Prop where
 an:ew wr ab rc aa va vu vd
 fr:bG (fun k=>k≠ab) w wr
 sn:Af (fun k=>X k\/some k=vd.ownBlock) wr w.heap.size vs seen
 ad:dY (fun k=>X k\/some k=vs.ownBlock) wr w.heap.size vd add
 ne:∀k,vs.ownBlock=some k->vd.ownBlock≠some k
 lt:ab<w.heap.size
 K7:X ab
 xl:∀k,X k->k<=ab
theorem U9:prog.underlying 328=some (.slice 113):=aB
theorem U_:(prog.info? 113).map (fun a=>(a.zero,a.size,a.bytes))=some (some (aJ),1,24):=aB
theorem DA{d:Program}{o:Oper}{a:Act}{w:World}{c:Act->World->Prop}{j:Exit->Act->World->Prop}(s x:Operand)(b:TypeId)(ho:o.op=.call { callee:=.builtin .append,args:=#[s,x],argTypes:=#[b,b] })(v i e:Value)(g:World)(hs:a.eval s=v)(hx:a.eval x=i)(hr:(Builtin.append_ #[b,b] o.type #[v,i]).run d w=.ok e g) (h:c (a.put o.dst e) g):o.wp d a w c j:=by unfold Oper.wp execOp;exact DS
section
variable {x:Nat->Prop} {w:World} {base:Nat} {v:Value} {l:List ah} (h:Af x w base v l)
include h
theorem Af.slice:∃a b,v=.slice a l.length b:=by obtain⟨vs,h1,_⟩:=h;exact BW
theorem Af.lt:∀k,v.ownBlock=some k->base<=k/\k<w.heap.size:=by obtain⟨vs,a,_⟩:=h;exact e9 a
theorem Af.fr{p:Nat->Prop}{w':World}(hf:bG p w w')(o:∀k,k<w.heap.size->¬x k->some k≠v.ownBlock->p k)(ho:∀k,v.ownBlock=some k->p k):Af x w' base v l:=by obtain⟨vs,h1,c⟩:=h;have j:bG (fun k=>k<w.heap.size->p k) w w':=⟨hf.os,hf.tape,hf.output,hf.size,fun k a b=>hf.block k a (b a)⟩;refine⟨vs,⟨h1.1,?_⟩,fun q n=>?_⟩;{exact DJ};{obtain⟨r,d,e⟩:=c q n;exact⟨r,d,e.fr j (fun k a b=>o k b (fun hx=>a (.inl hx)) (fun i=>a (.inr i)))⟩}
theorem Af.imp{y:Nat->Prop}(hy:∀k,k<w.heap.size->¬x k->some k≠v.ownBlock->¬y k):Af y w base v l:=by obtain⟨vs,a,b⟩:=h;refine⟨vs,a,fun g e=>?_⟩;obtain⟨i,c,d⟩:=b g e;refine⟨i,c,d.imp (fun k hk hn hc=>?_)⟩;exact Ew
theorem Af.at{k:Nat}(i:k<l.length):∃g cap u,v=aF g 0 l.length cap/\l.length<=cap/\w.cell? (aq g k)=some u/\ek w (fun k=>x k\/some k=v.ownBlock) u (aY l[k]):=by obtain⟨vs,a,b⟩:=h;obtain⟨u,c,d⟩:=b k i;rcases a.2 with⟨_,p⟩|⟨g,cap,o,j,hb,bu,e,_,q,n⟩;{omega};{refine⟨g,cap,u,j,e,?_,d⟩;rw[<- c,<- n,kS ae];exact ym}
theorem Va{s:ah}{u:Value}(D:ek w (fun k=>x k\/some k=v.ownBlock) u (aY s))(hb:base<=w.heap.size)(Y:l.length<=100000):∃c d,(Builtin.append_ #[328,328] 328 #[v,aF w.heap.size 0 1 1]).run prog (w.alloc (.cells #[u] 113))=.ok c d/\Af (fun k=>x k/\k<w.heap.size) d base c (l++[s])/\bG (fun k=>some k≠v.ownBlock) w d/\(c.ownBlock=v.ownBlock\/c.ownBlock=some (w.heap.size+1)):=by
 obtain⟨T,ao,Q,R,S⟩:=fO U_;have Z:some w.heap.size≠v.ownBlock:=fun a=>by have:=(Af.lt h _ a.symm).2;omega
 obtain⟨vs,A,J⟩:=h;have dR:ax w (w.alloc (.cells #[u] 113)):=aE.alloc av _;have F:u.oneCell'=true:=by obtain⟨_,_,_,rfl,_⟩:=D;rfl
 have O:(w.alloc (.cells #[u] 113)).heap.size=w.heap.size+1:=cv w _;obtain⟨c,d,U,V,g,_,q⟩:=run_append_own_at (P:=prog) (w.alloc (.cells #[u] 113)) base 328 328 113 T _ 1 24 U9 ao Q R S rfl ae v l.length vs (eg A dR) (aq w.heap.size 0) 1 1 [u] rfl (fun e b i=>by{
 rw[sX,cT];have:=World.alloc_heap_new w (.cells #[u] 113);unfold World.cell?;rw[this];cases e with
 | zero=>exact i
 | succ e=>simp at i}) (fun b p=>by rw[show b=u by simpa using p];exact F) (by simp[maxLen];omega) ae ae
 rw[O]at q;have B:bG (fun k=>some k≠v.ownBlock) w d:=⟨g.os,g.tape,g.output,aZ ae g.size,fun k C o=>(g.block k ae o).trans (bx w _ k C)⟩;have N:∀k,k<w.heap.size->some k≠v.ownBlock->some k≠c.ownBlock:=fun k C o a=>by{
 rcases q with n|n;{rw[n]at a;exact o a};{
 rw[n]at a;have:k=w.heap.size+1:=by simpa using a
 omega}};have z:∀(b:Value) (r:List ah),ek w (fun k=>x k\/some k=v.ownBlock) b r->ek d (fun k=>(x k/\k<w.heap.size)\/some k=c.ownBlock) b r:=fun b r p=>by{obtain⟨y,W,G,H,I,t,j⟩:=p;exact⟨y,W,G,H,I,t.fr B (fun a=>j (.inr a)),fun M=>M.elim (fun hx=>j (.inl hx.1)) (N y t.1 (fun a=>j (.inr a)))⟩};refine⟨c,d,U,⟨vs++[u],by rw[a6];exact V,fun e i=>?_⟩,B,q⟩;have X:vs.length=l.length:=by have:=A.1;omega
 rw[a6,te]at i;by_cases E:e<l.length;{obtain⟨b,K,L⟩:=J e E;refine⟨b,by rw[pv ae];exact K,?_⟩;rw[GS E];exact z b _ L};{have:e=l.length:=ae;subst this;refine⟨u,by rw[lT ae];simp[X],?_⟩;rw[uL ae];simp only[i3,cw];exact z u _ D}
end
theorem DW{P:Prop}(h:P:=by rcases hc with hc|hc;exact .inl (.inl hc);exact .inr hc):P:=h
theorem FX{P:Prop}(h:P:=by
 rcases k5 with h5|h5;{rw[h5]at e;exact h.ne k hk e};{
 rw[h5]at e;have:k=wr.heap.size:=by simpa using e.symm
 omega}):P:=h
section
variable {X:Nat->Prop} {w wr:World} {ab:Nat} {rc:Int} {aa:Bool} {va vu vd vs:Value} {seen:List ah} {add:List aj} (h:vO X w wr ab rc aa va vu vd vs seen add)
include h
theorem vO.below{w1:World}(hb:ax wr w1):vO X w w1 ab rc aa va vu vd vs seen add :=
 ⟨h.an.kept (hb.block ab h.an.lt),h.fr.trans (bG.wI hb),h.sn.fr (p:=fun _=>True) (bG.wI hb) (fun _ _ _ _=>aL) (fun _ _=>aL),h.ad.below hb,h.ne,h.lt,h.K7,h.xl⟩
theorem vO.aiu{w0:World}(hb:ax w0 w)(b:w0.heap.size<=ab):ax w0 wr :=
 hb.trans ((h.fr.below (n:=w0.heap.size) (fun k c a=>ae) hb.size))
theorem vO.own{v:Value}{l:List aj}(c:dY X w (ab+1) v l):dY X wr (ab+1) v l :=
 c.fr h.fr (fun k _ a _ b=>a (by rw[b];exact h.K7)) (fun k a b=>by have:=(c.lt k a).1;omega)
theorem vO.awf{s:ah}{u:Value}(t:ek wr (fun k=>X k\/some k=vd.ownBlock\/some k=vs.ownBlock) u (aY s))(F:seen.length<=100000):∃g i,(Builtin.append_ #[328,328] 328 #[vs,aF wr.heap.size 0 1 1]).run prog (wr.alloc (.cells #[u] 113))=.ok g i/\vO X w i ab rc aa va vu vd g (seen++[s]) add/\ek i (fun k=>X k\/some k=vd.ownBlock\/some k=g.ownBlock) u (aY s)/\wr.heap.size<=i.heap.size:=by
 have r:=h.fr.size;obtain⟨g,i,G,H,d,x⟩:=Va h.sn (s:=s) (u:=u) (t.imp (fun k _ j hc=>j (by rcases hc with(hc|hc)|hc;exact .inl hc;exact .inr (.inl hc);exact .inr (.inr hc)))) r F;have A:=h.sn.lt;have z:=h.ad.lt;have J:=h.lt;have E:some ab≠vs.ownBlock:=fun a=>by have:=(A ab a.symm).1;omega
 have q:∀k,k<wr.heap.size->some k≠vs.ownBlock->some k≠g.ownBlock:=fun k b j a=>by{
 rcases x with e|e;{rw[e]at a;exact j a};{
 rw[e]at a;have:k=wr.heap.size+1:=by simpa using a
 omega}};refine⟨g,i,G,⟨h.an.kept (d.block ab ae E),⟨d.os.trans h.fr.os,d.tape.trans h.fr.tape,d.output.trans h.fr.output,aZ r d.size,fun k b j=>(d.block k ae (fun a=>by have:=(A k a.symm).1;omega)).trans (h.fr.block k b j)⟩,?_,?_,?_,h.lt,h.K7,h.xl⟩,?_,d.size⟩;{exact H.imp (fun k _ c _ hc=>by{rcases hc with hc|hc;{exact c ⟨.inl hc,by have:=h.xl k hc;omega⟩};{exact c ⟨.inr hc,(z k hc.symm).2⟩}})};{have:dY (fun k=>X k\/some k=vs.ownBlock) i w.heap.size vd add:=h.ad.fr d (fun k _ c _ a=>c (.inr a)) (fun k b a=>h.ne k a.symm b);have p:=h.ad.imp (y:=fun k=>(X k\/some k=vs.ownBlock)\/some k=g.ownBlock) (fun k b c p hc=>by{rcases hc with hc|hc;{exact c hc};{exact q k b (fun a=>c (.inr a)) hc}});exact(p.fr d (fun k _ c _ a=>c (.inl (.inr a))) (fun k b a=>h.ne k a.symm b)).imp (fun k _ c _ hc=>c DW)};{
 intro k b a;rcases x with e|e;{rw[e]at b;exact h.ne k b a};{
 rw[e]at b;have:k=wr.heap.size+1:=by simpa using b.symm
 have:=(z k a).2;omega}};{obtain⟨o,I,B,C,D,n,l⟩:=t;exact⟨o,I,B,C,D,n.fr d (fun a=>l (.inr (.inr a))),fun hc=>by{rcases hc with hc|hc|hc;{exact l (.inl hc)};{exact l (.inr (.inl hc))};{exact q o n.1 (fun a=>l (.inr (.inr a))) hc}}⟩}
theorem vO.add1{u:Value}{j:List aj}{x:Nat}(hx:dY (fun k=>(X k\/some k=vs.ownBlock)\/some k=vd.ownBlock) wr x u j)(D:add.length+j.length<=100000):∃b g,(Builtin.append_ #[115,115] 115 #[vd,u]).run prog wr=.ok b g/\ew g ab rc aa va vu vd/\vO X w (g.setCell ⟨ab,4,none⟩ b) ab rc aa va vu b vs seen (add++j)/\(∃a c,b=.slice a (add.length+j.length) c):=by
 have r:=h.fr.size;have o:=h.sn.lt;have t:=h.ad.lt;have E:=h.lt;obtain⟨b,g,G,k2,i,k5⟩:=sQ h.ad hx (fun k _ hc=>hc) r D (fun k hk=>by{rcases hk with hk|hk;{have:=h.xl k hk;omega};{exact(o k hk.symm).2}});have B:some ab≠vd.ownBlock:=fun e=>by have:=(t ab e.symm).1;omega
 have p:=h.an.kept (i.block ab ae B);have C:=bG.QY i (fun _ h=>h);have F:∀k,k<wr.heap.size->some k≠vd.ownBlock->some k≠b.ownBlock:=fun k hk n e=>by{
 rcases k5 with h5|h5;{rw[h5]at e;exact n e};{
 rw[h5]at e;have:k=wr.heap.size:=by simpa using e
 omega}};have q:bG (fun k=>k≠ab) g (g.setCell ⟨ab,4,none⟩ b):=bG.kA (a:=⟨ab,4,none⟩) b (fun _ h=>h);refine⟨b,g,G,p,⟨p.mh b,?_,?_,?_,?_,h.lt,h.K7,h.xl⟩,?_⟩;{have l:bG (fun k=>k≠ab) w g:=⟨i.os.trans h.fr.os,i.tape.trans h.fr.tape,i.output.trans h.fr.output,aZ r i.size,fun k hk n=>(i.block k ae (fun e=>by have:=(t k e.symm).1;omega)).trans (h.fr.block k hk n)⟩;exact l.trans q};{have z:=h.sn.imp (y:=fun k=>(X k\/some k=vd.ownBlock)\/some k=b.ownBlock) (fun k hk d H hc=>by{rcases hc with hc|hc;{exact d hc};{exact F k hk (fun e=>d (.inr e)) hc}});have l:=z.fr C (fun k _ d _ e=>d (.inl (.inr e))) (fun k hk e=>h.ne k hk e.symm);have A:=l.fr q (fun k _ d _ e=>d (.inl (.inl (by rw[e];exact h.K7)))) (fun k hk e=>by have:=(o k hk).1;omega);exact A.imp (fun k _ d _ hc=>d DW)};{exact k2.set (a:=⟨ab,4,none⟩) b (.inl h.K7) E};{
 intro k hk e;have:=o k hk;exact FX};{exact yL}
end
def lw(b d:List aj)(s:List ah×List aj)(a:aj):List ah×List aj :=
 if ge a && !s.1.contains (dq a.data)then(s.1++[dq a.data],s.2++(gU (cM b (dq a.data)) 1).filter (fun c=>!d.any (c == ·)))else s
def hU(a b l:List aj):List ah×List aj:=l.foldl (lw a b) ([],[])
theorem xG(a b l:List aj)(c:aj):hU a b (l++[c])=lw a b (hU a b l) c:=by unfold hU;rw[mG];rfl
theorem Vb{b c:List aj}{s:List ah×List aj}{a:aj}(h:ge a=false):lw b c s a=s:=by unfold lw;rw[h];rfl
theorem Vc{b c:List aj}{s:List ah×List aj}{a:aj}(h:s.1.contains (dq a.data)=true):lw b c s a=s:=by unfold lw;rw[h,zs,rd];rfl
theorem Vd{b c:List aj}{s:List ah×List aj}{a:aj}(e:ge a=true)(h:s.1.contains (dq a.data)=false):lw b c s a=(s.1++[dq a.data],s.2++(gU (cM b (dq a.data)) 1).filter (fun d=>!c.any (d == ·))):=by unfold lw;rw[h,e];rfl
theorem Ve(a c:List aj)(o:a.length<=60):∀(l:List aj),(hU a c l).1.length<=l.length/\(hU a c l).2.length<=l.length*60:=by
 intro l;obtain⟨b,d⟩:∃b,l.length=b:=⟨_,rfl⟩;induction b generalizing l with
 | zero=>obtain rfl:l=[]:=df d;exact⟨bb _,b6 _⟩
 | succ b j =>{
 rcases js l with rfl|⟨e,g,rfl⟩;{simp at d};{
 rw[jq]at *;have i:e.length=b:=by simp at d;exact d
 obtain⟨k,n⟩:=j e i;rw[xG];have p:=nS (fun h:aj=>!c.any (h == ·)) (gU (cM a (dq g.data)) 1);have q:=aZ (vm (cM a (dq g.data)) 1) (s6 a (dq g.data));unfold lw;split;{refine⟨aA,?_⟩;show((hU a c e).2++_).length<=_;rw[a6,a6];simp only[te];omega};{exact⟨aA,aA⟩}}}
theorem Vf(x:aj)(w:World):az 234 #[aJ,.agg #[au x.owner,ak x.aI,ak x.type,au x.data]] w (aP (ak (-1)) w):=by
 have dR:∀o,ax w (w.alloc o):=fun o=>aE.alloc av _;have b:=af dR;clear dR;go_enter func234,ntmps234;go_wp2_with fail;go_loopw [8] (fun a wr=>a=ak 0/\ax w wr) (fun _ _=>0);case atStart=>exact⟨rfl,ag b _⟩
 case round =>(obtain⟨rfl,hb⟩:=hrel;go_wp2;go_ret;exact⟨rfl,hb⟩)
theorem Vg(x:aj)(w:World):az 178 #[aJ,.agg #[au x.owner,ak x.aI,ak x.type,au x.data]] w (aP (.bool false) w):=by have dR:∀o,ax w (w.alloc o):=fun o=>aE.alloc av _;have c:=af dR;have a:=af (fun W=>Vf x W);clear dR;go_enter func178,ntmps178;go_wp2_with fail;refine(a _).mono ?_;rintro d e ⟨rfl,b⟩;go_wp2;go_ret;exact⟨rfl,(c _).trans (b.mono am)⟩
theorem Vh(x:aj)(v:Value)(rs:List aj)(w:World)(e:eZ w v rs)(c:rs.length<=3001):az 178 #[v,.agg #[au x.owner,ak x.aI,ak x.type,au x.data]] w (aP (.bool (rs.any (x == ·))) w):=by rcases e with⟨rfl,rfl⟩|⟨a,g,b,rfl,_,d⟩;{exact Vg x w};{exact GB x a g b rs w d c}
def Iu(w:World)(base:Nat)(v:Value)(l:List ah):Prop:=w.ownsRow base 9 1 v l.length (l.map fun s=>au s)
theorem Iu.slice{w:World}{base:Nat}{v:Value}{l:List ah}(h:Iu w base v l):∃a b,v=.slice a l.length b:=by rcases h.2 with⟨rfl,c⟩|⟨e,d,_,rfl,_⟩;{exact⟨none,0,by rw[c]⟩};{exact qr}
theorem Vi(v:Value)(l:List ah)(x:ah)(base:Nat)(w:World)(h:Iu w base v l)(D:l.length<=100000):az 197 #[v,au x] w fun d B=>d=.returned (.bool (l.contains x))/\B=w:=by
 have k:∀a c:ah,ai a=ai c->a=c:=fun a c d=>by{have:=bP (fun i:ByteArray=>i.data.toList) d;exact this};have u:∀(g:Nat),g=l.length->Lib.containsS ((l.map ai).take g) (ai x)=l.contains x:=fun g z=>by{rw[z,show l.length=(l.map ai).length by simp,dK,i0,Lib.containsS_iff,List.contains_iff_mem,fz];exact⟨fun⟨a,t,e⟩=>by rw[<- k _ _ e];exact t,fun h=>⟨x,h,rfl⟩⟩};rcases h.2 with⟨rfl,r⟩|⟨q,o,p,rfl,hb,n,C,_,E,A⟩;{have:=Tryz.slices_Contains_string_empty none 0 (ai x) w;have y:=df r;subst y;exact this};{
 have:=Tryz.slices_Contains_string q 0 l.length o (l.map ai) (ai x) w am ae (fun b hj=>by{
 have j:b<l.length:=uD
 have:=bP (fun i:List Value=>i[b]?) A;rw[kS ae,nR,dV j]at this;unfold World.cell?;rw[n,cT];have e:p[b]? = some (.string (ai l[b])):=by exact kJ
 simp[e,j]})
 rw[u l.length rfl]at this;exact this}
theorem Vj:(prog.info? 9).map (fun a=>(a.zero,a.size,a.bytes))=some (some (.string ⟨#[]⟩),1,16):=aB
theorem Vk:prog.underlying 49=some (.slice 9):=aB
theorem Vl{w:World}{base:Nat}{v:Value}{l:List ah}(h:Iu w base v l)(x:ah)(hb:base<=w.heap.size)(z:l.length<=100000):∃a c,(Builtin.append_ #[49,49] 49 #[v,aF w.heap.size 0 1 1]).run prog (w.alloc (.cells #[.string (ai x)] 9))=.ok a c/\Iu c base a (l++[x])/\bG (fun k=>some k≠v.ownBlock) w c/\(a.ownBlock=v.ownBlock\/a.ownBlock=some (w.heap.size+1)):=by
 obtain⟨t,ao,p,q,r⟩:=fO Vj;have dR:ax w (w.alloc (.cells #[.string (ai x)] 9)):=aE.alloc av _;have o:(w.alloc (.cells #[.string (ai x)] 9)).heap.size=w.heap.size+1:=cv w _;obtain⟨a,c,u,y,b,_,g⟩:=run_append_own_at (P:=prog) (w.alloc (.cells #[.string (ai x)] 9)) base 49 49 9 t _ 1 16 Vk ao p q r rfl ae v l.length _ (eg h dR) (aq w.heap.size 0) 1 1 [au x] rfl (fun e i d=>by{
 rw[sX,cT];have:=World.alloc_heap_new w (.cells #[.string (ai x)] 9);unfold World.cell?;rw[this];cases e with
 | zero=>exact d
 | succ e=>simp at d}) (fun i hy=>by{
 have:i=au x:=sC
 rw[this];rfl}) sw ae ae
 rw[o]at g;refine⟨a,c,u,?_,⟨b.os,b.tape,b.output,aZ ae b.size,fun k j n=>(b.block k ae n).trans (bx w _ k j)⟩,g⟩;unfold Iu;rw[a6,d0];exact y
structure Ah(w wr:World)(vt vl:Value)(tg:List ah)(add:List aj):Prop where
 tg:Iu wr w.heap.size vt tg
 ad:cA wr w.heap.size vl add
 ne:∀k,vt.ownBlock=some k->vl.ownBlock≠some k
 bl:ax w wr
theorem Ah.below{w wr w1:World}{c b:Value}{a:List ah}{add:List aj}(h:Ah w wr c b a add)(hb:ax wr w1):Ah w w1 c b a add :=
 ⟨eg h.tg hb,h.ad.below hb,h.ne,h.bl.trans (hb.mono h.bl.size)⟩
theorem Ah.aws{w wr:World}{r q:Value}{i:List ah}{add:List aj}(h:Ah w wr r q i add)(x:ah)(u:i.length<=100000):∃g j,(Builtin.append_ #[49,49] 49 #[r,aF wr.heap.size 0 1 1]).run prog (wr.alloc (.cells #[.string (ai x)] 9))=.ok g j/\Ah w j g q (i++[x]) add/\(∃a c,g=.slice a (i.length+1) c):=by
 have t:=e9 h.tg;have p:=h.ad.QS;obtain⟨g,j,y,k2,b,z⟩:=Vl h.tg x h.bl.size u;refine⟨g,j,y,⟨k2,?_,?_,?_⟩,?_⟩;{refine h.ad.kept (fun l o=>b.block l (p l o).2 (fun e=>h.ne l e.symm o))};{
 intro k d e;rcases z with n|n;{rw[n]at d;exact h.ne k d e};{
 rw[n]at d;have:k=wr.heap.size+1:=by simpa using d.symm
 have:=(p k e).2;omega}};{exact h.bl.trans ⟨b.os,b.tape,b.output,b.size,fun k d=>b.block k (by have:=h.bl.size;omega) (fun e=>by have:=(t k e.symm).1;omega)⟩};{exact yL}
theorem Ah.awt{w wr:World}{n l:Value}{p:List ah}{add:List aj}(h:Ah w wr n l p add){i:Nat}(j:aj)(t:cy wr i 0 [j])(y:add.length<=90000):∃g d,(Builtin.append_ #[41,41] 41 #[l,aF i 0 1 1]).run prog wr=.ok g d/\Ah w d n g p (add++[j])/\(∃a c,g=.slice a (add.length+1) c)/\Below w.heap.size wr d:=by
 have q:=e9 h.tg;have x:=h.ad.QS;obtain⟨g,d,u,k2,b,k5⟩:=AB w.heap.size l add [j] i 0 1 wr h.ad t h.bl.size aA;have o:Below w.heap.size wr d:=⟨b.os,b.tape,b.output,b.size,fun k hk=>b.block k (by have:=h.bl.size;omega) (fun e=>by have:=(x k e.symm).1;omega)⟩;refine⟨g,d,u,⟨?_,k2,?_,h.bl.trans o⟩,?_,o⟩;{
 refine tm h.tg b ?_;cases r:n.ownBlock with
 | none=>exact nj
 | some k=>exact .inr (fun e=>h.ne k r e.symm)};{
 intro k hk e;have:=(q k hk).2;exact FX};{exact yL}
theorem Kr{w:World}{a b c:Nat}{zb:Nat}{o:ah}{rs l:List aj}{v:Value}(hz:e6 w zb o a b c rs)(h:gS a b rs v l):eZ w v l:=h.rv hz.2.2.2.2
theorem Vm(W:World)(a:aj)(b:TypeId):cy (W.alloc (.cells #[.string (ai a.owner),.int .i64 a.aI,.int .i64 a.type,.string (ai a.data)] b)) W.heap.size 0 [a]:=by
 have h:=World.alloc_heap_new W (.cells #[.string (ai a.owner),.int .i64 a.aI,.int .i64 a.type,.string (ai a.data)] b);refine⟨(bn.1 h).1,fun d c e v ao=>?_⟩;have:d=0:=by simp at c;omega
 subst this;unfold World.cell?;rw[h];simpa [aj.aX]using ao
theorem FC{P:Prop}(h:P:=by go_wp2;exact⟨⟨k+1,bq,ae,⟨_,_,_,rfl⟩,⟨_,_,_,rfl⟩,by rw[ag bj];exact K8⟩,ci⟩):P:=h
theorem yt{P:Prop}(h:P:=by unfold World.cell?; rw[EW];rfl):P:=h
theorem Vn(zb be bv bf:Nat)(o:ah)(rc:Int)(ac:Bool)(va bA aS:Value)(g b j:List aj)(w:World)(hz:e6 w zb o be bv bf g)(bt:g.length<=60)(aB:eZ w va b)(hb:eZ w bA j)(b9:b.length<=500)(cO:j.length<=500)(P:∀i∈b++j,i.data.length<=3000):az 128 #[aO zb,.agg #[ak rc,.bool ac,va,bA,aS]] w fun z bC=>(∃v,z=.returned v/\cA bC w.heap.size v (hU g b (b++j)).2)/\ax w bC:=by
 obtain⟨aa,u,rfl⟩:=pk aB;obtain⟨ab,L,rfl⟩:=pk hb;have an:=af aB;have a1:=af hb;have a_:=af P;have bh:=af hz;clear aB hb P hz;go_enter func128,ntmps128;go_wp2_with fail;have M:ax w ((w.alloc (.cells #[.int .i64 rc,.bool ac,.slice aa b.length u,.slice ab j.length L,aS] 43)).alloc (.cells #[.slice aa b.length u,.slice ab j.length L] 41)):=(aE.alloc av _).alloc am _;have ba:((w.alloc (.cells #[.int .i64 rc,.bool ac,.slice aa b.length u,.slice ab j.length L,aS] 43)).alloc (.cells #[.slice aa b.length u,.slice ab j.length L] 41)).cell? (aq w.heap.size 2)=some (.slice aa b.length u):=by go_simp
 refine(R0 (w.heap.size+1) _ _ b j _ am (by go_simp) (by go_simp) (an.below M) (a1.below M) ae ae).mono ?_;rintro z J ⟨cS,rfl,aH,aC⟩;have D:ax w J:=M.trans (aC.mono cu);have aK:J.cell? (aq w.heap.size 2)=some (.slice aa b.length u):=(aC.cell (p:=⟨w.heap.size,2,none⟩) aA).trans ba;obtain⟨b_,ap,rfl⟩:=aH.slice;have bz:=af aH.rv;have bF:(b++j).length<=1000:=by rw[a6];omega
 have bE:=af (an.below D);have aL:=af (bh.below D);have bW:=af D;have bD:=af aK;have br:=D.size;have b2:w.heap.size<J.heap.size:=ef _ _ aK;clear aH M aC ba an a1 D aK bh;obtain⟨c,ay⟩:∃c,b++j=c:=⟨_,rfl⟩;rw[ay]at bz bF a_ ⊢;have bJ:=af ay;clear ay;go_wp2_with fail;go_loopw [5,6,19] (fun I bB y wr=>∃k:Nat,y=ak k/\k<=c.length/\(∃a G B,I=.slice a G B)/\(∃a G B,bB=.slice a G B)/\Ah J wr bB I (hU g b (c.take k)).1 (hU g b (c.take k)).2) (fun _ _ y _=>c.length-(intOf y).toNat);case atStart=>exact⟨0,rfl,b6 _,⟨_,_,_,rfl⟩,⟨_,_,_,rfl⟩,⟨e8 _ _ _ _,e8 _ _ _ _,(fun k bo=>by cases bo),bk _ _⟩⟩
 case round =>(
 obtain⟨k,rfl,bo,⟨cy,cB,cz,rfl⟩,⟨cP,cR,cQ,rfl⟩,t⟩:=hrel;obtain⟨bT,aw⟩:∃bT,hU g b (c.take k)=bT:=⟨_,rfl⟩;have aI:=Ve g b bt (c.take k);have cw:(c.take k).length<=1000:=jX
 rw[aw]at t aI;obtain⟨bR,r⟩:=bT;simp only at t aI;have ch:bR.length<=1000:=ae;have cb:r.length<=60000:=ae;have K:=af aw;have al:=af t;have cp:=t.bl.size;clear aw aI;by_cases E:k<c.length;{
 have ao:=af (du E);have b5:=bz.below t.bl;rcases b5 with⟨C,ar⟩|⟨ck,cG,cn,C,cr,bp⟩;{rw[ar]at E;simp at E};{
 cases C;obtain⟨aM,aN,aP,aQ⟩:=bp.four k E;have P:=ag a_ c[k] (bM E);have aV:=af (fun W=>HP c[k].data W P);clear bp t;generalize c[k]=i at *;go_wp2_with fail;refine(aV _).mono ?_;rintro z aT ⟨rfl,aJ⟩;have aD:ax wr aT:=by rw[aJ];exact qx
 have cq:aT.cell? (aq wr.heap.size 2)=some (ak i.type):=by rw[aJ];go_simp
 have A:=al.below aD;have K8:=af A;obtain⟨x,hx⟩:∃x,dq i.data=x:=⟨_,rfl⟩;rw[hx];have ad:=af hx;have aY:=af (Vi _ bR x _ aT A.tg ae);obtain⟨_,_,bm⟩:=A.tg.slice;obtain⟨-,bS,-⟩:=gL bm;obtain⟨_,_,bi⟩:=A.ad.slice;obtain⟨-,bU,-⟩:=gL bi;subst bS bU;have cc:=aD.size;generalize wr.heap.size=cL at *;clear aJ aV aM aN aP aQ aD A bm bi hx;by_cases l:ge i=false;{
 have bs:(i.type != 2)=true:=by unfold ge at l;simp at l;simpa using l.1
 have bV:(i.type != 15)=true:=by unfold ge at l;simp at l;simpa using l.2
 have bj:Hid (hU g b (c.take (k+1))=(bR,r)):=by rw[Hid,ag ao,xG,ag K,Vb l]
 clear l;exact FC};{
 have H:ge i=true:=by simpa using l
 have bY:(i.type != 2)=false\/((i.type != 2)=true/\(i.type != 15)=false):=by{by_cases h2:i.type=2;{left;simp[h2]};{right;unfold ge at H;simp[h2]at H;exact⟨sA,by simp[H]⟩}};have bH:=af H;clear l H;obtain⟨aF,T⟩:∃aF,bR.contains x=aF:=⟨_,rfl⟩;rw[T]at aY;have a0:=af T;clear T;rcases bY with bs|⟨bs,bV⟩;all_goals(
 go_wp2_with fail;refine aY.mono ?_;rintro z cW ⟨rfl,rfl⟩;cases aF with
 | true =>{
 have bj:Hid (hU g b (c.take (k+1))=(bR,r)):=by rw[Hid,ag ao,xG,ag K,Vc (by rw[ag ad];exact a0)]
 exact FC}
 | false =>{
 obtain⟨d,N⟩:∃d,gU (cM g x) 1=d:=⟨_,rfl⟩;have bj:Hid (hU g b (c.take (k+1))=(bR++[x],r++d.filter (fun a=>!b.any (a == ·)))):=by{rw[Hid,ag ao,xG,ag K,Vd (ag bH) (by rw[ag ad];exact a0),ag ad,N]};obtain⟨cT,b8,F,U,bK,cm,bL⟩:=K8.aws x ae;subst bL;have Q:=af F;have bb:=af U;have S:=af (At zb be bv bf o x 1 g b8 (aL.below U.bl) ae);rw[N]at S;clear F U;go_wp2_with (at_builtin;go_loud (refine ny dO (.tmp 39) (.tmp 41) 49 dO _ _ _ _ dO dO (ag Q) ?_));refine S.mono ?_;rintro z cX ⟨⟨cU,rfl,V⟩,bg⟩;have X:=bb.below bg;have bN:=af X;have aW:=Kr (aL.below X.bl) V;obtain⟨cN,cd,rfl⟩:=pk aW;have b3:=af V;have ce:d.length<=60:=by rw[<- N];exact aZ (aZ (vm _ _) (s6 _ _)) bt
 clear V bg X N S Q bb aW;go_wp2_with fail;go_loopw [5,47] (fun I y wr=>∃e:Nat,y=ak e/\e<=d.length/\(∃a G B,I=.slice a G B)/\Ah J wr (.slice bK (bR.length+1) cm) I (bR++[x]) (r++(d.take e).filter (fun a=>!b.any (a == ·)))) (fun _ y _=>d.length-(intOf y).toNat);case atStart=>exact⟨0,rfl,b6 _,⟨_,_,_,rfl⟩,(by rw[kW,List.filter_nil,eu];exact bN)⟩
 case round =>(
 obtain⟨e,rfl,ct,⟨cC,cE,cD,rfl⟩,n⟩:=hrel;have bc:=Kr (aL.below n.bl) (ag b3);have a2:=af n;have cf:=n.bl.size;have bn:wr.cell? (aq w.heap.size 2)=some (.slice aa b.length u):=(n.bl.cell (p:=⟨w.heap.size,2,none⟩) b2).trans (ag bD);have cF:((d.take e).filter (fun a=>!b.any (a == ·))).length<=60:=by{have:=nS (fun a:aj=>!b.any (a == ·)) (d.take e);rw[de]at this;omega};by_cases O:e<d.length;{
 have a3:=af (du O);rcases bc with⟨C,ar⟩|⟨bX,cH,co,C,cs,aR⟩;{rw[ar]at O;simp at O};{
 cases C;obtain⟨aM,aN,aP,aQ⟩:=aR.four e O;have cg:=aR.1;have Y:=af (fun W (b0:ax wr W)=>Vh d[e] _ b W ((bE.below n.bl).below b0) ae);generalize d[e]=a at *;have cv:¬bX=wr.heap.size:=ae;have cj:¬w.heap.size=wr.heap.size:=ae;have bd:∀(o:Obj) (a:Addr) (v:Value),wr.cell? a=some v->(wr.alloc o).cell? a=some v:=fun o a v h=>(b7 (bx wr o a.block (ef _ _ h))).trans h;have bZ:=fun o=>bd o _ _ bn;have dR:∀o,ax wr (wr.alloc o):=fun o=>aE.alloc av _;have bu:=af dR;obtain⟨aG,Z⟩:∃aG,b.any (a == ·)=aG:=⟨_,rfl⟩;have aX:=af Z;rw[Z]at Y;obtain⟨_,_,bl⟩:=n.ad.slice;obtain⟨-,a4,-⟩:=gL bl;rw[a6]at a4;subst a4;clear aR n bd dR Z bl;go_wp2_with fail;refine(Y _ (bu _)).mono ?_;rintro z q ⟨rfl,aU⟩;have bG:=(bu (.cells #[.string (ai a.owner),.int .i64 a.aI,.int .i64 a.type,.string (ai a.data)] 47)).trans (aU.mono am);have a5:=a2.below bG;have a7:=af a5;have EW:q.heap[wr.heap.size]? = some (.cells #[.string (ai a.owner),.int .i64 a.aI,.int .i64 a.type,.string (ai a.data)] 47):=(aU.block wr.heap.size am).trans (World.alloc_heap_new wr _);have cI:q.cell? (aq wr.heap.size 0)=some (au a.owner):=yt
 have cJ:q.cell? (aq wr.heap.size 1)=some (ak a.aI):=yt
 have cK:q.cell? (aq wr.heap.size 2)=some (ak a.type):=yt
 have cx:q.cell? (aq wr.heap.size 3)=some (au a.data):=yt
 clear aU a5 EW aM aN aP aQ bn bZ Y;cases aG with
 | true =>{have R:Hid ((d.take (e+1)).filter (fun a=>!b.any (a == ·))=(d.take e).filter (fun a=>!b.any (a == ·))):=by{rw[Hid,ag a3,kP,kh (by rw[ag aX];simp)];simp};go_wp2;exact⟨⟨e+1,bq,ae,⟨_,_,_,rfl⟩,by rw[ag R];exact a7⟩,ci⟩}
 | false =>{have R:Hid ((d.take (e+1)).filter (fun a=>!b.any (a == ·))=(d.take e).filter (fun a=>!b.any (a == ·))++[a]):=by{rw[Hid,ag a3,kP,i1 (by rw[ag aX];rfl)];rfl};have bw:ax q (q.alloc (.cells #[.string (ai a.owner),.int .i64 a.aI,.int .i64 a.type,.string (ai a.data)] 47)):=aE.alloc av _;obtain⟨cV,cY,F,a8,⟨ca,cl,a9⟩,bO⟩:=(a7.below bw).awt a (Vm q a _) (by rw[a6];omega);rw[a6]at a9;subst a9;have Q:=af F;have bP:=af a8;clear F a8 bO bw;go_wp2_with (at_builtin;go_loud (refine ny dO (.tmp 56) (.tmp 58) 41 dO _ _ _ _ dO dO (ag Q) ?_));go_wp2;exact⟨⟨e+1,bq,ae,⟨_,_,_,rfl⟩,by rw[ag R,<- c_];exact bP⟩,ci⟩}}};{have bQ:e=d.length:=ae;have b1:¬(e:Int)<(d.length:Int):=ae;have b4:Hid (hU g b (c.take (k+1))=(bR++[x],r++(d.take e).filter (fun a=>!b.any (a == ·)))):=by{rw[Hid,ag bj,bQ,dK]};clear n bc;go_wp2;exact⟨⟨k+1,bq,ae,⟨_,_,_,rfl⟩,⟨_,_,_,rfl⟩,by rw[ag b4];exact a2⟩,ci⟩})})}}};{have bI:k=c.length:=ae;have b1:¬(k:Int)<(c.length:Int):=ae;have bj:Hid (hU g b c=(bR,r)):=by{have:=ag K;rw[bI,dK]at this;exact this};clear t;go_wp2;go_ret;exact⟨⟨_,rfl,by rw[ag bJ,ag bj];exact al.ad.base br⟩,bW.trans (al.bl.mono br)⟩})
def J7(h:Option (Int×List aj×List aj))(zb j t q:Nat)(k:Int)(o r:ah)(rs:List aj):Prop :=
 ∀(a b d:Nat) (l:Bool) (W:World),cr W a zb k 0 l (aJ) (aJ) (aJ) b->e6 W zb o j t q rs->bT W->zb<a->j<a->0<a->h7 W b d false->b≠d->b<a->d<a->∀base,base<=d ->
  az 127 #[aO a,au r] W fun p c =>
   (h=none/\p=.returned (.bool false)/\Below base W c)\/(∃rc i n g e,h=some (rc,i,n)/\p=.returned (.bool true)/\cr c a zb k rc l g e (aJ) b/\cA c (a+1) g i/\cA c (a+1) e n/\kr g e/\Below a W c)
def J8(e:Option (Int×List aj×List aj))(o g:ah)(rs:List aj)(d:World)(base:Nat)(v:Value):Prop :=
 (e=none/\v=.agg #[ak 2,.bool true,aJ,aJ,aJ]) \/
 ∃rc a c va b vd,e=some (rc,a,c)/\v=.agg #[ak rc,.bool (decide ((ca o rs g).length=0)),va,b,vd]/\cA d base va a/\cA d base b c/\cA d base vd (hU rs a (a++c)).2/\kr va b/\kr va vd/\kr b vd
theorem U4(U:Option (Int×List aj×List aj))(zb G L H:Nat)(k:Int)(o c:ah)(rs:List aj)(w:World)(hz:e6 w zb o G L H rs)(aA:bT w)(cf:c.length<=2900)(a9:dU c o=true)(ba:Cq o rs)(bG:rs.length<=60)(aV:J7 U zb G L H k o c rs)(a8:∀rc Z ac,U=some (rc,Z,ac)->Z.length<=500/\ac.length<=500/\∀bP∈Z++ac,bP.data.length<=3000):az 69 #[aO zb,au c,ak k] w fun g P=>(∃v,g=.returned v/\J8 U o c rs P w.heap.size v)/\ax w P:=by
 have cj:=hz.1;have b6:=hz.2.2.2.2.1;have ci:=hz.2.1;have ce:=aA.1;have an:=af hz;have aP:=af aA;have bx:=af aV;have bA:=ba.2.1;have bD:=ba.1;have a4:ax w (w.alloc (.cells #[.int .i64 0,.bool false,.slice none 0 0,.slice none 0 0,.slice none 0 0] 43)):=aE.alloc av _;have aR:Hid (∀W,az 110 #[au c,au o] W fun g P=>g=.returned (.bool true)/\P=W):=fun W=>by{have:=tt (ai c) (ai o) W gB gB;rw[jC,jC,a9]at this;exact this};have bK:=af a8;clear hz aA aV a9 a8;go_enter func69,ntmps69;go_wp2_with fail;refine(aR _).mono ?_;rintro g aN ⟨rfl,aB⟩;have ar:ax w aN:=by rw[aB];exact a4
 have M:aN.heap[w.heap.size]? = some (.cells #[.int .i64 0,.bool false,.slice none 0 0,.slice none 0 0,.slice none 0 0] 43):=by rw[aB];exact vU w _
 clear aB a4 aR;go_wp2_with fail;refine(Rk aN).mono ?_;rintro g w2 ⟨I,bz,rfl,K,cb,cd,bE,aw⟩;have bL:=af K;have b9:=(bn.1 M).1;have a6:=K.lt;have aW:=K.1;have a:=ar.trans (aw.mono ar.size);have aM:=(aw.block w.heap.size (bn.1 M).1).trans M;clear K M;go_wp2_with fail;have J:ax w2 (w2.alloc (.cells #[.pointer (some ⟨zb,0,none⟩),.int .i64 k,.int .i64 0,.bool false,.slice none 0 0,.slice none 0 0,.slice none 0 0,.pointer (some ⟨I,0,none⟩)] 210)):=aE.alloc av _;have aT:cr (w2.alloc (.cells #[.pointer (some ⟨zb,0,none⟩),.int .i64 k,.int .i64 0,.bool false,.slice none 0 0,.slice none 0 0,.slice none 0 0,.pointer (some ⟨I,0,none⟩)] 210)) w2.heap.size zb k 0 false (aJ) (aJ) (aJ) I:=vU w2 _;have ch:=aw.size;have cg:=ar.size;refine(vx zb G L H o c rs _ ((an.below a).below J) ((aP.below a).below J) bD ae bA).mono ?_;rintro g Q ⟨⟨cp,rfl,a_⟩,ay⟩;obtain⟨b8,aK,rfl⟩:=a_.slice;have y:=aT.kept (ay.block w2.heap.size am);have bj:ax w2 Q:=J.trans (ay.mono cu);have b_:=y.lt;clear aT a_ J ay;obtain⟨bQ,bR,bS,bU,bV,bW,bX,bY⟩:=y.cells;have bZ:=y.frozen 3;have bc:=af y;clear y bQ bR bS bV bW bX bY;obtain⟨b,cs,aX⟩:∃b:Bool,(((ca o rs c).length:Int)==0)=b/\decide ((ca o rs c).length=0)=b:=⟨_,rfl,by{by_cases h:(ca o rs c).length=0;{rw[h];rfl};{rw[eD h,eq_comm,eW];omega}}⟩;have bk:=af aX;clear aX;have aU:=bc.jv b;have x:ax w2 (Q.setCell ⟨w2.heap.size,3,none⟩ (.bool b)):=bj.setCell (p:=⟨w2.heap.size,3,none⟩) av _;have bF:(Q.setCell ⟨w2.heap.size,3,none⟩ (.bool b)).heap.size=Q.heap.size:=g8
 have Y:=af (bx w2.heap.size I bz b _ aU (an.below (a.trans (x.mono a.size))) (aP.below (a.trans (x.mono a.size))) ae ae ae (bL.below x aW a6) bE aW a6 (w.heap.size+1) ae);clear aU bc;go_wp2_with fail;refine Y.mono ?_;rintro g R (⟨C,rfl,A⟩|⟨rc,j,q,va,cq,C,rfl,N,E,D,a5,A⟩);{have u:ax w R:=(a.trans (x.mono a.size)).trans (A.mono ae);have d:eM R w.heap.size (ak 0) (.bool false) (aJ) (aJ) (aJ):=((A.block w.heap.size ae).trans (x.block w.heap.size ae)).trans aM;obtain⟨bH,aC,aD,bI,bJ⟩:=eM.cells d;have bl:=eM.frozen d 0;have bm:=eM.frozen d 1;have bo:=eM.frozen d 2;have bp:=eM.frozen d 3;have bq:=eM.frozen d 4;have T:=((((eM.set0 d (ak 2)).set1 (.bool true)).set2 (aJ)).jv (aJ)).mh (aJ);obtain⟨aF,aG,aH,aI,aL⟩:=T.cells;clear Y d;go_wp2_with fail;refine cc (v:=.agg #[.int .i64 2,.bool true,.slice none 0 0,.slice none 0 0,.slice none 0 0]) ?_ rfl ?_;{simp[results,results69,go_sem,aF,aG,aH,aI,aL]};{exact⟨⟨_,rfl,.inl ⟨C,rfl⟩⟩,((((u.setCell (p:=⟨w.heap.size,0,none⟩) av _).setCell (p:=⟨w.heap.size,1,none⟩) av _).setCell (p:=⟨w.heap.size,2,none⟩) av _).setCell (p:=⟨w.heap.size,3,none⟩) av _).setCell (p:=⟨w.heap.size,4,none⟩) av _⟩}};{obtain⟨aY,aZ,bb⟩:=ag bK rc j q C;have br:=af bb;have bh:=af aY;have bs:=af aZ;have bt:=af C;have bf:=af a5;clear bb aY aZ C a5;have u:ax w2 R:=x.trans A;have d:=(u.block w.heap.size ae).trans aM;obtain⟨b0,b1,b2,b3,b4,bN,b5,bd⟩:=N.cells;obtain⟨aa,ad,rfl⟩:=E.slice;obtain⟨ab,al,rfl⟩:=D.slice;have be:=af (Vn zb G L H o rc b _ _ (aJ) rs _ _ R (an.below (a.trans (u.mono a.size))) bG E.rv D.rv (ag bh) (ag bs) (ag br));have a0:=af (aQ E.pM D.pM);have bM:=af N;have bg:=af E;have bi:=af D;have bu:=N.lt;clear Y N E D;go_wp2_with fail;refine be.mono ?_;rintro g S ⟨⟨vd,rfl,O⟩,z⟩;obtain⟨r,t,rfl⟩:=O.slice;have aS:=af O;have V:=O.pM;clear O;obtain⟨e,X⟩:∃e,(hU rs j (j++q)).2=e:=⟨_,rfl⟩;rw[X]at aS V ⊢;have bv:=af X;have a1:=af V;clear X V;have F:=bM.kept (z.block w2.heap.size bu);obtain⟨ct,cv,cw,cy,cz,cB,cC,cD⟩:=F.cells;have b7:=F.frozen 6;have a2:=F.tR (.slice r e.length t);obtain⟨ck,cl,cK,cx,cm,cn,co,J9⟩:=a2.cells;have n:=(z.block w.heap.size (by have:=A.size;rw[bF]at this;omega)).trans d;have bw:=af (aQ (bg.below z) (bi.below z));obtain⟨bH,aC,aD,bI,bJ⟩:=eM.cells n;have bl:=eM.frozen n 0;have bm:=eM.frozen n 1;have bo:=eM.frozen n 2;have bp:=eM.frozen n 3;have bq:=eM.frozen n 4;clear F a2 b0 b1 b2 b3 b4 bN b5 bd bU bZ aM d;go_wp2_with fail;have T:=((((eM.set0 (show eM (S.setCell ⟨w2.heap.size,6,none⟩ (.slice r e.length t)) w.heap.size _ _ _ _ _ from(bC _ _ _ _ (by show w.heap.size≠w2.heap.size;omega)).trans n) (ak rc)).set1 (.bool b)).set2 (.slice aa j.length ad)).jv (.slice ab q.length al)).mh (.slice r e.length t);obtain⟨aF,aG,aH,aI,aL⟩:=T.cells;have bO:ax w2 S:=u.trans (z.mono ae);have a3:=ag bw;refine cc (v:=.agg #[.int .i64 rc,.bool b,.slice aa j.length ad,.slice ab q.length al,.slice r e.length t]) ?_ rfl ?_;{simp[results,results69,go_sem,aF,aG,aH,aI,aL]};{have ao:∀ {v:Value} {l:List aj},cA S (w2.heap.size+1) v l->cA ((((((S.setCell ⟨w2.heap.size,6,none⟩ (.slice r e.length t)).setCell ⟨w.heap.size,0,none⟩ (.int .i64 rc)).setCell ⟨w.heap.size,1,none⟩ (.bool b)).setCell ⟨w.heap.size,2,none⟩ (.slice aa j.length ad)).setCell ⟨w.heap.size,3,none⟩ (.slice ab q.length al)).setCell ⟨w.heap.size,4,none⟩ (.slice r e.length t)) w.heap.size v l:=fun h=>((((((h.nO (k:=w2.heap.size) (i:=6) ae _).nO (k:=w.heap.size) (i:=0) ae _).nO (k:=w.heap.size) (i:=1) ae _).nO (k:=w.heap.size) (i:=2) ae _).nO (k:=w.heap.size) (i:=3) ae _).nO (k:=w.heap.size) (i:=4) ae _).base ae;refine⟨⟨_,rfl,.inr ⟨rc,j,q,_,_,_,bt,by rw[ag bk],ao a3.1,ao a3.2,?_,bf,fun B ap aq=>?_,fun B ap aq=>?_⟩⟩,?_⟩;{rw[ag bv];exact ao (aS.base (by have:=u.size;omega))};{have aC:=(a0.1 B ap).2;have aD:=(a1 B aq).1;omega};{have aC:=(a0.2 B ap).2;have aD:=(a1 B aq).1;omega};{have bB:=a.trans (bO.mono a.size);exact(((((bB.setCell (p:=⟨w2.heap.size,6,none⟩) BX _).setCell (p:=⟨w.heap.size,0,none⟩) av _).setCell (p:=⟨w.heap.size,1,none⟩) av _).setCell (p:=⟨w.heap.size,2,none⟩) av _).setCell (p:=⟨w.heap.size,3,none⟩) av _).setCell (p:=⟨w.heap.size,4,none⟩) av _}}}
end Go.Proofs.YtkkpahmoljiepaaGreatDoor
