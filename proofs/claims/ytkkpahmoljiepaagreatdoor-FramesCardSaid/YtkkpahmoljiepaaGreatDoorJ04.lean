import Derived.Test.YtkkpahmoljiepaaGreatDoorJ03
import Derived.Test.YtkkpahmoljiepaaGreatDoorJ0i
set_option maxRecDepth 1000000
set_option maxHeartbeats 12800000
set_option linter.unusedSimpArgs false
set_option linter.unusedVariables false
namespace Go.Proofs.YtkkpahmoljiepaaGreatDoor
open Go.RowKit Go.Proofs.Tryz
section
attribute [local go_sem] Oper.semAt_some
theorem y6(b h u bl bs:Nat)(a:List aj)(o:World)(ad:o.cell? (aq bl 0)=some (aF b h a.length u)) (am:o.cell? (aq bs 0)=some (.func (.func 180) #[] #[]))(F:cy o b h a) (Z:bl<o.heap.size) (bg:bs<o.heap.size) (bm:a.length<=3001) (bd:a.length<=u):jE prog 233 #[aO bl,aO bs] (fun S:Nat×List aj=>#[aF b (h+S.1*4) S.2.length S.2.length]) (be di a)
   (fun aD aE=>ax aD aE) (fI bl bs b) (fun _ _=>True) o:=by
 have bh:=F.1;intro l X a9 aa a6 ac h0;have ar:=af ac;have P:=af aa;clear ac aa a6;refine callsIn_of_wp func233 rfl aL ?_;simp only[ntmps233,ib,bi,cW,Nat.reduceAdd,Nat.reduceSub,h_,ik,im,il,dJ,dF];gi_wp2;gi_loopw [4] (fun s wr=>∃i k:Nat,s=ak k/\k<=a.length/\i<=(be di a).length/\(be di a).drop i=fd di (a.drop k).length k (a.drop k)/\X i wr/\fI bl bs b o wr) (fun s _=>a.length-(intOf s).toNat);case atStart=>exact Ea
 case round =>(
 obtain⟨i,k,rfl,bj,ao,al,aA,t⟩:=hrel;have bf:=af al;have T:=af aA;clear al aA;have w:=(b7 t.2.1).trans ad;have D:=(b7 t.2.2.1).trans am;by_cases O:k<a.length;{
 have q:=m3 F t.1 t.2.2.2;obtain⟨z,A,B,C⟩:=q.four k O;have ai:=fQ O;have aw:∀m (aZ:m<a.length) (h0:k+1<=m),∃h':m-(k+1)<(a.drop (k+1)).length,(a.drop (k+1))[m-(k+1)]=a[m]:=fun m aZ h0=>⟨o2,by rw[o_];congr 1;omega⟩;have av:(a.drop (k+1)).length=a.length-(k+1):=c8;rw[ai,F_]at bf;have aG:=af aw;have a7:=af F;clear ai aw q;obtain⟨n,E⟩:=a2 (((a.drop (k+1)).takeWhile (di a[k])).length);have a8:n<=a.length-(k+1):=by{rw[E,<- av];exact(GV _).length_le};have AX:=af (yY (p:=di a[k]) (a.drop (k+1)));have hend:=af (yZ (p:=di a[k]) (a.drop (k+1)));rw[<- E]at AX;have dh:=af E;clear av E z A B C;generalize an:a[k]=g at *;have aK:=af an;clear an;have H:Hid ((be di a)[i]? = some (k,g::(a.drop (k+1)).takeWhile (di g))):=by{have:=bP (fun l:List (Nat×List aj)=>l[0]?) (ag bf);rw[Hid];simpa using this};have W:Hid (i+1<=(be di a).length):=(fy.1 (ag H)).1;have GI:Hid ((a.drop (k+1)).dropWhile (di g)=a.drop (k+1+n)):=by{
 have Z:a.drop (k+1+n)=(a.drop (k+1)).drop n:=by rw[eR]
 rw[Hid,Z,ag dh];conv=>rhs;arg 2;rw[<- lP (p:=di g) (l:=a.drop (k+1))]
 rw[zz]};gi_wp2_with fail;gi_loopw [5] (fun e aC=>∃m:Nat,e=ak m/\k+1<=m/\m<=k+1+n/\X i aC/\fI bl bs b o aC) (fun e _=>a.length-(intOf e).toNat);case atStart=>exact⟨k+1,by go_num,bb _,ae,T,t⟩
 case round =>(
 clear T t w D;obtain⟨m,rfl,aH,a_,ab,j⟩:=hrel;have G:=af ab;clear ab;have w:=(b7 j.2.1).trans ad;have D:=(b7 j.2.2.1).trans am;have q:=m3 F j.1 j.2.2.2;obtain⟨z,A,B,C⟩:=q.four k O;rw[ag aK]at z A B C;by_cases ah:m<a.length;{
 obtain⟨ay,az,cK,cx⟩:=q.four m ah;obtain⟨ql,hg⟩:=ag aG m ah aH;clear q;by_cases V7:m-(k+1)<n;{have a1:di g a[m]=true:=Em;clear hg ql;generalize a[m]=s at *;have V:(m:Int)<(a.length:Int):=ae;have a4:(k:Int)<(a.length:Int):=ae;have Y:=eC V;have a0:prog.follows .mixedOrders=true:=aB;have ap:=j.1;have aX:∀c d,(Sort.grow (wr.drewN c) d).cell? (aq bl 0)=some (aF b h a.length u):=cell_grown yG w;have aY:∀c d,(Sort.grow (wr.drewN c) d).cell? (aq bs 0)=some (.func (.func 180) #[] #[]):=cell_grown yJ D;have aT:∀c d,(Sort.grow (wr.drewN c) d).cell? (aq b (h+k*4))=some (au g.owner):=cell_grown eO z;have aU:∀c d,(Sort.grow (wr.drewN c) d).cell? (aq b (h+k*4+1))=some (ak g.aI):=cell_grown eO A;have aV:∀c d,(Sort.grow (wr.drewN c) d).cell? (aq b (h+k*4+2))=some (ak g.type):=cell_grown eO B;have aW:∀c d,(Sort.grow (wr.drewN c) d).cell? (aq b (h+k*4+3))=some (au g.data):=cell_grown eO C;have J:∀c d,(Sort.grow (wr.drewN c) d).cell? (aq b (h+m*4))=some (au s.owner):=cell_grown eO ay;have aP:∀c d,(Sort.grow (wr.drewN c) d).cell? (aq b (h+m*4+1))=some (ak s.aI):=cell_grown eO az;have aQ:∀c d,(Sort.grow (wr.drewN c) d).cell? (aq b (h+m*4+2))=some (ak s.type):=cell_grown eO cK;have aR:∀c d,(Sort.grow (wr.drewN c) d).cell? (aq b (h+m*4+3))=some (au s.data):=cell_grown eO cx;gi_wp2_with fail;refine wpIn_wide.2 ?_;go_quiet_grown ((go_at_call 180;exact Calls.grown_of (F8 g s _)));gi_wp2_with fail;exact⟨⟨m+1,by go_num,ae,ae,ag P i _ _ (ag G) (oj _ _ _),j.trans (fI.JF (oj _ _ _) ae ae ae)⟩,by exact gz⟩};{
 have x:m=k+1+n:=ae;have a1:di g a[m]=false:=by{
 have h':((a.drop (k+1)).takeWhile (di g)).length=m-(k+1):=by rw[<- ag dh];omega
 exact FT};clear hg ql;generalize a[m]=s at *;have V:(m:Int)<(a.length:Int):=ae;have a4:(k:Int)<(a.length:Int):=ae;have Y:=eC V;have wD:=af x;clear x;have U:Hid ((g::(a.drop (k+1)).takeWhile (di g)).length=m-k):=ye;have R:Hid ((be di a).drop (i+1)=fd di (a.drop m).length m (a.drop m)):=yP;have a0:prog.follows .mixedOrders=true:=aB;have ap:=j.1;have aX:∀c d,(Sort.grow (wr.drewN c) d).cell? (aq bl 0)=some (aF b h a.length u):=cell_grown yG w;have aY:∀c d,(Sort.grow (wr.drewN c) d).cell? (aq bs 0)=some (.func (.func 180) #[] #[]):=cell_grown yJ D;have aT:∀c d,(Sort.grow (wr.drewN c) d).cell? (aq b (h+k*4))=some (au g.owner):=cell_grown eO z;have aU:∀c d,(Sort.grow (wr.drewN c) d).cell? (aq b (h+k*4+1))=some (ak g.aI):=cell_grown eO A;have aV:∀c d,(Sort.grow (wr.drewN c) d).cell? (aq b (h+k*4+2))=some (ak g.type):=cell_grown eO B;have aW:∀c d,(Sort.grow (wr.drewN c) d).cell? (aq b (h+k*4+3))=some (au g.data):=cell_grown eO C;have J:∀c d,(Sort.grow (wr.drewN c) d).cell? (aq b (h+m*4))=some (au s.owner):=cell_grown eO ay;have aP:∀c d,(Sort.grow (wr.drewN c) d).cell? (aq b (h+m*4+1))=some (ak s.aI):=cell_grown eO az;have aQ:∀c d,(Sort.grow (wr.drewN c) d).cell? (aq b (h+m*4+2))=some (ak s.type):=cell_grown eO cK;have aR:∀c d,(Sort.grow (wr.drewN c) d).cell? (aq b (h+m*4+3))=some (au s.data):=cell_grown eO cx;gi_wp2_with fail;refine wpIn_wide.2 ?_;go_quiet_grown ((go_at_call 180;exact Calls.grown_of (F8 g s _)));have L:=ag P i _ _ (ag G) (oj wr nq osq);have Q:=j.trans (fI.JF (oj wr nq osq) ae ae ae);have r:=ag ar i (k,g::(a.drop (k+1)).takeWhile (di g)) _ (ag H) L;dsimp only at r;rw[ag U]at r;obtain⟨aS,a5,aJ,aM,a3,M⟩:=r;gi_wp2_with fail;refine⟨rfl,M.mono ?_⟩;rintro e aI (⟨rfl,y,N⟩|⟨rfl,su,_⟩);{have I:=af y;have K:=Q.trans N;clear y;gi_wp2_with fail;exact⟨⟨i+1,m,by go_num,ae,W,R,I,K⟩,by exact gz⟩};{gi_wp2;exact uI}}};{have x:m=k+1+n:=ae;have wD:=af x;clear x q;have Y:decide ((m:Int)<(a.length:Int))=false:=eD ae;have ba:m<=a.length:=ae;have ap:=j.1;have U:Hid ((g::(a.drop (k+1)).takeWhile (di g)).length=m-k):=ye;have R:Hid ((be di a).drop (i+1)=fd di (a.drop m).length m (a.drop m)):=yP;gi_wp2_with fail;refine wpIn_wide.2 ?_;go_quiet (fail);have L:=ag P i _ _ (ag G) (fm (bk _ wr) nq);have Q:=j.trans (fI.JF (fm (bk wr.heap.size wr) nq) ae ae ae);have bc:(wr.drewN nq).cell? (aq bl 0)=some (aF b h a.length u):=w;have r:=ag ar i (k,g::(a.drop (k+1)).takeWhile (di g)) _ (ag H) L;dsimp only at r;rw[ag U]at r;obtain⟨aS,a5,aJ,aM,a3,M⟩:=r;gi_wp2_with fail;refine⟨rfl,M.mono ?_⟩;rintro e aI (⟨rfl,y,N⟩|⟨rfl,su,_⟩);{have I:=af y;have K:=Q.trans N;clear y;gi_wp2_with fail;exact⟨⟨i+1,m,by go_num,ae,W,R,I,K⟩,by exact gz⟩};{gi_wp2;exact uI}})};{gi_wp2;go_end0;have aN:i=(be di a).length:=by{have:=ag bf;rw[jr (show a.length<=k by omega)]at this;have h':=bP List.length this;rw[c8]at h';have J:(fd di (List.length (α:=aj) []) k []).length=0:=rfl;rw[J]at h';omega};exact⟨⟨_,rfl⟩,.inl (by rw[<- aN];exact T)⟩})
end
section
variable {P:Program} {ops:Array Oper} {Q:Exit->Act->World->Prop} {l:Nat}
theorem PZ(d:Oper)(c:Act)(next:Act->World->Prop)(a:Result Next):d.uponIn (Fence.wide.inRound l) 0 P c next Q a=d.uponIn Fence.wide 0 P c next Q a:=by
 cases a with
 | ok b e=>cases b<;>rfl
 | halt b e=>cases b<;>rfl
theorem P0(q:∀(c:Nat) (e:Oper),ops[c]? = some e->∀p,e.op≠.defer p){c:Nat}{j k:Act->World->Prop}(g:∀b d,j b d->k b d){b:Act}{d:World}(a:wpOpIn Fence.wide 0 P ops Q c j b d):wpOpIn (Fence.wide.inRound l) 0 P ops Q c k b d:=by
 unfold wpOpIn at *;cases h:ops[c]? with
 | none=>simp only[h]at a ⊢; exact g b d a
 | some e =>{simp only[h]at a ⊢;split;{rename_i i;simp only[i,gC]at a;have n:=Oper.wpIn_mono g a;unfold Oper.wpIn at *;refine⟨n.1,?_⟩;have o:=n.2;rw[Oper.semAt_eq _ _ _ (q c e h)]at o ⊢;rw[PZ];exact o};{rename_i i;simp only[i]at a;exact⟨a.1,g _ _ a.2⟩}}
theorem Gb(i:∀(e:Nat) (j:Oper),ops[e]? = some j->∀k,j.op≠.defer k)(h:Region.Mode):∀(c:Nat) (g:Array Bool) (a:Act) (b:World),
  wpAnyIn Fence.wide 0 P h ops Q c g a b->wpAnyIn (Fence.wide.inRound l) 0 P h ops Q c g a b
 | 0,_,_,_,d=>d
 | c+1,g,a,b,d=>⟨d.1,fun e ao=>P0 i (fun a b n=>Gb i h c _ a b n) (d.2 e ao)⟩
theorem pi{h:Nat}{a:Act}{w:World}(e:P.follows .mixedOrders=true)(c:∀(g:Nat) (o:Oper),ops[g]? = some o->∀b,o.op≠.defer b)(d:wpAnyIn Fence.wide 0 P .any ops Q ops.size (Array.replicate ops.size false) a w.drew):(Code.region h ops true).wpIn (Fence.wide.inRound l) 0 P Q a w :=
 wpIn_region_any e (Gb c _ _ _ _ _ d)
def P1(ops:Array Oper):Bool:=ops.all fun a=>match a.op with
 | .defer _=>false
 | _=>true
theorem m4(c:P1 ops=true):∀(b:Nat) (o:Oper),ops[b]? = some o->∀a,o.op≠.defer a:=by intro b o g a d;have e:=GK g;have:=(Array.all_eq_true_iff_forall_mem.1 c) o e;rw[d]at this;cases this
end
section
attribute [local go_sem] Oper.semAt_some
def bO(a:Nat×List aj):ah:=(a.2.headD aj.zero).owner
theorem y7(b:Option Addr)(d c:Nat)(a:World):az 109 #[.slice b d c] a fun e g=>e=.returned (.func (.func 179) #[] #[aO a.heap.size])/\g=a.alloc (.cells #[.slice b d c] 41):=by go_enter func109,ntmps109;go_wp2;go_ret;exact dX
theorem Gc(bh:aj->aj->Bool):∀(f b:Nat) (l:List aj) (a:Nat×List aj),a∈fd bh f b l->b<=a.1/\a.1+a.2.length<=b+l.length/\0<a.2.length/\a.2=(l.drop (a.1-b)).take a.2.length
 | 0,b,l,a,e=>by simp[fd]at e
 | f+1,b,[],a,e=>by simp[fd]at e
 | f+1,b,c::d,a,e=>by
  have j:=bP List.length (lP (p:=bh c) (l:=d));rw[a6]at j;rw[fd,co]at e;rcases e with rfl|e;{
  refine⟨bb _,aA,am,?_⟩;simp only[i3,kg,bi,nD];congr 1;conv=>rhs;arg 2;rw[<- lP (p:=bh c) (l:=d)]
  rw[List.take_left]};{
  obtain⟨k,n,h,i⟩:=Gc bh f _ _ a e;refine⟨ae,aA,h,?_⟩;have g:(c::d).drop (a.1-b)=(d.dropWhile (bh c)).drop (a.1-(b+1+(d.takeWhile (bh c)).length)):=by{
  conv=>lhs;arg 2;arg 2;rw[<- lP (p:=bh c) (l:=d)]
  rw[show a.1-b=1+(d.takeWhile (bh c)).length+(a.1-(b+1+(d.takeWhile (bh c)).length))from ae];rw[<- eR,show 1+(d.takeWhile (bh c)).length=(c::d.takeWhile (bh c)).length from aA,<- dF,zz]};rw[g];exact i}
theorem ll{bh:aj->aj->Bool}{rs:List aj}{a:Nat×List aj}(b:a∈be bh rs):a.1+a.2.length<=rs.length/\0<a.2.length/\a.2=(rs.drop a.1).take a.2.length:=by obtain⟨e,g,c,d⟩:=Gc bh _ _ _ _ b;exact⟨ae,c,by simpa using d⟩
theorem pj{w:World}{b c:Nat}{rs:List aj}(d:cy w b c rs){bh:aj->aj->Bool}{a:Nat×List aj}(g:a∈be bh rs):cy w b (c+a.1*4) a.2:=by obtain⟨_,_,e⟩:=ll g;rw[e];exact(d.drop a.1).take _
theorem Gd(a:Nat×List aj)(b:0<a.2.length):a.2[0].owner=bO a:=by
 obtain⟨d,l⟩:=a;cases l with
 | nil=>simp at b
 | cons c e=>rfl
theorem Fb{P:Prop}(h:P:=by exact⟨_,sN rfl _ _ _,⟨_,rfl⟩,.inr (GM _ _ Wa hp)⟩):P:=h
theorem E4{P:Prop}(h:P:=by exact fun A B hA hst=>⟨hst.size,hst.block _ ae,hst.block _ ae⟩):P:=h
theorem EB{P:Prop}(h:P:=by exact fun c A B hA hst=>⟨hA.1,ag GM A B hA.2.1 (hst.mono ae),aZ hA.2.2 hst.size⟩):P:=h
theorem FQ{P:Prop}(h:P:=by intro r;have hg:=hgrow r;exact⟨ag ic 0 _ _ h0 (e5.trans (hg.mono ae)),hg.block _ ae,hg.block _ ae,hg.size⟩):P:=h
theorem EU{P:Prop}(h:P:=by go_simp;refine hK _ _ ?_;clear hK K;refine fL 6 fun K hK=>?_;go_simp;refine⟨rfl,hR.mono ?_⟩;rintro e W3 (⟨rfl,ov,hk4⟩|⟨rfl,su,hk4⟩);{refine hK _ _ ?_;clear hK K;refine fL 7 fun K hK=>?_;go_simp;refine hK _ _ ?_;clear hK K;refine o8 aB ?_ _;gi_wp2_with fail;exact ag (cJ W3 ov hk4)};{refine hK _ _ ?_;clear hK K;refine fL 7 fun K hK=>?_;go_simp;refine hK _ _ ?_;clear hK K;refine o8 aB ?_ _;gi_wp2_with fail;obtain⟨r1,r3,r4⟩:=ag (bY W3 su hk4);exact⟨r1,aL,rfl,r3,r4⟩}):P:=h
theorem zp(d i j y:Nat)(rs:List aj)(a:World)(aC:a.cell? (aq y 0)=some (aF d i rs.length j)) (H:cy a d i rs) (an:y<a.heap.size) (X:rs.length<=3001) (T:rs.length<=j):jE prog 179 #[aO y] (fun h:Nat×List aj=>#[au (bO h),aF d (i+h.1*4) h.2.length h.2.length]) (be di rs)
   (fun A B=>Below a.heap.size A B) (fun A B=>B.heap[d]? = A.heap[d]?/\bw a.heap.size A B) (fun A B=>bw a.heap.size A B) a:=by
 intro l C D L S M h0;have Z:=af M;have ic:=af L;have GM:=af S;clear M L S;refine vX func179 rfl aL ?_;simp only[ntmps179,ib,bi,cW,Nat.reduceAdd,Nat.reduceSub,h_,ik,im,il,dJ,dF];have az:=H.1;gi_wp2_with (refine⟨aL,rfl,?_⟩;gi_at_call 176;refine(bK.2 (Ga _ _ _ _ _)).mono ?_;rintro e aJ ⟨rfl,rfl⟩);have U:(((a.alloc (.cells #[.func (.yield l) #[] #[]] 108)).alloc (.cells #[.slice (some ⟨d,i,none⟩) rs.length j] 41)).alloc (.cells #[.func (.func 180) #[] #[]] 261)).cell? (aq a.heap.size 0)=some (.func (.yield l) #[] #[]):=by go_simp
 have V:(((a.alloc (.cells #[.func (.yield l) #[] #[]] 108)).alloc (.cells #[.slice (some ⟨d,i,none⟩) rs.length j] 41)).alloc (.cells #[.func (.func 180) #[] #[]] 261)).cell? (aq (a.heap.size+1) 0)=some (aF d i rs.length j):=by go_simp
 have W:(((a.alloc (.cells #[.func (.yield l) #[] #[]] 108)).alloc (.cells #[.slice (some ⟨d,i,none⟩) rs.length j] 41)).alloc (.cells #[.func (.func 180) #[] #[]] 261)).cell? (aq (a.heap.size+1+1) 0)=some (.func (.func 180) #[] #[]):=by go_simp
 have ar:(((a.alloc (.cells #[.func (.yield l) #[] #[]] 108)).alloc (.cells #[.slice (some ⟨d,i,none⟩) rs.length j] 41)).alloc (.cells #[.func (.func 180) #[] #[]] 261)).heap.size=a.heap.size+3:=am;have e5:ax a (((a.alloc (.cells #[.func (.yield l) #[] #[]] 108)).alloc (.cells #[.slice (some ⟨d,i,none⟩) rs.length j] 41)).alloc (.cells #[.func (.func 180) #[] #[]] 261)) := ((aE.alloc av _).alloc am _).alloc aA _;generalize ((a.alloc (.cells #[.func (.yield l) #[] #[]] 108)).alloc (.cells #[.slice (some ⟨d,i,none⟩) rs.length j] 41)).alloc (.cells #[.func (.func 180) #[] #[]] 261)=g at *;have hgrow:∀r,ax g ((g.alloc (.deferred (some []))).alloc (.loop r)):=fun r=>(aE.alloc av _).alloc am _;refine Po (xs:=be di rs) (encs:=fun h:Nat×List aj=>#[aF d (i+h.1*4) h.2.length h.2.length]) (St:=fun A B=>ax A B) (Kp:=fI (a.heap.size+1) (a.heap.size+1+1) d) (Kx:=fun _ _=>True) (gf:=233) (lb:=#[aO (a.heap.size+1),aO (a.heap.size+1+1)]) rfl (enters_of func233 aB rfl) (fun _=>rfl) ?y6 (fun n b=>C n b/\b.heap[a.heap.size]? = g.heap[a.heap.size]?/\b.heap[d]? = g.heap[d]?/\g.heap.size<=b.heap.size) (fun c b=>c=.ret/\D b/\g.heap.size<=b.heap.size) ?lA ?hI ?om ?wm ?tN ?h0 (fun A B=>B.heap[d]? = A.heap[d]?/\bw a.heap.size A B) ?qY (fun _ _=>True) (fun _ _ _ _ _ _ _ _=>aL) (fun h=>{ tmps:=#[.func (.yield l) #[] #[],aO y,aO a.heap.size,.func (.func 180) #[] #[],aF d (i+h.1*4) h.2.length h.2.length, aF d i rs.length j,.func (.func 180) #[] #[],.func (.func 233) #[] #[aO (a.heap.size+1),aO (a.heap.size+1+1)],aF d (i+h.1*4) h.2.length h.2.length,undef,undef,undef,undef,undef,undef,undef,undef],defers:=[] }) ?assign ?body ?done ?stop;case y6 =>(intro r;have hg:=hgrow r;exact y6 d i j _ _ rs _ ((hg.cell (p:=⟨a.heap.size+1,0,none⟩) (by show a.heap.size+1<g.heap.size;omega)).trans V) ((hg.cell (p:=⟨a.heap.size+1+1,0,none⟩) (by show a.heap.size+1+1<g.heap.size;omega)).trans W) ((H.below e5).below hg) ij ij X T)
 case lA=>exact E4
 case hI=>exact fun n A B hA hst=>⟨ag ic n A B hA.1 (hst.mono ae),(hst.block _ ae).trans hA.2.1,(hst.block _ ae).trans hA.2.2.1,aZ hA.2.2.2 hst.size⟩
 case om=>exact EB
 case wm =>(intro n A r x hA q;have hp:Below a.heap.size A (A.putObj (g.heap.size+1) x):=og (w:=g) ae A _ _ x ae q rfl rfl;exact⟨ag ic n A _ hA.1 hp,(lQ ae).trans hA.2.1,(lQ ae).trans hA.2.2.1,by rw[pC];exact hA.2.2.2⟩)
 case tN =>(intro c A r x hA q;have hp:Below a.heap.size A (A.putObj (g.heap.size+1) x):=og (w:=g) ae A _ _ x ae q rfl rfl;exact⟨hA.1,ag GM A _ hA.2.1 hp,by rw[pC];exact hA.2.2⟩)
 case h0 =>(exact FQ)
 case qY =>(intro b r aH aI al q k ay;have aD:=(bn.1 q).1;have N:=k.2.1;rw[pC]at N;refine⟨by rw[pC];exact N,?_,?_,?_⟩;{rw[lQ ae,k.2.2 _ ae (by rw[pC];omega),lQ ae]};{rw[lQ ae,k.2.2 _ ae (by rw[pC];omega),lQ ae]};{rw[lQ ae,k.1,lQ ae]})
 case assign =>(intro aa h b K hK;gi_wp2;exact hK)
 case body =>(intro aa n h b P hI O;obtain⟨ak,Q,I,z⟩:=hI;have G:=ki P;have hA:=m3 (H.below e5) z I;have J:=pj hA G;have R:=(ll G).2.1;obtain⟨ac,ad,ah,ai⟩:=J.four 0 R;clear ad ah ai;rw[i4,dT,Gd h R]at ac;have ap:=(b7 Q).trans U;have ab:=ag Z n h b.drew P (ic n _ _ ak (aE.drew));have ao:(0:Int)<(h.2.length:Int):=ae;have Y:prog.follows .mixedOrders=true:=aB;obtain⟨aw,tmps,assign,body,aG,hR⟩:=ab;clear hA J G;have E:∀W3,bw a.heap.size b.drew W3->fi g.heap.size b W3:=fun W3 k=>by{have o:bw a.heap.size b W3:=k;exact⟨o.1,o.2 _ ae ae,o.2 _ ae ae⟩};have cJ:∀W3,C (n+1) W3->W3.heap[d]? = b.drew.heap[d]?/\bw a.heap.size b.drew W3->Hid (fi g.heap.size b W3/\(W3.heap[d]? = b.heap[d]?/\bw a.heap.size b W3)/\(C (n+1) W3/\W3.heap[a.heap.size]? = g.heap[a.heap.size]?/\W3.heap[d]? = g.heap[d]?/\g.heap.size<=W3.heap.size)):=fun W3 F k=>by{have u:=E W3 k.2;have o:W3.heap[d]? = b.heap[d]?/\bw a.heap.size b W3:=k;exact⟨u,o,F,(o.2.2 _ av ae).trans Q,o.1.trans I,aZ z u.1⟩};have bY:∀W3,D W3->bw a.heap.size b.drew W3->Hid (fi g.heap.size b W3/\(D W3/\g.heap.size<=W3.heap.size)):=fun W3 F k=>by{have u:=E W3 k;exact⟨u,F,aZ z u.1⟩};clear E;gi_wp2_with fail;refine pi Y (m4 aB) ?_;refine gb 1 ?_;refine gb 2 ?_;refine gb 3 ?_;refine gb 5 ?_;refine lF (rs:=[0,4]) aB am ?_;refine hi rfl (fun K hK=>?_) (hi rfl (fun K hK=>?_) nn);{go_simp;refine hK _ _ ?_;clear hK K;refine fL 4 fun K hK=>?_;exact EU};{go_simp;refine hK _ _ ?_;clear hK K;refine fL 0 fun K hK=>?_;exact EU})
 case done =>(intro b hI t O;gi_wp2;refine⟨am,.inl ⟨_,_,rfl,pE t,?_⟩⟩;have hp:Below a.heap.size b (b.putObj g.heap.size (.deferred none)):=og (w:=g) ae b _ _ _ av t rfl rfl;exact⟨_,sN rfl _ _ _,⟨_,rfl⟩,.inl (ic _ _ _ hI.1 hp)⟩)
 case stop =>(intro c b hI t O;obtain⟨rfl,Wa,z⟩:=hI;gi_wp2;refine⟨am,.inl ⟨_,_,rfl,pE t,?_⟩⟩;have hp:Below a.heap.size b (b.putObj g.heap.size (.deferred none)):=og (w:=g) ae b _ _ _ av t rfl rfl;exact Fb)
end
section
attribute [local go_sem] Oper.semAt_some
def km(a:ah)(b:List aj):List (Nat×List aj):=(be di b).filter (fun c=>dU (bO c) a)
theorem P2(b:Option Addr)(d c:Nat)(s:ByteArray)(a:World):az 182 #[.slice b d c,.string s] a fun e g=>e=.returned (.func (.func 235) #[] #[aO a.heap.size,aO (a.heap.size+1)])/\g=(a.alloc (.cells #[.slice b d c] 41)).alloc (.cells #[.string s] 9):=by go_enter func182,ntmps182;go_wp2;go_ret;exact dX
theorem EY{P:Prop}(h:P:=by rintro e w' ⟨rfl,rfl⟩;exact⟨rfl,am,(aE.alloc av _).alloc am _,by go_simp,by go_simp⟩):P:=h
theorem Gf(b:Option Addr)(d c:Nat)(s:ByteArray)(a:World):az 182 #[.slice b d c,.string s] a fun e w'=>e=.returned (.func (.func 235) #[] #[aO a.heap.size,aO (a.heap.size+1)])/\w'.heap.size=a.heap.size+2/\ax a w'/\w'.cell? (aq a.heap.size 0)=some (.slice b d c)/\w'.cell? (aq (a.heap.size+1) 0)=some (.string s):=by refine(P2 b d c s a).mono ?_;exact EY
def lm(p:Nat×List aj->Bool)(l:List (Nat×List aj))(a:Nat):Nat:=((l.take a).filter p).length
theorem P3(a:Nat×List aj->Bool)(l:List (Nat×List aj)):lm a l l.length=(l.filter a).length:=by unfold lm;rw[dK]
theorem P4(b:Nat×List aj->Bool)(l:List (Nat×List aj))(a:Nat)(c:Nat×List aj)(d:l[a]? = some c)(e:b c=false):lm b l (a+1)=lm b l a:=by obtain⟨ao,rfl⟩:=fy.1 d;unfold lm;rw[du ao,kP,a6];simp[e]
theorem P5(b:Nat×List aj->Bool)(l:List (Nat×List aj))(a:Nat)(c:Nat×List aj)(g:l[a]? = some c)(d:b c=true):lm b l (a+1)=lm b l a+1/\(l.filter b)[lm b l a]? = some c:=by
 obtain⟨ao,rfl⟩:=fy.1 g;unfold lm;refine⟨?_,?_⟩;{rw[du ao,kP,a6];simp[d]};{
 have e:l.filter b=(l.take a).filter b++(l[a]::(l.drop (a+1)).filter b):=by{
 conv=>lhs;rw[<- ft a l,fQ ao]
 rw[kP,i1 d]};rw[e,lT av];simp}
theorem Gi{b:List aj}{a:Nat×List aj}(i:a∈be di b):∃j∈b,j.owner=bO a:=by obtain⟨k,c,g⟩:=ll i;have h:∀e∈a.2,e∈b:=by{intro e d;rw[g]at d;exact vF (mJ d)};exact⟨a.2[0],h _ (bM c),Gd a c⟩
theorem GC(h q t L i:Nat)(n:ah)(j:List aj)(a:World)(X:cy a h q j) (ap:j.length<=t) (aX:a.cell? (aq L 0)=some (aF h q j.length t)) (aU:a.cell? (aq i 0)=some (au n))(a_:L<a.heap.size) (aK:i<a.heap.size) (aD:j.length<=3001) (a8:n.length<=3000) (aI:∀r∈j,r.owner.length<=3000):jE prog 235 #[aO L,aO i] (fun e:Nat×List aj=>#[au (bO e),aF h (q+e.1*4) e.2.length e.2.length]) (km n j)
   (fun A B=>Below a.heap.size A B) (fun A B=>(B.heap[h]? = A.heap[h]?/\B.heap[i]? = A.heap[i]?)/\bw a.heap.size A B) (fun A B=>bw a.heap.size A B) a:=by
 intro l I K V al W h0;have aJ:=af W;have ic:=af V;have GM:=af al;clear W V al;have a5:=X.1;refine callsIn_of_wp_marks func235 rfl aL ?_;simp only[ntmps235,ib,bi,cW,Nat.reduceAdd,Nat.reduceSub,h_,ik,im,il,dJ,dF];gi_wp2_with (refine⟨aL,rfl,?_⟩;gi_at_call 109;refine(bK.2 (y7 _ _ _ _)).mono ?_;rintro P ak ⟨rfl,rfl⟩);have ar:((a.alloc (.cells #[.func (.yield l) #[] #[]] 108)).alloc (.cells #[.slice (some ⟨h,q,none⟩) j.length t] 41)).cell? (aq a.heap.size 0)=some (.func (.yield l) #[] #[]):=by go_simp
 have aw:((a.alloc (.cells #[.func (.yield l) #[] #[]] 108)).alloc (.cells #[.slice (some ⟨h,q,none⟩) j.length t] 41)).cell? (aq (a.heap.size+1) 0)=some (aF h q j.length t):=by go_simp
 have a3:((a.alloc (.cells #[.func (.yield l) #[] #[]] 108)).alloc (.cells #[.slice (some ⟨h,q,none⟩) j.length t] 41)).heap.size=a.heap.size+2:=am;have e5:ax a ((a.alloc (.cells #[.func (.yield l) #[] #[]] 108)).alloc (.cells #[.slice (some ⟨h,q,none⟩) j.length t] 41)):=(aE.alloc av _).alloc am _;generalize ((a.alloc (.cells #[.func (.yield l) #[] #[]] 108)).alloc (.cells #[.slice (some ⟨h,q,none⟩) j.length t] 41))=d at *;have hgrow:∀r,ax d ((d.alloc (.deferred (some []))).alloc (.loop r)):=fun r=>(aE.alloc av _).alloc am _;have GN:∀r,((d.alloc (.deferred (some []))).alloc (.loop r)).heap.size=d.heap.size+2:=fun r=>by simp
 refine tu (xs:=be di j) (encs:=fun e:Nat×List aj=>#[au (bO e),aF h (q+e.1*4) e.2.length e.2.length]) (St:=fun A B=>Below (d.heap.size+2) A B) (Kp:=fun A B=>B.heap[h]? = A.heap[h]?/\bw (d.heap.size+2) A B) (Kx:=fun A B=>bw (d.heap.size+2) A B)
  (gf:=179) (lb:=#[aO (a.heap.size+1)]) rfl (enters_of func179 aB rfl) (fun _=>rfl) ?seq
  (fun u b=>I (lm (fun e=>dU (bO e) n) (be di j) u) b/\b.heap[a.heap.size]? = d.heap[a.heap.size]?/\b.heap[i]? = d.heap[i]?/\d.heap.size<=b.heap.size)
  (fun c b=>c=.ret/\K b/\d.heap.size<=b.heap.size)
  ?lA ?hI ?om ?wm ?tN ?h0 (fun A B=>(B.heap[h]? = A.heap[h]?/\B.heap[i]? = A.heap[i]?)/\bw a.heap.size A B) ?qY (fun A B=>bw a.heap.size A B) ?hKx
  ?round ?done ?stop
 case seq =>
  intro r;have hg:=hgrow r;have:=zp h q t (a.heap.size+1) j ((d.alloc (.deferred (some []))).alloc (.loop r)) ((hg.cell (p:=⟨a.heap.size+1,0,none⟩) (by show a.heap.size+1<d.heap.size;omega)).trans aw) ((X.below e5).below hg) ij aD ap;exact yH
 case lA=>exact E4
 case hI=>exact fun u A B hA hst=>⟨ag ic _ A B hA.1 (hst.mono ae),(hst.block _ ae).trans hA.2.1,(hst.block _ ae).trans hA.2.2.1,aZ hA.2.2.2 hst.size⟩
 case om=>exact EB
 case wm =>
  intro u A r E hA x;have hp:Below a.heap.size A (A.putObj (d.heap.size+1) E):=belowK_b (w:=d) ae A _ _ E ae x rfl rfl;exact⟨ag ic _ A _ hA.1 hp,(World.putObj_heap_other ae).trans hA.2.1,(World.putObj_heap_other ae).trans hA.2.2.1,by rw[World.putObj_size];exact hA.2.2.2⟩
 case tN =>
  intro c A r E hA x;have hp:Below a.heap.size A (A.putObj (d.heap.size+1) E):=belowK_b (w:=d) ae A _ _ E ae x rfl rfl;exact⟨hA.1,ag GM A _ hA.2.1 hp,by rw[World.putObj_size];exact hA.2.2⟩
 case h0 =>
  exact FQ
 case qY =>
  intro b r aN aP ao x hk aA;have a6:=(bn.1 x).1;have hs:=hk.2.1;rw[World.putObj_size]at hs;refine⟨by rw[World.putObj_heap_other ae,hk.1.1,World.putObj_heap_other ae],by rw[World.putObj_size];exact hs,fun k fR hk2=>?_⟩;rw[World.putObj_heap_other ae,hk.2.2 _ ae BS,World.putObj_heap_other ae]
 case hKx =>
  intro b r aN aP ao x hk aA;exact B_
 case round =>
  intro ab u e aW b R hI Z;gi_wp2_with fail;refine⟨aL,?_⟩;obtain⟨G,S,J,F⟩:=hI;have aG:=ki R;obtain⟨r,U,Y⟩:=Gi aG;have ay:(ai (bO e)).size<=1000000:=by rw[a7,<- Y];have:=aI r U;omega
  have aH:(ai n).size<=1000000:=gB
  have a2:=(b7 S).trans ar;have a1:b.cell? (aq i 0)=some (au n):=(b7 J).trans ((e5.cell (p:=⟨i,0,none⟩) aK).trans aU);have Q:=tt (ai (bO e)) (ai n) b ay aH;rw[jC,jC]at Q;have T:=af Q;clear Q Y U;cases aa:dU (bO e) n
  ·have C:=P4 (fun e=>dU (bO e) n) _ u e R aa;have H:=af C;have aV:=af G;clear C G;gi_wp2_with (refine⟨aL,rfl,?_⟩;gi_at_call 110;refine(CallsIn.inRound ab (bK.2 (ag T))).mono ?_;rintro P ak ⟨rfl,rfl⟩);refine⟨fun _ az=>(by cases az),?_⟩;gi_wp2_with fail;exact⟨⟨bb _,rfl,rfl⟩,⟨⟨rfl,rfl⟩,bw.refl _ _⟩,by rw[ag H];exact aV,S,J,F⟩
  ·obtain⟨C,an⟩:=P5 (fun e=>dU (bO e) n) _ u e R aa;have aM:=ag aJ _ e b an G;have H:=af C;have O:∀g,I (lm (fun e=>dU (bO e) n) (be di j) u+1) g->((g.heap[h]? = b.heap[h]?/\g.heap[i]? = b.heap[i]?)/\bw a.heap.size b g) ->
     Hid (fi d.heap.size b g/\((g.heap[h]? = b.heap[h]?/\g.heap[i]? = b.heap[i]?)/\bw a.heap.size b g)/\(I (lm (fun e=>dU (bO e) n) (be di j) (u+1)) g/\g.heap[a.heap.size]? = d.heap[a.heap.size]?/\g.heap[i]? = d.heap[i]?/\d.heap.size<=g.heap.size)):=fun g y hk=>by
    have o:=hk.2;refine⟨⟨o.1,o.2 _ ae ae,o.2 _ ae ae⟩,hk,?_,(o.2 _ av ae).trans S,hk.1.2.trans J,aZ F o.1⟩;rw[ag H];exact y
   have M:∀g,K g->bw a.heap.size b g->Hid (fi d.heap.size b g/\bw a.heap.size b g/\(K g/\d.heap.size<=g.heap.size)):=fun g y o =>
    ⟨⟨o.1,o.2 _ ae ae,o.2 _ ae ae⟩,o,y,aZ F o.1⟩
   obtain⟨a4,ba,aY,a0,a9,aC⟩:=aM;clear C G an;gi_wp2_with (refine⟨aL,rfl,?_⟩;gi_at_call 110;refine(CallsIn.inRound ab (bK.2 (ag T))).mono ?_;rintro P ak ⟨rfl,rfl⟩);refine⟨rfl,aC.mono ?_⟩;rintro P g (⟨rfl,ac,D⟩|⟨rfl,ad,D⟩)
   ·have N:=O g ac D;clear ac D O M;gi_wp2_with fail;exact N
   ·have N:=M g ad D;clear ad D O M;gi_wp2_with fail;obtain⟨aQ,aR,aS,aT⟩:=ag N;exact⟨aQ,aR,rfl,aS,aT⟩
 case done =>
  intro b hI z Z;gi_wp2;refine⟨am,.inl ⟨_,_,rfl,run_takeDeferred z,?_⟩⟩;have hp:Below a.heap.size b (b.putObj d.heap.size (.deferred none)):=belowK_b (w:=d) ae b _ _ _ av z rfl rfl;have y:=hI.1;rw[P3]at y;exact⟨_,sN rfl _ _ _,⟨_,rfl⟩,.inl (ic _ _ _ y hp)⟩
 case stop =>
  intro c b hI z Z;obtain⟨rfl,Wa,F⟩:=hI;gi_wp2;refine⟨am,.inl ⟨_,_,rfl,run_takeDeferred z,?_⟩⟩;have hp:Below a.heap.size b (b.putObj d.heap.size (.deferred none)):=belowK_b (w:=d) ae b _ _ _ av z rfl rfl;exact Fb
end
section
attribute [local go_sem] Oper.semAt_some
def cM(rs:List aj)(n:ah):List aj :=
 match (be di rs).find? (fun a=>bO a==n)with
 | some a=>a.2
 | none=>[]
def qW(v:Value)(c d:Nat)(a:List aj):Prop:=(v=aJ/\a=[])\/∃b,v=aF c d a.length b/\a.length<=b
def gS(c d:Nat)(b:List aj)(v:Value)(l:List aj):Prop:=(v=aJ/\l=[])\/∃a,(v=aF c (d+a*4) l.length l.length/\a+l.length<=b.length/\l=(b.drop a).take l.length)
theorem gS.at{w:World}{b a:Nat}{rs l:List aj}{v:Value}(h:gS b a rs v l)(i:cy w b a rs):∃e,cy w b e l/\qW v b e l/\∀bh,∀x∈be bh l,gS b a rs (aF b (e+x.1*4) x.2.length x.2.length) x.2:=by
 rcases h with⟨rfl,rfl⟩|⟨d,rfl,n,g⟩;{exact⟨a,⟨i.1,fun o hj=>qk⟩,.inl ⟨rfl,rfl⟩,fun bh x c=>by simp[be,fd]at c⟩};{
 refine⟨a+d*4,by rw[g];exact(i.drop d).take _,.inr ⟨_,rfl,bb _⟩,fun bh x c=>.inr ⟨d+x.1,?_,?_,?_⟩⟩;{rw[nE,<- rk]};{have:=(ll c).1;omega};{
 obtain⟨k,_,j⟩:=ll c;conv=>lhs;rw[j,g]
 rw[List.drop_take,GX,eR,kb ae]}}
theorem gS.rv{d:World}{a c:Nat}{rs l:List aj}{v:Value}(g:gS a c rs v l)(j:cy d a c rs):eZ d v l:=by obtain⟨k,h,b,_⟩:=g.at j;rcases b with b|⟨e,rfl,i⟩;{exact .inl b};{exact .inr ⟨a,k,e,rfl,i,h⟩}
theorem gS.slice{b d:Nat}{rs l:List aj}{v:Value}(h:gS b d rs v l):∃a c,v=.slice a l.length c:=by rcases h with⟨rfl,rfl⟩|⟨e,rfl,_,_⟩;{exact⟨none,0,rfl⟩};{exact qr}
theorem gS.len{a c:Nat}{rs l:List aj}{v:Value}(b:gS a c rs v l):l.length<=rs.length:=by rcases b with⟨rfl,rfl⟩|⟨d,rfl,_,_⟩;{simp};{omega}
theorem gS.aoQ{b d:Nat}{e:List aj}{bh:aj->aj->Bool}{a:Nat×List aj}(c:a∈be bh e):gS b d e (aF b (d+a.1*4) a.2.length a.2.length) a.2 :=
 .inr ⟨a.1,rfl,(ll c).1,(ll c).2.2⟩
theorem Hm{p:Nat×List aj->Bool}{l:List (Nat×List aj)}{i:Nat}{a:Nat×List aj}(h:l[i]? = some a):(l.drop i).find? p=if p a then some a else(l.drop (i+1)).find? p:=by exact E0
theorem Ho(c g i:Nat)(n:ah)(b:List aj)(w:World)(G:cy w c g b)(V:b.length<=i)(ak:b.length<=3001):az 184 #[aF c g b.length i,au n] w fun K Q=>(∃v,K=.returned v/\gS c g b v (cM b n))/\ax w Q:=by
 refine(bK (n:=0)).1 ?_;refine callsIn_of_wp_marks func184 rfl aL ?_;simp only[ntmps184,ib,bi,cW,Nat.reduceAdd,Nat.reduceSub,h_,ik,im,il,dJ,dF];have T:=af G;have t:=G.1;clear G;gi_wp2_with (refine⟨aL,rfl,?_⟩;gi_at_call 109;refine(bK.2 (y7 _ _ _ _)).mono ?_;rintro K Q ⟨rfl,rfl⟩);have W:aW (((w.alloc (.cells #[.string (ai n)] 9)).alloc (.cells #[.slice none 0 0] 41)).alloc (.cells #[.slice (some ⟨c,g,none⟩) b.length i] 41)) w.heap.size (au n) 9:=((aW.mZ _ _ _).alloc _).alloc _;have X:aW (((w.alloc (.cells #[.string (ai n)] 9)).alloc (.cells #[.slice none 0 0] 41)).alloc (.cells #[.slice (some ⟨c,g,none⟩) b.length i] 41)) (w.heap.size+1) (aJ) 41:=by{have:=(aW.mZ (w.alloc (.cells #[.string (ai n)] 9)) (aJ) 41).alloc (.cells #[.slice (some ⟨c,g,none⟩) b.length i] 41);rwa [cv]at this};have Y:(((w.alloc (.cells #[.string (ai n)] 9)).alloc (.cells #[.slice none 0 0] 41)).alloc (.cells #[.slice (some ⟨c,g,none⟩) b.length i] 41)).cell? (aq (w.heap.size+1+1) 0)=some (aF c g b.length i):=by go_simp
 have ap:(((w.alloc (.cells #[.string (ai n)] 9)).alloc (.cells #[.slice none 0 0] 41)).alloc (.cells #[.slice (some ⟨c,g,none⟩) b.length i] 41)).heap.size=w.heap.size+3:=am;have L:ax w (((w.alloc (.cells #[.string (ai n)] 9)).alloc (.cells #[.slice none 0 0] 41)).alloc (.cells #[.slice (some ⟨c,g,none⟩) b.length i] 41)):=((aE.alloc av _).alloc am _).alloc aA _;generalize ((w.alloc (.cells #[.string (ai n)] 9)).alloc (.cells #[.slice none 0 0] 41)).alloc (.cells #[.slice (some ⟨c,g,none⟩) b.length i] 41)=W2 at *;have ad:∀r,ax W2 ((W2.alloc (.deferred (some []))).alloc (.loop r)):=fun r=>(aE.alloc av _).alloc am _;have GN:∀r,((W2.alloc (.deferred (some []))).alloc (.loop r)).heap.size=W2.heap.size+2:=fun r=>by simp
 refine pF (xs:=be di b) (encs:=fun a:Nat×List aj=>#[au (bO a),aF c (g+a.1*4) a.2.length a.2.length]) (St:=fun k l=>Below (W2.heap.size+2) k l) (Kp:=fun k l=>l.heap[c]? = k.heap[c]?/\bw (W2.heap.size+2) k l) (Kx:=fun k l=>bw (W2.heap.size+2) k l) (gf:=179) (lb:=#[aO (w.heap.size+1+1)]) rfl (enters_of func179 aB rfl) (fun _=>rfl) ?seq [c] aA (fun _ _ _ e=>e) (fun k l e Z=>⟨e _ am,Z⟩) (fun _ _ e=>e) (fun D h=>((be di b).drop D).find? (fun a=>bO a==n)=(be di b).find? (fun a=>bO a==n)/\ax w h/\aW h w.heap.size (au n) 9/\aW h (w.heap.size+1) (aJ) 41) (fun E h=>E=.ret/\ax w h/\∃a,a∈be di b/\cM b n=a.2/\aW h (w.heap.size+1) (aF c (g+a.1*4) a.2.length a.2.length) 41) (fun D k l e t=>⟨e.1,e.2.1.trans (t.mono ae),e.2.2.1.below t ae,e.2.2.2.below t ae⟩) (fun E k l e t=>⟨e.1,e.2.1.trans (t.mono ae),by obtain⟨a,aa,ab,ac⟩:=e.2.2;exact⟨a,aa,ab,ac.below t ae⟩⟩) ⟨rfl,L,W,X⟩ ?round ?done ?stop;case seq =>(intro r;have hg:=ad r;have:=zp c g i (w.heap.size+1+1) b ((W2.alloc (.deferred (some []))).alloc (.loop r)) ((hg.cell (p:=⟨w.heap.size+1+1,0,none⟩) sI).trans Y) ((T.below L).below hg) ij ak V;exact yH)
 case round =>(intro aw D a an h C x M;gi_wp2_with fail;refine⟨aL,?_⟩;obtain⟨y,u,A,j⟩:=x;have ao:=A.cell;have J:=j.cell;have U:=j.frozen;have O:((ai (bO a)).toList==(ai n).toList)=(bO a==n):=oi;have H:=Hm (p:=fun a=>bO a==n) C;rw[y]at H;have I:=af H;have S:=af A;have N:=af j;clear y H A j;cases B:bO a==n;{rw[B]at O;have q:Hid (((be di b).drop (D+1)).find? (fun a=>bO a==n)=(be di b).find? (fun a=>bO a==n)):=by{rw[Hid,ag I,ar (by simp[B])]};gi_wp2_with fail;exact⟨bw.refl _ _,am,q,u,S,N⟩};{rw[B]at O;have q:Hid (cM b n=a.2):=by{unfold cM;rw[Hid,ag I,ay B]};gi_wp2_with fail;exact⟨bw.setCell h _ _ ae,rfl,u.setCell c9 _,a,ki C,q,N.set _⟩})
 case done =>(intro h x z M;obtain⟨y,u,A,j⟩:=x;have J:=j.cell;have U:=j.frozen;have q:Hid (cM b n=[]):=by{unfold cM;rw[Hid,<- y,jr av];rfl};clear y;gi_wp2_with fail;have R:=(bC h (aq (w.heap.size+1) 0) (aJ) W2.heap.size Ct).trans z;refine⟨am,.inl ⟨_,_,rfl,run_takeDeferred R,?_⟩⟩;have F:=((j.set (aJ)).put (d:=W2.heap.size) (o:=.deferred none) ae).cell;refine⟨aJ,by simp[results,results184,go_sem,F],⟨_,rfl,.inl ⟨rfl,q⟩⟩,?_⟩;exact(u.setCell c9 _).trans (belowK_b (w:=W2) ae _ _ _ _ av R rfl rfl))
 case stop =>(intro E h x z M;obtain⟨rfl,u,a,C,P,j⟩:=x;have q:=af P;clear P;have J:=j.cell;gi_wp2_with fail;refine⟨am,.inl ⟨_,_,rfl,run_takeDeferred z,?_⟩⟩;have F:=(j.put (d:=W2.heap.size) (o:=.deferred none) ae).cell;have al:=u.trans (belowK_b (w:=W2) (show w.heap.size<=W2.heap.size by omega) h _ _ (.deferred none) av z rfl rfl);refine⟨_,by simp[results,results184,go_sem,F];rfl,⟨_,rfl,?_⟩,al⟩;rw[ag q];exact gS.aoQ C)
end
section
attribute [local go_sem] Oper.semAt_some
def gu(a:Nat×List aj):Int:=(a.2.headD aj.zero).type
def gU(rs:List aj)(b:Int):List aj :=
 match (be bH rs).find? (fun a=>gu a==b)with
 | some a=>a.2
 | none=>[]
theorem Hp(b:Option Addr)(e c:Nat)(a:World):az 107 #[.slice b e c] a fun d g=>d=.returned (.func (.func 233) #[] #[aO a.heap.size,aO (a.heap.size+1)])/\g=(a.alloc (.cells #[.slice b e c] 41)).alloc (.cells #[.func (.func 177) #[] #[]] 261):=by go_enter func107,ntmps107;go_wp2_with (go_at_call 176;refine(Ga _ _ _ _ _).mono ?_;rintro d g ⟨rfl,rfl⟩);go_ret;exact dX
theorem Hr(a:Nat×List aj)(b:0<a.2.length):a.2[0].type=gu a:=by
 obtain⟨d,l⟩:=a;cases l with
 | nil=>simp at b
 | cons c e=>rfl
theorem pk{e:World}{v:Value}{a:List aj}(d:eZ e v a):∃b c,v=.slice b a.length c:=by rcases d with⟨rfl,rfl⟩|⟨g,i,h,rfl,_,_⟩;{exact⟨none,0,rfl⟩};{exact qr}
theorem Ar(v:Value)(b:List aj)(a:World)(g:eZ a v b):az 107 #[v] a fun e w'=>e=.returned (.func (.func 233) #[] #[aO a.heap.size,aO (a.heap.size+1)])/\w'.heap.size=a.heap.size+2/\ax a w'/\w'.cell? (aq a.heap.size 0)=some v/\w'.cell? (aq (a.heap.size+1) 0)=some (.func (.func 177) #[] #[]):=by obtain⟨c,d,rfl⟩:=pk g;refine(Hp c b.length d a).mono ?_;exact EY
theorem As(v:Value)(b e c d:Nat)(rs:List aj)(a:World)(t:qW v b e rs)(h:a.cell? (aq c 0)=some v) (r:a.cell? (aq d 0)=some (.func (.func 177) #[] #[]))(q:cy a b e rs) (l:c<a.heap.size) (n:d<a.heap.size) (p:rs.length<=3001):jE prog 233 #[aO c,aO d] (fun g:Nat×List aj=>#[aF b (e+g.1*4) g.2.length g.2.length]) (be bH rs)
   (fun i j=>ax i j) (fI c d b) (fun _ _=>True) a:=by rcases t with⟨rfl,rfl⟩|⟨k,rfl,o⟩;{exact PY b e c d a h _};{exact qV b e k c d rs a h r q l n p o}
theorem oo{bh:aj->aj->Bool}{a:List aj}{b:Nat×List aj}(c:b∈be bh a):b.2.length<=a.length:=by have:=(ll c).1;omega
theorem s6(a:List aj)(c:ah):(cM a c).length<=a.length:=by unfold cM;split;{rename_i d b;exact oo (th b)};{simp}
theorem vm(a:List aj)(c:Int):(gU a c).length<=a.length:=by unfold gU;split;{rename_i d b;exact oo (th b)};{simp}
theorem Fz{P:Prop}(h:P:=by go_simp;refine hK _ _ ?_;clear hK K;refine fL 5 fun K hK=>?_;go_simp;refine hK _ _ ?_;clear hK K;refine o8 aB ?_ _;gi_wp2_with fail;exact bj):P:=h
theorem Ev{P:Prop}(h:P:=by go_simp;refine hK _ _ ?_;clear hK K;refine fL 5 fun K hK=>?_;go_simp;refine hK _ _ ?_;clear hK K;refine o8 aB ?_ _;gi_wp2_with fail;exact⟨bj.1,rfl,bj.2⟩):P:=h
theorem Hs(g I M:Nat)(n:ah)(c:Int)(j:List aj)(w:World)(q:cy w g I j)(aN:j.length<=M)(aI:j.length<=3001):az 112 #[aF g I j.length M,au n,ak c] w fun O a9=>(∃v,O=.returned v/\gS g I j v (gU (cM j n) c))/\ax w a9:=by
 refine(bK (n:=0)).1 ?_;refine vX func112 rfl aL ?_;simp only[ntmps112,ib,bi,cW,Nat.reduceAdd,Nat.reduceSub,h_,ik,im,il,dJ,dF];have bh:=s6 j n;have R:ax w ((w.alloc (.cells #[.int .i64 c] 3)).alloc (.cells #[.slice none 0 0] 41)):=(aE.alloc av _).alloc am _;have aH:=af (Ho g I M n j _ (q.below R) aN aI);have ap:=af q;have bg:=q.1;clear q;gi_wp2_with fail;refine⟨aL,rfl,?_⟩;refine(bK.2 (ag aH)).mono ?_;rintro O e ⟨⟨v,rfl,G⟩,z⟩;have P:aW e w.heap.size (ak c) 3:=((aW.mZ _ _ _).alloc _).below z cu;have Q:aW e (w.heap.size+1) (aJ) 41:=by{have:=(aW.mZ (w.alloc (.cells #[.int .i64 c] 3)) (aJ) 41).below z cu;rwa [cv]at this};have S:ax w e:=R.trans (z.mono cu);have bk:w.heap.size+2<=e.heap.size:=by have:=z.size;exact nh
 generalize aC:cM j n=rs at *;clear z R;obtain⟨r,q,ab,V⟩:=G.at (ag ap);have X:=af q;have aK:=af ab;have a2:=af V;have a1:=af (G.rv (ap.below S));obtain⟨bb,bd,rfl⟩:=G.slice;clear G q ab V;gi_wp2_with fail;refine⟨aL,rfl,?_⟩;refine(bK.2 (Ar _ rs _ (ag a1))).mono ?_;rintro O W2 ⟨rfl,bf,T,aS,aT⟩;have aQ:=P.below T P.lt;have aR:=Q.below T Q.lt;have aa:=S.trans (T.mono S.size);have a4:=af (X.below aa);clear P Q;gi_wp2_with fail;have a0:∀J,ax W2 ((W2.alloc (.deferred (some []))).alloc (.loop J)):=fun J=>(aE.alloc av _).alloc am _;refine pF (xs:=be bH rs) (encs:=fun a:Nat×List aj=>#[aF g (r+a.1*4) a.2.length a.2.length]) (St:=fun u x=>ax u x) (Kp:=fI e.heap.size (e.heap.size+1) g) (Kx:=fun _ _=>True) (gf:=233) (lb:=#[aO e.heap.size,aO (e.heap.size+1)]) rfl (enters_of func233 aB rfl) (fun _=>rfl) ?qV [e.heap.size,e.heap.size+1,g] aA (fun u x aZ h=>h.mono aZ) (fun u x h aU=>⟨aU.1,h _ am,h _ am,h _ am⟩) (fun _ _ _=>aL) (fun B b=>((be bH rs).drop B).find? (fun a=>gu a==c)=(be bH rs).find? (fun a=>gu a==c)/\ax w b/\aW b w.heap.size (ak c) 3/\aW b (w.heap.size+1) (aJ) 41) (fun L b=>L=.ret/\ax w b/\∃a,a∈be bH rs/\gU rs c=a.2/\aW b (w.heap.size+1) (aF g (r+a.1*4) a.2.length a.2.length) 41) (fun B u x h t=>⟨h.1,h.2.1.trans (t.mono ae),h.2.2.1.below t ae,h.2.2.2.below t ae⟩) (fun L u x h t=>⟨h.1,h.2.1.trans (t.mono ae),by obtain⟨a,aV,aX,aY⟩:=h.2.2;exact⟨a,aV,aX,aY.below t ae⟩⟩) ⟨rfl,aa,aQ,aR⟩ ?round ?done ?stop;case qV =>(intro J;have hg:=a0 J;exact As _ g r _ _ rs _ (ag aK) ((hg.cell (p:=⟨e.heap.size,0,none⟩) (by show e.heap.size<W2.heap.size;omega)).trans aS) ((hg.cell (p:=⟨e.heap.size+1,0,none⟩) (by show e.heap.size+1<W2.heap.size;omega)).trans aT) (a4.below hg) ij ij ae)
 case round =>(intro bl B a a_ b H y ai;gi_wp2_with fail;refine⟨aL,?_⟩;obtain⟨A,l,F,i⟩:=y;have bc:=F.cell;have Z:=i.cell;have aM:=i.frozen;have E:=ki H;have Y:=pj (X.below l) E;have aw:=(ll E).2.1;obtain⟨a5,a6,a7,a8⟩:=Y.four 0 aw;clear a5 a6 a8 Y;rw[i4,dT,Hr a aw]at a7;have ba:(0:Int)<(a.2.length:Int):=ae;have ac:prog.follows .mixedOrders=true:=aB;have U:=Hm (p:=fun a=>gu a==c) H;rw[A]at U;have W:=af U;have aG:=af F;have al:=af i;have aP:=af E;clear A U F i E;cases ad:gu a==c;{have k:Hid (((be bH rs).drop (B+1)).find? (fun a=>gu a==c)=(be bH rs).find? (fun a=>gu a==c)):=by{rw[Hid,ag W,ar (by simp[ad])]};have bj:Hid (bw W2.heap.size b b.drew/\(∀an∈[e.heap.size,e.heap.size+1,g],b.drew.heap[an]? = b.heap[an]?)/\(((be bH rs).drop (B+1)).find? (fun a=>gu a==c)=(be bH rs).find? (fun a=>gu a==c)/\ax w b.drew/\aW b.drew w.heap.size (ak c) 3/\aW b.drew (w.heap.size+1) (aJ) 41)) := ⟨bw.refl _ b,fun _ _=>rfl,k,l.drew,aG,al⟩;gi_wp2_with fail;refine pi ac (m4 aB) ?_;refine gb 0 ?_;refine gb 1 ?_;refine gb 2 ?_;refine lF (rs:=[3,4]) aB am ?_;refine hi rfl (fun K hK=>?_) (hi rfl (fun K hK=>?_) nn);{go_simp;refine hK _ _ ?_;clear hK K;refine fL 4 fun K hK=>?_;exact Fz};{go_simp;refine hK _ _ ?_;clear hK K;refine fL 3 fun K hK=>?_;exact Fz}};{have k:Hid (gU rs c=a.2):=by{unfold gU;rw[Hid,ag W,ay ad]};have bj:Hid (bw W2.heap.size b (b.setCell ⟨w.heap.size+1,0,none⟩ (.slice (some ⟨g,r+a.1*4,none⟩) a.2.length a.2.length)).drew/\(ax w (b.setCell ⟨w.heap.size+1,0,none⟩ (.slice (some ⟨g,r+a.1*4,none⟩) a.2.length a.2.length)).drew/\∃C,C∈be bH rs/\gU rs c=C.2/\aW (b.setCell ⟨w.heap.size+1,0,none⟩ (.slice (some ⟨g,r+a.1*4,none⟩) a.2.length a.2.length)).drew (w.heap.size+1) (aF g (r+C.1*4) C.2.length C.2.length) 41)) := ⟨bw.setCell b _ _ ae,(l.setCell c9 _).drew,a,aP,k,al.set _⟩;gi_wp2_with fail;refine pi ac (m4 aB) ?_;refine gb 0 ?_;refine gb 1 ?_;refine gb 2 ?_;refine lF (rs:=[3,4]) aB am ?_;refine hi rfl (fun K hK=>?_) (hi rfl (fun K hK=>?_) nn);{go_simp;refine hK _ _ ?_;clear hK K;refine fL 4 fun K hK=>?_;exact Ev};{go_simp;refine hK _ _ ?_;clear hK K;refine fL 3 fun K hK=>?_;exact Ev}})
 case done =>(intro b y D ai;obtain⟨A,l,F,i⟩:=y;have Z:=i.cell;have aM:=i.frozen;have k:Hid (gU rs c=[]):=by{unfold gU;rw[Hid,<- A,jr av];rfl};clear A;gi_wp2_with fail;have aD:=(bC b (aq (w.heap.size+1) 0) (aJ) W2.heap.size Ct).trans D;refine⟨am,.inl ⟨_,_,rfl,pE aD,?_⟩⟩;have N:=((i.set (aJ)).put (d:=W2.heap.size) (o:=.deferred none) ae).cell;refine⟨aJ,by simp[results,results112,go_sem,N],⟨_,rfl,.inl ⟨rfl,by rw[aC];exact k⟩⟩,?_⟩;exact(l.setCell c9 _).trans (og (w:=W2) ae _ _ _ _ av aD rfl rfl))
 case stop =>(intro L b y D ai;obtain⟨rfl,l,a,H,ao,i⟩:=y;have k:=af ao;clear ao;have Z:=i.cell;gi_wp2_with fail;refine⟨am,.inl ⟨_,_,rfl,pE D,?_⟩⟩;have N:=(i.put (d:=W2.heap.size) (o:=.deferred none) ae).cell;have a3:=l.trans (og (w:=W2) (show w.heap.size<=W2.heap.size by omega) b _ _ (.deferred none) av D rfl rfl);refine⟨_,by simp[results,results112,go_sem,N];rfl,⟨_,rfl,?_⟩,a3⟩;rw[aC,ag k];exact a2 _ a H)
end
section
attribute [local go_sem] Oper.semAt_some
def e6(a:World)(c:Nat)(h:ah)(d g e:Nat)(b:List aj):Prop :=
 c<a.heap.size/\a.cell? (aq c 0)=some (au h)/\a.cell? (aq c 1)=some (aF d g b.length e)/\b.length<=e/\cy a d g b
theorem e6.below{w g:World}{d b e cap:Nat}{o:ah}{rs:List aj}(a:e6 w d o b e cap rs)(c:ax w g):e6 g d o b e cap rs :=
 ⟨cp a.1 c.size,(c.cell (p:=⟨d,0,none⟩) a.1).trans a.2.1,(c.cell (p:=⟨d,1,none⟩) a.1).trans a.2.2.1,a.2.2.2.1,a.2.2.2.2.below c⟩
theorem e6.low{l n:World}{b d j g e:Nat}{i:ah}{k:List aj}(a:e6 l b i d j g k)(c:Below e l n)(h:b<e)(o:d<e):e6 n b i d j g k :=
 ⟨cp a.1 c.size,(c.cell (p:=⟨b,0,none⟩) h).trans a.2.1,(c.cell (p:=⟨b,1,none⟩) h).trans a.2.2.1,a.2.2.2.1,PX a.2.2.2.2 c o⟩
def Cq(c:ah)(b:List aj):Prop:=b.length<=3001/\c.length<=3000/\∀a∈b,a.owner.length<=3000/\a.data.length<=3000
def ff(a:List aj)(n:ah):Bool:=!(km n a).isEmpty
theorem EV{P:Prop}(h:P:=by go_wp2_with fail;refine HC.mono ?_;rintro e w1 ⟨⟨v,rfl,hv⟩,hb1⟩;have iA:=af hv;clear hv;go_wp2;go_ret;exact⟨⟨_,rfl,iA⟩,hb1⟩):P:=h
theorem Ht(j c g h:Nat)(o d:ah)(a:List aj)(b:World)(n:e6 b j o c g h a)(l:a.length<=3001):az 270 #[aO j,au d] b fun e p=>(∃v,e=.returned v/\gS c g a v (cM a d))/\ax b p:=by obtain⟨t,q,r,k,i⟩:=n;have HC:=af (Ho c g h d a b i k l);clear i;go_enter func270,ntmps270;exact EV
theorem At(k c h i:Nat)(p g:ah)(d:Int)(a:List aj)(b:World)(o:e6 b k p c h i a)(n:a.length<=3001):az 192 #[aO k,au g,ak d] b fun e q=>(∃v,e=.returned v/\gS c h a v (gU (cM a g) d))/\ax b q:=by obtain⟨u,r,t,l,j⟩:=o;have HC:=af (Hs c h i g d a b j l n);clear j;go_enter func192,ntmps192;exact EV
theorem Hu(M i A C:Nat)(o n:ah)(b:List aj)(w:World)(Y:e6 w M o i A C b)(V:b.length<=3001)(W:n.length<=3000)(J:∀r∈b,r.owner.length<=3000):az 269 #[aO M,au n] w (aP (.bool (ff b n)) w):=by
 refine(bK (n:=0)).1 ?_;refine callsIn_of_wp_marks func269 rfl aL ?_;simp only[ntmps269,ib,bi,cW,Nat.reduceAdd,Nat.reduceSub,h_,ik,im,il,dJ,dF];have N:=af J;obtain⟨ak,ad,ai,Q,y⟩:=Y;have O:=af y;have j:=y.1;clear y J;gi_wp2_with fail;refine⟨aL,rfl,?_⟩;refine(bK.2 (Gf _ _ _ _ _)).mono ?_;rintro ac W2 ⟨rfl,S,I,E,F⟩;have R:aW W2 w.heap.size (.bool false) 4:=(aW.mZ _ _ _).below I cu;have G:ax w W2:=(aE.alloc av _).trans (I.mono cu);simp only[cv]at S E F;gi_wp2_with fail;have U:∀r,ax W2 ((W2.alloc (.deferred (some []))).alloc (.loop r)):=fun r=>(aE.alloc av _).alloc am _;have GN:∀r,((W2.alloc (.deferred (some []))).alloc (.loop r)).heap.size=W2.heap.size+2:=fun r=>by simp
 refine pF (xs:=km n b) (encs:=fun t:Nat×List aj=>#[au (bO t),aF i (A+t.1*4) t.2.length t.2.length]) (St:=fun c e=>Below (W2.heap.size+2) c e) (Kp:=fun c e=>(e.heap[i]? = c.heap[i]?/\e.heap[w.heap.size+1+1]? = c.heap[w.heap.size+1+1]?)/\bw (W2.heap.size+2) c e) (Kx:=fun c e=>bw (W2.heap.size+2) c e) (gf:=235) (lb:=#[aO (w.heap.size+1),aO (w.heap.size+1+1)]) rfl (enters_of func235 aB rfl) (fun _=>rfl) ?seq [i,w.heap.size+1+1] aA (fun _ _ _ a=>a) (fun c e a T=>⟨⟨a _ am,a _ am⟩,T⟩) (fun _ _ a=>a) (fun z h=>z=0/\ax w h/\aW h w.heap.size (.bool false) 4) (fun u h=>u=.ret/\ff b n=true/\ax w h/\aW h w.heap.size (.bool true) 4) (fun z c e a j=>⟨a.1,a.2.1.trans (j.mono ae),a.2.2.below j ae⟩) (fun u c e a j=>⟨a.1,a.2.1,a.2.2.1.trans (j.mono ae),a.2.2.2.below j ae⟩) ⟨rfl,G,R⟩ ?round ?done ?stop;case seq =>(intro r;have hg:=U r;have:=GC i A C (w.heap.size+1) (w.heap.size+1+1) n b ((W2.alloc (.deferred (some []))).alloc (.loop r)) ((O.below G).below hg) Q ((hg.cell (p:=⟨w.heap.size+1,0,none⟩) (by show w.heap.size+1<W2.heap.size;omega)).trans E) ((hg.cell (p:=⟨w.heap.size+1+1,0,none⟩) sI).trans F) ij ij V W (ag N);exact yH)
 case round =>(
 intro al z t ab h L q K;gi_wp2_with fail;refine⟨aL,?_⟩;obtain⟨rfl,l,g⟩:=q;have D:=g.cell;have P:=g.frozen;have B:ff b n=true:=by{
 unfold ff;cases a:km n b with
 | nil=>rw[a]at L;simp at L
 | cons aa Z=>rfl};gi_wp2_with fail;exact⟨bw.setCell h _ _ ae,rfl,B,l.setCell av _,g.set _⟩)
 case done =>(
 intro h q k K;obtain⟨H,l,g⟩:=q;have D:=g.cell;have P:=g.frozen;have B:ff b n=false:=by{
 unfold ff;cases a:km n b with
 | nil=>rfl
 | cons aa Z=>rw[a]at H;simp at H};gi_wp2_with fail;refine⟨am,.inl ⟨_,_,rfl,run_takeDeferred ((bC _ _ _ _ (by show W2.heap.size≠w.heap.size;omega)).trans k),?_⟩⟩;have x:=((g.set (.bool false)).put (d:=W2.heap.size) (o:=.deferred none) ae).cell;refine⟨.bool false,by simp[results,results269,go_sem,x],by rw[B],?_⟩;exact(l.setCell av _).trans (belowK_b (w:=W2) ae _ _ _ _ av ((bC _ _ _ _ (by show W2.heap.size≠w.heap.size;omega)).trans k) rfl rfl))
 case stop =>(intro u h q k K;obtain⟨rfl,X,l,g⟩:=q;have D:=g.cell;gi_wp2_with fail;refine⟨am,.inl ⟨_,_,rfl,run_takeDeferred k,?_⟩⟩;have x:=(g.put (d:=W2.heap.size) (o:=.deferred none) ae).cell;refine⟨.bool true,by simp[results,results269,go_sem,x],by rw[X],?_⟩;exact l.trans (belowK_b (w:=W2) ae _ _ _ _ av k rfl rfl))
end
section
attribute [local go_sem] Oper.semAt_some
def eh(l:ah):ah:=(Lib.cut l [46]).2.1
def pm:Nat->ah->List ah
 | 0,_=>[]
 | f+1,l=>if l=[]then []else l::pm f (eh l)
def bo(l:ah):List ah:=pm l.length l
theorem ot(a b:ah)(c:(46:UInt8) ∉ a):eh (a++46::b)=b:=by unfold eh Lib.cut;rw[Lib.index_one,v6 46 a b c,ay ae];simp[pt]
theorem pn(l:ah)(a:(46:UInt8) ∉ l):eh l=[]:=by unfold eh Lib.cut;rw[Lib.index_one,vZ 46 l a,ar ba]
theorem pc(l:ah)(d:l≠[]):(eh l).length<l.length:=by
 by_cases a:(46:UInt8)∈l;{obtain⟨b,c,rfl,e⟩:=sS a;rw[ot b c e];simp;omega};{
 rw[pn l a];cases l with
 | nil=>exact absurd rfl d
 | cons h g=>simp}
theorem Au:∀(f:Nat) (l:ah),l.length<=f->pm f l=pm l.length l
 | 0,l,c=>by obtain rfl:l=[]:=df ae;rfl
 | f+1,l,c=>by by_cases a:l=[];{subst a;rfl};{have e:=pc l a;obtain⟨b,d⟩:∃b,l.length=b+1:=⟨l.length-1,by cases l with|nil=>exact absurd rfl a|cons h g=>simp⟩;rw[d,pm,pm,ar a,ar a,Au f _ ae,Au b _ ae]}
theorem i7:bo []=[]:=rfl
theorem iO(l:ah)(a:l≠[]):bo l=l::bo (eh l):=by have d:=pc l a;unfold bo;obtain⟨b,c⟩:∃b,l.length=b+1:=⟨l.length-1,by cases l with|nil=>exact absurd rfl a|cons g e=>simp⟩;rw[c,pm,ar a,Au b _ ae]
theorem Hv:∀(f:Nat) (l:ah),l.length<=f->∀b∈bo l,b.length<=l.length
 | 0,l,d,b,a=>by obtain rfl:l=[]:=df ae;simp[i7]at a
 | f+1,l,d,b,a=>by by_cases c:l=[];{subst c;simp[i7]at a};{rw[iO l c,co]at a;have e:=pc l c;rcases a with rfl|a;{exact bb _};{have:=Hv f (eh l) ae b a;omega}}
theorem vq{l a:ah}(b:a∈bo l):a.length<=l.length:=Hv _ _ av a b
def Hw:Value->Nat
 | .string s=>s.size
 | _=>0
theorem vr(c:ah)(a:World):az 191 #[au c] a fun d b=>d=.returned (.func (.func 241) #[] #[aO a.heap.size])/\b.heap.size=a.heap.size+1/\ax a b/\b.cell? (aq a.heap.size 0)=some (au c):=by go_enter func191,ntmps191;go_wp2;go_ret;exact⟨rfl,am,aE.alloc av _,by go_simp⟩
theorem Hy(b:ah)(a:World)(h:bT a)(k:b.length<=3000):az 242 #[au b,.string ⟨#[46]⟩] a fun d c=>(∃e g,d=.returned (.tuple #[au e,au (eh b),.bool g]))/\ax a c:=by obtain⟨_,m,i⟩:=h;refine(Tryz.strings_Cut (ai b) ⟨#[46]⟩ m a gB i).mono ?_;rintro d c ⟨rfl,j,rfl⟩;exact⟨⟨_,_,rfl⟩,fm (bk _ a) j⟩
theorem P6(n:ah)(a:World)(h:bT a)(l:n.length<=3000):az 271 #[au n] a fun c e=>∃b,c=.returned (.func (.func 241) #[] #[aO b])/\b<e.heap.size/\a.heap.size<=b/\ax a e/\e.cell? (aq b 0)=some (au (eh n)):=by have j:=af (Hy n a h l);clear h;go_enter func271,ntmps271;go_wp2_with fail;refine j.mono ?_;rintro c o ⟨⟨p,q,rfl⟩,d⟩;go_wp2_with fail;refine(vr (eh n) o).mono ?_;rintro c t ⟨rfl,r,k,g⟩;have i:=af g;clear g;go_wp2;go_ret;have:=d.size;exact⟨_,rfl,ae,ae,d.trans (k.mono d.size),i⟩
theorem vv(C:Nat)(b:ah)(d:World)(Q:d.cell? (aq C 0)=some (au b))(z:bT d)(ak:b.length<=3000):jE prog 241 #[aO C] (fun a:ah=>#[au a]) (bo b)
   (fun g h=>ax g h) (fun g h=>g.heap.size<=h.heap.size/\h.heap[0]? = g.heap[0]?) (fun _ _=>True) d:=by
 intro l J Z w X x O;have B:=af x;have A:=af w;have t:=af z;clear x w X z;refine callsIn_of_wp func241 rfl aL ?_;simp only[ntmps241,ib,bi,cW,Nat.reduceAdd,Nat.reduceSub,h_,ik,im,il,dJ,dF];gi_wp2;gi_loopw [3] (fun s wr=>∃(c:Nat) (a:ah),s=au a/\a.length<=b.length/\c<=(bo b).length/\(bo b).drop c=bo a/\J c wr/\(d.heap.size<=wr.heap.size/\wr.heap[0]? = d.heap[0]?)) (fun s _=>Hw s);case atStart=>exact⟨0,b,rfl,bb _,b6 _,rfl,O,bb _,rfl⟩
 case round =>(
 obtain⟨c,a,rfl,R,ao,y,E,o⟩:=hrel;have i:=af y;have F:=af E;clear y E;by_cases e:a=[];{
 have T:((ai a).toList==[])=true:=by rw[e,c7];rfl
 have M:Hid (c=(bo b).length):=by{have:=bP List.length (ag i);rw[c8,e,i7,cW]at this;rw[Hid];omega};clear Q B A t i R ao o e;gi_wp2;go_end0;exact⟨⟨_,rfl⟩,.inl (by rw[<- ag M];exact F)⟩};{have T:((ai a).toList==[])=false:=by{rw[eW,c7];exact e};have r:Hid ((bo b)[c]? = some a):=by{have:=bP (fun l:List ah=>l[0]?) (ag i);rw[iO a e]at this;rw[Hid];simpa using this};have U:Hid ((bo b).drop (c+1)=bo (eh a)):=by{rw[Hid,<- eR,ag i,iO a e];rfl};have H:Hid (c+1<=(bo b).length):=(fy.1 (ag r)).1;have an:=pc a e;have V:=ag B c a wr (ag r) (ag F);obtain⟨aj,am,aa,ac,al,P⟩:=V;gi_wp2_with fail;refine⟨rfl,P.mono ?_⟩;rintro Y j (⟨rfl,D,q⟩|⟨rfl,su,_⟩);{have G:=af D;have k:d.heap.size<=j.heap.size/\j.heap[0]? = d.heap[0]?:=⟨aZ o.1 q.1,q.2.trans o.2⟩;have n:bT j:=by{obtain⟨N,m,S⟩:=ag t;exact⟨cp N k.1,m,(b7 k.2).trans S⟩};have I:=af (Hy a j n ae);have K:=n.1;clear D q n;gi_wp2_with fail;refine⟨aL,rfl,?_⟩;refine(bK.2 (ag I)).mono ?_;rintro Y u ⟨⟨ab,ad,rfl⟩,p⟩;have L:=af (A _ _ _ G p);have W:d.heap.size<=u.heap.size/\u.heap[0]? = d.heap[0]?:=⟨aZ k.1 p.size,(p.block 0 K).trans k.2⟩;gi_wp2_with fail;exact⟨⟨c+1,eh a,rfl,ae,H,U,L,W⟩,by simp only[Hw,a7];omega⟩};{gi_wp2;exact uI}})
end
end Go.Proofs.YtkkpahmoljiepaaGreatDoor
