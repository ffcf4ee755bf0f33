import Derived.Test.YtkkpahmoljiepaaGreatDoorJ20
set_option maxRecDepth 1000000
set_option maxHeartbeats 12800000
set_option linter.unusedSimpArgs false
set_option linter.unusedVariables false
namespace Go.Proofs.YtkkpahmoljiepaaGreatDoor
open Go.RowKit Go.Proofs.Tryz
def cC(o:ah)(L:List aj)(t:Int)(first aa:Bool)(ans:List aj)(n:ah):Int×Bool×List aj×List aj×Option ah :=
 if dU n o=false then((if first then 5 else 0),aa,ans,[],none)
 else if(ca o L n).length≠0 then(0,aa || !first,ans,ca o L n,none)
 else match (if t=5\/t=255 then none else jl o L n)with
  | some a=>if ans.length=8 then(2,true,[],[],none)else(0,true,ans++[a],[],some a.data)
  | none=>(gE o L n,true,ans++gZ o L t n,h6 o L t n,none)
def U5(e:World)(g:Nat->Prop)(v d:Value):Option ah->Prop
 | none=>v=aJ
 | some a=>d=aJ/\∃b c,v=aF b 0 (aY a).length c/\(aY a).length<=c/\gJ e b 0 (aY a)/\¬g b
def J_(c:Nat->Prop)(i b:World)(d:Nat)(a:Int×Bool×List aj×List aj×Option ah)(j:Ending):Prop :=
 ∃e g v,j=.returned v/\ew b d a.1 a.2.1 e g (aJ)/\dY c b (d+1) e a.2.2.1/\dY c b (d+1) g a.2.2.2.1/\U5 b (fun h=>c h\/some h=e.ownBlock) v g a.2.2.2.2/\Below i.heap.size i b
section
theorem awU(a:Option Addr)(d c:Nat)(b:World):(binOp .eql 113 (.slice a d c) (aJ)).run prog b=.ok (.bool a.isNone) b:=Gj b _ _ a d c 0 0 rH
attribute [local go_sem] awU
section
variable {o n:ah} {L ans:List aj} {t:Int} {first aa:Bool} (hu:dU n o=true)
include hu
theorem xH(a:(ca o L n).length≠0):cC o L t first aa ans n=(0,aa || !first,ans,ca o L n,none):=by unfold cC;rw[ar (by simp[hu]),ay a]
theorem Bo(a:ca o L n=[])(b:(cG L n).2=false):cC o L t first aa ans n=(3,true,ans,eo o L,none):=by
 have c:jl o L n=none:=by unfold jl;rw[ar (by simp[b])]
 unfold cC;rw[ar (by simp[hu]),ar (by simp[a]),c,ite_self];unfold gE gZ h6;simp[a,b]
omit hu in
theorem U6{a:aj}(d:ca o L n=[])(e:(cG L n).2=true)(b:(cG L n).1=[a])(c:iP [a]=true):jl o L n=some a:=by unfold jl;rw[ay ⟨by rw[d];rfl,e,by rw[b];exact c⟩,b];rfl
theorem uc{a:aj}(c:ca o L n=[])(d:jl o L n=some a)(e:t≠5)(g:t≠255)(b:ans.length≠8):cC o L t first aa ans n=(0,true,ans++[a],[],some a.data):=by unfold cC;rw[ar (by simp[hu]),ar (by simp[c]),ar ae,d];show(if _ then _ else _)=_;rw[ar b]
theorem xI{d:aj}(b:ca o L n=[])(c:jl o L n=some d)(e:t≠5)(g:t≠255)(a:ans.length=8):cC o L t first aa ans n=(2,true,[],[],none):=by unfold cC;rw[ar (by simp[hu]),ar (by simp[b]),ar ae,c];show(if _ then _ else _)=_;rw[ay a]
theorem Bp(b:ca o L n=[])(d:(cG L n).2=true)(e:(t=5\/t=255)\/jl o L n=none):cC o L t first aa ans n=(0,true,ans++fC t (cG L n).1,if jH t (cG L n).1 then []else eo o L,none):=by have c:(if t=5\/t=255 then none else jl o L n)=none:=by{rcases e with a|a;{rw[ay a]};{rw[a,ite_self]}};unfold cC;rw[ar (by simp[hu]),ar (by simp[b]),c];unfold gE gZ h6;simp[b,d]
end
theorem U7(rs:List aj)(c b:List ah)(a:iW rs c=some b):b.length<=c.length+1:=by
 have g:∀f d,jN rs c d f=some b->b.length<=c.length+1:=by{
 intro f;induction f with
 | zero=>intro d a;cases a
 | succ f e =>{intro d a;unfold jN at a;split at a;{split at a;{have:=cZ a;rw[<- this];simp};{cases a}};{exact e _ a}}};unfold iW at a;split at a;{have:=cZ a;rw[<- this];omega};{exact g _ _ a}
theorem EZ{P:Prop}(h:P:=by have gQ:=af bp;obtain⟨da,dc,rfl⟩:=j_.slice;obtain⟨y0,y1,y2,y3,y4⟩:=S7.cells;have oL:=S7.frozen;clear S7 j_ dL bp u0 u1 u2 u3 u4 ZG;go_wp2;go_ret;exact gQ):P:=h
theorem mt{P:Prop}(h:P:=by show ab<ab+1;omega):P:=h
theorem DV{P:Prop}(h:P:=by
 obtain⟨v8,w8,hrun,rV,iK,Iz⟩:=sQ (ag BO) (ag vQ) (fun k hk h=>h) ae ae (fun k hk=>by have:=ag TA k hk;omega);rw[bD]at hrun;have IA:some ab≠(Value.slice jO ans.length ac).ownBlock:=fun e=>by have:=(HO.lt ab e.symm).1;omega
 have S8:=lL.kept (iK.block ab ae IA);have ZI:=iK.size;have Dl:Hid (Below w0.heap.size w0 w8):=je.trans ⟨iK.os,iK.tape,iK.output,iK.size,fun k hk=>iK.block k (by have:=je.size;omega) (fun e=>by have:=(HO.lt k e.symm).1;omega)⟩;have Lb:=af rV;obtain⟨a8,hZ,rW⟩:=rV.slice;rw[a6,bD]at rW;subst rW;obtain⟨y0,y1,y2,y3,y4⟩:=S8.cells;have oL:=S8.frozen;have sV:=af S8;have bf:=af (ag Oz);have p2:=af hrun;clear S8 rV hrun vQ Aj iK Iz;go_wp2_with (at_builtin;go_loud (refine ny dO (.tmp 127) (.tmp 128) 115 dO _ _ _ _ dO dO (ag p2) ?_));go_ret;rw[ag bf,ar kF];exact⟨_,_,_,rfl,sV.set2 _,Lb.set (a:=⟨ab,2,none⟩) _ (ag p3) (by show ab<ab+1;omega),dY.nil _ _ _,rfl,Dl.setCell (p:=⟨ab,2,none⟩) hab _⟩):P:=h
theorem D9{P:Prop}(h:P:=by have Ai:=af (DE (W:=w6) (x:=X) (base:=ab+1) (ag La) (ag cB) (vH _ je) (ag FE) ae);clear vQ Aj;go_wp2_with fail;refine Ai.mono ?_;rintro e w7 ⟨⟨vd,rfl,j_⟩,dL⟩;have FD:=dL.size;have S7:=lL.kept (dL.block ab ae);have Dk:=af (BO.below dL);have tq:=af (je.trans (dL.mono je.size));obtain⟨da,dc,rfl⟩:=j_.slice;obtain⟨y0,y1,y2,y3,y4⟩:=S7.cells;have oL:=S7.frozen;have Iy:=af j_;have qJ:=af S7;clear S7 j_ dL x0 x1 x2 x3 x4 xf;go_wp2;go_ret;rw[ag bf,hnil];refine⟨_,_,_,rfl,qJ.jv _,?_,?_,rfl,tq.setCell (p:=⟨ab,3,none⟩) hab _⟩;{rw[kK,eu];exact Dk.set (a:=⟨ab,3,none⟩) _ (ag p3) (by show ab<ab+1;omega)};{exact Iy.set (a:=⟨ab,3,none⟩) _ (ag p3) (by show ab<ab+1;omega)}):P:=h
theorem Ex{P:Prop}(h:P:=by have hnil:=df Ak;have bf:=af (ag Oz);exact D9):P:=h
theorem U8(u ab i l j:Nat)(o n:ah)(rs ans:List aj)(t:Int)(first aa:Bool)(bu:Value)(X:Nat->Prop)(S w0 B:World)(bo:nC S u o rs)(al:Below S.heap.size S w0)(bM:X ab)(bN:∀k,k<S.heap.size->¬X k)(bO:∀k,w0.heap.size<=k->k≠ab->¬X k)(bA:∀k,X k->k<=ab)(Z:kG o rs)(ad:Below w0.heap.size w0 B)(hab:w0.heap.size<=ab)(ai:ew B ab 0 aa bu (aJ) (aJ)) (bl:dY X B (ab+1) bu ans) (eI:ans.length<=8) (aQ:gJ B i l (aY n)) (aU:(aY n).length<=j) (bR:i≠ab) (bW:¬X i) (bk:some i≠bu.ownBlock) (b6:gp n) (ep:n.length<=260):az 186 #[aO u,aO ab,aF i l (aY n).length j,ak t,.bool first] B fun e q=>J_ X w0 q ab (cC o (aS rs) t first aa ans n) e:=by
 have hz:=bo.below al;have br:=xD Z;have b3:=jR Z;have eA:0<(aY n).length:=by rw[lu];exact oS n
 have en:(aY n).length<=261:=by have:=iq 46 n;rw[lu];omega
 have dk:=iz br.1;have bb:=af hz;have La:=af bo;have vH:Hid (∀W,Below w0.heap.size w0 W->Below S.heap.size S W):=fun W bg=>al.trans (bg.mono al.size);have es:=al.size;have a7:=af br;have aZ:=af b3;have cB:=af Z;have c6:=af ad;have cJ:=af ai;have HO:=af bl;have c5:=af aQ;have co:=af b6;have cO:=ai.lt;have ez:=aQ.1;have dm:=ad.size;obtain⟨jO,ac,rfl⟩:=bl.slice;obtain⟨dA,dB,dC,dE,dF⟩:=ai.cells;have dG:=ai.frozen;obtain⟨bw,ea,eB,cap,a0,bx,eJ,cv⟩:=hz;have ds:=(bn.1 a0).1;have cw:=ad.block u ds;have dV:B.cell? (aq u 0)=some bw:=by unfold World.cell?; rw[cw,a0];rfl
 have bH:Hid (az 119 #[aF i l (aY n).length j,bw] B (aP (.bool (dU n o)) B)):=by{have:=wN (aF i l (aY n).length j) bw _ _ B ⟨i,l,j,rfl,aU,aQ⟩ (bx.below ad) ae dk (oS o);rw[UW (xB Z.org)]at this;exact this};have d2:=af bx;obtain⟨d9,d_,d3,rfl,_,_⟩:=bx;have d0:=af a0;have d1:=af cv;have p3:=af bM;have FE:=af bN;have cN:=af bO;have TA:=af bA;have ce:=af bW;clear Z ad ai bl aQ b6 br b3 a0 cv cw bo al bM bN bO bA bW;generalize E:(aY n).length=C at *;go_enter func186,ntmps186;go_wp2_with fail;refine bH.mono ?_;rintro e aX ⟨rfl,O⟩;have eq:=O.size;have aE:=cJ.kept (O.block ab cO);have a3:=af (HO.below O);have Y:=af (c6.trans (O.mono dm));have bs:=af (c5.below O);obtain⟨dH,dI,dJ,dK,dM⟩:=aE.cells;have dN:=aE.frozen;have bc:=af aE;clear bH O dA dB dC dE dF dG dV aE;cases hu:dU n o with
 | false =>{
 have bf:Hid (cC o (aS rs) t first aa ans n=((if first then 5 else 0),aa,ans,[],none)):=by{rw[Hid,cC,ay hu]};cases first with
 | false =>{go_wp2;go_ret;rw[ag bf];exact⟨_,_,_,rfl,bc,a3,dY.nil _ _ _,rfl,Y⟩}
 | true =>{go_wp2;go_ret;rw[ag bf];exact⟨_,_,_,rfl,bc.set0 5,a3.set _ (ag p3) mt,dY.nil _ _ _,rfl,Y.setCell (p:=⟨ab,0,none⟩) hab _⟩}}
 | true =>{
 have V:Hid (∀W,Below w0.heap.size w0 W->ab<W.heap.size->∀(s:ah) (aW:Value) (aV:Int),eY W aW (aY s)->(aY s).length<=1000->gJ W i l (aY n)->az 237 #[aO u,aW,ak aV,aF i l C j] W fun e q=>(∃v,e=.returned v/\dY (fun k=>X k\/some k=(Value.slice jO ans.length ac).ownBlock) q W.heap.size v ((cz rs s aV).map (cI n)))/\Below W.heap.size W q):=fun W bg em s aW aV hu K de=>by{refine CD (ag La) (ag cB) (vH W bg) (fun k hk J=>?_) av s n aW _ aV hu K ⟨i,l,j,by rw[E],by rw[E];exact aU,de,fun J=>J.elim (ag ce) bk⟩;rcases J with J|J;{exact FE k hk J};{have:=(HO.lt k J.symm).1;omega}};have bX:Hid (az 236 #[aO u,aF i l C j] aX fun e q=>(∃v,e=.returned v/\((v=aJ/\ca o (aS rs) n=[])\/∃c,c<C/\v=aF i (l+c) (C-c) (j-c)/\ca o (aS rs) n=cE rs (dD n c) 2/\cE rs (dD n c) 2≠[]))/\Below aX.heap.size aX q):=by{have aL:=(By hu).1;rw[<- lu n]at aL;rw[Hid,<- E];refine(Uv u o rs i l j (aY n) aX (bb.below Y) (ag a7) (ag bs) (by rw[E];exact aU) ae aL).mono ?_;rintro e q ⟨⟨v,rfl,z⟩,bh⟩;refine⟨⟨v,rfl,?_⟩,bh⟩;rcases UF z with⟨rfl,cc⟩|⟨c,cc,cd,rfl⟩<;>rcases xA (ag aZ) (ag co) hu with⟨ap,G⟩|⟨et,ec,ap,G,a_⟩;{exact .inl ⟨rfl,G⟩};{rw[cc]at ap;cases ap};{rw[cd]at ap;cases ap};{rw[cd]at ap;obtain rfl:=cZ ap;exact .inr ⟨c,ae,rfl,G,a_⟩}};have d4:=af (ag bs);go_wp2_with fail;refine bX.mono ?_;rintro e r ⟨⟨eF,rfl,dp⟩,P⟩;have er:=P.size;have aG:=bc.kept (P.block ab ae);have bI:=af (a3.below P);have a9:=af (Y.trans (P.mono Y.size));have cq:=af (bs.below P);obtain⟨u0,u1,u2,u3,u4⟩:=aG.cells;have ZG:=aG.frozen;have b1:=af aG;clear bX P dH dI dJ dK dM dN aG;rcases dp with⟨rfl,hcut⟩|⟨c,ao,rfl,hcut,c2⟩;{
 have bQ:=b1.set1 true;have c3:=af (bI.set (a:=⟨ab,1,none⟩) (.bool true) (ag p3) mt);have ba:=af (a9.setCell (p:=⟨ab,1,none⟩) hab (.bool true));have ct:=af (cq.fr (p:=fun k=>k≠ab) (bG.kA (a:=⟨ab,1,none⟩) (.bool true) (fun _ h=>h)) bR);have b9:(r.setCell ⟨ab,1,none⟩ (.bool true)).heap.size=r.heap.size:=g8
 have dd:=af bQ;have bY:Hid (az 238 #[aO u,aF i l C j] (r.setCell ⟨ab,1,none⟩ (.bool true)) fun e q=>(∃v,e=.returned v/\((v=aJ/\(cG (aS rs) n).2=false)\/∃s,eY q v (aY s)/\(aY s).length<=1000/\(cG (aS rs) n).2=true/\(cG (aS rs) n).1=(cM (aS rs) s).map (cI n)))/\Below (r.setCell ⟨ab,1,none⟩ (.bool true)).heap.size (r.setCell ⟨ab,1,none⟩ (.bool true)) q):=by{rw[Hid,<- E];refine(UB u o rs i l j (aY n) _ (bb.below ba) (ag a7) (ag ct) (by rw[E];exact aU) ae ae).mono ?_;rintro e q ⟨⟨v,rfl,z⟩,bh⟩;refine⟨⟨v,rfl,?_⟩,bh⟩;rcases Cz rs (ag aZ) (ag co)with⟨ap,G⟩|⟨s,ap,G,a_⟩;{rw[ap]at z;exact .inl ⟨z,G⟩};{have:=U7 rs _ _ ap;rw[ap]at z;exact .inr ⟨s,z,ae,G,a_⟩}};clear bQ;go_wp2_with fail;refine bY.mono ?_;rintro e T ⟨⟨eG,rfl,dq⟩,Q⟩;have ek:=Q.size;have aH:=dd.kept (Q.block ab ae);have aB:=af (c3.below Q);have y:=af (ba.trans (Q.mono ba.size));have a1:=af (ct.below Q);obtain⟨cj,ck,cl,cm,cn⟩:=aH.cells;have cp:=aH.frozen;have aK:=af aH;clear bY Q u0 u1 u2 u3 u4 ZG aH;rcases dq with⟨rfl,aN⟩|⟨s,cu,K,aN,bq⟩;{
 have bf:=af (Bo (L:=aS rs) (ans:=ans) (t:=t) (first:=first) (aa:=aa) hu hcut aN);have F:=aK.set0 3;have aI:=af (aB.set (a:=⟨ab,0,none⟩) (ak 3) (ag p3) mt);have w:=af (y.setCell (p:=⟨ab,0,none⟩) hab (ak 3));have dn:(T.setCell ⟨ab,0,none⟩ (.int .i64 3)).heap.size=T.heap.size:=g8
 have aT:=af F;have Ai:=af (DE (W:=T.setCell ⟨ab,0,none⟩ (.int .i64 3)) (x:=X) (base:=ab+1) (ag La) (ag cB) (vH _ w) (ag FE) ae);clear F;go_wp2_with fail;refine Ai.mono ?_;rintro e w7 ⟨⟨vd,rfl,j_⟩,dL⟩;have FD:=dL.size;have S7:=aT.kept (dL.block ab ae);have Dk:=af (aI.below dL);have tq:=af (w.trans (dL.mono w.size));obtain⟨da,dc,rfl⟩:=j_.slice;obtain⟨y0,y1,y2,y3,y4⟩:=S7.cells;have oL:=S7.frozen;have Iy:=af j_;have qJ:=af S7;clear S7 j_ dL cj ck cl cm cn cp Ai;go_wp2;go_ret;rw[ag bf];exact⟨_,_,_,rfl,qJ.jv _,Dk.set _ (ag p3) mt,Iy.set _ (ag p3) mt,rfl,tq.setCell (p:=⟨ab,3,none⟩) hab _⟩};have a4:Hid (((t=5\/t=255)\/jl o (aS rs) n=none)->cC o (aS rs) t first aa ans n=(0,true,ans++(cz rs s t).map (cI n),if cz rs s t=[]then eo o (aS rs)else [],none)):=fun bk=>by{rw[Bp hu hcut aN bk,bq,AS rs s n t (ag aZ)];congr 4;rw[U0 (Jx (p7 rs s) (t_ rs s) n),AS rs s n t (ag aZ)];cases cz rs s t<;>simp};have ax:=af cu;obtain⟨el,eC,ef,rfl,dh,db⟩:=cu;clear dh db;by_cases N:t=5;{
 have M:=af (a4 (.inl (.inl N)));have Oz:Hid (cC o (aS rs) 5 first aa ans n=(0,true,ans++(cz rs s 5).map (cI n),if cz rs s 5=[]then eo o (aS rs)else [],none)):=by rw[<- N];exact M
 subst N;go_wp2_with fail;refine(V T y ae s _ _ (ag ax) K (ag a1)).mono ?_;rintro e w6 ⟨⟨bv,rfl,d⟩,b⟩;have bt:=b.size;have g:=aK.kept (b.block ab ae);have BO:=af (aB.below b);have je:=af (y.trans (b.mono y.size));obtain⟨x0,x1,x2,x3,x4⟩:=g.cells;have xf:=g.frozen;have lL:=af g;obtain⟨cf,cg,rfl⟩:=d.slice;rw[bD];have vQ:=af d;have Aj:=d.lt;have bZ:=af b;clear g d b;by_cases Ak:(cz rs s 5).length=0;{
 have U:(((cz rs s 5).length:Int)==0)=true:=by simp[Ak]
 exact Ex};{
 have U:(((cz rs s 5).length:Int)==0)=false:=eP
 have kF:cz rs s 5≠[]:=fun h=>Ak ng;have bB:=rp (ag cB) s 5;have b0:((cz rs s 5).map (cI n)).length<=2000:=uE
 exact DV}};by_cases R:t=255;{
 have M:=af (a4 (.inl (.inr R)));have Oz:Hid (cC o (aS rs) 255 first aa ans n=(0,true,ans++(cz rs s 255).map (cI n),if cz rs s 255=[]then eo o (aS rs)else [],none)):=by rw[<- R];exact M
 subst R;go_wp2_with fail;refine(V T y ae s _ _ (ag ax) K (ag a1)).mono ?_;rintro e w6 ⟨⟨bv,rfl,d⟩,b⟩;have bt:=b.size;have g:=aK.kept (b.block ab ae);have BO:=af (aB.below b);have je:=af (y.trans (b.mono y.size));obtain⟨x0,x1,x2,x3,x4⟩:=g.cells;have xf:=g.frozen;have lL:=af g;obtain⟨cf,cg,rfl⟩:=d.slice;rw[bD];have vQ:=af d;have Aj:=d.lt;have bZ:=af b;clear g d b;by_cases Ak:(cz rs s 255).length=0;{
 have U:(((cz rs s 255).length:Int)==0)=true:=by simp[Ak]
 exact Ex};{
 have U:(((cz rs s 255).length:Int)==0)=false:=eP
 have kF:cz rs s 255≠[]:=fun h=>Ak ng;have bB:=rp (ag cB) s 255;have b0:((cz rs s 255).map (cI n)).length<=2000:=uE
 exact DV}};have dW:(t != 5)=true:=by simpa using N
 have dZ:(t != 255)=true:=by simpa using R
 have bE:=af (bb.below y);have bL:=af (wH u o rs _ _ 5 T (ag bE) (ag a7) (ag ax) K);go_wp2_with fail;refine bL.mono ?_;rintro e cr ⟨rfl,I⟩;have dn:=I.size;have F:=aK.kept (I.block ab ae);have aI:=af (aB.below I);have w:=af (y.trans (I.mono y.size));have bJ:=af (a1.below I);have bS:=af (ax.below I);obtain⟨dv,dw,cK,cx,dx⟩:=F.cells;have dz:=F.frozen;have aT:=af F;clear bL bE I cj ck cl cm cn cp F;cases bj:eE rs (aY s) 5 with
 | false =>{
 have aM:jl o (aS rs) n=none:=by{unfold jl;rw[ar];rintro⟨_,_,b4⟩;rw[bq,<- (CC (ag cB) s n).1,bj]at b4;cases b4};have M:=af (a4 (.inr aM));go_wp2_with fail;refine(V cr w ae s _ _ (ag bS) K (ag bJ)).mono ?_;rintro e w6 ⟨⟨bv,rfl,d⟩,b⟩;have bt:=b.size;have g:=aT.kept (b.block ab ae);have BO:=af (aI.below b);have je:=af (w.trans (b.mono w.size));obtain⟨x0,x1,x2,x3,x4⟩:=g.cells;have xf:=g.frozen;have lL:=af g;obtain⟨cf,cg,rfl⟩:=d.slice;rw[bD];have vQ:=af d;have Aj:=d.lt;have bZ:=af b;clear g d b;by_cases Ak:(cz rs s t).length=0;{
 have U:(((cz rs s t).length:Int)==0)=true:=by simp[Ak]
 have hnil:=df Ak;have bf:=af (ag M);exact D9};{
 have U:(((cz rs s t).length:Int)==0)=false:=eP
 have kF:cz rs s t≠[]:=fun h=>Ak ng;have bB:=rp (ag cB) s t;have b0:((cz rs s t).map (cI n)).length<=2000:=uE
 obtain⟨v8,w8,hrun,rV,iK,Iz⟩:=sQ (ag BO) (ag vQ) (fun k hk h=>h) ae ae (fun k hk=>by have:=ag TA k hk;omega);rw[bD]at hrun;have IA:some ab≠(Value.slice jO ans.length ac).ownBlock:=fun e=>by have:=(HO.lt ab e.symm).1;omega
 have S8:=lL.kept (iK.block ab ae IA);have ZI:=iK.size;have Dl:Hid (Below w0.heap.size w0 w8):=je.trans ⟨iK.os,iK.tape,iK.output,iK.size,fun k hk=>iK.block k (by have:=je.size;omega) (fun e=>by have:=(HO.lt k e.symm).1;omega)⟩;have Lb:=af rV;obtain⟨a8,hZ,rW⟩:=rV.slice;rw[a6,bD]at rW;subst rW;obtain⟨y0,y1,y2,y3,y4⟩:=S8.cells;have oL:=S8.frozen;have sV:=af S8;have bf:=af (ag M);have p2:=af hrun;clear S8 rV hrun vQ Aj iK Iz;go_wp2_with (at_builtin;go_loud (refine ny dO (.tmp 127) (.tmp 128) 115 dO _ _ _ _ dO dO (ag p2) ?_));go_ret;rw[ag bf,ar kF];exact⟨_,_,_,rfl,sV.set2 _,Lb.set (a:=⟨ab,2,none⟩) _ (ag p3) mt,dY.nil _ _ _,rfl,Dl.setCell (p:=⟨ab,2,none⟩) hab _⟩}}
 | true =>{
 obtain⟨A,cA,cH,ch,dl⟩:=(CC (ag cB) s n).2 bj;have a5:=(CC (ag cB) s n).1;rw[bj,ch]at a5;have aM:jl o (aS rs) n=some (cI n A):=U6 hcut aN (by rw[bq,ch];rfl) a5.symm;clear a5;have b2:=af (V cr w ae s _ 5 (ag bS) K (ag bJ));go_wp2_with fail;refine b2.mono ?_;rintro e w6 ⟨⟨bv,rfl,d⟩,b⟩;rw[dl]at d;have bt:=b.size;have g:=aT.kept (b.block ab ae);have BO:=af (aI.below b);have je:=af (w.trans (b.mono w.size));obtain⟨x0,x1,x2,x3,x4⟩:=g.cells;have xf:=g.frozen;have lL:=af g;have vQ:=af d;have Aj:=d.lt;rcases d.Ol with⟨_,h⟩|⟨D,ee,rfl,d5,dg,ci⟩;{cases h};obtain⟨_,ei,_,_,_,_,an,_,du⟩:=ci 0 am;rw[i4,cT]at an;obtain⟨a2,bm⟩:=Kq (ag cB) cH cA;obtain⟨H,aR,eg,rfl,di,cD,cb⟩:=du;have bT:w6.cell? (aq H aR)=some (au A.data):=by{have:=cD.2 0 (by show 0<(aC 32 A.data).length;rw[a2];simp);rw[dT]at this;rw[this];congr 3;show(aC 32 A.data)[0]'_=_;simp[a2]};have dP:=cD.1;have b_:(aC 32 (List.map (cI n) [A])[0].data).length=1:=by show(aC 32 A.data).length=1;rw[a2];rfl
 rw[b_]at an di;simp only[bD,bi,cW]at dg ⊢;clear g d b dv dw cK cx dx dz b2 ci cD b_;by_cases be:ans.length=8;{
 have cL:((ans.length:Int)==8)=true:=by simp[be]
 have bf:=af (xI (first:=first) (aa:=aa) hu hcut aM N R be);have S8:=lL.set0 2;clear an;go_wp2;go_ret;rw[ag bf];exact⟨_,_,_,rfl,S8.set2 _,dY.nil _ _ _,dY.nil _ _ _,rfl,(je.setCell (p:=⟨ab,0,none⟩) hab _).setCell (p:=⟨ab,2,none⟩) hab _⟩};{
 have cL:((ans.length:Int)==8)=false:=eP
 have bf:=af (uc (first:=first) (aa:=aa) hu hcut aM N R be);obtain⟨v8,w8,hrun,rV,iK,Iz⟩:=sQ (ag BO) (ag vQ) (fun k hk h=>h) ae aA (fun k hk=>by have:=ag TA k hk;omega);have IA:some ab≠(Value.slice jO ans.length ac).ownBlock:=fun e=>by have:=(HO.lt ab e.symm).1;omega
 have cP:some D≠(Value.slice jO ans.length ac).ownBlock:=fun e=>by have:=(HO.lt D e.symm).2;omega
 have cQ:some H≠(Value.slice jO ans.length ac).ownBlock:=fun e=>cb (.inl (.inr e));have cR:H≠ab:=fun e=>cb (.inl (.inl (by rw[e];exact p3)));have cS:D≠ab:=ae;have cU:=(Aj D rfl).2;have S8:=lL.kept (iK.block ab ae IA);have dt:=(b7 (a:=⟨D,4,none⟩) (iK.block D cU cP)).trans an;have cV:=(b7 (a:=⟨H,aR,none⟩) (iK.block H dP cQ)).trans bT;have ZI:=iK.size;have Dl:Hid (Below w0.heap.size w0 w8):=je.trans ⟨iK.os,iK.tape,iK.output,iK.size,fun k hk=>iK.block k (by have:=je.size;omega) (fun e=>by have:=(HO.lt k e.symm).1;omega)⟩;have Lb:=af rV;obtain⟨a8,hZ,rW⟩:=rV.slice;rw[a6,bD,te]at rW;subst rW;obtain⟨y0,y1,y2,y3,y4⟩:=S8.cells;have oL:=S8.frozen;have p2:=af hrun;have bU:=S8.set2 (.slice a8 (ans.length+1) hZ);have cX:=af (rV.set (a:=⟨ab,2,none⟩) (.slice a8 (ans.length+1) hZ) (ag p3) mt);have bP:=af (Dl.setCell (p:=⟨ab,2,none⟩) hab (.slice a8 (ans.length+1) hZ));have ev:(w8.setCell ⟨ab,2,none⟩ (.slice a8 (ans.length+1) hZ)).cell? (aq D 4)=_:=(b7 (a:=⟨D,4,none⟩) (bC _ _ _ _ cS)).trans dt;have d6:(w8.setCell ⟨ab,2,none⟩ (.slice a8 (ans.length+1) hZ)).cell? (aq H aR)=_:=(b7 (a:=⟨H,aR,none⟩) (bC _ _ _ _ cR)).trans cV;have d7:(w8.setCell ⟨ab,2,none⟩ (.slice a8 (ans.length+1) hZ)).heap.size=w8.heap.size:=g8
 have dQ:=af bU;have ex:=(ed bm).2;have dy:=af (fun W=>rt A.data false W ae);have cY:=af (rV.lt);clear S8 bU rV hrun vQ Aj iK Iz an bT;go_wp2_with (at_builtin;go_loud (refine ny dO (.tmp 98) (.tmp 99) 115 dO _ _ _ _ dO dO (ag p2) ?_));refine(dy _).mono ?_;rintro e eH ⟨⟨eD,rfl,bV⟩,aD⟩;have dX:=aD.size;have c_:dS false A.data=some (aC 46 A.data):=by{have:=l7 A.data;rw[bm]at this;unfold dS at this ⊢;split at this;{rename_i h;rw[ay h]};{cases this}};rw[c_,<- lv (xB bm)]at bV;obtain⟨_,bd,me,rfl,c0,d8,cF⟩:=bV;go_wp2;go_ret;rw[ag bf];refine⟨_,_,_,rfl,dQ.kept (aD.block ab ae),cX.below aD,dY.nil _ _ _,⟨rfl,bd,me,rfl,c0,cF,?_⟩,bP.trans (aD.mono bP.size)⟩;rintro(h|h);{exact cN bd ae ae h};{have:=(cY bd h.symm).2;omega}}}};{
 have cs:(ca o (aS rs) n).length≠0:=by rw[hcut];intro h;exact c2 (df h)
 have bf:=af (xH (t:=t) (first:=first) (aa:=aa) (ans:=ans) hu cs);have b8:(cz rs (dD n c) 2).map (cI (dD n c))=ca o (aS rs) n:=by rw[Jz,Kc,hcut]
 have bF:Hid (∀x:Bool,az 237 #[aO u,aF i (l+c) (C-c) (j-c),ak 2,aF i (l+c) (C-c) (j-c)] (r.setCell ⟨ab,1,none⟩ (.bool x)) fun e q=>(∃v,e=.returned v/\dY X q (ab+1) v (ca o (aS rs) n))/\Below (r.setCell ⟨ab,1,none⟩ (.bool x)).heap.size (r.setCell ⟨ab,1,none⟩ (.bool x)) q):=fun x=>by{
 have b9:(r.setCell ⟨ab,1,none⟩ (.bool x)).heap.size=r.heap.size:=g8
 have dR:=cq.fr (p:=fun k=>k≠ab) (bG.kA (a:=⟨ab,1,none⟩) (.bool x) (fun _ h=>h)) bR;have b5:c<(aC 46 n).length:=by rw[<- lu];omega
 have z:=wM dR (cap:=j) ae c ae;rw[<- xz b5,E]at z;have dj:(aY (dD n c)).length=C-c:=by rw[xz b5,c8,E]
 rw[<- b8];refine CD (ag La) (ag cB) (vH _ (a9.setCell (p:=⟨ab,1,none⟩) hab _)) (ag FE) ae (dD n c) (dD n c) _ _ 2 z ae ⟨i,l+c,j-c,by rw[dj],ae,?_,ce⟩;obtain⟨ej,ey,eb,c7,eh,c9⟩:=z;obtain⟨aL,_,_⟩:=gL c7;cases cZ aL;exact c9};clear V;have bK:Hid (∀x:Bool,(aa || !first)=x->∀(w7:World) (vd:Value),Below (r.setCell ⟨ab,1,none⟩ (.bool x)).heap.size (r.setCell ⟨ab,1,none⟩ (.bool x)) w7->dY X w7 (ab+1) vd (ca o (aS rs) n)->J_ X w0 (w7.setCell ⟨ab,3,none⟩ vd) ab (cC o (aS rs) t first aa ans n) (.returned (aJ))/\ew w7 ab 0 x (.slice jO ans.length ac) (aJ) (aJ)):=fun x dr w7 vd dL j_=>by{
 have b9:(r.setCell ⟨ab,1,none⟩ (.bool x)).heap.size=r.heap.size:=g8
 have S7:=(b1.set1 x).kept (dL.block ab ae);have Dk:=(bI.set (a:=⟨ab,1,none⟩) (.bool x) (ag p3) mt).below dL;have bz:=a9.setCell (p:=⟨ab,1,none⟩) hab (.bool x);have cy:=bz.trans (dL.mono bz.size);rw[ag bf,dr];exact⟨⟨_,_,_,rfl,S7.jv _,Dk.set _ (ag p3) mt,j_.set _ (ag p3) mt,rfl,cy.setCell (p:=⟨ab,3,none⟩) hab _⟩,S7⟩};clear hcut b8 cs;cases aa with
 | true =>{go_wp2_with fail;refine(bF true).mono ?_;rintro e w7 ⟨⟨vd,rfl,j_⟩,dL⟩;obtain⟨bp,S7⟩:=ag bK true rfl w7 vd dL j_;exact EZ}
 | false =>{obtain⟨aw,c1⟩:∃aw:Bool,(!first)=aw:=⟨_,rfl⟩;have c4:(false || !first)=aw:=c1;go_wp2_with fail;refine(bF aw).mono ?_;rintro e w7 ⟨⟨vd,rfl,j_⟩,dL⟩;obtain⟨bp,S7⟩:=ag bK aw c4 w7 vd dL j_;exact EZ}}}
end
def jP(o:ah)(L:List aj)(t:Int):Nat->Bool->Bool->List aj->ah->Int×Bool×List aj×List aj
 | 0,first,aa,ans,n=>((cC o L t first aa ans n).1,(cC o L t first aa ans n).2.1,(cC o L t first aa ans n).2.2.1,(cC o L t first aa ans n).2.2.2.1)
 | f+1,first,aa,ans,n=>match cC o L t first aa ans n with
  | (e,a,b,c,none)=>(e,a,b,c)
  | (_,a,b,_,some d)=>jP o L t f false a b d
structure uy(rs:List aj)(r:aj):Prop where
 dat:∃r0∈rs,r.type=r0.type/\r.data=r0.data
 own:r.owner.length<=260
section
variable {o:ah} {rs:List aj} (hz:kG o rs)
include hz
theorem xb{n:ah}{c:aj}(r:gp n)(k:jl o (aS rs) n=some c):∃a∈rs,c=cI n a/\a.type=5/\dQ c.data=true:=by
 obtain⟨_,p,q,e⟩:=AJ k;rcases Cz rs (jR hz) r with⟨_,h⟩|⟨s,_,_,b⟩;{rw[p]at h;cases h};{
 rw[q]at b;cases g:cM (aS rs) s with
 | nil=>rw[g]at b;simp at b
 | cons a t =>{
 rw[g]at b;have d:c=cI n a:=by simp at b;exact b.1
 have j:a∈rs:=(ua (by rw[g];simp)).1;have i:a.type=5:=by{
 unfold iP at e;rw[d]at e;have:((cI n a).type==5)=true:=by simpa using e
 have l:(a.type==5)=true:=this;simpa using l};refine⟨a,j,d,i,?_⟩;rw[d];exact(Kq hz j i).2}}
omit hz in
theorem VE{n m:ah}{t:Int}(c:m.length<=260):∀a∈(cz rs n t).map (cI m),uy rs a:=by intro a e;obtain⟨b,h0,rfl⟩:=fz.1 e;have d:b∈rs:=by{exact FH};exact⟨⟨b,d,rfl,rfl⟩,c⟩
theorem J4:∀a∈eo o (aS rs),uy rs a:=by
 intro a c;obtain⟨e,g,h,i,_,_,_,d,_⟩:=xF hz;rw[d]at c;obtain rfl:a=_:=by simpa using c
 have b:=bM (k8 hz);exact⟨⟨_,b,rfl,rfl⟩,aZ (oX (hz.recs _ b).vL).2 ae⟩
theorem VF{a:aj}(b:a∈rs):uy rs a:=⟨⟨a,b,rfl,rfl⟩,aZ (oX (hz.recs a b).vL).2 ae⟩
theorem tW{n:ah}(g:gp n)(t:Int):fC t (cG (aS rs) n).1=[]\/∃s,fC t (cG (aS rs) n).1=(cz rs s t).map (cI n):=by rcases Cz rs (jR hz) g with⟨_,a⟩|⟨s,_,_,d⟩;{left;have:(cG (aS rs) n).1=[]:=by{unfold cG at a ⊢;split;{rename_i b;rw[ay b]at a;cases a};{rename_i b;rw[ar b]at a;split;{rename_i c e;rw[e]at a;simp only[ro,Nat.not_lt,Nat.le_zero]at a;show List.map (cI n) (cM (aS rs) (42::46::c))=[];rw[df a];rfl};{rfl}}};rw[this];rfl};{right;exact⟨s,by rw[d,AS rs s n t (jR hz)]⟩}
theorem J5{n:ah}(d:gp n)(hu:dU n o=true):∀c∈ca o (aS rs) n,c∈rs:=by rcases xA (jR hz) d hu with⟨_,a⟩|⟨e,_,_,a,_⟩;{rw[a];intro c b;cases b};{rw[a];intro c b;exact(dg.1 b).1}
theorem VG{n:ah}(b:gp n)(hu:dU n o=true):(ca o (aS rs) n).length<=60:=by rcases xA (jR hz) b hu with⟨_,a⟩|⟨c,_,_,a,_⟩;{rw[a];simp};{rw[a];exact Ko hz _ _}
theorem J6:(eo o (aS rs)).length=1:=by obtain⟨b,c,d,e,_,_,_,a,_⟩:=xF hz;rw[a];rfl
structure axd(rs ans:List aj)(q:Int×Bool×List aj×List aj×Option ah):Prop where
 TD:∀r∈q.2.2.1,uy rs r
 ai7:∀r∈q.2.2.2.1,uy rs r
 ai8:q.2.2.1.length<=ans.length+60
 ai9:q.2.2.2.1.length<=60
 ai_:∀d,q.2.2.2.2=some d->dQ d=true/\q.1=0/\q.2.2.2.1=[]/\q.2.2.1.length=ans.length+1/\ans.length≠8
theorem Bq{n:ah}(b:gp n)(p:n.length<=260)(t:Int)(first aa:Bool)(ans:List aj)(a:∀r∈ans,uy rs r):axd rs ans (cC o (aS rs) t first aa ans n):=by
 cases hu:dU n o with
 | false =>{unfold cC;rw[ay hu];exact⟨a,o4,nF _ _,b6 _,mx⟩}
 | true =>{
 by_cases l:(ca o (aS rs) n).length=0;{
 have e:=df l;cases q:(cG (aS rs) n).2 with
 | false =>{rw[Bo hu e q];exact⟨a,J4 hz,nF _ _,(by show(eo o (aS rs)).length<=60;rw[J6 hz];omega),mx⟩}
 | true =>{
 by_cases c:(t=5\/t=255)\/jl o (aS rs) n=none;{rw[Bp hu e q c];have x:∀r∈fC t (cG (aS rs) n).1,uy rs r:=by{rcases tW hz b t with h|⟨s,h⟩;{rw[h];intro r hr;cases hr};{rw[h];exact VE p}};have D:(fC t (cG (aS rs) n).1).length<=60:=by{rcases tW hz b t with h|⟨s,h⟩;{rw[h];simp};{rw[h,bD];exact rp hz s t}};refine⟨fun r hr=>?_,fun r hr=>?_,?_,?_,mx⟩;{rcases dv.1 hr with h|h;{exact a r h};{exact x r h}};{have j:r∈(if jH t (cG (aS rs) n).1 then []else eo o (aS rs)):=hr;split at j;{cases j};{exact J4 hz r j}};{show(ans++_).length<=_;rw[a6];omega};{show(if jH t (cG (aS rs) n).1 then []else eo o (aS rs)).length<=60;split;{simp};{rw[J6 hz];omega}}};{
 have k:t≠5:=fun h=>c (.inl (.inl h));have u:t≠255:=fun h=>c (.inl (.inr h));cases g:jl o (aS rs) n with
 | none=>exact absurd (.inr g) c
 | some r =>{
 obtain⟨C,z,y,_,A⟩:=xb hz b g;by_cases i:ans.length=8;{rw[xI hu e g k u i];exact⟨o4,o4,b6 _,b6 _,mx⟩};{
 rw[uc hu e g k u i];refine⟨fun w B=>?_,o4,?_,b6 _,fun d aH=>?_⟩;{
 rcases dv.1 B with h|h;{exact a w h};{
 obtain rfl:w=r:=kI
 rw[y];exact⟨⟨C,z,rfl,rfl⟩,p⟩}};{show(ans++[r]).length<=_;rw[a6];simp};{obtain rfl:r.data=d:=cZ aH;exact⟨A,rfl,rfl,am,i⟩}}}}}};{rw[xH hu l];exact⟨a,fun r hr=>VF hz (J5 hz b hu r hr),nF _ _,VG hz b hu,mx⟩}}
theorem pT(t:Int):∀(f:Nat) (first aa:Bool) (ans:List aj) (n:ah),gp n->n.length<=260->(∀b∈ans,uy rs b)->ans.length<=8->(∀b∈(jP o (aS rs) t f first aa ans n).2.2.1,uy rs b)/\(∀b∈(jP o (aS rs) t f first aa ans n).2.2.2,uy rs b)/\(jP o (aS rs) t f first aa ans n).2.2.1.length<=68/\(jP o (aS rs) t f first aa ans n).2.2.2.length<=60
 | 0,first,aa,ans,n,e,d,c,j=>by
  have a:=Bq hz e d t first aa ans c
  exact⟨a.TD,a.ai7,by have:=a.ai8;show(cC o (aS rs) t first aa ans n).2.2.1.length<=68;omega,a.ai9⟩
 | f+1,first,aa,ans,n,e,d,c,j=>by
  have a:=Bq hz e d t first aa ans c
  unfold jP;generalize cC o (aS rs) t first aa ans n=q at a
  obtain⟨w,l,i,u,p⟩:=q;cases p with
  | none=>exact⟨a.TD,a.ai7,by have:=a.ai8;simp only at this;show i.length<=68;omega,a.ai9⟩
  | some g =>{obtain⟨h,_,_,k,r⟩:=a.ai_ g rfl;simp only at k;exact pT t f false l i g (ed h).1 (aZ (ed h).2 ae) a.TD ae}
theorem VH{a:aj}(i:uy rs a)(c:ge a=true):∃aD b,aC 32 a.data=aD++[b]/\dq a.data=b/\dQ b=true/\a.data.length<=3000:=by obtain⟨⟨d,n,o,g⟩,_⟩:=i;have e:=hz.recs d n;have h:d.type=2\/d.type=15:=by{unfold ge at c;rw[o]at c;simpa using c};obtain⟨aD,b,j,k,l⟩:=Um e h;rw[g];exact⟨aD,b,j,k,l,e.len⟩
end
def lh(o:ah)(L:List aj)(t:Int)(n:ah):Option (Int×List aj×List aj) :=
 if t=5\/t=255 then some (gE o L n,gZ o L t n,h6 o L t n)else(dC o L 8 n).map (fun a=>(mS o L a.2,a.1++mo o L t a.2,mT o L t a.2))
section
variable {o:ah} {L:List aj} {t:Int}
theorem Br{first aa:Bool}{ans:List aj}{n:ah}(hu:dU n o=false):cC o L t first aa ans n=((if first then 5 else 0),aa,ans,[],none):=by unfold cC;rw[ay hu]
theorem xe{first aa:Bool}{ans:List aj}{n:ah}(hu:dU n o=true)(c:(t=5\/t=255)\/jl o L n=none):cC o L t first aa ans n=(gE o L n,(if(ca o L n).length=0 then true else aa || !first),ans++gZ o L t n,h6 o L t n,none):=by by_cases a:(ca o L n).length=0;{have d:(if t=5\/t=255 then none else jl o L n)=none:=by{rcases c with b|b;{rw[ay b]};{rw[b,ite_self]}};unfold cC;rw[ar (by simp[hu]),ar (by simp[a]),d,ay a]};{rw[xH hu a,ar a];unfold gE gZ h6;rw[ar a,ar a,ar a,eu]}
theorem oB{first aa:Bool}{ans:List aj}{n:ah}{e:Int}{c:Bool}{d a:List aj}(f:Nat)(b:cC o L t first aa ans n=(e,c,d,a,none)):jP o L t f first aa ans n=(e,c,d,a):=by
 cases f with
 | zero=>unfold jP;rw[b]
 | succ f=>unfold jP;rw[b]
theorem KA{first aa:Bool}{ans:List aj}{n a:ah}{g:Int}{b:Bool}{c d:List aj}(f:Nat)(e:cC o L t first aa ans n=(g,b,c,d,some a)):jP o L t (f+1) first aa ans n=jP o L t f false b c a:=by
 conv=>lhs;unfold jP
 rw[e]
theorem Bs{n:ah}{b:aj}(a:jl o L n=some b):ca o L n=[]:=df (AJ a).1
theorem VI(d:t≠5)(g:t≠255):∀(m:Nat) (ans:List aj) (n:ah),ans.length+m=8->dU n o=true ->
  jP o L t (m+1) false true ans n=match dC o L m n with
   | none=>(2,true,[],[])
   | some c=>(mS o L c.2,true,ans++(c.1++mo o L t c.2),mT o L t c.2):=by
 intro m;induction m with
 | zero =>{
 intro ans n i hu;cases a:jl o L n with
 | none =>{rw[oB 1 (xe hu (.inr a))];unfold dC;rw[a];simp[mS,mo,mT]}
 | some b =>{rw[oB 1 (xI hu (Bs a) a d g ae)];unfold dC;rw[a]}}
 | succ m j =>{
 intro ans n i hu;cases a:jl o L n with
 | none =>{rw[oB (m+2) (xe hu (.inr a))];unfold dC;rw[a];simp[mS,mo,mT]}
 | some b =>{
 rw[KA (m+1) (uc hu (Bs a) a d g ae)];have h:dC o L (m+1) n=if dU b.data o=true then(dC o L m b.data).map (fun c=>(b::c.1,c.2))else some ([b],none):=by{
 conv=>lhs;unfold dC
 rw[a]}
 rw[h];cases e:dU b.data o with
 | false =>{rw[oB (m+1) (Br e)];simp[mS,mo,mT]}
 | true =>{
 rw[j (ans++[b]) b.data aA e];simp only[gC];cases dC o L m b.data with
 | none=>rfl
 | some c=>simp}}}
theorem KB{n:ah}(hu:dU n o=true):jP o L t 9 true false [] n=match lh o L t n with
  | none=>(2,true,[],[])
  | some b=>(b.1,decide ((ca o L n).length=0),b.2.1,b.2.2):=by
 have i:(if(ca o L n).length=0 then true else(false || !true))=decide ((ca o L n).length=0):=by{by_cases c:(ca o L n).length=0<;>simp[c]};unfold lh;by_cases e:t=5\/t=255;{rw[oB 9 (xe hu (.inl e)),ay e,i];rfl};{
 rw[ar e];have g:t≠5:=fun c=>e (.inl c);have k:t≠255:=fun c=>e (.inr c);cases d:jl o L n with
 | none =>{
 rw[oB 9 (xe hu (.inr d)),i];have:dC o L 8 n=some ([],some n):=by unfold dC;rw[d]
 rw[this];simp[mS,mo,mT]}
 | some a =>{
 have h:=Bs d;rw[KA 8 (uc hu h d g k am),h];have l:dC o L 8 n=if dU a.data o=true then(dC o L 7 a.data).map (fun b=>(a::b.1,b.2))else some ([a],none):=by{
 conv=>lhs;unfold dC
 rw[d]}
 rw[l];cases j:dU a.data o with
 | false =>{rw[oB 8 (Br j)];simp[mS,mo,mT]}
 | true =>{
 rw[VI g k 7 ([]++[a]) a.data am j];simp only[gC];cases dC o L 7 a.data with
 | none=>rfl
 | some b=>simp}}}
section
variable {rs:List aj} (hz:kG o rs)
include hz
def si(rs ans:List aj):Prop:=∀b,ans.any (fun a=>a.owner==b&&a.type==1)=true->∀s∈cE rs b 1,s∈ans
theorem VJ{n:ah}(a:ff (aS rs) n=false)(e:Int):cE rs n e=[]:=by unfold cE;rw[i2];intro d c b;simp only[bW,dE]at b;rw[Bz rs (jR hz)]at a;have:jL rs (aY n)=true:=by{unfold jL;refine hM.2 ⟨d,c,?_⟩;rw[AN (jR hz d c).2.2,b.1];exact A2 n};rw[a]at this;cases this
theorem VK{n:ah}(c:gp n)(t:Int):fC t (cG (aS rs) n).1=[]\/fC t (cG (aS rs) n).1=cz rs n t\/(cE rs n 1=[]/\∀a∈fC t (cG (aS rs) n).1,a.owner=n):=by
 by_cases ht:ff (aS rs) n=true;{
 have:(cG (aS rs) n).1=cM (aS rs) n:=by unfold cG;rw[ay ht]
 rw[this,AQ rs n t (jR hz)];exact .inr (.inl rfl)};{
 have b:ff (aS rs) n=false:=yl
 rcases tW hz c t with h|⟨s,h⟩;{exact iG};{refine .inr (.inr ⟨VJ hz b 1,?_⟩);rw[h];intro a d;obtain⟨e,_,rfl⟩:=fz.1 d;rfl}}
omit hz in
theorem VL{n:ah}{t:Int}{d:aj}(b:d∈cz rs n t)(e:d.type=1):∀s∈cE rs n 1,s∈cz rs n t:=by
 intro s c;unfold cz at b ⊢;split at b;{rename_i a;rw[ay a];exact nu.2 ⟨1,am,c⟩};{
 rename_i a;rw[ar a];have:=(dg.1 b).2;simp only[bW,dE]at this;have g:t=1:=by rw[<- this.2,e]
 rw[g];exact c}
omit hz in
theorem VM{n:ah}{t:Int}{b:aj}(a:b∈cz rs n t):b.owner=n:=by unfold cz at a;split at a;{obtain⟨d,_,c⟩:=nu.1 a;have:=(dg.1 c).2;simp only[bW,dE]at this;exact this.1};{have:=(dg.1 a).2;simp only[bW,dE]at this;exact this.1}
theorem VN{g:List aj}{n:ah}(k:gp n)(t:Int)(o:∀p∈g,p.type=5):si rs (g++fC t (cG (aS rs) n).1):=by intro q l s d;obtain⟨e,j,b⟩:=hM.1 l;simp only[bW,dE]at b;rcases dv.1 j with a|a;{have:=o e a;rw[this]at b;exact absurd b.2 ba};{refine zI _ ?_;rcases VK hz k t with c|c|⟨h,i⟩;{rw[c]at a;cases a};{rw[c]at a ⊢;have:=VM a;rw[b.1]at this;subst this;exact VL a b.2 s d};{have:=i e a;rw[b.1]at this;subst this;rw[h]at d;cases d}}
omit hz in
theorem Bt{b:List aj}(g:∀h∈b,h.type=5):si rs b:=by intro j e s i;obtain⟨c,d,a⟩:=hM.1 e;simp only[bW,dE]at a;have:=g c d;rw[this]at a;exact absurd a.2 ba
theorem KC{ls:List aj}{n:ah}(b:gp n)(t:Int)(a:∀c∈ls,c.type=5):si rs (ls++gZ o (aS rs) t n):=by unfold gZ;split;{split;{exact VN hz b t a};{rw[eu];exact Bt a}};{rw[eu];exact Bt a}
theorem VO:∀(m:Nat) (n:ah) (g:List aj×Option ah),gp n->dC o (aS rs) m n=some g->(∀b∈g.1,b.type=5)/\∀f,g.2=some f->gp f:=by
 intro m;induction m with
 | zero =>{
 intro n g h a;unfold dC at a;cases c:jl o (aS rs) n with
 | none=>rw[c]at a;obtain rfl:=cZ a;exact⟨fun b k=>(by cases k),fun f e=>by obtain rfl:=cZ e;exact h⟩
 | some b=>rw[c]at a;cases a}
 | succ m t =>{
 intro n g h a;unfold dC at a;cases c:jl o (aS rs) n with
 | none=>rw[c]at a;obtain rfl:=cZ a;exact⟨fun b k=>(by cases k),fun f e=>by obtain rfl:=cZ e;exact h⟩
 | some b =>{
 rw[c]at a;obtain⟨y,_,p,q,r⟩:=xb hz h c;have l:b.type=5:=by rw[p];exact q
 simp only at a;split at a;{
 cases j:dC o (aS rs) m b.data with
 | none=>rw[j]at a;cases a
 | some x =>{rw[j]at a;obtain rfl:=cZ a;obtain⟨u,w⟩:=t b.data x (ed r).1 j;exact⟨fun i d=>by rcases co.1 d with rfl|d;exact l;exact u i d,w⟩}};{obtain rfl:=cZ a;exact⟨fun i d=>by rw[show i=b by simpa using d];exact l,fun f e=>by cases e⟩}}}
theorem VP{n:ah}(c:gp n)(t:Int)(e:Int×List aj×List aj)(a:lh o (aS rs) t n=some e):si rs e.2.1:=by
 unfold lh at a;split at a;{obtain rfl:=cZ a;have:=KC hz (ls:=[]) c t (fun k i=>by cases i);rw[dJ]at this;exact this};{
 cases b:dC o (aS rs) 8 n with
 | none=>rw[b]at a;cases a
 | some g =>{
 rw[b]at a;obtain rfl:=cZ a;obtain⟨d,j⟩:=VO hz 8 n g c b;obtain⟨ls,h⟩:=g;cases h with
 | none =>{show si rs (ls++[]);rw[eu];exact Bt d}
 | some f=>exact KC hz (j f rfl) t d}}
omit hz in
theorem VQ{ans:List aj}(l:si rs ans)(i:List aj):hU (aS rs) ans i=fx rs ans i:=by
 have p:∀s a,lw (aS rs) ans s a=iY rs ans s a:=by{
 intro s a;unfold lw iY;cases q:ge a with
 | false=>simp
 | true =>{
 cases c:s.1.contains (dq a.data)with
 | true=>simp
 | false =>{
 simp only[uT,uS,gC];rw[rF];congr 1;generalize dq a.data=d;by_cases e:ans.any (fun b=>b.owner==d&&b.type==1)=true;{rw[ay e];have:(cE rs d 1).filter (fun b=>!ans.any (b == ·))=[]:=by{rw[i2];intro s g c;have o:=l d e s g;have:ans.any (s == ·)=true:=hM.2 ⟨s,o,am⟩;rw[this]at c;cases c};rw[this,eu]};{
 rw[ar e];have:(cE rs d 1).filter (fun b=>!ans.any (b == ·))=cE rs d 1:=by{
 rw[nP];intro s g;rw[lS,<- iU];intro c;obtain⟨h,n,j⟩:=hM.1 c;have k:s=h:=by simpa using j
 have:=(dg.1 g).2;exact e (hM.2 ⟨h,n,by rw[<- k];exact this⟩)};rw[this]}}}};unfold hU fx;congr 1;funext s a;exact p s a
end
end
end Go.Proofs.YtkkpahmoljiepaaGreatDoor
