import Derived.Test.YtddbjcfdmdbmkaaGreatDoorB38
set_option linter.all false
set_option maxRecDepth 100000
set_option maxHeartbeats 3200000
namespace Go.Proofs.YtddbjcfdmdbmkaaGreatDoor
open Go.RowKit Go.Proofs.Tryz
open Go renaming Calls->aR,Value->an,World->aq
open Go.Ending renaming returned->aM
open Go.IntKind renaming i64->Q
open Go.Obj renaming cells->aw
open Go.RowKit renaming Below->aF,Hid->ag
open Go.Value renaming bool->cK,int->O,pointer->aD,slice->U,string->az,tuple->b2,ownBlock->ap
open _root_.Array renaming size->S
open Go.World renaming alloc->ar,cell?->aK,drew->cb,drewN->bY,grownBy->b_,heap->R,ownsRow->aY,setCell->ay
open List renaming length->M
variable{gF c q:Nat->Nat}{gE L j o r:aq}{k u z Y ah J gj N w:Nat}{a:List kB}{B D G H I A:an}{E F:List an}{K gf:List Int}{d:kB}{gC:List be}{x:List es}{b:kF}{y:it}{gg:List (List aB)}
structure kJ (Qr:Nat->Nat) (pS:aq) (f8:Nat) (pL:List kB) (fk:Nat) (jj:an) (n:Nat) (jo he fQ f1:an) (bH:List an) (rD:List Int) (ct:List an) (dR:List Int) (Y:Nat) (aG:kB) (e6:Nat->Prop) (ah:Nat) (ad:List be) (a6:an) (iy:List es) (ab:Nat->Nat) (L:aq):Prop where
 aQ:ft ab L f8 jj n jo he fQ f1 bH rD ct dR
 hj:iB ab L bH rD
 hl:iq ab L ct dR
 eC:gh ab L 10 153 jj (pL.map λaG=>aD (some ⟨aG.d0,0,none⟩))
 kX:∀dV,(h:dV<pL.length)->dV≠Y->mS ab L dV pL[dV]
 ax:aL L aG.d0 #[aD (some ⟨aG.ny,0,none⟩),aD (some ⟨aG.b3,0,none⟩),O Q aG.aS] 152
 nn:ab aG.d0=20+3*Y
 cr:gO e6 L aG.ny aG.e8 ah aG.aE ad
 nY:∀X,e6 X->ab X=21+3*Y
 bg:gh ab L 7 48 a6 (iy.map (·.1))
 ju:ol ab L iy 0
 bM:bt (λaE=>aE≠0) Qr pS ab L
 iX:ab pS.heap.size=0/\pS.heap.size<L.heap.size
theorem kJ.i{m:Nat->Prop}(h:kJ gF gE k a u B z D G H I E K F gf Y d m ah gC A x c L){l:Nat->Prop}(hF:bt l c L q j)(p:∀b,l b->b=22+3*Y):kJ gF gE k a u B z D G H I E K F gf Y d m ah gC A x q j:=by
 have g:∀b,b≠22+3*Y->¬l b:=λb t v=>t (p b v)
 obtain⟨w,y⟩:=hF.ci d.d0 h.ax.am (by rw[h.nn];exact g _ T);have r:∀e,m e->q e=c e/\(R j)[e]?=(R L)[e]?:=λe f=>hF.ci e (h.cr.am e f) (by rw[h.nY e f];exact g _ T)
 have C:bv (λe=>¬m e) L j:=⟨hF.dR,hF.hq,hF.ho,hF.b5,λe f=>(r e (Ct λY=>f.2 Y)).2⟩;have o:∀b,b<=19->¬l b:=λb gj=>g b T
 have s:¬l 6:=o 6 ak;refine⟨?_,h.hj.bM hF s,h.hl.bM hF s,h.eC.bM hF (o 10 ak),λJ P gg=>(h.kX J P gg).bM hF ⟨g _ T,g _ T,g _ T⟩,h.ax.d y,w.trans h.nn,h.cr.i C (λe f=>f),λe f=>(r e f).1.trans (h.nY e f),h.bg.bM hF (o 7 ak),h.ju.bM hF (o 8 ak),h.bM.trans (hF.cE λb Y=>by have:=p b Y;omega),(hF.ci _ h.iX.2 (by rw[h.iX.1];exact g 0 T)).1.trans h.iX.1,cI h.iX.2 hF.b5⟩;exact h.aQ.bM hF (λb Y=>.inl (by have:=p b Y;omega))
theorem pV.BE(h:pV c L k a u B z D G H I E K F gf)(g1:Y<M a)(m:aF (S (R L)) L gE)(C:S (R L)<S (R gE)){p:Nat->Prop}{J:Nat}{P:List be}{gg:Nat}(q:et gg o A x)(j4:S (R gE)<=gg)(gj:∀d,(ap A=some d\/∃i∈x,ap i.1=some d)->¬p d)(hu:∀d,p d->a[Y].e6 d\/S (R gE)<=d)(r:bv a[Y].e6 gE o)(hE:gO p o a[Y].ny a[Y].e8 J a[Y].aE P):
 ∃j,kJ c L k a u B z D G H I E K F gf Y a[Y] p J P A x j o/\hM a[Y].lB o a[Y].b3 a[Y].e8 a[Y].ah a[Y].aE a[Y].ad/\(∀d,a[Y].lB d->j d=22+3*Y/\d<S (R o))/\tQ x:=by
 have g:=h.kX Y g1;generalize t:(λd=>open Classical in if d<S (R gE)then(if d<S (R L)then c d else 0)else if p d then 21+3*Y else if(ap A)=some d then 7 else if∃i∈x,ap i.1=some d then 8 else 0:Nat->Nat)=j;have gC:∀d,d<S (R L)->j d=c d:=λd f=>by rw[<-t];simp only;rw[aP (cI f m.size),aP f]
 have hS:∀d,S (R gE)<=d->p d->j d=21+3*Y:=λd f hV=>by rw[<-t];simp only;rw[aH T,aP hV]
 have hZ:∀d,ap A=some d->j d=7:=λd f=>by have:=(q.bg.lt d f).1;rw[<-t];simp only;rw[aH T,aH (gj d (.inl f)),aP f]
 have ih:∀i∈x,∀d,ap i.1=some d->j d=8:=λi v d f=>by have:=((q.fP i v).lt d f).1;rw[<-t];simp only;rw[aH T,aH (gj d (.inr ⟨i,v,f⟩)),aH (λY=>q.gV i v d Y f),aP ⟨i,v,f⟩]
 have hF:bt (λb=>b=21+3*Y) c L j o:=by refine⟨r.dR.trans m.os,r.hq.trans m.tape,r.ho.trans m.output,bS m.size r.b5,λd f l=>⟨gC d f,?_⟩⟩;rw[r.o d (cI f m.size) (λY=>l (g.nY d Y))];exact m.block d f
 have l:∀b,b≠21+3*Y->¬(λb=>b=21+3*Y) b:=λb iR iU=>iR iU
 have gF:¬(λb=>b=21+3*Y) 6:=l 6 T;obtain⟨iZ,i0⟩:=hF.ci a[Y].d0 g.ax.am (by rw[g.nn];exact l _ T);have gL:∀d,a[Y].lB d->j d=c d/\(R o)[d]?=(R L)[d]?:=λd f=>hF.ci d (g.m6 d f).2 (by rw[(g.m6 d f).1];exact l _ T)
 refine⟨j,⟨h.aQ.bM hF (λb Y=>.inl (by subst Y;omega)),h.hj.bM hF gF,h.hl.bM hF gF,h.eC.bM hF (l 10 T),λy s j9=>(h.kX y s).bM hF ⟨l _ T,l _ T,l _ T⟩,g.ax.d i0,iZ.trans g.nn,hE,λd f=>?_,⟨by rw[c_];exact qe q.bg (bL _),hZ⟩,λy _ s=>⟨qe (q.fP _ (b4 s)) (bL _),ih _ (b4 s)⟩,hF.cE λb Y=>by subst Y;omega,by rw[<-t];simp only;rw[aP C,aH (Nat.lt_irrefl _)],cI C r.b5⟩,g.i9.i (λd f _=>(gL d f).2),λd f=>⟨(gL d f).1.trans (g.m6 d f).1,cI (g.m6 d f).2 hF.b5⟩,?_⟩
 ·rcases vC d (S (R gE))with kp|i1
  ·rcases hu d f with e|e
   ·rw[gC d (g.cr.am d e)];exact g.nY d e
   ·omega
  ·exact hS d i1 f
 ·intro w y i2 s jt N jW;exact(OC.1 q.oO) w y i2 s jt N jW
theorem kJ.i9{m:Nat->Prop}(h:kJ gF gE k a u B z D G H I E K F gf Y d m ah gC A x c L){l o:Nat->Prop}(p:∀f,l f->c f=22+3*Y/\f<S (R L))(q:∀N,o N->(l N\/S (R L)<=N)/\N<S (R r))(g:bv l L r):
 ∃s,kJ gF gE k a u B z D G H I E K F gf Y d m ah gC A x s r/\(∀f,o f->s f=22+3*Y/\f<S (R r)):=by
 have hF:bt (λb=>b=22+3*Y) c L (λf=>if f<S (R L)then c f else 22+3*Y) r:=by refine⟨g.dR,g.hq,g.ho,g.b5,λf j v=>⟨aP j,g.o f j (λY=>v (p f Y).1)⟩⟩
 refine⟨_,h.i hF (λb Y=>Y),λf j=>⟨?_,(q f j).2⟩⟩;show(if f<S (R L)then c f else 22+3*Y)=22+3*Y;by_cases t:f<S (R L)
 ·rw[aP t];rcases(q f j).1 with e|e
  ·exact(p f e).1
  ·omega
 ·rw[aH t]
theorem Bu(z:Int)(L:aq):aR prog 40 #[O Q z] L λe j=>e=aM (O Q z)/\j=L:=by go_enter func40,ntmps40;go_wp2;go_ret;exact⟨rfl,rfl⟩
theorem kJ.dQ{b:Nat->Prop}(h:kJ gF gE k a u B z D G H I E K F gf Y d b ah gC A x c L):pO L A (x.map (·.2)):=by refine pO.CS (dH:=0) (by have:=h.bg.bg;rw[c_]at this;exact this) (λj e=>?_);obtain⟨f,g,rfl⟩:=iW e;exact⟨0,(h.ju f (bL _) g).1⟩
theorem kJ.db{m:Nat->Prop}(h:kJ gF gE k a u B z D G H I E K F gf Y d m ah gC A x c L){o:Nat->Prop}(t:hM o L d.b3 d.e8 ah d.aE gC)(p:∀e,o e->c e=22+3*Y/\e<S (R L))(hF:bt gN c L q j):
 gh q j 10 153 B (a.map λd=>aD (some ⟨d.d0,0,none⟩))/\(∀l,(h:l<M a)->l≠Y->mS q j l a[l])/\aL j d.d0 #[aD (some ⟨d.ny,0,none⟩),aD (some ⟨d.b3,0,none⟩),O Q d.aS] 152/\q d.d0=20+3*Y/\gO m j d.ny d.e8 ah d.aE gC/\(∀e,m e->q e=21+3*Y)/\hM o j d.b3 d.e8 ah d.aE gC/\(∀e,o e->q e=22+3*Y/\e<S (R j)):=by
 have g:∀b,10<=b->¬gN b:=λb gg v=>by unfold gN at v;omega
 obtain⟨w,y⟩:=hF.ci d.d0 h.ax.am (by rw[h.nn];exact g _ T);have r:∀e,m e->q e=c e/\(R j)[e]?=(R L)[e]?:=λe f=>hF.ci e (h.cr.am e f) (by rw[h.nY e f];exact g _ T)
 have s:∀e,o e->q e=c e/\(R j)[e]?=(R L)[e]?:=λe f=>hF.ci e (p e f).2 (by rw[(p e f).1];exact g _ T)
 have C:bv (λe=>¬m e) L j:=⟨hF.dR,hF.hq,hF.ho,hF.b5,λe f=>(r e (Ct λY=>f.2 Y)).2⟩;exact⟨h.eC.bM hF (g 10 ak),λl J P=>(h.kX l J P).bM hF ⟨g _ T,g _ T,g _ T⟩,h.ax.d y,w.trans h.nn,h.cr.i C (λe f=>f),λe f=>(r e f).1.trans (h.nY e f),t.i (λe f _=>(s e f).2),λe f=>⟨(s e f).1.trans (p e f).1,cI (p e f).2 hF.b5⟩⟩
theorem hM.fV{m:Nat->Prop}(h:hM m L J gj ah b gC){o:Nat}{p:List (Nat×List Nat)}(c:g9 b gC o p){a:List (List Nat)}(j:h8 a)(q:∀d∈a,mv (cS b.cm) b.bF gC d):M a<=100000/\∀d∈a,M d<=1000000:=by
 obtain⟨r,u,v,w,k,s,x,y,f,_⟩:=h;have l:∀d∈a,d∈gr k (gG k) gC s:=λd g=>(f.ld c.cE d).2 (q d g)
 refine⟨bS (tS a _ ?_ l) (f.tp c.bF c.aZ),λd g=>(DC f.a8 (l d g)).1⟩;unfold h8 at j;exact j.imp (λ{z r} t e=>by subst e;exact q3 _ t)
theorem mS.SY(h:mS c L Y d)(e:Int)(g:c1 e):mS c (ay L ⟨d.d0,2,none⟩ (O Q e)) Y {d with aS:=e}:=by
 have i:¬d.e6 d.d0:=λa=>by have:=h.nY _ a;rw[h.nn]at this;omega
 have j:¬d.lB d.d0:=λa=>by have:=(h.m6 _ a).1;rw[h.nn]at this;omega
 have k:bv (λb=>b=d.d0) L (ay L ⟨d.d0,2,none⟩ (O Q e)):=(bv.l (λb=>b=d.d0) L).v (ai:=⟨d.d0,2,none⟩) (.inl rfl) _;exact⟨by simpa using h.ax.j 2 (O Q e),h.nn,h.cr.i k (λb f a=>i (f▸a)),h.nY,h.i9.i (λN l _=>gw _ _ _ _ (λa=>j ((show N=d.d0 from a)▸l))),λb f=>⟨(h.m6 b f).1,by simp[ay];exact(h.m6 b f).2⟩,h.nZ,g⟩
theorem DP{f:Nat->Nat}{i o:aq}(h:pV gF gE k a u B z D G H I E K F gf)(C:u+1<=2000000)(hZ:Y<M a){j:kB}(J:j.d0=a[Y].d0){p:Nat}{t v x y:an}{l:List an}{q:List Int}{m:List an}{r:List Int}(P:ft f i k B p t v x y l q m r)(gg:iB f i l q)(gj:iq f i m r)(gC:gh f i 10 153 B (a.map λd=>aD (some ⟨d.d0,0,none⟩)))(gL:∀g,(h:g<M a)->g≠Y->mS f i g a[g])(hF:bt (λb=>b=20+3*Y) f i f o)(g1:mS f o Y j)(hu:M j.ad<=u+1)(fo:M l<=M E+400000)(dt:M m<=M F+4)(ih:p<=z+100001):dx f o k (a.set Y j) (u+1):=by
 have s:∀b,b<=19->¬(λb=>b=20+3*Y) b:=λb iR hE=>by simp only at hE;omega
 have hS:((a.set Y j).map λd=>aD (some ⟨d.d0,0,none⟩))=a.map λd=>aD (some ⟨d.d0,0,none⟩):=by
  rw[List.map_set];refine xm av (λw iU iZ=>?_);rw[List.getElem_set];split
  ·next e=>subst e;rw[yz,J]
  ·rfl
 refine⟨B,p,t,v,x,y,l,q,m,r,⟨P.bM hF (λb e=>.inl (by subst e;omega)),gg.bM hF (s 6 ak),gj.bM hF (s 6 ak),by rw[hS];exact gC.bM hF (s 10 ak),λg A=>?_,by rw[qJ];have:=h.mC;omega,λd hV=>?_,by have:=h.qN;omega,by have:=h.q8;omega,by have:=h.rC;omega,C⟩⟩
 ·rw[qJ]at A;rw[List.getElem_set];split
  ·next e=>subst e;exact g1
  ·next e=>exact(gL g A (λc=>e c.symm)).bM hF ⟨λc=>by have c:20+3*g=20+3*Y:=c;omega,λc=>by have c:21+3*g=20+3*Y:=c;omega,λc=>by have c:22+3*g=20+3*Y:=c;omega⟩
 ·rcases GL hV with c|c
  ·have:=h.j7 d c;omega
  ·rw[c];exact hu
theorem CA(h:pV c L k a u B z D G H I E K F gf)(xr:u+1<=2000000)(hZ:Y<M a)(e:be)(pU:c1 e.aS):
 aR prog 70 #[aD (some ⟨k,0,none⟩),aD (some ⟨a[Y].d0,0,none⟩),e4 e] L λl j=>l=aM (cK true)/\∃q f i,dx q j k (a.set Y (a[Y].iF e f i)) (u+1)/\bt (λb=>b≠0) c L q j:=by
 have p:=h.kX Y hZ;have hE:aF (S (R L)) L (ar L (aw (fM e) 44)):=(ca _ L).alloc (aN _) _;have gg:=aL.bT L (fM e) 44;have ys:M a[Y].ad<=100000000:=by have:=h.j7 _ (b4 hZ);omega
 have mn:∀y,aF (S (R L)) L y->gO a[Y].e6 y a[Y].ny a[Y].e8 a[Y].ah a[Y].aE a[Y].ad:=λy iZ=>p.cr.i (bv.bI (λ_=>False) iZ) (λ_ Y=>Y.elim)
 have BH:=p.ax.am;unfold e4;have i0:=λy iZ=>OQ (mn y iZ) p.nZ ys e pU
 unfold e4 at i0;unfold fM at hE gg;go_enter func70,ntmps70;go_upto_region 1 with fail;generalize(ar L (aw #[O Q e.aS,O Q e.ao,O Q e.bj,O Q e.X,O Q e.aE] 44))=yC at*;have mO:=p.ax.d (hE.block _ BH);have BN:=mO.aa 0;have BP:=gg.aa 0;have BV:=gg.aa 1;have Cs:=gg.aa 2;have Cz:=gg.aa 3;have CS:=gg.aa 4;have Mc:=mO.am;have Mj:=gg.am;simp at BN BP BV Cs Cz CS
 go_cut [7,8]from 13 (λDM D7 gj=>∃(A:an) (x:List es) (s:Nat->Nat) (f:Nat->Prop),DM=A/\D7=O Q (eh a[Y].ah a[Y].aE a[Y].ad e:Nat)/\kJ c L k a u B z D G H I E K F gf Y a[Y] f (eh a[Y].ah a[Y].aE a[Y].ad e) (gv a[Y].ah a[Y].aE a[Y].ad e) A x s gj/\hM a[Y].lB gj a[Y].b3 a[Y].e8 a[Y].ah a[Y].aE a[Y].ad/\(∀g,a[Y].lB g->s g=22+3*Y/\g<S (R gj))/\tQ x/\h8 (x.map (·.2))/\(∀d,d∈x.map (·.2)↔eh a[Y].ah a[Y].aE a[Y].ad e=0/\mv (cS a[Y].aE.cm) a[Y].aE.bF (a[Y].ad++[e]) d)/\aL gj (S (R L)) #[O Q e.aS,O Q e.ao,O Q e.bj,O Q e.X,O Q e.aE] 44)
 case first=>
  have y2:ag (∀(y o:aq),aF (S (R L)) L y->aL y (S (R L)) #[O Q e.aS,O Q e.ao,O Q e.bj,O Q e.X,O Q e.aE] 44->∀(A:an) (x:List es) (i1:Nat) (f:Nat->Prop),et i1 o A x->S (R y)<=i1->(∀g,(ap A=some g\/∃J∈x,ap J.1=some g)->¬f g)->(∀g,f g->a[Y].e6 g\/S (R y)<=g)->bv a[Y].e6 y o->gO f o a[Y].ny a[Y].e8 (eh a[Y].ah a[Y].aE a[Y].ad e) a[Y].aE (gv a[Y].ah a[Y].aE a[Y].ad e)->(∃s,kJ c L k a u B z D G H I E K F gf Y a[Y] f (eh a[Y].ah a[Y].aE a[Y].ad e) (gv a[Y].ah a[Y].aE a[Y].ad e) A x s o/\hM a[Y].lB o a[Y].b3 a[Y].e8 a[Y].ah a[Y].aE a[Y].ad/\(∀g,a[Y].lB g->s g=22+3*Y/\g<S (R o))/\tQ x)/\aL o (S (R L)) #[O Q e.aS,O Q e.ao,O Q e.bj,O Q e.X,O Q e.aE] 44):=λy o iZ t A x i1 f pX gF gL g1 i2 mR=>⟨h.BE hZ iZ t.am pX gF gL g1 i2 mR,t.d (i2.o _ t.am (λpZ=>by have:=p.cr.am _ pZ;omega))⟩
  have mY:∀hu,aR prog 27 #[aD (some ⟨a[Y].ny,0,none⟩),.agg #[O Q e.aS,O Q e.ao,O Q e.bj,O Q e.X,O Q e.aE]] (bY yC hu) λl o=>∃(A:an) (x:List es) (s:Nat->Nat) (f:Nat->Prop),l=aM (b2 #[A,O Q (eh a[Y].ah a[Y].aE a[Y].ad e:Nat)])/\kJ c L k a u B z D G H I E K F gf Y a[Y] f (eh a[Y].ah a[Y].aE a[Y].ad e) (gv a[Y].ah a[Y].aE a[Y].ad e) A x s o/\hM a[Y].lB o a[Y].b3 a[Y].e8 a[Y].ah a[Y].aE a[Y].ad/\(∀g,a[Y].lB g->s g=22+3*Y/\g<S (R o))/\tQ x/\h8 (x.map (·.2))/\(∀d,d∈x.map (·.2)↔eh a[Y].ah a[Y].aE a[Y].ad e=0/\mv (cS a[Y].aE.cm) a[Y].aE.bF (a[Y].ad++[e]) d)/\aL o (S (R L)) #[O Q e.aS,O Q e.ao,O Q e.bj,O Q e.X,O Q e.aE] 44:=λhu=>by have y5:aF (S (R L)) L (bY yC hu):=⟨hE.os,hE.tape,hE.output,hE.size,hE.block⟩;refine(i0 _ y5).mono ?_;rintro l o ⟨A,x,i1,f,rfl,qp,qt,m5,qP,qW,ne,ra,D9⟩;obtain⟨⟨s,jt,jW,j4,j9⟩,kp⟩:=y2.out _ o y5 gg A x i1 f qp qt m5 ne ra D9;exact⟨A,x,s,f,rfl,jt,jW,j4,j9,qP,qW,kp⟩
  clear i0 mn y2 p h;go_region_law (first|(go_simp;refine(mY 1).mono ?_;rintro l o ⟨A,x,s,f,rfl,jt,jW,j4,j9,kp,El,ET⟩;show _;dsimp only))
  all_goals
   go_wp2
   go_meet
   exact⟨A,x,s,f,rfl,rfl,jt,jW,j4,j9,kp,El,ET⟩
 case rest=>
  obtain⟨A,x,s,f,zc,rfl,ih,rA,nB,Fi,zS,rR,t⟩:=hcut;have FM:=zc.symm;subst FM;clear zc;obtain⟨Mk,My,sY,_⟩:=p.cr.rA;obtain⟨F2,F4,tB,MA⟩:=ih.cr.rA;have MC:=p.nZ.c9;have z_:eh a[Y].ah a[Y].aE a[Y].ad e=0->gv a[Y].ah a[Y].aE a[Y].ad e=a[Y].ad++[e]:=λv=>by unfold gv;rw[aP v]
  have mY:∀hu,aR prog 102 #[aD (some ⟨a[Y].b3,0,none⟩),.agg #[O Q e.aS,O Q e.ao,O Q e.bj,O Q e.X,O Q e.aE]] (bY wc hu) λl r=>∃(gC:an) (w:Nat->Nat) (i:Nat->Prop),l=aM (b2 #[gC,O Q (eh a[Y].ah a[Y].aE a[Y].ad e:Nat)])/\kJ c L k a u B z D G H I E K F gf Y a[Y] f (eh a[Y].ah a[Y].aE a[Y].ad e) (gv a[Y].ah a[Y].aE a[Y].ad e) A x w r/\hM i r a[Y].b3 a[Y].e8 (eh a[Y].ah a[Y].aE a[Y].ad e) a[Y].aE (gv a[Y].ah a[Y].aE a[Y].ad e)/\(∀g,i g->w g=22+3*Y/\g<S (R r))/\pO r gC (x.map (·.2))/\aL r (S (R L)) #[O Q e.aS,O Q e.ao,O Q e.bj,O Q e.X,O Q e.aE] 44:=λhu=>by have tI:bt (λ_=>False) s wc s (bY wc hu):=⟨rfl,rfl,rfl,aN _,λ_ _ _=>⟨rfl,rfl⟩⟩;have Ga:=ih.i tI (λb v=>v.elim);have Ai:=MP (rA.i (aI:=bY wc hu) (λ_ _ _=>rfl)) (λN Gl=>(nB N Gl).2) sY.cE sY.h2 ys e pU (λv=>⟨F2,F4,by rw[<-z_ v];exact tB,T⟩);unfold e4 at Ai;refine Ai.mono ?_;rintro l r ⟨gC,Gx,i,rfl,qp,qt,m5,qP,qW,ne,ra⟩;obtain⟨w,gE,kr⟩:=Ga.i9 nB qW ne;have kx:Gx.map (·.2)=x.map (·.2):=PZ m5 zS (λd=>(qP d).trans (rR d).symm);refine⟨gC,w,i,rfl,gE,ra,kr,by rw[<-kx];exact pO.CS qp (λJ hS=>⟨_,qt J hS⟩),t.d (ne.o _ t.am (λpZ=>by have:=(p.m6 _ pZ).2;omega))⟩
  have nG:=ih.ax;have Hp:=nG.aa 1;have u0:=t.aa 0;have HY:=t.aa 1;have H_:=t.aa 2;have J3:=t.aa 3;have Ko:=t.aa 4;have MD:=nG.am;have MT:=t.am;simp at Hp u0 HY H_ J3 Ko;obtain⟨Ak,Aq,Az⟩:=eK ih.bg.bg;rw[c_]at Az;subst Az;go_upto_region 2 with fail
  go_cut [9,10]from 22 (λKp ah gj=>∃(gC:an) (w:Nat->Nat) (i:Nat->Prop),Kp=gC/\ah=O Q (eh a[Y].ah a[Y].aE a[Y].ad e:Nat)/\kJ c L k a u B z D G H I E K F gf Y a[Y] f (eh a[Y].ah a[Y].aE a[Y].ad e) (gv a[Y].ah a[Y].aE a[Y].ad e) (U Ak (M x) Aq) x w gj/\hM i gj a[Y].b3 a[Y].e8 (eh a[Y].ah a[Y].aE a[Y].ad e) a[Y].aE (gv a[Y].ah a[Y].aE a[Y].ad e)/\(∀g,i g->w g=22+3*Y/\g<S (R gj))/\pO gj gC (x.map (·.2))/\aL gj (S (R L)) #[O Q e.aS,O Q e.ao,O Q e.bj,O Q e.X,O Q e.aE] 44)
  case first=>
   clear ih rA nB p h t nG i0 mn gg mO sY tB;go_region_law (first|(go_simp;refine(mY 1).mono ?_;rintro l r ⟨gC,w,i,rfl,jt,jW,j4,j9,kp⟩;show _;dsimp only))
   all_goals
    go_wp2
    go_meet
    exact⟨gC,w,i,rfl,rfl,jt,jW,j4,j9,kp⟩
  case rest=>
   obtain⟨gC,w,i,AE,rfl,gE,oa,kr,t8,ub⟩:=hcut;have Kz:=AE.symm;subst Kz;clear AE;have k1:M x<=100000/\∀J∈x,M J.2<=1000000:=by
    by_cases hV:eh a[Y].ah a[Y].aE a[Y].ad e=0
    ·have AV:=oa.fV tB zS (λd KJ=>by rw[z_ hV];exact((rR d).1 KJ).2);refine⟨by have:=AV.1;rwa [c_]at this,λJ hS=>AV.2 _ (eG.2 ⟨J,hS,rfl⟩)⟩
    ·have K4:x=[]:=by
      cases x with
      |nil=>rfl
      |cons J x=>exact absurd ((rR J.2).1 av).1 hV
     subst K4;exact⟨av,λJ hS=>by simp at hS⟩
   have kx:=Pc gE.dQ t8 (by rw[c_];unfold maxLen;have:=k1.1;omega) (λJ hS=>by
    obtain⟨K8,hV,rfl⟩:=eG.1 hS
    have:=k1.2 K8 hV
    unfold maxLen
    omega)
   have M1:=h.qN;have M9:=h.q8;have Nt:=h.rC;have ug:∀v,aR prog 104 #[aD (some ⟨k,0,none⟩),U Ak (M x) Aq] (bY wc v) λl C=>l=aM (b2 #[])/\∃(m:Nat->Nat) (ob oH oS o6:an) (iR:List an) (k7:List Int) (iU:List an) (lo:List Int),ft m C k B (z+M x+1) ob oH oS o6 iR k7 iU lo/\iB m C iR k7/\iq m C iU lo/\M iR=M E+4*M x/\M iU=M F+4/\bt gN w wc m C:=λv=>by have tI:bt (λ_=>False) w wc w (bY wc v):=⟨rfl,rfl,rfl,aN _,λ_ _ _=>⟨rfl,rfl⟩⟩;have l8:=gE.i tI (λb v=>v.elim);refine(N8 l8.aQ l8.hj l8.hl l8.bg l8.ju Fi k1.1 k1.2 T T T).mono ?_;rintro l C ⟨pX,m,ob,oH,oS,o6,iR,k7,iU,lo,gF,gL,g1,i2,mR,P⟩;exact⟨pX,m,ob,oH,oS,o6,iR,k7,iU,lo,gF,gL,g1,i2,mR,⟨P.dR,P.hq,P.ho,P.b5,P.ci⟩⟩
   have Lp:=λL=>Bu (eh a[Y].ah a[Y].aE a[Y].ad e:Nat) L
   clear mY i0 mn gg mO ih rA nB t nG;go_upto_region 6 with(first|(go_at_call 40;refine(Lp _).mono ?_;rintro l Ls ⟨rfl,rfl⟩)|(go_at_call 103;refine kx.mono ?_;rintro l Ls ⟨rfl,m5,LB⟩;subst LB)|(go_at_call 104;refine(ug _).mono ?_;rintro l C ⟨rfl,m,ob,oH,oS,o6,iR,k7,iU,lo,gF,gL,g1,i2,mR,P⟩))
   obtain⟨pa,py,pF,uY,vE,wz,wB,xf⟩:=gE.db oa kr P;have AW:=ub.d (P.ci _ gE.iX.2 (by rw[gE.iX.1];unfold gN;omega)).2;have Bg:bt (λb=>b≠0) c L m C:=gE.bM.trans (P.cE λb v=>by unfold gN at v;omega);have pR:∀l,c1 l->l=a[Y].aS->mS m C Y {a[Y].iF e f i with aS:=l}:=λl LI LL=>⟨by rw[LL];exact pF,uY,vE,wz,wB,xf,p.nZ,LI⟩
   have Bo:M (gv a[Y].ah a[Y].aE a[Y].ad e)<=u+1:=by have:=Sv a[Y].ah a[Y].aE a[Y].ad e;have:=h.j7 _ (b4 hZ);omega
   have NF:=k1.1;have LQ:=pF.aa 2;have NR:=pF.b 2;have OD:=pF.am;have LU:=AW.aa 0;have OF:=AW.am;simp at LQ LU;by_cases hV:eh a[Y].ah a[Y].aE a[Y].ad e=0
   ·have Bt:(eh a[Y].ah a[Y].aE a[Y].ad e:Int)=0:=by omega
    have BE:=(pR _ p.h2 rfl).SY e.aS pU;have xk:a[Y].iF e f i={a[Y].iF e f i with aS:=e.aS}:=by unfold kB.iF;simp[hV]
    have me:ag (dx m (ay C ⟨a[Y].d0,2,none⟩ (O Q e.aS)) k (a.set Y (a[Y].iF e f i)) (u+1)/\bt (λb=>b≠0) c L m (ay C ⟨a[Y].d0,2,none⟩ (O Q e.aS))):=⟨DP h xr hZ rfl gF gL g1 pa py (bt.j (nm:=λb=>b=20+3*Y) (ab:=m) (X:=a[Y].d0) uY _) (by rw[xk];exact BE) Bo T T T,Bg.trans (bt.j (nm:=λb=>b≠0) (ab:=m) (X:=a[Y].d0) (by show m a[Y].d0≠0;rw[uY];omega) _)⟩;clear gE oa kr t8 ub gF gL g1 P pa py vE wz wB xf BE pR ug kx h p;go_wp2;go_ret;exact⟨rfl,m,⟨f,i,me.out.1⟩,me.out.2⟩
   ·have Bt:¬(eh a[Y].ah a[Y].aE a[Y].ad e:Int)=0:=by omega
    have OG:((eh a[Y].ah a[Y].aE a[Y].ad e:Int)==0)=false:=by rw[di];exact Bt
    have xk:a[Y].iF e f i={a[Y].iF e f i with aS:=a[Y].aS}:=by unfold kB.iF;simp[hV]
    have me:ag (dx m C k (a.set Y (a[Y].iF e f i)) (u+1)/\bt (λb=>b≠0) c L m C):=⟨DP h xr hZ rfl gF gL g1 pa py (bt.l _ _ _) (by rw[xk];exact pR _ p.h2 rfl) Bo T T T,Bg⟩;clear gE oa kr t8 ub gF gL g1 P pa py vE wz wB xf pR ug kx h p;go_wp2;go_ret;exact⟨rfl,m,⟨f,i,me.out.1⟩,me.out.2⟩
structure ip where
 ao:Int
 ef:Int
 a8:ByteArray
 a6:be
def fK(e:ip):Array an:=#[O Q e.ao,O Q e.ef,az e.a8,O Q e.a6.aS,O Q e.a6.ao,O Q e.a6.bj,O Q e.a6.X,O Q e.a6.aE]
def hH(e:ip):an:=.agg (fK e)
theorem Ju(h:dx c L k a u)(i:u+1<=2000000)(d:ip)(l:d.ao≠1)(m:d.ao≠5)(o:a=[]):
 aR prog 45 #[aD (some ⟨k,0,none⟩),hH d] L λp j=>p=aM (cK true)/\dx c j k a (u+1)/\bt (λb=>b≠0) c L c j:=by
 have r:(d.ao==1)=false:=by simpa using l
 have s:(d.ao==5)=false:=by simpa using m
 have e:aF (S (R L)) L (ar L (aw (fK d) 89)):=(ca _ L).alloc (aN _) _;have g:=h.bI e (sU:=u+1) T i;have f:ag (dx c (ar L (aw (fK d) 89)) k a (u+1)/\bt (λb=>b≠0) c L c (ar L (aw (fK d) 89))):=⟨g,bt.bI e⟩;obtain⟨B,z,D,G,H,I,E,K,F,gf,h⟩:=h;obtain⟨t,ac,rfl⟩:=eK h.eC.bg;have v:=h.aQ.ax.am;have q:=h.aQ.ax.aa 0;simp[o]at q;unfold hH fK;unfold fK at f;clear g h e;go_enter func45,ntmps45;go_wp2;go_ret;exact⟨rfl,f.out.1,f.out.2⟩
theorem yn(b:Int)(z:Nat)(a:c1 b)(c:0<z)(d:z<=4611686018427387904)(L:aq):aR prog 69 #[O Q b,O Q z] L λe j=>e=aM (O Q (on b z:Nat))/\j=L:=by
 rw[Nr b c];unfold c1 at a;have f:¬(z:Int)=0:=T;by_cases h:b<0
 ·rw[aP h];go_enter func69,ntmps69;go_wp2;go_ret;refine⟨?_,rfl⟩;show aM (O Q (-(b+1).tmod (z:Int)))=_;rw[<-Int.neg_tmod,Int.tmod_eq_emod_of_nonneg T]
 ·rw[aH h];go_enter func69,ntmps69;go_wp2;go_ret;exact⟨rfl,rfl⟩
theorem HD(h:dx c L k a u)(gj:u+1<=2000000)(d:ip)(w:d.ao=2)(gC:c1 d.ef)(gE:c1 d.a6.aS)(p:Y<M a)(gF:on d.ef (M a)=Y):
 aR prog 45 #[aD (some ⟨k,0,none⟩),hH d] L λm j=>m=aM (cK true)/\∃q g i,dx q j k (a.set Y (a[Y].iF d.a6 g i)) (u+1)/\bt (λb=>b≠0) c L q j:=by
 have x:aF (S (R L)) L (ar L (aw (fK d) 89)):=(ca _ L).alloc (aN _) _;have e:=aL.bT L (fK d) 89;have gL:=h.bI x (aN _) T;have C:=λL=>yn d.ef (M a) gC T (by obtain⟨_,_,_,_,_,_,_,_,_,_,h⟩:=h;have:=h.mC;omega) L
 rw[gF]at C;have g1:ag (d.ao=2):=w;clear h w;unfold hH;unfold fK at*;go_enter func45,ntmps45;go_upto_region 1 with fail;generalize(ar L (aw #[O Q d.ao,O Q d.ef,az d.a8,O Q d.a6.aS,O Q d.a6.ao,O Q d.a6.bj,O Q d.a6.X,O Q d.a6.aE] 89))=t at*;have w:=g1.out;obtain⟨B,z,D,G,H,I,E,K,F,gf,h⟩:=gL;have jW:=h.mC;have v:=h.eC.bg;rw[c_]at v;obtain⟨j4,ac,rfl⟩:=eK v;obtain⟨j9,rfl,kp,J⟩:=md v p;have kr:=J (aD (some ⟨a[Y].d0,0,none⟩)) (by rw[gq,dz p];rfl);have kx:=h.aQ.ax.am;have hu:=h.aQ.ax.aa 0;simp at hu;have hE:=e.aa 0;have hS:=e.aa 1;have hV:=e.aa 3;have hZ:=e.aa 4;have ih:=e.aa 5;have iR:=e.aa 6;have iU:=e.aa 7;have k1:=e.am;simp at hE hS hV hZ ih iR iU;have s:=(h.kX Y p).ax;have k7:=(h.kX Y p).h2;have iZ:=s.aa 2;have i0:=s.aa 0;have i1:=s.aa 1;have lo:=s.am;simp at i0 i1 iZ;have l8:(0:Int)<=(Y:Int):=T;have me:(Y:Int)<(M a:Int):=T;have mn:(0:Int)<(M a:Int):=T;have mO:((M a:Int)==0)=false:=by rw[di];omega
 have P:∀f,bt (λ_=>False) c t c (bY t f):=λf=>⟨rfl,rfl,rfl,aN _,λ_ _ _=>⟨rfl,rfl⟩⟩
 have gg:∀f,aR prog 70 #[aD (some ⟨k,0,none⟩),aD (some ⟨a[Y].d0,0,none⟩),e4 d.a6] (bY t f) λm j=>m=aM (cK true)/\∃q g i,dx q j k (a.set Y (a[Y].iF d.a6 g i)) (u+1)/\bt (λb=>b≠0) c L q j:=λf=>by refine(CA (h.bM (P f) (λb Y=>Y.elim) (aN _) T) gj p d.a6 gE).mono ?_;rintro m j ⟨i2,q,g,i,y,l⟩;exact⟨i2,q,g,i,y,(bt.bI x).trans ⟨l.dR,l.hq,l.ho,l.b5,l.ci⟩⟩
 unfold e4 at gg;clear h;clear v J;go_upto_region 12 with fail
 go_cut [11]from 78 (λA jt=>A=aD (some ⟨a[Y].d0,0,none⟩)/\∃f,jt=bY t f)
 case first=>
  go_quiet(first|(go_at_call 69;refine(C _).mono ?_;rintro m o ⟨rfl,rfl⟩;exact⟨rfl,_,rfl⟩));go_wp2
  go_meet
  exact⟨rfl,_,rfl⟩
 case rest=>obtain⟨rfl,f,rfl⟩:=hcut;clear e x s P;go_wp2_with(go_at_call 70;refine(gg _).mono ?_;rintro m r ⟨rfl,q,g,i,y,l⟩);go_ret;exact⟨rfl,q,g,i,y,l⟩
theorem Pw(z:Int):c1 (wrap64 z):=by unfold c1 wrap64;omega
theorem TG(h:dx c L k a u)(mn:u+1<=2000000)(d:ip)(i0:d.ao=3)(mO:c1 d.ef)(gE:Y<M a)(mR:on d.ef (M a)=Y):
 aR prog 45 #[aD (some ⟨k,0,none⟩),hH d] L λJ j=>J=aM (cK true)/\∃q s t,dx q j k (a.set Y (a[Y].iF {d.a6 with aS:=wrap64 (a[Y].aS+d.a6.aS)} s t)) (u+1)/\bt (λb=>b≠0) c L q j:=by
 have kp:aF (S (R L)) L (ar L (aw (fK d) 89)):=(ca _ L).alloc (aN _) _;have f:=aL.bT L (fK d) 89;have mY:=h.bI kp (aN _) T;have kr:=λL=>yn d.ef (M a) mO T (by obtain⟨_,_,_,_,_,_,_,_,_,_,h⟩:=h;have:=h.mC;omega) L
 rw[mR]at kr;have m5:ag (d.ao=3):=i0;clear h i0;unfold hH;unfold fK at*;go_enter func45,ntmps45;go_upto_region 1 with fail;generalize(ar L (aw #[O Q d.ao,O Q d.ef,az d.a8,O Q d.a6.aS,O Q d.a6.ao,O Q d.a6.bj,O Q d.a6.X,O Q d.a6.aE] 89))=g at*;have i0:=m5.out;obtain⟨B,z,D,G,H,I,E,K,F,gf,h⟩:=mY;have qt:=h.mC;have iR:=h.eC.bg;rw[c_]at iR;obtain⟨qP,ac,rfl⟩:=eK iR;obtain⟨qW,rfl,ne,kx⟩:=md iR gE;have nB:=kx (aD (some ⟨a[Y].d0,0,none⟩)) (by rw[gq,dz gE];rfl);have nG:=h.aQ.ax.am;have k1:=h.aQ.ax.aa 0;simp at k1;have gF:=f.aa 0;have gL:=f.aa 1;have v:=f.aa 3;have g1:=f.aa 4;have hu:=f.aa 5;have hE:=f.aa 6;have hS:=f.aa 7;have iU:=f.am;simp at gF gL v g1 hu hE hS;have w:=(h.kX Y gE).ax;have ra:=(h.kX Y gE).h2;have x:=w.aa 2;have hV:=w.aa 0;have hZ:=w.aa 1;have iZ:=w.am;simp at hV hZ x;have rA:(0:Int)<=(Y:Int):=T;have rR:(Y:Int)<(M a:Int):=T;have sY:(0:Int)<(M a:Int):=T;have tB:((M a:Int)==0)=false:=by rw[di];omega
 have tI:∀l,bt (λ_=>False) c g c (bY g l):=λl=>⟨rfl,rfl,rfl,aN _,λ_ _ _=>⟨rfl,rfl⟩⟩
 have k7:∀i1,aF (S (R g)) g i1->∀e:be,c1 e.aS->aR prog 70 #[aD (some ⟨k,0,none⟩),aD (some ⟨a[Y].d0,0,none⟩),.agg #[O Q e.aS,O Q e.ao,O Q e.bj,O Q e.X,O Q e.aE]] i1 λJ j=>J=aM (cK true)/\∃q s t,dx q j k (a.set Y (a[Y].iF e s t)) (u+1)/\bt (λb=>b≠0) c L q j:=λi1 lo e oa=>by have l8:=CA (h.bM (nm:=λ_=>False) (bt.bI lo) (λb Y=>Y.elim) (aN _) T) mn gE e oa;unfold e4 at l8;refine l8.mono ?_;rintro J j ⟨ob,q,s,t,i2,jt⟩;exact⟨ob,q,s,t,i2,((bt.bI kp).trans (bt.bI lo)).trans jt⟩
 clear h;clear iR kx;go_upto_region 12 with fail
 go_cut [11]from 78 (λA oH=>A=aD (some ⟨a[Y].d0,0,none⟩)/\∃l,oH=bY g l)
 case first=>
  go_quiet(first|(go_at_call 69;refine(kr _).mono ?_;rintro J o ⟨rfl,rfl⟩;exact⟨rfl,_,rfl⟩));go_wp2
  go_meet
  exact⟨rfl,_,rfl⟩
 case rest=>
  obtain⟨rfl,l,me⟩:=hcut;have ih:aF (S (R g)) g wc:=by rw[me];exact⟨rfl,rfl,rfl,aN _,λ_ _=>rfl⟩
  have i:=f.d (ih.block _ f.am);have P:=w.d (ih.block _ w.am);clear me gF gL v g1 hu hE hS hV hZ x iZ iU k1 nB nG ne;have gF:=i.aa 0;have gL:=i.aa 1;have v:=i.aa 3;have g1:=i.aa 4;have hu:=i.aa 5;have hE:=i.aa 6;have hS:=i.aa 7;have iU:=i.am;simp at gF gL v g1 hu hE hS;have x:=P.aa 2;have hV:=P.aa 0;have hZ:=P.aa 1;have iZ:=P.am;simp at hV hZ x;have m:=aL.bT wc (fM d.a6) 44;have jW:aF (S (R g)) g (ar wc (aw (fM d.a6) 44)):=ih.alloc ih.size _;have gg:=i.a (aw (fM d.a6) 44);have gj:=P.a (aw (fM d.a6) 44);have oS:=ih.size;unfold fM at m jW gg gj;go_upto_region 18 with fail;generalize(ar wc (aw #[O Q d.a6.aS,O Q d.a6.ao,O Q d.a6.bj,O Q d.a6.X,O Q d.a6.aE] 44))=j4 at*;generalize(S (R wc))=y at*;clear gF gL v g1 hu hE hS hV hZ x iZ iU;have o6:=m.aa 0;have t8:=m.b 0;have ub:=m.am;have v:=gg.aa 3;have iU:=gg.am;have x:=gj.aa 2;have iZ:=gj.am;simp at o6 v x;have j9:=m.j 0 (O Q (wrap64 (a[Y].aS+d.a6.aS)));simp at j9;have gC:=jW.setCell (p:=⟨y,0,none⟩) oS (O Q (wrap64 (a[Y].aS+d.a6.aS)));have ug:¬a[Y].d0=y:=by intro l;rw[l]at gj;exact v6 gj m ak rfl
  have uY:¬(S (R L))=y:=by intro l;rw[l]at gg;exact v6 gg m ak rfl
  go_region
  all_goals
   have C:aL (cb (ay j4 ⟨y,0,none⟩ (O Q (wrap64 (a[Y].aS+d.a6.aS))))) y #[O Q (wrap64 (a[Y].aS+d.a6.aS)),O Q d.a6.ao,O Q d.a6.bj,O Q d.a6.X,O Q d.a6.aE] 44:=j9;have pa:aF (S (R g)) g (cb (ay j4 ⟨y,0,none⟩ (O Q (wrap64 (a[Y].aS+d.a6.aS))))):=⟨gC.os,gC.tape,gC.output,gC.size,gC.block⟩;generalize(cb (ay j4 ⟨y,0,none⟩ (O Q (wrap64 (a[Y].aS+d.a6.aS)))))=py at*;have pF:=C.aa 0;have pR:=C.aa 1;have pU:=C.aa 2;have pX:=C.aa 3;have pZ:=C.aa 4;have vE:=C.am;simp at pF pR pU pX pZ;have qp:=k7 py pa {d.a6 with aS:=wrap64 (a[Y].aS+d.a6.aS)} (Pw _);clear m j9 C jW gC gg gj i P w f k7;go_wp2_with(go_at_call 70;refine qp.mono ?_;rintro J r ⟨rfl,q,s,t,i2,jt⟩);go_ret;exact⟨rfl,q,s,t,i2,jt⟩
theorem BI(h:dx c L k a u)(nB:u+1<=2000000)(d:ip)(i0:d.ao=4)(nG:c1 d.ef)(x:Y<M a)(oa:on d.ef (M a)=Y):
 aR prog 45 #[aD (some ⟨k,0,none⟩),hH d] L λy j=>y=aM (cK true)/\dx c j k a (u+1)/\bt (λb=>b≠0) c L c j:=by
 have jW:aF (S (R L)) L (ar L (aw (fK d) 89)):=(ca _ L).alloc (aN _) _;have f:=aL.bT L (fK d) 89;have ob:=h.bI jW (aN _) T;have j4:=λL=>yn d.ef (M a) nG T (by obtain⟨_,_,_,_,_,_,_,_,_,_,h⟩:=h;have:=h.mC;omega) L
 rw[oa]at j4;have oH:ag (d.ao=4):=i0;clear h i0;unfold hH;unfold fK at*;go_enter func45,ntmps45;go_upto_region 1 with fail;generalize(ar L (aw #[O Q d.ao,O Q d.ef,az d.a8,O Q d.a6.aS,O Q d.a6.ao,O Q d.a6.bj,O Q d.a6.X,O Q d.a6.aE] 89))=g at*;have i0:=oH.out;obtain⟨B,z,D,G,H,I,E,K,F,gf,h⟩:=ob;have qt:=h.mC;have hZ:=h.eC.bg;rw[c_]at hZ;obtain⟨qP,ac,rfl⟩:=eK hZ;obtain⟨qW,rfl,oS,j9⟩:=md hZ x;have o6:=j9 (aD (some ⟨a[Y].d0,0,none⟩)) (by rw[gq,dz x];rfl);have pa:=h.aQ.ax.am;have kp:=h.aQ.ax.aa 0;simp at kp;have C:=f.aa 0;have J:=f.aa 1;have P:=f.aa 3;have gg:=f.aa 4;have gj:=f.aa 5;have gC:=f.aa 6;have gE:=f.aa 7;have i1:=f.am;simp at C J P gg gj gC gE;have r:=(h.kX Y x).ax;have ra:=(h.kX Y x).h2;have gF:=r.aa 2;have gL:=r.aa 0;have m:=r.aa 1;have g1:=r.am;simp at gL m gF;have rA:(0:Int)<=(Y:Int):=T;have rR:(Y:Int)<(M a:Int):=T;have sY:(0:Int)<(M a:Int):=T;have tB:((M a:Int)==0)=false:=by rw[di];omega
 have tI:∀hu,bt (λ_=>False) c g c (bY g hu):=λhu=>⟨rfl,rfl,rfl,aN _,λ_ _ _=>⟨rfl,rfl⟩⟩
 have hE:=h.kX Y x;have py:ag (∀ih,aF (S (R g)) g ih->dx c ih k a (u+1)/\bt (λb=>b≠0) c L c ih):=λih t=>⟨dx.bI ⟨_,_,_,_,_,_,_,_,_,_,h⟩ t T nB,(bt.bI jW).trans (bt.bI t)⟩
 clear h;clear hZ j9;go_upto_region 12 with fail
 go_cut [11]from 78 (λA pF=>A=aD (some ⟨a[Y].d0,0,none⟩)/\∃hu,pF=bY g hu)
 case first=>
  go_quiet(first|(go_at_call 69;refine(j4 _).mono ?_;rintro y o ⟨rfl,rfl⟩;exact⟨rfl,_,rfl⟩));go_wp2
  go_meet
  exact⟨rfl,_,rfl⟩
 case rest=>
  obtain⟨rfl,hu,kr⟩:=hcut;have v:aF (S (R g)) g wc:=by rw[kr];exact⟨rfl,rfl,rfl,aN _,λ_ _=>rfl⟩
  have l:=f.d (v.block _ f.am);have s:=r.d (v.block _ r.am);clear kr C J P gg gj gC gE gL m gF g1 i1 kp o6 pa oS;have C:=l.aa 0;have J:=l.aa 1;have P:=l.aa 3;have gg:=l.aa 4;have gj:=l.aa 5;have gC:=l.aa 6;have gE:=l.aa 7;have i1:=l.am;simp at C J P gg gj gC gE;have gF:=s.aa 2;have gL:=s.aa 0;have m:=s.aa 1;have g1:=s.am;simp at gL m gF;have kx:gO a[Y].e6 wc a[Y].ny a[Y].e8 a[Y].ah a[Y].aE a[Y].ad:=hE.cr.i (bv.bI (λ_=>False) v) (λ_ Y=>Y.elim);have k1:hM a[Y].lB wc a[Y].b3 a[Y].e8 a[Y].ah a[Y].aE a[Y].ad:=hE.i9.i (λN _ i2=>v.block N i2);obtain⟨pR,t8,hS,ub⟩:=hE.cr.rA;have ug:=hE.nZ.c9;have k7:=Dl kx;clear f r J P gg gj gC gE;go_upto_region 22 with(go_at_call 16;refine k7.mono ?_;rintro y o ⟨hV,iR,lo,pU,uY,rfl,t⟩);have w:=aL.bT o #[O Q (M a[Y].ad:Nat),O Q (hV:Nat),O Q (a[Y].e8:Nat),O Q (a[Y].ah:Nat)] 27;have iU:aF (S (R wc)) wc (ar o (aw #[O Q (M a[Y].ad:Nat),O Q (hV:Nat),O Q (a[Y].e8:Nat),O Q (a[Y].ah:Nat)] 27)):=t.alloc t.size _;have jt:=s.d (iU.block _ s.am);have l8:=k1.i (aI:=ar o (aw #[O Q (M a[Y].ad:Nat),O Q (hV:Nat),O Q (a[Y].e8:Nat),O Q (a[Y].ah:Nat)] 27)) (λN _ i2=>iU.block N i2);have me:aF (S (R g)) g (ar o (aw #[O Q (M a[Y].ad:Nat),O Q (hV:Nat),O Q (a[Y].e8:Nat),O Q (a[Y].ah:Nat)] 27)):=v.trans (iU.mono v.size);clear k7 kx k1 t iU l s C gL m gF g1 i1;generalize(ar o (aw #[O Q (M a[Y].ad:Nat),O Q (hV:Nat),O Q (a[Y].e8:Nat),O Q (a[Y].ah:Nat)] 27))=q at*;generalize(S (R o))=e at*;subst pU;have mn:g9 a[Y].aE a[Y].ad pR iR:=⟨lo,hS.bF,hS.cE,hS.h2,hS.aZ⟩;have pX:aR prog 41 #[aD (some ⟨a[Y].b3,0,none⟩)] (cb q) λy j=>y=aM (.agg #[O Q (M a[Y].ad:Nat),O Q (M iR:Nat),O Q (a[Y].e8:Nat),O Q (a[Y].ah:Nat)])/\aF (S (R (cb q))) (cb q) j:=LR (l8.i (aI:=cb q) (λ_ _ _=>rfl)) mn T
  have mO:=w.aa 0;have mR:=w.aa 1;have mY:=w.aa 2;have m5:=w.aa 3;have m:=jt.aa 1;have g1:=jt.am;simp at mO mR mY m5 m;have iZ:=w.am;have pZ:∀i,aF (S (R (cb q))) (cb q) i->(aK i ⟨e,0,none⟩=some (O Q (M a[Y].ad:Nat))/\aK i ⟨e,1,none⟩=some (O Q (M iR:Nat))/\aK i ⟨e,2,none⟩=some (O Q (a[Y].e8:Nat))/\aK i ⟨e,3,none⟩=some (O Q (a[Y].ah:Nat))/\aK i ⟨a[Y].d0,1,none⟩=some (aD (some ⟨a[Y].b3,0,none⟩)))/\aF (S (R g)) g i:=λi h=>⟨⟨(h.cell (p:=⟨e,0,none⟩) iZ).trans mO,(h.cell (p:=⟨e,1,none⟩) iZ).trans mR,(h.cell (p:=⟨e,2,none⟩) iZ).trans mY,(h.cell (p:=⟨e,3,none⟩) iZ).trans m5,(h.cell (p:=⟨a[Y].d0,1,none⟩) g1).trans m⟩,me.trans (aF.mono (show aF (S (R q)) q i from⟨h.os,h.tape,h.output,h.size,h.block⟩) me.size)⟩
  clear w jt l8 hE hS mn lo;go_region_held3 (λj=>aK j ⟨e,0,none⟩=some (O Q (M a[Y].ad:Nat))/\aK j ⟨e,1,none⟩=some (O Q (M iR:Nat))/\aK j ⟨e,2,none⟩=some (O Q (a[Y].e8:Nat))/\aK j ⟨e,3,none⟩=some (O Q (a[Y].ah:Nat))/\aK j ⟨a[Y].d0,1,none⟩=some (aD (some ⟨a[Y].b3,0,none⟩))) (simp[*])
   (first|(go_at_call 41;refine pX.mono ?_;rintro vE i ⟨rfl,ne⟩;obtain⟨wz,qp⟩:=pZ _ ne;clear ne))
  all_goals
   go_wp2;go_ret;exact⟨rfl,py.out _ qp⟩
theorem MS(b:ByteArray)(L:aq){c a:Nat}(d:ec b=.inr (c,a)):
 aR prog 15 #[az b] L λe j=>e=aM (b2 #[aD none,O Q c,O Q a])/\aF (S (R L)) L j:=by
 have h:=wl b L;have i:=(wd b).2 c a d;have m:((a:Int)!=0)=true:=b7;have l:ag (ec b=.inr (c,a)):=d;clear i d;have p:=λ(k:aq)=>aL.bT k d4 67
 go_enter func15,ntmps15;go_wp2_with fail;refine h.mono ?_;rintro e o ⟨A,rfl,f,g⟩;rw[l.out]at g;obtain⟨q,rfl⟩:=g;unfold d4;go_wp2;exact dG (v:=b2 #[aD none,O Q c,O Q a]) (by simp[results,results15,go_sem]) rfl ⟨rfl,f.alloc f.size _⟩
theorem Lq(h:dx c L k a u)(v:u+1<=2000000)(d:ip)(l:d.ao=1){ai e:Nat}(m:ec d.a8=.inr (ai,e)):
 aR prog 45 #[aD (some ⟨k,0,none⟩),hH d] L λw j=>w=aM (cK true)/\dx c j k a (u+1)/\bt (λb=>b≠0) c L c j:=by
 have p:aF (S (R L)) L (ar L (aw (fK d) 89)):=(ca _ L).alloc (aN _) _;have g:=aL.bT L (fK d) 89;have x:ag (∀i,aF (S (R L)) L i->dx c i k a (u+1)/\bt (λb=>b≠0) c L c i):=λi f=>⟨h.bI f T v,bt.bI f⟩
 have y:ag (d.ao=1):=l;clear h l;unfold hH;unfold fK at*;go_enter func45,ntmps45;go_upto_region 1 with fail;generalize(ar L (aw #[O Q d.ao,O Q d.ef,az d.a8,O Q d.a6.aS,O Q d.a6.ao,O Q d.a6.bj,O Q d.a6.X,O Q d.a6.aE] 89))=z at*;have l:=y.out;have B:=g.aa 0;have C:=g.aa 2;have I:=g.am;simp at B C;have D:=MS d.a8 z m;have q:=λo=>C_ d.a8 o
 simp only[m]at q;have E:=λo=>Bu e o
 go_wp2_with(first|(go_at_call 15;refine D.mono ?_;rintro s o ⟨rfl,f⟩;have t:=g.d (f.block _ g.am);have F:=t.aa 2;have J:=t.am;simp at F)|(go_at_call 39;refine(q _).mono ?_;rintro s r ⟨A,rfl,G,rfl⟩)|(go_at_call 40;refine(E _).mono ?_;rintro s K ⟨rfl,rfl⟩))
 go_ret;have H:=f.trans (G.mono f.size);exact⟨rfl,x.out _ (p.trans (H.mono p.size))⟩
theorem I4{l:aq}(h:pV c l k a u B z D G H I E K F gf)(i0:u+1<=2000000)(gC:aF (S (R l)) l o)(P:aF (S (R o)) o r){j:Nat}{s v:Nat->Prop}(i1:∀f,s f->S (R l)<=f)(hV:gO s o j gj 0 b [])(gE:∀N,v N->S (R o)<=N/\N<S (R r))(i2:hM v r J gj 0 b [])(jt:vb b){jW:Obj}{m:aq}{p:Nat}(gF:b_ (ar (ar r (aw #[aD (some ⟨j,0,none⟩),aD (some ⟨J,0,none⟩),O Q 0] 152)) jW) m (ap B))(j4:aY m 0 153 1 (U (some ⟨N,0,none⟩) (M a+1) p) (M a+1) ((a.map λd=>aD (some ⟨d.d0,0,none⟩))++[aD (some ⟨S (R r),0,none⟩)]))(j9:ap B=some N\/S (R r)+1<=N):
 ∃q,dx q (ay m ⟨k,0,none⟩ (U (some ⟨N,0,none⟩) (M a+1) p)) k (a++[⟨S (R r),j,J,gj,0,b,[],0,s,v⟩]) (u+1)/\bt (λb=>b≠0) c l q (ay m ⟨k,0,none⟩ (U (some ⟨N,0,none⟩) (M a+1) p)):=by
 have gL:aF (S (R l)) l r:=gC.trans (P.mono gC.size);generalize gg:(λf=>open Classical in if f<S (R l)then c f else if s f then 21+3*M a else if v f then 22+3*M a else if f=S (R r)then 20+3*M a else 0:Nat->Nat)=g;have hZ:∀f,s f->f<S (R o):=hV.am;have kp:∀f,f<S (R l)->g f=c f:=λf i=>by rw[<-gg];simp only;rw[aP i]
 have kr:∀f,s f->g f=21+3*M a:=λf i=>by have:=i1 f i;rw[<-gg];simp only;rw[aH T,aP i]
 have kx:∀f,v f->g f=22+3*M a:=λf i=>by have g1:=gE f i;have hu:=gC.size;rw[<-gg];simp only;rw[aH T,aH (λY=>by have:=hZ f Y;omega),aP i]
 have k1:g (S (R r))=20+3*M a:=by have g1:=gL.size;have hu:=P.size;rw[<-gg];simp only;rw[aH T,aH (λY=>by have:=hZ _ Y;omega),aH (λY=>by have:=gE _ Y;omega),aP trivial]
 have k7:=gL.size;have hE:aF (S (R r)) r (ar r (aw #[aD (some ⟨j,0,none⟩),aD (some ⟨J,0,none⟩),O Q 0] 152)):=(ca _ r).alloc (aN _) _;have lo:=aL.bT r #[aD (some ⟨j,0,none⟩),aD (some ⟨J,0,none⟩),O Q 0] 152;have y:aF (S (R l)) l (ar r (aw #[aD (some ⟨j,0,none⟩),aD (some ⟨J,0,none⟩),O Q 0] 152)):=gL.trans (hE.mono k7);have l8:S (R (ar r (aw #[aD (some ⟨j,0,none⟩),aD (some ⟨J,0,none⟩),O Q 0] 152)))=S (R r)+1:=av;have me:gO s (ar r (aw #[aD (some ⟨j,0,none⟩),aD (some ⟨J,0,none⟩),O Q 0] 152)) j gj 0 b []:=hV.i (bv.bI (λ_=>False) (P.trans (hE.mono P.size))) (λ_ Y=>Y.elim);have mn:hM v (ar r (aw #[aD (some ⟨j,0,none⟩),aD (some ⟨J,0,none⟩),O Q 0] 152)) J gj 0 b []:=i2.i (λN _ gF=>hE.block N gF);have ih:bt (λ_=>False) c l g (ar r (aw #[aD (some ⟨j,0,none⟩),aD (some ⟨J,0,none⟩),O Q 0] 152)):=⟨y.os,y.tape,y.output,y.size,λf i _=>⟨kp f i,y.block f i⟩⟩;have A:=h.bM ih (λb Y=>Y.elim) (aN _) T;have mO:mS g (ar r (aw #[aD (some ⟨j,0,none⟩),aD (some ⟨J,0,none⟩),O Q 0] 152)) (M a) ⟨S (R r),j,J,gj,0,b,[],0,s,v⟩:=⟨lo,k1,me,kr,mn,λf i=>⟨kx f i,by have:=(gE f i).2;rw[l8];omega⟩,jt,by show c1 0;unfold c1;omega⟩;generalize(ar r (aw #[aD (some ⟨j,0,none⟩),aD (some ⟨J,0,none⟩),O Q 0] 152))=iR at*;have iU:bt (λb=>b=10) g iR (aO g N 10) m:=bt.g1 rfl gF A.eC.cG (by rcases j9 with e|e;exact .inl e;exact .inr T);have w:=A.aQ.bM iU (λb e=>.inl (by subst e;decide));have x:bt (λb=>b=1) (aO g N 10) m (aO g N 10) (ay m ⟨k,0,none⟩ (U (some ⟨N,0,none⟩) (M a+1) p)):=bt.j w.il _;have C:bt (λb=>b=1\/b=10) g iR (aO g N 10) (ay m ⟨k,0,none⟩ (U (some ⟨N,0,none⟩) (M a+1) p)):=(iU.cE λ_ Y=>.inr Y).trans (x.cE λ_ Y=>.inl Y);have t:∀b,b≠1->b≠10->¬(λb=>b=1\/b=10) b:=λb g1 hu Y=>by rcases Y with Y|Y;exact g1 Y;exact hu Y
 have mR:ft (aO g N 10) (ay m ⟨k,0,none⟩ (U (some ⟨N,0,none⟩) (M a+1) p)) k (U (some ⟨N,0,none⟩) (M a+1) p) z D G H I E K F gf:=⟨by simpa using w.ax.j 0 (U (some ⟨N,0,none⟩) (M a+1) p),w.il,w.li.bM x ak,w.lf.bM x ak,w.kE.bM x ak,w.lC.bM x ak⟩;have mY:gh (aO g N 10) m 10 153 (U (some ⟨N,0,none⟩) (M a+1) p) ((a.map λd=>aD (some ⟨d.d0,0,none⟩))++[aD (some ⟨S (R r),0,none⟩)]):=⟨by rw[bV,c_];exact j4,λf i=>by cases i;exact cy _ _ _⟩;refine⟨aO g N 10,⟨_,z,D,G,H,I,E,K,F,gf,mR,A.hj.bM C (t 6 ak ak),A.hl.bM C (t 6 ak ak),by rw[dv];exact mY.bM x ak,λY m5=>?_,by rw[bV];have:=h.mC;simp;omega,λd ne=>?_,by have:=h.qN;omega,by have:=h.q8;omega,by have:=h.rC;omega,i0⟩,(ih.cE λ_ Y=>Y.elim).trans (C.cE λb Y=>by rcases Y with Y|Y<;>omega)⟩
 ·by_cases iZ:Y<M a
  ·rw[iz iZ];exact(A.kX Y iZ).bM C ⟨t _ T T,t _ T T,t _ T T⟩
  ·have nB:Y=M a:=by simp at m5;omega
   subst nB;rw[iV (aN _)];simp only[rM,pv];exact mO.bM C ⟨t _ T T,t _ T T,t _ T T⟩
 ·rcases dm.1 ne with hS|hS
  ·have:=h.j7 d hS;omega
  ·rw[dB.1 hS];exact bL _
theorem Tryz.LU:(prog.info? 153).map (λw=>(w.zero,w.size,w.bytes))=some (some (aD none),1,8):=by kernel_rfl
theorem F6(h:dx c L k a u)(mR:u+1<=2000000)(f:ip)(ih:f.ao=1)(hE:ec f.a8=.inl (y,gj,gg)):
 aR prog 45 #[aD (some ⟨k,0,none⟩),hH f] L λmY j=>mY=aM (cK true)/\∃q iR v J l m g i,dx q j k (a++[⟨iR,v,J,gj,0,⟨y.bd,y.aZ,g,gg.map er,i⟩,[],0,l,m⟩]) (u+1)/\bt (λb=>b≠0) c L q j:=by
 have iU:aF (S (R L)) L (ar L (aw (fK f) 89)):=(ca _ L).alloc (aN _) _;have x:=aL.bT L (fK f) 89;have m5:=h.bI iU (aN _) T;obtain⟨ne,nB,nG,oa,ob⟩:=dY Tryz.LU;have oH:ag (f.ao=1):=ih;clear h ih;unfold hH;unfold fK at*;go_enter func45,ntmps45;go_upto_region 1 with fail;generalize(ar L (aw #[O Q f.ao,O Q f.ef,az f.a8,O Q f.a6.aS,O Q f.a6.ao,O Q f.a6.bj,O Q f.a6.X,O Q f.a6.aE] 89))=p at*;have ih:=oH.out;have jW:=x.aa 0;have j4:=x.aa 2;have oS:=x.am;simp at jW j4;have j9:=Nu f.a8 p hE;have kp:=λo=>M4 f.a8 o hE
 have o6:=λo=>Bu 0 o
 have kr:=λg i=>((HK hE).nZ g i).1
 obtain⟨B,z,D,G,H,I,E,K,F,gf,h⟩:=m5;have ug:=h.mC;have hS:=h.eC.bg;rw[c_]at hS;obtain⟨P,ac,rfl⟩:=eK hS;have pa:ag (∀{o r:aq} (s:aF (S (R p)) p o) (w:aF (S (R o)) o r) {v J:Nat} {l m:Nat->Prop} {g:an} {i:List an} (gC:∀gE,l gE->S (R p)<=gE) (gF:gO l o v gj 0 ⟨y.bd,y.aZ,g,gg.map er,i⟩ []) (gL:∀N,m N->S (R o)<=N/\N<S (R r)) (g1:hM m r J gj 0 ⟨y.bd,y.aZ,g,gg.map er,i⟩ []) {f:Obj} {t:aq} {N hV:Nat}
  (hZ:b_ (ar (ar r (aw #[aD (some ⟨v,0,none⟩),aD (some ⟨J,0,none⟩),O Q 0] 152)) f) t (ap (U P (M a) ac))) (kx:aY t 0 153 1 (U (some ⟨N,0,none⟩) (M a+1) hV) (M a+1) ((a.map λd=>aD (some ⟨d.d0,0,none⟩))++[aD (some ⟨S (R r),0,none⟩)])) (k1:ap (U P (M a) ac)=some N\/S (R r)+1<=N),
  ∃q iR v J l m g i,dx q (ay t ⟨k,0,none⟩ (U (some ⟨N,0,none⟩) (M a+1) hV)) k (a++[⟨iR,v,J,gj,0,⟨y.bd,y.aZ,g,gg.map er,i⟩,[],0,l,m⟩]) (u+1)/\bt (λb=>b≠0) c L q (ay t ⟨k,0,none⟩ (U (some ⟨N,0,none⟩) (M a+1) hV))):=by
  intro o r s w v J l m g i gC gF gL g1 uY t N hV hZ kx k1;obtain⟨q,py,pF⟩:=I4 h mR s w gC gF gL g1 (kr g i) hZ kx k1;exact⟨q,_,v,J,l,m,g,i,py,(bt.bI iU).trans pF⟩
 have A:=h.aQ.ax;have pR:=h.aQ.il;have k7:=h.eC.cG;have pU:ag (∀{o r:aq} {hu f:Obj} {t:aq},aF (S (R p)) p o->aF (S (R o)) o r->b_ (ar (ar r hu) f) t (ap (U P (M a) ac))->aL t k #[U P (M a) ac,O Q z,D,G,H,I] 86):=λ{o r hu f t} s w hZ=>by have C:=s.trans (w.mono s.size);have lo:aF (S (R p)) p (ar r hu):=C.alloc C.size _;have hF:bt (λb=>b=10) c (ar r hu) (aO c (S (R (ar r hu))+1) 10) t:=bt.g1 rfl hZ k7 (.inr T);have pX:=lo.block k A.am;exact(A.d pX).d (hF.ci k (cI A.am lo.size) (by rw[pR];decide)).2
 have iZ:=hS;clear h k7 hS kr iU;go_upto_region 6 with(first|(go_at_call 15;refine j9.mono ?_;rintro l8 o ⟨v,l,g,i,rfl,s,gC,gF⟩;have i0:=x.d (s.block _ x.am);have me:=i0.aa 2;have pZ:=i0.am;simp at me)|(go_at_call 39;refine(kp _).mono ?_;rintro l8 r ⟨J,m,rfl,w,gL,g1⟩))
 have C:=s.trans (w.mono s.size);have i1:=A.d (C.block k A.am);have qp:=i1.aa 0;have vE:=i1.am;simp at qp;have qt:aY r 0 153 1 (U P (M a) ac) (M a) (a.map λd=>aD (some ⟨d.d0,0,none⟩)):=cw iZ λmn qP=>C.block mn (iZ.lt mn qP).2
 have i2:ag (aF (S (R p)) p o/\aF (S (R o)) o r/\(∀gE,l gE->S (R p)<=gE)/\gO l o v gj 0 ⟨y.bd,y.aZ,g,gg.map er,i⟩ []/\(∀N,m N->S (R o)<=N/\N<S (R r))/\hM m r J gj 0 ⟨y.bd,y.aZ,g,gg.map er,i⟩ []):=⟨s,w,gC,gF,gL,g1 g i⟩;clear s w gC gF gL g1 C i1 i0 x me pZ jW j4 oS j9 kp hE iZ A;go_wp2_with(first|(go_at_call 40;refine(o6 _).mono ?_;rintro l8 wz ⟨rfl,rfl⟩)|(at_builtin;refine dq _ rfl _ _ 83 rfl 0 153 ne _ 1 8 underlying83 nB nG oa ob rfl ak _ (M a) (a.map λd=>aD (some ⟨d.d0,0,none⟩)) bf ((qt.alloc _).alloc _) ⟨S (R r)+1,0,none⟩ 1 1 [aD (some ⟨S (R r),0,none⟩)] bf rfl (c4 (cB _ _ _ av)) ey ak cN T (bL _) (S (R r)+2) av ?_;intro wB xf t qW mO ra xk;have jt:=pU.out i2.out.1 i2.out.2.1 mO;have xr:=jt.b 0;have ys:=jt.am;have rA:=jt.aa 0;simp at rA))
 go_ret;obtain⟨rR,sY,tB,tI,t8,ub⟩:=i2.out;exact⟨rfl,pa.out rR sY tB tI t8 ub mO qW (by rcases ra with e|e;exact .inl e;exact .inr T)⟩
theorem L4(h:dx c L k a u)(gL:u+1<=2000000)(d:ip)(m:d.ao≠1)(p:d.ao≠5)(q:d.ao≠2)(r:d.ao≠3)(s:d.ao≠4)(g1:c1 d.ef)(t:Y<M a)(hu:on d.ef (M a)=Y):
 aR prog 45 #[aD (some ⟨k,0,none⟩),hH d] L λv j=>v=aM (cK true)/\dx c j k a (u+1)/\bt (λb=>b≠0) c L c j:=by
 have iU:(d.ao==1)=false:=by simpa using m
 have iZ:(d.ao==5)=false:=by simpa using p
 have i0:(d.ao==2)=false:=by simpa using q
 have i1:(d.ao==3)=false:=by simpa using r
 have i2:(d.ao==4)=false:=by simpa using s
 have w:aF (S (R L)) L (ar L (aw (fK d) 89)):=(ca _ L).alloc (aN _) _;have e:=aL.bT L (fK d) 89;have hE:=h.bI w (aN _) T;have x:=λL=>yn d.ef (M a) g1 T (by obtain⟨_,_,_,_,_,_,_,_,_,_,h⟩:=h;have:=h.mC;omega) L
 rw[hu]at x;clear h;unfold hH;unfold fK at*;go_enter func45,ntmps45;go_upto_region 1 with fail;generalize(ar L (aw #[O Q d.ao,O Q d.ef,az d.a8,O Q d.a6.aS,O Q d.a6.ao,O Q d.a6.bj,O Q d.a6.X,O Q d.a6.aE] 89))=f at*;obtain⟨B,z,D,G,H,I,E,K,F,gf,h⟩:=hE;have jt:=h.mC;have g:=h.eC.bg;rw[c_]at g;obtain⟨jW,ac,rfl⟩:=eK g;obtain⟨j4,rfl,hS,y⟩:=md g t;have hV:=y (aD (some ⟨a[Y].d0,0,none⟩)) (by rw[gq,dz t];rfl);have hZ:=h.aQ.ax.am;have C:=h.aQ.ax.aa 0;simp at C;have i:=e.aa 0;have J:=e.aa 1;have P:=e.am;simp at i J;have j9:(0:Int)<=(Y:Int):=T;have kp:(Y:Int)<(M a:Int):=T;have kr:(0:Int)<(M a:Int):=T;have kx:((M a:Int)==0)=false:=by rw[di];omega
 have ih:ag (∀l,aF (S (R f)) f l->dx c l k a (u+1)/\bt (λb=>b≠0) c L c l):=λl gg=>⟨dx.bI ⟨_,_,_,_,_,_,_,_,_,_,h⟩ gg T gL,(bt.bI w).trans (bt.bI gg)⟩
 clear h;clear g y m q r s p;go_upto_region 12 with fail
 go_cut [11]from 78 (λA iR=>A=aD (some ⟨a[Y].d0,0,none⟩)/\∃gj,iR=bY f gj)
 case first=>
  go_quiet(first|(go_at_call 69;refine(x _).mono ?_;rintro v o ⟨rfl,rfl⟩;exact⟨rfl,_,rfl⟩));go_wp2
  go_meet
  exact⟨rfl,_,rfl⟩
 case rest=>
  obtain⟨rfl,gj,gC⟩:=hcut;have gE:aF (S (R f)) f wc:=by rw[gC];exact⟨rfl,rfl,rfl,aN _,λ_ _=>rfl⟩
  have gF:=e.d (gE.block _ e.am);clear gC i J P C hV hZ hS;have i:=gF.aa 0;have P:=gF.am;simp at i;go_wp2;go_ret;exact⟨rfl,ih.out _ gE⟩
theorem Ew(h:dx c L k a u)(g:u+1<=2000000)(d:ip)(t:d.ao≠5)(o:c1 d.ef)(B:c1 d.a6.aS):
 aR prog 45 #[aD (some ⟨k,0,none⟩),hH d] L λf j=>f=aM (cK true)/\∃q C,dx q j k C (u+1)/\bt (λb=>b≠0) c L q j:=by
 by_cases p:d.ao=1
 ·cases v:ec d.a8 with
  |inl r=>obtain⟨y,gj,gg⟩:=r;exact(F6 h g d p v).mono λf j Y=>by obtain⟨i,q,G,H,J,I,K,P,gf,l,m⟩:=Y;exact⟨i,q,_,l,m⟩
  |inr r=>exact(Lq h g d p (ai:=r.1) (e:=r.2) v).mono λf j Y=>⟨Y.1,c,a,Y.2⟩
 ··by_cases w:a=[]
   ·exact(Ju h g d p t w).mono λf j Y=>⟨Y.1,c,a,Y.2⟩
   ·have D:0<M a:=by cases a with|nil=>exact absurd rfl w|cons=>simp
    have s:on d.ef (M a)<M a:=Cn _ D;by_cases x:d.ao=2
    ·exact(HD h g d x o B s rfl).mono λf j Y=>by obtain⟨i,q,E,F,l,m⟩:=Y;exact⟨i,q,_,l,m⟩
    by_cases z:d.ao=3
    ·exact(TG h g d z o s rfl).mono λf j Y=>by obtain⟨i,q,E,F,l,m⟩:=Y;exact⟨i,q,_,l,m⟩
    by_cases A:d.ao=4
    ·exact(BI h g d A o s rfl).mono λf j Y=>⟨Y.1,c,a,Y.2⟩
    exact(L4 h g d p t x z A o s rfl).mono λf j Y=>⟨Y.1,c,a,Y.2⟩
def tE:ByteArray:=⟨#[119,105,116,104,105,110,32,49,48,32,114,97,116,101,32,53,32,120,58,49,32,116,104,101,110,32,121,58,50,32,105,102,32,121,46,97,32,61,32,120,46,97]⟩
def om:be:=⟨0,1,7,0,0⟩
def qo:be:=⟨1,1,8,0,0⟩
def ur:be:=⟨2,2,7,0,0⟩
def wm:be:=⟨0,0,0,0,0⟩
def jH:List ip:=[⟨1,0,tE,wm⟩,⟨2,0,⟨#[]⟩,om⟩,⟨2,0,⟨#[]⟩,qo⟩,⟨2,0,⟨#[]⟩,ur⟩,⟨4,0,⟨#[]⟩,wm⟩]
def Hd:Bool:=match ec tE with
 |.inl (e,_,f)=>(ff e.bd e.aZ [] 0==0)&&(ff e.bd e.aZ [om] 1==0)&&(ff e.bd e.aZ [om,qo] 2==0)&&(M (qL (cS (f.map er)) e.bd [om,qo,ur])==2)
 |.inr _=>false
theorem JU:Hd=true:=by kernel_rfl
theorem Jc:∃y gj gg,ec tE=.inl (y,gj,gg)/\ff y.bd y.aZ [] 0=0/\ff y.bd y.aZ [om] 1=0/\ff y.bd y.aZ [om,qo] 2=0/\M (qL (cS (gg.map er)) y.bd [om,qo,ur])=2:=by
 have h:=JU;unfold Hd at h;cases a:ec tE with
 |inr b=>rw[a]at h;simp at h
 |inl b=>obtain⟨y,gj,gg⟩:=b;rw[a]at h;simp only[hh,gT]at h;obtain⟨⟨⟨c,d⟩,e⟩,f⟩:=h;exact⟨y,gj,gg,rfl,c,d,e,f⟩
def sm(f:it)(g:List (List aB))(h:List be)(i:List kB):Prop:=∃e,i=[e]/\e.ah=0/\e.aE.bF=f.bd/\e.aE.aZ=f.aZ/\e.aE.cm=g.map er/\e.ad=h
theorem sm.iF(h:sm y gg gC [d]){e:be}(f:ff y.bd y.aZ gC e.aS=0)(g i:Nat->Prop):sm y gg (gC++[e]) [d.iF e g i]:=by
 obtain⟨m,j,k,a,b,l,c⟩:=h;cases j;have hF:eh d.ah d.aE d.ad e=0:=by unfold eh;rw[aH (by rw[k];decide),a,b,c];exact f
 exact⟨_,rfl,hF,a,b,l,by show gv d.ah d.aE d.ad e=_;unfold gv;rw[aP hF,c]⟩
theorem z8(h:dx c L k a u)(l:u+1<=2000000)(m:sm y gg gC a)(e:ip)(o:e.ao=2)(f:e.ef=0)(p:c1 e.a6.aS)(r:ff y.bd y.aZ gC e.a6.aS=0):
 aR prog 45 #[aD (some ⟨k,0,none⟩),hH e] L λg j=>g=aM (cK true)/\∃q i,dx q j k i (u+1)/\bt (λb=>b≠0) c L q j/\sm y gg (gC++[e.a6]) i:=by
 obtain⟨d,rfl,s⟩:=m;refine(HD h l e o (by rw[f];unfold c1;omega) p (Y:=0) av (by rw[f];rfl)).mono ?_;rintro g j ⟨t,q,v,w,x,z⟩;exact⟨t,q,_,x,z,sm.iF ⟨d,rfl,s⟩ r v w⟩
def vS(f:it)(g:List (List aB)):Nat->List kB->Prop
 |0,e=>e=[]
 |h+1,e=>sm f g ([om,qo,ur].take h) e
theorem RQ(h:dx c L k a u)(f:u+1<=2000000)(r:ec tE=.inl (y,gj,gg))(s:ff y.bd y.aZ [] 0=0)(t:ff y.bd y.aZ [om] 1=0)(v:ff y.bd y.aZ [om,qo] 2=0)(g:w<M jH)(e:vS y gg w a):
 aR prog 45 #[aD (some ⟨k,0,none⟩),hH jH[w]] L λi j=>i=aM (cK true)/\∃q p,dx q j k p (u+1)/\bt (λb=>b≠0) c L q j/\vS y gg (w+1) p:=by
 match w,g,e with
 |0,_,e=>subst e;refine(F6 h f ⟨1,0,tE,wm⟩ rfl r).mono ?_;rintro i j ⟨l,q,A,B,J,C,D,E,F,m,o⟩;exact⟨l,q,_,m,o,_,rfl,rfl,rfl,rfl,rfl,rfl⟩
 |1,_,e=>exact z8 h f e ⟨2,0,⟨#[]⟩,om⟩ rfl rfl (by show c1 0;unfold c1;omega) s
 |2,_,e=>exact z8 h f e ⟨2,0,⟨#[]⟩,qo⟩ rfl rfl (by show c1 1;unfold c1;omega) t
 |3,_,e=>exact z8 h f e ⟨2,0,⟨#[]⟩,ur⟩ rfl rfl (by show c1 2;unfold c1;omega) v
 |4,_,e=>obtain⟨d,rfl,x⟩:=e;refine(BI h f ⟨4,0,⟨#[]⟩,wm⟩ rfl (by show c1 0;unfold c1;omega) (Y:=0) av rfl).mono ?_;rintro i j ⟨l,m,o⟩;exact⟨l,c,_,m,o,d,rfl,x⟩
 |z+5,g,_=>exact absurd g (by simp[jH])
section
def qi:Array an:=#[O Q 1,O Q 0,az ⟨#[119,105,116,104,105,110,32,49,48,32,114,97,116,101,32,53,32,120,58,49,32,116,104,101,110,32,121,58,50,32,105,102,32,121,46,97,32,61,32,120,46,97]⟩,O Q 0,O Q 0,O Q 0,O Q 0,O Q 0,O Q 2,O Q 0,az ⟨#[]⟩,O Q 0,O Q 1,O Q 7,O Q 0,O Q 0,O Q 2,O Q 0,az ⟨#[]⟩,O Q 1,O Q 1,O Q 8,O Q 0,O Q 0,O Q 2,O Q 0,az ⟨#[]⟩,O Q 2,O Q 2,O Q 7,O Q 0,O Q 0,O Q 4,O Q 0,az ⟨#[]⟩,O Q 0,O Q 0,O Q 0,O Q 0,O Q 0]
theorem H0(h:aL L N qi 89)(a:w<M jH):aK L ⟨N,w*8,none⟩=some (O Q jH[w].ao)/\aK L ⟨N,w*8+1,none⟩=some (O Q jH[w].ef)/\aK L ⟨N,w*8+2,none⟩=some (az jH[w].a8)/\aK L ⟨N,w*8+3,none⟩=some (O Q jH[w].a6.aS)/\aK L ⟨N,w*8+4,none⟩=some (O Q jH[w].a6.ao)/\aK L ⟨N,w*8+5,none⟩=some (O Q jH[w].a6.bj)/\aK L ⟨N,w*8+6,none⟩=some (O Q jH[w].a6.X)/\aK L ⟨N,w*8+7,none⟩=some (O Q jH[w].a6.aE):=by
 match w,a with
 |0,_=>exact⟨h.aa 0,h.aa 1,h.aa 2,h.aa 3,h.aa 4,h.aa 5,h.aa 6,h.aa 7⟩
 |1,_=>exact⟨h.aa 8,h.aa 9,h.aa 10,h.aa 11,h.aa 12,h.aa 13,h.aa 14,h.aa 15⟩
 |2,_=>exact⟨h.aa 16,h.aa 17,h.aa 18,h.aa 19,h.aa 20,h.aa 21,h.aa 22,h.aa 23⟩
 |3,_=>exact⟨h.aa 24,h.aa 25,h.aa 26,h.aa 27,h.aa 28,h.aa 29,h.aa 30,h.aa 31⟩
 |4,_=>exact⟨h.aa 32,h.aa 33,h.aa 34,h.aa 35,h.aa 36,h.aa 37,h.aa 38,h.aa 39⟩
 |z+5,a=>exact absurd a (by simp[jH])
theorem M8(c a b d:Int)(L:aq):(Instr.field 27 (.agg #[O Q c,O Q a,O Q b,O Q d]) 1).run prog L=.ok (O Q a) L:=by kernel_rfl
attribute [local go_sem] M8
theorem Ps(h:dx c L k [] 0):
 aR prog 44 #[aD (some ⟨k,0,none⟩)] L λi j=>i=aM (cK true)/\∃q m,dx q j k m 5/\bt (λb=>b≠0) c L q j:=by
 obtain⟨y,gj,gg,g1,hu,hE,hS,jt⟩:=Jc;have g:=aL.bT L qi 89;have hV:ag (dx (aO c (S (R L)) 0) (ar L (aw qi 89)) k [] 0/\bt (λb=>b≠0) c L (aO c (S (R L)) 0) (ar L (aw qi 89))/\aL (ar L (aw qi 89)) (S (R L)) qi 89):=by obtain⟨B,z,D,G,H,I,E,K,F,gf,h⟩:=h;exact⟨⟨B,z,D,G,H,I,E,K,F,gf,h.bM (bt.a (λ_=>False) c L (aw qi 89) 0) (λb Y=>Y.elim) (aN _) ak⟩,bt.a _ c L _ 0,g⟩
 clear g h;have A:ag (∀{e:Nat->Nat} {o:aq} {a:List kB} {w:Nat},dx e o k a w->(p:w<M jH)->vS y gg w a->aR prog 45 #[aD (some ⟨k,0,none⟩),hH jH[w]] o λi j=>i=aM (cK true)/\∃q m,dx q j k m (w+1)/\bt (λb=>b≠0) e o q j/\vS y gg (w+1) m):=λh p f=>RQ h (by simp[jH]at p;omega) g1 hu hE hS p f
 unfold qi at hV;clear g1 hu hE hS;go_enter func44,ntmps44;go_upto_region 2 with fail;generalize(ar L (aw #[O Q 1,O Q 0,az ⟨#[119,105,116,104,105,110,32,49,48,32,114,97,116,101,32,53,32,120,58,49,32,116,104,101,110,32,121,58,50,32,105,102,32,121,46,97,32,61,32,120,46,97]⟩,O Q 0,O Q 0,O Q 0,O Q 0,O Q 0,
 O Q 2,O Q 0,az ⟨#[]⟩,O Q 0,O Q 1,O Q 7,O Q 0,O Q 0,
 O Q 2,O Q 0,az ⟨#[]⟩,O Q 1,O Q 1,O Q 8,O Q 0,O Q 0,
 O Q 2,O Q 0,az ⟨#[]⟩,O Q 2,O Q 2,O Q 7,O Q 0,O Q 0,
 O Q 4,O Q 0,az ⟨#[]⟩,O Q 0,O Q 0,O Q 0,O Q 0,O Q 0] 89))=hZ at*
 obtain⟨C,J,g⟩:=hV.out;generalize oH:S (R L)=s at*;have jW:aO c s 0 s=0:=cy _ _ _;generalize oS:aO c s 0=gF at*;go_wp2
 go_loopw [4] (λD wr=>∃(w:Nat) (e:Nat->Nat) (a:List kB),w<=5/\D=O Q (w:Nat)/\dx e wr k a w/\vS y gg w a/\bt (λb=>b≠0) gF hZ e wr) (λD _=>5-(intOf D).toNat)
 case atStart=>exact⟨0,gF,[],T,rfl,C,rfl,bt.l _ _ _⟩
 case round=>
  obtain⟨w,e,a,p,rfl,t,f,l⟩:=hrel;by_cases j4:w<5
  ·have ih:w<M jH:=j4;obtain⟨o6,iR⟩:=l.ci s g.am (by rw[jW];simp);have P:=g.d iR;obtain⟨pa,py,pF,pR,pU,pX,pZ,qp⟩:=H0 P ih;have qt:=P.am;have iU:=A.out t ih f;have j9:ag (∀{q:Nat->Nat} {j:aq},bt (λb=>b≠0) e wr q j->bt (λb=>b≠0) gF hZ q j):=λY=>l.trans Y
   clear t f l P iR C J A;unfold hH fK at iU;generalize jH[w]=qP at*;have qW:(w:Int)<5:=T;have ra:(0:Int)<=(w:Int):=T;go_wp2_with(go_at_call 45;refine iU.mono ?_;rintro i r ⟨rfl,kp,kr,gC,gE,kx⟩);go_roundw
   case rel=>exact⟨w+1,kp,kr,T,bE,gC,kx,j9.out gE⟩
   case measure=>simp[intOf];omega
  ·have k1:w=5:=by omega
   subst k1;obtain⟨d,rfl,rA,k7,rR,lo,l8⟩:=f;have iZ:ag (dx e wr k [d] 5/\bt (λb=>b≠0) c L e wr):=⟨t,J.trans l⟩;have me:ag (∀j,aF (S (R wr)) wr j->dx e j k [d] 5/\bt (λb=>b≠0) c L e j):=λj i0=>⟨iZ.out.1.bI i0 (aN _) ak,iZ.out.2.trans (bt.bI i0)⟩
   obtain⟨B,z,D,G,H,I,E,K,F,gf,h⟩:=t;have u:=h.eC.bg;rw[c_]at u;obtain⟨sY,ac,rfl⟩:=eK u;obtain⟨tB,rfl,tI,i1⟩:=md u (al:=0) av;have t8:=i1 (aD (some ⟨d.d0,0,none⟩)) rfl;have ub:=h.aQ.ax.am;have mn:=h.aQ.ax.aa 0;simp at mn;have v:=h.kX 0 av;have f:=v.ax;have mO:=f.aa 0;have mR:=f.am;simp at mO mR;obtain⟨ug,uY,gL,vE⟩:=v.cr.rA;have i2:=Dl v.cr;simp only[pv]at i2 gL;have mY:∀x,g5 (cS d.aE.cm) d.aE.bF d.ad (d8 d.ad) x->M x=2:=λx m5=>by have:=m5.FM (CK gL.cE);rw[lo,k7,l8]at this;exact this.trans jt
   clear h u i1 v f gL C J A l g;go_wp2_with(go_at_call 16;refine i2.mono ?_;rintro i o ⟨ne,x,nB,nG,wz,rfl,oa⟩;have ob:ne=2:=by{rw[<-nG];exact mY _ nB};subst ob);go_ret;obtain⟨gC,gE⟩:=me.out _ oa;exact⟨rfl,e,_,gC,gE⟩
end
