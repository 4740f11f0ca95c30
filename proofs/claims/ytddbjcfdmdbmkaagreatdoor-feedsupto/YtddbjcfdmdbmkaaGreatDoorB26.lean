import Derived.Test.YtddbjcfdmdbmkaaGreatDoorB03
import Derived.Test.YtddbjcfdmdbmkaaGreatDoorB04
import Derived.Deep.LoopGhost
set_option linter.all false
set_option maxRecDepth 100000
set_option maxHeartbeats 4000000
namespace Go.Proofs.YtddbjcfdmdbmkaaGreatDoor
open Go.RowKit Go.Proofs.Tryz
open Go.IntKind renaming i64->Q
open Go.Obj renaming cells->aw
open Go.RowKit renaming Hid->ag
open Go renaming Value->an,World->aq
open Go.Value renaming bool->cK,int->O,slice->U,string->az,ownBlock->ap
open _root_.Array renaming size->S
open _root_.ByteArray renaming toList->aJ
open Go.World renaming alloc->ar,grownBy->b_,heap->R,ownsRow->aY,setCell->ay
open List renaming length->M
variable{L y x:aq}{I J w N H b k:Nat}{o:an}{K:List an}{ab j A:Nat->Nat}{u:List Nat}{r E B:Int}{z D:eU}{a d c:au}{G:Option Nat}{F:Array an}
theorem J0{e:TypeId}(h:aY L I e J o w K)(a:∀N,ap o=some N->(R y)[N]?=(R L)[N]?):aY y I e J o w K:=by
 refine⟨h.1,?_⟩;rcases h.2 with b|⟨N,c,d,rfl,f,g,rest⟩
 ·exact .inl b
 ·exact .inr ⟨N,c,d,rfl,f,(a N rfl).trans g,rest⟩
theorem oP{e:TypeId}(h:aY L I e J o w K)(b:∀N,ap o=some N->7<=ab N)(c:aU ab L j y):aY y I e J o w K:=
 J0 h λN a=>c.db.iA N ⟨(h.lt N a).2,b N a⟩
theorem cZ.bo(h:cZ ab L o u)(b:aU ab L j y):cZ j y o u:=by obtain⟨⟨d,h⟩,c⟩:=h;exact⟨⟨d,oP h (λN a=>by rw[c N a];exact aN _) b⟩,λN a=>(b.ci N (h.lt N a).2).trans (c N a)⟩
theorem rv{r:Nat}(b:∀a,ap o=some a->ab a=r)(d:7<ab N)(f:r<=7):∀a,ap o=some a->aO ab N H a=r:=λa c=>by rw[cR];exact b a c;intro e;subst e;rw[b a c]at d;omega
theorem cZ.mR(h:cZ ab L o u)(a:7<ab N):cZ (aO ab N H) L o u:=⟨h.1,rv h.2 a ak⟩
theorem dZ.mR{u:List (List Nat)}(h:dZ ab L o u)(a:7<ab N):dZ (aO ab N H) L o u:=by obtain⟨b,h,c,d,e⟩:=h;exact⟨b,h,rv c a ak,d,λf g i=>(e f g i).mR a⟩
theorem bQ.mR(H:Nat)(h:bQ ab L b z a)(c:7<ab N):bQ (aO ab N H) L b z a:=
 ⟨h.ax,by rw[cR];exact h.dN;intro e;rw[e]at h;have:=h.dN;omega,h.aT,by rw[cR];exact h.fG;intro e;have:=h.fG;rw[e]at this;omega,h.b9,rv h.ef c ak,h.b6,rv h.kn c ak,h.cc,rv h.jO c ak,h.aC,rv h.jP c ak,h.aj,rv h.cj c ak,λd f=>(h.br d f).mR c,h.gt,h.ia,h.cY,h.ej⟩
theorem bQ.nG(r:Nat)(s:7<r)(h:bQ ab L b z a)(c:∀g,G=some g->ab g=r)(d:b_ L x G)(f:G=some N\/N=S (R L)):bQ (aO ab N r) x b z a:=by have i:=fH (N:=N) 7 r h.aT (λg e=>by cases e;exact h.fG) d c T f;have j:=fH (N:=N) 2 r h.b9 h.ef d c T f;have k:=fH (N:=N) 3 r h.b6 h.kn d c T f;have l:=fH (N:=N) 4 r h.cc h.jO d c T f;have m:=fH (N:=N) 5 r h.aC h.jP d c T f;have o:=fH (N:=N) 6 r h.aj h.cj d c T f;exact⟨h.f3 d c T,(nz r c f b h.ax.am).trans h.dN,i.1,i.2 _ rfl,j.1,j.2,k.1,k.2,l.1,l.2,m.1,m.2,o.1,o.2,λp q=>(h.br p q).oH r d c T f,h.gt,h.ia,h.cY,h.ej⟩
theorem aU.nG(r:Nat){g:Nat->Nat}{f:aq}(d:aU g f ab L)(i:b_ L x G)(h:∀b,G=some b->S (R f)<=b)(j:G=some N\/N=S (R L)):aU g f (aO ab N r) x:=
 ⟨λb c=>by
  rw[cR];exact d.ci b c
  intro e;subst e
  rcases j with e|e
  ·have:=h b e;omega
  ·have:=d.b5;omega,
  d.db.dj i (λb c=>cI c.1 d.b5) (λb e c=>by have:=h b e;have:=c.1;omega)⟩
inductive tr (ew:List Nat) (bW:au):Nat->List Nat->au->Prop
 |mc {eI:List Nat} {aQ:Nat} {V cX:au}:eI.length<=10000->oJ aQ V cX->cX.aT=V.aT->cX.f q6=false->ew=eI++[aQ]->bW=cX->tr ew bW 0 eI V
 |f9 {n:Nat} {eI:List Nat} {aQ:Nat} {V cX:au}:eI.length<=10000->oJ aQ V cX->cX.aT=V.aT->cX.f q6=true->tr ew bW n (eI++[aQ]) cX.g->tr ew bW (n+1) eI V
def C5(i:List Nat)(l:au)(m:Nat->Nat)(L:aq)(p:Nat)(q:Nat)(h:an)(wr:aq):Prop:=
 ∃e f g s,tr i l q e f/\c2 f.aT/\bQ g wr p s f/\aU m L g wr/\aY wr 0 3 1 h (M e) (e.map λt:Nat=>O Q (t:Int))/\∀N,ap h=some N->g N=8/\S (R L)<=N
def DG(g:Nat->Nat)(L:aq)(h:Nat)(i:List Nat)(l:au)(m:an)(e:aq):Prop:=∃f p,bQ f e h p l/\aU g L f e/\cZ f e m i
theorem AQ{G:List Nat}(f:c2 a.aT)(gL:tr G d w [] a)(ab:Nat->Nat)(L:aq)(b:Nat)(z:eU)(h:bQ ab L b z a):
 Calls prog 95 #[.pointer (some ⟨b,0,none⟩)] L λe y=>∃o,e=.returned o/\DG ab L b G d o y:=by
 have g1:C5 G d ab L b w (U none 0 0) L:=⟨[],a,ab,z,gL,f,h,aU.l _ _,eE _ _ _ _,λN f=>by simp[ap]at f⟩;clear gL h f;go_enter func95,ntmps95;go_wp2_with fail
 go_loopg [3] w (λg o wr=>C5 G d ab L b g o wr)
 case atStart=>exact g1
 case round=>
  obtain⟨u,kx,j,hu,P,hE,H,I,s,p⟩:=hrel;clear g1;obtain⟨hS,hV,hZ,ih,iR⟩:=dY Tryz.ys;cases P with
  |@mc _ B _ c i1 gf gg iU i2 jt=>
   subst i2 jt;go_wp2_with fail;refine(gf j wr b hu H).mono ?_;rintro e x ⟨rfl,A,D,v,i⟩;have C:=oP s (λN f=>by rw[(p N f).1];decide) i;have k:∀N,_->A N=8/\S (R L)<=N:=λN f=>⟨(i.ci N (s.lt N f).2).trans (p N f).1,(p N f).2⟩
   have q:=I.trans i;have J:c2 d.aT:=by rw[gg];exact hE
   clear s p I i H;go_wp2_with(at_builtin;refine dq _ rfl (.tmp 8) (.tmp 10) 48 rfl 0 3 hS _ 1 8 underlying48 hV hZ ih iR rfl ak _ (M u) (u.map λw:Nat=>O Q (w:Int)) bf (C.alloc _) ⟨S (R x),0,none⟩ 1 1 [O Q B] bf rfl (c4 (cB _ _ _ av)) ey ak cN T (bL _) (S (R x)+1) av ?_;intro N jW j4 gj r l j9);have gC:=(v.a _).nG 8 ak (λg m=>(k g m).1) r (by simpa using l);have K:=(q.a _).nG 8 r (λg m=>(k g m).2) (by simpa using l);have E:aO A N 8 N=8:=cy _ _ _;have iZ:S (R L)<=N:=by
    rcases l with e|e
    ·exact(k N e).2
    ·have:=q.b5;omega
   clear r l C k q v;have gE:ag (d.t q6=d):=by show _=_;simp[au.t,iU]
   refine(fq gC J.b8 q6).mono ?_;rintro e kp ⟨rfl,F,t⟩;rw[iU];rw[gE.out]at F;have gF:=oP gj (ab:=aO A N 8) (λg e=>by cases e;rw[E];decide) t;go_wp2_with fail;go_ret;refine⟨_,rfl,aO (aO A N 8) N 7,D,F.mR 7 (by rw[E];decide),⟨λg m=>?_,(K.trans t).db⟩,⟨⟨_,by simpa using gF⟩,λg e=>by cases e;exact cy _ _ _⟩⟩;rw[cR _ _ _ _ T];exact(K.trans t).ci g m
  |@f9 kr _ B _ c i1 gf gg i0 P=>
   go_wp2_with fail;refine(gf j wr b hu H).mono ?_;rintro e x ⟨rfl,A,D,v,i⟩;have C:=oP s (λN f=>by rw[(p N f).1];decide) i;have k:∀N,_->A N=8/\S (R L)<=N:=λN f=>⟨(i.ci N (s.lt N f).2).trans (p N f).1,(p N f).2⟩
   have q:=I.trans i;have J:c2 c.aT:=by rw[gg];exact hE
   clear s p I i H;go_wp2_with(at_builtin;refine dq _ rfl (.tmp 8) (.tmp 10) 48 rfl 0 3 hS _ 1 8 underlying48 hV hZ ih iR rfl ak _ (M u) (u.map λw:Nat=>O Q (w:Int)) bf (C.alloc _) ⟨S (R x),0,none⟩ 1 1 [O Q B] bf rfl (c4 (cB _ _ _ av)) ey ak cN T (bL _) (S (R x)+1) av ?_;intro N jW j4 gj r l j9);have gC:=(v.a _).nG 8 ak (λg m=>(k g m).1) r (by simpa using l);have K:=(q.a _).nG 8 r (λg m=>(k g m).2) (by simpa using l);have E:aO A N 8 N=8:=cy _ _ _;have iZ:S (R L)<=N:=by
    rcases l with e|e
    ·exact(k N e).2
    ·have:=q.b5;omega
   clear r l C k q v;have gE:ag (c.t q6=c.g):=by show _=_;simp[au.t,i0,au.g]
   refine(fq gC J.b8 q6).mono ?_;rintro e kp ⟨rfl,F,t⟩;rw[i0];rw[gE.out]at F;have gF:=oP gj (ab:=aO A N 8) (λg e=>by cases e;rw[E];decide) t;go_wp2_with fail
   go_roundg kr
   case measure=>omega
   case rel=>exact⟨u++[B],c.g,aO A N 8,D,P,J,F,K.trans t,by simpa using gF,λg e=>by cases e;exact⟨E,iZ⟩⟩
section
attribute [local go_sem↓] Go.wp_at_zero Go.wp_at_succ
structure mH (ab:Nat->Nat) (L:aq) (X:Nat) (V:au) (dC:Nat->Nat) (fD:eU) (b3:Nat) (A6:Array an) (cn:aq):Prop where
 aV:bQ dC cn X fD V
 bo:aU ab L dC cn
 ax:aL cn b3 A6 202
 cG:dC b3=8
 bT:L.heap.size<=b3
theorem mH.q{c:Nat->Nat}{d:aq}{f:au}{g:eU}(h:mH ab L b a A D k F x)(i:bQ c d b g f)(e:aU A x c d):mH ab L b f c g k F d:=
 ⟨i,h.bo.trans e,e.z h.cG h.ax,(e.ci k h.ax.am).trans h.cG,h.bT⟩
theorem mH.iZ(h:mH ab L b a A D k F x)(c:Nat)(o:an):mH ab L b a A D k (F.setIfInBounds c o) (ay x ⟨k,c,none⟩ o):=
 ⟨h.aV.A (ai:=⟨k,c,none⟩) h.cG o,h.bo.D (ai:=⟨k,c,none⟩) h.bT o,h.ax.j c o,h.cG,h.bT⟩
theorem mH.gV(h:mH ab L b a A D k F x):b≠k:=λe=>by have:=h.aV.dN;rw[e,h.cG]at this;cases this
def kH(e:Int)(f:Bool)(g:ByteArray)(h i l:Int)(m:an):Array an:=#[O Q e,cK f,az g,O Q h,O Q i,O Q l,m]
theorem Tryz.qP:(prog.info? 202).map (λa=>(a.zero,a.size,a.bytes))=some (some (.agg #[O Q 0,cK false,az ⟨#[]⟩,O Q 0,O Q 0,O Q 0,U none 0 0]),7,80):=by kernel_rfl
theorem sg(b:Int)(c:ByteArray)(a w:Int)(L:aq):(Instr.field 150 (.agg #[O Q b,az c,O Q a,O Q w]) 2).run prog L=.ok (O Q a) L:=by kernel_rfl
theorem sK(h:bQ ab L b z a)(c:Obj)(F:Array an):mH ab L b a (aO ab (S (R L)+1) 8) z (S (R L)+1) F (ar (ar L c) (aw F 202)).drew:=
 ⟨(((DD h (S (R L)+1) T).a _).a _).e,⟨λd e=>cR _ _ _ _ T,((((aU.l ab L).a c).a _).e).db⟩,cB _ _ _ av,cy _ _ _,T⟩
theorem dZ.cL(ab:Nat->Nat)(L:aq):dZ ab L (U none 0 0) []:=⟨[],eE _ _ _ _,λN a=>by simp[ap]at a,rfl,λb h=>by simp at h⟩
theorem Qe(f:c2 a.aT)(l:a.f ⟨#[40]⟩=false)(g:a.f eO=true)(m:a.s.ih)(o:a.r.f gW=false)(kp:M a.r.aj<=100000):
 oJ (M a.r.aj) a (a.r.l8 ⟨a.af.a1,true,cD,a.s.k,1, -1,[]⟩):=by
 intro ab L b z h;have gC:ag (a.f ⟨#[40]⟩=false):=l;have gE:ag (a.t ⟨#[40]⟩=a):=by show _=_;simp[au.t,l]
 have gF:ag (a.f eO=true):=g;have gL:ag (a.t eO=a.g):=by show _=_;simp[au.t,g,au.g]
 have g1:ag (a.s=a.g):=by show _=_;simp[au.s,g]
 have hu:ag (a.r=a.u):=by show _=_;simp[au.r,au.iR,g]
 have hE:ag (a.u=a.s.bp 0 99):=rfl;have hS:ag (a.r.f gW=false):=o;have hV:ag (a.r.t gW=a.r):=by show _=_;simp[au.t,o]
 have hZ:c2 a.hE.aT:=by rw[p0];exact f
 have w:c2 a.s.aT:=by rw[rS];exact f
 have gk:c2 a.u.aT:=by rw[rj];exact f
 have y:c2 a.r.aT:=by rw[pE];exact f
 have ih:=sg;clear l g o;go_enter func143,ntmps143;go_wp2_with fail;refine(fJ h).mono ?_;rintro e kr ⟨rfl,iR,rfl⟩;go_wp2_with fail;have c:=sK h iR (kH a.af.a1 false cD 0 1 (-1) (U none 0 0));unfold kH at c;refine(fq c.aV f.b8 _).mono ?_;rintro e x ⟨rfl,p,A⟩;rw[gC.out];rw[gE.out]at p;replace c:=c.q p A;clear p A;generalize(S (R L))+1=k at*;generalize aO ab k 8=kx at*;go_wp2_with fail;refine(fq c.aV f.b8 eO).mono ?_;rintro e k1 ⟨rfl,q,B⟩;rw[gF.out];rw[gL.out]at q;replace c:=c.q q B;clear q B;have d:=c.ax.aa 1;have r:=c.ax.b 1;simp at d;go_wp2_with fail;replace c:=c.iZ 1 (cK true);simp at c;clear d r;rw[<-g1.out]at c;refine(oK c.aV w _ _ m.b9 m.b6 m.cc).mono ?_;rintro e k7 ⟨rfl,iU,C,s,D⟩;rw[<-hE.out]at s;replace c:=c.q s D;clear s D;have i:=c.ax.aa 3;have r:=c.ax.b 3;have d:=c.ax.aa 1;simp at i d;go_wp2_with fail;replace c:=c.iZ 3 (O Q a.s.k);simp at c;clear i r d;rw[<-hu.out]at c;refine(fq c.aV y.b8 gW).mono ?_;rintro e j ⟨rfl,t,E⟩;rw[hS.out];rw[hV.out]at t;replace c:=c.q t E;clear t E;have F:=dZ.cL iU j;have G:=c.aV.aa 9;simp[cp]at G;have H:=c.ax.aa 0;have d:=c.ax.aa 1;have I:=c.ax.aa 2;have i:=c.ax.aa 3;have J:=c.ax.aa 4;have K:=c.ax.aa 5;have P:=c.ax.aa 6;simp at H d I i J K P;have lo:=c.aV.ax.am;have l8:=c.ax.am;obtain⟨iZ,i0,i1,i2,jt⟩:=dY Tryz.qP;clear ih f hZ w gk y h;go_wp2_with fail;go_region_law ((refine kc _ bf _ _ 121 bf 0 202 iZ _ 7 80 underlying121 i0 i1 i2 jt rfl ak C.e3 (M a.r.aj) (bC cA.h (a.r.aj.zip C.fy)) bf ((c.aV.a _).e.aj) ⟨S (R j),0,none⟩ 1 1 (cA.h (⟨a.af.a1,true,cD,a.s.k,1, -1,[]⟩,U none 0 0)) bf rfl (c4 (cB _ _ _ av)) rm ak cN T (bL _) (S (R j)+1) av ?_;intro N me mn gf u gg mO;have v:=(c.aV.a _).e.f3 u c.aV.cj ak;have jW:=v.aa 9;have mR:=v.b 9;simp[cp]at jW))
 all_goals
  obtain⟨j4,gj⟩:=(c.aV.a _).e.qW ⟨a.af.a1,true,cD,a.s.k,1, -1,[]⟩ (U none 0 0) ((F.dj (fv j _ none) (λ_ e=>by cases e)).dj (jm _ none) (λ_ e=>by cases e)) gf u (by simpa using gg);have j9:=((c.bo.a _).e).trans gj;clear gj gf u gg v H d I i J K P G F;go_wp2;go_ret;exact⟨jq T,_,_,j4,j9⟩
theorem M3(g:c2 a.aT)(p:a.f ⟨#[40]⟩=false)(i:a.f eO=true)(q:a.s.ih)(s:a.r.f gW=true)(g1:ie 0 a.r.g r c)(l8:M c.aj<=100000):
 oJ (M c.aj) a (c.l8 ⟨a.af.a1,true,cD,a.s.k,1,r,[]⟩):=by
 intro ab L b z h;have hu:ag (a.f ⟨#[40]⟩=false):=p;have hE:ag (a.t ⟨#[40]⟩=a):=by show _=_;simp[au.t,p]
 have hS:ag (a.f eO=true):=i;have hV:ag (a.t eO=a.g):=by show _=_;simp[au.t,i,au.g]
 have hZ:ag (a.s=a.g):=by show _=_;simp[au.s,i]
 have ih:ag (a.r=a.u):=by show _=_;simp[au.r,au.iR,i]
 have iR:ag (a.u=a.s.bp 0 99):=rfl;have iU:ag (a.r.f gW=true):=s;have iZ:ag (a.r.t gW=a.r.g):=by show _=_;simp[au.t,s,au.g]
 have i0:c2 a.hE.aT:=by rw[p0];exact g
 have B:c2 a.s.aT:=by rw[rS];exact g
 have gk:c2 a.u.aT:=by rw[rj];exact g
 have C:c2 a.r.aT:=by rw[pE];exact g
 have i1:=sg;clear p i s;go_enter func143,ntmps143;go_wp2_with fail;refine(fJ h).mono ?_;rintro e me ⟨rfl,i2,rfl⟩;go_wp2_with fail;have d:=sK h i2 (kH a.af.a1 false cD 0 1 (-1) (U none 0 0));unfold kH at d;refine(fq d.aV g.b8 _).mono ?_;rintro e x ⟨rfl,t,D⟩;rw[hu.out];rw[hE.out]at t;replace d:=d.q t D;clear t D;generalize(S (R L))+1=k at*;generalize aO ab k 8=mn at*;go_wp2_with fail;refine(fq d.aV g.b8 eO).mono ?_;rintro e mO ⟨rfl,u,E⟩;rw[hS.out];rw[hV.out]at u;replace d:=d.q u E;clear u E;have f:=d.ax.aa 1;have j:=d.ax.b 1;simp at f;go_wp2_with fail;replace d:=d.iZ 1 (cK true);simp at d;clear f j;rw[<-hZ.out]at d;refine(oK d.aV B _ _ q.b9 q.b6 q.cc).mono ?_;rintro e mR ⟨rfl,mY,m5,v,F⟩;rw[<-iR.out]at v;replace d:=d.q v F;clear v F;have l:=d.ax.aa 3;have j:=d.ax.b 3;have f:=d.ax.aa 1;simp at l f;go_wp2_with fail;replace d:=d.iZ 3 (O Q a.s.k);simp at d;clear l j f;rw[<-ih.out]at d;refine(fq d.aV C.b8 gW).mono ?_;rintro e ne ⟨rfl,w,G⟩;rw[iU.out];rw[iZ.out]at w;replace d:=d.q w G;clear w G;go_wp2_with fail;refine(g1 _ _ _ _ d.aV).mono ?_;rintro e jt ⟨rfl,jW,H,I,J⟩;replace d:=d.q I J;clear I J;have m:=d.ax.aa 5;have j:=d.ax.b 5;simp at m;go_wp2_with fail;replace d:=d.iZ 5 (O Q r);simp at d;clear m j;generalize(ay jt) ⟨k,5,none⟩ (O Q r)=o at*;have K:=dZ.cL jW o;have P:=d.aV.aa 9;simp[cp]at P;have gf:=d.ax.aa 0;have f:=d.ax.aa 1;have gg:=d.ax.aa 2;have l:=d.ax.aa 3;have gj:=d.ax.aa 4;have m:=d.ax.aa 5;have gC:=d.ax.aa 6;simp at gf f gg l gj m gC;have nB:=d.aV.ax.am;have nG:=d.ax.am;obtain⟨j4,j9,kp,kr,kx⟩:=dY Tryz.qP;clear i1 g i0 B gk C h;go_wp2_with fail;go_region_law ((refine kc _ bf _ _ 121 bf 0 202 j4 _ 7 80 underlying121 j9 kp kr kx rfl ak H.e3 (M c.aj) (bC cA.h (c.aj.zip H.fy)) bf ((d.aV.a _).e.aj) ⟨S (R o),0,none⟩ 1 1 (cA.h (⟨a.af.a1,true,cD,a.s.k,1,r,[]⟩,U none 0 0)) bf rfl (c4 (cB _ _ _ av)) rm ak cN T (bL _) (S (R o)+1) av ?_;intro N oa ob gE y gF oH;have A:=(d.aV.a _).e.f3 y d.aV.cj ak;have k1:=A.aa 9;have oS:=A.b 9;simp[cp]at k1))
 all_goals
  obtain⟨k7,gL⟩:=(d.aV.a _).e.qW ⟨a.af.a1,true,cD,a.s.k,1,r,[]⟩ (U none 0 0) ((K.dj (fv o _ none) (λ_ e=>by cases e)).dj (jm _ none) (λ_ e=>by cases e)) gE y (by simpa using gF);have lo:=((d.bo.a _).e).trans gL;clear gL gE y gF A gf f gg l gj m gC P K;go_wp2;go_ret;exact⟨jq T,_,_,k7,lo⟩
theorem Mv(d:c2 a.aT)(p:a.f ⟨#[40]⟩=false)(g:a.f eO=false)(q:a.s.ih)(m:a.u.f ji=false)(r:a.r.f gW=false)(mO:M a.r.aj<=100000):
 oJ (M a.r.aj) a (a.r.l8 ⟨a.af.a1,false,a.gL,a.s.k,1, -1,[]⟩):=by
 intro ab L b z h;have hV:ag (a.f ⟨#[40]⟩=false):=p;have hZ:ag (a.t ⟨#[40]⟩=a):=by show _=_;simp[au.t,p]
 have ih:ag (a.f eO=false):=g;have iR:ag (a.t eO=a):=by show _=_;simp[au.t,g]
 have iU:ag (a.s=a.hE.c5 ⟨#[58]⟩):=by show _=_;simp[au.s,g]
 have iZ:ag (a.u.f ji=false):=m;have i0:ag (a.u.t ji=a.u):=by show _=_;simp[au.t,m]
 have i1:ag (a.r=a.u):=by show _=_;simp[au.r,au.iR,g,m]
 have i2:ag (a.u=a.s.bp 0 99):=rfl;have jt:ag (a.r.f gW=false):=r;have jW:ag (a.r.t gW=a.r):=by show _=_;simp[au.t,r]
 have C:c2 a.hE.aT:=by rw[p0];exact d
 have D:c2 a.s.aT:=by rw[rS];exact d
 have gk:c2 a.u.aT:=by rw[rj];exact d
 have E:c2 a.r.aT:=by rw[pE];exact d
 have j4:=sg;clear p g r m;go_enter func143,ntmps143;go_wp2_with fail;refine(fJ h).mono ?_;rintro e mR ⟨rfl,j9,rfl⟩;go_wp2_with fail;have c:=sK h j9 (kH a.af.a1 false cD 0 1 (-1) (U none 0 0));unfold kH at c;refine(fq c.aV d.b8 _).mono ?_;rintro e x ⟨rfl,s,F⟩;rw[hV.out];rw[hZ.out]at s;replace c:=c.q s F;clear s F;generalize(S (R L))+1=k at*;generalize aO ab k 8=mY at*;go_wp2_with fail;refine(fq c.aV d.b8 eO).mono ?_;rintro e m5 ⟨rfl,t,G⟩;rw[ih.out];rw[iR.out]at t;replace c:=c.q t G;clear t G;have f:=c.ax.aa 1;have i:=c.ax.b 1;simp at f;go_wp2_with fail;replace c:=c.iZ 1 (cK false);simp at c;clear f i;refine(uw c.aV d.b8 d.b5).mono ?_;rintro e ne ⟨rfl,H,I⟩;replace c:=c.q H I;clear H I;have j:=c.ax.aa 2;have i:=c.ax.b 2;simp at j;go_wp2_with fail;replace c:=c.iZ 2 (az a.gL);simp at c;clear j i;refine(oA c.aV C.b8 _).mono ?_;rintro e nB ⟨rfl,u,J⟩;rw[<-iU.out]at u;replace c:=c.q u J;clear u J;go_wp2_with fail;refine(oK c.aV D _ _ q.b9 q.b6 q.cc).mono ?_;rintro e nG ⟨rfl,kp,K,v,P⟩;rw[<-i2.out]at v;replace c:=c.q v P;clear v P;have l:=c.ax.aa 3;have i:=c.ax.b 3;have f:=c.ax.aa 1;simp at l f;go_wp2_with fail;replace c:=c.iZ 3 (O Q a.s.k);simp at c;clear l i f;refine(fq c.aV gk.b8 ji).mono ?_;rintro e oa ⟨rfl,w,gf⟩;rw[iZ.out];rw[i0.out]at w;replace c:=c.q w gf;clear w gf;go_wp2_with fail;rw[<-i1.out]at c;refine(fq c.aV E.b8 gW).mono ?_;rintro e o ⟨rfl,y,gg⟩;rw[jt.out];rw[jW.out]at y;replace c:=c.q y gg;clear y gg;have gj:=dZ.cL kp o;have gC:=c.aV.aa 9;simp[cp]at gC;have gE:=c.ax.aa 0;have f:=c.ax.aa 1;have j:=c.ax.aa 2;have l:=c.ax.aa 3;have gF:=c.ax.aa 4;have gL:=c.ax.aa 5;have g1:=c.ax.aa 6;simp at gE f j l gF gL g1;have ob:=c.aV.ax.am;have oH:=c.ax.am;obtain⟨kr,kx,k1,k7,lo⟩:=dY Tryz.qP;clear j4 d C D gk E h;go_wp2_with fail;go_region_law ((refine kc _ bf _ _ 121 bf 0 202 kr _ 7 80 underlying121 kx k1 k7 lo rfl ak K.e3 (M a.r.aj) (bC cA.h (a.r.aj.zip K.fy)) bf ((c.aV.a _).e.aj) ⟨S (R o),0,none⟩ 1 1 (cA.h (⟨a.af.a1,false,a.gL,a.s.k,1, -1,[]⟩,U none 0 0)) bf rfl (c4 (cB _ _ _ av)) rm ak cN T (bL _) (S (R o)+1) av ?_;intro N oS o6 hu A hE pa;have B:=(c.aV.a _).e.f3 A c.aV.cj ak;have l8:=B.aa 9;have py:=B.b 9;simp[cp]at l8))
 all_goals
  obtain⟨me,hS⟩:=(c.aV.a _).e.qW ⟨a.af.a1,false,a.gL,a.s.k,1, -1,[]⟩ (U none 0 0) ((gj.dj (fv o _ none) (λ_ e=>by cases e)).dj (jm _ none) (λ_ e=>by cases e)) hu A (by simpa using hE);have mn:=((c.bo.a _).e).trans hS;clear hS hu A hE B gE f j l gF gL g1 gC gj;go_wp2;go_ret;exact⟨jq T,_,_,me,mn⟩
theorem PV(f:c2 a.aT)(s:a.f ⟨#[40]⟩=false)(j:a.f eO=false)(t:a.s.ih)(p:a.u.f ji=false)(u:a.r.f gW=true)(iU:ie 0 a.r.g r c)(nG:M c.aj<=100000):
 oJ (M c.aj) a (c.l8 ⟨a.af.a1,false,a.gL,a.s.k,1,r,[]⟩):=by
 intro ab L b z h;have iZ:ag (a.f ⟨#[40]⟩=false):=s;have i0:ag (a.t ⟨#[40]⟩=a):=by show _=_;simp[au.t,s]
 have i1:ag (a.f eO=false):=j;have i2:ag (a.t eO=a):=by show _=_;simp[au.t,j]
 have jt:ag (a.s=a.hE.c5 ⟨#[58]⟩):=by show _=_;simp[au.s,j]
 have jW:ag (a.u.f ji=false):=p;have j4:ag (a.u.t ji=a.u):=by show _=_;simp[au.t,p]
 have j9:ag (a.r=a.u):=by show _=_;simp[au.r,au.iR,j,p]
 have kp:ag (a.u=a.s.bp 0 99):=rfl;have kr:ag (a.r.f gW=true):=u;have kx:ag (a.r.t gW=a.r.g):=by show _=_;simp[au.t,u,au.g]
 have F:c2 a.hE.aT:=by rw[p0];exact f
 have G:c2 a.s.aT:=by rw[rS];exact f
 have gk:c2 a.u.aT:=by rw[rj];exact f
 have H:c2 a.r.aT:=by rw[pE];exact f
 have k1:=sg;clear s j u p;go_enter func143,ntmps143;go_wp2_with fail;refine(fJ h).mono ?_;rintro e oa ⟨rfl,k7,rfl⟩;go_wp2_with fail;have d:=sK h k7 (kH a.af.a1 false cD 0 1 (-1) (U none 0 0));unfold kH at d;refine(fq d.aV f.b8 _).mono ?_;rintro e x ⟨rfl,v,I⟩;rw[iZ.out];rw[i0.out]at v;replace d:=d.q v I;clear v I;generalize(S (R L))+1=k at*;generalize aO ab k 8=ob at*;go_wp2_with fail;refine(fq d.aV f.b8 eO).mono ?_;rintro e oH ⟨rfl,w,J⟩;rw[i1.out];rw[i2.out]at w;replace d:=d.q w J;clear w J;have g:=d.ax.aa 1;have i:=d.ax.b 1;simp at g;go_wp2_with fail;replace d:=d.iZ 1 (cK false);simp at d;clear g i;refine(uw d.aV f.b8 f.b5).mono ?_;rintro e oS ⟨rfl,K,P⟩;replace d:=d.q K P;clear K P;have l:=d.ax.aa 2;have i:=d.ax.b 2;simp at l;go_wp2_with fail;replace d:=d.iZ 2 (az a.gL);simp at d;clear l i;refine(oA d.aV F.b8 _).mono ?_;rintro e o6 ⟨rfl,y,gf⟩;rw[<-jt.out]at y;replace d:=d.q y gf;clear y gf;go_wp2_with fail;refine(oK d.aV G _ _ t.b9 t.b6 t.cc).mono ?_;rintro e pa ⟨rfl,py,pF,A,gg⟩;rw[<-kp.out]at A;replace d:=d.q A gg;clear A gg;have m:=d.ax.aa 3;have i:=d.ax.b 3;have g:=d.ax.aa 1;simp at m g;go_wp2_with fail;replace d:=d.iZ 3 (O Q a.s.k);simp at d;clear m i g;refine(fq d.aV gk.b8 ji).mono ?_;rintro e pR ⟨rfl,B,gj⟩;rw[jW.out];rw[j4.out]at B;replace d:=d.q B gj;clear B gj;go_wp2_with fail;rw[<-j9.out]at d;refine(fq d.aV H.b8 gW).mono ?_;rintro e pU ⟨rfl,C,gC⟩;rw[kr.out];rw[kx.out]at C;replace d:=d.q C gC;clear C gC;go_wp2_with fail;refine(iU _ _ _ _ d.aV).mono ?_;rintro e lo ⟨rfl,l8,gE,gF,gL⟩;replace d:=d.q gF gL;clear gF gL;have o:=d.ax.aa 5;have i:=d.ax.b 5;simp at o;go_wp2_with fail;replace d:=d.iZ 5 (O Q r);simp at d;clear o i;generalize(ay lo) ⟨k,5,none⟩ (O Q r)=q at*;have g1:=dZ.cL l8 q;have hu:=d.aV.aa 9;simp[cp]at hu;have hE:=d.ax.aa 0;have g:=d.ax.aa 1;have l:=d.ax.aa 2;have m:=d.ax.aa 3;have hS:=d.ax.aa 4;have o:=d.ax.aa 5;have hV:=d.ax.aa 6;simp at hE g l m hS o hV;have pX:=d.aV.ax.am;have pZ:=d.ax.am;obtain⟨me,mn,mO,mR,mY⟩:=dY Tryz.qP;clear k1 f F G gk H h;go_wp2_with fail;go_region_law ((refine kc _ bf _ _ 121 bf 0 202 me _ 7 80 underlying121 mn mO mR mY rfl ak gE.e3 (M c.aj) (bC cA.h (c.aj.zip gE.fy)) bf ((d.aV.a _).e.aj) ⟨S (R q),0,none⟩ 1 1 (cA.h (⟨a.af.a1,false,a.gL,a.s.k,1,r,[]⟩,U none 0 0)) bf rfl (c4 (cB _ _ _ av)) rm ak cN T (bL _) (S (R q)+1) av ?_;intro N qp qt hZ D ih qP;have E:=(d.aV.a _).e.f3 D d.aV.cj ak;have m5:=E.aa 9;have qW:=E.b 9;simp[cp]at m5))
 all_goals
  obtain⟨ne,iR⟩:=(d.aV.a _).e.qW ⟨a.af.a1,false,a.gL,a.s.k,1,r,[]⟩ (U none 0 0) ((g1.dj (fv q _ none) (λ_ e=>by cases e)).dj (jm _ none) (λ_ e=>by cases e)) hZ D (by simpa using ih);have nB:=((d.bo.a _).e).trans iR;clear iR hZ D ih E hE g l m hS o hV hu g1;go_wp2;go_ret;exact⟨jq T,_,_,ne,nB⟩
theorem Mn(d:c2 a.aT)(q:a.f ⟨#[40]⟩=false)(i:a.f eO=false)(r:a.s.ih)(s:a.u.g.ih)(o:a.u.f ji=true)(t:a.r.f gW=false)(m5:M a.r.aj<=100000):
 oJ (M a.r.aj) a (a.r.l8 ⟨a.af.a1,false,a.gL,a.s.k,a.u.g.k, -1,[]⟩):=by
 intro ab L b z h;have iR:ag (a.f ⟨#[40]⟩=false):=q;have iU:ag (a.t ⟨#[40]⟩=a):=by show _=_;simp[au.t,q]
 have iZ:ag (a.f eO=false):=i;have i0:ag (a.t eO=a):=by show _=_;simp[au.t,i]
 have i1:ag (a.s=a.hE.c5 ⟨#[58]⟩):=by show _=_;simp[au.s,i]
 have i2:ag (a.u.f ji=true):=o;have jt:ag (a.u.t ji=a.u.g):=by show _=_;simp[au.t,o,au.g]
 have jW:ag (a.r=a.u.g.bp 1 4):=by show _=_;simp[au.r,au.iR,i,o]
 have j4:ag (a.u=a.s.bp 0 99):=rfl;have j9:ag (a.r.f gW=false):=t;have kp:ag (a.r.t gW=a.r):=by show _=_;simp[au.t,t]
 have F:c2 a.hE.aT:=by rw[p0];exact d
 have G:c2 a.s.aT:=by rw[rS];exact d
 have gk:c2 a.u.aT:=by rw[rj];exact d
 have H:c2 a.r.aT:=by rw[pE];exact d
 have kr:=sg;clear q i t o;go_enter func143,ntmps143;go_wp2_with fail;refine(fJ h).mono ?_;rintro e ne ⟨rfl,kx,rfl⟩;go_wp2_with fail;have c:=sK h kx (kH a.af.a1 false cD 0 1 (-1) (U none 0 0));unfold kH at c;refine(fq c.aV d.b8 _).mono ?_;rintro e x ⟨rfl,u,I⟩;rw[iR.out];rw[iU.out]at u;replace c:=c.q u I;clear u I;generalize(S (R L))+1=k at*;generalize aO ab k 8=nB at*;go_wp2_with fail;refine(fq c.aV d.b8 eO).mono ?_;rintro e nG ⟨rfl,v,J⟩;rw[iZ.out];rw[i0.out]at v;replace c:=c.q v J;clear v J;have f:=c.ax.aa 1;have g:=c.ax.b 1;simp at f;go_wp2_with fail;replace c:=c.iZ 1 (cK false);simp at c;clear f g;refine(uw c.aV d.b8 d.b5).mono ?_;rintro e oa ⟨rfl,K,P⟩;replace c:=c.q K P;clear K P;have j:=c.ax.aa 2;have g:=c.ax.b 2;simp at j;go_wp2_with fail;replace c:=c.iZ 2 (az a.gL);simp at c;clear j g;refine(oA c.aV F.b8 _).mono ?_;rintro e ob ⟨rfl,w,gf⟩;rw[<-i1.out]at w;replace c:=c.q w gf;clear w gf;go_wp2_with fail;refine(oK c.aV G _ _ r.b9 r.b6 r.cc).mono ?_;rintro e oH ⟨rfl,oS,o6,y,gg⟩;rw[<-j4.out]at y;replace c:=c.q y gg;clear y gg;have l:=c.ax.aa 3;have g:=c.ax.b 3;have f:=c.ax.aa 1;simp at l f;go_wp2_with fail;replace c:=c.iZ 3 (O Q a.s.k);simp at c;clear l g f;refine(fq c.aV gk.b8 ji).mono ?_;rintro e pa ⟨rfl,A,gj⟩;rw[i2.out];rw[jt.out]at A;replace c:=c.q A gj;clear A gj;go_wp2_with fail;refine(oK c.aV gk _ _ s.b9 s.b6 s.cc).mono ?_;rintro e py ⟨rfl,k1,gC,B,gE⟩;rw[<-jW.out]at B;replace c:=c.q B gE;clear B gE;have m:=c.ax.aa 4;have g:=c.ax.b 4;simp at m;go_wp2_with fail;replace c:=c.iZ 4 (O Q a.u.g.k);simp at c;clear m g;refine(fq c.aV H.b8 gW).mono ?_;rintro e p ⟨rfl,C,gF⟩;rw[j9.out];rw[kp.out]at C;replace c:=c.q C gF;clear C gF;have gL:=dZ.cL k1 p;have g1:=c.aV.aa 9;simp[cp]at g1;have hu:=c.ax.aa 0;have f:=c.ax.aa 1;have j:=c.ax.aa 2;have l:=c.ax.aa 3;have m:=c.ax.aa 4;have hE:=c.ax.aa 5;have hS:=c.ax.aa 6;simp at hu f j l m hE hS;have pF:=c.aV.ax.am;have pR:=c.ax.am;obtain⟨k7,lo,l8,me,mn⟩:=dY Tryz.qP;clear kr d F G gk H h;go_wp2_with fail;go_region_law ((refine kc _ bf _ _ 121 bf 0 202 k7 _ 7 80 underlying121 lo l8 me mn rfl ak gC.e3 (M a.r.aj) (bC cA.h (a.r.aj.zip gC.fy)) bf ((c.aV.a _).e.aj) ⟨S (R p),0,none⟩ 1 1 (cA.h (⟨a.af.a1,false,a.gL,a.s.k,a.u.g.k, -1,[]⟩,U none 0 0)) bf rfl (c4 (cB _ _ _ av)) rm ak cN T (bL _) (S (R p)+1) av ?_;intro N pU pX hV D hZ pZ;have E:=(c.aV.a _).e.f3 D c.aV.cj ak;have mO:=E.aa 9;have qp:=E.b 9;simp[cp]at mO))
 all_goals
  obtain⟨mR,ih⟩:=(c.aV.a _).e.qW ⟨a.af.a1,false,a.gL,a.s.k,a.u.g.k, -1,[]⟩ (U none 0 0) ((gL.dj (fv p _ none) (λ_ e=>by cases e)).dj (jm _ none) (λ_ e=>by cases e)) hV D (by simpa using hZ);have mY:=((c.bo.a _).e).trans ih;clear ih hV D hZ E hu f j l m hE hS g1 gL;go_wp2;go_ret;exact⟨jq T,_,_,mR,mY⟩
theorem Of(f:c2 a.aT)(t:a.f ⟨#[40]⟩=false)(j:a.f eO=false)(u:a.s.ih)(v:a.u.g.ih)(q:a.u.f ji=true)(w:a.r.f gW=true)(i1:ie 0 a.r.g r c)(oH:M c.aj<=100000):
 oJ (M c.aj) a (c.l8 ⟨a.af.a1,false,a.gL,a.s.k,a.u.g.k,r,[]⟩):=by
 intro ab L b z h;have i2:ag (a.f ⟨#[40]⟩=false):=t;have jt:ag (a.t ⟨#[40]⟩=a):=by show _=_;simp[au.t,t]
 have jW:ag (a.f eO=false):=j;have j4:ag (a.t eO=a):=by show _=_;simp[au.t,j]
 have j9:ag (a.s=a.hE.c5 ⟨#[58]⟩):=by show _=_;simp[au.s,j]
 have kp:ag (a.u.f ji=true):=q;have kr:ag (a.u.t ji=a.u.g):=by show _=_;simp[au.t,q,au.g]
 have kx:ag (a.r=a.u.g.bp 1 4):=by show _=_;simp[au.r,au.iR,j,q]
 have k1:ag (a.u=a.s.bp 0 99):=rfl;have k7:ag (a.r.f gW=true):=w;have lo:ag (a.r.t gW=a.r.g):=by show _=_;simp[au.t,w,au.g]
 have I:c2 a.hE.aT:=by rw[p0];exact f
 have J:c2 a.s.aT:=by rw[rS];exact f
 have gk:c2 a.u.aT:=by rw[rj];exact f
 have K:c2 a.r.aT:=by rw[pE];exact f
 have l8:=sg;clear t j w q;go_enter func143,ntmps143;go_wp2_with fail;refine(fJ h).mono ?_;rintro e oS ⟨rfl,me,rfl⟩;go_wp2_with fail;have d:=sK h me (kH a.af.a1 false cD 0 1 (-1) (U none 0 0));unfold kH at d;refine(fq d.aV f.b8 _).mono ?_;rintro e x ⟨rfl,y,P⟩;rw[i2.out];rw[jt.out]at y;replace d:=d.q y P;clear y P;generalize(S (R L))+1=k at*;generalize aO ab k 8=o6 at*;go_wp2_with fail;refine(fq d.aV f.b8 eO).mono ?_;rintro e pa ⟨rfl,A,gf⟩;rw[jW.out];rw[j4.out]at A;replace d:=d.q A gf;clear A gf;have i:=d.ax.aa 1;have g:=d.ax.b 1;simp at i;go_wp2_with fail;replace d:=d.iZ 1 (cK false);simp at d;clear i g;refine(uw d.aV f.b8 f.b5).mono ?_;rintro e py ⟨rfl,gg,gj⟩;replace d:=d.q gg gj;clear gg gj;have l:=d.ax.aa 2;have g:=d.ax.b 2;simp at l;go_wp2_with fail;replace d:=d.iZ 2 (az a.gL);simp at d;clear l g;refine(oA d.aV I.b8 _).mono ?_;rintro e pF ⟨rfl,B,gC⟩;rw[<-j9.out]at B;replace d:=d.q B gC;clear B gC;go_wp2_with fail;refine(oK d.aV J _ _ u.b9 u.b6 u.cc).mono ?_;rintro e pR ⟨rfl,pU,pX,C,gE⟩;rw[<-k1.out]at C;replace d:=d.q C gE;clear C gE;have m:=d.ax.aa 3;have g:=d.ax.b 3;have i:=d.ax.aa 1;simp at m i;go_wp2_with fail;replace d:=d.iZ 3 (O Q a.s.k);simp at d;clear m g i;refine(fq d.aV gk.b8 ji).mono ?_;rintro e pZ ⟨rfl,D,gF⟩;rw[kp.out];rw[kr.out]at D;replace d:=d.q D gF;clear D gF;go_wp2_with fail;refine(oK d.aV gk _ _ v.b9 v.b6 v.cc).mono ?_;rintro e qp ⟨rfl,qt,qP,E,gL⟩;rw[<-kx.out]at E;replace d:=d.q E gL;clear E gL;have o:=d.ax.aa 4;have g:=d.ax.b 4;simp at o;go_wp2_with fail;replace d:=d.iZ 4 (O Q a.u.g.k);simp at d;clear o g;refine(fq d.aV K.b8 gW).mono ?_;rintro e qW ⟨rfl,F,g1⟩;rw[k7.out];rw[lo.out]at F;replace d:=d.q F g1;clear F g1;go_wp2_with fail;refine(i1 _ _ _ _ d.aV).mono ?_;rintro e mn ⟨rfl,mO,hu,hE,hS⟩;replace d:=d.q hE hS;clear hE hS;have p:=d.ax.aa 5;have g:=d.ax.b 5;simp at p;go_wp2_with fail;replace d:=d.iZ 5 (O Q r);simp at d;clear p g;generalize(ay mn) ⟨k,5,none⟩ (O Q r)=s at*;have hV:=dZ.cL mO s;have hZ:=d.aV.aa 9;simp[cp]at hZ;have ih:=d.ax.aa 0;have i:=d.ax.aa 1;have l:=d.ax.aa 2;have m:=d.ax.aa 3;have o:=d.ax.aa 4;have p:=d.ax.aa 5;have iR:=d.ax.aa 6;simp at ih i l m o p iR;have ra:=d.aV.ax.am;have rA:=d.ax.am;obtain⟨mR,mY,m5,ne,nB⟩:=dY Tryz.qP;clear l8 f I J gk K h;go_wp2_with fail;go_region_law ((refine kc _ bf _ _ 121 bf 0 202 mR _ 7 80 underlying121 mY m5 ne nB rfl ak hu.e3 (M c.aj) (bC cA.h (c.aj.zip hu.fy)) bf ((d.aV.a _).e.aj) ⟨S (R s),0,none⟩ 1 1 (cA.h (⟨a.af.a1,false,a.gL,a.s.k,a.u.g.k,r,[]⟩,U none 0 0)) bf rfl (c4 (cB _ _ _ av)) rm ak cN T (bL _) (S (R s)+1) av ?_;intro N rR sY iU G iZ tB;have H:=(d.aV.a _).e.f3 G d.aV.cj ak;have nG:=H.aa 9;have tI:=H.b 9;simp[cp]at nG))
 all_goals
  obtain⟨oa,i0⟩:=(d.aV.a _).e.qW ⟨a.af.a1,false,a.gL,a.s.k,a.u.g.k,r,[]⟩ (U none 0 0) ((hV.dj (fv s _ none) (λ_ e=>by cases e)).dj (jm _ none) (λ_ e=>by cases e)) iU G (by simpa using iZ);have ob:=((d.bo.a _).e).trans i0;clear i0 iU G iZ H ih i l m o p iR hZ hV;go_wp2;go_ret;exact⟨jq T,_,_,oa,ob⟩
end
section
attribute [local go_sem↓] Go.wp_at_zero Go.wp_at_succ
theorem Tryz.zS:(prog.info? 48).map (λa=>(a.zero,a.size,a.bytes))=some (some (U none 0 0),1,24):=by kernel_rfl
def zF(i:List Nat)(l m:au):Prop:=∀(g:Nat->Nat) (L:aq) (f:Nat) (p:eU),bQ g L f p l->Calls prog 95 #[.pointer (some ⟨f,0,none⟩)] L λe q=>∃h,e=.returned h/\DG g L f i m h q
def t6:ByteArray:=⟨#[124]⟩
inductive s6 (ew:List (List Nat)) (bW:au):Nat->List (List Nat)->au->Prop
 |mc {eI:List (List Nat)} {Z:List Nat} {V cX:au}:eI.length<=10000->zF Z V cX->cX.aT=V.aT->cX.f t6=false->ew=eI++[Z]->bW=cX->s6 ew bW 0 eI V
 |f9 {n:Nat} {eI:List (List Nat)} {Z:List Nat} {V cX:au}:eI.length<=10000->zF Z V cX->cX.aT=V.aT->cX.f t6=true->s6 ew bW n (eI++[Z]) cX.g->s6 ew bW (n+1) eI V
def jA(i:Nat->Nat)(L:aq)(l:an)(e:List (List Nat))(m:Nat):Prop:=
 ∃f:List an,aY L 0 48 1 l (M e) f/\(∀N,ap l=some N->i N=9/\m<=N)/\M f=M e/\∀g,(h:g<M f)->(p:g<M e)->cZ i L f[g] e[g]
theorem jA.bo{u:List (List Nat)}{d:Nat}(h:jA ab L o u d)(b:aU ab L j y):jA j y o u d:=by obtain⟨e,h,c,f,g⟩:=h;exact⟨e,oP h (λN a=>by rw[(c N a).1];decide) b,λN a=>⟨(b.ci N (h.lt N a).2).trans (c N a).1,(c N a).2⟩,f,λi k l=>(g i k l).bo b⟩
theorem jA.cL(ab:Nat->Nat)(L:aq)(a:Nat):jA ab L (U none 0 0) [] a:=⟨[],eE _ _ _ _,λN b=>by simp[ap]at b,rfl,λc h=>by simp at h⟩
def Fa(i:Int)(l:List (List Nat))(m:au)(p:Nat->Nat)(L:aq)(q s:Nat)(t:Nat)(wr:aq):Prop:=
 ∃f e g v h,s6 l m t f e/\c2 e.aT/\mH p L q e g v s (kH i false cD 0 1 (-1) h) wr/\jA g wr h f (S (R L))
theorem D_(h:o.oneCell'=true):∀a∈[o],a.oneCell'=true:=λa b=>by simp at b;subst b;exact h
theorem cZ.cV(h:cZ ab L o u):∃a w r,o=U a w r:=by
 obtain⟨⟨b,h⟩,_⟩:=h;rcases h.2 with⟨rfl,_⟩|⟨N,c,d,rfl,_⟩
 ·exact⟨_,_,_,rfl⟩
 ·exact⟨_,_,_,rfl⟩
theorem cZ.kS(h:cZ ab L o u):o.oneCell'=true:=by obtain⟨⟨a,h⟩,_⟩:=h;rcases h.2 with⟨rfl,_⟩|⟨N,b,c,rfl,_⟩<;>rfl
theorem dZ.bo{u:List (List Nat)}(h:dZ ab L o u)(b:aU ab L j y):dZ j y o u:=by obtain⟨d,h,c,e,f⟩:=h;exact⟨d,oP h (λN a=>by rw[c N a];exact aN _) b,λN a=>(b.ci N (h.lt N a).2).trans (c N a),e,λg i k=>(f g i k).bo b⟩
theorem Hg{d:Nat->Nat}{i p:aq}{l:Nat}{A:eU}{B:Int}{q:an}{r:Obj}{c:List (List Nat)}{m:List an}(g:mH ab L b a d A k #[O Q B,cK false,az cD,O Q 0,O Q 1,O Q (-1),q] i)(hS:aY i 0 48 1 q (M c) m)(v:∀N,ap q=some N->d N=9/\S (R L)<=N)(C:M m=M c)(P:∀j,(h:j<M m)->(hV:j<M c)->cZ d i m[j] c[j])(gf:cZ d i o u)(s:b_ (ar i r) p (ap q))(w:ap q=some N\/N=S (R i)+1)(gg:aY p 0 48 1 (U (some ⟨N,0,none⟩) (M c+1) l) (M c+1) (m++[o])):mH ab L b a (aO d N 9) A k #[O Q B,cK false,az cD,O Q 0,O Q 1,O Q (-1),U (some ⟨N,0,none⟩) (M c+1) l] (ay p ⟨k,6,none⟩ (U (some ⟨N,0,none⟩) (M c+1) l))/\
 jA (aO d N 9) (ay p ⟨k,6,none⟩ (U (some ⟨N,0,none⟩) (M c+1) l)) (U (some ⟨N,0,none⟩) (M c+1) l) (c++[u]) (S (R L)):=by
 have t:∀f,ap q=some f->d f=9:=λf x=>(v f x).1
 have y:ap q=some N\/N=S (R (ar i r)):=by simpa using w
 have D:k≠N:=λe=>by
  rcases w with E|E
  ·have:=t N E;rw[<-e,g.cG]at this;cases this
  ·have:=g.ax.am;omega
 have z:aO d N 9 k=8:=by rw[cR _ _ _ _ D];exact g.cG
 have gj:S (R L)<=N:=by
  rcases w with e|e
  ·exact(v N e).2
  ·have:=g.bo.b5;omega
 have gC:=((g.aV.a r).nG 9 ak t s y);have gE:=(g.bo.a r).nG 9 s (λf x=>(v f x).2) y;have gF:aL p k _ 202:=(g.ax.a r).f3 g.cG s t ak;have F:=fU p ⟨k,6,none⟩ (U (some ⟨N,0,none⟩) (M c+1) l);have gL:∀f,some k=some f->aO d N 9 f≠7:=λf e=>by cases e;rw[z];decide
 have G:∀{H:an} {I:List Nat},cZ d i H I->cZ (aO d N 9) (ay p ⟨k,6,none⟩ (U (some ⟨N,0,none⟩) (M c+1) l)) H I:=λg1=>((g1.dj (fv i r none) (λ_ e=>by cases e)).oH 9 s t ak y).dj F gL
 refine⟨⟨gC.A (ai:=⟨k,6,none⟩) z _,gE.D (ai:=⟨k,6,none⟩) g.bT _,?_,z,g.bT⟩,m++[o],?_,λf e=>by cases e;exact⟨cy _ _ _,gj⟩,by simp[C],?_⟩
 ·have:=gF.j 6 (U (some ⟨N,0,none⟩) (M c+1) l);simpa using this
 ·have:=gg.kept F (.inr (by simp[ap];exact hO D));simpa using this
 ·intro j hu hZ;by_cases J:j<M m
  ·have K:j<M c:=by omega
   rw[iz J,iz K];exact G (P j J K)
  ·have hE:j=M m:=by simp at hu;omega
   subst hE;rw[iV (aN _),iV T];simp[C];exact G gf
theorem Ht(a:au):a.c8.aj=a.aj:=yF
theorem Cl(a:au)(b:ByteArray):(a.c5 b).aj=a.aj:=by unfold au.c5;split;rfl;exact Ht a
theorem Nf(a:au)(b:ByteArray):(a.c8.c5 b).aj=a.aj:=by rw[Cl,Ht]
theorem TC{g1:List (List Nat)}{g:Nat}(lo:c2 a.aT)(m5:a.f ⟨#[40]⟩=true)(y5:a.bz<=1000000)(rR:s6 g1 c w [] (a.g.B a.af.a1))(gE:c.bz=g+1)(Fi:g<=1000000)(l8:M c.aj<=100000):
 oJ (M c.aj) a (({c with bz:=g}.i2 g1).l8 ⟨a.af.a1,false,cD,0,1, -1,g1⟩):=by
 intro ab L b z h;have zc:ag (a.f ⟨#[40]⟩=true):=m5;have zS:ag (a.t ⟨#[40]⟩=a.g):=by show _=_;simp[au.t,m5,au.g]
 have z_:ag (c.bz=g+1):=gE;have Ai:a.g.bz<=1000000:=y5;have Ak:=sg;clear m5 gE;go_enter func143,ntmps143;go_wp2_with fail;refine(fJ h).mono ?_;rintro e FM ⟨rfl,Aq,rfl⟩;go_wp2_with fail;have d:=sK h Aq (kH a.af.a1 false cD 0 1 (-1) (U none 0 0));unfold kH at d;refine(fq d.aV lo.b8 _).mono ?_;rintro e x ⟨rfl,ne,sY⟩;rw[zc.out];rw[zS.out]at ne;replace d:=d.q ne sY;clear ne sY Ak;generalize(S (R L))+1=k at*;generalize aO ab k 8=Az at*;have C:=d.ax.aa 0;simp at C;go_wp2_with fail;refine(Aw d.aV _ Ai).mono ?_;rintro e AE ⟨rfl,tB,tI⟩;replace d:=d.q tB tI;clear tB tI C;go_wp2_with fail;have t8:Fa a.af.a1 g1 c ab L b k w AE:=⟨[],_,Az,z,U none 0 0,rR,lo,d,jA.cL _ _ _⟩;clear rR d h
 go_loopg [] w (λg wr=>Fa a.af.a1 g1 c ab L b k g wr)
 case atStart=>exact t8
 case round=>
  obtain⟨f,F2,j,ub,me,nB,ug,d,gF⟩:=hrel;clear t8;unfold kH at d;obtain⟨uY,vE,wz,wB,xf⟩:=dY Tryz.zS;cases nB with
  |@mc _ u _ hu AV nG mn oa AW Bg=>
   subst AW Bg;obtain⟨s,l,i,q,r⟩:=gF;go_wp2_with fail;refine(nG j wr b ub d.aV).mono ?_;rintro e D ⟨o,rfl,hE,E,hS,F,y⟩;have gF:jA hE D me f (S (R L)):=jA.bo ⟨s,l,i,q,r⟩ F;replace d:=d.q hS F;clear hS F l i q r s;obtain⟨s,l,i,q,r⟩:=gF;have m:=d.ax.aa 6;have ob:=d.ax.b 6;simp at m;have hV:=d.ax.am;have hZ:=y.kS;obtain⟨oH,oS,o6,rfl⟩:=y.cV;go_wp2_with(at_builtin;refine dq _ rfl (.tmp 23) (.tmp 25) 40 rfl 0 48 uY _ 1 24 underlying40 vE wz wB xf rfl ak me (M f) s bf (l.alloc _) ⟨S (R D),0,none⟩ 1 1 [U oH oS o6] bf rfl (c4 (cB _ _ _ gx)) (D_ hZ) ak cN T (bL _) (S (R D)+1) gx ?_;intro N A pa t p v Bo;have G:=(d.ax.a _).f3 d.cG p (λg gE=>(i g gE).1) ak;have ih:=G.aa 6;have py:=G.b 6;simp at ih);obtain⟨iR,H⟩:=Hg d l i q r y p v t;clear d l i q r y p v t m ob ih py G hZ hV;have d:=iR;clear iR;generalize(ay pa) ⟨k,6,none⟩ (U (some ⟨N,0,none⟩) (M f+1) A)=Bt at*;generalize aO hE N 9=iU at*;have mO:ag (c.t t6=c):=by show _=_;simp[au.t,oa]
   have iZ:c2 c.aT:=by rw[mn];exact ug
   refine(fq d.aV iZ.b8 t6).mono ?_;rintro e mR ⟨rfl,I,J⟩;rw[oa];rw[mO.out]at I;replace d:=d.q I J;replace H:=H.bo J;clear I J;have mY:=d.aV.aa 3;have xk:=d.aV.ax.b 3;simp[cp]at mY;rw[z_.out]at mY;have m:=d.ax.aa 6;simp at m;have xr:=d.gV;have F4:=hO xr;obtain⟨s,l,i,q,r⟩:=H;have K:iU N=9:=(i N rfl).1;have B:mH ab L b {c with bz:=g} (aO iU N 7) E k #[O Q a.af.a1,cK false,az cD,O Q 0,O Q 1,O Q (-1),U (some ⟨N,0,none⟩) (M f+1) A] (ay mR ⟨b,3,none⟩ (O Q g)):=⟨(d.aV.gE (bW:={c with bz:=g}) 3 _ oM rfl rfl rfl rfl rfl rfl d.aV.cY d.aV.ej).mR 7 (by rw[K];decide),⟨λi0 BE=>by rw[cR _ _ _ _ (by have:=(i N rfl).2;omega)];exact d.bo.ci i0 BE,(d.bo.v (ai:=⟨b,3,none⟩) d.aV.K _).db⟩,d.ax.i0 _ _ (by simpa using xr),by rw[cR _ _ _ _ (λe=>by rw[<-e,d.cG]at K;cases K)];exact d.cG,d.bT⟩
   have pF:=fU mR ⟨b,3,none⟩ (O Q g);have gL:dZ (aO iU N 7) (ay mR ⟨b,3,none⟩ (O Q g)) (U (some ⟨N,0,none⟩) (M f+1) A) (f++[u]):=
    ⟨s,l.kept pF (.inr (λe=>by have BH:N=b:=by simpa[ap]using e
                               rw[BH,d.aV.dN]at K;cases K)),λi0 e=>by cases e;exact cy _ _ _,q,
     λi0 BN BP=>((r i0 BN BP).dj pF (λi0 e=>by cases e;rw[d.aV.dN];decide)).mR (by rw[K];decide)⟩
   have ys:c2 ({c with bz:=g}:au).aT:=iZ;clear d l i q r K pF mO oa mn;by_cases Ga:M f+1<2
   ·have BV:(M f:Int)+1<2:=by omega
    have i1:ag (({c with bz:=g}:au).i2 (f++[u])=({c with bz:=g}:au).c8.c5 ⟨#[41]⟩):=by show _=_;simp only[au.i2,bV,dT,d5];rw[aP T]
    have i2:ag ((({c with bz:=g}:au).i2 (f++[u])).aj=c.aj):=by show _=_;rw[i1.out];exact Nf _ _
    go_wp2_with fail;clear mY xk m;refine(lb B.aV).mono ?_;rintro e Gl ⟨rfl,yC,pR⟩;replace B:=B.q yC pR;replace gL:=gL.bo pR;clear yC pR;go_wp2_with fail;have Cs:c2 ({c with bz:=g}:au).c8.aT:=by rw[sh];exact ys
    refine(oA B.aV Cs.b8 _).mono ?_;rintro e P ⟨rfl,gf,gg⟩;rw[<-i1.out]at gf;have d:=B.q gf gg;have jt:=gL.bo gg;clear B gL gf gg;have l8:M (({c with bz:=g}:au).i2 (f++[u])).aj<=100000:=by rw[i2.out];exact l8
    generalize jW:({c with bz:=g}:au).i2 (f++[u])=gj at*;have pU:ag (({c with bz:=g}:au).i2 (f++[u])=gj):=jW;clear jW;have j4:=d.aV.aa 9;simp[cp]at j4;have C:=d.ax.aa 0;have j9:=d.ax.aa 1;have kp:=d.ax.aa 2;have kr:=d.ax.aa 3;have kx:=d.ax.aa 4;have k1:=d.ax.aa 5;have m:=d.ax.aa 6;simp at C j9 kp kr kx k1 m;have Cz:=d.aV.ax.am;have hV:=d.ax.am;obtain⟨pX,pZ,qp,qt,qP⟩:=dY Tryz.qP;clear lo;go_wp2_with fail;go_region_law ((refine kc _ bf _ _ 121 bf 0 202 pX _ 7 80 underlying121 pZ qp qt qP rfl ak E.e3 (M gj.aj) (bC cA.h (gj.aj.zip E.fy)) bf ((d.aV.a _).e.aj) ⟨S (R P),0,none⟩ 1 1 (cA.h (⟨a.af.a1,false,cD,0,1, -1,(f++[u])⟩,U (some ⟨N,0,none⟩) (M f+1) A)) bf rfl (c4 (cB _ _ _ av)) rm ak cN T (bL _) (S (R P)+1) av ?_;intro CS DM D7 t p v D9;have gC:=(d.aV.a _).e.f3 p d.aV.cj ak;have qW:=gC.aa 9;have El:=gC.b 9;simp[cp]at qW))
    all_goals
     obtain⟨ra,k7⟩:=(d.aV.a _).e.qW ⟨a.af.a1,false,cD,0,1, -1,(f++[u])⟩ (U (some ⟨N,0,none⟩) (M f+1) A) ((jt.dj (fv P _ none) (λ_ e=>by cases e)).dj (jm _ none) (λ_ e=>by cases e)) t p (by simpa using v);have rA:=((d.bo.a _).e).trans k7;clear k7 t p v gC C j9 kp kr kx k1 m j4 jt;go_wp2;go_ret;rw[pU.out];exact⟨jq (by rw[<-i2.out]),_,_,ra,rA⟩
   ·have BV:2<=(M f:Int)+1:=by omega
    have i1:ag (({c with bz:=g}:au).i2 (f++[u])=({c with bz:=g}:au).c5 ⟨#[41]⟩):=by show _=_;simp only[au.i2,bV,dT,d5];rw[aH T]
    have i2:ag ((({c with bz:=g}:au).i2 (f++[u])).aj=c.aj):=by show _=_;rw[i1.out];exact Cl _ _
    go_wp2_with fail;clear mY xk m;refine(oA B.aV ys.b8 _).mono ?_;rintro e P ⟨rfl,gf,gg⟩;rw[<-i1.out]at gf;have d:=B.q gf gg;have jt:=gL.bo gg;clear B gL gf gg;have l8:M (({c with bz:=g}:au).i2 (f++[u])).aj<=100000:=by rw[i2.out];exact l8
    generalize jW:({c with bz:=g}:au).i2 (f++[u])=gj at*;have pU:ag (({c with bz:=g}:au).i2 (f++[u])=gj):=jW;clear jW;have j4:=d.aV.aa 9;simp[cp]at j4;have C:=d.ax.aa 0;have j9:=d.ax.aa 1;have kp:=d.ax.aa 2;have kr:=d.ax.aa 3;have kx:=d.ax.aa 4;have k1:=d.ax.aa 5;have m:=d.ax.aa 6;simp at C j9 kp kr kx k1 m;have Cz:=d.aV.ax.am;have hV:=d.ax.am;obtain⟨pX,pZ,qp,qt,qP⟩:=dY Tryz.qP;clear lo;go_wp2_with fail;go_region_law ((refine kc _ bf _ _ 121 bf 0 202 pX _ 7 80 underlying121 pZ qp qt qP rfl ak E.e3 (M gj.aj) (bC cA.h (gj.aj.zip E.fy)) bf ((d.aV.a _).e.aj) ⟨S (R P),0,none⟩ 1 1 (cA.h (⟨a.af.a1,false,cD,0,1, -1,(f++[u])⟩,U (some ⟨N,0,none⟩) (M f+1) A)) bf rfl (c4 (cB _ _ _ av)) rm ak cN T (bL _) (S (R P)+1) av ?_;intro CS DM D7 t p v D9;have gC:=(d.aV.a _).e.f3 p d.aV.cj ak;have qW:=gC.aa 9;have El:=gC.b 9;simp[cp]at qW))
    all_goals
     obtain⟨ra,k7⟩:=(d.aV.a _).e.qW ⟨a.af.a1,false,cD,0,1, -1,(f++[u])⟩ (U (some ⟨N,0,none⟩) (M f+1) A) ((jt.dj (fv P _ none) (λ_ e=>by cases e)).dj (jm _ none) (λ_ e=>by cases e)) t p (by simpa using v);have rA:=((d.bo.a _).e).trans k7;clear k7 t p v gC C j9 kp kr kx k1 m j4 jt;go_wp2;go_ret;rw[pU.out];exact⟨jq (by rw[<-i2.out]),_,_,ra,rA⟩
  |@f9 ET _ u _ hu AV nG mn y2 nB=>
   obtain⟨s,l,i,q,r⟩:=gF;go_wp2_with fail;refine(nG j wr b ub d.aV).mono ?_;rintro e D ⟨o,rfl,hE,E,hS,F,y⟩;have gF:jA hE D me f (S (R L)):=jA.bo ⟨s,l,i,q,r⟩ F;replace d:=d.q hS F;clear hS F l i q r s;obtain⟨s,l,i,q,r⟩:=gF;have m:=d.ax.aa 6;have ob:=d.ax.b 6;simp at m;have hV:=d.ax.am;have hZ:=y.kS;obtain⟨oH,oS,o6,rfl⟩:=y.cV;go_wp2_with(at_builtin;refine dq _ rfl (.tmp 23) (.tmp 25) 40 rfl 0 48 uY _ 1 24 underlying40 vE wz wB xf rfl ak me (M f) s bf (l.alloc _) ⟨S (R D),0,none⟩ 1 1 [U oH oS o6] bf rfl (c4 (cB _ _ _ gx)) (D_ hZ) ak cN T (bL _) (S (R D)+1) gx ?_;intro N A pa t p v Bo;have G:=(d.ax.a _).f3 d.cG p (λg gE=>(i g gE).1) ak;have ih:=G.aa 6;have py:=G.b 6;simp at ih);obtain⟨iR,H⟩:=Hg d l i q r y p v t;clear d l i q r y p v t m ob ih py G hZ hV;have d:=iR;clear iR;generalize(ay pa) ⟨k,6,none⟩ (U (some ⟨N,0,none⟩) (M f+1) A)=Bt at*;generalize aO hE N 9=iU at*;have mO:ag (hu.t t6=hu.g):=by show _=_;simp[au.t,y2,au.g]
   have iZ:c2 hu.aT:=by rw[mn];exact ug
   refine(fq d.aV iZ.b8 t6).mono ?_;rintro e mR ⟨rfl,I,J⟩;rw[y2];rw[mO.out]at I;replace d:=d.q I J;replace H:=H.bo J;clear I J;go_wp2_with fail
   go_roundg ET
   case measure=>omega
   case rel=>exact⟨f++[u],hu.g,iU,E,_,nB,iZ,d,H⟩
end
theorem uk:yielded.match_1 (λ_=>Option Bool) (some undef) (λb=>some b) (λ_=>none)=none:=rfl
inductive pH (dE:Nat) (aQ:Int) (bW:au):Nat->Int->au->Prop
 |mc {bj:Int} {V:au}:(V.af.gf dE&&decide (V.bk<0))=false->aQ=bj->bW=V->pH dE aQ bW 0 bj V
 |f9 {n:Nat} {bj X:Int} {V cX:au}:V.bk<0->V.af.gf dE=true->ie (dE+1) V.g X cX->cX.aT=V.aT->cX.aC.length<=100000->pH dE aQ bW n cX.aC.length (cX.gC ⟨V.af.a8,bj,X,0,cD,cD,0⟩)->pH dE aQ bW (n+1) bj V
def q0(g:Nat)(h:Int)(i:au)(l:Nat->Nat)(L:aq)(m:Nat)(p:Nat)(q:an)(wr:aq):Prop:=
 ∃ac e f s,pH g h i p ac e/\c2 e.aT/\q=O Q ac/\bQ f wr m s e/\aU l L f wr
section
attribute [local go_sem] uk
theorem Ql(g1:a.bk<0)(u:ie 1 a E c)(v:pH 0 B d w E c)(C:c2 c.aT):ie 0 a B d:=by
 intro ab L b z h;have l:=h.aa 2;simp[cp]at l;go_enter func177,ntmps177;simp only[zY,nH,fa];go_wp2_with(go_at_call 177;refine(u ab L b z h).mono ?_;rintro e x ⟨rfl,A,D,F,G⟩);have H:q0 0 B d ab L b w (O Q E) x:=⟨E,c,A,D,v,C,rfl,F,G⟩;clear v F G C u
 go_loopg [9] w (λI hu wr=>q0 0 B d ab L b I hu wr)
 case atStart=>exact H
 case round=>
  obtain⟨ac,f,j,o,r,J,rfl,i,p⟩:=hrel;clear H h l g1;have l:=i.aa 2;have K:=i.aa 1;simp[cp]at l K;have hE:=i.ax.b 1;have k7:=i.ax.am;have lo:b<S (R wr)+1:=T;have l8:=i.cY;have me:=i.ia;cases r with
  |mc s hS hV=>
   subst hS hV;by_cases t:d.bk<0
   ·have q:d.af.gf 0=false:=by simpa[t]using s
    clear s;by_cases k:d.af.ao=0
    ·have P:((d.af.ao:Int)==0)=true:=by simp[k]
     have gf:ag (d.af.ao=0):=k;have hZ:(aJ d.af.a8==[111,114])=false:=by simp[bN.gf,k]at q;simp[q]
     clear q k;go_wp2_with(go_at_call 96;refine(fJ i).mono ?_;rintro e y ⟨rfl,g,rfl⟩);go_ret;exact⟨rfl,j,o,((i.a _).a _).e,((p.a _).a _).e⟩
    ·have P:((d.af.ao:Int)==0)=false:=by rw[di];omega
     have gf:ag (¬d.af.ao=0):=k;clear q k;go_wp2_with(go_at_call 96;refine(fJ i).mono ?_;rintro e y ⟨rfl,g,rfl⟩);go_ret;exact⟨rfl,j,o,((i.a _).a _).e,((p.a _).a _).e⟩
   ·have mn:0<=d.bk:=by omega
    clear t s;go_wp2_with fail;go_ret;exact⟨rfl,j,o,i,p⟩
  |@f9 ih _ iR _ gg t m iU gj iZ r=>
   have k:f.af.ao=0:=by simp[bN.gf]at m;exact m.1
   have i0:ag (f.al+1<M f.aT):=J.b8.q i.cY T;have i1:ag (c2 (gg.gC ⟨f.af.a8,ac,iR,0,cD,cD,0⟩).aT):=by show c2 gg.aT;rw[gj];exact J
   have P:((f.af.ao:Int)==0)=true:=by simp[k]
   have gf:ag (f.af.ao=0):=k;have i2:=p5 i (S (R wr)+1) T;have jt:aO j (S (R wr)+1) 7 (S (R wr)+1)=7:=cy _ _ _;have jW:=λg=>sr wr g (ds f) 150
   have gC:∀g,aL (ar (ar (ay wr ⟨b,1,none⟩ (O Q (f.al+1))) g) (aw (ds f) 150)).drew (S (R wr)+1) (ds f) 150:=λg=>cB _ _ _ av
   have gE:∀g,aU j wr (aO j (S (R wr)+1) 7) (ar (ar (ay wr ⟨b,1,none⟩ (O Q (f.al+1))) g) (aw (ds f) 150)).drew:=λg=>⟨λI k=>cR _ _ _ _ T,((((aU.l j wr).v (ai:=⟨b,1,none⟩) i.K _).a g).a _).e.db⟩
   have gF:∀g,bQ (aO j (S (R wr)+1) 7) (ar (ar (ay wr ⟨b,1,none⟩ (O Q (f.al+1))) g) (aw (ds f) 150)).drew b o f.g:=λg=>(((i2.gE (bW:=f.g) 1 _ mg rfl rfl rfl rfl rfl rfl i0.out i.ej).a _).a _).e
   unfold ds at gC gE gF;clear jW;have hZ:(aJ f.af.a8==[111,114])=true:=by simp[bN.gf,k]at m;simp[m]
   clear m k gj;go_wp2_with(go_at_call 96;refine(fJ i).mono ?_;rintro e y ⟨rfl,g,rfl⟩);refine(iU _ _ _ _ (gF g)).mono ?_;rintro e mO ⟨rfl,mR,mY,j4,gL⟩;have j9:=(gL.ax jt (gC g)).aa 1;simp at j9;clear K l hE;go_wp2_with fail;refine(ic j4 _ _ _ _ _ _ _ iZ).mono ?_;rintro e m5 ⟨rfl,kp,kr,kx,k1⟩;go_wp2_with fail
   go_roundg ih
   case measure=>omega
   case rel=>exact⟨_,_,kp,kr,r,i1.out,rfl,kx,((p.trans (gE g)).trans gL).trans k1⟩
end
section
attribute [local go_sem] uk
theorem Rd(g1:a.bk<0)(u:ie 2 a E c)(v:pH 1 B d w E c)(C:c2 c.aT):ie 1 a B d:=by
 intro ab L b z h;have l:=h.aa 2;simp[cp]at l;go_enter func177,ntmps177;simp only[zY,nH,fa];go_wp2_with(go_at_call 177;refine(u ab L b z h).mono ?_;rintro e x ⟨rfl,A,D,F,G⟩);have H:q0 1 B d ab L b w (O Q E) x:=⟨E,c,A,D,v,C,rfl,F,G⟩;clear v F G C u
 go_loopg [9] w (λI hu wr=>q0 1 B d ab L b I hu wr)
 case atStart=>exact H
 case round=>
  obtain⟨ac,f,j,o,r,J,rfl,i,p⟩:=hrel;clear H h l g1;have l:=i.aa 2;have K:=i.aa 1;simp[cp]at l K;have hE:=i.ax.b 1;have k7:=i.ax.am;have lo:b<S (R wr)+1:=T;have l8:=i.cY;have me:=i.ia;cases r with
  |mc s hS hV=>
   subst hS hV;by_cases t:d.bk<0
   ·have q:d.af.gf 1=false:=by simpa[t]using s
    clear s;by_cases k:d.af.ao=0
    ·have P:((d.af.ao:Int)==0)=true:=by simp[k]
     have gf:ag (d.af.ao=0):=k;have hZ:(aJ d.af.a8==[97,110,100])=false:=by simp[bN.gf,k]at q;simp[q]
     clear q k;go_wp2_with(go_at_call 96;refine(fJ i).mono ?_;rintro e y ⟨rfl,g,rfl⟩);go_ret;exact⟨rfl,j,o,((i.a _).a _).e,((p.a _).a _).e⟩
    ·have P:((d.af.ao:Int)==0)=false:=by rw[di];omega
     have gf:ag (¬d.af.ao=0):=k;clear q k;go_wp2_with(go_at_call 96;refine(fJ i).mono ?_;rintro e y ⟨rfl,g,rfl⟩);go_ret;exact⟨rfl,j,o,((i.a _).a _).e,((p.a _).a _).e⟩
   ·have mn:0<=d.bk:=by omega
    clear t s;go_wp2_with fail;go_ret;exact⟨rfl,j,o,i,p⟩
  |@f9 ih _ iR _ gg t m iU gj iZ r=>
   have k:f.af.ao=0:=by simp[bN.gf]at m;exact m.1
   have i0:ag (f.al+1<M f.aT):=J.b8.q i.cY T;have i1:ag (c2 (gg.gC ⟨f.af.a8,ac,iR,0,cD,cD,0⟩).aT):=by show c2 gg.aT;rw[gj];exact J
   have P:((f.af.ao:Int)==0)=true:=by simp[k]
   have gf:ag (f.af.ao=0):=k;have i2:=p5 i (S (R wr)+1) T;have jt:aO j (S (R wr)+1) 7 (S (R wr)+1)=7:=cy _ _ _;have jW:=λg=>sr wr g (ds f) 150
   have gC:∀g,aL (ar (ar (ay wr ⟨b,1,none⟩ (O Q (f.al+1))) g) (aw (ds f) 150)).drew (S (R wr)+1) (ds f) 150:=λg=>cB _ _ _ av
   have gE:∀g,aU j wr (aO j (S (R wr)+1) 7) (ar (ar (ay wr ⟨b,1,none⟩ (O Q (f.al+1))) g) (aw (ds f) 150)).drew:=λg=>⟨λI k=>cR _ _ _ _ T,((((aU.l j wr).v (ai:=⟨b,1,none⟩) i.K _).a g).a _).e.db⟩
   have gF:∀g,bQ (aO j (S (R wr)+1) 7) (ar (ar (ay wr ⟨b,1,none⟩ (O Q (f.al+1))) g) (aw (ds f) 150)).drew b o f.g:=λg=>(((i2.gE (bW:=f.g) 1 _ mg rfl rfl rfl rfl rfl rfl i0.out i.ej).a _).a _).e
   unfold ds at gC gE gF;clear jW;have hZ:(aJ f.af.a8==[97,110,100])=true:=by simp[bN.gf,k]at m;simp[m]
   clear m k gj;go_wp2_with(go_at_call 96;refine(fJ i).mono ?_;rintro e y ⟨rfl,g,rfl⟩);refine(iU _ _ _ _ (gF g)).mono ?_;rintro e mO ⟨rfl,mR,mY,j4,gL⟩;have j9:=(gL.ax jt (gC g)).aa 1;simp at j9;clear K l hE;go_wp2_with fail;refine(ic j4 _ _ _ _ _ _ _ iZ).mono ?_;rintro e m5 ⟨rfl,kp,kr,kx,k1⟩;go_wp2_with fail
   go_roundg ih
   case measure=>omega
   case rel=>exact⟨_,_,kp,kr,r,i1.out,rfl,kx,((p.trans (gE g)).trans gL).trans k1⟩
end
section
attribute [local go_sem] uk
theorem KV(j4:a.bk<0)(gC:ie 4 a E c)(gE:pH 3 B d w E c)(gF:c2 c.aT):ie 3 a B d:=by
 intro ab L b z h;have l:=h.aa 2;simp[cp]at l;go_enter func177,ntmps177;simp only[zY,nH,fa];go_wp2_with(go_at_call 177;refine(gC ab L b z h).mono ?_;rintro e x ⟨rfl,A,D,gL,g1⟩);have hu:q0 3 B d ab L b w (O Q E) x:=⟨E,c,A,D,gE,gF,rfl,gL,g1⟩;clear gE gL g1 gF gC
 go_loopg [9] w (λhE j9 wr=>q0 3 B d ab L b hE j9 wr)
 case atStart=>exact hu
 case round=>
  obtain⟨ac,f,j,s,t,hS,rfl,i,o⟩:=hrel;clear hu h l j4;have l:=i.aa 2;have v:=i.aa 1;simp[cp]at l v;have hV:=i.ax.b 1;have mR:=i.ax.am;have mY:b<S (R wr)+1:=T;have m5:=i.cY;have ne:=i.ia;cases t with
  |mc C kp p=>
   subst kp p;by_cases F:d.bk<0
   ·have m:d.af.gf 3=false:=by simpa[F]using C
    clear C;by_cases k:d.af.ao=2
    ·have hZ:((d.af.ao:Int)==2)=true:=by simp[k]
     have ih:ag (d.af.ao=2):=k;have iR:(aJ d.af.a8==[43])=false:=by simp[bN.gf,k]at m;simp[m]
     have kr:(aJ d.af.a8==[45])=false:=by simp[bN.gf,k]at m;simp[m]
     clear m k;go_wp2_with(go_at_call 96;refine(fJ i).mono ?_;rintro e y ⟨rfl,g,rfl⟩);go_ret;exact⟨rfl,j,s,((i.a _).a _).e,((o.a _).a _).e⟩
    ·have hZ:((d.af.ao:Int)==2)=false:=by rw[di];omega
     have ih:ag (¬d.af.ao=2):=k;clear m k;go_wp2_with(go_at_call 96;refine(fJ i).mono ?_;rintro e y ⟨rfl,g,rfl⟩);go_ret;exact⟨rfl,j,s,((i.a _).a _).e,((o.a _).a _).e⟩
   ·have nB:0<=d.bk:=by omega
    clear F C;go_wp2_with fail;go_ret;exact⟨rfl,j,s,i,o⟩
  |@f9 iU _ kx _ iZ F u i0 i1 i2 t=>
   have k:f.af.ao=2:=by simp[bN.gf]at u;exact u.1
   have k1:ag (f.al+1<M f.aT):=hS.b8.q i.cY T;have jt:ag (c2 (iZ.gC ⟨f.af.a8,ac,kx,0,cD,cD,0⟩).aT):=by show c2 iZ.aT;rw[i1];exact hS
   have hZ:((f.af.ao:Int)==2)=true:=by simp[k]
   have ih:ag (f.af.ao=2):=k;have k7:=p5 i (S (R wr)+1) T;have jW:aO j (S (R wr)+1) 7 (S (R wr)+1)=7:=cy _ _ _;have lo:=λg=>sr wr g (ds f) 150
   have G:∀g,aL (ar (ar (ay wr ⟨b,1,none⟩ (O Q (f.al+1))) g) (aw (ds f) 150)).drew (S (R wr)+1) (ds f) 150:=λg=>cB _ _ _ av
   have H:∀g,aU j wr (aO j (S (R wr)+1) 7) (ar (ar (ay wr ⟨b,1,none⟩ (O Q (f.al+1))) g) (aw (ds f) 150)).drew:=λg=>⟨λhE k=>cR _ _ _ _ T,((((aU.l j wr).v (ai:=⟨b,1,none⟩) i.K _).a g).a _).e.db⟩
   have I:∀g,bQ (aO j (S (R wr)+1) 7) (ar (ar (ay wr ⟨b,1,none⟩ (O Q (f.al+1))) g) (aw (ds f) 150)).drew b s f.g:=λg=>(((k7.gE (bW:=f.g) 1 _ mg rfl rfl rfl rfl rfl rfl k1.out i.ej).a _).a _).e
   unfold ds at G H I;clear lo;have p:aJ f.af.a8=[43]\/aJ f.af.a8=[45]:=by simpa[bN.gf,k]using u
   clear u k i1;by_cases q:aJ f.af.a8=[43]
   ·have iR:(aJ f.af.a8==[43])=true:=by simp[q]
    clear q p;go_wp2_with(go_at_call 96;refine(fJ i).mono ?_;rintro e y ⟨rfl,g,rfl⟩);refine(i0 _ _ _ _ (I g)).mono ?_;rintro e l8 ⟨rfl,me,mn,J,r⟩;have K:=(r.ax jW (G g)).aa 1;simp at K;clear v l hV;go_wp2_with fail;refine(ic J _ _ _ _ _ _ _ i2).mono ?_;rintro e mO ⟨rfl,P,gf,gg,gj⟩;go_wp2_with fail
    go_roundg iU
    case measure=>omega
    case rel=>exact⟨_,_,P,gf,t,jt.out,rfl,gg,((o.trans (H g)).trans r).trans gj⟩
   ·have iR:(aJ f.af.a8==[43])=false:=by simp[q]
    have kr:(aJ f.af.a8==[45])=true:=by rcases p with h|h;exact absurd h q;simp[h]
    clear q p;go_wp2_with(go_at_call 96;refine(fJ i).mono ?_;rintro e y ⟨rfl,g,rfl⟩);refine(i0 _ _ _ _ (I g)).mono ?_;rintro e l8 ⟨rfl,me,mn,J,r⟩;have K:=(r.ax jW (G g)).aa 1;simp at K;clear v l hV;go_wp2_with fail;refine(ic J _ _ _ _ _ _ _ i2).mono ?_;rintro e mO ⟨rfl,P,gf,gg,gj⟩;go_wp2_with fail
    go_roundg iU
    case measure=>omega
    case rel=>exact⟨_,_,P,gf,t,jt.out,rfl,gg,((o.trans (H g)).trans r).trans gj⟩
end
section
attribute [local go_sem] uk
theorem J6(j4:a.bk<0)(gC:ie 5 a E c)(gE:pH 4 B d w E c)(gF:c2 c.aT):ie 4 a B d:=by
 intro ab L b z h;have l:=h.aa 2;simp[cp]at l;go_enter func177,ntmps177;simp only[zY,nH,fa];go_wp2_with(go_at_call 177;refine(gC ab L b z h).mono ?_;rintro e x ⟨rfl,A,D,gL,g1⟩);have hu:q0 4 B d ab L b w (O Q E) x:=⟨E,c,A,D,gE,gF,rfl,gL,g1⟩;clear gE gL g1 gF gC
 go_loopg [9] w (λhE j9 wr=>q0 4 B d ab L b hE j9 wr)
 case atStart=>exact hu
 case round=>
  obtain⟨ac,f,j,s,t,hS,rfl,i,o⟩:=hrel;clear hu h l j4;have l:=i.aa 2;have v:=i.aa 1;simp[cp]at l v;have hV:=i.ax.b 1;have mR:=i.ax.am;have mY:b<S (R wr)+1:=T;have m5:=i.cY;have ne:=i.ia;cases t with
  |mc C kp p=>
   subst kp p;by_cases F:d.bk<0
   ·have m:d.af.gf 4=false:=by simpa[F]using C
    clear C;by_cases k:d.af.ao=2
    ·have hZ:((d.af.ao:Int)==2)=true:=by simp[k]
     have ih:ag (d.af.ao=2):=k;have iR:(aJ d.af.a8==[42])=false:=by simp[bN.gf,k]at m;simp[m]
     have kr:(aJ d.af.a8==[47])=false:=by simp[bN.gf,k]at m;simp[m]
     clear m k;go_wp2_with(go_at_call 96;refine(fJ i).mono ?_;rintro e y ⟨rfl,g,rfl⟩);go_ret;exact⟨rfl,j,s,((i.a _).a _).e,((o.a _).a _).e⟩
    ·have hZ:((d.af.ao:Int)==2)=false:=by rw[di];omega
     have ih:ag (¬d.af.ao=2):=k;clear m k;go_wp2_with(go_at_call 96;refine(fJ i).mono ?_;rintro e y ⟨rfl,g,rfl⟩);go_ret;exact⟨rfl,j,s,((i.a _).a _).e,((o.a _).a _).e⟩
   ·have nB:0<=d.bk:=by omega
    clear F C;go_wp2_with fail;go_ret;exact⟨rfl,j,s,i,o⟩
  |@f9 iU _ kx _ iZ F u i0 i1 i2 t=>
   have k:f.af.ao=2:=by simp[bN.gf]at u;exact u.1
   have k1:ag (f.al+1<M f.aT):=hS.b8.q i.cY T;have jt:ag (c2 (iZ.gC ⟨f.af.a8,ac,kx,0,cD,cD,0⟩).aT):=by show c2 iZ.aT;rw[i1];exact hS
   have hZ:((f.af.ao:Int)==2)=true:=by simp[k]
   have ih:ag (f.af.ao=2):=k;have k7:=p5 i (S (R wr)+1) T;have jW:aO j (S (R wr)+1) 7 (S (R wr)+1)=7:=cy _ _ _;have lo:=λg=>sr wr g (ds f) 150
   have G:∀g,aL (ar (ar (ay wr ⟨b,1,none⟩ (O Q (f.al+1))) g) (aw (ds f) 150)).drew (S (R wr)+1) (ds f) 150:=λg=>cB _ _ _ av
   have H:∀g,aU j wr (aO j (S (R wr)+1) 7) (ar (ar (ay wr ⟨b,1,none⟩ (O Q (f.al+1))) g) (aw (ds f) 150)).drew:=λg=>⟨λhE k=>cR _ _ _ _ T,((((aU.l j wr).v (ai:=⟨b,1,none⟩) i.K _).a g).a _).e.db⟩
   have I:∀g,bQ (aO j (S (R wr)+1) 7) (ar (ar (ay wr ⟨b,1,none⟩ (O Q (f.al+1))) g) (aw (ds f) 150)).drew b s f.g:=λg=>(((k7.gE (bW:=f.g) 1 _ mg rfl rfl rfl rfl rfl rfl k1.out i.ej).a _).a _).e
   unfold ds at G H I;clear lo;have p:aJ f.af.a8=[42]\/aJ f.af.a8=[47]:=by simpa[bN.gf,k]using u
   clear u k i1;by_cases q:aJ f.af.a8=[42]
   ·have iR:(aJ f.af.a8==[42])=true:=by simp[q]
    clear q p;go_wp2_with(go_at_call 96;refine(fJ i).mono ?_;rintro e y ⟨rfl,g,rfl⟩);refine(i0 _ _ _ _ (I g)).mono ?_;rintro e l8 ⟨rfl,me,mn,J,r⟩;have K:=(r.ax jW (G g)).aa 1;simp at K;clear v l hV;go_wp2_with fail;refine(ic J _ _ _ _ _ _ _ i2).mono ?_;rintro e mO ⟨rfl,P,gf,gg,gj⟩;go_wp2_with fail
    go_roundg iU
    case measure=>omega
    case rel=>exact⟨_,_,P,gf,t,jt.out,rfl,gg,((o.trans (H g)).trans r).trans gj⟩
   ·have iR:(aJ f.af.a8==[42])=false:=by simp[q]
    have kr:(aJ f.af.a8==[47])=true:=by rcases p with h|h;exact absurd h q;simp[h]
    clear q p;go_wp2_with(go_at_call 96;refine(fJ i).mono ?_;rintro e y ⟨rfl,g,rfl⟩);refine(i0 _ _ _ _ (I g)).mono ?_;rintro e l8 ⟨rfl,me,mn,J,r⟩;have K:=(r.ax jW (G g)).aa 1;simp at K;clear v l hV;go_wp2_with fail;refine(ic J _ _ _ _ _ _ _ i2).mono ?_;rintro e mO ⟨rfl,P,gf,gg,gj⟩;go_wp2_with fail
    go_roundg iU
    case measure=>omega
    case rel=>exact⟨_,_,P,gf,t,jt.out,rfl,gg,((o.trans (H g)).trans r).trans gj⟩
end
