import Derived.Test.YtddbjcfdmdbmkaaGreatDoorB00
import Derived.Deep.RegionHeld3
import Derived.Deep.RegionLaw
import Derived.Deep.DrawnRows
import Derived.Deep.QuietTactic
import Derived.BigQuiet
set_option linter.all false
set_option maxRecDepth 100000
set_option maxHeartbeats 1600000
namespace Go.Proofs.YtddbjcfdmdbmkaaGreatDoor
open Go.RowKit Go.Proofs.Tryz
open Go renaming Calls->aR,Value->an,World->aq
open Go.Ending renaming returned->aM
open Go.IntKind renaming i64->Q
open Go.Obj renaming cells->aw
open Go.RowKit renaming Hid->ag
open Go.Value renaming int->O,pointer->aD,slice->U,string->az,ownBlock->ap
open _root_.Array renaming size->S
open _root_.ByteArray renaming size->aW,toList->aJ
open Go.World renaming alloc->ar,cell?->aK,drew->cb,drewN->bY,grownBy->b_,heap->R,ownsRow->aY,setCell->ay
open List renaming length->M
variable{ab bl:Nat->Nat}{L aI I:aq}{H:an}{gg:List Nat}{hu:Option Nat}{hZ ih y d N D gj w z c r:Nat}{iR:List an}{o:ByteArray}{J:List ByteArray}{iZ:Int}
structure bN where
 ao:Nat
 a8:ByteArray
 a1:Nat
 n:Nat
def bN.h(a:bN):List an:=[O Q a.ao,az a.a8,O Q a.a1,O Q a.n]
theorem lU{a:Prop}(h:a:=by simp[bN.h,Value.oneCell']):a:=h
def bC{bD:Type}(ah:bD->List an)(a:List bD):List an:=(a.map ah).flatten
instance:Inhabited bN:=⟨⟨4,ByteArray.empty,0,0⟩⟩
structure eV where
 cj:ByteArray
 bj:Int
 X:Int
 n:Int
 name:ByteArray
 i8:ByteArray
 a1:Int
variable{u:eV}
def eV.h(a:eV):List an:=[az a.cj,O Q a.bj,O Q a.X,O Q a.n,az a.name,az a.i8,O Q a.a1]
structure cA where
 a1:Int
 en:Bool
 name:ByteArray
 ao:Int
 bG:Int
 bB:Int
 br:List (List Nat)
def cA.h(a:cA×an):List an:=[O Q a.1.a1,.bool a.1.en,az a.1.name,O Q a.1.ao,O Q a.1.bG,O Q a.1.bB,a.2]
theorem rm{a:Prop}(h:a:=by simp[cA.h,Value.oneCell']):a:=h
def cZ(e:Nat->Nat)(L:aq)(a:an)(f:List Nat):Prop:=
 (∃g,aY L 0 3 1 a g (f.map λh:Nat=>O Q (h:Int)))/\∀N,ap a=some N->e N=7
def dZ(g:Nat->Nat)(L:aq)(i:an)(a:List (List Nat)):Prop:=
 ∃e:List an,aY L 0 48 1 i (M a) e/\(∀N,ap i=some N->g N=7)/\M e=M a/\∀f,(h:f<M e)->(k:f<M a)->cZ g L e[f] a[f]
structure au where
 aT:List bN
 al:Nat
 bk:Int
 bz:Nat
 bU:Int
 b9:List bN
 b6:List Int
 cc:List Int
 aC:List eV
 aj:List cA
 bd:Int
 aZ:Int
variable{b bW hS:au}
structure eU where
 dF:Nat
 je:Nat
 ns:an
 fQ:an
 cC:an
 mG:an
 e3:an
 g_:an
 fy:List an
variable{j:eU}
def cp(a:eU)(e:au):Array an:=
 #[U (some ⟨a.dF,0,none⟩) (M e.aT) a.je,O Q e.al,O Q e.bk,O Q e.bz,O Q e.bU,a.ns,a.fQ,a.cC,a.mG,a.e3,O Q e.bd,O Q e.aZ,a.g_]
theorem oM{a:Prop}(h:a:=by simp[cp]):a:=h
structure bQ (ab:Nat->Nat) (L:aq) (X:Nat) (cO:eU) (V:au):Prop where
 ax:aL L X (cp cO V) 123
 dN:ab X=1
 aT:L.ownsRow 0 150 4 (U (some ⟨cO.dF,0,none⟩) V.aT.length cO.je) V.aT.length (bC bN.h V.aT)
 fG:ab cO.dF=7
 b9:L.ownsRow 0 150 4 cO.ns V.b9.length (bC bN.h V.b9)
 ef:∀N,cO.ns.ownBlock=some N->ab N=2
 b6:L.ownsRow 0 3 1 cO.fQ V.b6.length (V.b6.map (O Q))
 kn:∀N,cO.fQ.ownBlock=some N->ab N=3
 cc:L.ownsRow 0 3 1 cO.cC V.cc.length (V.cc.map (O Q))
 jO:∀N,cO.cC.ownBlock=some N->ab N=4
 aC:L.ownsRow 0 248 7 cO.mG V.aC.length (bC eV.h V.aC)
 jP:∀N,cO.mG.ownBlock=some N->ab N=5
 aj:L.ownsRow 0 202 7 cO.e3 V.aj.length (bC cA.h (V.aj.zip cO.fy))
 cj:∀N,cO.e3.ownBlock=some N->ab N=6
 br:∀ai∈V.aj.zip cO.fy,dZ ab L ai.2 ai.1.br
 gt:cO.fy.length=V.aj.length
 ia:V.aT.length<=601
 cY:V.al<V.aT.length
 ej: -1<=V.bk
def qK(f:Nat->Nat)(L:aq)(g:Nat)(h:au)(a:aq):Prop:=∃e i,bQ e a g i h/\aU f L e a
def au.af(a:au):bN:=a.aT[a.al]?.getD default
theorem cZ.dj(h:cZ ab L H gg)(b:b_ L aI hu)(d:∀N,hu=some N->ab N≠7):cZ ab aI H gg:=by
 obtain⟨⟨c,h⟩,a⟩:=h;refine⟨⟨c,h.kept b ?_⟩,a⟩;cases f:ap H with
 |none=>exact .inl rfl
 |some N=>exact .inr (λe=>d N e.symm (a N f))
theorem dZ.dj{gg:List (List Nat)}(h:dZ ab L H gg)(a:b_ L aI hu)(b:∀N,hu=some N->ab N≠7):dZ ab aI H gg:=by
 obtain⟨d,h,c,f,g⟩:=h;refine⟨d,h.kept a ?_,c,f,λr i j=>(g r i j).dj a b⟩;cases k:ap H with
 |none=>exact .inl rfl
 |some N=>exact .inr (λe=>b N e.symm (c N k))
theorem cZ.kx(h:cZ ab L H gg)(b:∀c,c<S (R L)->bl c=ab c):cZ bl L H gg:=by obtain⟨⟨c,h⟩,d⟩:=h;exact⟨⟨c,h⟩,λN a=>(b N (h.lt N a).2).trans (d N a)⟩
theorem dZ.kx{gg:List (List Nat)}(h:dZ ab L H gg)(a:∀c,c<S (R L)->bl c=ab c):dZ bl L H gg:=by obtain⟨d,h,e,f,g⟩:=h;exact⟨d,h,λN b=>(a N (h.lt N b).2).trans (e N b),f,λr i j=>(g r i j).kx a⟩
theorem dK{e:TypeId}(w:Nat)
 (h:aY L hZ e ih H y iR)(a:∀N,ap H=some N->ab N=w)(b:b_ L aI hu)(c:∀N,hu=some N->ab N≠w):aY aI hZ e ih H y iR:=by
 refine h.kept b ?_;cases d:ap H with
 |none=>exact .inl rfl
 |some N=>exact .inr (λe=>c N e.symm (a N d))
theorem bQ.g1(h:bQ ab L d j b)(c:b_ L aI none):bQ ab aI d j b:=by
 have f:∀(w:Nat) (N:Nat),(none:Option Nat)=some N->ab N≠w:=λ_ _ e=>by cases e
 exact⟨h.ax.d (c.block d h.ax.am av),h.dN,h.aT.kept c (.inr (by simp[ap])),h.fG,dK 2 h.b9 h.ef c (f 2),h.ef,dK 3 h.b6 h.kn c (f 3),h.kn,dK 4 h.cc h.jO c (f 4),h.jO,dK 5 h.aC h.jP c (f 5),h.jP,dK 6 h.aj h.cj c (f 6),h.cj,(λg i=>(h.br g i).dj c (f 7)),h.gt,h.ia,h.cY,h.ej⟩
theorem bQ.a(h:bQ ab L d j b)(c:Obj):bQ ab (ar L c) d j b:=h.g1 (fv L c none)
theorem jm(L:aq)(hu:Option Nat):b_ L (cb L) hu:=⟨rfl,rfl,rfl,aN _,λ_ _ _=>rfl⟩
theorem bQ.e(h:bQ ab L d j b):bQ ab (cb L) d j b:=h.g1 (jm L none)
theorem bQ.kx(h:bQ ab L d j b)(g:∀c,c<S (R L)->bl c=ab c):bQ bl L d j b:=
 ⟨h.ax,(g d h.ax.am).trans h.dN,h.aT,(g _ (h.aT.lt _ rfl).2).trans h.fG,h.b9,(λN f=>(g N (h.b9.lt N f).2).trans (h.ef N f)),h.b6,(λN f=>(g N (h.b6.lt N f).2).trans (h.kn N f)),h.cc,(λN f=>(g N (h.cc.lt N f).2).trans (h.jO N f)),h.aC,(λN f=>(g N (h.aC.lt N f).2).trans (h.jP N f)),h.aj,(λN f=>(g N (h.aj.lt N f).2).trans (h.cj N f)),(λi k=>(h.br i k).kx g),h.gt,h.ia,h.cY,h.ej⟩
theorem fU(L:aq)(a:Addr)(H:an):b_ L (ay L a H) (some a.block):=
 ⟨rfl,rfl,rfl,by simp[ay],λc _ b=>gw _ _ _ _ (λe=>b (by rw[e]))⟩
theorem bQ.gE(h:bQ ab L d j b)(c:Nat)(H:an)(k:(cp j b).setIfInBounds c H=cp j bW)
 (l:bW.aT=b.aT)(m:bW.b9=b.b9)(o:bW.b6=b.b6)(p:bW.cc=b.cc)(q:bW.aC=b.aC)(i:bW.aj=b.aj)(r:bW.al<M b.aT)(s: -1<=bW.bk):bQ ab (ay L ⟨d,c,none⟩ H) d j bW:=by
 have f:=fU L ⟨d,c,none⟩ H;have g:∀(w:Nat),w≠1->∀(N:Nat),some d=some N->ab N≠w:=λw k N e=>by cases e;rw[h.dN];exact hO k
 have t:j.dF≠d:=λe=>by have:=h.fG;rw[e,h.dN]at this;cases this
 exact⟨(by rw[<-k];exact h.ax.j c H),h.dN,(by rw[l];exact h.aT.kept f (.inr (by simp[ap,t]))),h.fG,(by rw[m];exact dK 2 h.b9 h.ef f (g 2 ak)),h.ef,(by rw[o];exact dK 3 h.b6 h.kn f (g 3 ak)),h.kn,(by rw[p];exact dK 4 h.cc h.jO f (g 4 ak)),h.jO,(by rw[q];exact dK 5 h.aC h.jP f (g 5 ak)),h.jP,(by rw[i];exact dK 6 h.aj h.cj f (g 6 ak)),h.cj,(by rw[i];exactλu i=>(h.br u i).dj f (g 7 ak)),(by rw[i];exact h.gt),(by rw[l];exact h.ia),(by rw[l];exact r),s⟩
theorem fH{e:TypeId}(w gj:Nat)(h:aY L hZ e ih H y iR)(b:∀c,ap H=some c->ab c=w)(g:b_ L aI hu)(d:∀c,hu=some c->ab c=gj)(f:w≠gj)(i:hu=some N\/N=S (R L)):
 (aY aI) hZ e ih H y iR/\∀c,ap H=some c->aO ab N gj c=w:=by
 refine⟨dK w h b g (λc a=>by rw[d c a];exact hO f),λc a=>?_⟩;rw[cR];exact b c a;intro e;subst e;rcases i with e|e
 ·have:=d c e;rw[b c a]at this;exact f this
 ·have:=(h.lt c a).2;omega
theorem nz(gj:Nat)(a:∀c,hu=some c->ab c=gj)(b:hu=some N\/N=S (R L))(c:Nat)(d:c<S (R L)):aO ab N gj c=ab c:=by
 by_cases e:c=N
 ·subst e;rcases b with e|e
  ·rw[cy,a c e]
  ·omega
 ·exact cR _ _ _ _ e
theorem cZ.oH(gj:Nat)(h:cZ ab L H gg)(a:b_ L aI hu)(b:∀c,hu=some c->ab c=gj)(d:7≠gj)(e:hu=some N\/N=S (R L)):cZ (aO ab N gj) aI H gg:=by obtain⟨⟨c,h⟩,f⟩:=h;have:=fH (N:=N) 7 gj h f a b d e;exact⟨⟨c,this.1⟩,this.2⟩
theorem dZ.oH{gg:List (List Nat)}(gj:Nat)(h:dZ ab L H gg)(a:b_ L aI hu)(b:∀c,hu=some c->ab c=gj)(d:7≠gj)(e:hu=some N\/N=S (R L)):dZ (aO ab N gj) aI H gg:=by obtain⟨f,h,g,i,j⟩:=h;have:=fH (N:=N) 7 gj h g a b d e;exact⟨f,this.1,this.2,i,λr k l=>(j r k l).oH gj a b d e⟩
theorem jc{bD:Type}(ah:bD->List an)(gg:List bD)(u:bD):bC ah (gg++[u])=bC ah gg++ah u:=by simp[bC]
theorem aU.dj(gj:Nat)(b:b_ L aI hu)(f:∀c,hu=some c->ab c=gj)(h:gj<7)(g:hu=some N\/N=S (R L)):aU ab L (aO ab N gj) aI:=
 ⟨λc d=>nz gj f g c d,⟨b.os,b.tape,b.output,b.size,λc d=>b.block c d.1 (λe=>by have:=f c e.symm;have:=d.2;omega)⟩⟩
theorem bQ.Ls(h:bQ ab L d j b)(u:bN)(x:aY I 0 150 4 (U (some ⟨N,0,none⟩) (M b.b9+1) D) (M b.b9+1) (bC bN.h b.b9++bN.h u))(g:b_ L I (ap j.ns))(i:ap j.ns=some N\/N=S (R L)):bQ (aO ab N 2) (ay I ⟨d,5,none⟩ (U (some ⟨N,0,none⟩) (M b.b9+1) D)) d {j with ns:=U (some ⟨N,0,none⟩) (M b.b9+1) D} {b with b9:=b.b9++[u]}/\
 aU ab L (aO ab N 2) (ay I ⟨d,5,none⟩ (U (some ⟨N,0,none⟩) (M b.b9+1) D)):=by
 have f:=h.ef;have o:aO ab N 2 d=1:=(nz 2 f i d h.ax.am).trans h.dN;have y:aL I d (cp j b) 123:=h.ax.d (g.block d h.ax.am (λe=>by have:=f d e.symm;rw[h.dN]at this;cases this));have k:=fU I ⟨d,5,none⟩ (U (some ⟨N,0,none⟩) (M b.b9+1) D);have l:∀(w:Nat),w≠1->∀(c:Nat),some d=some c->aO ab N 2 c≠w:=λw z c e=>by cases e;rw[o];exact hO z
 have p:=fH (N:=N) 7 2 h.aT (λc e=>by cases e;exact h.fG) g f ak i;have q:=fH (N:=N) 3 2 h.b6 h.kn g f ak i;have r:=fH (N:=N) 4 2 h.cc h.jO g f ak i;have s:=fH (N:=N) 5 2 h.aC h.jP g f ak i;have t:=fH (N:=N) 6 2 h.aj h.cj g f ak i;have B:∀m∈b.aj.zip j.fy,dZ (aO ab N 2) I m.2 m.1.br:=λm v=>(h.br m v).oH 2 g f ak i
 exact⟨⟨(by have:=y.j 5 (U (some ⟨N,0,none⟩) (M b.b9+1) D);simpa[cp]using this),o,(dK 7 p.1 p.2 k (l 7 ak)),(p.2 _ rfl),(by simp only[jc,bV,dT,d5,du];exact dK 2 x (ab:=aO ab N 2) (λc e=>by cases e;exact cy _ _ _) k (l 2 ak)),(λc e=>by cases e;exact cy _ _ _),(dK 3 q.1 q.2 k (l 3 ak)),q.2,(dK 4 r.1 r.2 k (l 4 ak)),r.2,(dK 5 s.1 s.2 k (l 5 ak)),s.2,(dK 6 t.1 t.2 k (l 6 ak)),t.2,(λm v=>(B m v).dj k (l 7 ak)),h.gt,h.ia,h.cY,h.ej⟩,(aU.dj (N:=N) 2 g f ak i).v (ai:=⟨d,5,none⟩) (by rw[o];decide) _⟩
theorem bQ.M9(h:bQ ab L d j b)(u:Int)(x:aY I 0 3 1 (U (some ⟨N,0,none⟩) (M b.b6+1) D) (M b.b6+1) (b.b6.map (O Q)++[O Q u]))(g:b_ L I (ap j.fQ))(i:ap j.fQ=some N\/N=S (R L)):bQ (aO ab N 3) (ay I ⟨d,6,none⟩ (U (some ⟨N,0,none⟩) (M b.b6+1) D)) d {j with fQ:=U (some ⟨N,0,none⟩) (M b.b6+1) D} {b with b6:=b.b6++[u]}/\
 aU ab L (aO ab N 3) (ay I ⟨d,6,none⟩ (U (some ⟨N,0,none⟩) (M b.b6+1) D)):=by
 have f:=h.kn;have o:aO ab N 3 d=1:=(nz 3 f i d h.ax.am).trans h.dN;have y:aL I d (cp j b) 123:=h.ax.d (g.block d h.ax.am (λe=>by have:=f d e.symm;rw[h.dN]at this;cases this));have k:=fU I ⟨d,6,none⟩ (U (some ⟨N,0,none⟩) (M b.b6+1) D);have l:∀(w:Nat),w≠1->∀(c:Nat),some d=some c->aO ab N 3 c≠w:=λw z c e=>by cases e;rw[o];exact hO z
 have p:=fH (N:=N) 7 3 h.aT (λc e=>by cases e;exact h.fG) g f ak i;have q:=fH (N:=N) 2 3 h.b9 h.ef g f ak i;have r:=fH (N:=N) 4 3 h.cc h.jO g f ak i;have s:=fH (N:=N) 5 3 h.aC h.jP g f ak i;have t:=fH (N:=N) 6 3 h.aj h.cj g f ak i;have B:∀m∈b.aj.zip j.fy,dZ (aO ab N 3) I m.2 m.1.br:=λm v=>(h.br m v).oH 3 g f ak i
 exact⟨⟨(by have:=y.j 6 (U (some ⟨N,0,none⟩) (M b.b6+1) D);simpa[cp]using this),o,(dK 7 p.1 p.2 k (l 7 ak)),(p.2 _ rfl),(dK 2 q.1 q.2 k (l 2 ak)),q.2,(by simp only[dv,hB,pB,bV,dT,d5,du];exact dK 3 x (ab:=aO ab N 3) (λc e=>by cases e;exact cy _ _ _) k (l 3 ak)),(λc e=>by cases e;exact cy _ _ _),(dK 4 r.1 r.2 k (l 4 ak)),r.2,(dK 5 s.1 s.2 k (l 5 ak)),s.2,(dK 6 t.1 t.2 k (l 6 ak)),t.2,(λm v=>(B m v).dj k (l 7 ak)),h.gt,h.ia,h.cY,h.ej⟩,(aU.dj (N:=N) 3 g f ak i).v (ai:=⟨d,6,none⟩) (by rw[o];decide) _⟩
theorem bQ.H_(h:bQ ab L d j b)(u:Int)(x:aY I 0 3 1 (U (some ⟨N,0,none⟩) (M b.cc+1) D) (M b.cc+1) (b.cc.map (O Q)++[O Q u]))(g:b_ L I (ap j.cC))(i:ap j.cC=some N\/N=S (R L)):bQ (aO ab N 4) (ay I ⟨d,7,none⟩ (U (some ⟨N,0,none⟩) (M b.cc+1) D)) d {j with cC:=U (some ⟨N,0,none⟩) (M b.cc+1) D} {b with cc:=b.cc++[u]}/\
 aU ab L (aO ab N 4) (ay I ⟨d,7,none⟩ (U (some ⟨N,0,none⟩) (M b.cc+1) D)):=by
 have f:=h.jO;have o:aO ab N 4 d=1:=(nz 4 f i d h.ax.am).trans h.dN;have y:aL I d (cp j b) 123:=h.ax.d (g.block d h.ax.am (λe=>by have:=f d e.symm;rw[h.dN]at this;cases this));have k:=fU I ⟨d,7,none⟩ (U (some ⟨N,0,none⟩) (M b.cc+1) D);have l:∀(w:Nat),w≠1->∀(c:Nat),some d=some c->aO ab N 4 c≠w:=λw z c e=>by cases e;rw[o];exact hO z
 have p:=fH (N:=N) 7 4 h.aT (λc e=>by cases e;exact h.fG) g f ak i;have q:=fH (N:=N) 2 4 h.b9 h.ef g f ak i;have r:=fH (N:=N) 3 4 h.b6 h.kn g f ak i;have s:=fH (N:=N) 5 4 h.aC h.jP g f ak i;have t:=fH (N:=N) 6 4 h.aj h.cj g f ak i;have B:∀m∈b.aj.zip j.fy,dZ (aO ab N 4) I m.2 m.1.br:=λm v=>(h.br m v).oH 4 g f ak i
 exact⟨⟨(by have:=y.j 7 (U (some ⟨N,0,none⟩) (M b.cc+1) D);simpa[cp]using this),o,(dK 7 p.1 p.2 k (l 7 ak)),(p.2 _ rfl),(dK 2 q.1 q.2 k (l 2 ak)),q.2,(dK 3 r.1 r.2 k (l 3 ak)),r.2,(by simp only[dv,hB,pB,bV,dT,d5,du];exact dK 4 x (ab:=aO ab N 4) (λc e=>by cases e;exact cy _ _ _) k (l 4 ak)),(λc e=>by cases e;exact cy _ _ _),(dK 5 s.1 s.2 k (l 5 ak)),s.2,(dK 6 t.1 t.2 k (l 6 ak)),t.2,(λm v=>(B m v).dj k (l 7 ak)),h.gt,h.ia,h.cY,h.ej⟩,(aU.dj (N:=N) 4 g f ak i).v (ai:=⟨d,7,none⟩) (by rw[o];decide) _⟩
theorem bQ.Th(h:bQ ab L d j b)(u:eV)(x:aY I 0 248 7 (U (some ⟨N,0,none⟩) (M b.aC+1) D) (M b.aC+1) (bC eV.h b.aC++eV.h u))(g:b_ L I (ap j.mG))(i:ap j.mG=some N\/N=S (R L)):bQ (aO ab N 5) (ay I ⟨d,8,none⟩ (U (some ⟨N,0,none⟩) (M b.aC+1) D)) d {j with mG:=U (some ⟨N,0,none⟩) (M b.aC+1) D} {b with aC:=b.aC++[u]}/\
 aU ab L (aO ab N 5) (ay I ⟨d,8,none⟩ (U (some ⟨N,0,none⟩) (M b.aC+1) D)):=by
 have f:=h.jP;have o:aO ab N 5 d=1:=(nz 5 f i d h.ax.am).trans h.dN;have y:aL I d (cp j b) 123:=h.ax.d (g.block d h.ax.am (λe=>by have:=f d e.symm;rw[h.dN]at this;cases this));have k:=fU I ⟨d,8,none⟩ (U (some ⟨N,0,none⟩) (M b.aC+1) D);have l:∀(w:Nat),w≠1->∀(c:Nat),some d=some c->aO ab N 5 c≠w:=λw z c e=>by cases e;rw[o];exact hO z
 have p:=fH (N:=N) 7 5 h.aT (λc e=>by cases e;exact h.fG) g f ak i;have q:=fH (N:=N) 2 5 h.b9 h.ef g f ak i;have r:=fH (N:=N) 3 5 h.b6 h.kn g f ak i;have s:=fH (N:=N) 4 5 h.cc h.jO g f ak i;have t:=fH (N:=N) 6 5 h.aj h.cj g f ak i;have B:∀m∈b.aj.zip j.fy,dZ (aO ab N 5) I m.2 m.1.br:=λm v=>(h.br m v).oH 5 g f ak i
 exact⟨⟨(by have:=y.j 8 (U (some ⟨N,0,none⟩) (M b.aC+1) D);simpa[cp]using this),o,(dK 7 p.1 p.2 k (l 7 ak)),(p.2 _ rfl),(dK 2 q.1 q.2 k (l 2 ak)),q.2,(dK 3 r.1 r.2 k (l 3 ak)),r.2,(dK 4 s.1 s.2 k (l 4 ak)),s.2,(by simp only[jc,bV,dT,d5,du];exact dK 5 x (ab:=aO ab N 5) (λc e=>by cases e;exact cy _ _ _) k (l 5 ak)),(λc e=>by cases e;exact cy _ _ _),(dK 6 t.1 t.2 k (l 6 ak)),t.2,(λm v=>(B m v).dj k (l 7 ak)),h.gt,h.ia,h.cY,h.ej⟩,(aU.dj (N:=N) 5 g f ak i).v (ai:=⟨d,8,none⟩) (by rw[o];decide) _⟩
theorem v_{bD b:Type}(gg:List bD)(a:List b)(u:bD)(c:b)(h:M a=M gg):(gg++[u]).zip (a++[c])=gg.zip a++[(u,c)]:=by rw[sn h.symm];rfl
theorem bQ.qW(h:bQ ab L d j b)(u:cA)(p:an)(y:dZ ab L p u.br)(z:aY I 0 202 7 (U (some ⟨N,0,none⟩) (M b.aj+1) D) (M b.aj+1) (bC cA.h (b.aj.zip j.fy)++cA.h (u,p)))(g:b_ L I (ap j.e3))(i:ap j.e3=some N\/N=S (R L)):bQ (aO ab N 6) (ay I ⟨d,9,none⟩ (U (some ⟨N,0,none⟩) (M b.aj+1) D)) d {j with e3:=U (some ⟨N,0,none⟩) (M b.aj+1) D,fy:=j.fy++[p]} {b with aj:=b.aj++[u]}/\
 aU ab L (aO ab N 6) (ay I ⟨d,9,none⟩ (U (some ⟨N,0,none⟩) (M b.aj+1) D)):=by
 have f:=h.cj;have q:aO ab N 6 d=1:=(nz 6 f i d h.ax.am).trans h.dN;have B:aL I d (cp j b) 123:=h.ax.d (g.block d h.ax.am (λe=>by have:=f d e.symm;rw[h.dN]at this;cases this));have l:=fU I ⟨d,9,none⟩ (U (some ⟨N,0,none⟩) (M b.aj+1) D);have m:∀(w:Nat),w≠1->∀(c:Nat),some d=some c->aO ab N 6 c≠w:=λw C c e=>by cases e;rw[q];exact hO C
 have r:=fH (N:=N) 7 6 h.aT (λc e=>by cases e;exact h.fG) g f ak i;have s:=fH (N:=N) 2 6 h.b9 h.ef g f ak i;have t:=fH (N:=N) 3 6 h.b6 h.kn g f ak i;have v:=fH (N:=N) 4 6 h.cc h.jO g f ak i;have x:=fH (N:=N) 5 6 h.aC h.jP g f ak i;have F:∀o∈b.aj.zip j.fy,dZ (aO ab N 6) I o.2 o.1.br:=λo k=>(h.br o k).oH 6 g f ak i
 have G:=y.oH 6 g f ak i;exact⟨⟨(by have:=B.j 9 (U (some ⟨N,0,none⟩) (M b.aj+1) D);simpa[cp]using this),q,(dK 7 r.1 r.2 l (m 7 ak)),(r.2 _ rfl),(dK 2 s.1 s.2 l (m 2 ak)),s.2,(dK 3 t.1 t.2 l (m 3 ak)),t.2,(dK 4 v.1 v.2 l (m 4 ak)),v.2,(dK 5 x.1 x.2 l (m 5 ak)),x.2,(by simp only[v_ _ _ _ _ h.gt,jc,bV,dT,d5,du];exact dK 6 z (ab:=aO ab N 6) (λc e=>by cases e;exact cy _ _ _) l (m 6 ak)),(λc e=>by cases e;exact cy _ _ _),(λo k=>by simp only[v_ _ _ _ _ h.gt]at k;rcases dm.1 k with k|k;exact(F o k).dj l (m 7 ak);simp at k;subst k;exact G.dj l (m 7 ak)),(by simp[h.gt]),h.ia,h.cY,h.ej⟩,(aU.dj (N:=N) 6 g f ak i).v (ai:=⟨d,9,none⟩) (by rw[q];decide) _⟩
theorem bQ.f3(h:bQ ab L d j b)(f:b_ L I hu)(g:∀c,hu=some c->ab c=gj)(i:1≠gj):aL I d (cp j b) 123:=
 h.ax.d (f.block d h.ax.am (λe=>by have:=g d e.symm;rw[h.dN]at this;exact i this))
theorem aL.f3{f:Array an}{gF:TypeId}(h:aL L d f gF)(g:ab d=w)(i:b_ L I hu)(k:∀c,hu=some c->ab c=gj)(l:w≠gj):aL I d f gF:=
 h.d (i.block d h.am (λe=>by have:=k d e.symm;rw[g]at this;exact l this))
theorem bQ.A(h:bQ ab L d j b){ai:Addr}(g:ab ai.block=8)(H:an):bQ ab (ay L ai H) d j b:=by
 have c:=fU L ai H;have f:∀(w:Nat),w≠8->∀(N:Nat),some ai.block=some N->ab N≠w:=λw i N e=>by cases e;rw[g];exact hO i
 exact⟨h.ax.i0 ai H (λe=>by rw[e,h.dN]at g;cases g),h.dN,dK 7 h.aT (λN e=>by cases e;exact h.fG) c (f 7 ak),h.fG,dK 2 h.b9 h.ef c (f 2 ak),h.ef,dK 3 h.b6 h.kn c (f 3 ak),h.kn,dK 4 h.cc h.jO c (f 4 ak),h.jO,dK 5 h.aC h.jP c (f 5 ak),h.jP,dK 6 h.aj h.cj c (f 6 ak),h.cj,λk l=>(h.br k l).dj c (f 7 ak),h.gt,h.ia,h.cY,h.ej⟩
theorem i5{bD:Type}(ah:bD->List an)(y:Nat)(a:∀u,M (ah u)=y)(gg:List bD)(r z:Nat)(b:r<M gg)(d:z<y):(bC ah gg)[r*y+z]?=(ah gg[r])[z]?:=by
 induction gg generalizing r with
 |nil=>simp at b
 |cons u gg f=>
  have e:bC ah (u::gg)=ah u++bC ah gg:=rfl;rw[e];cases r with
  |zero=>simp[ms,a,d]
  |succ r=>have c:=a u;rw[qs (by rw[c,AC];omega),c,show(r+1)*y+z-y=r*y+z by rw[AC];omega];simpa using f r (by simpa using b)
theorem bQ.xr(h:bQ ab L d j b):
 (aK L) ⟨j.dF,b.al*4,none⟩=some (O Q b.af.ao)/\aK L ⟨j.dF,b.al*4+1,none⟩=some (az b.af.a8)/\aK L ⟨j.dF,b.al*4+2,none⟩=some (O Q b.af.a1)/\aK L ⟨j.dF,b.al*4+3,none⟩=some (O Q b.af.n):=by
 have f:b.af=b.aT[b.al]'h.cY:=by simp[au.af,h.cY]
 have ba:∀z,z<4->∀c,(bN.h b.af)[z]?=some c->aK L ⟨j.dF,b.al*4+z,none⟩=some c:=by intro z i c k;have:=h.aT.cells (g:=j.dF) rfl (b.al*4+z) c (by rw[i5 bN.h 4 (λ_=>rfl) _ _ _ h.cY i,<-f];exact k);have l:(⟨j.dF,0,none⟩:Addr).add (b.al*4+z)=⟨j.dF,b.al*4+z,none⟩:=l0;rw[l]at this;exact this
 exact⟨ba 0 ak _ rfl,ba 1 ak _ rfl,ba 2 ak _ rfl,ba 3 ak _ rfl⟩
theorem bQ.aa(h:bQ ab L d j b)(c:Nat):aK L ⟨d,c,none⟩=(cp j b)[c]?:=h.ax.aa c
theorem fJ(h:bQ ab L d j b):
 aR prog 96 #[aD (some ⟨d,0,none⟩)] L λe aI=>e=aM (.agg #[O Q b.af.ao,az b.af.a8,O Q b.af.a1,O Q b.af.n])/\∃g,aI=cb (ar L g):=by
 obtain⟨m,p,q,s⟩:=h.xr;have i:=h.aa 0;have k:=h.aa 1;have t:=h.cY;have u:(b.al:Int)<(M b.aT:Int):=T;have w:(0:Int)<=(b.al:Int):=T;simp[cp]at i k;generalize b.af.ao=c at*;generalize b.af.a8=o at*;generalize b.af.a1=f at*;generalize b.af.n=y at*;generalize b.al=r at*;generalize j.dF=a at*;generalize(M b.aT)=l at*;generalize j.je=D at*;clear h;go_enter func96,ntmps96;go_wp2;go_region_held3 (λaI=>aK aI ⟨d,0,none⟩=some (U (some ⟨a,0,none⟩) l D)/\aK aI ⟨d,1,none⟩=some (O Q r)/\aK aI ⟨a,r*4,none⟩=some (O Q c)/\aK aI ⟨a,r*4+1,none⟩=some (az o)/\aK aI ⟨a,r*4+2,none⟩=some (O Q f)/\aK aI ⟨a,r*4+3,none⟩=some (O Q y)) (go_keep) (fail)
 all_goals go_wp2
 exact dG (v:=.agg #[O Q c,az o,O Q f,O Q y]) (by simp[results,results96,go_sem]) rfl ⟨rfl,_,rfl⟩
def fs(a:UInt8):Bool:=a==32||a==10
def ch(a:UInt8):Bool:=decide (97<=a.toNat)&&decide (a.toNat<=122)
theorem w8{a:Prop}(h:a:=by simp[ch];omega):a:=h
def cQ(a:UInt8):Bool:=decide (48<=a.toNat)&&decide (a.toNat<=57)
def da(e:UInt8->Bool)(f:ByteArray)(a:Nat):Nat:=a+M ((f.data.toList.drop a).takeWhile e)
theorem yV(o:ByteArray)(c:Nat)(h:c<aW o):o.data.toList.drop c=o[c]::o.data.toList.drop (c+1):=by rw[ku (by simpa using h)];rfl
theorem oC(a:UInt8->Bool)(o:ByteArray)(c:Nat)(h:c<aW o)(b:a o[c]=true):da a o (c+1)=da a o c:=by unfold da;rw[yV o c h,zC,aP b];simp;omega
theorem xX(a:UInt8->Bool)(o:ByteArray)(c:Nat)(h:c<aW o)(b:a o[c]=false):da a o c=c:=by unfold da;rw[yV o c h,zC,aH (by simp[b])];simp
theorem xS(a:UInt8->Bool)(o:ByteArray)(c:Nat)(h:aW o<=c):da a o c=c:=by unfold da;rw[wS (by simpa using h)];simp
theorem oB(a:UInt8->Bool)(o:ByteArray)(c:Nat):c<=da a o c:=by unfold da;omega
theorem pr(a:UInt8->Bool)(o:ByteArray)(c:Nat)(h:c<=aW o):da a o c<=aW o:=by unfold da;have:=(List.takeWhile_sublist a (l:=o.data.toList.drop c)).length_le;simp at this;have e:S o.data=aW o:=rfl;omega
theorem k0(o:ByteArray)(r:Nat)(h:r<aW o):o.data.toList.getD r 0=o[r]:=by
 have a:r<M o.data.toList:=by simpa using h
 rw[fj,dz a];rfl
def rJ(a:List UInt8):Nat:=(a.take 9).foldl (λe f=>10*e+(f.toNat-48)) 0
def fS(a:ByteArray)(e f:Nat):Nat:=rJ ((a.data.toList.drop e).take f)
theorem E5(o:ByteArray)(c:Nat):fS o c 0=0:=by simp[fS,rJ]
theorem Q7(o:ByteArray)(c z:Nat)(h:c+z<aW o)(b:z<9):fS o c (z+1)=10*fS o c z+(o[c+z].toNat-48):=by
 unfold fS rJ;have a:z<M (o.data.toList.drop c):=by have e:S o.data=aW o:=rfl;simp;omega
 rw[qy,qy,Hr T,Hr T,ev a,h_];simp only[hc,A8,GC];rfl
theorem D2(o:ByteArray)(c z:Nat)(a:9<=z):fS o c (z+1)=fS o c z:=by unfold fS rJ;rw[qy,qy,qn T,qn T]
theorem Gc(o:ByteArray)(c a:Nat)(h:c<=a)(b:a<aW o)(d:a-c<9):fS o c (a+1-c)=10*fS o c (a-c)+(o[a].toNat-48):=by obtain⟨z,rfl⟩:∃z,a=c+z:=⟨a-c,T⟩;rw[show c+z+1-c=z+1 by omega,show c+z-c=z by omega];exact Q7 o c z b T
def kk(a e:Nat):Prop:=a+1<=10^(min e 9)
theorem kk.pe:kk 0 0:=by simp[kk]
theorem kk.am{H a:Nat}(h:kk H z)(b:z<9)(c:a<=9):kk (10*H+a) (z+1):=by unfold kk at*;rw[qn T]at*;rw[vy];generalize 10^z=d at*;omega
theorem kk.KJ{H:Nat}(h:kk H z)(a:9<=z):kk H (z+1):=by unfold kk at*;rw[Hr T]at*;exact h
theorem kk.b0{H:Nat}(h:kk H z):H<=999999999:=by unfold kk at h;have:10^(min z 9)<=10^9:=sc ak (GR _ _);omega
def yr:List UInt8:=[40,41,124,58,46,43,45,42,47,61,60,62]
def j5(a:ByteArray)(e:Nat):Bool:=decide (e+1<aW a)&&(a.data.toList.getD (e+1) 0==61)&&fI (a.data.toList.getD e 0) [33,60,62]
def nX(a:ByteArray)(e:Nat):Bool:=fI (a.data.toList.getD e 0) yr
def eR(e:ByteArray)(f:Nat):bN×Option Nat:=
 let a:=da fs e f
 if(aW e)<=a then(⟨3,⟨#[]⟩,a,0⟩,none)
 else if ch (e.data.toList.getD a 0)then(⟨0,e.extract a (da ch e a),a,0⟩,some (da ch e a))
 else if cQ (e.data.toList.getD a 0)then
  (if 9<da cQ e a-a then(⟨4,⟨#[]⟩,a,fS e a (da cQ e a-a)⟩,none)
   else(⟨1,e.extract a (da cQ e a),a,fS e a (da cQ e a-a)⟩,some (da cQ e a)))
 else if j5 e a then(⟨2,e.extract a (a+2),a,0⟩,some (a+2))
 else if nX e a then(⟨2,e.extract a (a+1),a,0⟩,some (a+1))
 else(⟨4,⟨#[]⟩,a,0⟩,none)
inductive k2 (a8:ByteArray):Nat->List bN->Prop
 |oF {my:Nat} {aG:bN}:eR a8 my=(aG,none)->k2 a8 my [aG]
 |f9 {my Y:Nat} {aG:bN} {Z:List bN}:eR a8 my=(aG,some Y)->k2 a8 Y Z->k2 a8 my (aG::Z)
theorem Ao{a:Nat}{gF:bN}(h:eR o a=(gF,some c))(g:a<=aW o):a<c/\c<=aW o:=by
 have m:=oB fs o a;have e:=pr fs o a g;unfold eR at h;simp only at h;generalize da fs o a=r at*;split at h
 ·cases h
 ·have d:r<aW o:=by omega
  have f:=k0 o r d;split at h
  ·rename_i b;rw[f]at b;have i:=oB ch o (r+1);have j:=oC ch o r d b;have k:=pr ch o r e;cases h;omega
  ·split at h
   ·rename_i b;rw[f]at b;have i:=oB cQ o (r+1);have j:=oC cQ o r d b;have k:=pr cQ o r e;split at h
    ·cases h
    ·cases h;omega
   ·split at h
    ·rename_i l;simp[j5]at l;cases h;omega
    ·split at h
     ·cases h;omega
     ·cases h
theorem Gu(o:ByteArray):∀y a,aW o-a=y->a<=aW o->∃gg,k2 o a gg:=by
 intro y
 induction y using Nat.strongRecOn with
 |_ y b=>
  intro a g d;cases h:eR o a with
  |mk gF c=>
   cases c with
   |none=>exact⟨[gF],.oF h⟩
   |some c=>have e:=Ao h d;obtain⟨gg,f⟩:=b (aW o-c) T c rfl e.2;exact⟨gF::gg,.f9 h f⟩
def au.c8(a:au):au:=if a.bk<0 then{a with bk:=a.af.a1}else a
theorem yF{a:Prop}(h:a:=by unfold au.c8;split<;>rfl):a:=h
theorem bQ.K(h:bQ ab L d j b):ab d<7:=by rw[h.dN];decide
theorem bQ.Aq(h:bQ ab L d j b):j.dF≠d:=λe=>by have:=h.fG;rw[e,h.dN]at this;cases this
theorem lb(h:bQ ab L d j b):
 aR prog 97 #[aD (some ⟨d,0,none⟩)] L λe aI=>e=aM (.tuple #[])/\bQ ab aI d j b.c8/\aU ab L ab aI:=by
 have g:=h.aa 2;simp[cp]at g;by_cases a:b.bk<0
 ·have i:ag (bQ ab (cb (ay L ⟨d,2,none⟩ (O Q b.af.a1))) d j b.c8/\aU ab L ab (cb (ay L ⟨d,2,none⟩ (O Q b.af.a1)))):=by
   refine⟨(h.gE (bW:=b.c8) 2 _ ?_ ?_ ?_ ?_ ?_ ?_ ?_ ?_ ?_).e,((aU.l ab L).v (ai:=⟨d,2,none⟩) h.K _).e⟩<;>simp[au.c8,a,cp,h.cY]
  obtain⟨t,u,v,w⟩:=h.xr;have k:=h.aa 0;have l:=h.aa 1;have x:=h.ax.b 2;have z:=h.cY;have A:(b.al:Int)<(M b.aT:Int):=T;have B:(0:Int)<=(b.al:Int):=T;simp[cp]at k l;generalize b.af.ao=c at*;generalize b.af.a8=o at*;generalize b.af.a1=m at*;generalize b.af.n=y at*;generalize b.al=r at*;generalize(M b.aT)=p at*;have q:j.dF≠d:=h.Aq;have C:d≠j.dF:=hO q;generalize j.je=D at*;generalize j.dF=f at*;clear h;go_enter func97,ntmps97;go_wp2;go_region_held3 (λaI=>aK aI ⟨d,0,none⟩=some (U (some ⟨f,0,none⟩) p D)/\aK aI ⟨d,1,none⟩=some (O Q r)/\aK aI ⟨f,r*4+2,none⟩=some (O Q m)) (simp[*,rE]) (fail)
  all_goals go_wp2
  go_end0
  exact⟨rfl,i.out⟩
 ·have s:b.c8=b:=by simp[au.c8,a]
  rw[s];go_enter func97,ntmps97;go_wp2
  go_end0
  exact⟨rfl,h,aU.l _ _⟩
def bN.f(a:bN)(e:ByteArray):Bool:=(a.ao==0||a.ao==2)&&aJ a.a8==aJ e
def au.f(a:au)(e:ByteArray):Bool:=decide (a.bk<0)&&a.af.f e
theorem GA(h:bQ ab L d j b)(o:ByteArray):
 aR prog 174 #[aD (some ⟨d,0,none⟩),az o] L λe aI=>e=aM (.bool (b.f o))/\bQ ab aI d j b/\aU ab L ab aI:=by
 have g:=h.aa 2;have k:=h.ax.am;simp[cp]at g;go_enter func174,ntmps174;go_wp2_with(go_at_call 96;refine(fJ h).mono ?_;rintro e aI ⟨rfl,l,rfl⟩)
 all_goals
  go_ret;refine⟨kC ?_,((h.a _).a _).e,(((aU.l ab L).a _).a _).e⟩
 ·have a:b.bk<0:=by assumption
  have c:b.af.ao=0:=up;simp[au.f,bN.f,a,c]
 ·have a:b.bk<0:=by assumption
  have c:(b.af.ao:Int)=2:=up;have f:b.af.ao=2:=T;simp[au.f,bN.f,a,f]
 ·have a:b.bk<0:=by assumption
  have c:¬(b.af.ao:Int)=2:=up;have f:¬b.af.ao=2:=T;have i:¬b.af.ao=0:=up;simp[au.f,bN.f,f,i]
 ·have a:0<=b.bk:=by assumption
  have c:¬b.bk<0:=T;simp[au.f,c]
def au.t(a:au)(e:ByteArray):au:=if a.f e then{a with al:=a.al+1}else a
def sf(a:au):Prop:=∀e,(h:e<M a.aT)->a.aT[e].ao<=2->e+1<M a.aT
theorem sf.q(h:sf b)(a:b.al<M b.aT)(c:b.af.ao<=2):b.al+1<M b.aT:=by
 refine h b.al a ?_;have d:b.af=b.aT[b.al]:=by simp[au.af,a]
 rw[<-d];exact c
theorem Hc(h:b.f o=true):b.af.ao<=2/\b.bk<0:=by simp[au.f,bN.f]at h;omega
theorem fq(h:bQ ab L d j b)(k:sf b)(o:ByteArray):
 aR prog 142 #[aD (some ⟨d,0,none⟩),az o] L λe aI=>e=aM (.bool (b.f o))/\bQ ab aI d j (b.t o)/\aU ab L ab aI:=by
 have p:=h.cY;have q:=h.ia;cases a:b.f o with
 |false=>
  have f:ag (b.t o=b):=by show _=_;simp[au.t,a]
  have g:=a;clear a;go_enter func142,ntmps142;go_wp2_with(go_at_call 174;refine(GA h o).mono ?_;rintro e aI ⟨rfl,c,i⟩;rw[g]);go_ret;exact⟨rfl,by rw[f.out];exact c,i⟩
 |true=>
  have f:ag (b.t o={b with al:=b.al+1}):=by show _=_;simp[au.t,a]
  have l:ag (b.al+1<M b.aT):=k.q h.cY (Hc a).1;have g:=a;clear a;go_enter func142,ntmps142;go_wp2_with(go_at_call 174;refine(GA h o).mono ?_;rintro e aI ⟨rfl,c,i⟩;rw[g];have m:=c.aa 1;simp[cp]at m;have r:=c.ax.b 1);go_ret;refine⟨rfl,?_,i.v (ai:=⟨d,1,none⟩) h.K _⟩;rw[f.out];refine c.gE 1 _ ?_ rfl rfl rfl rfl rfl rfl l.out h.ej;simp[cp]
def au.c5(a:au)(e:ByteArray):au:=if a.f e then{a with al:=a.al+1}else a.c8
theorem sh(b:au):b.c8.aT=b.aT:=yF
theorem oA(h:bQ ab L d j b)(k:sf b)(o:ByteArray):
 aR prog 93 #[aD (some ⟨d,0,none⟩),az o] L λe aI=>e=aM (.tuple #[])/\bQ ab aI d j (b.c5 o)/\aU ab L ab aI:=by
 cases a:b.f o with
 |false=>
  have l:ag (b.t o=b):=by show _=_;simp[au.t,a]
  have f:ag (b.c5 o=b.c8):=by show _=_;simp[au.c5,a]
  have g:=a;clear a;go_enter func93,ntmps93;go_wp2_with(first|(go_at_call 142;refine(fq h k o).mono ?_;rintro e aI ⟨rfl,c,i⟩;rw[g];rw[l.out]at c)|(go_at_call 97;refine(lb c).mono ?_;rintro e q ⟨rfl,m,p⟩))
  go_end0
  exact⟨rfl,by rw[f.out];exact m,i.trans p⟩
 |true=>
  have f:ag (b.c5 o=b.t o):=by show _=_;simp[au.c5,au.t,a]
  have g:=a;clear a;go_enter func93,ntmps93;go_wp2_with(go_at_call 142;refine(fq h k o).mono ?_;rintro e aI ⟨rfl,c,i⟩;rw[g])
  go_end0
  exact⟨rfl,by rw[f.out];exact c,i⟩
def au.B(a:au)(e:Int):au:={a with bU:=if 8<=a.bz/\a.bU<0 then e else a.bU,bz:=a.bz+1}
theorem Aw(h:bQ ab L d j b)(a:Int)(o:b.bz<=1000000):
 aR prog 175 #[aD (some ⟨d,0,none⟩),O Q a] L λe aI=>e=aM (.tuple #[])/\bQ ab aI d j (b.B a)/\aU ab L ab aI:=by
 have f:=h.aa 3;have i:=h.aa 4;simp[cp]at f i;have p:=h.ax.b 3;have q:=h.ax.b 4;by_cases g:8<=b.bz/\b.bU<0
 ·obtain⟨k,l⟩:=g;have r:(8:Int)<=(b.bz:Int):=T;have c:ag (b.B a={b with bU:=a,bz:=b.bz+1}):=by show _=_;simp[au.B,k,l]
  have s:aK (ay L ⟨d,4,none⟩ (O Q a)) ⟨d,3,none⟩=some (O Q b.bz):=by rw[rE _ _ _ _ av];exact f
  have t:=(h.ax.j 4 (O Q a)).b 3;go_enter func175,ntmps175;go_wp2
  go_end0
  refine⟨rfl,?_,(((aU.l ab L).v (ai:=⟨d,4,none⟩) h.K _).v (ai:=⟨d,3,none⟩) h.K _)⟩;rw[c.out];exact(h.gE (bW:={b with bU:=a}) 4 _ oM rfl rfl rfl rfl rfl rfl h.cY h.ej).gE 3 _ oM rfl rfl rfl rfl rfl rfl h.cY h.ej
 ·have c:ag (b.B a={b with bz:=b.bz+1}):=by show _=_;simp[au.B,g]
  have m:ag (bQ ab (ay L ⟨d,3,none⟩ (O Q (b.bz+1))) d j {b with bz:=b.bz+1}):=h.gE 3 _ oM rfl rfl rfl rfl rfl rfl h.cY h.ej
  go_enter func175,ntmps175;go_wp2
  all_goals
   go_end0
   exact⟨rfl,by rw[c.out];exact m.out,(aU.l ab L).v (ai:=⟨d,3,none⟩) h.K _⟩
def au.iU(a:au):Bool:=a.af.ao==1&&decide (a.bk<0)
def au.bp(a:au)(e h:Int):au:=if a.iU then{a with al:=a.al+1,b9:=a.b9++[a.af],b6:=a.b6++[e],cc:=a.cc++[h]}else a.c8
def au.k(a:au):Int:=if a.iU then a.af.n else 0
theorem Tryz.F4:(prog.info? 150).map (λr=>(r.zero,r.size,r.bytes))=some (some (.agg #[O Q 0,az ⟨#[]⟩,O Q 0,O Q 0]),4,40):=by kernel_rfl
theorem Tryz.ys:(prog.info? 3).map (λr=>(r.zero,r.size,r.bytes))=some (some (O Q 0),1,8):=by kernel_rfl
theorem PY(h:bQ ab L d j b)(i k:Int)(g:b.iU=false):
 aR prog 94 #[aD (some ⟨d,0,none⟩),O Q i,O Q k] L λe aI=>e=aM (O Q 0)/\bQ ab aI d j b.c8/\aU ab L ab aI:=by
 have l:=h.aa 2;simp[cp]at l;have s:=h.ax.am;have m:ag (¬(b.af.ao=1/\b.bk<0)):=by show¬_;simpa[au.iU]using g
 clear g;by_cases a:(b.af.ao:Int)=1
 ·have t:0<=b.bk:=by have:=m.out;omega
  have o:((b.af.ao:Int)!=1)=false:=by simp[a]
  have p:ag ((b.af.ao:Int)=1):=a;clear a;go_enter func94,ntmps94;go_wp2_with(first|(go_at_call 96;refine(fJ h).mono ?_;rintro e aI ⟨rfl,q,rfl⟩)|(go_at_call 97;refine(lb ((h.a _).a _).e).mono ?_;rintro e r ⟨rfl,c,f⟩))
  go_ret;exact⟨rfl,c,(((aU.l ab L).a _).a _).e.trans f⟩
 ·have o:((b.af.ao:Int)!=1)=true:=by simp[a]
  have p:ag (¬(b.af.ao:Int)=1):=a;clear a;go_enter func94,ntmps94;go_wp2_with(first|(go_at_call 96;refine(fJ h).mono ?_;rintro e aI ⟨rfl,q,rfl⟩)|(go_at_call 97;refine(lb ((h.a _).a _).e).mono ?_;rintro e r ⟨rfl,c,f⟩))
  go_ret;exact⟨rfl,c,(((aU.l ab L).a _).a _).e.trans f⟩
section
attribute [local go_sem↓] Go.wp_at_zero Go.wp_at_succ
theorem B_(h:bQ ab L d j b)(kr:sf b)(q r:Int)(E:b.iU=true)(pF:M b.b9<=10000)(pR:M b.b6<=10000)(pU:M b.cc<=10000):
 aR prog 94 #[aD (some ⟨d,0,none⟩),O Q q,O Q r] L λe aI=>e=aM (O Q b.af.n)/\
  qK ab L d {b with al:=b.al+1,b9:=b.b9++[b.af],b6:=b.b6++[q],cc:=b.cc++[r]} aI:=by
 have F:=h.aa 2;have G:=h.aa 1;simp[cp]at F G;have pX:=h.ax.am;have kx:=h.ax.b 1;have pZ:=h.cY;have qp:=h.ia;have k1:b.af.ao=1/\b.bk<0:=by simpa[au.iU]using E
 have k7:ag (b.al+1<M b.aT):=kr.q h.cY T;clear E;obtain⟨m,qt⟩:=k1;have qP:((b.af.ao:Int)!=1)=false:=by simp[m]
 have qW:ag (b.af.ao=1):=m;clear m;go_enter func94,ntmps94;go_wp2_with(first|(go_at_call 96;refine(fJ h).mono ?_;rintro e aI ⟨rfl,l,rfl⟩))
 have H:bQ (aO ab (S (R L)+1) 7) L d j b:=h.kx (λc m=>cR _ _ _ _ T);have f:bQ (aO ab (S (R L)+1) 7) (cb (ar (ar (ay L ⟨d,1,none⟩ (O Q (b.al+1))) l) (aw #[O Q b.af.ao,az b.af.a8,O Q b.af.a1,O Q b.af.n] 150))) d j {b with al:=b.al+1}:=(((H.gE (bW:={b with al:=b.al+1}) 1 _ oM rfl rfl rfl rfl rfl rfl k7.out h.ej).a _).a _).e
 have J:aU ab L (aO ab (S (R L)+1) 7) (cb (ar (ar (ay L ⟨d,1,none⟩ (O Q (b.al+1))) l) (aw #[O Q b.af.ao,az b.af.a8,O Q b.af.a1,O Q b.af.n] 150))):=⟨λc m=>cR _ _ _ _ T,((((aU.l ab L).v (ai:=⟨d,1,none⟩) h.K _).a _).a _).e.db⟩
 have g:aL (cb (ar (ar (ay L ⟨d,1,none⟩ (O Q (b.al+1))) l) (aw #[O Q b.af.ao,az b.af.a8,O Q b.af.a1,O Q b.af.n] 150))) (S (R L)+1) #[O Q b.af.ao,az b.af.a8,O Q b.af.a1,O Q b.af.n] 150:=by
  have:=aL.bT (ar (ay L ⟨d,1,none⟩ (O Q (b.al+1))) l) #[O Q b.af.ao,az b.af.a8,O Q b.af.a1,O Q b.af.n] 150;have e:S (R (ar (ay L ⟨d,1,none⟩ (O Q (b.al+1))) l))=S (R L)+1:=by simp[ay]
  rw[e]at this;exact this.e
 have o:aO ab (S (R L)+1) 7 (S (R L)+1)=7:=cy _ _ _;clear H F G kx;generalize(cb (ar (ar (ay L ⟨d,1,none⟩ (O Q (b.al+1))) l) (aw #[O Q b.af.ao,az b.af.a8,O Q b.af.a1,O Q b.af.n] 150)))=z at*;generalize(S (R L))+1=s at*;generalize lo:aO ab s 7=K at*;clear lo;have l8:d≠s:=λe=>by have:=f.dN;rw[e,o]at this;cases this
 have ra:=hO l8;have P:=f.ax.am;have t:=g.am;have gf:=f.aa 5;have u:=f.aa 6;have gg:=f.aa 7;simp[cp]at gf u gg;have mw:=g.aa 0;have fo:=g.aa 1;have dt:=g.aa 2;have v:=g.aa 3;simp at mw fo dt v;have me:=λc=>f.ax.b c
 obtain⟨mn,mO,mR,mY,m5⟩:=dY Tryz.F4;go_region_law ((refine kc _ bf _ _ 119 bf 0 150 mn _ 4 40 underlying119 mO mR mY m5 rfl ak j.ns (M b.b9) (bC bN.h b.b9) bf ((f.a _).e.b9) _ 1 1 (bN.h b.af) bf rfl (c4 (mW z _)) lU ak cN T (bL _) (S (R z)+1) av ?_;intro N D I gj w gC ne;have a:=(f.a _).e.f3 w f.ef ak;have i:=((g.a _).e).f3 o w f.ef ak;have gE:=a.aa 5;have gF:=i.aa 0;have gL:=i.aa 1;have g1:=i.aa 2;have hu:=i.aa 3;have hE:=a.b 5;simp[cp]at gE gF gL g1 hu))
 all_goals
  obtain⟨k,hS⟩:=(f.a _).e.Ls b.af gj w (by simpa using gC);have x:=(((aU.l K z).a _).e).trans hS;have hV:=x.ax o g;have hZ:=(x.ci s t).trans o;have nB:=J.trans x;clear a i gE gF gL g1 hu hE gj w gC ne hS x J f g o gf u gg mw fo dt v me P t;generalize(ay I) ⟨d,5,none⟩ (U (some ⟨N,0,none⟩) (M b.b9+1) D)=A at*;generalize aO K N 2=nG at*;have u:=k.aa 6;have rA:=k.ax.b 6;simp[cp]at u;have P:=k.ax.am;have t:=hV.am;obtain⟨ih,iR,iU,iZ,i0⟩:=dY Tryz.ys;go_wp2_with(first|(at_builtin;refine dq _ rfl (.tmp 43) (.tmp 45) 48 rfl 0 3 ih _ 1 8 underlying48 iR iU iZ i0 rfl ak j.fQ (M b.b6) (b.b6.map (O Q)) bf ((k.a _).b6) _ 1 1 [O Q q] bf rfl (c4 (mW A _)) ey ak cN T (bL _) (S (R A)+1) av ?_;intro rR sY i1 i2 B jt tB;have a:=(k.a _).f3 B k.kn ak;have oa:=a.aa 6;have hE:=a.b 6;have ob:=a.aa 7;simp[cp]at oa ob;obtain⟨p,jW⟩:=(k.a _).M9 q i2 B (by simpa using jt);have C:=((aU.l nG A).a _).trans jW;have oH:=C.ax hZ hV;have oS:=(C.ci s t).trans hZ;have tI:=a.am;clear a i2 B jt jW)|(at_builtin;refine dq _ rfl (.tmp 53) (.tmp 55) 48 rfl 0 3 ih _ 1 8 underlying48 iR iU iZ i0 rfl ak j.cC (M b.cc) (b.cc.map (O Q)) bf ((p.a _).cc) ⟨S (R i1),0,none⟩ 1 1 [O Q r] bf rfl (c4 (cB _ _ _ av)) ey ak cN T (bL _) (S (R i1)+1) av ?_;intro t8 ub ug j4 y j9 uY;have a:=(p.a _).f3 y p.jO ak;have o6:=a.aa 7;have vE:=a.b 7;have i:=(oH.a _).f3 oS y p.jO ak;have v:=i.aa 3;simp[cp]at o6 v;obtain⟨pa,kp⟩:=(p.a _).H_ r j4 y (by simpa using j9);have py:=((aU.l _ _).a _).trans kp;clear a i j4 y j9 kp))
  go_ret;exact⟨rfl,_,_,pa,(nB.trans C).trans py⟩
end
section
attribute [local go_sem↓] Go.wp_at_zero Go.wp_at_succ
theorem Tryz.OF:(prog.info? 248).map (λr=>(r.zero,r.size,r.bytes))=some (some (.agg #[az ⟨#[]⟩,O Q 0,O Q 0,O Q 0,az ⟨#[]⟩,az ⟨#[]⟩,O Q 0]),7,80):=by kernel_rfl
theorem ic(h:bQ ab L d j b)(a:ByteArray)(c w y:Int)(name f:ByteArray)(g:Int)(A:M b.aC<=100000):
 aR prog 206 #[aD (some ⟨d,0,none⟩),.agg #[az a,O Q c,O Q w,O Q y,az name,az f,O Q g]] L λe aI=>e=aM (O Q (M b.aC))/\
  qK ab L d {b with aC:=b.aC++[⟨a,c,w,y,name,f,g⟩]} aI:=by
 have B:=h.ax.am;have p:=h.aa 8;simp[cp]at p;have C:=h.ax.b 8;obtain⟨q,r,s,t,u⟩:=dY Tryz.OF;go_enter func206,ntmps206;go_wp2;go_region_law ((refine kc _ bf _ _ 120 bf 0 248 q _ 7 80 underlying120 r s t u rfl ak j.mG (M b.aC) (bC eV.h b.aC) bf (((h.a _).a _).e.aC) ⟨S (R L)+1,0,none⟩ 1 1 (eV.h ⟨a,c,w,y,name,f,g⟩) bf rfl (c4 (cB _ _ _ av)) (by simp[eV.h,an.oneCell']) ak cN T (bL _) (S (R L)+2) av ?_;intro N D I l i m E;have k:=((h.a _).a _).e.f3 i h.jP ak;have v:=k.aa 8;have F:=k.b 8;simp[cp]at v))
 all_goals
  obtain⟨x,o⟩:=((h.a _).a _).e.Th ⟨a,c,w,y,name,f,g⟩ l i (by simpa using m);have z:=((((aU.l ab L).a _).a _).e).trans o;clear o l i m k;go_wp2;go_ret;exact⟨jq T,_,_,x,z⟩
def lH:List ByteArray:=[⟨#[119,105,116,104,105,110]⟩,⟨#[114,97,116,101]⟩,⟨#[116,104,101,110]⟩,⟨#[110,111,116]⟩,⟨#[105,102]⟩,⟨#[116,105,109,101,115]⟩,⟨#[97,110,100]⟩,⟨#[111,114]⟩,⟨#[105,116]⟩]
def uO(a:Nat):ByteArray:=lH.getD a ByteArray.empty
def bN.G(a:bN):Bool:=a.ao==0&&decide (aW a.a8<=8)&&lH.all λe=>!(aJ a.a8==aJ e)
def lL(a:bN)(wr:Int)(e:Nat):Bool:=(a.ao==0&&decide (aW a.a8<=8)&&decide (wr<0))&&(lH.take e).all λf=>!(aJ a.a8==aJ f)
def au.G(a:au):Bool:=a.af.G&&decide (a.bk<0)
theorem Ts(gF:bN)(wr:Int):lL gF wr 9=(gF.G&&decide (wr<0)):=by unfold lL bN.G;rw[show lH.take 9=lH from rfl];cases(gF.ao==0)<;>cases decide (aW gF.a8<=8)<;>cases decide (wr<0)<;>simp
theorem Nd(gF:bN)(wr:Int)(c:Nat)(h:c<9):lL gF wr (c+1)=(lL gF wr c&&!(aJ gF.a8==aJ (uO c))):=by
 unfold lL uO;have a:lH.getD c ByteArray.empty=lH[c]'(show c<M lH from h):=by simp[List.getD,show c<M lH from h]
 rw[ev (show c<M lH from h),List.all_append,a];simp[Bool.and_assoc]
def Gi:Array an:=#[az ⟨#[119,105,116,104,105,110]⟩,az ⟨#[114,97,116,101]⟩,az ⟨#[116,104,101,110]⟩,az ⟨#[110,111,116]⟩,az ⟨#[105,102]⟩,az ⟨#[116,105,109,101,115]⟩,az ⟨#[97,110,100]⟩,az ⟨#[111,114]⟩,az ⟨#[105,116]⟩]
theorem Lv(c:Nat)(h:c<9):Gi[c]?=some (az (uO c)):=by
 match c,h with
 |0,_=>rfl
 |1,_=>rfl
 |2,_=>rfl
 |3,_=>rfl
 |4,_=>rfl
 |5,_=>rfl
 |6,_=>rfl
 |7,_=>rfl
 |8,_=>rfl
def au.gL(a:au):ByteArray:=if a.G then a.af.a8 else⟨#[]⟩
def au.hE(a:au):au:=if a.G then{a with al:=a.al+1}else a.c8
structure wG (ab:Nat->Nat) (L:aq) (X:Nat) (cO:eU) (V:au) (wr:aq):Prop where
 aV:bQ ab wr X cO V
 a8:wr.cell? ⟨L.heap.size+1,1,none⟩=some (az V.af.a8)
 Z:aL wr (L.heap.size+1+1) Gi 9
 tn:aU ab L ab wr
theorem r4(L:aq)(y:Nat)(hu:Option Nat):b_ L (bY L y) hu:=⟨rfl,rfl,rfl,aN _,λ_ _ _=>rfl⟩
theorem bQ.E(h:bQ ab L d j b)(y:Nat):bQ ab (bY L y) d j b:=h.g1 (r4 L y none)
theorem aU.E{b d:Nat->Nat}(h:aU b L d aI)(y:Nat):aU b L d (bY aI y):=⟨h.ci,h.db.dR,h.db.hq,h.db.ho,h.db.b5,h.db.iA⟩
theorem wG.E{wr:aq}(h:wG ab L d j b wr)(y:Nat):wG ab L d j b (bY wr y):=⟨h.aV.E y,h.a8,h.Z,h.tn.E y⟩
theorem uw(h:bQ ab L d j b)(p:sf b)(q:aW b.af.a8<=maxLen):
 aR prog 176 #[aD (some ⟨d,0,none⟩)] L λe aI=>e=aM (az b.gL)/\bQ ab aI d j b.hE/\aU ab L ab aI:=by
 have s:=h.aa 2;simp[cp]at s;have D:=h.ax.am;have E:d<S (R L)+1:=T;have F:d<S (R L)+1+1:=T;have G:d<S (R L)+2:=T;have t:=q;unfold maxLen at t;go_enter func176,ntmps176;go_wp2_with(first|(go_at_call 96;refine(fJ h).mono ?_;rintro e aI ⟨rfl,k,rfl⟩))
 all_goals
  go_loopw [5,6] (λu r wr=>∃c:Nat,c<=9/\r=O Q c/\u=.bool (lL b.af b.bk c)/\wG ab L d j b wr) (λ_ r _=>9-(intOf r).toNat)
  case atStart=>
   refine⟨0,T,rfl,?_,⟨(((h.a k).a _).a _).e,by simp[go_sem],cB _ _ _ av,((((aU.l ab L).a k).a _).a _).e⟩⟩
   first
    |(have i:b.af.ao=0:=by assumption
      have v:(aW b.af.a8:Int)<=8:=up
      have:aW b.af.a8<=8:=T
      simp[lL,i,this])
    |(have v:8<(aW b.af.a8:Int):=by assumption
      have:¬(aW b.af.a8)<=8:=T
      simp[lL,this])
    |(have i:¬b.af.ao=0:=by assumption
      simp[lL,i])
  case round=>
   obtain⟨c,i,rfl,rfl,a⟩:=hrel;have H:=a.a8;by_cases l:c<9
   ·have I:aK wr ⟨S (R L)+1+1,c,none⟩=some (az (uO c)):=(a.Z.aa c).trans (Lv c l);have m:ag (lL b.af b.bk (c+1)=(lL b.af b.bk c&&!(aJ b.af.a8==aJ (uO c)))):=Nd _ _ _ l;have J:(c:Int)<9:=T;have K:(0:Int)<=(c:Int):=T;cases g:lL b.af b.bk c with
    |true=>
     go_wp2;go_quiet(fail);go_wp2;go_roundw
     case rel=>exact⟨c+1,T,bE,by rw[m.out,g];simp,a.E _⟩
     case measure=>simp[intOf];omega
    |false=>
     go_wp2;go_quiet(fail);go_wp2;go_roundw
     case rel=>exact⟨c+1,T,bE,by rw[m.out,g];rfl,a.E _⟩
     case measure=>simp[intOf];omega
   ·have w:c=9:=by omega
    subst w;have P:=a.aV.ax.b 1;have x:=a.aV.aa 1;simp[cp]at x;have gf:=h.cY;have gg:=h.ia;have o:ag (lL b.af b.bk 9=b.G):=Ts _ _;cases g:lL b.af b.bk 9 with
    |true=>
     have f:ag (b.G=true):=o.out▸g;have y:ag (b.al+1<M b.aT):=by refine p.q h.cY ?_;have:=f.out;simp[au.G,bN.G]at this;omega
     go_wp2;go_ret;have z:aU ab L ab (ay wr ⟨d,1,none⟩ (O Q (b.al+1))):=a.tn.v (ai:=⟨d,1,none⟩) h.K _;have A:bQ ab (ay wr ⟨d,1,none⟩ (O Q (b.al+1))) d j {b with al:=b.al+1}:=a.aV.gE (bW:={b with al:=b.al+1}) 1 _ oM rfl rfl rfl rfl rfl rfl y.out h.ej;exact⟨by simp[au.gL,f.out],by simp only[au.hE,f.out];exact A,z⟩
    |false=>have f:ag (b.G=false):=o.out▸g;go_wp2_with(go_at_call 97;refine(lb a.aV).mono ?_;rintro e gj ⟨rfl,B,C⟩);go_ret;exact⟨by simp[au.gL,f.out],by simp only[au.hE,f.out];exact B,a.tn.trans C⟩
end
inductive cH where
 |bp (n:Int)
 |f2 (name i8:ByteArray) (a1:Int)
 |eH (cj:ByteArray) (bj X:cH)
variable{gF:cH}
inductive fl (aC:List eV):Nat->cH->Prop
 |bp {al:Nat} {bb:eV}:aC[al]?=some bb->bb.cj.toList=[110]->fl aC al (.bp bb.n)
 |f2 {al:Nat} {bb:eV}:aC[al]?=some bb->bb.cj.toList=[102]->0<=bb.a1->fl aC al (.f2 bb.name bb.i8 bb.a1)
 |eH {al bj X:Nat} {bb:eV} {a8 aG:cH}:aC[al]?=some bb->¬bb.cj.toList=[110]->¬bb.cj.toList=[102]->bb.bj=bj->bb.X=X->fl aC bj a8->fl aC X aG->fl aC al (.eH bb.cj a8 aG)
def cH.F(a:List ByteArray):cH->Int
 |.bp _=> -1
 |.f2 name _ g=>if name.toList.isEmpty||a.any (λh=>aJ h==name.toList)then -1 else g
 |.eH _ e f=>if e.F a<0\/(0<=f.F a/\f.F a<e.F a)then f.F a else e.F a
def pP(f:Nat->Nat)(L:aq)(a:an)(e:List ByteArray):Prop:=
 (aY L) 0 9 1 a (M e) (e.map az)/\∀N,ap a=some N->7<=f N
theorem bQ.pZ(h:bQ ab L d j b)(k:b.aC[r]?=some u):
 ∃N D,j.mG=U (some ⟨N,0,none⟩) (M b.aC) D/\r<M b.aC/\(aK L) ⟨N,r*7,none⟩=some (az u.cj)/\aK L ⟨N,r*7+1,none⟩=some (O Q u.bj)/\aK L ⟨N,r*7+2,none⟩=some (O Q u.X)/\aK L ⟨N,r*7+3,none⟩=some (O Q u.n)/\
  (aK L) ⟨N,r*7+4,none⟩=some (az u.name)/\aK L ⟨N,r*7+5,none⟩=some (az u.i8)/\aK L ⟨N,r*7+6,none⟩=some (O Q u.a1):=by
 obtain⟨f,l⟩:=jX.1 k;obtain⟨N,D,i,_,_⟩:=h.aC.form T;have ba:∀z,z<7->∀c,(eV.h u)[z]?=some c->aK L ⟨N,r*7+z,none⟩=some c:=by intro z m c o;have:=h.aC.cells (g:=N) (by rw[i];rfl) (r*7+z) c (by rw[i5 eV.h 7 (λ_=>rfl) _ _ _ f m,l];exact o);have p:(⟨N,0,none⟩:Addr).add (r*7+z)=⟨N,r*7+z,none⟩:=l0;rw[p]at this;exact this
 exact⟨N,D,i,f,ba 0 ak _ rfl,ba 1 ak _ rfl,ba 2 ak _ rfl,ba 3 ak _ rfl,ba 4 ak _ rfl,ba 5 ak _ rfl,ba 6 ak _ rfl⟩
theorem NP(L:aq)(d:Nat)(y:Int)(b:y<0)(a:an):
 aR prog 98 #[aD (some ⟨d,0,none⟩),O Q y,a] L λe aI=>e=aM (O Q (-1))/\aI=L:=by
 go_enter func98,ntmps98;go_wp2_with fail;go_ret;exact⟨rfl,rfl⟩
def pQ(f:Nat->Nat)(L:aq)(g:Nat)(h:eU)(i:au)(a:aq):Prop:=∃e,bQ e a g h i/\aU f L e a
def sS(g:List ByteArray)(l:Nat)(m:cH)(h:au):Prop:=∀(a:Nat->Nat) (L:aq) (f:Nat) (i:eU) (k:an),bQ a L f i h->pP a L k g->aR prog 98 #[aD (some ⟨f,0,none⟩),O Q l,k] L λe p=>e=aM (O Q (m.F g))/\pQ a L f i h p
theorem Sm(c:b.aC[r]?=some u)(e:aJ u.cj=[110])(g:M b.aC<=100000):sS J r (.bp u.n) b:=by
 intro ab L d j i h k;obtain⟨N,D,a,l,gj,m,o,p,q,s,t⟩:=h.pZ c;have f:=h.aa 8;simp[cp]at f;rw[a]at f;have v:(0:Int)<=(r:Int):=T;have w:(r:Int)<(M b.aC:Int):=T;have x:(aJ u.cj==[110])=true:=by simp[e]
 have y:ag (j.mG=U (some ⟨N,0,none⟩) (M b.aC) D):=a;clear a e c;go_enter func98,ntmps98;go_wp2_with fail;go_ret;exact⟨rfl,ab,h.a _,(aU.l ab L).a _⟩
theorem cw{e:TypeId}(h:aY L hZ e ih H y iR)(a:∀N,ap H=some N->(R aI)[N]?=(R L)[N]?):aY aI hZ e ih H y iR:=by
 refine⟨h.1,?_⟩;rcases h.2 with b|⟨N,D,c,rfl,d,f,rest⟩
 ·exact .inl b
 ·exact .inr ⟨N,D,c,rfl,d,(a N rfl).trans f,rest⟩
theorem pP.bo{gg:List ByteArray}(h:pP ab L H gg)(b:aU ab L bl aI):pP bl aI H gg:=
 ⟨cw h.1 λN a=>b.db.iA N ⟨(h.1.lt N a).2,h.2 N a⟩,λN a=>by rw[b.ci N (h.1.lt N a).2];exact h.2 N a⟩
def gP(a:eV):Array an:=#[az a.cj,O Q a.bj,O Q a.X,O Q a.n,az a.name,az a.i8,O Q a.a1]
theorem Iu{t:Nat}{o:cH}(v:b.aC[r]?=some u)(x:¬(aJ u.cj)=[110])(y:¬(aJ u.cj)=[102])(z:u.bj=t)(A:u.X=w)(iU:M b.aC<=100000)
 (P:sS J t o b)(gf:sS J w gF b):sS J r (.eH u.cj o gF) b:=by
 intro ab L d j iZ h l;obtain⟨N,D,m,i0,gj,gg,gC,gE,gL,g1,hu⟩:=h.pZ v;have p:=h.aa 8;simp[cp]at p;rw[m]at p;have i1:(0:Int)<=(r:Int):=T;have i2:(r:Int)<(M b.aC:Int):=T;have jt:(aJ u.cj==[110])=false:=by simp[x]
 have jW:(aJ u.cj==[102])=false:=by simp[y]
 have j4:ag (j.mG=U (some ⟨N,0,none⟩) (M b.aC) D):=m;have q:=(h.kx (bl:=aO ab (S (R L)) 7) (λc l=>cR _ _ _ _ T)).a (aw (gP u) 248);have a:aU ab L (aO ab (S (R L)) 7) (ar L (aw (gP u) 248)):=(aU.l ab L).o6 _ 7;have f:=l.bo a;have hE:aO ab (S (R L)) 7 (S (R L))=7:=cy _ _ _;have s:=aL.bT L (gP u) 248;unfold gP at q a f s;rw[z,A]at*;clear m x y v z A;go_enter func98,ntmps98;go_wp2_with fail;refine(P _ _ _ _ _ q f).mono ?_;rintro e I ⟨rfl,j9,B,g⟩;have dt:=(g.ax hE s).aa 2;simp at dt;have C:=f.bo g;have E:=a.trans g;clear gj gg gC gE gL g1 hu p q f s l a;go_wp2_with fail;refine(gf _ _ _ _ _ B C).mono ?_;rintro e hS ⟨rfl,hV,F,G⟩;have i:pQ ab L d j b hS:=⟨hV,F,E.trans G⟩;have k:ag ((cH.eH u.cj o gF).F J=if o.F J<0\/(0<=gF.F J/\gF.F J<o.F J)then gF.F J else o.F J):=rfl;clear B F g E G dt C;generalize o.F J=H at*;generalize gF.F J=K at*;by_cases hZ:H<0
 ·go_wp2_with fail;go_ret;exact⟨jq (by rw[k.out,aP (.inl hZ)]),i⟩
 ·by_cases ih:0<=K
  ·by_cases iR:K<H
   ·go_wp2_with fail;go_ret;exact⟨jq (by rw[k.out,aP (.inr ⟨ih,iR⟩)]),i⟩
   ·go_wp2_with fail;go_ret;exact⟨jq (by rw[k.out,aH T]),i⟩
  ·go_wp2_with fail;go_ret;exact⟨jq (by rw[k.out,aH T]),i⟩
def nR(a:ByteArray)(e:List ByteArray)(f:Nat):Bool:=(aJ a).isEmpty||(e.take f).any (λg=>aJ g==aJ a)
theorem Rc(a:ByteArray)(J:List ByteArray)(c:Nat)(h:c<M J):nR a J (c+1)=(nR a J c||aJ (J.getD c ByteArray.empty)==aJ a):=by
 unfold nR;have b:J.getD c ByteArray.empty=J[c]:=by simp[List.getD,h]
 rw[ev h,Gv,b];simp[zL]
theorem pP.aa{gg:List ByteArray}(h:pP ab L (U (some ⟨N,0,none⟩) y D) gg)(c:Nat)(a:c<M gg):aK L ⟨N,c,none⟩=some (az (gg.getD c ByteArray.empty)):=by have:=h.1.cells (g:=N) rfl c (az (gg.getD c ByteArray.empty)) (by simp[List.getD,a]);have b:(⟨N,0,none⟩:Addr).add c=⟨N,c,none⟩:=l0;rw[b]at this;exact this
structure yo (ab:Nat->Nat) (L:aq) (X:Nat) (cO:eU) (V:au) (tO:ByteArray) (a1:Int) (Kb:an) (QF:List ByteArray) (wr:aq):Prop where
 aV:bQ ab wr X cO V
 tn:aU ab L ab wr
 tO:wr.cell? ⟨L.heap.size,4,none⟩=some (az tO)
 bP:wr.cell? ⟨L.heap.size,6,none⟩=some (O Q a1)
 Y:pP ab wr Kb QF
theorem yo.E{a:ByteArray}{c:Int}{e:an}{wr:aq}(h:yo ab L d j b a c e J wr)(y:Nat):yo ab L d j b a c e J (bY wr y):=
 ⟨h.aV.E y,h.tn.E y,h.tO,h.bP,h.Y⟩
theorem H9(k:b.aC[r]?=some u)(f:aJ u.cj=[102])(gC:M b.aC<=100000)(gE:M J<=100000):sS J r (.f2 u.name u.i8 u.a1) b:=by
 intro ab L d j t h g;obtain⟨N,D,l,gF,gj,v,x,z,A,B,C⟩:=h.pZ k;have i:=h.aa 8;simp[cp]at i;rw[l]at i;have gL:(0:Int)<=(r:Int):=T;have g1:(r:Int)<(M b.aC:Int):=T;have hu:(aJ u.cj==[110])=false:=by simp[f]
 have hE:(aJ u.cj==[102])=true:=by simp[f]
 have m:ag ((cH.f2 u.name u.i8 u.a1).F J=if nR u.name J (M J)=true then -1 else u.a1):=by show _=_;simp[cH.F,nR]
 have E:∃o y w,t=U o y w/\y=M J/\(0<y->∃gk,o=some ⟨gk,0,none⟩):=by
  rcases g.1.2 with⟨rfl,F⟩|⟨gk,w,hS,rfl,_⟩
  ·exact⟨none,0,0,rfl,F.symm,λh=>absurd h ak⟩
  ·exact⟨_,_,_,rfl,rfl,λ_=>⟨gk,rfl⟩⟩
 obtain⟨G,hV,H,rfl,I,K⟩:=E;subst I;clear l f k;go_enter func98,ntmps98;go_wp2_with fail
 go_loopw [8,9] (λP r wr=>∃c:Nat,c<=M J/\r=O Q c/\P=.bool (nR u.name J c)/\yo ab L d j b u.name u.a1 (U G (M J) H) J wr) (λ_ r _=>M J-(intOf r).toNat)
 case atStart=>exact⟨0,T,rfl,by simp[nR],⟨h.a _,(aU.l ab L).a _,by simp[go_sem],by simp[go_sem],g.bo ((aU.l ab L).a _)⟩⟩
 case round=>
  obtain⟨c,hZ,rfl,rfl,a⟩:=hrel;have ih:=a.tO;clear gj v x z A B C i g h;by_cases p:c<M J
  ·obtain⟨gk,rfl⟩:=K T;have iR:=a.Y.aa c p;have q:ag (nR u.name J (c+1)=(nR u.name J c||aJ (J.getD c ByteArray.empty)==u.name.toList)):=Rc _ _ _ p;have iU:(c:Int)<(M J:Int):=T;have iZ:(0:Int)<=(c:Int):=T;cases e:nR u.name J c with
   |true=>
    go_wp2;go_quiet(fail);go_wp2;go_roundw
    case rel=>exact⟨c+1,T,bE,by rw[q.out,e];rfl,a.E _⟩
    case measure=>simp[intOf];omega
   |false=>
    generalize gf:J.getD c ByteArray.empty=i0 at*;clear gf;go_wp2;go_quiet(fail);go_wp2;go_roundw
    case rel=>exact⟨c+1,T,bE,by rw[q.out,e];simp,a.E _⟩
    case measure=>simp[intOf];omega
  ·have gg:c=M J:=by omega
   subst gg;have s:ag (pQ ab L d j b wr):=⟨ab,a.aV,a.tn⟩;have i1:=a.bP;cases e:nR u.name J (M J)with
   |true=>go_wp2;go_ret;exact⟨jq (by rw[m.out,e];rfl),s.out⟩
   |false=>go_wp2;go_ret;exact⟨jq (by rw[m.out,e];rfl),s.out⟩
theorem IT(d:M b.aC<=100000)(e:M J<=100000)(h:fl b.aC r gF):sS J r gF b:=by
 induction h with
 |bp a c=>exact Sm a c d
 |f2 a c _=>exact H9 a c d e
 |eH a c f g i _ _ j k=>exact Iu a c f g i d j k
def c2(a:List bN):Prop:=(∀e,(h:e<M a)->a[e].ao<=2->e+1<M a)/\∀f∈a,aW f.a8<=1000
theorem c2.b8(h:c2 b.aT):sf b:=h.1
theorem c2.b5(h:c2 b.aT):aW b.af.a8<=maxLen:=by
 unfold au.af maxLen;cases e:b.aT[b.al]? with
 |none=>simp[default]
 |some gF=>have:=h.2 gF (m1 e);simp;omega
def au.g(a:au):au:={a with al:=a.al+1}
theorem mg{a:Prop}(h:a:=by simp[cp,au.g]):a:=h
def au.gC(a:au)(e:eV):au:={a with aC:=a.aC++[e]}
def w1(a:List UInt8):ByteArray:=⟨a.toArray⟩
def cD:ByteArray:=⟨#[]⟩
def bN.pa(a:bN):Bool:=a.ao==2&&(aJ a.a8==[61]||aJ a.a8==[33,61]||aJ a.a8==[60]||aJ a.a8==[60,61]||aJ a.a8==[62]||aJ a.a8==[62,61])
def bN.gf(a:bN)(e:Nat):Bool:=match e with
 |0=>a.ao==0&&aJ a.a8==[111,114]
 |1=>a.ao==0&&aJ a.a8==[97,110,100]
 |3=>a.ao==2&&(aJ a.a8==[43]||aJ a.a8==[45])
 |4=>a.ao==2&&(aJ a.a8==[42]||aJ a.a8==[47])
 |_=>false
def bN.hV(a:bN):Bool:=a.ao==0&&(aJ a.a8==[97]||aJ a.a8==[98]||aJ a.a8==[99]||aJ a.a8==[116])
inductive uL where
 |dV (dE:Nat)
 |Z (dE:Nat) (bj:Int)
 |ah
def au.j4(a:au):ByteArray:=if a.f ⟨#[105,116]⟩then cD else a.gL
def au.x(a:au):au:=(if a.f ⟨#[105,116]⟩then a.g else a.hE).c5 ⟨#[46]⟩
inductive e9:uL->au->Int->au->Prop
 |x3 {dE:Nat} {V:au}:0<=V.bk->e9 (.dV dE) V 0 V
 |w0 {V:au} {aQ:Int} {bW:au}:V.bk<0->e9 .ah V aQ bW->e9 (.dV 5) V aQ bW
 |yS {V:au} {bj:Int} {cX:au}:V.bk<0->e9 (.dV 3) V bj cX->(cX.af.pa&&decide (cX.bk<0))=false->e9 (.dV 2) V 0 cX.c8
 |wO {V:au} {bj X:Int} {cX xN:au}:V.bk<0->e9 (.dV 3) V bj cX->cX.af.pa=true->cX.bk<0->e9 (.dV 3) cX.g X xN->xN.aC.length<=100000->e9 (.dV 2) V xN.aC.length (xN.gC ⟨cX.af.a8,bj,X,0,cD,cD,0⟩)
 |xD {dE:Nat} {V:au} {bj aQ:Int} {cX bW:au}:V.bk<0->dE=0\/dE=1\/dE=3\/dE=4->e9 (.dV (dE+1)) V bj cX->e9 (.Z dE bj) cX aQ bW->e9 (.dV dE) V aQ bW
 |wF {dE:Nat} {bj:Int} {V:au}:(V.af.gf dE&&decide (V.bk<0))=false->e9 (.Z dE bj) V bj V
 |yf {dE:Nat} {bj X aQ:Int} {V cX bW:au}:V.bk<0->V.af.gf dE=true->e9 (.dV (dE+1)) V.g X cX->cX.aC.length<=100000->e9 (.Z dE cX.aC.length) (cX.gC ⟨V.af.a8,bj,X,0,cD,cD,0⟩) aQ bW->e9 (.Z dE bj) V aQ bW
 |wR {V:au}:V.bk<0->V.af.ao=1->V.b9.length<=10000->V.b6.length<=10000->V.cc.length<=10000->V.aC.length<=100000->e9 .ah V V.aC.length ((V.bp 0 999999999).gC ⟨⟨#[110]⟩,0,0,V.af.n,cD,cD,0⟩)
 |xL {V cX:au} {X:Int} {Y:Nat}:V.bk<0->V.f ⟨#[45]⟩=true->V.bz<=1000000->e9 (.dV 5) (V.g.B V.af.a1) X cX->cX.bz=Y+1->Y<=1000000->cX.aC.length<=99999->e9 .ah V (cX.aC.length+1:Nat) (({cX with bz:=Y}.gC ⟨⟨#[110]⟩,0,0,0,cD,cD,0⟩).gC ⟨⟨#[45]⟩,cX.aC.length,X,0,cD,cD,0⟩)
 |yc {V cX:au} {bj:Int} {Y:Nat}:V.bk<0->V.f ⟨#[40]⟩=true->V.bz<=1000000->e9 (.dV 3) (V.g.B V.af.a1) bj cX->cX.bz=Y+1->Y<=1000000->e9 .ah V bj (({cX with bz:=Y}).c5 ⟨#[41]⟩)
 |uR {V:au}:V.bk<0->V.af.ao≠1->V.f ⟨#[45]⟩=false->V.f ⟨#[40]⟩=false->(V.x.af.hV&&decide (V.x.bk<0))=false->V.x.aC.length<=100000->e9 .ah V 0 V.x.c8
 |wD {V:au}:V.bk<0->V.af.ao≠1->V.f ⟨#[45]⟩=false->V.f ⟨#[40]⟩=false->V.x.af.hV=true->V.x.bk<0->V.x.aC.length<=100000->e9 .ah V V.x.aC.length (V.x.g.gC ⟨⟨#[102]⟩,0,0,0,V.j4,V.x.af.a8,V.af.a1⟩)
theorem tv(b:au)(o:ByteArray):(b.c5 o).aT=b.aT:=by unfold au.c5;split;rfl;exact sh b
theorem p0(b:au):b.hE.aT=b.aT:=by unfold au.hE;split;rfl;exact sh b
theorem uI(b:au)(a d:Int):(b.bp a d).aT=b.aT:=by unfold au.bp;split;rfl;exact sh b
theorem xw(b:au):b.x.aT=b.aT:=by unfold au.x;rw[tv];split;rfl;exact p0 b
theorem e9.aT{e:uL}(h:e9 e b iZ bW):bW.aT=b.aT:=by
 induction h with
 |x3 _=>rfl
 |w0 _ _ a=>exact a
 |yS _ _ _ a=>rw[sh];exact a
 |wO _ _ _ _ _ _ c d=>exact d.trans c
 |xD _ _ _ _ c d=>exact d.trans c
 |wF _=>rfl
 |yf _ _ _ _ _ c d=>exact d.trans c
 |wR _ _ _ _ _ _=>exact uI _ _ _
 |xL _ _ _ _ _ _ _ a=>exact a
 |yc _ _ _ _ _ _ a=>rw[tv];exact a
 |uR _ _ _ _ _ _=>rw[sh];exact xw _
 |wD _ _ _ _ _ _ _=>exact xw _
def ie(g:Nat)(h:au)(i:Int)(k:au):Prop:=∀(f:Nat->Nat) (L:aq) (a:Nat) (l:eU),bQ f L a l h->aR prog 177 #[aD (some ⟨a,0,none⟩),O Q g] L λe m=>e=aM (O Q i)/\qK f L a k m
def t_(g:au)(h:Int)(i:au):Prop:=∀(f:Nat->Nat) (L:aq) (a:Nat) (k:eU),bQ f L a k g->aR prog 205 #[aD (some ⟨a,0,none⟩)] L λe l=>e=aM (O Q h)/\qK f L a i l
theorem Tq(f:c2 b.aT)(g:b.bk<0)(a:b.af.ao=1)(i:M b.b9<=10000)(k:M b.b6<=10000)(l:M b.cc<=10000)(m:M b.aC<=100000):
 t_ b (M b.aC) ((b.bp 0 999999999).gC ⟨⟨#[110]⟩,0,0,b.af.n,cD,cD,0⟩):=by
 intro ab L d j h;have c:b.iU=true:=by simp[au.iU,a,g]
 have o:ag (b.bp 0 999999999={b with al:=b.al+1,b9:=b.b9++[b.af],b6:=b.b6++[0],cc:=b.cc++[999999999]}):=by show _=_;simp[au.bp,c]
 have w:((b.af.ao:Int)==1)=true:=by simp[a]
 have x:ag (b.af.ao=1):=a;have p:ag (b.iU=true):=c;clear a c;go_enter func205,ntmps205;go_wp2_with(first|(go_at_call 96;refine(fJ h).mono ?_;rintro e aI ⟨rfl,y,rfl⟩)|(go_at_call 94;refine(B_ (((h.a _).a _).e) f.b8 0 999999999 p.out i k l).mono ?_;rintro e I ⟨rfl,z,A,q,r⟩)|(go_at_call 206;refine(ic q _ _ _ _ _ _ _ m).mono ?_;rintro e B ⟨rfl,s,t,u,v⟩))
 go_ret;refine⟨rfl,s,t,?_,(((((aU.l ab L).a _).a _).e).trans r).trans v⟩;rw[o.out];exact u
def ds(a:au):Array an:=#[O Q a.af.ao,az a.af.a8,O Q a.af.a1,O Q a.af.n]
theorem sr(L:aq)(b:Obj)(a:Array an)(gF:TypeId):aL (cb (ar (ar L b) (aw a gF))) (S (R L)+1) a gF:=cB _ _ _ av
theorem p5(h:bQ ab L d j b)(a:Nat)(e:S (R L)<=a):bQ (aO ab a 7) L d j b:=h.kx (λc f=>cR _ _ _ _ T)
theorem DD(h:bQ ab L d j b)(a:Nat)(e:S (R L)<=a):bQ (aO ab a 8) L d j b:=h.kx (λc f=>cR _ _ _ _ T)
theorem A4(ab:Nat->Nat)(L:aq)(a b:Obj)(d:Nat)(e:S (R L)<=d):aU ab L (aO ab d 7) (cb (ar (ar L a) b)):=
 ⟨λc f=>cR _ _ _ _ T,((((aU.l ab L).a a).a b).e).db⟩
theorem MU{a:ByteArray}(h:b.f o=true)(c:(aJ o==aJ a)=false):b.f a=false:=by simp[au.f,bN.f]at h;simp[au.f,bN.f];intro _ _ e;rw[h.2.2]at e;simp[e]at c
theorem J7(w:c2 b.aT)(gF:b.bk<0)(g:b.f ⟨#[45]⟩=true)(x:b.bz<=1000000)(y:ie 5 (b.g.B b.af.a1) iZ hS)(m:hS.bz=c+1)(gL:c<=1000000)(g1:M hS.aC<=99999):
 t_ b (M hS.aC+1:Nat) (({hS with bz:=c}.gC ⟨⟨#[110]⟩,0,0,0,cD,cD,0⟩).gC ⟨⟨#[45]⟩,M hS.aC,iZ,0,cD,cD,0⟩):=by
 intro ab L d j h;have z:=Hc g;have hu:((b.af.ao:Int)==1)=false:=by simp[au.f,bN.f]at g;rw[di];omega
 have A:ag (b.f ⟨#[45]⟩=true):=g;have B:ag (b.t ⟨#[45]⟩=b.g):=by show _=_;simp[au.t,g,au.g]
 have C:ag (hS.bz=c+1):=m;have D:b.g.bz<=1000000:=x;have E:=p5 h (S (R L)+1) T;have F:aO ab (S (R L)+1) 7 (S (R L)+1)=7:=cy _ _ _;have o:=λa=>A4 ab L a (aw (ds b) 150) (S (R L)+1) T
 have p:=λa=>sr L a (ds b) 150
 unfold ds at o p;clear g m z;go_enter func205,ntmps205;go_wp2_with(first|(go_at_call 96;refine(fJ h).mono ?_;rintro e aI ⟨rfl,a,rfl⟩)|(go_at_call 142;refine(fq (((E.a _).a _).e) w.b8 _).mono ?_;rintro e I ⟨rfl,i,k⟩;rw[A.out];rw[B.out]at i;have q:=k.ax F (p a);have dt:=q.aa 2;simp at dt)|(go_at_call 175;refine(Aw i _ D).mono ?_;rintro e hE ⟨rfl,r,s⟩)|(go_at_call 177;refine(y _ _ _ _ r).mono ?_;rintro e t ⟨rfl,u,G,f,v⟩;have l:=f.aa 3;have H:=f.ax.b 3;simp[cp]at l;rw[C.out]at l))
 have J:bQ u (ay t ⟨d,3,none⟩ (O Q c)) d G {hS with bz:=c}:=f.gE (bW:={hS with bz:=c}) 3 _ oM rfl rfl rfl rfl rfl rfl f.cY f.ej;have K:aU ab L u (ay t ⟨d,3,none⟩ (O Q c)):=((((o a).trans k).trans s).trans v).v (ai:=⟨d,3,none⟩) f.K _;clear l H dt q k s v i r;refine(ic J _ _ _ _ _ _ _ (by show(M hS.aC)<=100000;omega)).mono ?_;rintro e hV ⟨rfl,hZ,ih,P,gf⟩;go_wp2_with fail;refine(ic P _ _ _ _ _ _ _ b7).mono ?_;rintro e iR ⟨rfl,gg,gj,gC,gE⟩;go_wp2_with fail;go_ret;exact⟨jq av,gg,gj,gC,(K.trans gf).trans gE⟩
theorem MO(r:c2 b.aT)(D:c2 hS.aT)(g1:b.bk<0)(g:b.f ⟨#[40]⟩=true)(E:b.bz<=1000000)(F:ie 3 (b.g.B b.af.a1) iZ hS)(s:hS.bz=c+1)(hu:c<=1000000):
 t_ b iZ (({hS with bz:=c}).c5 ⟨#[41]⟩):=by
 intro ab L d j h;have hE:((b.af.ao:Int)==1)=false:=by simp[au.f,bN.f]at g;rw[di];omega
 have i:b.f ⟨#[45]⟩=false:=MU g (by decide+kernel);have G:ag (b.f ⟨#[40]⟩=true):=g;have H:ag (b.f ⟨#[45]⟩=false):=i;have J:ag (b.t ⟨#[45]⟩=b):=by show _=_;simp[au.t,i]
 have K:ag (b.t ⟨#[40]⟩=b.g):=by show _=_;simp[au.t,g,au.g]
 have P:ag (hS.bz=c+1):=s;have gf:b.g.bz<=1000000:=E;have gg:=p5 h (S (R L)+1) T;have t:aO ab (S (R L)+1) 7 (S (R L)+1)=7:=cy _ _ _;have u:=λa=>A4 ab L a (aw (ds b) 150) (S (R L)+1) T
 have v:=λa=>sr L a (ds b) 150
 unfold ds at u v;clear g s i;go_enter func205,ntmps205;go_wp2_with(first|(go_at_call 96;refine(fJ h).mono ?_;rintro e aI ⟨rfl,a,rfl⟩)|(go_at_call_of 142 (az ⟨#[45]⟩);refine(fq (((gg.a _).a _).e) r.b8 _).mono ?_;rintro e I ⟨rfl,k,l⟩;rw[H.out];rw[J.out]at k;have w:=l.ax t (v a))|(go_at_call_of 142 (az ⟨#[40]⟩);refine(fq k r.b8 _).mono ?_;rintro e hV ⟨rfl,m,o⟩;rw[G.out];rw[K.out]at m;have x:=o.ax t w;have dt:=x.aa 2;simp at dt)|(go_at_call 175;refine(Aw m _ gf).mono ?_;rintro e hZ ⟨rfl,y,z⟩)|(go_at_call 177;refine(F _ _ _ _ y).mono ?_;rintro e A ⟨rfl,p,B,f,C⟩;have q:=f.aa 3;have gj:=f.ax.b 3;simp[cp]at q;rw[P.out]at q))
 have gC:bQ p (ay A ⟨d,3,none⟩ (O Q c)) d B {hS with bz:=c}:=f.gE (bW:={hS with bz:=c}) 3 _ oM rfl rfl rfl rfl rfl rfl f.cY f.ej;have gE:aU ab L p (ay A ⟨d,3,none⟩ (O Q c)):=(((((u a).trans l).trans o).trans z).trans C).v (ai:=⟨d,3,none⟩) f.K _;clear q gj dt w x l o z C k m y;refine(oA gC D.b8 _).mono ?_;rintro e ih ⟨rfl,gF,gL⟩;go_wp2_with fail;go_ret;exact⟨rfl,p,B,gF,gE.trans gL⟩
