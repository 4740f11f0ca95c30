import Derived.Test.YtddbjcfdmdbmkaaGreatDoorB34
import Derived.Defers
import Derived.Recover
set_option linter.all false
set_option maxRecDepth 100000
set_option maxHeartbeats 6400000
namespace Go.Proofs.YtddbjcfdmdbmkaaGreatDoor
open Go.RowKit Go.Proofs.Tryz
open Go renaming Calls->aR,Value->an,World->aq,results->eS
open Go.Ending renaming returned->aM
open Go.IntKind renaming i64->Q
open Go.Obj renaming cells->aw
open Go.Proofs renaming intOf->eg
open Go.RowKit renaming Below->aF,Hid->ag
open Go.Value renaming int->O,pointer->aD,slice->U,tuple->b2,ownBlock->ap
open _root_.Array renaming size->S
open Go.World renaming alloc->ar,cell?->aK,drew->cb,grownBy->b_,heap->R,ownsRow->aY,setCell->ay
open List renaming length->M
variable{y w gE:Nat->Nat}{hu A hZ J gg gf g1 gL kp k1 iZ i2 lo l8 me mn:an}{b c k iR u j ih N gF a o ah I i0 hE kx:Nat}{L x K mR:aq}{r:List es}{d:Int}{B D G iU H gC mY kr:List an}{E F z m5:List Int}{hV:Obj}{hS:List be}{k7:List Nat}{i1:List bO}{jW:List (Nat×List Nat)}{j4:Option Addr}
def gJ(f:Nat->Nat)(g:an)(h:Nat):Nat->Nat:=λe=>if(ap g)=some e then h else f e
theorem s2(h:ap hu=some c):gJ y hu b c=b:=by unfold gJ;rw[aP h]
theorem uA(h:ap hu≠some c):gJ y hu b c=y c:=by unfold gJ;rw[aH h]
theorem bt.gJ{d:Nat}(f:∀c,ap hu=some c->y c=b):bt (λg=>g=b) y L (gJ y hu d) L:=
 ⟨rfl,rfl,rfl,aN _,λc _ h=>⟨uA (λa=>h (f c a)),rfl⟩⟩
def gN(e:Nat):Prop:=1<=e/\e<=9
def ol(g:Nat->Nat)(L:aq)(f:List es)(i:Nat):Prop:=∀e,i<=e->(h:e<M f)->aY L 0 3 1 f[e].1 (M f[e].2) (f[e].2.map λl=>O Q (l:Nat))/\∀N,ap f[e].1=some N->g N=8
theorem ol.bM{b:Nat->Prop}(h:ol y L r k)(hF:bt b y L w x)(g:¬b 8):ol w x r k:=λc i j=>by
 obtain⟨d,e⟩:=h c i j;have f:∀N,ap r[c].1=some N->w N=y N/\(R x)[N]?=(R L)[N]?:=λN a=>hF.ci N (d.lt N a).2 (by rw[e N a];exact g)
 exact⟨cw d λN a=>(f N a).2,λN a=>(f N a).1.trans (e N a)⟩
structure sk (ab:Nat->Nat) (L:aq) (f8:Nat) (jj:an) (n:Nat) (fQ f1:an) (bH:List an) (ct:List an) (dR:List Int) (a6:an) (iy:List es) (al:Nat) (wr:aq) (bl:Nat->Nat) (jo he:an) (lY:List an) (ml:List Int):Prop where
 aQ:ft bl wr f8 jj (n+al) jo he fQ f1 lY ml ct dR
 hj:iB bl wr lY ml
 hl:iq bl wr ct dR
 bX:lY.length=bH.length+4*al
 bg:gh bl wr 7 48 a6 (iy.map (·.1))
 ju:ol bl wr iy al
 bM:bt gN ab L bl wr
def te(h:Nat->Nat)(L:aq)(i:an)(l:Nat)(m:Int)(p:an):Prop:=∃f e q,p=U f e q/\e<=l/\(0<e->∃N,f=some ⟨N,0,none⟩/\N<S (R L)/\(h N=6\/ap i=some N)/\∀g,g<e->aK L ⟨N,g,none⟩=some (O Q m))
theorem te.bM{c:Nat->Prop}(h:te y L A iR d hZ)(hF:bt c y L w x)(l:∀N,ap A=some N->y N=9)(f:¬c 6/\¬c 9):te w x A iR d hZ:=by
 obtain⟨m,a,b,rfl,o,h⟩:=h;refine⟨m,a,b,rfl,o,λp=>?_⟩;obtain⟨N,rfl,g,i,q⟩:=h p;have j:=hF.ci N g (by
  rcases i with e|e
  ·rw[e];exact f.1
  ·rw[l N e];exact f.2)
 refine⟨N,rfl,cI g hF.b5,?_,λk r=>(dn j.2 k).trans (q k r)⟩;rcases i with e|e
 ·exact .inl (j.1.trans e)
 ·exact .inr e
structure ng (ab:Nat->Nat) (L:aq) (f8:Nat) (jj:an) (n:Nat) (fQ f1:an) (lY:List an) (ml:List Int) (ct:List an) (dR:List Int) (a6:an) (iy:List es) (al Hi:Nat) (cO:Int) (aE:Nat) (wr:aq) (bl:Nat->Nat) (jo he qu:an) (sl:List an):Prop where
 aQ:ft bl wr f8 jj n jo he fQ f1 (lY++sl) (ml++List.replicate aE cO) ct dR
 hj:iB bl wr lY ml
 hl:iq bl wr ct dR
 bX:sl.length=aE
 bg:gh bl wr 7 48 a6 (iy.map (·.1))
 ju:ol bl wr iy (al+1)
 bb:gh bl wr 9 3 qu (List.replicate (Hi+aE) (O Q cO))
 ki:∀kf∈sl,te bl wr qu (Hi+aE) cO kf
 bM:bt gN ab L bl wr
theorem ng.q{wr:aq}(iR:ft w wr u J j g1 gL gg gf (B++G++[A]) (E++List.replicate b d++[d]) D F)(iU:iB w wr B E)(iZ:iq w wr D F)(i0:M G=b)(i1:gh w wr 7 48 hu (r.map (·.1)))(i2:ol w wr r (k+1))(o:gh w wr 9 3 A (List.replicate (ih+b) (O Q d)))(jW:∀hZ∈G,te w wr A (ih+b) d hZ)(j4:bt gN y L w wr)(kp:b_ (ar wr hV) K (ap A))(kr:aY K 0 3 1 (U (some ⟨N,0,none⟩) (ih+b+1) gF) (ih+b+1) (List.replicate (ih+b) (O Q d)++[O Q d]))(kx:ap A=some N\/S (R wr)<=N)(k1:aY K 0 3 1 A (ih+b) (List.replicate (ih+b) (O Q d))):
 ∃gE,ng y L u J j gg gf B E D F hu r k ih d (b+1) K gE g1 gL (U (some ⟨N,0,none⟩) (ih+b+1) gF) (G++[A]):=by
 have p:bt (λb=>b=9) w wr (aO w N 9) K:=bt.g1 rfl kp o.cG kx;obtain⟨x,z,rfl⟩:=eK o.bg;have m5:=o.bg.1;have i:bt (λb=>b=9) w wr (aO (gJ w (U x (M (List.replicate (ih+b) (O Q d))) z) 6) N 9) K:=by
  refine⟨p.dR,p.hq,p.ho,p.b5,λc l P=>?_⟩;obtain⟨v,C⟩:=p.ci c l P;refine⟨?_,C⟩;by_cases s:c=N
  ·subst s;rw[cy]at v⊢;exact v
  ·rw[cR _ _ _ _ s,uA (λa=>P (o.cG c a))]
 generalize gj:(U x (M (List.replicate (ih+b) (O Q d))) z)=A at*;have gC:∀c,ap A=some c->aO (gJ w A 6) N 9 c=6\/ap (U (some ⟨N,0,none⟩) (ih+b+1) gF)=some c:=λc l=>by
  by_cases s:c=N
  ·right;rw[s];rfl
  ·left;rw[cR _ _ _ _ s];exact s2 l
 have hE:∀c,ap A=some c->∀f,f<ih+b->aK K ⟨c,f,none⟩=some (O Q d):=λc l f m=>by have:=k1.cells (g:=c) (by rw[l]) f (O Q d) (by rw[List.getElem?_replicate,aP m]);rw[ez,du]at this;exact this
 have k7:∀b,(λb=>b=9) b->6<=b\/b=0:=λb a=>by subst a;exact .inl ak
 refine⟨aO (gJ w A 6) N 9,⟨?_,iU.bM i ak,iZ.bM i ak,by simp[i0],i1.bM i ak,i2.bM i ak,⟨?_,λc l=>by cases l;exact cy _ _ _⟩,λhZ t=>?_,j4.trans (i.cE λb a=>by subst a;unfold gN;decide)⟩⟩
 ·have:=iR.bM i k7;rw[ke,ke]at this;rw[x8];exact this
 ·have:List.replicate (ih+(b+1)) (O Q d)=List.replicate (ih+b) (O Q d)++[O Q d]:=by rw[<-hr,x8]
  rw[this,bV,qf];exact kr
 ·rcases dm.1 t with t|t
  ·obtain⟨lo,a,l8,rfl,ne,h⟩:=jW hZ t;refine⟨lo,a,l8,rfl,T,λH=>?_⟩;obtain⟨c,rfl,I,me,mn⟩:=h H;rcases me with e|e
   ·obtain⟨v,C⟩:=i.ci c I (by rw[e];decide);exact⟨c,rfl,cI I i.b5,.inl (v.trans e),λf m=>(dn C f).trans (mn f m)⟩
   ·exact⟨c,rfl,cI I i.b5,gC c e,λf m=>hE c e f T⟩
  ·rw[dB.1 t];refine⟨x,_,z,gj.symm,av,λH=>?_⟩;rcases o.bg.2 with⟨e,mR⟩|⟨c,nB,nG,e,_,l,_⟩
   ·simp at H;simp at mR;omega
   ·have hS:ap A=some c:=by rw[e];rfl
    rw[<-gj]at e;injection e with mY oa ob;exact⟨c,mY,cI (i7.1 l).1 i.b5,gC c hS,λf m=>hE c hS f (by simpa using m)⟩
def tQ(e:List es):Prop:=∀f g,(h:f<M e)->(i:g<M e)->f<g->∀N,ap e[f].1=some N->ap e[g].1≠some N
theorem sk.gj{wr:aq}(h:sk y L u J j gg gf iU D F hu r k wr w g1 gL B E)(f:k<M r)(m:tQ r):
 ∃gE,ft gE (ay wr ⟨u,1,none⟩ (O Q ((j+k+1:Nat):Int))) u J (j+k+1) g1 gL gg gf B E D F/\iB gE (ay wr ⟨u,1,none⟩ (O Q ((j+k+1:Nat):Int))) B E/\iq gE (ay wr ⟨u,1,none⟩ (O Q ((j+k+1:Nat):Int))) D F/\gh gE (ay wr ⟨u,1,none⟩ (O Q ((j+k+1:Nat):Int))) 7 48 hu (r.map (·.1))/\ol gE (ay wr ⟨u,1,none⟩ (O Q ((j+k+1:Nat):Int))) r (k+1)/\gh gE (ay wr ⟨u,1,none⟩ (O Q ((j+k+1:Nat):Int))) 9 3 r[k].1 (r[k].2.map λj=>O Q (j:Nat))/\bt gN y L gE (ay wr ⟨u,1,none⟩ (O Q ((j+k+1:Nat):Int))):=by
 have c:bt (λb=>b=1) w wr w (ay wr ⟨u,1,none⟩ (O Q ((j+k+1:Nat):Int))):=bt.j h.aQ.il _;have g:=h.ju.bM c ak;obtain⟨o,p⟩:=g k (aN _) f;have d:bt (λb=>b=8) w (ay wr ⟨u,1,none⟩ (O Q ((j+k+1:Nat):Int))) (gJ w r[k].1 9) (ay wr ⟨u,1,none⟩ (O Q ((j+k+1:Nat):Int))):=bt.gJ p;refine⟨gJ w r[k].1 9,(h.aQ.pX (j+k+1)).bM d (λb a=>by subst a;exact .inl ak),(h.hj.bM c ak).bM d ak,(h.hl.bM c ak).bM d ak,(h.bg.bM c ak).bM d ak,λi t l=>?_,⟨by rw[c_];exact o,λN e=>s2 e⟩,h.bM.trans ((c.cE λb a=>by subst a;unfold gN;decide).trans (d.cE λb a=>by subst a;unfold gN;decide))⟩;obtain⟨q,s⟩:=g i T l;exact⟨q,λN e=>by rw[uA (λa=>m k i f l T N a e)];exact s N e⟩
theorem ng.jt{c e:aq}(f:ft gE c u J j g1 gL gg gf B E D F)(g:iB gE c B E)(h:iq gE c D F)(i:gh gE c 7 48 hu (r.map (·.1)))(l:ol gE c r (k+1))(m:gh gE c 9 3 A H)(o:bt gN y L gE c)(hF:bt (λb=>b=9) gE c gE e)(p:aY e 0 3 1 A ih (List.replicate ih (O Q d))):ng y L u J j gg gf B E D F hu r k ih d 0 e gE g1 gL A []:=
 ⟨by simpa using f.bM hF (λb a=>by subst a;exact .inl ak),g.bM hF ak,h.bM hF ak,rfl,i.bM hF ak,l.bM hF ak,⟨by simpa using p,m.cG⟩,λhZ s=>by simp at s,o.trans (hF.cE λb a=>by subst a;unfold gN;decide)⟩
theorem ng.mO{wr:aq}(h:ng y L u J (j+k+1) gg gf B E D F hu r k ih d 4 wr w g1 gL A G)(i:M B=M iU+4*k)(C:ih<=1000000):∃gE,sk y L u J j gg gf iU D F hu r (k+1) wr gE g1 gL (B++G) (E++List.replicate 4 d):=by
 have hF:bt (λb=>b=9) w wr (gJ w A 6) wr:=bt.gJ h.bb.cG;have g:=h.bX;refine⟨gJ w A 6,⟨h.aQ.bM hF (λb a=>by subst a;exact .inl ak),(h.hj.bM hF ak).C ⟨by rw[g,qf],λa l c=>?_⟩,h.hl.bM hF ak,by rw[bV,i,g];omega,h.bg.bM hF ak,h.ju.bM hF ak,h.bM.trans (hF.cE λb a=>by subst a;unfold gN;decide)⟩⟩;rw[TD];obtain⟨m,o,p,e,H,s⟩:=h.ki _ (b4 l);rw[e];refine⟨m,o,p,rfl,T,λt=>?_⟩;obtain⟨N,rfl,v,x,z⟩:=s t;refine⟨N,rfl,?_,v,z⟩;show gJ w A 6 N=6;rcases x with f|f
 ·unfold gJ;split
  ·rfl
  ·exact f
 ·exact s2 f
structure k9 (ab:Nat->Nat) (L:aq) (f8:Nat) (jj:an) (n:Nat) (fQ f1:an) (lY:List an) (ml:List Int) (ct:List an) (dR:List Int) (a6:an) (iy:List es) (al bi:Nat) (cO:Int) (wr:aq) (bl:Nat->Nat) (jo he qu:an) (sl AO:List an) (kO:List Int):Prop where
 aQ:ft bl wr f8 jj n jo he fQ f1 AO kO ct dR
 hj:iB bl wr lY ml
 hl:iq bl wr ct dR
 bg:gh bl wr 7 48 a6 (iy.map (·.1))
 ju:ol bl wr iy (al+1)
 bb:gh bl wr 9 3 qu (List.replicate bi (O Q cO))
 ki:∀kf∈sl,te bl wr qu bi cO kf
 bM:bt gN ab L bl wr
theorem k9.j9{wr:aq}(h:k9 y L u J j gg gf B E D F hu r k iR d wr w g1 gL A G gC z){f:Nat->Prop}(hF:bt f w wr gE mR)(g:∀b,f b->1<=b/\b<=5){i l:an}(m:ft gE mR u J j i l gg gf mY m5 D F):k9 y L u J j gg gf B E D F hu r k iR d mR gE i l A G mY m5:=by
 have c:∀b,6<=b->¬f b:=λb p a=>by have:=g b a;omega
 exact⟨m,h.hj.bM hF (c 6 ak),h.hl.bM hF (c 6 ak),h.bg.bM hF (c 7 ak),h.ju.bM hF (c 8 ak),h.bb.bM hF (c 9 ak),λhZ o=>(h.ki hZ o).bM hF h.bb.cG ⟨c 6 ak,c 9 ak⟩,h.bM.trans (hF.cE λb a=>by have:=g b a;unfold gN;omega)⟩
theorem ng.M1{wr:aq}(h:ng y L u J j gg gf B E D F hu r k ih d b wr w g1 gL A G):k9 y L u J j gg gf B E D F hu r k (ih+b) d wr w g1 gL A G (B++G) (E++List.replicate b d):=⟨h.aQ,h.hj,h.hl,h.bg,h.ju,h.bb,h.ki,h.bM⟩
theorem bt.e(b:Nat->Prop)(y:Nat->Nat)(L:aq):bt b y L y (cb L):=⟨rfl,rfl,rfl,aN _,λ_ _ _=>⟨rfl,rfl⟩⟩
theorem k9.e{wr:aq}(h:k9 y L u J j gg gf B E D F hu r k iR d wr w g1 gL A G gC z):k9 y L u J j gg gf B E D F hu r k iR d (cb wr) w g1 gL A G gC z:=h.j9 (bt.e (λ_=>False) w wr) (λb a=>a.elim) (h.aQ.bM (bt.e (λ_=>False) w wr) (λb a=>a.elim))
theorem k9.vE{wr:aq}(h:k9 y L u J j gg gf B E D F hu r k iR d wr w g1 gL A G gC z)(a:Int)(c:b_ (cb (ar wr hV)) K (ap gL))(f:aY K 0 3 1 (U (some ⟨N,0,none⟩) (M z+1) gF) (M z+1) (z.map (O Q)++[O Q a]))(g:ap gL=some N\/N=S (R wr)+1):k9 y L u J j gg gf B E D F hu r k iR d (ay K ⟨u,3,none⟩ (U (some ⟨N,0,none⟩) (M z+1) gF)) (aO w N 3) g1 (U (some ⟨N,0,none⟩) (M z+1) gF) A G gC (z++[a]):=by obtain⟨i,l⟩:=h.e.aQ.vE a rfl (show(b_ (ar (cb wr) hV)) K (ap gL)from c) f (by rcases g with e|e;exact .inl e;exact .inr (by show(S (R wr))<=N;omega));exact h.e.j9 l (λb e=>by rcases e with e|e<;>omega) i
theorem k9.Bg{wr:aq}(h:k9 y L u J j gg gf B E D F hu r k iR d wr w g1 gL A G gC z)(a:an)(c:b_ (ar wr hV) K (ap g1))(f:aY K 0 48 1 (U (some ⟨N,0,none⟩) (M gC+1) gF) (M gC+1) (gC++[a]))(g:ap g1=some N\/N=S (R wr)+1):k9 y L u J j gg gf B E D F hu r k iR d (ay K ⟨u,2,none⟩ (U (some ⟨N,0,none⟩) (M gC+1) gF)) (aO w N 2) (U (some ⟨N,0,none⟩) (M gC+1) gF) gL A G (gC++[a]) z:=by obtain⟨i,l⟩:=h.aQ.Bg a rfl c f (by rcases g with e|e;exact .inl e;exact .inr T);exact h.j9 l (λb e=>by rcases e with e|e<;>omega) i
def q7(e:Nat->Nat)(L:aq)(f:Int)(g:an):Prop:=∃ah h,g=U (some ⟨ah,0,none⟩) 1 h/\e ah=6/\ah<S (R L)/\aK L ⟨ah,0,none⟩=some (O Q f)
theorem q7.bM{a:Nat->Prop}(h:q7 y L d hZ)(hF:bt a y L w x)(f:¬a 6):q7 w x d hZ:=by obtain⟨ah,b,rfl,c,e,g⟩:=h;obtain⟨i,j⟩:=hF.ci ah e (by rw[c];exact f);exact⟨ah,b,rfl,i.trans c,cI e hF.b5,(dn j 0).trans g⟩
structure rh (ab:Nat->Nat) (L:aq) (f8:Nat) (jj:an) (n:Nat) (jo he fQ f1:an) (lY:List an) (ml:List Int) (ct:List an) (dR:List Int) (a6:an) (oi:List an) (cO:Int) (al:Nat) (wr:aq) (bl:Nat->Nat) (jL:List an):Prop where
 aQ:ft bl wr f8 jj n jo he fQ f1 lY ml ct dR
 hj:iB bl wr lY ml
 hl:iq bl wr ct dR
 bg:gh bl wr 7 48 a6 (jL++oi.drop al)
 bX:jL.length=al
 kS:∀kf∈jL,q7 bl wr cO kf
 bM:bt gN ab L bl wr
theorem sk.oF{y:Nat->Nat}{L:aq}{u:Nat}{J:an}{j:Nat}{gg gf:an}{iU:List an}{D:List an}{F:List Int}{hu:an}{r:List es}{k:Nat}{wr:aq}{w:Nat->Nat}{g1 gL:an}{B:List an}{E:List Int}(h:sk y L u J j gg gf iU D F hu r k wr w g1 gL B E)(d:Int):rh y L u J (j+k+1) g1 gL gg gf B E D F hu (r.map (·.1)) d 0 (ay wr ⟨u,1,none⟩ (O Q ((j+k+1:Nat):Int))) w []:=by have c:bt (λb=>b=1) w wr w (ay wr ⟨u,1,none⟩ (O Q ((j+k+1:Nat):Int))):=bt.j h.aQ.il _;exact⟨h.aQ.pX _,h.hj.bM c ak,h.hl.bM c ak,by simpa using h.bg.bM c ak,rfl,λhZ e=>by simp at e,h.bM.trans (c.cE λb a=>by subst a;unfold gN;decide)⟩
theorem rh.q{e f i:Nat}{wr:aq}(h:rh y L u J j g1 gL gg gf B E D F (U (some ⟨e,0,none⟩) f i) kr d k wr w H)(s:M kr=f)(t:k<f):
 ∃gE,rh y L u J j g1 gL gg gf B E D F (U (some ⟨e,0,none⟩) f i) kr d (k+1) (ay (ar wr (aw #[O Q d] 3)) ⟨e,k,none⟩ (U (some ⟨S (R wr),0,none⟩) 1 1)) gE (H++[U (some ⟨S (R wr),0,none⟩) 1 1]):=by
 have v:bt (λb=>b=7) w wr (aO w (S (R wr)) 6) (ar wr (aw #[O Q d] 3)):=bt.a _ _ _ _ _;have l:=h.bX;have m:M (H++kr.drop k)=f:=by rw[bV,la,l,s];omega
 have P:e<S (R wr):=(h.bg.bg.lt e rfl).2;have x:=h.bg.cG e rfl;have p:aO w (S (R wr)) 6 e=7:=by rw[cR _ _ _ _ T];exact x
 have z:bt (λb=>b=7) (aO w (S (R wr)) 6) (ar wr (aw #[O Q d] 3)) (aO w (S (R wr)) 6) (ay (ar wr (aw #[O Q d] 3)) ⟨e,k,none⟩ (U (some ⟨S (R wr),0,none⟩) 1 1)):=bt.j p _;have hF:=v.trans z;refine⟨aO w (S (R wr)) 6,⟨h.aQ.bM hF (λb a=>by subst a;exact .inl ak),h.hj.bM hF ak,h.hl.bM hF ak,⟨?_,λc o=>by cases o;exact p⟩,by simp[l],λhZ g=>?_,h.bM.trans (hF.cE λb a=>by subst a;unfold gN;decide)⟩⟩
 ·have A:aY (ar wr (aw #[O Q d] 3)) 0 48 1 (U (some ⟨e,0,none⟩) f i) f (H++kr.drop k):=by
   have:=h.bg.bg;rw[m]at this;exact cw this λc o=>fY _ _ _ (this.lt c o).2
  have C:=oj (kf:=U (some ⟨S (R wr),0,none⟩) 1 1) (Y:=k) A (by rw[m];exact t);have r:(H++kr.drop k).set k (U (some ⟨S (R wr),0,none⟩) 1 1)=H++[U (some ⟨S (R wr),0,none⟩) 1 1]++kr.drop (k+1):=by rw[IC _ _ T,l,rM,ku T,GX];simp
  have G:M (H++[U (some ⟨S (R wr),0,none⟩) 1 1]++kr.drop (k+1))=f:=by rw[<-r,qJ,m]
  rw[G,<-r];exact C
 ·rcases dm.1 g with g|g
  ·exact(h.kS hZ g).bM hF ak
  ·rw[dB.1 g];have I:=aL.bT wr #[O Q d] 3;have K:S (R wr)≠e:=T;refine⟨_,_,rfl,cy _ _ _,by simp[ay],?_⟩;have:=(I.d (gw _ ⟨e,k,none⟩ (U (some ⟨S (R wr),0,none⟩) 1 1) _ K)).aa 0;simpa using this
def xt(f:Nat->Nat)(L:aq)(l:an)(m:Nat)(p:Int)(q:an):Prop:=∃g e s,q=U g e s/\e<=m/\(0<e->∃N,g=some ⟨N,0,none⟩/\N<S (R L)/\(f N=6\/ap l=some N)/\∀h,h<e->∃i,aK L ⟨N,h,none⟩=some i/\q7 f L p i)
theorem xt.bM{c:Nat->Prop}(h:xt y L A iR d hZ)(hF:bt c y L w x)(l:∀N,ap A=some N->y N=9)(f:¬c 6/\¬c 9):xt w x A iR d hZ:=by
 obtain⟨m,a,b,rfl,o,h⟩:=h;refine⟨m,a,b,rfl,o,λp=>?_⟩;obtain⟨N,rfl,g,i,q⟩:=h p;have j:=hF.ci N g (by
  rcases i with e|e
  ·rw[e];exact f.1
  ·rw[l N e];exact f.2)
 refine⟨N,rfl,cI g hF.b5,?_,λk r=>?_⟩
 ·rcases i with e|e
  ·exact .inl (j.1.trans e)
  ·exact .inr e
 ·obtain⟨s,t,u⟩:=q k r;exact⟨s,(dn j.2 k).trans t,u.bM hF f.1⟩
structure ir (ab:Nat->Nat) (L:aq) (f8:Nat) (jj:an) (n:Nat) (jo he:an) (lY:List an) (ml:List Int) (ct:List an) (dR:List Int) (cO:Int) (wr:aq) (bl:Nat->Nat) (fQ f1 qu:an) (jL sl AO:List an) (kO:List Int):Prop where
 aQ:ft bl wr f8 jj n jo he fQ f1 lY ml AO kO
 hj:iB bl wr lY ml
 hl:iq bl wr ct dR
 bb:gh bl wr 9 48 qu jL
 kS:∀kf∈jL,q7 bl wr cO kf
 ki:∀kf∈sl,xt bl wr qu jL.length cO kf
 bM:bt gN ab L bl wr
theorem rh.MT{wr:aq}(h:rh y L u J j g1 gL gg gf B E D F hu kr d (M kr) wr w H):∃gE,ir y L u J j g1 gL B E D F d wr gE gg gf hu H [] D F:=by have hF:bt (λb=>b=7) w wr (gJ w hu 9) wr:=bt.gJ h.bg.cG;have e:=h.bg.bg;rw[vm,jN]at e;exact⟨gJ w hu 9,h.aQ.bM hF (λb a=>by subst a;exact .inl ak),h.hj.bM hF ak,h.hl.bM hF ak,⟨e,λN f=>s2 f⟩,λhZ c=>(h.kS hZ c).bM hF ak,λhZ c=>by simp at c,h.bM.trans (hF.cE λb a=>by subst a;unfold gN;decide)⟩
theorem ir.j9{wr:aq}(h:ir y L u J j g1 gL B E D F d wr w gg gf A H G gC z){f:Nat->Prop}(hF:bt f w wr gE mR)(i:∀b,f b->1<=b/\b<=5){k l:an}(m:ft gE mR u J j g1 gL k l B E mY m5):ir y L u J j g1 gL B E D F d mR gE k l A H G mY m5:=by
 have c:∀b,6<=b->¬f b:=λb o a=>by have:=i b a;omega
 exact⟨m,h.hj.bM hF (c 6 ak),h.hl.bM hF (c 6 ak),h.bb.bM hF (c 9 ak),λhZ g=>(h.kS hZ g).bM hF (c 6 ak),λhZ g=>(h.ki hZ g).bM hF h.bb.cG ⟨c 6 ak,c 9 ak⟩,h.bM.trans (hF.cE λb a=>by have:=i b a;unfold gN;omega)⟩
theorem ir.e{wr:aq}(h:ir y L u J j g1 gL B E D F d wr w gg gf A H G gC z):ir y L u J j g1 gL B E D F d (cb wr) w gg gf A H G gC z:=h.j9 (bt.e (λ_=>False) w wr) (λb a=>a.elim) (h.aQ.bM (bt.e (λ_=>False) w wr) (λb a=>a.elim))
theorem ir.BP{wr:aq}(h:ir y L u J j g1 gL B E D F d wr w gg gf A H G gC z)(a:Int)(c:b_ (cb (ar wr hV)) K (ap gf))(f:aY K 0 3 1 (U (some ⟨N,0,none⟩) (M z+1) gF) (M z+1) (z.map (O Q)++[O Q a]))(g:ap gf=some N\/N=S (R wr)+1):ir y L u J j g1 gL B E D F d (ay K ⟨u,5,none⟩ (U (some ⟨N,0,none⟩) (M z+1) gF)) (aO w N 5) gg (U (some ⟨N,0,none⟩) (M z+1) gF) A H G gC (z++[a]):=by obtain⟨i,k⟩:=h.e.aQ.BP a rfl (show(b_ (ar (cb wr) hV)) K (ap gf)from c) f (by rcases g with e|e;exact .inl e;exact .inr (by show(S (R wr))<=N;omega));exact h.e.j9 k (λb e=>by rcases e with e|e<;>omega) i
theorem ir.AV{wr:aq}(h:ir y L u J j g1 gL B E D F d wr w gg gf A H G gC z)(a:an)(c:b_ (ar wr hV) K (ap gg))(f:aY K 0 40 1 (U (some ⟨N,0,none⟩) (M gC+1) gF) (M gC+1) (gC++[a]))(g:ap gg=some N\/N=S (R wr)+1):ir y L u J j g1 gL B E D F d (ay K ⟨u,4,none⟩ (U (some ⟨N,0,none⟩) (M gC+1) gF)) (aO w N 4) (U (some ⟨N,0,none⟩) (M gC+1) gF) gf A H G (gC++[a]) z:=by obtain⟨i,k⟩:=h.aQ.AV a rfl c f (by rcases g with e|e;exact .inl e;exact .inr T);exact h.j9 k (λb e=>by rcases e with e|e<;>omega) i
theorem ir.q{wr:aq}(h:ir y L u J j g1 gL B E D F d wr w gg gf A H G gC z)(i0:b_ (ar (ar wr (aw #[O Q d] 3)) hV) K (ap A))(i1:aY K 0 48 1 (U (some ⟨N,0,none⟩) (M H+1) gF) (M H+1) (H++[U (some ⟨S (R wr),0,none⟩) 1 1]))(P:ap A=some N\/S (R wr)+1<=N)(i2:aY K 0 48 1 A (M H) H):
 ∃gE,ir y L u J j g1 gL B E D F d K gE gg gf (U (some ⟨N,0,none⟩) (M H+1) gF) (H++[U (some ⟨S (R wr),0,none⟩) 1 1]) (G++[A]) gC z:=by
 have jt:bt (λb=>b=9) w wr (aO w (S (R wr)) 6) (ar wr (aw #[O Q d] 3)):=bt.a _ _ _ _ _;have jW:∀c,ap A=some c->aO w (S (R wr)) 6 c=9:=λc i=>by rw[cR _ _ _ _ (by have:=(h.bb.bg.lt c i).2;omega)];exact h.bb.cG c i
 have t:bt (λb=>b=9) (aO w (S (R wr)) 6) (ar wr (aw #[O Q d] 3)) (aO (aO w (S (R wr)) 6) N 9) K:=bt.g1 rfl i0 jW (by rcases P with e|e;exact .inl e;exact .inr b7);have o:=jt.trans t;have l:bt (λb=>b=9) w wr (aO (gJ (aO w (S (R wr)) 6) A 6) N 9) K:=by
  refine⟨o.dR,o.hq,o.ho,o.b5,λc i gj=>?_⟩;obtain⟨r,v⟩:=o.ci c i gj;refine⟨?_,v⟩;by_cases p:c=N
  ·subst p;rw[cy]at r⊢;exact r
  ·rw[cR _ _ _ _ p,uA (λa=>gj (h.bb.cG c a)),cR _ _ _ _ T]
 have hu:∀c,ap A=some c->aO (gJ (aO w (S (R wr)) 6) A 6) N 9 c=6\/ap (U (some ⟨N,0,none⟩) (M H+1) gF)=some c:=λc i=>by
  by_cases p:c=N
  ·right;rw[p];rfl
  ·left;rw[cR _ _ _ _ p];exact s2 i
 have hE:∀hZ∈H++[U (some ⟨S (R wr),0,none⟩) 1 1],q7 (aO (gJ (aO w (S (R wr)) 6) A 6) N 9) K d hZ:=λhZ k=>by
  rcases dm.1 k with k|k
  ·exact(h.kS hZ k).bM l ak
  ·rw[dB.1 k]
   have j4:S (R wr)≠N:=λe=>by
    rcases P with a|a
    ·have:=(h.bb.bg.lt N a).2;omega
    ·omega
   have kp:ap A≠some (S (R wr)):=λa=>by have:=(h.bb.bg.lt _ a).2;omega
   have x:=aL.bT wr #[O Q d] 3;have kr:=t.ci (S (R wr)) x.am (by rw[cy];decide);refine⟨_,_,rfl,by rw[cR _ _ _ _ j4,uA kp];exact cy _ _ _,cI x.am t.b5,?_⟩;have:=(x.d kr.2).aa 0;simpa using this
 have hS:∀c,ap A=some c->∀f,f<M H->∃s,aK K ⟨c,f,none⟩=some s/\q7 (aO (gJ (aO w (S (R wr)) 6) A 6) N 9) K d s:=λc i f m=>by have:=i2.cells (g:=c) (by rw[i]) f H[f] (by simp[m]);rw[ez,du]at this;exact⟨H[f],this,hE _ (oq _ (b4 m))⟩
 refine⟨_,⟨h.aQ.bM l (λb a=>by subst a;exact .inl ak),h.hj.bM l ak,h.hl.bM l ak,⟨by rw[bV];exact i1,λc i=>by cases i;exact cy _ _ _⟩,hE,λhZ k=>?_,h.bM.trans (l.cE λb a=>by subst a;unfold gN;decide)⟩⟩;rw[bV];rcases dm.1 k with k|k
 ·obtain⟨kx,a,k1,rfl,mR,k7⟩:=h.ki hZ k;refine⟨kx,a,k1,rfl,b7,λih=>?_⟩;obtain⟨c,rfl,C,lo,l8⟩:=k7 ih;rcases lo with e|e
  ·obtain⟨r,v⟩:=l.ci c C (by rw[e];decide)
   exact⟨c,rfl,cI C l.b5,.inl (r.trans e),λf m=>by
    obtain⟨s,I,iR⟩:=l8 f m
    exact⟨s,(dn v f).trans I,iR.bM l ak⟩⟩
  ·exact⟨c,rfl,cI C l.b5,hu c e,λf m=>hS c e f T⟩
 ·rw[dB.1 k];obtain⟨me,mn,iU⟩:=eK h.bb.bg;refine⟨me,_,mn,iU,av,λih=>?_⟩;rcases h.bb.bg.2 with⟨e,mY⟩|⟨c,m5,ne,e,_,i,_⟩
  ·omega
  ·have iZ:ap A=some c:=by rw[e];rfl
   rw[iU]at e;injection e with I iR nB;exact⟨c,I,cI (i7.1 i).1 l.b5,hu c iZ,λf m=>hS c iZ f m⟩
theorem ir.mO{wr:aq}(h:ir y L u J j g1 gL B E D F d wr w gg gf A H G (D++G) (F++List.replicate b d))(g:M G=b)(gj:M H<=10000000000):∃gE,ft gE wr u J j g1 gL gg gf B E (D++G) (F++List.replicate b d)/\iB gE wr B E/\iq gE wr (D++G) (F++List.replicate b d)/\bt gN y L gE wr:=by
 have hF:bt (λb=>b=9) w wr (gJ w A 6) wr:=bt.gJ h.bb.cG;refine⟨gJ w A 6,h.aQ.bM hF (λb a=>by subst a;exact .inl ak),h.hj.bM hF ak,(h.hl.bM hF ak).C ⟨by rw[g,qf],λa i c=>?_⟩,h.bM.trans (hF.cE λb a=>by subst a;unfold gN;decide)⟩;rw[TD];obtain⟨k,l,m,e,gC,o⟩:=h.ki _ (b4 i);rw[e];refine⟨k,l,m,rfl,T,λp=>?_⟩;obtain⟨N,rfl,r,s,t⟩:=o p;refine⟨N,rfl,?_,r,λv x=>?_⟩
 ·show gJ w A 6 N=6;rcases s with f|f
  ·unfold gJ;split
   ·rfl
   ·exact f
  ·exact s2 f
 ·obtain⟨gF,z,f⟩:=t v x;obtain⟨ah,C,rfl,I,K,P⟩:=f.bM hF ak;exact⟨ah,C,z,I,K,P⟩
theorem Tryz.Mj:(prog.info? 3).map (λk=>(k.zero,k.size,k.bytes))=some (some (O Q 0),1,8):=by kernel_rfl
theorem Tryz.NR:(prog.info? 40).map (λk=>(k.zero,k.size,k.bytes))=some (some (U none 0 0),1,24):=by kernel_rfl
theorem Es(a: -3000000000000<=d)(b:d<=0):Q.wrap d=d:=by simp only[IntKind.wrap,IntKind.bits,IntKind.signed];simp;omega
def mr(f:List an)(g:Int)(e:Nat):List an:=List.replicate e (O Q g)++f.drop e
theorem TA(h:a<M H):(mr H d a).set a (O Q d)=mr H d (a+1):=by unfold mr;rw[IC _ _ av,qf,rM,ku h,GX,x8,ke];rfl
theorem QW(h:a<=M H):M (mr H d a)=M H:=by unfold mr;simp;omega
theorem IJ(h:M H=j):mr H d j=List.replicate j (O Q d):=by unfold mr;rw[<-h,vm,jN]
theorem CR{g e:Nat}{d:Option Addr}(h:aY L g e 1 (U d j b) j H)(i:k<j):∃N,d=some ⟨N,0,none⟩/\N<S (R L)/\(∀a,L.frozen? ⟨N,a,none⟩=false)/\∀hZ,H[k]?=some hZ->aK L ⟨N,k,none⟩=some hZ:=by
 obtain⟨N,f,l,m⟩:=md h i;refine⟨N,f,l,?_,m⟩;rcases h.2 with⟨e,q⟩|⟨r,gF,o,e,_,p,_⟩
 ·omega
 ·injection e with c;rw[f]at c;injection c with c;injection c with c;subst c;exactλa=>(show aL L N o _ from p).b a
theorem N8{t8:List Int}(h:ft y L u J j g1 gL gg gf iU t8 D F)(Ko:iB y L iU t8)(Kp:iq y L D F)(s:gh y L 7 48 hu (r.map (·.1)))(ne:ol y L r 0)(Sc:tQ r)(Uo:M r<=100000)(Sn:∀Sy∈r,M Sy.2<=1000000)(Up:M iU<=900000000000)(Uq:M D<=900000000000)(Ur:j<=900000000000):
 aR prog 104 #[aD (some ⟨u,0,none⟩),hu] L λoH x=>oH=aM (b2 #[])/\∃(w:Nat->Nat) (gj hE SV SY:an) (B:List an) (E:List Int) (xr:List an) (Kz:List Int),ft w x u J (j+M r+1) gj hE SV SY B E xr Kz/\iB w x B E/\iq w x xr Kz/\M B=M iU+4*M r/\M xr=M D+4/\bt gN y L w x:=by
 obtain⟨KJ,K4,K8,Lp,Ls⟩:=dY Tryz.wB;obtain⟨ys,yC,y2,y5,zc⟩:=dY Tryz.Mj;obtain⟨S1,LB,Th,Tj,TH⟩:=dY Tryz.NR;have TJ:=eK s.bg;obtain⟨j9,iR,rfl⟩:=TJ;have TK:sk y L u J j gg gf iU D F (U j9 (M (r.map (·.1))) iR) r 0 L y g1 gL iU t8:=⟨h,Ko,Kp,av,s,ne,bt.l _ _ _⟩;rw[c_]at*;clear h Ko Kp s ne;go_enter func104,ntmps104;go_wp2
 go_loopw [4] (λkp wr=>∃(k:Nat) (w:Nat->Nat) (gj hE:an) (B:List an) (E:List Int),k<=M r/\kp=O Q k/\sk y L u J j gg gf iU D F (U j9 (M r) iR) r k wr w gj hE B E) (λkp _=>M r-(eg kp).toNat)
 case atStart=>exact⟨0,y,g1,gL,iU,t8,bL _,rfl,TK⟩
 case round=>
  obtain⟨k,w,gj,hE,B,E,Us,rfl,q⟩:=hrel;by_cases oS:k<M r
  ·have hS:=q.aQ.ax.am;have t:=q.aQ.ax.aa 1;have zS:=q.aQ.ax.b 1;simp at t;obtain⟨gE,kr,z_,Ai,s,ne,nB,Ak⟩:=q.gj oS Sc;have LI:=q.bX;have TP:(k:Int)<(M r:Int):=T;have TQ:(0:Int)<=(k:Int):=T;obtain⟨TR,LL,LQ⟩:=eK nB.bg;rw[c_]at LQ;have TS:=Sn _ (b4 oS);have LU:aY wr 0 48 1 (U j9 (M r) iR) (M r) (r.map (·.1)):=by simpa using q.bg.bg
   have Mc:ap (U j9 (M r) iR)≠some u:=λa=>by have Mj:=q.bg.cG u a;rw[q.aQ.il]at Mj;cases Mj
   obtain⟨nG,rfl,Aq,o6⟩:=md LU oS;have Mk:=o6 r[k].1 (by rw[gq,dz oS];rfl);have TT:¬nG=u:=λa=>Mc (by rw[a];rfl)
   have ub:M (r[k].2.map λj=>O Q (j:Nat))=M r[k].2:=c_ _;have Az:aY (ay wr ⟨u,1,none⟩ (O Q ((j+k+1:Nat):Int))) 0 3 1 r[k].1 (M r[k].2) (r[k].2.map λj=>O Q (j:Nat)):=by have:=nB.bg;rw[ub]at this;exact this
   generalize r[k].1=A at*;generalize(r[k].2.map λj=>O Q (j:Nat))=H at*;generalize(M r[k].2)=ih at*;subst LQ;have Ut:((j+k:Nat):Int)<=1000000000000:=T;have My:ag (M B=M iU+4*k):=LI;clear q o6 LU LI;go_wp2;have pa:ay wr ⟨u,1,none⟩ (O Q ((j:Int)+(k:Int)+1))=ay wr ⟨u,1,none⟩ (O Q ((j+k+1:Nat):Int)):=av;rw[pa];clear pa;generalize(ay wr) ⟨u,1,none⟩ (O Q ((j+k+1:Nat):Int))=AE at*;obtain⟨d,oa⟩:∃d:Int,d= -77000000-((j+k+1:Nat):Int):=⟨_,rfl⟩;have TU: -77000000-((j:Int)+(k:Int)+1)=d:=by rw[oa];simp
   have Uu:ag (d= -77000000-((j+k+1:Nat):Int)):=oa;have AV: -3000000000000<=d:=T;have AW:d<=0:=T;have TV:Q.wrap d=d:=Es AV AW;clear oa Mk t zS hS Aq
   go_loopw [6] (λBg jt=>∃a:Nat,a<=ih/\Bg=O Q a/\aY jt 0 3 1 (U TR ih LL) ih (mr H d a)/\bt (λb=>b=9) gE AE gE jt) (λBg _=>ih-(eg Bg).toNat)
   case atStart=>exact⟨0,bL _,rfl,by simpa[mr]using Az,bt.l _ _ _⟩
   case round=>
    obtain⟨a,Uv,rfl,ob,hF⟩:=hrel;by_cases MA:a<ih
    ·obtain⟨ug,rfl,Uw,py,MC⟩:=CR ob MA;have MD:a<M (mr H d a):=by rw[QW T];omega
     have Ux:=MC (mr H d a)[a] (by simp[MD]);have TW:=py a;have Bo:=kr.bM hF (λb e=>by subst e;exact .inl ak);have hS:=Bo.ax.am;have t:=Bo.ax.aa 1;simp at t;have Uy:(a:Int)<(ih:Int):=T;have LB:(0:Int)<=(a:Int):=T;have Uz:(a:Int)<=1000000:=T;have MT:(j:Int)+(k:Int)+1<=2000000000000:=T;have M1:0<=(j:Int)+(k:Int)+1:=T;generalize(mr H d a)[a]=TX at*;have TY:=nB.cG ug rfl;have M9:ag (aY (ay wr ⟨ug,a,none⟩ (O Q d)) 0 3 1 (U (some ⟨ug,0,none⟩) ih LL) ih (mr H d (a+1))/\bt (λb=>b=9) gE AE gE (ay wr ⟨ug,a,none⟩ (O Q d))):=⟨by rw[<-TA T];exact oj ob MD,hF.trans (bt.j TY _)⟩;clear kr Bo z_ Ai s ne nB Ak hF ob Az MC py;go_wp2;go_roundw
     case rel=>exact⟨a+1,MA,bE,M9.out.1,M9.out.2⟩
     case measure=>simp[eg];omega
    ·have TZ:a=ih:=by omega
     subst TZ;rw[IJ ub]at ob;have Nt:=ng.jt kr z_ Ai s ne nB Ak hF ob;clear kr z_ Ai s ne nB Ak hF ob Az;go_wp2
     go_loopw [5,7] (λoH kx jt=>∃(b:Nat) (pF:Nat->Nat) (Bt uY A:an) (G:List an),b<=4/\kx=O Q b/\oH=A/\ng y L u J (j+k+1) gg gf B E D F (U (some ⟨nG,0,none⟩) (M r) iR) r k a d b jt pF Bt uY A G) (λ_ kx _=>4-(eg kx).toNat)
     case atStart=>exact⟨0,gE,gj,hE,_,[],ak,rfl,rfl,Nt⟩
     case round=>
      obtain⟨b,pF,Bt,uY,A,G,T0,rfl,rfl,jW⟩:=hrel;clear Nt;by_cases BE:b<4
      ·have T1:(b:Int)<4:=by omega
       have T2:(0:Int)<=(b:Int):=T;have g:=jW.M1;have BH:M (B++G)<=950000000000:=by rw[bV,jW.bX,My.out];omega
       have k7:M (E++List.replicate b d)=M (B++G):=by rw[bV,bV,qf,jW.bX,jW.hj.1]
       have iZ:=jW.bX;generalize pR:B++G=gC at g BH k7;generalize pU:E++List.replicate b d=z at g k7;have vE:ag (B++G=gC/\E++List.replicate b d=z/\M G=b):=⟨pR,pU,iZ⟩;clear pR pU iZ jW;obtain⟨pX,pZ,rfl⟩:=eK g.aQ.li.bg;obtain⟨i,l,NF⟩:=eK g.bb.bg;rw[qf]at NF;subst NF;have hS:=g.aQ.ax.am;have k1:=g.aQ.ax.aa 2;simp at k1;have qp:=g.aQ.li.bg;have hZ:ag (∀{hV:Obj} {K:aq},b_ (ar wr hV) K (ap (U pX (M gC) pZ))->aL K u #[J,O Q ((j+k+1:Nat):Int),U pX (M gC) pZ,uY,gg,gf] 86):=λ{hV K} v=>by have hF:bt (λb=>b=2) pF wr (aO pF (S (R wr)+1) 2) K:=bt.g1 rfl v g.aQ.li.cG (.inr T);exact g.aQ.ax.d (hF.ci u g.aQ.ax.am (by rw[g.aQ.il];decide)).2
       clear TT Mc;go_upto_region 13 with(at_builtin;refine dq _ rfl _ _ 40 rfl 0 48 KJ _ 1 24 underlying40 K4 K8 Lp Ls rfl ak _ (M gC) gC bf (qp.alloc _) ⟨S (R wr),0,none⟩ 1 1 [U i (a+b) l] bf rfl (c4 (cB _ _ _ av)) ey ak cN T (bL _) (S (R wr)+1) av ?_;intro lo qt K qP l8 qW BN;have i0:=hZ.out l8;have BP:=i0.b 2;have BV:=i0.am;have ra:=i0.aa 2;simp at ra);have o:=g.Bg _ l8 qP qW;clear qP l8 qW BN i0 BP BV ra hZ g k1 qp hS;generalize(ay K ⟨u,2,none⟩ (U (some ⟨lo,0,none⟩) (M gC+1) qt))=m at*;generalize(U (some ⟨lo,0,none⟩) (M gC+1) qt)=rA at o;generalize aO pF lo 2=me at*;obtain⟨C,I,rfl⟩:=eK o.aQ.lf.bg;rw[c_]at o;have hS:=o.aQ.ax.am;have t:=o.aQ.ax.aa 1;have NR:=o.aQ.ax.aa 3;simp at t NR;have mn:aY m 0 3 1 (U C (M z) I) (M z) (z.map (O Q)):=by have:=o.aQ.lf.bg;rw[c_]at this;exact this
       have rR:∀hV,aY (cb (ar m hV)) 0 3 1 (U C (M z) I) (M z) (z.map (O Q)):=λhV=>cw mn λCs Cz=>fY _ _ _ (mn.lt Cs Cz).2
       have hZ:ag (∀{hV:Obj} {p:aq},b_ (cb (ar m hV)) p (ap (U C (M z) I))->aL p u #[J,O Q ((j+k+1:Nat):Int),rA,U C (M z) I,gg,gf] 86):=λ{hV p} v=>by have hF:bt (λb=>b=3) me (cb m) (aO me (S (R m)+1) 3) p:=bt.g1 (L:=cb m) rfl v o.aQ.lf.cG (.inr (by show(S (R m))<=_;omega));exact o.e.aQ.ax.d (hF.ci u o.aQ.ax.am (by rw[o.aQ.il];decide)).2
       have mO:ag (∀{hV:Obj} {p:aq} {N gF:Nat},b_ (cb (ar m hV)) p (ap (U C (M z) I))->aY p 0 3 1 (U (some ⟨N,0,none⟩) (M z+1) gF) (M z+1) (z.map (O Q)++[O Q d])->(ap (U C (M z) I)=some N\/N=S (R m)+1)->k9 y L u J (j+k+1) gg gf B E D F (U (some ⟨nG,0,none⟩) (M r) iR) r k (a+b) d (ay p ⟨u,3,none⟩ (U (some ⟨N,0,none⟩) (M z+1) gF)) (aO me N 3) rA (U (some ⟨N,0,none⟩) (M z+1) gF) (U i (a+b) l) G (gC++[U i (a+b) l]) (z++[d])):=λv s mR=>o.vE d v s mR
       have T3:M z<=950000000000:=T;have MT:(j:Int)+(k:Int)+1<=2000000000000:=T;have M1:0<=(j:Int)+(k:Int)+1:=T;clear o mn k7
       go_cut [5]from 42 to 77 (λCS DM=>∃(j4:Nat->Nat) (wz:an),CS=U i (a+b) l/\k9 y L u J (j+k+1) gg gf B E D F (U (some ⟨nG,0,none⟩) (M r) iR) r k (a+b) d DM j4 rA wz (U i (a+b) l) G (gC++[U i (a+b) l]) (z++[d]))
       case first=>
        go_region_law ((refine kc _ bf _ _ 48 bf 0 3 ys _ 1 8 underlying48 yC y2 y5 zc rfl ak (U C (M z) I) (M z) (z.map (O Q)) bf (rR _) ⟨S (R m),0,none⟩ 1 1 [O Q d] bf rfl (c4 (cB _ _ _ av)) ey ak cN T (bL _) (S (R m)+1) av ?_;intro T4 T5 p sY mY tB T6;have m5:=hZ.out mY;have T7:=m5.b 3;have OD:=m5.am;have D7:=m5.aa 3;simp at D7))
        all_goals
         have c:=mO.out mY sY tB;clear sY mY tB mO hZ;go_wp2
         go_meet
         exact⟨_,_,rfl,c⟩
       case rest=>
        obtain⟨j4,wz,rfl,c⟩:=hcut;have UA:=c.aQ.ax.am;have D9:=c.aQ.ax.aa 1;simp at D9;have T8:aY wc 0 3 1 (U i (a+b) l) (a+b) (List.replicate (a+b) (O Q d)):=by have:=c.bb.bg;rw[qf]at this;exact this
        have El:ag (∀{hV:Obj} {K:aq} {N gF:Nat},b_ (ar wc hV) K (ap (U i (a+b) l))->aY K 0 3 1 (U (some ⟨N,0,none⟩) (a+b+1) gF) (a+b+1) (List.replicate (a+b) (O Q d)++[O Q d])->(ap (U i (a+b) l)=some N\/N=S (R wc)+1)->aY K 0 3 1 (U i (a+b) l) (a+b) (List.replicate (a+b) (O Q d))->∃i1,ng y L u J (j+k+1) gg gf B E D F (U (some ⟨nG,0,none⟩) (M r) iR) r k a d (b+1) K i1 rA wz (U (some ⟨N,0,none⟩) (a+b+1) gF) (G++[U i (a+b) l])):=λv s mR ET=>by obtain⟨Fi,FM,OF⟩:=vE.out;have kr:=c.aQ;rw[<-Fi,<-FM]at kr;exact ng.q kr c.hj c.hl OF c.bg c.ju c.bb c.ki c.bM v s (by rcases mR with e|e;exact .inl e;exact .inr T) ET
        have UB:a+b<=1000010:=T;clear c t NR hS rR mO hZ;go_wp2_with(at_builtin;refine BY _ rfl _ _ 48 rfl 0 3 ys _ 1 8 underlying48 yC y2 y5 zc rfl ak _ (a+b) (List.replicate (a+b) (O Q d)) bf (T8.alloc _) ⟨S (R wc),0,none⟩ 1 1 [O Q d] bf rfl (c4 (cB _ _ _ av)) ey ak cN T (bL _) (S (R wc)+1) av ?_;intro T9 T_ Ua F2 F4 Ga Ub Gl);obtain⟨i1,P⟩:=El.out F4 F2 Ga Gl;go_roundw
        case rel=>exact⟨b+1,i1,rA,wz,_,_,BE,bE,rfl,P⟩
        case measure=>simp[eg];omega
      ·have Gx:b=4:=by omega
       subst Gx;obtain⟨wB,i2⟩:=jW.mO My.out TS;clear jW;go_wp2;go_roundw
       case rel=>exact⟨k+1,wB,Bt,uY,_,_,oS,bE,i2⟩
       case measure=>simp[eg];omega
  ·have Uc:k=M r:=by omega
   subst Uc;have hS:=q.aQ.ax.am;have t:=q.aQ.ax.aa 1;have zS:=q.aQ.ax.b 1;simp at t;obtain⟨d,oa⟩:∃d:Int,d= -77000000-((j+M r+1:Nat):Int):=⟨_,rfl⟩;have TU: -77000000-((j:Int)+(M r:Int)+1)=d:=by rw[oa];simp
   have AV: -3000000000000<=d:=T;have AW:d<=0:=T;have TV:Q.wrap d=d:=Es AV AW;have Ud:ag (M B=M iU+4*M r):=q.bX;have OG:=q.oF d;have MT:(j:Int)+(M r:Int)+1<=2000000000000:=T;have M1:0<=(j:Int)+(M r:Int)+1:=T;have UC:=eK q.aQ.kE.bg;clear q oa;go_wp2;have pa:ay wr ⟨u,1,none⟩ (O Q ((j:Int)+(M r:Int)+1))=ay wr ⟨u,1,none⟩ (O Q ((j+M r+1:Nat):Int)):=av;rw[pa];clear pa;generalize(ay wr) ⟨u,1,none⟩ (O Q ((j+M r+1:Nat):Int))=AE at*;clear t zS hS
   go_loopw [8] (λkp jt=>∃(k:Nat) (Hp:Nat->Nat) (H:List an),k<=M r/\kp=O Q k/\rh y L u J (j+M r+1) gj hE gg gf B E D F (U j9 (M r) iR) (r.map (·.1)) d k jt Hp H) (λkp _=>M r-(eg kp).toNat)
   case atStart=>exact⟨0,w,[],bL _,rfl,OG⟩
   case round=>
    obtain⟨k,Hp,H,UD,rfl,g⟩:=hrel;clear OG;by_cases HY:k<M r
    ·have OW:aY wr 0 48 1 (U j9 (M r) iR) (M r) (H++(r.map (·.1)).drop k):=by
      have:=g.bg.bg;rw[bV,la,g.bX,c_,show k+(M r-k)=M r by omega]at this;exact this
     obtain⟨nG,rfl,Aq,py,o6⟩:=CR OW HY;have Ue:k<M (H++(r.map (·.1)).drop k):=by rw[bV,la,g.bX,c_];omega
     have Mk:=o6 (H++(r.map (·.1)).drop k)[k] (by simp[Ue]);generalize(H++(r.map (·.1)).drop k)[k]=TX at*;have TW:=py k;have hS:=g.aQ.ax.am;have t:=g.aQ.ax.aa 1;simp at t;obtain⟨me,o⟩:=g.q (by rw[c_]) HY;have TP:(k:Int)<(M r:Int):=T;have TQ:(0:Int)<=(k:Int):=T;rw[CW _ _ _ _ Aq]at o;clear g o6 py OW;go_wp2;go_roundw
     case rel=>exact⟨k+1,me,_,HY,bE,o⟩
     case measure=>simp[eg];omega
    ·have Uf:k=M r:=by omega
     subst Uf;have ub:=g.bX;have Pn:rh y L u J (j+M r+1) gj hE gg gf B E D F (U j9 (M r) iR) (r.map (·.1)) d (M (r.map (·.1))) wr Hp H:=by rw[c_];exact g
     obtain⟨me,o⟩:=Pn.MT;clear g Pn;go_wp2
     go_loopw [1,9] (λoH kx jt=>∃(b:Nat) (j4:Nat->Nat) (H_ xf A:an) (f G:List an),b<=4/\kx=O Q b/\oH=A/\M f=M r+b/\M G=b/\ir y L u J (j+M r+1) gj hE B E D F d jt j4 H_ xf A f G (D++G) (F++List.replicate b d)) (λ_ kx _=>4-(eg kx).toNat)
     case atStart=>exact⟨0,me,gg,gf,_,H,[],ak,rfl,rfl,by rw[ub];rfl,rfl,by simpa using o⟩
     case round=>
      obtain⟨b,j4,H_,xf,A,f,G,T0,rfl,rfl,P1,iZ,c⟩:=hrel;clear o;by_cases BE:b<4
      ·have T1:(b:Int)<4:=by omega
       have T2:(0:Int)<=(b:Int):=T;have BH:M (D++G)<=950000000000:=by rw[bV,iZ];omega
       have k7:M (F++List.replicate b d)=M (D++G):=by rw[bV,bV,qf,iZ,c.hl.1]
       generalize pR:D++G=gC at c BH k7;generalize pU:F++List.replicate b d=z at c k7;have vE:ag (D++G=gC/\F++List.replicate b d=z/\M G=b):=⟨pR,pU,iZ⟩;have Ug:ag (M f=M r+b):=P1;have UE:M f<=200000:=T;clear pR pU iZ P1;obtain⟨pX,pZ,rfl⟩:=eK c.aQ.kE.bg;obtain⟨i,l,rfl⟩:=eK c.bb.bg;have hS:=c.aQ.ax.am;have Rp:=c.aQ.ax.aa 4;simp at Rp;have qp:=c.aQ.kE.bg;have hZ:ag (∀{hV:Obj} {K:aq},b_ (ar wr hV) K (ap (U pX (M gC) pZ))->aL K u #[J,O Q ((j+M r+1:Nat):Int),gj,hE,U pX (M gC) pZ,xf] 86):=λ{hV K} v=>by have hF:bt (λb=>b=4) j4 wr (aO j4 (S (R wr)+1) 4) K:=bt.g1 rfl v c.aQ.kE.cG (.inr T);exact c.aQ.ax.d (hF.ci u c.aQ.ax.am (by rw[c.aQ.il];decide)).2
       go_upto_region 24 with(at_builtin;refine dq _ rfl _ _ 84 rfl 0 40 S1 _ 1 24 underlying84 LB Th Tj TH rfl ak _ (M gC) gC bf (qp.alloc _) ⟨S (R wr),0,none⟩ 1 1 [U i (M f) l] bf rfl (c4 (cB _ _ _ av)) ey ak cN T (bL _) (S (R wr)+1) av ?_;intro lo qt K qP l8 qW BN;have i0:=hZ.out l8;have BP:=i0.b 4;have BV:=i0.am;have ra:=i0.aa 4;simp at ra);have P:=c.AV _ l8 qP qW;clear qP l8 qW BN i0 BP BV ra hZ c Rp qp hS;generalize(ay K ⟨u,4,none⟩ (U (some ⟨lo,0,none⟩) (M gC+1) qt))=m at*;generalize(U (some ⟨lo,0,none⟩) (M gC+1) qt)=tI at P;generalize aO j4 lo 4=i1 at*;obtain⟨C,I,rfl⟩:=eK P.aQ.lC.bg;rw[c_]at P;have hS:=P.aQ.ax.am;have t:=P.aQ.ax.aa 1;have RR:=P.aQ.ax.aa 5;simp at t RR;have mn:aY m 0 3 1 (U C (M z) I) (M z) (z.map (O Q)):=by have:=P.aQ.lC.bg;rw[c_]at this;exact this
       have rR:∀hV,aY (cb (ar m hV)) 0 3 1 (U C (M z) I) (M z) (z.map (O Q)):=λhV=>cw mn λCs Cz=>fY _ _ _ (mn.lt Cs Cz).2
       have hZ:ag (∀{hV:Obj} {p:aq},b_ (cb (ar m hV)) p (ap (U C (M z) I))->aL p u #[J,O Q ((j+M r+1:Nat):Int),gj,hE,tI,U C (M z) I] 86):=λ{hV p} v=>by have hF:bt (λb=>b=5) i1 (cb m) (aO i1 (S (R m)+1) 5) p:=bt.g1 (L:=cb m) rfl v P.aQ.lC.cG (.inr (by show(S (R m))<=_;omega));exact P.e.aQ.ax.d (hF.ci u P.aQ.ax.am (by rw[P.aQ.il];decide)).2
       have mO:ag (∀{hV:Obj} {p:aq} {N gF:Nat},b_ (cb (ar m hV)) p (ap (U C (M z) I))->aY p 0 3 1 (U (some ⟨N,0,none⟩) (M z+1) gF) (M z+1) (z.map (O Q)++[O Q d])->(ap (U C (M z) I)=some N\/N=S (R m)+1)->ir y L u J (j+M r+1) gj hE B E D F d (ay p ⟨u,5,none⟩ (U (some ⟨N,0,none⟩) (M z+1) gF)) (aO i1 N 5) tI (U (some ⟨N,0,none⟩) (M z+1) gF) (U i (M f) l) f G (gC++[U i (M f) l]) (z++[d])):=λv s mR=>P.BP d v s mR
       have T3:M z<=950000000000:=T;clear P mn k7
       go_cut [1]from 101 to 137 (λCS DM=>∃(wB:Nat->Nat) (xk:an),CS=U i (M f) l/\ir y L u J (j+M r+1) gj hE B E D F d DM wB tI xk (U i (M f) l) f G (gC++[U i (M f) l]) (z++[d]))
       case first=>
        go_region_law ((refine kc _ bf _ _ 48 bf 0 3 ys _ 1 8 underlying48 yC y2 y5 zc rfl ak (U C (M z) I) (M z) (z.map (O Q)) bf (rR _) ⟨S (R m),0,none⟩ 1 1 [O Q d] bf rfl (c4 (cB _ _ _ av)) ey ak cN T (bL _) (S (R m)+1) av ?_;intro T4 T5 p sY mY tB T6;have m5:=hZ.out mY;have T7:=m5.b 5;have OD:=m5.am;have D7:=m5.aa 5;simp at D7))
        all_goals
         have i2:=mO.out mY sY tB;clear sY mY tB mO hZ;go_wp2
         go_meet
         exact⟨_,_,rfl,i2⟩
       case rest=>
        obtain⟨wB,xk,rfl,i2⟩:=hcut;have OD:=i2.aQ.ax.am;have D9:=i2.aQ.ax.aa 1;simp at D9;have Uh:=i2.bb.bg;have El:ag (∀{hV:Obj} {K:aq} {N gF:Nat},b_ (ar (ar wc (aw #[O Q d] 3)) hV) K (ap (U i (M f) l))->aY K 0 48 1 (U (some ⟨N,0,none⟩) (M f+1) gF) (M f+1) (f++[U (some ⟨S (R wc),0,none⟩) 1 1])->(ap (U i (M f) l)=some N\/N=S (R wc)+2)->aY K 0 48 1 (U i (M f) l) (M f) f->∃J3,ir y L u J (j+M r+1) gj hE B E D F d K J3 tI xk (U (some ⟨N,0,none⟩) (M f+1) gF) (f++[U (some ⟨S (R wc),0,none⟩) 1 1]) (G++[U i (M f) l]) (D++(G++[U i (M f) l])) (F++List.replicate (b+1) d)):=λv s mR ET=>by obtain⟨Fi,FM,OF⟩:=vE.out;have RU:=i2;rw[<-Fi,<-FM,ke,ke,<-x8]at RU;exact RU.q v s (by rcases mR with e|e;exact .inl e;exact .inr T) ET
        clear i2 t RR hS rR mO hZ;go_wp2_with(at_builtin;refine BY _ rfl _ _ 40 rfl 0 48 KJ _ 1 24 underlying40 K4 K8 Lp Ls rfl ak _ (M f) f bf ((Uh.alloc _).alloc _) ⟨S (R wc)+1,0,none⟩ 1 1 [U (some ⟨S (R wc),0,none⟩) 1 1] bf rfl (c4 (cB _ _ _ av)) ey ak cN T (bL _) (S (R wc)+2) av ?_;intro T9 T_ Ua F2 F4 Ga Ub Gl);obtain⟨J3,Ui⟩:=El.out F4 F2 Ga Gl;go_roundw
        case rel=>exact⟨b+1,J3,tI,xk,_,_,_,BE,bE,rfl,by rw[bV,Ug.out];rfl,by rw[bV,vE.out.2.2];rfl,Ui⟩
        case measure=>simp[eg];omega
      ·have Gx:b=4:=by omega
       subst Gx;obtain⟨i1,Uj,Uk,Ul,Um⟩:=c.mO iZ T;have Un:ag (M (D++G)=M D+4):=by show _=_;rw[bV,iZ]
       clear c;go_wp2
       go_end0
       exact⟨rfl,i1,gj,hE,H_,xf,B,E,_,_,Uj,Uk,Ul,Ud.out,Un.out,Um⟩
theorem zH{a h5:Nat}{c:an}(hF:aK L ⟨a,0,none⟩=some (O Q (ah:Nat)))(g:a<S (R L))(h:aK L ⟨h5,0,none⟩=some (aD (some ⟨o,0,none⟩)))(i:h5<S (R L))(b:aL L o #[kp,c,k1] 73):
 CallsD prog 47 #[aD (some ⟨a,0,none⟩),aD (some ⟨h5,0,none⟩)] .returning L λe d x=>d=.returning/\(e=aM (b2 #[])/\x=ay L ⟨o,1,none⟩ (O Q (ah:Nat))):=by
 have f:=b.aa 1;have j:=b.b 1;have k:=b.am;simp at f
 go_enter_d func47,ntmps47
 go_wp2
 go_end0
 exact⟨rfl,rfl⟩
def kQ(L:aq)(f:Nat)(e:be):aq:=ar (ar (ar L (aw #[aD (some ⟨f,0,none⟩)] 22)) (aw #[O Q e.aS,O Q e.ao,O Q e.bj,O Q e.X,O Q e.aE] 44)) (aw #[O Q 0] 23)
theorem Av(L:aq)(o:Nat)(b:be):aF (S (R L)) L (kQ L o b)/\aL (kQ L o b) (S (R L)) #[aD (some ⟨o,0,none⟩)] 22/\aL (kQ L o b) (S (R L)+1) #[O Q b.aS,O Q b.ao,O Q b.bj,O Q b.X,O Q b.aE] 44/\aL (kQ L o b) (S (R L)+1+1) #[O Q 0] 23:=by
 unfold kQ;refine⟨(((ca _ L).alloc (aN _) _).alloc av _).alloc b7 _,((aL.bT L _ _).a _).a _,?_,?_⟩
 ·have a:=aL.bT (ar L (aw #[aD (some ⟨o,0,none⟩)] 22)) #[O Q b.aS,O Q b.ao,O Q b.bj,O Q b.X,O Q b.aE] 44;rw[hQ]at a;exact a.a _
 ·have a:=aL.bT (ar (ar L (aw #[aD (some ⟨o,0,none⟩)] 22)) (aw #[O Q b.aS,O Q b.ao,O Q b.bj,O Q b.X,O Q b.aE] 44)) #[O Q 0] 23;rw[hQ,hQ]at a;exact a
theorem Oy(k:aL L o #[kp,O Q (ah:Nat),k1] 73)(B:ah≠0)(b:be):
 aR prog 27 #[aD (some ⟨o,0,none⟩),e4 b] L λe x=>e=aM (b2 #[U none 0 0,O Q (ah:Nat)])/\aL x o #[kp,O Q (ah:Nat),k1] 73/\bv (λc=>c=o) L x:=by
 have C:∀(m:Fn) (first gF:Array an) (L:aq),(Instr.makeFunc m first gF).run prog L=.ok (.func m first gF) L:=λ_ _ _ _=>rfl
 obtain⟨i,j,s,g⟩:=Av L o b;have h:=k.d (i.block o k.am);have D:((ah:Int)==0)=false:=b7;have E:¬(ah:Int)=0:=T;have t:=i.size;have F:=k.am;unfold e4;unfold kQ at i j s g h t;generalize G:ar (ar (ar L (aw #[aD (some ⟨o,0,none⟩)] 22)) (aw #[O Q b.aS,O Q b.ao,O Q b.bj,O Q b.X,O Q b.aE] 44)) (aw #[O Q 0] 23)=d at*;have u:=h.aa 1;have H:=h.b 1;have I:=h.am;have v:=j.aa 0;have J:=j.am;have w:=g.aa 0;have K:=g.b 0;have P:=g.am;simp at u v w
 go_enter_defers func27,ntmps27
 go_upto_region 3 with fail
 go_region
 all_goals
  go_wp2;have p:aL (cb (ay d ⟨S (R L)+1+1,0,none⟩ (O Q ah))) o #[kp,O Q (ah:Nat),k1] 73:=h.i0 _ _ (by show(S (R L))+1+1≠o;omega);have q:aL (cb (ay d ⟨S (R L)+1+1,0,none⟩ (O Q ah))) (S (R L)) #[aD (some ⟨o,0,none⟩)] 22:=j.i0 _ _ (by show(S (R L))+1+1≠S (R L);omega);have l:aL (cb (ay d ⟨S (R L)+1+1,0,none⟩ (O Q ah))) (S (R L)+1+1) #[O Q (ah:Nat)] 23:=by have a:=g.j 0 (O Q (ah:Nat));simp at a;exact a
  refine leaves_cons (f:=47) (args:=#[aD (some ⟨S (R L)+1+1,0,none⟩),aD (some ⟨S (R L),0,none⟩)]) av (by simp[go_sem]) ?_;refine(zH (ah:=ah) (l.aa 0) l.am (q.aa 0) q.am p).mono ?_;rintro gf gg gj ⟨rfl,rfl,rfl⟩;have y:=l.i0 ⟨o,1,none⟩ (O Q (ah:Nat)) (by show o≠S (R L)+1+1;omega);have r:=y.aa 0;simp at r;have z:aL (ay (cb (ay d ⟨S (R L)+1+1,0,none⟩ (O Q ah))) ⟨o,1,none⟩ (O Q (ah:Nat))) o #[kp,O Q (ah:Nat),k1] 73:=by have a:=p.j 1 (O Q (ah:Nat));simp at a;exact a
  have A:bv (λc=>c=o) L (ay (cb (ay d ⟨S (R L)+1+1,0,none⟩ (O Q ah))) ⟨o,1,none⟩ (O Q (ah:Nat))):=by have a:=((bv.bI (λc=>c=o) i).v (ai:=⟨S (R L)+1+1,0,none⟩) (.inr (by show(S (R L))<=S (R L)+1+1;omega)) (O Q (ah:Nat))).E 1;exact a.v (ai:=⟨o,1,none⟩) (.inl rfl) _
  generalize(ay (cb (ay d ⟨S (R L)+1+1,0,none⟩ (O Q ah)))) ⟨o,1,none⟩ (O Q (ah:Nat))=gC at*;refine⟨b2 #[U none 0 0,O Q (ah:Nat)],?_,rfl,z,A⟩;simp[eS,results27,go_sem,r]
theorem KC{gf:Nat->Prop}{b:kF}(t:aL L o #[kp,O Q 0,aD (some ⟨I,0,none⟩)] 73)(h:iD gf L I b hS i0 k7 iZ i2 i1)(gg:pk b)(C:g9 b hS i0 jW)(d:be)(gj:c1 d.aS)(lo:ff b.bF b.aZ hS d.aS≠0):
 aR prog 27 #[aD (some ⟨o,0,none⟩),e4 d] L λe x=>e=aM (b2 #[U none 0 0,O Q (ff b.bF b.aZ hS d.aS:Nat)])/\aL x o #[kp,O Q (ff b.bF b.aZ hS d.aS:Nat),aD (some ⟨I,0,none⟩)] 73/\bv (λc=>c=o) L x:=by
 have l8:∀(D:Fn) (first gF:Array an) (L:aq),(Instr.makeFunc D first gF).run prog L=.ok (.func D first gF) L:=λ_ _ _ _=>rfl
 obtain⟨k,l,g,u⟩:=Av L o d;have j:=t.d (k.block o t.am);have E:=h.bI k;have v:∀w,aF (S (R (kQ L o d))) (kQ L o d) w->aR prog 48 #[aD (some ⟨I,0,none⟩),.agg #[O Q d.aS,O Q d.ao,O Q d.bj,O Q d.X,O Q d.aE]] w λq x=>q=aM (O Q (ff b.bF b.aZ hS d.aS))/\aF (S (R (kQ L o d))) (kQ L o d) x:=λw y=>by refine((E.bI y).uZ gg C d gj).mono ?_;rintro q x ⟨gC,gE⟩;exact⟨gC,y.trans (gE.mono y.size)⟩
 generalize ff b.bF b.aZ hS d.aS=ah at*;have me:((ah:Int)==0)=false:=b7;have mn:¬(ah:Int)=0:=T;have F:=k.size;have mO:=t.am;clear E h C;unfold e4;unfold kQ at k l g u j F v;generalize mR:ar (ar (ar L (aw #[aD (some ⟨o,0,none⟩)] 22)) (aw #[O Q d.aS,O Q d.ao,O Q d.bj,O Q d.X,O Q d.aE] 44)) (aw #[O Q 0] 23)=mY at*;have gL:=j.aa 1;have g1:=j.aa 2;have m5:=j.am;have hu:=l.aa 0;have ne:=l.am;have hE:=g.aa 0;have hV:=g.aa 1;have hZ:=g.aa 2;have ih:=g.aa 3;have iR:=g.aa 4;have nB:=g.am;simp at gL g1 hu hE hV hZ ih iR
 go_enter_defers func27,ntmps27
 go_upto_region 4 with fail;refine wp_region_noPanic ?_;go_region_law (first|(go_simp;refine(v _ (by first|exact ca _ _|exact⟨rfl,rfl,rfl,aN _,λ_ _=>rfl⟩)).mono ?_;rintro q z ⟨rfl,m⟩;have p:=u.d (m.block _ u.am);have iU:=p.aa 0;have nG:=p.b 0;have oa:=p.am;simp at iU;have G:=j.d (m.block _ j.am);have H:=l.d (m.block _ l.am);show _;dsimp only))
 all_goals
  refine NoPanic.normal ?_;have r:aL (ay z ⟨S (R L)+1+1,0,none⟩ (O Q ah)) (S (R L)+1+1) #[O Q (ah:Nat)] 23:=by have a:=p.j 0 (O Q (ah:Nat));simp at a;exact a
  have jt:=G.i0 ⟨S (R L)+1+1,0,none⟩ (O Q (ah:Nat)) (by show(S (R L))+1+1≠o;omega);have j4:=H.i0 ⟨S (R L)+1+1,0,none⟩ (O Q (ah:Nat)) (by show(S (R L))+1+1≠S (R L);omega);have j9:bv (λc=>c=o) L (ay z ⟨S (R L)+1+1,0,none⟩ (O Q (ah:Nat))):=(bv.bI (λc=>c=o) (k.trans (m.mono F))).v (ai:=⟨S (R L)+1+1,0,none⟩) (.inr (by show(S (R L))<=S (R L)+1+1;omega)) _;generalize(ay z) ⟨S (R L)+1+1,0,none⟩ (O Q (ah:Nat))=i at*;have kr:=r.aa 0;have ob:=r.b 0;have oH:=r.am;simp at kr;clear p G H v m;go_upto_region 6 with fail
  go_region
  all_goals
   go_wp2;have s:aL (cb (ay i ⟨S (R L)+1+1,0,none⟩ (O Q ah))) (S (R L)+1+1) #[O Q (ah:Nat)] 23:=by have a:=r.j 0 (O Q (ah:Nat));simp at a;exact a
   have A:aL (cb (ay i ⟨S (R L)+1+1,0,none⟩ (O Q ah))) o #[kp,O Q 0,aD (some ⟨I,0,none⟩)] 73:=jt.i0 _ _ (by show(S (R L))+1+1≠o;omega);have B:aL (cb (ay i ⟨S (R L)+1+1,0,none⟩ (O Q ah))) (S (R L)) #[aD (some ⟨o,0,none⟩)] 22:=j4.i0 _ _ (by show(S (R L))+1+1≠S (R L);omega);have J:bv (λc=>c=o) L (cb (ay i ⟨S (R L)+1+1,0,none⟩ (O Q ah))):=(j9.v (ai:=⟨S (R L)+1+1,0,none⟩) (.inr (by show(S (R L))<=S (R L)+1+1;omega)) (O Q (ah:Nat))).E 1;refine leaves_cons (f:=47) (args:=#[aD (some ⟨S (R L)+1+1,0,none⟩),aD (some ⟨S (R L),0,none⟩)]) av (by simp[go_sem]) ?_;refine(zH (ah:=ah) (s.aa 0) s.am (B.aa 0) B.am A).mono ?_;rintro q oS o6 ⟨rfl,rfl,rfl⟩;have K:=s.i0 ⟨o,1,none⟩ (O Q (ah:Nat)) (by show o≠S (R L)+1+1;omega);have P:=K.aa 0;simp at P;have kx:aL (ay (cb (ay i ⟨S (R L)+1+1,0,none⟩ (O Q ah))) ⟨o,1,none⟩ (O Q (ah:Nat))) o #[kp,O Q (ah:Nat),aD (some ⟨I,0,none⟩)] 73:=by have a:=A.j 1 (O Q (ah:Nat));simp at a;exact a
   have k1:bv (λc=>c=o) L (ay (cb (ay i ⟨S (R L)+1+1,0,none⟩ (O Q ah))) ⟨o,1,none⟩ (O Q (ah:Nat))):=J.v (ai:=⟨o,1,none⟩) (.inl rfl) _;clear s A B J K;generalize(ay (cb (ay i ⟨S (R L)+1+1,0,none⟩ (O Q ah)))) ⟨o,1,none⟩ (O Q (ah:Nat))=pa at*;refine⟨b2 #[U none 0 0,O Q (ah:Nat)],?_,rfl,kx,k1⟩;simp[eS,results27,go_sem,P]
theorem v6{b:Nat}{g r:Array an}{d f:TypeId}(h:aL L b g d)(a:aL L c r f)(i:d≠f):b≠c:=by intro e;subst e;unfold aL at h a;rw[h]at a;simp at a;exact i a.2
theorem IK{E:Nat->Prop}{b:kF}(s:aL L o #[kp,O Q 0,aD (some ⟨I,0,none⟩)] 73)(Ai:¬E o)(h:iD E L I b hS i0 k7 iZ i2 i1)(j4:pk b)(gf:g9 b hS i0 jW)(oa:(i1.map bO.bw).Perm jW)(ob:M i1<=100000)(oH:M hS<=100000000)(d:be)(j9:c1 d.aS)(gg:ff b.bF b.aZ hS d.aS=0):
 aR prog 27 #[aD (some ⟨o,0,none⟩),e4 d] L λe x=>∃y j z gj gC r gE gL g1 hu u,e=aM (b2 #[U y j z,O Q 0])/\aL x o #[kp,O Q 0,aD (some ⟨I,0,none⟩)] 73/\aF (S (R L)) L u/\(∃i,vw E u I b hS d i0 iZ i2 jW (U y j z) i gj gC r gE gL g1 hu/\bv (λc=>c=o\/(S (R L)<=c/\c<S (R u))) i x):=by
 have Ak:∀(kr:Fn) (first gF:Array an) (L:aq),(Instr.makeFunc kr first gF).run prog L=.ok (.func kr first gF) L:=λ_ _ _ _=>rfl
 obtain⟨A,B,l,hE⟩:=Av L o d;have t:=s.d (A.block o s.am);have kx:=h.bI A;have oS:o≠I:=v6 s h.cq.ee ak;have o6:ap iZ≠some o:=ed s h.bG ak;have pa:ap i2≠some o:=ed s h.cq.bg ak;have Aq:=h.cq.ee.am;have k1:∀c,ap iZ=some c->c<S (R L):=λc hV=>(h.bG.lt c hV).2
 have lo:∀c,ap i2=some c->c<S (R L):=λc hV=>(h.cq.bg.lt c hV).2
 have hZ:∀m,aF (S (R (kQ L o d))) (kQ L o d) m->aR prog 48 #[aD (some ⟨I,0,none⟩),.agg #[O Q d.aS,O Q d.ao,O Q d.bj,O Q d.X,O Q d.aE]] m λq x=>q=aM (O Q 0)/\aF (S (R (kQ L o d))) (kQ L o d) x:=λm C=>by refine((kx.bI C).uZ j4 gf d j9).mono ?_;rintro q x ⟨l8,py⟩;rw[gg]at l8;exact⟨l8,C.trans (py.mono C.size)⟩
 have pF:∀m,aF (S (R L)) L m->aR prog 49 #[aD (some ⟨I,0,none⟩),.agg #[O Q d.aS,O Q d.ao,O Q d.bj,O Q d.X,O Q d.aE]] m λq x=>∃y j z gj gC r gE gL g1 hu,q=aM (U y j z)/\vw E m I b hS d i0 iZ i2 jW (U y j z) x gj gC r gE gL g1 hu:=λm C=>Qo (h.bI C) j4 gf oa j9 (B8 gg).1 ob oH
 have me:=A.size;have Az:=s.am;clear kx h gf gg;unfold e4;unfold kQ at A B l hE t me hZ;generalize AE:ar (ar (ar L (aw #[aD (some ⟨o,0,none⟩)] 22)) (aw #[O Q d.aS,O Q d.ao,O Q d.bj,O Q d.X,O Q d.aE] 44)) (aw #[O Q 0] 23)=AV at*;have pR:=t.aa 1;have pU:=t.aa 2;have AW:=t.am;have pX:=B.aa 0;have Bg:=B.am;have pZ:=l.aa 0;have qp:=l.aa 1;have qt:=l.aa 2;have qP:=l.aa 3;have qW:=l.aa 4;have Bo:=l.am;simp at pR pU pX pZ qp qt qP qW
 go_enter_defers func27,ntmps27
 go_upto_region 4 with fail;refine wp_region_noPanic ?_;go_region_law (first|(go_simp;refine(hZ _ (by first|exact ca _ _|exact⟨rfl,rfl,rfl,aN _,λ_ _=>rfl⟩)).mono ?_;rintro q ih ⟨rfl,v⟩;have D:=hE.d (v.block _ hE.am);have ra:=D.aa 0;have Bt:=D.b 0;have BE:=D.am;simp at ra;have mn:=t.d (v.block _ t.am);have mO:=B.d (v.block _ B.am);have rA:=l.d (v.block _ l.am);show _;dsimp only))
 all_goals
  refine NoPanic.normal ?_;have F:aL (ay ih ⟨S (R L)+1+1,0,none⟩ (O Q 0)) (S (R L)+1+1) #[O Q 0] 23:=by have a:=D.j 0 (O Q 0);simp at a;exact a
  have G:=mn.i0 ⟨S (R L)+1+1,0,none⟩ (O Q 0) (by show(S (R L))+1+1≠o;omega);have H:=mO.i0 ⟨S (R L)+1+1,0,none⟩ (O Q 0) (by show(S (R L))+1+1≠S (R L);omega);have w:=rA.i0 ⟨S (R L)+1+1,0,none⟩ (O Q 0) (by show(S (R L))+1+1≠S (R L)+1;omega);have k:aF (S (R L)) L (ay ih ⟨S (R L)+1+1,0,none⟩ (O Q 0)):=(A.trans (v.mono me)).setCell (p:=⟨S (R L)+1+1,0,none⟩) (by show(S (R L))<=S (R L)+1+1;omega) _;generalize(ay ih) ⟨S (R L)+1+1,0,none⟩ (O Q 0)=iR at*;have rR:=F.aa 0;have sY:=F.am;have tB:=G.aa 2;have BH:=G.am;have tI:=H.aa 0;have BN:=H.am;have t8:=w.aa 0;have ub:=w.aa 1;have ug:=w.aa 2;have uY:=w.aa 3;have vE:=w.aa 4;have BP:=w.am;simp at rR tB tI t8 ub ug uY vE;clear D mn mO hZ v;go_upto_region 7 with fail;refine wp_region_noPanic ?_;go_region_law (first|(go_simp;refine(pF _ (by first|exact k|exact⟨k.os,k.tape,k.output,k.size,k.block⟩)).mono ?_;rintro q i ⟨mR,mY,m5,wz,wB,xf,xk,xr,ys,yC,rfl,J⟩;have K:=F.d (J.gY.o _ F.am (λg=>by rcases g with g|g|g;omega;have:=k1 _ g;omega;have:=lo _ g;omega));have y2:=G.d (J.gY.o _ G.am (λg=>by rcases g with g|g|g;exact oS g;exact o6 g;exact pa g));have y5:=H.d (J.gY.o _ H.am (λg=>by rcases g with g|g|g;omega;have:=k1 _ g;omega;have:=lo _ g;omega));have zc:=K.aa 0;have BV:=K.b 0;have Cs:=K.am;simp at zc;show _;dsimp only))
  all_goals
   refine NoPanic.normal ?_;go_wp2;have P:aL (ay i ⟨S (R L)+1+1,0,none⟩ (O Q 0)) (S (R L)+1+1) #[O Q ((0:Nat):Int)] 23:=by have a:=K.j 0 (O Q 0);simp at a;exact a
   have iU:=y2.i0 ⟨S (R L)+1+1,0,none⟩ (O Q 0) (by show(S (R L))+1+1≠o;omega);have jt:=y5.i0 ⟨S (R L)+1+1,0,none⟩ (O Q 0) (by show(S (R L))+1+1≠S (R L);omega);have ne:bv (λc=>c=o\/(S (R L)<=c/\c<S (R iR))) i (ay i ⟨S (R L)+1+1,0,none⟩ (O Q 0)):=(bv.l (λc=>c=o\/(S (R L)<=c/\c<S (R iR))) i).v (ai:=⟨S (R L)+1+1,0,none⟩) (.inl (.inr ⟨by show(S (R L))<=S (R L)+1+1;omega,sY⟩)) _;refine leaves_cons (f:=47) (args:=#[aD (some ⟨S (R L)+1+1,0,none⟩),aD (some ⟨S (R L),0,none⟩)]) av (by simp[go_sem]) ?_;refine(zH (ah:=0) (P.aa 0) P.am (jt.aa 0) jt.am iU).mono ?_;rintro q Cz CS ⟨rfl,rfl,rfl⟩;have nB:=P.i0 ⟨o,1,none⟩ (O Q ((0:Nat):Int)) (by show o≠S (R L)+1+1;omega);have nG:=nB.aa 0;simp at nG;have zS:aL (ay (ay i ⟨S (R L)+1+1,0,none⟩ (O Q 0)) ⟨o,1,none⟩ (O Q ((0:Nat):Int))) o #[kp,O Q 0,aD (some ⟨I,0,none⟩)] 73:=by have a:=iU.j 1 (O Q 0);simp at a;exact a
   have z_:bv (λc=>c=o\/(S (R L)<=c/\c<S (R iR))) i (ay (ay i ⟨S (R L)+1+1,0,none⟩ (O Q 0)) ⟨o,1,none⟩ (O Q ((0:Nat):Int))):=ne.v (ai:=⟨o,1,none⟩) (.inl (.inl rfl)) _;clear P iU jt ne nB;generalize(ay (ay i ⟨S (R L)+1+1,0,none⟩ (O Q 0))) ⟨o,1,none⟩ (O Q ((0:Nat):Int))=DM at*;refine⟨b2 #[U mR mY m5,O Q 0],?_,mR,mY,m5,wz,wB,xf,xk,xr,ys,yC,_,rfl,zS,?_,i,J,?_⟩
   ·simp[eS,results27,go_sem,nG]
   ·first|exact k|exact⟨k.os,k.tape,k.output,k.size,k.block⟩
   ·exact z_
theorem Tm{a:an}(h:aL L I #[lo,l8,me,O Q (j:Nat),mn,a] 110):
 aR prog 37 #[aD (some ⟨I,0,none⟩)] L λe x=>e=aM (O Q (j:Nat))/\x=L:=by
 have b:=h.aa 3;have c:=h.am;simp at b;go_enter func37,ntmps37;go_wp2;go_ret;exact⟨rfl,rfl⟩
theorem Jo{d:Nat}{a:an}(h:aL L I #[lo,l8,me,a,mn,U j4 d b] 110):
 aR prog 38 #[aD (some ⟨I,0,none⟩)] L λe x=>e=aM (O Q (d:Nat))/\x=L:=by
 have c:=h.aa 5;have f:=h.am;simp at c;go_enter func38,ntmps38;go_wp2;go_ret;exact⟨rfl,rfl⟩
theorem QN{d:Nat}(m:aL L o #[O Q (hE:Nat),O Q (ah:Nat),aD (some ⟨I,0,none⟩)] 73)(q:aL L I #[lo,l8,me,O Q (j:Nat),mn,U j4 d b] 110):
 aR prog 16 #[aD (some ⟨o,0,none⟩)] L λe x=>e=aM (.agg #[O Q (j:Nat),O Q (d:Nat),O Q (hE:Nat),O Q (ah:Nat)])/\aF (S (R L)) L x:=by
 have c:=m.a (aw #[O Q 0,O Q 0,O Q 0,O Q 0] 27);have l:=q.a (aw #[O Q 0,O Q 0,O Q 0,O Q 0] 27);have a:=aL.bT L #[O Q 0,O Q 0,O Q 0,O Q 0] 27;have A:aF (S (R L)) L (ar L (aw #[O Q 0,O Q 0,O Q 0,O Q 0] 27)):=(ca _ L).alloc (aN _) _;go_enter func16,ntmps16;go_upto_region 1 with fail;have B:∀p,aF (S (R L)) (ar L (aw #[O Q 0,O Q 0,O Q 0,O Q 0] 27)) p->aF (S (R L)) L p:=λp h=>A.trans h
 generalize(ar L) (aw #[O Q 0,O Q 0,O Q 0,O Q 0] 27)=u at*;have r:=c.aa 0;have s:=c.aa 1;have t:=c.aa 2;have fo:=c.am;have dt:=l.am;have P:=a.am;simp at r s t;have f:=a.aa 0;have g:=a.aa 1;have i:=a.aa 2;have k:=a.aa 3;have gf:=a.b 0;have gg:=a.b 1;have gj:=a.b 2;have gC:=a.b 3;simp at f g i k;have w:=λ(x:aq) (h:aL x I #[lo,l8,me,O Q (j:Nat),mn,U j4 d b] 110)=>Tm (L:=x) h
 have y:=λ(x:aq) (h:aL x I #[lo,l8,me,O Q (j:Nat),mn,U j4 d b] 110)=>Jo (L:=x) h
 have z:¬o=S (R L):=ye m.am;have C:¬(S (R L))=o:=λh=>z h.symm
 go_region_held3 (λx=>aK x ⟨o,2,none⟩=some (aD (some ⟨I,0,none⟩))/\aK x ⟨o,0,none⟩=some (O Q hE)/\aK x ⟨o,1,none⟩=some (O Q ah)) (simp[*,rE])
  (first|(go_at_call 38;refine(y _ l.e).mono ?_;rintro e D ⟨rfl,rfl⟩)|(go_at_call 37;refine(w _ l.e).mono ?_;rintro e D ⟨rfl,rfl⟩))
 all_goals
  go_wp2;clear w y c l m q r s t z C;rename_i E;clear E;have F:aF (S (R L)) u (cb (ay (ay (ay (ay u ⟨S (R L),0,none⟩ (O Q (j:Nat))) ⟨S (R L),1,none⟩ (O Q (d:Nat))) ⟨S (R L),2,none⟩ (O Q (hE:Nat))) ⟨S (R L),3,none⟩ (O Q (ah:Nat)))):=SH _ _ _ _ _ _
  have G:aK (cb (ay (ay (ay (ay u ⟨S (R L),0,none⟩ (O Q (j:Nat))) ⟨S (R L),1,none⟩ (O Q (d:Nat))) ⟨S (R L),2,none⟩ (O Q (hE:Nat))) ⟨S (R L),3,none⟩ (O Q (ah:Nat)))) ⟨S (R L),0,none⟩=some (O Q (j:Nat)):=by simp[rE,f,g,i,k,go_sem]
  have H:aK (cb (ay (ay (ay (ay u ⟨S (R L),0,none⟩ (O Q (j:Nat))) ⟨S (R L),1,none⟩ (O Q (d:Nat))) ⟨S (R L),2,none⟩ (O Q (hE:Nat))) ⟨S (R L),3,none⟩ (O Q (ah:Nat)))) ⟨S (R L),1,none⟩=some (O Q (d:Nat)):=by simp[rE,f,g,i,k,go_sem]
  have J:aK (cb (ay (ay (ay (ay u ⟨S (R L),0,none⟩ (O Q (j:Nat))) ⟨S (R L),1,none⟩ (O Q (d:Nat))) ⟨S (R L),2,none⟩ (O Q (hE:Nat))) ⟨S (R L),3,none⟩ (O Q (ah:Nat)))) ⟨S (R L),2,none⟩=some (O Q (hE:Nat)):=by simp[rE,f,g,i,k,go_sem]
  have K:aK (cb (ay (ay (ay (ay u ⟨S (R L),0,none⟩ (O Q (j:Nat))) ⟨S (R L),1,none⟩ (O Q (d:Nat))) ⟨S (R L),2,none⟩ (O Q (hE:Nat))) ⟨S (R L),3,none⟩ (O Q (ah:Nat)))) ⟨S (R L),3,none⟩=some (O Q (ah:Nat)):=by simp[rE,f,g,i,k,go_sem]
  generalize(cb (ay (ay (ay (ay u ⟨S (R L),0,none⟩ (O Q (j:Nat))) ⟨S (R L),1,none⟩ (O Q (d:Nat))) ⟨S (R L),2,none⟩ (O Q (hE:Nat))) ⟨S (R L),3,none⟩ (O Q (ah:Nat))))=gE at*;refine dG (v:=.agg #[O Q (j:Nat),O Q (d:Nat),O Q (hE:Nat),O Q (ah:Nat)]) (by simp[eS,results16,go_sem,G,H,J,K]) rfl ⟨rfl,B _ F⟩
def Om(L:aq)(t:(it×Nat×List (List aB))⊕(Nat×Nat))(l:an)(h:aq):Prop:=aF (S (R L)) L h/\match t with
 |.inr (v,e)=>l=b2 #[aD none,O Q v,O Q e]
 |.inl (m,C,P)=>∃f g p q s,l=b2 #[aD (some ⟨f,0,none⟩),O Q 0,O Q 0]/\S (R L)<=f/\S (R L)<=g/\f≠g/\aL h f (Lw C g) 73/\aL h g (sO m.bd m.aZ (U p q s)) 110/\su (λi=>S (R L)<=i/\i≠g/\i≠f) h (U p q s) (P.map er)
theorem J_(f:ByteArray)(L:aq)(A:∀a hE g,ec f=.inl (a,hE,g)->M g<=1000/\∀B∈g,M B<=100000/\B≠[]/\∀j4∈B,M j4.bB<=1000000)(C:∀j4 e,ec f=.inr (j4,e)->1<=e/\e<=8):
 aR prog 15 #[.string f] L λe x=>∃hu,e=aM hu/\Om L (ec f) hu x:=by
 have gf:=wl f L;cases l:ec f with
 |inr D=>
  obtain⟨E,z⟩:=D;have gF:=C E z l;have l8:((z:Int)!=0)=true:=b7;have F:ag (ec f=.inr (E,z)):=l;clear A C gF l;have me:=λ(u:aq)=>aL.bT u d4 67
  go_enter func15,ntmps15;go_wp2_with fail;refine gf.mono ?_;rintro e k ⟨hu,rfl,s,t⟩;rw[F.out]at t;obtain⟨iZ,rfl⟩:=t;unfold d4;go_wp2;exact dG (v:=b2 #[aD none,O Q E,O Q z]) (by simp[eS,results15,go_sem]) rfl ⟨_,rfl,s.alloc s.size _,rfl⟩
 |inl D=>
  obtain⟨a,hE,g⟩:=D;obtain⟨G,gL⟩:=A a hE g l;have F:ag (ec f=.inl (a,hE,g)):=l;clear A C l;go_enter func15,ntmps15;go_wp2_with fail;refine gf.mono ?_;rintro e k ⟨hu,rfl,s,t⟩;rw[F.out]at t;obtain⟨iZ,g1,rfl,gg,_⟩:=t;obtain⟨m,o,q,hS⟩:∃r j b,g1=U r j b:=by obtain⟨kr,_,h,_⟩:=gg;exact dr h
  subst hS;go_upto_region 4 with fail;have w:=aL.bT k #[O Q a.bd,O Q a.aZ,O Q hE,U m o q] 67;have H:aF (S (R L)) L (ar k (aw #[O Q a.bd,O Q a.aZ,O Q hE,U m o q] 67)):=s.alloc s.size _;have hV:ga rB (ar k (aw #[O Q a.bd,O Q a.aZ,O Q hE,U m o q] 67)) (U m o q) g:=gg.bo ((aU.l rB k).a _);have gj:=w.am;generalize(ar k) (aw #[O Q a.bd,O Q a.aZ,O Q hE,U m o q] 67)=i at*;generalize(S (R k))=iR at*;have hZ:∀u,aF (S (R i)) i u->aR prog 36 #[.agg #[O Q a.bd,O Q a.aZ,O Q hE,U m o q]] u λe x=>∃I,e=aM (aD (some ⟨I,0,none⟩))/\aF (S (R i)) i x/\S (R i)<=I/\∃r j b,aL x I (sO a.bd a.aZ (U r j b)) 110/\su (λc=>S (R i)<=c/\c≠I) x (U r j b) (g.map er):=λu J=>by refine(Q1 (hV.bo (aU.H (ab:=rB) J)) a.bd a.aZ hE G gL).mono ?_;rintro e x ⟨I,ih,iU,mn,r,j,b,i0,i1⟩;have i2:=J.size;exact⟨I,ih,J.trans (iU.mono i2),T,r,j,b,i0,i1.i (λc y _=>⟨⟨by have:=y.1;omega,y.2⟩,rfl⟩)⟩
  have jt:=w.aa 0;have jW:=w.aa 1;have gC:=w.aa 2;have j9:=w.aa 3;simp at jt jW gC j9;have kp:∀d,aF (S (R i)) i d->aK d ⟨iR,2,none⟩=some (O Q hE):=λd h=>(h.cell (p:=⟨iR,2,none⟩) gj).trans gC
  go_region_with (first|(go_at_call 36;refine(hZ _ (by first|exact ca _ _|exact⟨rfl,rfl,rfl,aN _,λ_ _=>rfl⟩)).mono ?_;rintro e d ⟨I,rfl,K,mO,kx,k1,k7,gE,lo⟩;have mR:=kp d K;have mY:iR<S (R d):=cI gj K.size))
  all_goals
   go_wp2;have P:aF (S (R L)) L d:=H.trans (K.mono H.size);refine dG (v:=b2 #[aD (some ⟨S (R d),0,none⟩),O Q 0,O Q 0]) (by simp[eS,results15,go_sem]) rfl ⟨_,rfl,P.alloc P.size _,?_⟩;have m5:=H.size;have ne:=gE.am;exact⟨S (R d),I,kx,k1,k7,rfl,P.size,T,T,aL.bT _ _ _,gE.a _,lo.i (λc y G=>⟨⟨by have:=y.1;omega,y.2,T⟩,fY _ _ _ G⟩)⟩
def gO(t:Nat->Prop)(L:aq)(f v C:Nat)(i:kF)(l:List be):Prop:=
 ∃g h m P p q s,aL L f #[O Q (v:Nat),O Q (C:Nat),aD (some ⟨h,0,none⟩)] 73/\iD g L h i l m P p q s/\g9 i l m (s.map bO.bw)/\¬g f/\∀e,t e↔(g e\/e=f\/e=h\/ap p=some e\/ap q=some e)
theorem gO.am{e:Nat->Prop}{b:kF}(h:gO e L o hE kx b hS):∀c,e c->c<S (R L):=by
 obtain⟨k,I,i0,k7,iZ,i2,i1,f,d,_,_,g⟩:=h;intro c j;rcases(g c).1 j with a|rfl|rfl|a|a
 ·exact d.cq.m_ c a
 ·exact f.am
 ·exact d.cq.ee.am
 ·exact(d.bG.lt c a).2
 ·exact(d.cq.bg.lt c a).2
theorem gO.i{f:Nat->Prop}{b:kF}(h:gO f L o hE kx b hS){bh:Nat->Prop}(j:bv bh L x)(e:∀c,bh c->¬f c):gO f x o hE kx b hS:=by obtain⟨l,I,i0,k7,iZ,i2,i1,k,m,p,q,d⟩:=h;refine⟨l,I,i0,k7,iZ,i2,i1,k.d (j.o o k.am (λa=>e o a ((d o).2 (.inr (.inl rfl))))),m.i j (λc a hF=>e c a ((d c).2 (.inl hF))) (λa=>e I a ((d I).2 (.inr (.inr (.inl rfl))))) (λN g a=>e N a ((d N).2 (.inr (.inr (.inr (.inl g)))))) (λN g a=>e N a ((d N).2 (.inr (.inr (.inr (.inr g)))))),p,q,d⟩
structure vb (aE:kF):Prop extends pk aE where
 c9:o2 aE.aZ (cS aE.cm)<=4000
theorem gO.f0{k:Nat->Prop}{b:kF}(h:gO k L o hE kx b hS):∃I j jW j4 d l lo l8 me mn,g5 (cS b.cm) b.bF hS (d8 hS) jW/\M jW=d/\j=M hS/\d<=o2 b.aZ (cS b.cm)/\aL L o #[O Q (hE:Nat),O Q (kx:Nat),aD (some ⟨I,0,none⟩)] 73/\aL L I #[lo,l8,me,O Q (j:Nat),mn,U j4 d l] 110:=by
 obtain⟨u,I,i0,k7,iZ,i2,i1,m,c,f,v,w⟩:=h;obtain⟨p,q,r,a⟩:=dr c.cq.bg;have s:q=M i1:=by
  rcases c.cq.bg.2 with⟨e,t⟩|⟨N,gF,x,e,_⟩
  ·rw[e]at a;cases a;exact t.symm
  ·rw[e]at a;cases a;rfl
 subst s;have g:=c.cq.ee;rw[a]at g;exact⟨I,M hS,i1.map bO.bw,p,M i1,r,_,_,_,_,f.db,av,rfl,by have:=f.pX;rwa [c_]at this,m,g⟩
theorem Dl{c:Nat->Prop}{b:kF}(h:gO c L o hE kx b hS):
 aR prog 16 #[aD (some ⟨o,0,none⟩)] L λa x=>∃d jW,g5 (cS b.cm) b.bF hS (d8 hS) jW/\M jW=d/\d<=o2 b.aZ (cS b.cm)/\a=aM (.agg #[O Q (M hS:Nat),O Q (d:Nat),O Q (hE:Nat),O Q (kx:Nat)])/\aF (S (R L)) L x:=by
 obtain⟨I,j,jW,j4,d,p,lo,l8,me,mn,e,f,rfl,g,i,k⟩:=h.f0;refine(QN i k).mono ?_;rintro a x ⟨l,m⟩;exact⟨d,jW,e,f,g,l,m⟩
inductive xJ (L:aq) (aE:kF) (ad:List be) (e:be) (wb:Nat->Prop):Nat->Ending->aq->Nat->List be->Prop
 |qY {ah:Nat} {aI:aq}:ah≠0->xJ L aE ad e wb ah (aM (b2 #[U none 0 0,O Q (ah:Nat)])) aI ah ad
 |uZ {aI:aq}:ff aE.bF aE.aZ ad e.aS≠0->xJ L aE ad e wb 0 (aM (b2 #[U none 0 0,O Q (ff aE.bF aE.aZ ad e.aS:Nat)])) aI (ff aE.bF aE.aZ ad e.aS) ad
 |eD {bj:Option Addr} {n BJ dH:Nat} {iy:List es} {aI:aq}:ff aE.bF aE.aZ ad e.aS=0->et dH aI (U bj n BJ) iy->L.heap.size<=dH->(∀X,((U bj n BJ).ownBlock=some X\/∃nK∈iy,nK.1.ownBlock=some X)->¬wb X)->h8 (iy.map (·.2))->(∀aG,aG∈iy.map (·.2)↔mv (cS aE.cm) aE.bF (ad++[e]) aG)->xJ L aE ad e wb 0 (aM (b2 #[U bj n BJ,O Q 0])) aI 0 (ad++[e])
theorem OB{m:Nat->Prop}{b:kF}(h:gO m L o hE kx b hS)(y:vb b)(ih:M hS<=100000000)(e:be)(F:c1 e.aS):
 aR prog 27 #[aD (some ⟨o,0,none⟩),e4 e] L λB x=>∃G t gf,(∀c,G c->m c\/S (R L)<=c)/\bv m L x/\xJ L b hS e G kx B x t gf/\gO G x o hE t b gf:=by
 obtain⟨iR,I,i0,k7,iZ,i2,i1,p,i,v,C,l⟩:=h;have D:m o:=(l o).2 (.inr (.inl rfl));have iU:M i1<=100000:=by have:=v.pX;rw[c_]at this;have:=y.c9;omega
 have gg:o≠I:=v6 p i.cq.ee ak;have gj:ap iZ≠some o:=ed p i.bG ak;have gC:ap i2≠some o:=ed p i.cq.bg ak;have gE:∀(x:aq) (t:Nat),aL x o #[O Q (hE:Nat),O Q (t:Nat),aD (some ⟨I,0,none⟩)] 73->bv (λc=>c=o) L x->gO m x o hE t b hS:=λx t q k=>⟨iR,I,i0,k7,iZ,i2,i1,q,i.i k (λc a hF=>C (a▸hF)) (λa=>gg a.symm) (λN s a=>gj (a▸s)) (λN s a=>gC (a▸s)),v,C,l⟩
 by_cases H:kx=0
 ·subst H;by_cases w:ff b.bF b.aZ hS e.aS=0
  ·refine(IK p C i y.topk v (pc _) iU ih e F w).mono ?_;rintro B x ⟨jt,j,jW,z,j4,r,gF,J,E,gL,u,rfl,q,k,j9,d,K⟩;obtain⟨kp,_⟩:=B8 w;have me:=k.size;have mn:=p.am;have g1:¬z o:=λa=>by rcases d.zq o a with a|a;exact C a;omega
   have mO:=d.QZ;have kr:∀c,(c=o\/(S (R L)<=c/\c<S (R u)))->¬z c:=λc a hF=>by
    rcases a with rfl|⟨hu,g⟩
    ·exact g1 hF
    ·rcases d.zq c hF with a|a
     ·have:=i.cq.m_ c a;omega
     ·omega
   have mR:=i.cq.ee.am;have k1:iD z x I b (hS++[e]) (i0+ex b.bF e.aS (de hS i0)) gF J E gL:=d.By.i K kr (λa=>by rcases a with a|a;exact gg a.symm;omega) (λN s a=>by
    rcases d.Dv N s with g|g
    ·rcases a with rfl|a
     ·exact gj g
     ·have:=(i.bG.lt N g).2;omega
    ·rcases a with a|a<;>omega) (λN s a=>by
    rcases d.FY N s with g|g
    ·rcases a with rfl|a
     ·exact gC g
     ·have:=(i.cq.bg.lt N g).2;omega
    ·rcases a with a|a<;>omega)
   refine⟨λc=>z c\/c=o\/c=I\/ap J=some c\/ap E=some c,0,hS++[e],λc f=>?_,?_,?_,⟨z,I,_,gF,J,E,gL,q,k1,?_,g1,λc=>Iff.rfl⟩⟩
   ·rcases f with a|rfl|rfl|a|a
    ·rcases d.zq c a with a|a
     ·exact .inl ((l c).2 (.inl a))
     ·exact .inr T
    ·exact .inl D
    ·exact .inl ((l _).2 (.inr (.inr (.inl rfl))))
    ·rcases d.Dv c a with a|a
     ·exact .inl ((l c).2 (.inr (.inr (.inr (.inl a)))))
     ·exact .inr T
    ·rcases d.FY c a with a|a
     ·exact .inl ((l c).2 (.inr (.inr (.inr (.inr a)))))
     ·exact .inr T
   ·refine((bv.bI m k).trans d.gY (λc _ a=>?_)).trans K (λc f a=>?_)
    ·rcases a with rfl|a|a
     ·exact(l _).2 (.inr (.inr (.inl rfl)))
     ·exact(l c).2 (.inr (.inr (.inr (.inl a))))
     ·exact(l c).2 (.inr (.inr (.inr (.inr a))))
    ·rcases a with rfl|a
     ·exact D
     ·omega
   ·have hV:∀c,(ap (U jt j jW)=some c\/∃A∈r,ap A.1=some c)->j4<=c/\c<S (R j9)/\ap E≠some c:=λc f=>by
     rcases f with f|⟨A,P,f⟩
     ·exact⟨(d.dQ.bg.lt c f).1,(d.dQ.bg.lt c f).2,λa=>i4 d.dQ.bg d.By.cq.bg ak c f a⟩
     ·exact⟨((d.dQ.fP A P).lt c f).1,((d.dQ.fP A P).lt c f).2,λa=>i4 (d.dQ.fP A P) d.By.cq.bg ak c f a⟩
    refine .eD w (d.dQ.i (λc f=>?_)) T (λc f lo=>?_) d.qk (λhZ=>(d.mb hZ).trans (v.mb y.xo kp hZ))
    ·obtain⟨hu,g,_⟩:=hV c f;exact K.o c g (λa=>by rcases a with a|a<;>omega)
    ·obtain⟨hu,g,l8⟩:=hV c f;rcases lo with a|a|a|a|a
     ·have:=d.Li c a;omega
     ·omega
     ·omega
     ·have:=d.OP c a;omega
     ·exact l8 a
   ·exact(v.q y.xo F w).p4 d.f0
  ·refine(KC p i y.topk v e F w).mono ?_;rintro B x ⟨rfl,q,k⟩;exact⟨m,_,hS,λc f=>.inl f,k.cE (λc _ a=>a▸D),.uZ w,gE x _ q k⟩
 ·refine(Oy p H e).mono ?_;rintro B x ⟨rfl,q,k⟩;exact⟨m,kx,hS,λc f=>.inl f,k.cE (λc _ a=>a▸D),.qY H,gE x _ q k⟩
theorem Nn(l:ByteArray)(L:aq){m:it}{i:List (List aB)}(h:ec l=.inl (m,hE,i))(A:M i<=1000/\∀p∈i,M p<=100000/\p≠[]/\∀j4∈p,M j4.bB<=1000000):
 aR prog 15 #[.string l] L λr x=>∃o s B q,r=aM (b2 #[aD (some ⟨o,0,none⟩),O Q 0,O Q 0])/\aF (S (R L)) L x/\(∀c,s c->S (R L)<=c)/\gO s x o hE 0 ⟨m.bd,m.aZ,B,i.map er,q⟩ []:=by
 refine(J_ l L (λ_ _ _ e=>by rw[h]at e;cases e;exact A) (λ_ _ e=>by rw[h]at e;cases e)).mono ?_;rintro r x ⟨hu,rfl,d,t⟩;rw[h]at t;obtain⟨o,I,C,j,b,rfl,D,E,gC,u,v,F⟩:=t;obtain⟨q,G,w,H,J⟩:=F;have gE:=u.am;have gF:=v.am;have y:fL (λc=>S (R L)<=c/\c≠I/\c≠o) x (λc=>S (R L)<=c/\c<S (R x)/\c≠I/\c≠o) x:=λc d K=>⟨⟨d.1,K,d.2⟩,rfl⟩
 refine⟨o,λc=>(S (R L)<=c/\c<S (R x)/\c≠I/\c≠o)\/c=o\/c=I\/ap (U none 0 0)=some c\/ap (U none 0 0)=some c,U C j b,q,rfl,d,λc d=>?_,λc=>S (R L)<=c/\c<S (R x)/\c≠I/\c≠o,I,0,[],U none 0 0,U none 0 0,[],u,⟨⟨⟨v,eE _ _ _ _,λc d=>d.2.1,λa=>a.2.2.1 rfl,λN f=>by simp[ap]at f,λz g=>by simp at g,λz g=>by simp at g⟩,λgL _ P=>by simp at P⟩,eE _ _ _ _,λN f=>by simp[ap]at f,⟨G,w,λN f=>(y N (H N f) (w.lt N f).2).1,λk gf gg=>(J k gf gg).i y⟩,⟨rfl,λk gj=>by simp at gj⟩,λz g=>by simp at g⟩,g9.jt _,λa=>a.2.2.2 rfl,λc=>Iff.rfl⟩;rcases d with a|rfl|rfl|a|a
 ·exact a.1
 ·exact D
 ·exact E
 ·simp[ap]at a
 ·simp[ap]at a
