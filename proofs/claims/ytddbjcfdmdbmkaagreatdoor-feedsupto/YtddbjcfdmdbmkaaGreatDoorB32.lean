import Derived.Test.YtddbjcfdmdbmkaaGreatDoorB25
import Derived.Test.YtddbjcfdmdbmkaaGreatDoorB30
set_option linter.all false
set_option maxRecDepth 100000
set_option maxHeartbeats 3200000
namespace Go.Proofs.YtddbjcfdmdbmkaaGreatDoor
open Go.RowKit Go.Proofs.Tryz
open Go.IntKind renaming i64->Q
open Go.Obj renaming cells->aw
open Go.RowKit renaming Below->aF,Hid->ag,intOf->bm
open Go renaming Value->an,World->aq
open Go.Value renaming bool->cK,int->O,pointer->aD,slice->U,string->az
open _root_.Array renaming size->S
open _root_.ByteArray renaming toList->aJ
open Go.World renaming alloc->ar,cell?->aK,heap->R,ownsRow->aY,setCell->ay
open List renaming length->M
variable{L c:aq}{k u B D al r W x bA:Nat}{q:eU}{A w E y z:an}{b:au}{ad:List be}{a_:List (Nat×List Nat)}{a:eV}{ck aG:List Nat}{ab:ByteArray}{d:cH}{j:Nat->Option cH}{aV:dg}{bF:Int}
def lc(e:be):List an:=[O Q e.aS,O Q e.ao,O Q e.bj,O Q e.X,O Q e.aE]
def fM(e:be):Array an:=#[O Q e.aS,O Q e.ao,O Q e.bj,O Q e.X,O Q e.aE]
def eB(e:Nat)(f:an)(g:Nat)(h:an)(i:Nat):Array an:=#[aD (some ⟨e,0,none⟩),f,O Q (g:Nat),h,O Q (i:Nat)]
structure gp (L:aq) (b3 X:Nat) (cO:eU) (e3:an) (e8:Nat) (g_:an) (qY:Nat) (ae:au) (ad:List be):Prop where
 cr:aL L b3 (eB X e3 e8 g_ qY) 127
 fi:aL L X (cp cO ae) 123
 aC:L.ownsRow 0 248 7 cO.mG ae.aC.length (bC eV.h ae.aC)
 aj:L.ownsRow 0 202 7 cO.e3 ae.aj.length (bC cA.h (ae.aj.zip cO.fy))
 gt:cO.fy.length=ae.aj.length
 wZ:∀a6∈cO.fy,∃bj n aE,a6=U bj n aE
 eC:L.ownsRow 0 44 5 g_ ad.length (bC lc ad)
 j7:ad.length<=1000000000
theorem gp.bI(h:gp L k u q A B w D b ad)(a:aF (S (R L)) L c):gp c k u q A B w D b ad:=
 ⟨h.cr.d (a.block _ h.cr.am),h.fi.d (a.block _ h.fi.am),cw h.aC λN d=>a.block N (h.aC.lt N d).2,cw h.aj λN d=>a.block N (h.aj.lt N d).2,h.gt,h.wZ,cw h.eC λN d=>a.block N (h.eC.lt N d).2,h.j7⟩
def n9(L:aq)(i:an)(e:List (Nat×List Nat)):Prop:=
 ∃f:List an,M f=M e/\aY L 0 204 2 i (M e) (bC l3 (e.zip f))/\∀g,(h:g<M f)->(o:g<M e)->∃l,aY L 0 3 1 f[g] l (e[g].2.map λm:Nat=>O Q (m:Int))
theorem n9.bI(h:n9 L E a_)(b:aF (S (R L)) L c):n9 c E a_:=by obtain⟨f,g,d,i⟩:=h;refine⟨f,g,cw d λN a=>b.block N (d.lt N a).2,λal r x=>?_⟩;obtain⟨j,e⟩:=i al r x;exact⟨j,cw e λN a=>b.block N (e.lt N a).2⟩
theorem gp.ne(h:gp L k u q A B w D b ad)(f:al<M ad):
 ∃N d,w=U (some ⟨N,0,none⟩) (M ad) d/\N<S (R L)/\aK L ⟨N,al*5,none⟩=some (O Q ad[al].aS)/\aK L ⟨N,al*5+1,none⟩=some (O Q ad[al].ao)/\aK L ⟨N,al*5+2,none⟩=some (O Q ad[al].bj)/\aK L ⟨N,al*5+3,none⟩=some (O Q ad[al].X)/\aK L ⟨N,al*5+4,none⟩=some (O Q ad[al].aE):=by
 obtain⟨N,d,e,_,_⟩:=h.eC.form T;have ba:∀a,a<5->∀c,(lc ad[al])[a]?=some c->aK L ⟨N,al*5+a,none⟩=some c:=by intro a i c j;have:=h.eC.cells (g:=N) (by rw[e];rfl) (al*5+a) c (by rw[i5 lc 5 (λ_=>rfl) _ _ _ f i];exact j);rw[ez,du]at this;exact this
 exact⟨N,d,e,(h.eC.lt N (by rw[e];rfl)).2,ba 0 ak _ rfl,ba 1 ak _ rfl,ba 2 ak _ rfl,ba 3 ak _ rfl,ba 4 ak _ rfl⟩
theorem gp.pZ(h:gp L k u q A B w D b ad)(j:b.aC[al]?=some a):
 ∃N e,q.mG=U (some ⟨N,0,none⟩) (M b.aC) e/\al<M b.aC/\N<S (R L)/\(aK L) ⟨N,al*7,none⟩=some (az a.cj)/\aK L ⟨N,al*7+1,none⟩=some (O Q a.bj)/\aK L ⟨N,al*7+2,none⟩=some (O Q a.X)/\aK L ⟨N,al*7+3,none⟩=some (O Q a.n)/\
  (aK L) ⟨N,al*7+4,none⟩=some (az a.name)/\aK L ⟨N,al*7+5,none⟩=some (az a.i8)/\aK L ⟨N,al*7+6,none⟩=some (O Q a.a1):=by
 obtain⟨i,l⟩:=jX.1 j;obtain⟨N,e,f,_,_⟩:=h.aC.form T;have ba:∀c,c<7->∀d,(eV.h a)[c]?=some d->aK L ⟨N,al*7+c,none⟩=some d:=by intro c m d o;have:=h.aC.cells (g:=N) (by rw[f];rfl) (al*7+c) d (by rw[i5 eV.h 7 (λ_=>rfl) _ _ _ i m,l];exact o);rw[ez,du]at this;exact this
 exact⟨N,e,f,i,(h.aC.lt N (by rw[f];rfl)).2,ba 0 ak _ rfl,ba 1 ak _ rfl,ba 2 ak _ rfl,ba 3 ak _ rfl,ba 4 ak _ rfl,ba 5 ak _ rfl,ba 6 ak _ rfl⟩
theorem gp.oa(h:gp L k u q A B w D b ad){a:cA}(l:b.aj[al]?=some a):
 ∃N e f i wc,q.e3=U (some ⟨N,0,none⟩) (M b.aj) e/\al<M b.aj/\N<S (R L)/\(aK L) ⟨N,al*7,none⟩=some (O Q a.a1)/\aK L ⟨N,al*7+1,none⟩=some (cK a.en)/\aK L ⟨N,al*7+2,none⟩=some (az a.name)/\aK L ⟨N,al*7+3,none⟩=some (O Q a.ao)/\
  (aK L) ⟨N,al*7+4,none⟩=some (O Q a.bG)/\aK L ⟨N,al*7+5,none⟩=some (O Q a.bB)/\aK L ⟨N,al*7+6,none⟩=some (U f i wc):=by
 obtain⟨m,o⟩:=jX.1 l;obtain⟨N,e,j,_,_⟩:=h.aj.form T;have v:=h.gt;have p:al<M (b.aj.zip q.fy):=by rw[jT];omega
 obtain⟨f,i,wc,r⟩:=h.wZ _ (b4 (show al<M q.fy by omega));have ba:∀c,c<7->∀d,(cA.h (a,q.fy[al]'T))[c]?=some d->aK L ⟨N,al*7+c,none⟩=some d:=by intro c s d t;have:=h.aj.cells (g:=N) (by rw[j];rfl) (al*7+c) d (by rw[i5 cA.h 7 (λ_=>rfl) _ _ _ p s,n7,o];exact t);rw[ez,du]at this;exact this
 exact⟨N,e,f,i,wc,j,m,(h.aj.lt N (by rw[j];rfl)).2,ba 0 ak _ rfl,ba 1 ak _ rfl,ba 2 ak _ rfl,ba 3 ak _ rfl,ba 4 ak _ rfl,ba 5 ak _ rfl,r▸ba 6 ak _ rfl⟩
theorem n9.cV(h:n9 L E a_):∃r x,E=U r (M a_) x:=by obtain⟨b,c,a,d⟩:=h;exact eK a
theorem n9.yC{r:Option Addr}(h:n9 L (U r W x) a_)(j:al<M a_):
 ∃N f c,r=some ⟨N,0,none⟩/\N<S (R L)/\aK L ⟨N,al*2,none⟩=some (O Q (a_[al].1:Nat))/\aK L ⟨N,al*2+1,none⟩=some f/\aY L 0 3 1 f c (a_[al].2.map λW:Nat=>O Q (W:Int)):=by
 obtain⟨i,s,d,k⟩:=h;obtain⟨N,t,l,_,_⟩:=d.form T;injection l with e u v;have m:al<M (a_.zip i):=by rw[jT];omega
 have ba:∀a,a<2->∀b,(l3 (a_[al],i[al]'T))[a]?=some b->aK L ⟨N,al*2+a,none⟩=some b:=by intro a o b p;have:=d.cells (g:=N) (by rw[e];rfl) (al*2+a) b (by rw[i5 l3 2 (λ_=>rfl) _ _ _ m o,n7];exact p);rw[ez,du]at this;exact this
 obtain⟨c,q⟩:=k al T j;exact⟨N,_,c,e,(d.lt N (by rw[e];rfl)).2,ba 0 ak _ rfl,ba 1 ak _ rfl,q⟩
def ks(e:List cA)(f:Nat):ByteArray:=(e[f]?.map (·.name)).getD ⟨#[]⟩
def ov(f:List cA)(g:List (Nat×List Nat))(h:List be)(name:ByteArray):Nat->be
 |0=>⟨0,0,0,0,0⟩
 |e+1=>if(aJ (ks f (g.getD e (0,[])).1))==name.toList then h.getD e default else ov f g h name e
def e2(f:List cA)(g:List (Nat×List Nat))(e:List be)(h:be)(i name:ByteArray):be:=
 if name.toList.isEmpty||name.toList==aJ i then h else ov f g e name (M e)
structure rx (L:aq) (fQ jV:an) (ae:au) (ad:List be) (a_:List (Nat×List Nat)) (ck:List Nat) (bA:Nat):Prop where
 cz:n9 L fQ a_
 nj:fb L jV ck
 fV:a_.length<=1000000
 bX:ck.length<=a_.length
 ep:∀e∈a_,e.1<ae.aj.length
 vK:∀aG∈ck,aG<ad.length
 bA:bA<ad.length
theorem fb.bI{a:List Nat}(h:fb L E a)(b:aF (S (R L)) L c):fb c E a:=by obtain⟨r,x,e,d⟩:=h;refine⟨r,x,e,λf=>?_⟩;obtain⟨N,g,j,k⟩:=d f;have:=b.size;exact⟨N,g,T,λal l=>(b.cell (p:=⟨N,al,none⟩) j).trans (k al l)⟩
theorem rx.bI(h:rx L y z b ad a_ ck bA)(a:aF (S (R L)) L c):rx c y z b ad a_ ck bA:=
 ⟨h.cz.bI a,h.nj.bI a,h.fV,h.bX,h.ep,h.vK,h.bA⟩
theorem Gr{b:aq}{a:Nat}{r:be}(h:aL b a (fM r) 44)(e:be):aL (ay (ay (ay (ay (ay b ⟨a,0,none⟩ (O Q e.aS)) ⟨a,1,none⟩ (O Q e.ao)) ⟨a,2,none⟩ (O Q e.bj)) ⟨a,3,none⟩ (O Q e.X)) ⟨a,4,none⟩ (O Q e.aE)) a (fM e) 44:=by have:=((((h.j 0 (O Q e.aS)).j 1 (O Q e.ao)).j 2 (O Q e.bj)).j 3 (O Q e.X)).j 4 (O Q e.aE);simpa[fM]using this
theorem Ox(l:gp L k u q A B w D b ad)(j:rx L y z b ad a_ ck bA)(name ab:ByteArray):
 Calls prog 207 #[aD (some ⟨k,0,none⟩),az name,y,z,O Q bA,az ab] L λe c=>e=.returned (e4 (e2 b.aj a_ (cM ad ck) (cu ad bA) ab name))/\aF (S (R L)) L c:=by
 have qt:=l.cr.am;have K:=l.cr.aa 3;simp[eB]at K;obtain⟨qP,qW,rfl⟩:=j.cz.cV;obtain⟨ra,rA,rfl,hZ⟩:=j.nj;by_cases x:(name.toList.isEmpty||name.toList==aJ ab)=true
 ·have rR:=j.bA;obtain⟨N,mn,rfl,sY,mO,mR,mY,m5,ne⟩:=l.ne j.bA;have J:ag (e2 b.aj a_ (cM ad ck) (cu ad bA) ab name=ad[bA]):=by show _=_;unfold e2 cu;rw[aP x];simp[List.getD,j.bA]
  have tB:(bA:Int)<(M ad:Int):=by have:=j.bA;omega
  have tI:(0:Int)<=(bA:Int):=T;generalize ad[bA]=o at*;cases ih:name.toList.isEmpty with
  |true=>clear x;go_enter func207,ntmps207;go_wp2;refine dG (v:=e4 o) (by simp[results,results207,go_sem,e4]) rfl ⟨by rw[J.out],?_⟩;exact(ca _ L).alloc (aN _) _
  |false=>
   have nB:(name.toList==aJ ab)=true:=by rw[ih]at x;simpa using x
   clear x;go_enter func207,ntmps207;go_wp2;refine dG (v:=e4 o) (by simp[results,results207,go_sem,e4]) rfl ⟨by rw[J.out],?_⟩;exact(ca _ L).alloc (aN _) _
 ·have ih:name.toList.isEmpty=false:=by cases h:name.toList.isEmpty<;>simp_all
  have nB:(name.toList==aJ ab)=false:=by cases h:(name.toList==aJ ab)<;>simp_all
  have J:ag (e2 b.aj a_ (cM ad ck) (cu ad bA) ab name=ov b.aj a_ (cM ad ck) name (M ck)):=by show _=_;unfold e2;rw[aH x];simp[cM]
  clear x;have P:=l.cr.aa 0;simp[eB]at P;have t8:=l.fi.am;have gf:=l.fi.aa 9;simp[cp]at gf;go_enter func207,ntmps207;go_wp2
  go_loopw [14] (λal wr=>∃d:Nat,d<=M ck/\al=O Q d/\aF (S (R L)) L wr/\aL wr (S (R L)) (fM ⟨0,0,0,0,0⟩) 44/\aL wr (S (R L)+1) (fM (ov b.aj a_ (cM ad ck) name d)) 44) (λal _=>M ck-(bm al).toNat)
  case atStart=>refine⟨0,bL _,rfl,((ca _ L).alloc (aN _) _).alloc av _,(aL.bT _ _ _).a _,?_⟩;have:=aL.bT (ar L (aw (fM ⟨0,0,0,0,0⟩) 44)) (fM ⟨0,0,0,0,0⟩) 44;rw[show(S (R (ar L (aw (fM ⟨0,0,0,0,0⟩) 44))))=S (R L)+1 by simp]at this;exact this
  case round=>
   obtain⟨d,ub,rfl,t,g,f⟩:=hrel;have r:=l.bI t;have gg:=j.bI t;have ug:=r.cr.am;have iR:=r.cr.aa 0;have gj:=r.cr.aa 3;simp[eB]at iR gj;have uY:=r.fi.am;have gC:=r.fi.aa 9;simp[cp]at gC;have vE:=j.bX;have wz:=j.fV;by_cases E:d<M ck
   ·have gE:d<M a_:=by omega
    obtain⟨wB,xf,xk,rfl,xr,ys,yC,_⟩:=gg.cz.yC gE;have iU:=j.ep _ (b4 gE);obtain⟨F,rfl,iZ,i0⟩:=hZ T;have y2:aK wr ⟨F,d,none⟩=some (O Q (ck[d]:Nat)):=(t.cell (p:=⟨F,d,none⟩) iZ).trans (i0 d E);have y5:F<S (R wr):=cI iZ t.size;have i1:=j.vK _ (b4 E);obtain⟨s,nG,gF,zc,mO,mR,mY,m5,ne⟩:=r.ne i1;have zS:s<S (R L):=(l.eC.lt s (by rw[gF];rfl)).2;have z_:¬k=S (R L)+1:=T;have Ai:¬F=S (R L)+1:=T;have Ak:¬s=S (R L)+1:=T;have i2:(cM ad ck).getD d default=ad[ck[d]]:=by rw[fj];unfold cM;rw[gq,dz E];exact jR i1
    have jt:ks b.aj (a_.getD d (0,[])).1=ks b.aj a_[d].1:=by rw[fj,dz gE];rfl
    generalize a_[d].1=G at*;generalize ck[d]=m at*;obtain⟨a,gL⟩:∃a,b.aj[G]?=some a:=⟨b.aj[G],by simp[iU]⟩;obtain⟨N,mn,Aq,Az,wc,jW,AE,AV,AW,Bg,Bo,Bt,BE,BH,BN⟩:=r.oa gL;have j4:ks b.aj G=a.name:=by unfold ks;rw[gL];rfl
    have j9:ag (ov b.aj a_ (cM ad ck) name (d+1)=if a.name.toList==name.toList then ad[m]else ov b.aj a_ (cM ad ck) name d):=by
     show _=_
     conv=>lhs;unfold ov
     rw[i2,jt,j4]
    rw[jW]at gC;rw[gF]at gj;have BP:(0:Int)<=(d:Int):=T;have BV:(d:Int)<(M a_:Int):=T;have Cs:(d:Int)<(M ck:Int):=T;have Cz:(0:Int)<=(G:Int):=T;have CS:(G:Int)<(M b.aj:Int):=T;have DM:(0:Int)<=(m:Int):=T;have D7:(m:Int)<(M ad:Int):=T;generalize ad[m]=o at*;generalize ov b.aj a_ (cM ad ck) name d=i at*;have D9:=f.am;have kp:ag (aL wr (S (R L)) (fM ⟨0,0,0,0,0⟩) 44):=g;have kr:ag (aL wr (S (R L)+1) (fM i) 44):=f;have C:ag (aF (S (R L)) L wr):=t;clear jW gF gL j4 i2 jt g t r gg l j iU P gf K i0 hZ;cases kx:a.name.toList==name.toList with
    |false=>
     go_upto_region 7 with fail;go_quiet(fail);go_wp2;go_roundw
     case rel=>exact⟨d+1,E,bE,⟨C.out.os,C.out.tape,C.out.output,C.out.size,C.out.block⟩,kp.out,by rw[j9.out,kx];exact kr.out⟩
     case measure=>simp[bm];omega
    |true=>
     have oa:=f.b 0;have ob:=f.b 1;have oH:=f.b 2;have oS:=f.b 3;have o6:=f.b 4;have g1:=f.aa 0;have hu:=f.aa 1;have hE:=f.aa 2;have hS:=f.aa 3;have hV:=f.aa 4;simp[fM]at g1 hu hE hS hV;go_upto_region 7 with fail;go_quiet(fail);go_upto_region 8 with fail;go_region_held3 (λc=>aK c ⟨k,3,none⟩=some (U (some ⟨s,0,none⟩) (M ad) nG)/\aK c ⟨F,d,none⟩=some (O Q (m:Nat))/\aK c ⟨s,m*5,none⟩=some (O Q o.aS)/\aK c ⟨s,m*5+1,none⟩=some (O Q o.ao)/\aK c ⟨s,m*5+2,none⟩=some (O Q o.bj)/\aK c ⟨s,m*5+3,none⟩=some (O Q o.X)/\aK c ⟨s,m*5+4,none⟩=some (O Q o.aE)) (simp[*,rE]) (fail);go_wp2;go_roundw
     case rel=>
      have H:=C.out;refine⟨d+1,E,bE,?_,?_,?_⟩
      ·exact(((((show aF (S (R L)) L (wr.drewN _)from⟨H.os,H.tape,H.output,H.size,H.block⟩).setCell (p:=⟨S (R L)+1,0,none⟩) (lv _) _).setCell (p:=⟨S (R L)+1,1,none⟩) (lv _) _).setCell (p:=⟨S (R L)+1,2,none⟩) (lv _) _).setCell (p:=⟨S (R L)+1,3,none⟩) (lv _) _).setCell (p:=⟨S (R L)+1,4,none⟩) (lv _) _
      ·refine kp.out.d ?_;simp[ay,we,aq.drewN]
      ·rw[j9.out,kx];exact Gr kr.out o
     case measure=>simp[bm];omega
   ·have pa:d=M ck:=by omega
    subst pa;have oa:=g.b 0;have ob:=g.b 1;have oH:=g.b 2;have oS:=g.b 3;have o6:=g.b 4;have py:=g.aa 0;have pF:=g.aa 1;have pR:=g.aa 2;have pU:=g.aa 3;have pX:=g.aa 4;have g1:=f.aa 0;have hu:=f.aa 1;have hE:=f.aa 2;have hS:=f.aa 3;have hV:=f.aa 4;simp[fM]at g1 hu hE hS hV py pF pR pU pX;have El:=g.am;have ET:=f.am;have pZ:=t;generalize ov b.aj a_ (cM ad ck) name (M ck)=i at*;clear l j r gg t iR gj gC P K gf;go_wp2;have I:=Gr g i;have qp:=((((pZ.setCell (p:=⟨S (R L),0,none⟩) (aN _) (O Q i.aS)).setCell (p:=⟨S (R L),1,none⟩) (aN _) (O Q i.ao)).setCell (p:=⟨S (R L),2,none⟩) (aN _) (O Q i.bj)).setCell (p:=⟨S (R L),3,none⟩) (aN _) (O Q i.X)).setCell (p:=⟨S (R L),4,none⟩) (aN _) (O Q i.aE);generalize(ay (ay (ay (ay (ay wr ⟨S (R L),0,none⟩ (O Q i.aS)) ⟨S (R L),1,none⟩ (O Q i.ao)) ⟨S (R L),2,none⟩ (O Q i.bj)) ⟨S (R L),3,none⟩ (O Q i.X))) ⟨S (R L),4,none⟩ (O Q i.aE)=Fi at*;have k1:=I.aa 0;have k7:=I.aa 1;have lo:=I.aa 2;have l8:=I.aa 3;have me:=I.aa 4;simp[fM]at k1 k7 lo l8 me;refine dG (v:=e4 i) (by simp[results,results207,go_sem,e4,k1,k7,lo,l8,me]) rfl ⟨by rw[J.out],qp⟩
def o9(g:au)(f:List be)(i:List (Nat×List Nat))(l:List Nat)(h:Nat)(m:ByteArray)(v:Nat)(o:cH):Prop:=
 ∀(L:aq) (p C:Nat) (F:eU) (G:an) (H:Nat) (I:an) (J:Nat) (s t:an),gp L p C F G H I J g f->rx L s t g f i l h->Calls prog 178 #[aD (some ⟨p,0,none⟩),O Q v,s,t,O Q h,az m] L λe K=>e=.returned (.tuple #[O Q ((dW (e2 g.aj i (cM f l) (cu f h) m) o).getD 0),cK (dW (e2 g.aj i (cM f l) (cu f h) m) o).isSome])/\aF (S (R L)) L K
theorem yH{b:aq}(c:aF (S (R (ar L (aw (gP a) 248)))) (ar L (aw (gP a) 248)) b):aL b (S (R L)) (gP a) 248:=
 (aL.bT L (gP a) 248).d (c.block _ av)
theorem Nc(d:b.aC[al]?=some a)(e:aJ a.cj=[110]):o9 b ad a_ ck bA ab al (.bp a.n):=by
 intro L k u q A B w D y z c i;obtain⟨N,j,f,l,m,o,p,r,s,t,v,x⟩:=c.pZ d;have C:=c.cr.am;have h:=c.cr.aa 0;simp[eB]at h;have E:=c.fi.am;have g:=c.fi.aa 8;simp[cp]at g;rw[f]at g;have F:(0:Int)<=(al:Int):=T;have G:(al:Int)<(M b.aC:Int):=T;have H:(aJ a.cj==[110])=true:=by simp[e]
 clear f e d;simp only[dW,mD,ua];go_enter func178,ntmps178;go_wp2_with fail
 go_ret2
 exact⟨rfl,(ca _ L).alloc (aN _) _⟩
theorem H3(j:b.aC[al]?=some a)(g:aJ a.cj=[102]):o9 b ad a_ ck bA ab al (.f2 a.name a.i8 a.a1):=by
 intro L k u q A B w D y z c t;obtain⟨N,H,l,I,J,K,P,gf,gg,gj,gC,gE⟩:=c.pZ j;have gF:=c.cr.am;have v:=c.cr.aa 0;simp[eB]at v;have gL:=c.fi.am;have m:=c.fi.aa 8;simp[cp]at m;rw[l]at m;have g1:(0:Int)<=(al:Int):=T;have hu:(al:Int)<(M b.aC:Int):=T;have hE:(aJ a.cj==[110])=false:=by simp[g]
 have hS:(aJ a.cj==[102])=true:=by simp[g]
 have f:aF (S (R L)) L (ar L (aw (gP a) 248)):=(ca _ L).alloc (aN _) _;have h:=Ox (c.bI f) (t.bI f) a.name ab;have o:ag (∀d,aF (S (R (ar L (aw (gP a) 248)))) (ar L (aw (gP a) 248)) d->aL d (S (R L)) (gP a) 248/\aF (S (R L)) L d):=λd p=>⟨yH p,f.trans (p.mono av)⟩
 clear l g j f;simp only[dW,mD,ua];have x:ag (∀e ah,x4 e ah=pz e ah):=λe ah=>rfl
 generalize e2 b.aj a_ (cM ad ck) (cu ad bA) ab a.name=C at*;have r:=λL=>Js C a.i8 L
 unfold gP at h o;unfold e4 at h r;go_enter func178,ntmps178;go_wp2_with(go_at_call 207;refine h.mono ?_;rintro e d ⟨rfl,E⟩;obtain⟨s,i⟩:=o.out _ E;have F:=s.aa 5;have hV:=s.am;simp at F);go_wp2_with(go_at_call 208;refine(r _).mono ?_;rintro e hZ ⟨rfl,G⟩)
 go_ret2
 exact⟨by rw[x.out];rfl,(i.alloc i.size _).trans (G.mono (by simp;exact Nat.le_succ_of_le i.size))⟩
theorem KU(b:ByteArray->be)(e:ByteArray)(d aG:cH):dW b (.eH e d aG)=match dW b d,dW b aG with|some a,some c=>if(aJ e)==[43]then some (wrap64 (a+c))else if(aJ e)==[45]then some (wrap64 (a-c))else if(aJ e)==[42]then some (wrap64 (a*c))else if c=0 then none else some (wrap64 (a.tdiv c))|_,_=>none:=by simp only[dW];cases dW b d<;>cases dW b aG<;>rfl
theorem RH{aG:cH}(I:b.aC[al]?=some a)(J:¬(aJ a.cj)=[110])(K:¬(aJ a.cj)=[102])(hV:a.bj=r)(hZ:a.X=x)
 (P:o9 b ad a_ ck bA ab r d)(s:o9 b ad a_ ck bA ab x aG):o9 b ad a_ ck bA ab al (.eH a.cj d aG):=by
 intro L k u q A B w D y z h gf;obtain⟨N,jW,gg,j4,j9,ih,iR,iU,iZ,i0,i1,i2⟩:=h.pZ I;have kp:=h.cr.am;have gj:=h.cr.aa 0;simp[eB]at gj;have kr:=h.fi.am;have t:=h.fi.aa 8;simp[cp]at t;rw[gg]at t;have kx:(0:Int)<=(al:Int):=T;have k1:(al:Int)<(M b.aC:Int):=T;have k7:(aJ a.cj==[110])=false:=by simp[J]
 have lo:(aJ a.cj==[102])=false:=by simp[K]
 have m:aF (S (R L)) L (ar L (aw (gP a) 248)):=(ca _ L).alloc (aN _) _;have v:=P _ _ _ _ _ _ _ _ _ _ (h.bI m) (gf.bI m);have C:ag (∀j,aF (S (R (ar L (aw (gP a) 248)))) (ar L (aw (gP a) 248)) j->aL j (S (R L)) (gP a) 248/\aF (S (R L)) L j):=λj gC=>⟨yH gC,m.trans (gC.mono av)⟩
 have c:ag (dW (e2 b.aj a_ (cM ad ck) (cu ad bA) ab) (.eH a.cj d aG)=_):=KU _ _ _ _;unfold o9 at s;clear gg J K I m P;generalize e2 b.aj a_ (cM ad ck) (cu ad bA) ab=gE at*;unfold gP at v C;rw[hV,hZ]at*;go_enter func178,ntmps178;go_wp2_with fail;refine v.mono ?_;rintro e j ⟨rfl,gF⟩;obtain⟨o,l⟩:=C.out _ gF;have dt:=o.aa 2;have l8:=o.am;simp at dt;have gL:=s _ _ _ _ _ _ _ _ _ _ (h.bI l) (gf.bI l);have E:ag (aL j (S (R L)) _ 248):=o;clear C v s gF o ih iR iU iZ i0 i1 i2 t gj;go_wp2_with fail;refine gL.mono ?_;rintro e me ⟨rfl,F⟩;have G:=E.out.d (F.block _ E.out.am);have f:=l.trans (F.mono l.size);have jt:=G.aa 0;have mn:=G.am;simp at jt;clear gL F G E l dt;cases g:dW gE d with
 |none=>
  simp only[BL,Ag];go_wp2_with fail
  go_ret2
  exact⟨by rw[c.out,g];rfl,f⟩
 |some mO=>
 cases i:dW gE aG with
 |none=>
  simp only[BL,Ag,mD,ua];go_wp2_with fail
  go_ret2
  exact⟨by rw[c.out,g,i];rfl,f⟩
 |some p=>
 simp only[mD,ua];cases g1:aJ a.cj==[43]with
 |true=>
  go_wp2_with fail
  go_ret2
  exact⟨by rw[c.out,g,i];simp[*],f⟩
 |false=>
 cases hu:aJ a.cj==[45]with
 |true=>
  go_wp2_with fail
  go_ret2
  exact⟨by rw[c.out,g,i];simp[*],f⟩
 |false=>
 cases hE:aJ a.cj==[42]with
 |true=>
  go_wp2_with fail
  go_ret2
  exact⟨by rw[c.out,g,i];simp[*],f⟩
 |false=>
 by_cases H:p=0
 ·subst H;go_wp2_with fail
  go_ret2
  exact⟨by rw[c.out,g,i];simp[*],f⟩
 ·have mR:(p==0)=false:=by simpa using H
  by_cases hS:p= -1
  ·subst hS;go_wp2_with fail
   go_ret2
   exact⟨by rw[c.out,g,i];simp[g1,hu,hE,Int.tdiv_neg],f⟩
  ·have mY:(p== -1)=false:=by simpa using hS
   go_wp2_with fail
   go_ret2
   exact⟨by rw[c.out,g,i];simp[g1,hu,hE,H],f⟩
theorem FN{aG:cH}(h:fl b.aC al aG):o9 b ad a_ ck bA ab al aG:=by
 induction h with
 |bp a c=>exact Nc a c
 |f2 a c _=>exact H3 a c
 |eH a c d e f _ _ g i=>exact RH a c d e f g i
def qS(f:au)(g:List be)(o:List (Nat×List Nat))(p:List Nat)(h:Nat)(s:ByteArray)(t:Int)(v:Bool):Prop:=
 ∀(L:aq) (i C:Nat) (F:eU) (G:an) (H:Nat) (I:an) (J:Nat) (l m:an),gp L i C F G H I J f g->rx L l m f g o p h->Calls prog 146 #[aD (some ⟨i,0,none⟩),O Q t,l,m,O Q h,az s] L λe K=>e=.returned (cK v)/\aF (S (R L)) L K
theorem OO{x:Int}(a:x<0):qS b ad a_ ck bA ab x true:=by intro L k u q A B w D y z c d;go_enter func146,ntmps146;go_wp2_with fail;go_ret;exact⟨rfl,ca _ L⟩
theorem Ij{aG:cH}(P:b.aC[al]?=some a)(H:a.cj=lT\/a.cj=iI)(hZ:a.bj=r)(ih:a.X=x)
 (gf:qS b ad a_ ck bA ab r (fE (e2 b.aj a_ (cM ad ck) (cu ad bA) ab) d))(o:qS b ad a_ ck bA ab x (fE (e2 b.aj a_ (cM ad ck) (cu ad bA) ab) aG)):qS b ad a_ ck bA ab al (fE (e2 b.aj a_ (cM ad ck) (cu ad bA) ab) (.eH a.cj d aG)):=by
 intro L k u q A B w D y z h I;obtain⟨N,i0,gg,i1,i2,gj,gC,gE,gF,gL,g1,hu⟩:=h.pZ P;have jt:=h.cr.am;have J:=h.cr.aa 0;simp[eB]at J;have jW:=h.fi.am;have E:=h.fi.aa 8;simp[cp]at E;rw[gg]at E;have j4:(0:Int)<=(al:Int):=T;have j9:(al:Int)<(M b.aC:Int):=T;have F:aF (S (R L)) L (ar L (aw (gP a) 248)):=(ca _ L).alloc (aN _) _;have p:=gf _ _ _ _ _ _ _ _ _ _ (h.bI F) (I.bI F);have s:ag (∀i,aF (S (R (ar L (aw (gP a) 248)))) (ar L (aw (gP a) 248)) i->aL i (S (R L)) (gP a) 248/\aF (S (R L)) L i):=λi hE=>⟨yH hE,F.trans (hE.mono av)⟩
 have hS:ag (fE (e2 b.aj a_ (cM ad ck) (cu ad bA) ab) (.eH a.cj d aG)=if(aJ a.cj)==[97,110,100]then fE (e2 b.aj a_ (cM ad ck) (cu ad bA) ab) d&&fE (e2 b.aj a_ (cM ad ck) (cu ad bA) ab) aG else fE (e2 b.aj a_ (cM ad ck) (cu ad bA) ab) d||fE (e2 b.aj a_ (cM ad ck) (cu ad bA) ab) aG):=by
  show _=_;rcases H with e|e
  ·simp[fE,e,AN]
  ·simp[fE,e,A_]
 have t:(aJ a.cj==[97,110,100])=true\/((aJ a.cj==[97,110,100])=false/\(aJ a.cj==[111,114])=true):=by
  rcases H with e|e
  ·left;rw[e,AN];rfl
  ·right;rw[e,A_];exact⟨rfl,rfl⟩
 unfold qS at o;clear gg H P F gf;generalize fE (e2 b.aj a_ (cM ad ck) (cu ad bA) ab) d=hV at*;generalize fE (e2 b.aj a_ (cM ad ck) (cu ad bA) ab) aG=G at*;rw[hS.out];clear hS;unfold gP at p s;rw[hZ,ih]at*;rcases t with t|⟨t,kp⟩
 ·simp only[t,iC];go_enter func146,ntmps146;go_wp2_with fail;refine p.mono ?_;rintro e i ⟨rfl,v⟩;obtain⟨f,c⟩:=s.out _ v;have dt:=f.aa 2;have iR:=f.am;simp at dt;have C:=o _ _ _ _ _ _ _ _ _ _ (h.bI c) (I.bI c);have j:ag (aL i (S (R L)) _ 248):=f;clear s p o v f gj gC gE gF gL g1 hu E J;go_wp2_with fail;refine C.mono ?_;rintro e iU ⟨rfl,l⟩;have m:=j.out.d (l.block _ j.out.am);have g:=c.trans (l.mono c.size);have K:=m.aa 0;have iZ:=m.am;simp at K;clear C l m j c dt;cases hV with
  |true=>
   cases G with
   |true=>go_wp2_with fail;go_ret;exact⟨rfl,g⟩
   |false=>go_wp2_with fail;go_ret;exact⟨rfl,g⟩
  |false=>
   cases G with
   |true=>go_wp2_with fail;go_ret;exact⟨rfl,g⟩
   |false=>go_wp2_with fail;go_ret;exact⟨rfl,g⟩
 ·simp only[t,rc,lh];go_enter func146,ntmps146;go_wp2_with fail;refine p.mono ?_;rintro e i ⟨rfl,v⟩;obtain⟨f,c⟩:=s.out _ v;have dt:=f.aa 2;have iR:=f.am;simp at dt;have C:=o _ _ _ _ _ _ _ _ _ _ (h.bI c) (I.bI c);have j:ag (aL i (S (R L)) _ 248):=f;clear s p o v f gj gC gE gF gL g1 hu E J;go_wp2_with fail;refine C.mono ?_;rintro e iU ⟨rfl,l⟩;have m:=j.out.d (l.block _ j.out.am);have g:=c.trans (l.mono c.size);have K:=m.aa 0;have iZ:=m.am;simp at K;clear C l m j c dt;cases hV with
  |true=>
   cases G with
   |true=>go_wp2_with fail;go_ret;exact⟨rfl,g⟩
   |false=>go_wp2_with fail;go_ret;exact⟨rfl,g⟩
  |false=>
   cases G with
   |true=>go_wp2_with fail;go_ret;exact⟨rfl,g⟩
   |false=>go_wp2_with fail;go_ret;exact⟨rfl,g⟩
theorem L8{aG:cH}(I:b.aC[al]?=some a)(s:a.cj∈gz)(gE:a.bj=r)(gF:a.X=x)
 (t:o9 b ad a_ ck bA ab r d)(m:o9 b ad a_ ck bA ab x aG):qS b ad a_ ck bA ab al (fE (e2 b.aj a_ (cM ad ck) (cu ad bA) ab) (.eH a.cj d aG)):=by
 intro L k u q A B w D y z h J;obtain⟨N,i2,K,jt,jW,gL,g1,hu,hE,hS,hV,hZ⟩:=h.pZ I;have j4:=h.cr.am;have P:=h.cr.aa 0;simp[eB]at P;have j9:=h.fi.am;have v:=h.fi.aa 8;simp[cp]at v;rw[K]at v;have kp:(0:Int)<=(al:Int):=T;have kr:(al:Int)<(M b.aC:Int):=T;have o:aF (S (R L)) L (ar L (aw (gP a) 248)):=(ca _ L).alloc (aN _) _;have C:=t _ _ _ _ _ _ _ _ _ _ (h.bI o) (J.bI o);have E:ag (∀j,aF (S (R (ar L (aw (gP a) 248)))) (ar L (aw (gP a) 248)) j->aL j (S (R L)) (gP a) 248/\aF (S (R L)) L j):=λj gf=>⟨yH gf,o.trans (gf.mono av)⟩
 have ih:(aJ a.cj==[97,110,100])=false/\(aJ a.cj==[111,114])=false:=by simp only[gz,ek,nE,oz]at s;rcases s with e|e|e|e|e|e<;>rw[e]<;>simp[fo,dt]
 obtain⟨iR,iU⟩:=ih;have c:ag (fE (e2 b.aj a_ (cM ad ck) (cu ad bA) ab) (.eH a.cj d aG)=match dW (e2 b.aj a_ (cM ad ck) (cu ad bA) ab) d,dW (e2 b.aj a_ (cM ad ck) (cu ad bA) ab) aG with|some iZ,some i0=>mj iZ a.cj i0|_,_=>false):=by show _=_;simp only[fE,iR,iU,rc,lh];cases dW (e2 b.aj a_ (cM ad ck) (cu ad bA) ab) d<;>cases dW (e2 b.aj a_ (cM ad ck) (cu ad bA) ab) aG<;>rfl
 unfold o9 at m;clear K s I o t;generalize e2 b.aj a_ (cM ad ck) (cu ad bA) ab=gg at*;unfold gP at C E;rw[gE,gF]at*;go_enter func146,ntmps146;go_wp2_with fail;refine C.mono ?_;rintro e j ⟨rfl,gj⟩;obtain⟨p,l⟩:=E.out _ gj;have dt:=p.aa 2;have kx:=p.am;simp at dt;have gC:=m _ _ _ _ _ _ _ _ _ _ (h.bI l) (J.bI l);have F:ag (aL j (S (R L)) _ 248):=p;clear E C m gj p gL g1 hu hE hS hV hZ v P;go_wp2_with fail;refine gC.mono ?_;rintro e k1 ⟨rfl,G⟩;have H:=F.out.d (G.block _ F.out.am);have f:=l.trans (G.mono l.size);have i1:=H.aa 0;have k7:=H.am;simp at i1;clear gC G H F l dt;cases g:dW gg d with
 |none=>simp only[BL,Ag];go_wp2_with fail;go_ret;exact⟨by rw[c.out,g];rfl,f⟩
 |some lo=>
 cases i:dW gg aG with
 |none=>simp only[BL,Ag,mD,ua];go_wp2_with fail;go_ret;exact⟨by rw[c.out,g,i];rfl,f⟩
 |some l8=>
 simp only[mD,ua];cases t:aJ a.cj==[61]with
 |true=>go_wp2_with fail;go_ret;exact⟨by rw[c.out,g,i];simp[mj, *],f⟩
 |false=>
 cases m:aJ a.cj==[33,61]with
 |true=>go_wp2_with fail;go_ret;exact⟨by rw[c.out,g,i];simp[mj, *],f⟩
 |false=>
 cases me:aJ a.cj==[60]with
 |true=>go_wp2_with fail;go_ret;exact⟨by rw[c.out,g,i];simp[mj, *],f⟩
 |false=>
 cases mn:aJ a.cj==[60,61]with
 |true=>go_wp2_with fail;go_ret;exact⟨by rw[c.out,g,i];simp[mj, *],f⟩
 |false=>
 cases mO:aJ a.cj==[62]with
 |true=>go_wp2_with fail;go_ret;exact⟨by rw[c.out,g,i];simp[mj, *],f⟩
 |false=>go_wp2_with fail;go_ret;exact⟨by rw[c.out,g,i];simp[mj, *],f⟩
theorem L6{aG:cH}(h:fl b.aC al aG):∀f,fu true aG f->qS b ad a_ ck bA ab al (fE (e2 b.aj a_ (cM ad ck) (cu ad bA) ab) aG):=by
 induction h with
 |bp g i=>intro f c;cases c
 |f2 g i _=>intro f c;cases c
 |@eH al r u a d aG g i v j k p q s t=>
  intro f c;generalize l:a.cj=w at c;cases c with
  |rq e m o=>rw[<-l]at e⊢;exact L8 g e j k (FN p) (FN q)
  |qG e m o=>rw[<-l]at e⊢;exact Ij g (by simpa using e) j k (s _ m) (t _ o)
def sE(e:List cA)(f:Nat):Int:=(e[f]?.map (·.ao)).getD 0
def p7(e:ByteArray->be):Option cH->Bool
 |none=>true
 |some f=>fE e f
def im(f:List cA)(h:Nat->Option cH)(i:List (Nat×List Nat))(g:Nat)(l:ByteArray)(m:List be)(e:be):Bool:=(sE f g==e.ao)&&p7 (e2 f i m e l) (h g)
def is(f:List cA)(h:Nat->Option cH)(i:List (Nat×List Nat))(g:Nat×List Nat):dg:=⟨im f h i g.1 (ks f g.1),λl e=>g.2.any λN=>im f h i N ⟨#[]⟩ l e⟩
def o3(f:au)(l:Nat->Option cH)(g:Nat):Prop:=∃e,f.aj[g]?=some e/\match l g with
 |none=>e.bB<0
 |some h=>∃(i:Nat) (m:List c0),e.bB=i/\fl f.aC i h/\fu true h m
theorem o3.z_{c:Nat}(h:o3 b j c){a:cA}(f:b.aj[c]?=some a):qS b ad a_ ck bA ab a.bB (p7 (e2 b.aj a_ (cM ad ck) (cu ad bA) ab) (j c)):=by
 obtain⟨g,d,h⟩:=h;have:g=a:=by rw[f]at d;injection d with d;exact d.symm
 subst this;cases e:j c with
 |none=>rw[e]at h;exact OO h
 |some aG=>rw[e]at h;obtain⟨o,i,k,l,m⟩:=h;rw[k];exact L6 l i m
structure qM (ae:au) (cl:Nat->Option cH) (a_:List (Nat×List Nat)):Prop where
 hi:∀e∈a_,o3 ae cl e.1
 en:∀e∈a_,∀N∈e.2,o3 ae cl N
 fV:a_.length<=1000000
 LK:∀e∈a_,e.2.length<=1000000
structure ps (L:aq) (fQ jV:an) (ad:List be) (a_:List (Nat×List Nat)) (ck:List Nat):Prop where
 cz:n9 L fQ a_
 nj:fb L jV ck
 bX:ck.length<=a_.length
 vK:∀aG∈ck,aG<ad.length
theorem ps.bI(h:ps L y z ad a_ ck)(a:aF (S (R L)) L c):ps c y z ad a_ ck:=
 ⟨h.cz.bI a,h.nj.bI a,h.bX,h.vK⟩
theorem qM.ep(h:qM b j a_):∀e∈a_,e.1<M b.aj:=λe c=>by obtain⟨a,d,_⟩:=h.hi e c;exact(jX.1 d).1
theorem ps.o(h:ps L y z ad a_ ck)(a:qM b j a_)(c:bA<M ad):rx L y z b ad a_ ck bA:=
 ⟨h.cz,h.nj,a.fV,h.bX,a.ep,h.vK,c⟩
def lz(e:cA)(f:an):Array an:=#[O Q e.a1,cK e.en,az e.name,O Q e.ao,O Q e.bG,O Q e.bB,f]
theorem TE{bD:Type}(ah:bD->Bool)(a:List bD)(b:Nat)(h:b<M a)(c:(a.take b).any ah=false):(a.take (b+1)).any ah=ah a[b]:=by rw[ev h,Gv,c];simp
def m0(e:List be)(g:dg)(h:List Nat)(i l:Nat):Bool:=(List.range l).all λf=>!(decide (i<f)&&g.iT (cM e h) (cu e f))
theorem HG{c a:Nat}:m0 ad aV aG c a=true↔∀al,c<al->al<a->aV.iT (cM ad aG) (cu ad al)=false:=by
 unfold m0;rw[lq];constructor
 ·intro h al b d;have:=h al (m8.2 d);simpa[b]using this
 ·intro h al a;by_cases b:c<al
  ·simp[h al b (m8.1 a)]
  ·simp[b]
theorem Gb(gE:gp L k u q A B w D b ad)(hF:ps L y z ad a_ ck)(K:qM b j a_)(gF:M ck<M a_)(m l:Nat)(Ai:m<M ad)(Ak:l<=M ad):
 Calls prog 144 #[aD (some ⟨k,0,none⟩),y,z,O Q m,O Q l] L λe c=>e=.returned (cK (m0 ad (is b.aj j a_ a_[M ck]) ck m l))/\aF (S (R L)) L c:=by
 have Aq:=gE.j7;obtain⟨Az,oH,rfl⟩:=hF.cz.cV;have oS:=hF.nj;obtain⟨o6,pa,rfl,py⟩:=oS;clear py;obtain⟨pF,AE,pR,rfl,AV,pU,pX,E⟩:=hF.cz.yC gF;obtain⟨AW,Bg,rfl⟩:=eK E;have pZ:pR=M a_[M ck].2:=by have:=E.1;simpa using this.symm
 subst pZ;have jt:=K.en _ (b4 gF);have qp:=K.LK _ (b4 gF);have Bo:=K.fV;have P:∀e,(is b.aj j a_ a_[M ck]).iT (cM ad ck) e=a_[M ck].2.any λN=>im b.aj j a_ N ⟨#[]⟩ (cM ad ck) e:=λe=>rfl
 generalize a_[M ck]=jW at*;generalize is b.aj j a_ jW=aV at*;have j4:ag (m0 ad aV ck m l=true↔∀al,m<al->al<l->aV.iT (cM ad ck) (cu ad al)=false):=HG;generalize m0 ad aV ck m l=gL at*;obtain⟨Bt,i⟩:=jW;simp only at E jt qp P pU pX;have BE:(M ck:Int)<(M a_:Int):=T;have BH:(0:Int)<=(M ck:Int):=T;go_enter func144,ntmps144;go_wp2
 go_loopw [12] (λg1 wr=>∃al:Nat,m<al/\al<=M ad/\g1=O Q al/\(∀d,m<d->d<al->d<l->aV.iT (cM ad ck) (cu ad d)=false)/\aF (S (R L)) L wr) (λg1 _=>l-(bm g1).toNat)
 case atStart=>exact⟨m+1,T,T,av,λd o hu=>T,ca _ _⟩
 case round=>
  obtain⟨al,qt,BN,rfl,gf,hE⟩:=hrel;by_cases qP:al<l
  ·have hS:al<M ad:=by omega
   have qW:(al:Int)<(l:Int):=T;have ra:ag (i.any (λN=>im b.aj j a_ N ⟨#[]⟩ (cM ad ck) (cu ad al))=false->∀d,m<d->d<al+1->d<l->aV.iT (cM ad ck) (cu ad d)=false):=λh d o hu rA=>by
    by_cases rR:d=al
    ·subst rR;rw[P];exact h
    ·exact gf d o T rA
   have sY:ag (i.any (λN=>im b.aj j a_ N ⟨#[]⟩ (cM ad ck) (cu ad al))=true->¬∀al,m<al->al<l->aV.iT (cM ad ck) (cu ad al)=false):=λh f=>by have:=f al qt qP;rw[P,h]at this;cases this
   clear gf;go_wp2
   go_loopw [13] (λhV tB=>∃f:Nat,f<=M i/\hV=O Q f/\(i.take f).any (λN=>im b.aj j a_ N ⟨#[]⟩ (cM ad ck) (cu ad al))=false/\aF (S (R L)) L tB) (λhV _=>M i-(bm hV).toNat)
   case atStart=>exact⟨0,bL _,rfl,rfl,hE⟩
   case round=>
    obtain⟨f,BP,rfl,hZ,s⟩:=hrel;clear hE;by_cases F:f<M i
    ·have j9:ag ((i.take (f+1)).any (λN=>im b.aj j a_ N ⟨#[]⟩ (cM ad ck) (cu ad al))=im b.aj j a_ i[f] ⟨#[]⟩ (cM ad ck) (cu ad al)):=TE _ _ _ F hZ;have tI:ag (im b.aj j a_ i[f] ⟨#[]⟩ (cM ad ck) (cu ad al)=true->i.any (λN=>im b.aj j a_ N ⟨#[]⟩ (cM ad ck) (cu ad al))=true):=λh=>jf.2 ⟨_,b4 F,h⟩
     have ih:=jt _ (b4 F);obtain⟨t,BV,t8,_,_⟩:=E.form T;injection t8 with ub ug uY;subst ub;subst uY;clear ug;have kp:=(E.lt t rfl).2;have kr:aK L ⟨t,f,none⟩=some (O Q (i[f]:Nat)):=by have:=E.cells (g:=t) rfl f (O Q (i[f]:Nat)) (by rw[gq,dz F];rfl);rw[ez,du]at this;exact this
     generalize i[f]=d at*;obtain⟨a,gg,_⟩:=id ih;have kx:sE b.aj d=a.ao:=by unfold sE;rw[gg];rfl
     have k1:im b.aj j a_ d ⟨#[]⟩ (cM ad ck) (cu ad al)=((a.ao==(cu ad al).ao)&&p7 (e2 b.aj a_ (cM ad ck) (cu ad al) ⟨#[]⟩) (j d)):=by unfold im;rw[kx]
     have gj:ag (im b.aj j a_ d ⟨#[]⟩ (cM ad ck) (cu ad al)=_):=k1;have k7:=o3.z_ ih gg (ad:=ad) (a_:=a_) (ck:=ck) (bA:=al) (ab:=⟨#[]⟩);generalize p7 (e2 b.aj a_ (cM ad ck) (cu ad al) ⟨#[]⟩) (j d)=vE at*;have v:=gE.bI s;have lo:=hF.bI s;obtain⟨N,wz,x,C,wc,l8,Cs,Cz,wB,xf,xk,xr,ys,yC,y2⟩:=v.oa gg;have CS:=v.cr.am;have me:=v.cr.aa 0;simp[eB]at me;have DM:=v.fi.am;have iR:=v.fi.aa 9;simp[cp]at iR;rw[l8]at iR;have y5:aK wr ⟨t,f,none⟩=some (O Q (d:Nat)):=(s.cell (p:=⟨t,f,none⟩) kp).trans kr;have D7:t<S (R wr):=cI kp s.size;have D9:(0:Int)<=(d:Int):=T;have El:(d:Int)<(M b.aj:Int):=T;have ET:(0:Int)<=(f:Int):=T;have Fi:(f:Int)<(M i:Int):=T;have mn:ag (aF (S (R L)) L wr):=s;have mO:ag (gp wr k u q A B w D b ad):=v;have zc:ag (ps wr (U (some ⟨pF,0,none⟩) (M a_) oH) (U o6 (M ck) pa) ad a_ ck):=lo;clear l8 k1 gg kx s v lo ih kr;go_upto_region 8 with fail;go_region_held3 (λc=>aK c ⟨k,0,none⟩=some (aD (some ⟨u,0,none⟩))/\aK c ⟨u,9,none⟩=some (U (some ⟨N,0,none⟩) (M b.aj) wz)/\aK c ⟨t,f,none⟩=some (O Q d)/\aK c ⟨N,d*7,none⟩=some (O Q a.a1)/\aK c ⟨N,d*7+1,none⟩=some (cK a.en)/\aK c ⟨N,d*7+2,none⟩=some (az a.name)/\aK c ⟨N,d*7+3,none⟩=some (O Q a.ao)/\aK c ⟨N,d*7+4,none⟩=some (O Q a.bG)/\aK c ⟨N,d*7+5,none⟩=some (O Q a.bB)/\aK c ⟨N,d*7+6,none⟩=some (U x C wc)) (go_keep) (fail);have G:aF (S (R wr)) wr (ar wr (aw (lz a (U x C wc)) 202)).drew:=by have o:=(ca _ wr).alloc (aN _) (aw (lz a (U x C wc)) 202);exact⟨o.os,o.tape,o.output,o.size,o.block⟩
     have H:aL (ar wr (aw (lz a (U x C wc)) 202)).drew (S (R wr)) (lz a (U x C wc)) 202:=(aL.bT wr _ _).e;unfold lz at G H;generalize(ar wr (aw #[O Q a.a1,cK a.en,az a.name,O Q a.ao,O Q a.bG,O Q a.bB,U x C wc] 202)).drew=iU at*;have mR:=k7 iU _ _ _ _ _ _ _ _ _ (mO.out.bI G) ((zc.out.bI G).o K hS);have mY:=H.aa 5;have zS:=H.am;simp at mY;have m5:ag (∀r,aF (S (R iU)) iU r->gp r k u q A B w D b ad/\aF (S (R L)) L r/\aL r (S (R wr)) #[O Q a.a1,cK a.en,az a.name,O Q a.ao,O Q a.bG,O Q a.bB,U x C wc] 202):=λr I=>by have ne:aF (S (R wr)) wr r:=G.trans (I.mono G.size);exact⟨mO.out.bI ne,mn.out.trans (ne.mono mn.out.size),H.d (I.block _ H.am)⟩
     clear G H k7 wB xf xk xr ys yC y2 me iR y5 gE hF;go_upto_region 10 with(go_at_call 146;refine mR.mono ?_;rintro e r ⟨rfl,I⟩);obtain⟨gC,J,iZ⟩:=m5.out _ I;have z_:=iZ.aa 3;have FM:=iZ.am;simp at z_;have F2:=gC.cr.am;have nB:=gC.cr.aa 3;simp[eB]at nB;obtain⟨F4,Ga,nG,Gl,Gx,oa,_⟩:=gC.ne hS;rw[nG]at nB;rw[<-jR hS]at oa;generalize(cu ad al).ao=i0 at oa gj;have Hp:(0:Int)<=(al:Int):=T;have HY:(al:Int)<(M ad:Int):=T;have i1:∀W,aF (S (R L)) L (r.drewN W):=λW=>⟨J.os,J.tape,J.output,J.size,J.block⟩
     clear nG I m5 mR gC iZ mY zS;cases vE with
     |false=>
      go_quiet(fail);go_wp2;go_roundw
      case rel=>exact⟨f+1,F,bE,by rw[j9.out,gj.out];simp,i1 _⟩
      case measure=>simp[bm];omega
     |true=>
      cases ob:(a.ao==i0)with
      |false=>
       go_quiet(fail);go_wp2;go_roundw
       case rel=>exact⟨f+1,F,bE,by rw[j9.out,gj.out,ob];simp,i1 _⟩
       case measure=>simp[bm];omega
      |true=>
       go_quiet(fail);go_wp2;have i2:gL=false:=by
        cases gL with
        |false=>rfl
        |true=>exact absurd (j4.out.1 rfl) (sY.out (tI.out (by rw[gj.out,ob];rfl)))
       subst i2;go_ret;exact⟨rfl,i1 _⟩
    ·have i0:f=M i:=by omega
     subst i0;rw[eQ]at hZ;go_wp2;go_roundw
     case rel=>exact⟨al+1,T,T,bE,ra.out hZ,s⟩
     case measure=>simp[bm];omega
  ·have qW:¬(al:Int)<(l:Int):=by omega
   have i2:gL=true:=j4.out.2 λd o hu=>gf d o T hu
   subst i2;clear gf P;go_wp2;go_ret;exact⟨rfl,hE⟩
def jg(e:List be)(i:Int)(h:dg)(f:List Nat)(g:Nat):Bool:=decide (ii f<=g)&&decide (d8 e-(cu e g).aS<i)&&h.hn (cM e f) (cu e g)&&decide (f=[]\/hg e h f g)
def mz(e:List be)(f:Int)(g:dg)(h:List Nat)(i:Nat):List Nat:=(List.range i).filter (jg e f g h)
theorem G8(ad:List be)(bF:Int)(aV:dg)(aG:List Nat)(al:Nat):mz ad bF aV aG (al+1)=mz ad bF aV aG al++if jg ad bF aV aG al then [al]else []:=by unfold mz;rw[List.range_succ,lE];cases h:jg ad bF aV aG al<;>simp[h]
theorem FV(h:jg ad bF aV aG al=false):mz ad bF aV aG (al+1)=mz ad bF aV aG al:=by rw[G8,h];simp
theorem Pd(h:jg ad bF aV aG al=true):mz ad bF aV aG (al+1)=mz ad bF aV aG al++[al]:=by rw[G8,h];simp
theorem F0:mz ad bF aV aG (ii aG)=[]:=by unfold mz;rw[zV];intro r a;rw[m8]at a;unfold jg;rw[kt (by omega:¬ii aG<=r)];simp
theorem SZ(b:aG≠[])(c:¬hg ad aV aG al):∀a,mz ad bF aV aG (al+a)=mz ad bF aV aG al:=by
 intro a
 induction a with
 |zero=>rfl
 |succ a d=>
  rw[<-hr,FV,d];unfold jg;rw[kt (p:=aG=[]\/hg ad aV aG (al+a))]
  ·simp
  ·rintro(h|h)
   ·exact b h
   ·exact c (λe f g=>h e f T)
def hP(e:List be)(f:Int)(h:dg)(rest:List dg)(g:List Nat)(i:Nat):List (List Nat):=(mz e f h g i).flatMap λl=>gc e f rest (g++[l])
def hp(e:List be)(f:Int)(h:dg)(rest:List dg)(g:List Nat)(i:Nat):List (List Nat):=(mz e f h g i).flatMap λl=>ge e f rest (g++[l])
theorem Eh{rest:List dg}:hP ad bF aV rest aG (ii aG)=[]:=by unfold hP;rw[F0];rfl
theorem FL{rest:List dg}:hp ad bF aV rest aG (ii aG)=[]:=by unfold hp;rw[F0];rfl
theorem td{rest:List dg}(h:jg ad bF aV aG al=false):hP ad bF aV rest aG (al+1)=hP ad bF aV rest aG al/\hp ad bF aV rest aG (al+1)=hp ad bF aV rest aG al:=by unfold hP hp;rw[FV h];exact⟨rfl,rfl⟩
theorem xa{rest:List dg}(h:jg ad bF aV aG al=true):hP ad bF aV rest aG (al+1)=hP ad bF aV rest aG al++gc ad bF rest (aG++[al])/\hp ad bF aV rest aG (al+1)=hp ad bF aV rest aG al++ge ad bF rest (aG++[al]):=by unfold hP hp;rw[Pd h,nV,nV];simp
theorem Mt{rest:List dg}(a:aG≠[])(b:¬hg ad aV aG al)(c:al<=W):hP ad bF aV rest aG W=hP ad bF aV rest aG al/\hp ad bF aV rest aG W=hp ad bF aV rest aG al:=by unfold hP hp;have:=SZ (bF:=bF) a b (W-al);rw[show al+(W-al)=W by omega]at this;rw[this];exact⟨rfl,rfl⟩
theorem Fx(ad:List be)(bF:Int)(aV:dg)(rest:List dg)(aG:List Nat):gc ad bF (aV::rest) aG=(if aG≠[]/\hg ad aV aG (M ad)then [aG]else [])++hP ad bF aV rest aG (M ad)/\ge ad bF (aV::rest) aG=hp ad bF aV rest aG (M ad):=⟨rfl,rfl⟩
theorem Hl{rest:List dg}(h:al<=W):M (hP ad bF aV rest aG al)<=M (hP ad bF aV rest aG W)/\M (hp ad bF aV rest aG al)<=M (hp ad bF aV rest aG W):=by
 obtain⟨a,rfl⟩:=Nat.exists_eq_add_of_le h;clear h
 induction a with
 |zero=>exact⟨aN _,aN _⟩
 |succ a b=>
  rw[<-hr];cases h:jg ad bF aV aG (al+a)with
  |false=>rw[(td h).1,(td h).2];exact b
  |true=>rw[(xa h).1,(xa h).2,bV,bV];omega
theorem Dq(a:ii aG<=al)(b:d8 ad-(cu ad al).aS<bF)(c:aV.hn (cM ad aG) (cu ad al)=true)(d:aG=[]\/hg ad aV aG al):jg ad bF aV aG al=true:=by unfold jg;rw[lW a,lW b,lW d,c];rfl
theorem Hz(a:¬d8 ad-(cu ad al).aS<bF):jg ad bF aV aG al=false:=by unfold jg;rw[kt a];simp
theorem x9(a:aV.hn (cM ad aG) (cu ad al)=false):jg ad bF aV aG al=false:=by unfold jg;rw[a];simp
