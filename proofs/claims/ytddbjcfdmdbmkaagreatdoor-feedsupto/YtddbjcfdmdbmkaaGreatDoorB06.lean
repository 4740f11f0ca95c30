import Derived.Test.YtddbjcfdmdbmkaaGreatDoorB05
import Derived.Deep.LoopGhost
import Derived.Shelf.Abstract
set_option linter.all false
set_option maxRecDepth 100000
set_option maxHeartbeats 400000
namespace Go.Proofs.YtddbjcfdmdbmkaaGreatDoor
open Go.RowKit Go.Proofs.Tryz
open _root_.ByteArray renaming size->aW,toList->aJ
open List renaming length->M
variable{a D x w:aA}{ae k b B:au}{ah:aA->aA}{W y u j:Nat}{Y:ByteArray}{r:Bool}{E F:List eV}{o:List Nat}{A:List aB}{z:aA->aA×List aB}
theorem dP.a1(h:dP a ae):0<M a.a7:=by
 rcases h.hC with h|h
 ·exact h.2.1.bX.1
 ·rw[h.2];simp
theorem MJ(i:j6 ah)(u:l6 5 false ah W):l6 2 true (oR ah) W:=by
 intro a ae h v;by_cases m:ae.bk<0
 ·have o:=Ef i u;obtain⟨w,b,p,c⟩:=o a ae h v;unfold oR;generalize hV:gU ah a=x at*;by_cases f:x.m gz=true
  ·have d:=B4 c.cf w3 f;obtain⟨q,y,z⟩:=B1 c.cf d w3 f;obtain⟨N,A,hZ⟩:=l4 c.cf d z;have j:x.bx gz=x.c:=by unfold aA.bx;rw[aP f]
   have k:x.I gz=x.af.bn:=by unfold aA.I;rw[aP f]
   rw[j,k];have ih:=c.bX;obtain⟨r,B,C,g⟩:=o x.c b.g N.cf T;have D:=g.fk;have s:b.g.al=b.al+1:=rfl;have E:b.g.aC=b.aC:=rfl;rw[s,E]at D;have F:=g.al;rw[s]at F;have iR:=c.fk;have iU:=c.al;have iZ:=c.cf.b8.aC;have G:=vJ g.cf ⟨b.af.a8,w,r,0,cD,cD,0⟩ ⟨x.af.bn,0,⟨#[]⟩,0⟩ T;have l:=g.cf.b8;refine⟨_,_,.wO m p (by rw[<-Ev c.cf d];exact f) d C (by have:=l.aC;have:=l.cY;have:=l.aT;omega),((c.toij.trans N).trans g.toij).trans G,?_,?_⟩
   ·simp only[au.gC,bV,dT,d5];omega
   ·intro H;have I:B.bk<0:=H;obtain⟨J,K,i0,P,gf,gg,gj,gC⟩:=c.cU d;obtain⟨gE,gF,i1,gL,g1,hu,hE,hS⟩:=g.cU I;subst P;subst gL;refine⟨J++gE++[⟨x.af.bn,0,⟨#[]⟩,0⟩],.eH x.af.bn K gF,M B.aC,rfl,?_,?_,.rq q gj hE,?_⟩
    ·show((gU ah x.c).cU.map _)=_;rw[g1,show x.c.cU=x.cU from rfl,gf,vx,vx,ke]
    ·rw[y];exact Ad (n8 _ q) (gg.cE (N.aC.trans g.aC)) hu 0
    ·exact(gC.C (hS.B (k3 A))).C (eM.kS qI (aN _))
  ·have j:x.bx gz=x.P:=by unfold aA.bx;rw[aH f]
   rw[j];obtain⟨N,t⟩:=o5 c.cf;refine⟨0,b.c8,.yS m p ?_,(c.toij.trans N).trans (xn N.cf t ?_),?_,λh=>T⟩
   ·by_cases d:b.bk<0
    ·rw[<-Ev c.cf d];simp[f]
    ·simp[d]
   ·exact AU i _ _ (N.cf.hS t)
   ·have e:b.c8.aC=b.aC:=by unfold au.c8;split<;>rfl
    have k:b.c8.al=b.al:=yF;rw[e,k];exact c.fk
 ·exact AT (y8 i) h T
theorem Kw(a:j6 ah)(c:l6 5 false ah W):l6 1 true (nW ah) W:=
 w2 T (y8 a) (MJ a c) Be (λ_ _ h d=>Jx h d) av (λb=>.qG (by simp at b⊢;simp[b]))
theorem PG(a:j6 ah)(c:l6 5 false ah W):l6 0 true (jS (nW ah) [iI]) W:=
 w2 T (LY a) (Kw a c) DY (λ_ _ h d=>N6 h d) av (λb=>.qG (by simp at b⊢;simp[b]))
theorem rZ(ae:au):ae.c8.aC=ae.aC/\ae.c8.al=ae.al:=by unfold au.c8;split<;>exact⟨rfl,rfl⟩
theorem Cg(ae:au)(Y:ByteArray):(ae.c5 Y).aC=ae.aC:=by unfold au.c5;split;rfl;exact(rZ ae).1
theorem vq(h:0<=ae.bk):ae.c8=ae:=by unfold au.c8;rw[aH T]
theorem AY(h:0<=ae.bk)(Y:ByteArray):ae.c5 Y=ae:=by
 have:¬ae.f Y=true:=by unfold au.f;simp;omega
 unfold au.c5;rw[aH this];exact vq h
theorem Ch(h:dP a ae)(g:ae.bk<0)(D:2<=M a.a7)(name:ByteArray)(e:Nat)(m:ae.af.ao≠1)(o:ae.f ⟨#[45]⟩=false)(p:ae.f ⟨#[40]⟩=false)
 (q:ae.x=ae.g.c5 ⟨#[46]⟩)(r:ae.j4=name)(s:name.toList≠[]->e=a.af.aX):∃t k,e9 .ah ae t k/\ss false a ae t (jy a name e) k:=by
 obtain⟨N,gf,gg⟩:=l4 h g D;have b:=tR N.cf (Y:=g6) bJ;have E:ae.g.c5 g6=ae.x:=q.symm;unfold jy;generalize F:a.c.bx [g6]=w at*;rw[E]at b;have v:=N.trans b;have i:ae.x.aC=ae.aC:=by rw[q];exact Cg _ _
 have j:=b.cf.b8;have u:=b.al;have gj:ae.g.al=ae.al+1:=rfl;have x:M ae.x.aC<=100000:=by have:=j.aC;have:=j.cY;have:=j.aT;omega
 have y:(ae.af.a1:Int)=a.af.aX:=by rw[k5];exact congrArg Int.ofNat (h.g2 g).aX.symm
 by_cases c:w.m fz=true
 ·have f:=B4 b.cf BX c;obtain⟨G,z,H⟩:=B1 b.cf f BX c;obtain⟨d,gC,gE⟩:=l4 b.cf f H;have l:w.bx fz=w.c:=by unfold aA.bx;rw[aP c]
  have I:w.I fz=w.af.bn:=by unfold aA.I;rw[aP c]
  rw[l,I];have gF:M ae.aC<=2*ae.al:=h.b8.aC;have J:=vJ d.cf ⟨⟨#[102]⟩,0,0,0,ae.j4,ae.x.af.a8,ae.af.a1⟩ ⟨w.af.bn,0,name,e⟩ (by show(M ae.x.aC)+1<=2*(ae.x.al+1);rw[i];omega);refine⟨_,_,.wD g m o p (by rw[<-C6 b.cf f];exact c) f x,(v.trans d).trans J,?_,?_⟩
  ·simp only[au.gC,bV,dT,d5];show(M ae.x.aC)+1+2*ae.al<=M ae.aC+2*(ae.x.al+1);rw[i];omega
  ·intro _;refine⟨[⟨w.af.bn,0,name,e⟩],.f2 name w.af.bn a.af.aX,M ae.x.aC,rfl,?_,?_,.f2 G s,?_⟩
   ·show w.cU.map _=_;have:w.cU=a.cU:=by rw[<-F];unfold aA.bx;split<;>rfl
    rw[this]
   ·have:=fl.f2 (aC:=ae.x.aC++[⟨⟨#[102]⟩,0,0,0,ae.j4,ae.x.af.a8,ae.af.a1⟩]) (al:=M ae.x.aC) (bb:=⟨⟨#[102]⟩,0,0,0,ae.j4,ae.x.af.a8,ae.af.a1⟩) av (by kernel_rfl) (by show(0:Int)<=(ae.af.a1:Int);omega);simp only[r,z,y]at this;simp only[r,z,y];exact this
   ·have gL:=b.cF f;show eM a.af.aX w.c.af.aX _;unfold eM;have A:a.af.aX<w.c.af.aX:=T;split
    ·exact k3 A
    ·rename_i K;rw[s K];exact⟨aN _,A⟩
 ·have l:w.bx fz=w.P:=by unfold aA.bx;rw[aH c]
  rw[l];obtain⟨d,B⟩:=o5 b.cf;have P:ij w.P ae.x.c8 (w.P.aO ⟨w.I fz,0,name,e⟩) ae.x.c8:=xn d.cf B (d.cf.hS B);refine⟨0,ae.x.c8,.uR g m o p ?_ x,(v.trans d).trans P,?_,λh=>T⟩
  ·by_cases C:ae.x.bk<0
   ·rw[<-C6 b.cf C];simp[c]
   ·simp[C]
  ·rw[(rZ _).1,(rZ _).2,i];omega
theorem nu(h:dP a ae)(b:Y∈dd)(c:a.af.bH Y=r):ae.f Y=r:=by rw[<-h.bH b];exact c
theorem RK(W:Nat):l6 5 false (dS W) W:=by
 induction W with
 |zero=>intro a ae h kr;have:=h.a1;omega
 |succ W i0=>
  intro a ae h kr;by_cases f:ae.bk<0
  ·suffices kx:∃A k,e9 .ah ae A k/\ss false a ae A (dS (W+1) a) k by
    obtain⟨A,k,p,c⟩:=kx;exact⟨A,k,.w0 f p,c⟩
   have g:=h.b8;have G:=h.g2 f;have H:=G.bp;rw[<-k5]at H;have I:M ae.b9<=10000:=by have:=g.b9;have:=g.cY;have:=g.aT;omega
   have i1:M ae.aC<=100000:=by have:=g.aC;have:=g.cY;have:=g.aT;omega
   unfold dS;by_cases q:a.af.ao=2
   ·rw[aP q];have i2:=tZ h 0 999999999;rw[show((0:Nat):Int)=0 from rfl,show((999999999:Nat):Int)=999999999 from rfl]at i2;obtain⟨N,jt,o,jW⟩:=i2;have j4:=o.2 q;have e:ae.bp 0 999999999={ae with al:=ae.al+1,b9:=ae.b9++[ae.af],b6:=ae.b6++[0],cc:=ae.cc++[999999999]}:=by unfold au.bp;rw[aP j4]
    have k1:=vJ N.cf ⟨⟨#[110]⟩,0,0,ae.af.n,cD,cD,0⟩ ⟨pT,a.k,⟨#[]⟩,0⟩ (by rw[e];show(M ae.aC)+1<=2*(ae.al+1);have:=g.aC;omega);refine⟨_,_,.wR f (H.1.1 q) I (by rw[g.b6];exact I) (by rw[g.cc];exact I) i1,N.trans k1,?_,?_⟩
    ·rw[e];simp only[au.gC,bV,dT,d5];omega
    ·intro _;have k7:a.k=ae.af.n:=by unfold au.k at jt;rw[aP j4]at jt;omega
     refine⟨[⟨pT,a.k,⟨#[]⟩,0⟩],.bp (a.k:Nat),M ae.aC,rfl,?_,?_,.bp _,?_⟩
     ·show(a.bp 0 999999999).cU.map _=_;have:(a.bp 0 999999999).cU=a.cU:=by unfold aA.bp;split<;>rfl
      rw[this]
     ·have:=fl.bp (aC:=ae.aC++[⟨⟨#[110]⟩,0,0,ae.af.n,cD,cD,0⟩]) (al:=M ae.aC) (bb:=⟨⟨#[110]⟩,0,0,ae.af.n,cD,cD,0⟩) av (by kernel_rfl);rw[e,k7];exact this
     ·refine eM.kS qI ?_;have lo:=N.cF (by rw[e];exact f);exact lo.2
   ·rw[aH q];by_cases B:a.af.bH gM=true
    ·rw[aP B];have s:=nu h (Y:=gM) bJ B;obtain⟨N,J,K,jW,l8⟩:=Br h (Y:=gM) bJ s;obtain⟨r,b,p,c⟩:=i0 a.p (ae.g.B ae.af.a1) J T;have t:b.bz=ae.bz+1:=c.bz.trans K;have P:=x1 c.cf t;have gf:=c.fk;have gg:=c.al;have v:(ae.g.B ae.af.a1).al=ae.al+1:=rfl;have gj:(ae.g.B ae.af.a1).aC=ae.aC:=rfl;rw[v,gj]at gf;rw[v]at gg;have nG:=g.aC;have j9:=vJ P ⟨⟨#[110]⟩,0,0,0,cD,cD,0⟩ ⟨nS,0,⟨#[]⟩,0⟩ (by show(M b.aC)+1<=2*b.al;omega);have me:dP ((dS W a.p).J.aO ⟨nS,0,⟨#[]⟩,0⟩) (({b with bz:=ae.bz}.gC ⟨⟨#[110]⟩,0,0,0,cD,cD,0⟩).gC ⟨⟨#[45]⟩,M b.aC,r,0,cD,cD,0⟩):=by have i:=j9.cf.b8;exact⟨⟨by simp only[au.gC,bV,dT,d5];omega,i.b9,i.b6,i.cc,i.bz,i.aT,i.ej,i.cY⟩,j9.cf.hC⟩
     have gC:=c.cf.b8;refine⟨_,_,.xL f s T p t T (by have:=gC.aC;have:=gC.cY;have:=gC.aT;omega),⟨⟨?_,?_,c.aj,c.aT,by show ae.al<=b.al;omega,c.bd,c.aZ,?_⟩,me,rfl⟩,?_,?_⟩
     ·exact bS c.bX (bS (k3 T) (aN _))
     ·simp only[au.gC];exact(c.aC.trans (oG _ _)).trans (oG _ _)
     ·intro j;have w:=c.cF j;have l:=N.cF w.1;exact⟨f,bS l.2 w.2⟩
     ·simp only[au.gC,bV,dT,d5];omega
     ·intro j;have x:b.bk<0:=j;obtain⟨gE,C,gF,gL,g1,hu,hE,hS⟩:=c.cU x;subst gL;have l:=N.cF (c.cF x).1;refine⟨gE++[⟨nS,0,⟨#[]⟩,0⟩],.eH gM (.bp 0) C,M b.aC+1,av,?_,?_,.s4 hE,?_⟩
      ·show(dS W a.p).cU.map _=_;rw[g1,show a.p.cU=a.cU from rfl,vx]
      ·have mn:fl (b.aC++[⟨⟨#[110]⟩,0,0,0,cD,cD,0⟩]) (M b.aC) (.bp 0):=fl.bp (bb:=⟨⟨#[110]⟩,0,0,0,cD,cD,0⟩) av (by kernel_rfl);have mO:fl (b.aC++[⟨⟨#[110]⟩,0,0,0,cD,cD,0⟩]) gF C:=hu.cE (oG _ _);have:=Ad (cj:=gM) av mn mO 0;simp only[bV,dT,d5]at this;exact this
      ·exact(hS.B l.2).C (eM.kS qI (aN _))
    ·rw[aH B];have hV:=nu h (Y:=gM) bJ (j3.2 B);by_cases D:a.af.bH hk=true
     ·rw[aP D];have s:=nu h (Y:=hk) bJ D;obtain⟨N,J,K,jW,l8⟩:=Br h (Y:=hk) bJ s;obtain⟨oa,b,p,c⟩:=Ef (zm W) i0 a.p (ae.g.B ae.af.a1) J T;have t:b.bz=ae.bz+1:=c.bz.trans K;have P:=x1 c.cf t;have d:=tR P (Y:=d9) bJ;have mR:(gU (dS W) a.p).J.bx [d9]=((gU (dS W) a.p).bx [d9]).J:=by unfold aA.bx;have:(gU (dS W) a.p).J.m [d9]=(gU (dS W) a.p).m [d9]:=rfl;rw[this];split<;>rfl
      rw[mR]at d;have gf:=c.fk;have v:(ae.g.B ae.af.a1).al=ae.al+1:=rfl;have gj:(ae.g.B ae.af.a1).aC=ae.aC:=rfl;have gg:=c.al;rw[v,gj]at gf;rw[v]at gg;have mY:(({b with bz:=ae.bz}:au).c5 d9).aC=b.aC:=Cg _ _;have m5:=d.al;have ne:({b with bz:=ae.bz}:au).al=b.al:=rfl;rw[ne]at m5;refine⟨_,_,.yc f s T p t T,⟨⟨?_,?_,d.aj.trans c.aj,d.aT.trans c.aT,?_,d.bd.trans c.bd,d.aZ.trans c.aZ,?_⟩,d.cf,d.bz⟩,?_,?_⟩
      ·exact bS d.bX (bS c.bX T)
      ·exact c.aC.trans d.aC
      ·show ae.al<=(({b with bz:=ae.bz}:au).c5 d9).al;omega
      ·intro j;have y:=d.cF j;have w:=c.cF y.1;have l:=N.cF w.1;exact⟨f,bS l.2 (bS w.2 y.2)⟩
      ·show(M (({b with bz:=ae.bz}:au).c5 d9).aC)+2*ae.al<=M ae.aC+2*(({b with bz:=ae.bz}:au).c5 d9).al;rw[mY];omega
      ·intro j;have y:=d.cF j;have x:b.bk<0:=y.1;obtain⟨gE,C,gF,gL,g1,hu,hE,hS⟩:=c.cU x;have l:=N.cF (c.cF x).1;refine⟨gE,C,gF,gL,?_,?_,hE,?_⟩
       ·have:((gU (dS W) a.p).bx [d9]).J.cU=(gU (dS W) a.p).cU:=by unfold aA.bx;split<;>rfl
        rw[this,g1];rfl
       ·exact hu.cE d.aC
       ·have:=(hS.B l.2).C (qd:=[]) (show eM _ (((gU (dS W) a.p).bx [d9]).J).af.aX []from y.2);rw[jN]at this;exact this
     ·rw[aH D];have hZ:=nu h (Y:=hk) bJ (j3.2 D);have ih:ae.af.ao≠1:=λe=>q (H.1.2 e)
      have E:=G.name;rw[<-k5]at E;by_cases z:a.af.ao=3
      ·rw[aP z];obtain⟨iR,nB⟩:=E.2 z;have o:=E.1.1 z;have F:ae.G=true:=by unfold au.G;rw[o];simp[f]
       have m:ae.f ⟨#[105,116]⟩=false:=by unfold bN.G at o;rw[hh,lq]at o;have:=o.2 ⟨#[105,116]⟩ (by simp[lH]);unfold au.f bN.f;simp only[y_]at this;rw[this];simp
       refine Ch h f iR _ _ ih hV hZ ?_ ?_ (λ_=>rfl)
       ·unfold au.x au.hE;rw[aH (by rw[m];decide),aP F];rfl
       ·unfold au.j4 au.gL;rw[aH (by rw[m];decide),aP F];exact nB
      ·rw[aH z];by_cases u:a.af.bH pb=true
       ·rw[aP u];have m:ae.f ⟨#[105,116]⟩=true:=nu h (Y:=pb) bJ u;have iR:=G.oS (Y:=pb) bJ u;refine Ch h f iR _ _ ih hV hZ ?_ ?_ (λe=>absurd qI e)
        ·unfold au.x;rw[aP m]
        ·unfold au.j4;rw[aP m];rfl
       ·rw[aH u];have m:=nu h (Y:=pb) bJ (j3.2 u);have F:¬ae.G=true:=by unfold au.G;rw[hh];exactλe=>z (E.1.2 e.1)
        obtain⟨N,kp⟩:=o5 h;have iU:ae.x=ae.c8:=by unfold au.x au.hE;rw[aH (by rw[show ae.f ⟨#[105,116]⟩=false from m];decide),aH F,AY kp]
        have iZ:ae.x.c8=ae.c8:=by rw[iU,vq kp]
        refine⟨0,ae.x.c8,.uR f ih hV hZ ?_ ?_,by rw[iZ];exact N,?_,λh=>by rw[iZ]at h;omega⟩
        ·rw[iU];have:decide (ae.c8.bk<0)=false:=by simp only[tU];omega
         rw[this];simp
        ·rw[iU,(rZ ae).1];exact i1
        ·rw[iZ,(rZ ae).1,(rZ ae).2];omega
  ·exact AT (zm (W+1)) h T
def ph(c:au):Prop:=M c.b6=M c.b9/\M c.cc=M c.b9
def c6(c d:au):Prop:=ph c->ph d/\(eo d=none->eo c=none)
theorem c6.l(ae:au):c6 ae ae:=λh=>⟨h,id⟩
theorem c6.trans{a r b:au}(h:c6 a r)(Y:c6 r b):c6 a b:=λo=>⟨(Y (h o).1).1,λc=>(h o).2 ((Y (h o).1).2 c)⟩
theorem c6.d(a:k.b9=ae.b9)(b:k.b6=ae.b6)(c:k.cc=ae.cc):c6 ae k:=by intro h;unfold ph eo at*;rw[a,b,c];exact⟨h,id⟩
theorem sI(ae:au):c6 ae ae.c8:=by unfold au.c8;split<;>exact c6.d rfl rfl rfl
theorem uG(ae:au)(Y:ByteArray):c6 ae (ae.c5 Y):=by
 unfold au.c5;split
 ·exact c6.d rfl rfl rfl
 ·exact sI ae
theorem HA(ae:au):c6 ae ae.hE:=by
 unfold au.hE;split
 ·exact c6.d rfl rfl rfl
 ·exact sI ae
theorem Dn(b:ph ae)(c:bN)(y u:Int)(k:au)(d:k.b9=ae.b9++[c])(e:k.b6=ae.b6++[y])(f:k.cc=ae.cc++[u]):
 eo k=(eo ae).or (if(c.n:Int)<y\/u<(c.n:Int)then some c.a1 else none):=by
 unfold eo;rw[d,e,f,sn (by rw[b.1,b.2]),sn (by rw[jT,b.1,b.2];simp),xq];cases(ae.b9.zip (ae.b6.zip ae.cc)).find? λa=>decide ((a.1.n:Int)<a.2.1\/a.2.2<(a.1.n:Int))with
 |some a=>simp
 |none=>simp[uC];split<;>simp_all
theorem xT(ae:au)(y u:Int):c6 ae (ae.bp y u):=by
 unfold au.bp;split
 ·intro h;refine⟨⟨by simp[h.1],by simp[h.2]⟩,λa=>?_⟩;rw[Dn h ae.af y u _ rfl rfl rfl]at a;cases e:eo ae with
  |none=>rfl
  |some b=>rw[e]at a;simp at a
 ·exact sI ae
theorem Sl(c:ph ae){y u:Int}(b:ae.iU=true)(a:eo (ae.bp y u)=none):y<=ae.k/\ae.k<=u:=by
 unfold au.bp at a;rw[aP b,Dn c ae.af y u _ rfl rfl rfl]at a;unfold au.k;rw[aP b];cases e:eo ae with
 |some d=>rw[e]at a;simp at a
 |none=>
  rw[e]at a;simp only[G5]at a;split at a
  ·cases a
  ·omega
theorem e9.TJ{e:uL}{a D:au}{f:Int}(h:e9 e a f D):c6 a D:=by
 induction h with
 |x3 _=>exact c6.l _
 |w0 _ _ b=>exact b
 |yS _ _ _ b=>exact b.trans (sI _)
 |wO _ _ _ _ _ _ c d=>exact(c.trans (c6.d rfl rfl rfl)).trans (d.trans (c6.d rfl rfl rfl))
 |xD _ _ _ _ c d=>exact c.trans d
 |wF _=>exact c6.l _
 |yf _ _ _ _ _ c d=>exact((c6.d rfl rfl rfl:c6 _ _).trans c).trans ((c6.d rfl rfl rfl:c6 _ _).trans d)
 |wR _ _ _ _ _ _=>exact(xT _ _ _).trans (c6.d rfl rfl rfl)
 |xL _ _ _ _ _ _ _ b=>exact((c6.d rfl rfl rfl:c6 _ _).trans b).trans (c6.d rfl rfl rfl)
 |yc _ _ _ _ _ _ b=>refine c6.trans ?_ (uG _ _);exact((c6.d rfl rfl rfl:c6 _ _).trans b).trans (c6.d rfl rfl rfl)
 |uR _ _ _ _ _ _=>
  refine c6.trans ?_ (sI _);unfold au.x;refine c6.trans ?_ (uG _ _);split
  ·exact c6.d rfl rfl rfl
  ·exact HA _
 |wD _ _ _ _ _ _ _=>
  refine c6.trans ?_ (c6.d rfl rfl rfl:c6 _ _);unfold au.x;refine c6.trans ?_ (uG _ _);split
  ·exact c6.d rfl rfl rfl
  ·exact HA _
def tb(g:List eV)(c:Int)(d:List c0):Prop:=(c= -1/\d=[])\/∃(e:Nat) (f:cH),c=e/\fl g e f/\fu true f d
theorem tb.cE{a:Int}{b:List c0}(h:tb E a b)(c:E<+:F):tb F a b:=by
 rcases h with h|⟨Y,d,e,f,g⟩
 ·exact .inl h
 ·exact .inr ⟨Y,d,e,f.cE c,g⟩
def h7(h:Nat->aB->Prop)(c:List Nat)(d:List aB):Prop:=M c=M d/\∀(e f:Nat) (g:aB),c[e]?=some f->d[e]?=some g->h f g
def kN(h:Nat->aB->Prop)(c:List (List Nat))(d:List (List aB)):Prop:=M c=M d/\∀(e:Nat) (f:List Nat) (g:List aB),c[e]?=some f->d[e]?=some g->h7 h f g
theorem h7.cL(a:Nat->aB->Prop):h7 a [] []:=⟨rfl,λj b c h=>by simp at h⟩
theorem h7.kp{c:Nat->aB->Prop}(h:h7 c o A){d:Nat}{e:aB}(g:c d e):h7 c (o++[d]) (A++[e]):=by
 refine⟨by simp[h.1],λj i k a b=>?_⟩;by_cases u:j<M o
 ·rw[ms u]at a;rw[ms (by rw[<-h.1];exact u)]at b;exact h.2 j i k a b
 ·rw[qs T]at a;rw[qs (by rw[<-h.1];omega),<-h.1]at b;cases f:j-(M o)with
  |zero=>rw[f]at a b;simp at a b;subst a;subst b;exact g
  |succ Y=>rw[f]at a;simp at a
theorem h7.me{c d:Nat->aB->Prop}(h:h7 c o A)(e:∀a b,c a b->d a b):h7 d o A:=⟨h.1,λj a b f g=>e a b (h.2 j a b f g)⟩
theorem kN.cL(a:Nat->aB->Prop):kN a [] []:=⟨rfl,λj b c h=>by simp at h⟩
theorem kN.kp{c:Nat->aB->Prop}{o:List (List Nat)}{A:List (List aB)}(h:kN c o A){d:List Nat}{e:List aB}(g:h7 c d e):kN c (o++[d]) (A++[e]):=by
 refine⟨by simp[h.1],λj i k a b=>?_⟩;by_cases u:j<M o
 ·rw[ms u]at a;rw[ms (by rw[<-h.1];exact u)]at b;exact h.2 j i k a b
 ·rw[qs T]at a;rw[qs (by rw[<-h.1];omega),<-h.1]at b;cases f:j-(M o)with
  |zero=>rw[f]at a b;simp at a b;subst a;subst b;exact g
  |succ Y=>rw[f]at a;simp at a
theorem kN.me{c d:Nat->aB->Prop}{o:List (List Nat)}{A:List (List aB)}(h:kN c o A)(e:∀a b,c a b->d a b):kN d o A:=⟨h.1,λj a b f g=>(h.2 j a b f g).me e⟩
structure sF (aC:List eV) (bb:cA) (ai:aB):Prop where
 br:bb.br=[]
 cv:ai.cv=[]
 a1:bb.a1=ai.aX
 ao:bb.ao=ai.ao
 name:bb.name=ai.name
 bB:tb aC bb.bB ai.bB
 cU:∃cc,eM (ai.aX+1) cc ai.bB
 bX:ai.bB.length<=2000
 hC:(bb.en=true/\ai.name.toList=[]/\ai.bG=0/\bb.bG=1)\/(bb.en=false/\ai.name.toList≠[]/\bb.bG=ai.bG)
def fB(e:List eV)(f:List cA):Nat->Nat->aB->Prop
 |0,_,_=>False
 |g+1,h,d=>∃c,f[h]?=some c/\(sF e c d\/(c.en=false/\d.name.toList=[]/\2<=M c.br/\kN (fB e f g) c.br d.cv))
theorem ME{bD:Type}{o a:List bD}(d:o<+:a){b:bD}(c:o[j]?=some b):a[j]?=some b:=by obtain⟨e,rfl⟩:=d;obtain⟨u,rfl⟩:=jX.1 c;rw[ms u];exact c
theorem fB.cE{c d:List cA}(e:E<+:F)(f:c<+:d):∀(W a:Nat) (b:aB),fB E c W a b->fB F d W a b:=by
 intro W
 induction W with
 |zero=>intro a b h;exact h.elim
 |succ W g=>
  rintro a b ⟨i,j,h⟩;refine⟨i,ME f j,?_⟩;rcases h with h|⟨k,l,m,o⟩
  ·exact .inl ⟨h.br,h.cv,h.a1,h.ao,h.name,h.bB.cE e,h.cU,h.bX,h.hC⟩
  ·exact .inr ⟨k,l,m,o.me g⟩
def cH.jW:cH->List Int
 |.bp _=>[]
 |.f2 name _ c=>if name.toList=[]then []else [c]
 |.eH _ d e=>d.jW++e.jW
theorem eM.tI{o d:List c0}(h:eM y u (o++d)):∃a,eM y a o/\eM a u d:=by
 induction o generalizing y with
 |nil=>exact⟨y,aN _,h⟩
 |cons g o f=>
  rw[nH]at h;unfold eM at h;split at h
  ·rename_i e;obtain⟨a,b,c⟩:=f h;exact⟨a,by unfold eM;rw[aP e];exact b,c⟩
  ·rename_i e;obtain⟨a,b,c⟩:=f h.2;exact⟨a,by unfold eM;rw[aH e];exact⟨h.1,b⟩,c⟩
theorem fu.jW{i:cH}{o:List c0}(h:fu r i o):∀{y u:Nat},eM y u o->∀b∈i.jW,(y:Int)<=b/\b<u:=by
 induction h with
 |bp W=>intro y u _ b a;simp[cH.jW]at a
 |@f2 name z A s B t=>
  intro y u c b a;unfold cH.jW at a;unfold eM at c;split at a
  ·simp at a
  ·rename_i j;simp only at c;rw[aH j]at c;have d:s+1<=u:=c.2;have:=t j;simp only[dB]at a;subst a;omega
 |s4 h v=>intro y u c b a;obtain⟨w,e,d⟩:=c.tI;have x:=d.b0;simp only[cH.jW,fa]at a;have:=v e b a;omega
 |r9 k l m f g|rq k l m f g|qG k l m f g=>
  intro y u c b a;obtain⟨w,e,d⟩:=c.tI;obtain⟨C,p,q⟩:=e.tI;have x:=d.b0;have D:=p.b0;have E:=q.b0;simp only[cH.jW,dm]at a;rcases a with a|a
  ·have:=f p b a;omega
  ·have:=g q b a;omega
structure fe (ae:au) (cc:Nat):Prop where
 am:∀(al:Nat) (bb:cA),ae.aj[al]?=some bb->∀Z∈bb.br,∀dV∈Z,dV<al
 bG:eo ae=none->∀bb∈ae.aj,0<=bb.bG/\bb.bG<=4
 gt:∀bb∈ae.aj,bb.br.length<=1000/\∀Z∈bb.br,1<=Z.length/\Z.length<=1000
 yk:∀(al dV:Nat) (bb nK:cA),ae.aj[al]?=some bb->ae.aj[dV]?=some nK->bb.br=[]->nK.br=[]->al<dV->bb.a1<nK.a1
 zu:∀bb∈ae.aj,bb.br=[]->bb.a1<cc
 yZ:∀(al:Nat) (bb:cA),ae.aj[al]?=some bb->bb.br=[]->bb.bB= -1\/∃(Y:Nat) (aG:cH),bb.bB=Y/\fl ae.aC Y aG/\∀bu∈aG.jW,bb.a1<bu/\bu<cc/\∀(dV:Nat) (nK:cA),al<dV->ae.aj[dV]?=some nK->nK.br=[]->bu<nK.a1
theorem fe.q(h:fe ae y)(a:k.aj=ae.aj)(m:ae.aC<+:k.aC)(v:y<=u)(o:eo k=none->eo ae=none):fe k u:=by
 refine⟨by rw[a];exact h.am,λp=>by rw[a];exact h.bG (o p),by rw[a];exact h.gt,by rw[a];exact h.yk,λc b d=>?_,λj c b d=>?_⟩
 ·rw[a]at b;have:=h.zu c b d;omega
 ·rw[a]at b⊢;rcases h.yZ j c b d with e|⟨Y,r,s,t,f⟩
  ·exact .inl e
  ·exact .inr ⟨Y,r,s,t.cE m,λi l=>⟨(f i l).1,by have:=(f i l).2.1;omega,(f i l).2.2⟩⟩
theorem u_{bD:Type}{o:List bD}{b a:bD}(h:(o++[b])[j]?=some a):o[j]?=some a\/(j=M o/\a=b):=by
 by_cases u:j<M o
 ·rw[ms u]at h;exact .inl h
 ·rw[qs T]at h;cases c:j-(M o)with
  |zero=>rw[c]at h;simp at h;exact .inr ⟨T,h.symm⟩
  |succ Y=>rw[c]at h;simp at h
theorem fe.ki(h:fe ae y)(b:cA)(l:k.aj=ae.aj++[b])(H:ae.aC<+:k.aC)(P:y<=u)(I:eo k=none->eo ae=none)(w:∀o∈b.br,∀s∈o,s<M ae.aj)(x:eo k=none->0<=b.bG/\b.bG<=4)(f:M b.br<=1000/\∀o∈b.br,1<=M o/\M o<=1000)(C:b.br=[]->(y:Int)<=b.a1/\b.a1<u)
 (J:b.br=[]->b.bB= -1\/∃(Y:Nat) (t:cH),b.bB=Y/\fl k.aC Y t/\∀d∈t.jW,b.a1<d/\d<u):fe k u:=by
 refine⟨?_,?_,?_,?_,?_,?_⟩
 ·intro j c a;rw[l]at a;rcases u_ a with a|⟨rfl,rfl⟩
  ·exact h.am j c a
  ·exact w
 ·intro F c a;rw[l]at a;rcases dm.1 a with a|a
  ·exact h.bG (I F) c a
  ·simp at a;subst a;exact x F
 ·intro c a;rw[l]at a;rcases dm.1 a with a|a
  ·exact h.gt c a
  ·simp at a;subst a;exact f
 ·intro j s c z a i G m A;rw[l]at a i;have gf:j<M ae.aj:=by obtain⟨D,_⟩:=jX.1 i;simp at D;omega
  rcases u_ a with B|⟨e,_⟩
  ·rcases u_ i with E|⟨_,e⟩
   ·exact h.yk j s c z B E G m A
   ·have gg:=h.zu c (m1 B) G;rw[e]at m⊢;have r:=(C m).1;omega
  ·omega
 ·intro c a v;rw[l]at a;rcases dm.1 a with a|a
  ·have:=h.zu c a v;omega
  ·simp at a;subst a;exact(C v).2
 ·intro j c a v;rw[l]at a;rcases u_ a with B|⟨e,K⟩
  ·rcases h.yZ j c B v with e|⟨Y,t,w,x,f⟩
   ·exact .inl e
   ·refine .inr ⟨Y,t,w,x.cE H,λd p=>⟨(f d p).1,by have:=(f d p).2.1;omega,λs z A i m=>?_⟩⟩;rw[l]at i;rcases u_ i with E|⟨_,e⟩
    ·exact(f d p).2.2 s z A E m
    ·rw[e]at m⊢;have:=(C m).1;have:=(f d p).2.1;omega
  ·rw[K]at v⊢;rcases J v with e|⟨Y,t,w,x,f⟩
   ·exact .inl e
   ·refine .inr ⟨Y,t,w,x,λd p=>⟨(f d p).1,(f d p).2,λs z A i m=>?_⟩⟩;rw[l]at i;obtain⟨D,_⟩:=jX.1 i;simp at D;omega
structure iN (V:aA) (ae:au) (bW:aA) (gA:au):Prop where
 bX:bW.a7.length<=V.a7.length
 aC:ae.aC<+:gA.aC
 aj:ae.aj<+:gA.aj
 aT:gA.aT=ae.aT
 al:ae.al<=gA.al
 bd:gA.bd=ae.bd
 aZ:gA.aZ=ae.aZ
 cF:gA.bk<0->ae.bk<0/\V.af.aX<=bW.af.aX
 eo:c6 ae gA
 cf:dP bW gA
 bz:gA.bz=ae.bz
 fk:gA.aj.length+ae.al<=ae.aj.length+gA.al+1
theorem lj.t8(h:lj ae):ph ae:=⟨h.b6,h.cc⟩
theorem fg.BN{o:List co}:∀{d:List bN},fg o d->dw o/\M o<=M d:=by
 induction o with
 |nil=>intro d h;exact absurd h.bX.1 av
 |cons b o f=>
  intro d h;cases o with
  |nil=>
   rcases h.m5 with⟨_,_,a,c⟩|⟨c,_⟩
   ·refine⟨⟨?_,c⟩,h.bX.2⟩;change (b.ao=1/\_)\/(b.ao=0/\_)at a;omega
   ·simp at c
  |cons j o=>
   rcases h.m5 with⟨a,_⟩|⟨_,⟨_,a⟩,_,c⟩
   ·simp at a
   ·have k:=h.bX.2;obtain⟨g,r⟩:=f c;refine⟨⟨?_,g⟩,by simp only[List.tail_cons,wA,dT]at r⊢;omega⟩;change (b.ao=2/\_/\_/\mF b.bn)\/(b.ao=3/\_)\/(b.ao=4/\_)\/(b.ao=5/\_)at a;rcases a with⟨a,_,_,i⟩|⟨a,_⟩|⟨a,_⟩|⟨a,_⟩
    ·exact⟨T,λ_=>i⟩
    all_goals exact⟨T,λe=>T⟩
theorem LV(h:dP a ae)(B:M a.a7<=W):∃(d:Int) (k:au),((ae.f gW=false/\d= -1/\k=ae)\/(ae.f gW=true/\e9 (.dV 0) ae.g d k))/\ij a ae (el W a) k/\c6 ae k/\
 (k.bk<0->tb k.aC d (el W a).gg/\eM a.af.aX (el W a).af.aX (el W a).gg/\M (el W a).gg<=2000):=by
 unfold el;rw[p3,h.bH (Y:=kd) bJ];by_cases c:ae.f kd=true
 ·rw[aP c];have f:=rT c;obtain⟨N,j,C⟩:=l4 h f ((h.g2 f).oS (Y:=kd) bJ (by rw[<-h.bH (Y:=kd) bJ]at c;exact c));have m:dP {a.c with cU:=some []} ae.g:=⟨N.cf.b8,N.cf.hC⟩;obtain⟨d,k,l,b⟩:=PG (zm W) (RK W) {a.c with cU:=some []} ae.g m (by show a.c.a7.length<=W;omega);refine⟨d,k,.inr ⟨c,l⟩,⟨⟨bS b.bX (by show a.c.a7.length<=_;omega),b.aC,b.aj,b.aT,bS N.al b.al,b.bd,b.aZ,λi=>⟨f,bS (k3 j) (b.cF i).2⟩⟩,b.cf,b.bz⟩,(c6.d rfl rfl rfl:c6 ae ae.g).trans l.TJ,λi=>?_⟩;obtain⟨o,p,Y,q,r,s,t,u⟩:=b.cU i;have e:(jS (nW (dS W)) [iI] {a.c with cU:=some []}).gg=o:=by unfold aA.gg;rw[r];rfl
  rw[e];refine⟨.inr ⟨Y,p,q,s,t⟩,u.B (k3 j),?_⟩;obtain⟨v,w⟩:=(N.cf.g2 f).BN;have x:=N.cf.b8;rw[la]at w;have y:=vU (zw (r_ W)) T (bK:=[iI]) bJ {a.c with cU:=some []} v (by show a.c.a7.length<=W;omega);have g:=y.dL;unfold aA.dL at g;rw[e]at g;have z:({a.c with cU:=some []}:aA).gg=[]:=rfl;have A:({a.c with cU:=some []}:aA).a7=a.c.a7:=rfl;rw[z,A]at g;have:=x.aT;simp only[d5]at g;omega
 ·rw[aH c];refine⟨-1,ae,.inl ⟨j3.2 c,rfl,rfl⟩,⟨⟨aN _,rO _,rfl,rfl,aN _,rfl,rfl,λh=>⟨h,aN _⟩⟩,⟨h.b8,h.hC⟩,rfl⟩,c6.l _,λ_=>⟨.inl ⟨rfl,rfl⟩,aN _,by show(M ([]:List c0))<=2000;simp⟩⟩
theorem lj.hU(h:lj ae):ae.ih:=⟨by have:=h.b9;have:=h.cY;have:=h.aT;omega,by rw[h.b6];have:=h.b9;have:=h.cY;have:=h.aT;omega,by rw[h.cc];have:=h.b9;have:=h.cY;have:=h.aT;omega⟩
theorem lj.y2(h:lj ae):ae.g.ih:=⟨h.hU.b9,h.hU.b6,h.hU.cc⟩
theorem EK{o:List co}{f:List bN}(h:fg o f)(g:(o.headD default).ao=3)(d:Y∈dd)(a:Y∈lH\/ch (lF Y)=false):(o.headD default).bH Y=false:=by
 apply j3.2;intro u;have b:=(h.name.1.1 g);have i:=h.bn d u;unfold bN.G at b;rw[hh,hh,lq]at b;rcases a with a|a
 ·have:=b.2 Y a;unfold co.bH at u;rw[i,u]at this;simp at this
 ·have c:=h.hU d u;rw[a]at c;have e:=b.1.1;rw[gT]at e;rw[e]at c;simp at c
theorem DR{c:aA}(k:ae.f ⟨#[40]⟩=false)(l:lj ae.s)(m:lj ae.u)(i:ij a ae c ae.r)(q:c6 ae ae.r)(r:M c.a7<=W)(y:M ae.aj<=ae.al):
 ∃(g:Int) (b:au),eF (.ep (M ae.aj)) ae (b.l8 ⟨ae.af.a1,ae.f eO,ae.i1,ae.s.k,ae.gF,g,[]⟩)/\iN a ae (el W c).hS (b.l8 ⟨ae.af.a1,ae.f eO,ae.i1,ae.s.k,ae.gF,g,[]⟩)/\b.aj=ae.aj/\c6 ae.r b/\
  (b.bk<0->ae.r.bk<0/\c.af.aX<=(el W c).af.aX/\tb b.aC g (el W c).gg/\eM c.af.aX (el W c).af.aX (el W c).gg/\M (el W c).gg<=2000):=by
 obtain⟨g,b,s,f,o,t⟩:=LV (W:=W) i.cf r;have h:b.aj=ae.aj:=f.aj.trans i.aj;have d:=f.cf.b8;have u:=i.al;have z:=f.al;have p:M b.aj<=100000:=by rw[h];have:=d.cY;have:=d.aT;omega
 have e:=i.trans f;refine⟨g,b,?_,⟨e.bX,e.aC,?_,e.aT,e.al,e.bd,e.aZ,e.cF,(q.trans o).trans (c6.d rfl rfl rfl),⟨⟨d.aC,d.b9,d.b6,d.cc,d.bz,d.aT,d.ej,d.cY⟩,f.cf.hC⟩,e.bz,?_⟩,h,o,λj=>⟨(f.cF j).1,(f.cF j).2,t j⟩⟩
 ·rw[<-h];rcases s with⟨v,rfl,rfl⟩|⟨w,x⟩
  ·exact .yO k l.hU m.y2 v p
  ·exact .B7 k l.hU m.y2 w x p
 ·show ae.aj<+:b.aj++_;rw[h];exact oG _ _
 ·show(M (b.aj++[_]))+ae.al<=M ae.aj+b.al+1;rw[h];simp only[bV,dT,d5];omega
def As(h:Nat)(f:aA->aA×aB):Prop:=∀(c:aA) (d:au),dP c d->M c.a7<=h->M d.aj<=d.al->(d.bk<0->fe d c.af.aX)->∃(g:Nat) (e:au),eF (.ep g) d e/\iN c d (f c).1 e/\(e.bk<0->fe e (f c).1.af.aX/\g<M e.aj/\fB e.aC e.aj h g (f c).2)
theorem Ec{W:Nat}{b:au}(l:ae.f ⟨#[40]⟩=false)(m:ae.f eO=false)(o:ae.G=false)(h:b=ae.c8)(N:ij a ae D b)(e:0<=b.bk)(s:M ae.aj<=ae.al):
 ∃(p:Nat) (k:au),eF (.ep p) ae k/\iN a ae D k/\0<=k.bk:=by
 have i:ae.s=b:=by unfold au.s au.hE;rw[aH (by rw[m];decide),aH (by rw[o];decide),<-h,AY e]
 have q:b.iU=false:=by unfold au.iU;simp only[show¬b.bk<0 by omega,xx,EI]
 have j:∀Y,b.f Y=false:=λY=>by unfold au.f;simp only[show¬b.bk<0 by omega,xx,zZ]
 have f:ae.u=b:=by unfold au.u;rw[i];unfold au.bp;rw[aH (by rw[q];decide),vq e]
 have d:ae.r=b:=by
  unfold au.r;have:ae.iR=false:=by unfold au.iR;rw[f,j];simp
  rw[aH (by rw[this];decide)];exact f
 have c:=N.cf.b8;have g:b.aj=ae.aj:=N.aj;have u:=N.al;have r:M ae.r.aj<=100000:=by rw[d,g];have:=c.cY;have:=c.aT;omega
 refine⟨M ae.r.aj,_,.yO l (by rw[i];exact c.hU) (by rw[f];exact c.y2) (by rw[d];exact j _) r,?_,?_⟩
 ·rw[d];refine⟨N.bX,N.aC,?_,N.aT,N.al,N.bd,N.aZ,N.cF,?_,⟨⟨c.aC,c.b9,c.b6,c.cc,c.bz,c.aT,c.ej,c.cY⟩,N.cf.hC⟩,N.bz,?_⟩
  ·show ae.aj<+:b.aj++_;rw[g];exact oG _ _
  ·rw[h];exact(sI ae).trans (c6.d rfl rfl rfl)
  ·show(M (b.aj++[_]))+ae.al<=M ae.aj+b.al+1;rw[g];simp only[bV,dT,d5];omega
 ·rw[d];exact e
theorem QC{W:Nat}(h:dP a ae)(b:0<=ae.bk)(d:D.a7=[⟨0,ae.bk.toNat,⟨#[]⟩⟩])(e:M ae.aj<=ae.al):
 ∃(f:Nat) (k:au),eF (.ep f) ae k/\iN a ae D k/\0<=k.bk:=by
 have c:∀Y,ae.f Y=false:=λY=>by unfold au.f;simp only[show¬ae.bk<0 by omega,xx,zZ]
 have g:ae.G=false:=by unfold au.G;simp only[show¬ae.bk<0 by omega,xx,EI]
 exact Ec (W:=W) (c _) (c _) g (vq b).symm (xn h b d) b e
theorem HR(h:dP a ae)(s:ae.bk<0)(mR:M a.a7<=W+1)(hE:M ae.aj<=ae.al)(hS:fe ae a.af.aX)(o:a.af.ao=3):
 ∃(t:Nat) (k:au),eF (.ep t) ae k/\iN a ae (gS W a).1 k/\(k.bk<0->fe k (gS W a).1.af.aX/\t<M k.aj/\fB k.aC k.aj (W+1) t (gS W a).2):=by
 have m:=h.g2 s;have hV:ae.f ⟨#[40]⟩=false:=nu h (Y:=hk) bJ (EK m o bJ (.inr bf));have p:ae.f eO=false:=nu h (Y:=kK) bJ (EK m o bJ (.inl (by simp[lH,kK])));have u:=m.name;rw[<-k5]at u;obtain⟨v,hZ⟩:=u.2 o;have ih:=u.1.1 o;have F:ae.G=true:=by unfold au.G;rw[ih];simp[s]
 obtain⟨N,mY,m5⟩:=l4 h s v;have G:ae.s=ae.g.c5 dp:=by unfold au.s au.hE;rw[aH (by rw[p];decide),aP F];rfl
 have iR:ae.i1=a.af.bn:=by unfold au.i1 au.gL;rw[aH (by rw[p];decide),aP F];exact hZ
 have l:=tR N.cf (Y:=dp) bJ;rw[<-G]at l;have H:c6 ae ae.s:=by rw[G];exact(c6.d rfl rfl rfl:c6 ae ae.g).trans (uG _ _)
 unfold gS;simp only;generalize ne:a.c.bx [dp]=x at*;obtain⟨c,iU,nB,_⟩:=tZ l.cf 0 99;have iZ:ae.s.bp ((0:Nat):Int) ((99:Nat):Int)=ae.u:=rfl;rw[iZ]at c;have I:c6 ae.s ae.u:=xT _ _ _;generalize nG:x.bp 0 99=w at*;have y:w.m [hX]=ae.iR:=by rw[p3,c.cf.bH (Y:=hX) bJ];unfold au.iR;rw[p];rfl
 have i0:=(N.trans l).trans c;have oa:M w.a7<=W:=by have:=l.bX;have:=c.bX;omega
 have ba:∃i:aA,∃q:Nat,(if w.m [hX]=true then w.c.bp 1 4 else w)=i/\(if w.m [hX]=true then w.c.k else 1)=q/\ij w ae.u i ae.r/\c6 ae.u ae.r/\ae.gF=q/\(ph ae.u->eo ae.r=none->ae.r.bk<0->q<=4):=by
  by_cases f:ae.iR=true
  ·rw[y,aP f,aP f];have z:ae.u.f hX=true:=by rw[<-c.cf.bH (Y:=hX) bJ,<-p3,y];exact f
   have J:=rT z;obtain⟨g,_,_⟩:=l4 c.cf J ((c.cf.g2 J).oS (Y:=hX) bJ (by rw[<-c.cf.bH (Y:=hX) bJ]at z;exact z));obtain⟨K,i1,ob,_⟩:=tZ g.cf 1 4;have j:ae.u.g.bp ((1:Nat):Int) ((4:Nat):Int)=ae.r:=by unfold au.r;rw[aP f];rfl
   rw[j]at K;refine⟨_,_,rfl,rfl,g.trans K,?_,by unfold au.gF;rw[aP f];exact i1.symm,?_⟩
   ·rw[<-j];exact(c6.d rfl rfl rfl:c6 ae.u ae.u.g).trans (xT _ _ _)
   ·intro i2 P oH;by_cases gf:ae.u.g.iU=true
    ·rw[<-j]at P;have:=(Sl (ae:=ae.u.g) i2 gf P).2;omega
    ·exfalso;have:0<=ae.r.bk:=by rw[<-j];unfold au.bp;rw[aH gf];exact(o5 g.cf).2
     omega
  ·rw[y,aH f,aH f];have j:ae.r=ae.u:=by unfold au.r;rw[aH f]
   refine⟨_,_,rfl,rfl,by rw[j];exact ij.l c.cf,by rw[j];exact c6.l _,by unfold au.gF;rw[aH f];rfl,λ_ _ _=>T⟩
 obtain⟨i,q,jt,jW,g,gg,gj,j4⟩:=ba;rw[jt,jW];have j9:=i0.trans g;obtain⟨A,b,kp,gC,B,gE,kr⟩:=DR (W:=W) hV l.cf.b8 c.cf.b8 j9 ((H.trans I).trans gg) (by have:=g.bX;omega) hE;refine⟨_,_,kp,gC,λkx=>?_⟩;obtain⟨gF,oS,gL,g1,k1⟩:=kr kx;have hu:a.af.aX+1<=i.af.aX:=by have k7:=g.cF gF;have r:=c.cF k7.1;have o6:=l.cF r.1;omega
 have C:(ae.af.a1:Int)=a.af.aX:=by rw[k5];exact congrArg Int.ofNat m.aX.symm
 have lo:aJ a.af.bn≠[]:=by
  intro e;rcases m.m5 with⟨_,_,d,_⟩|⟨_,⟨_,d⟩,_⟩
  ·change (a.af.ao=1/\_)\/(a.af.ao=0/\_)at d;omega
  ·change (a.af.ao=2/\_)\/(a.af.ao=3/\_/\_/\_/\ch (lF a.af.bn)=true)\/(a.af.ao=4/\_)\/(a.af.ao=5/\_)at d;rcases d with⟨d,_⟩|⟨_,_,_,_,d⟩|⟨d,_⟩|⟨d,_⟩
   ·omega
   ·rw[fW]at e;unfold lF at d;rw[e]at d;simp[ch]at d
   ·omega
   ·omega
 refine⟨fe.ki hS ⟨ae.af.a1,ae.f eO,ae.i1,ae.s.k,ae.gF,A,[]⟩ (by show b.aj++_=_;rw[B]) gC.aC (by show a.af.aX<=(el W i).af.aX;omega) ?_ av ?_ av ?_ ?_,?_,?_⟩
 ·intro D;exact((H.trans I).trans (gg.trans (gE.trans (c6.d rfl rfl rfl))) h.b8.t8).2 D
 ·intro D;have:=j4 c.cf.b8.t8 ((gE.trans (c6.d rfl rfl rfl:c6 b (b.l8 _)) g.cf.b8.t8).2 D) gF;show 0<=ae.gF/\ae.gF<=4;rw[gj];omega
 ·intro _;show(a.af.aX:Int)<=(ae.af.a1:Int)/\(ae.af.a1:Int)<((el W i).af.aX:Nat);rw[C];omega
 ·intro _;show A= -1\/_;rcases gL with⟨e,_⟩|⟨Y,l8,me,v,mn⟩
  ·exact .inl e
  ·refine .inr ⟨Y,l8,me,v,λE mO=>?_⟩;have:=mn.jW (g1.B hu) E mO;show(ae.af.a1:Int)<E/\E<((el W i).af.aX:Nat);rw[C];omega
 ·show(M ae.aj)<M (b.aj++[_]);rw[B];simp
 ·refine⟨⟨ae.af.a1,ae.f eO,ae.i1,ae.s.k,ae.gF,A,[]⟩,by show(b.aj++[_])[M ae.aj]?=_;rw[B];simp,.inl ⟨rfl,rfl,C,?_,iR,gL,⟨_,g1.B hu⟩,k1,.inr ⟨p,lo,gj⟩⟩⟩;exact iU.symm
theorem Oz(h:dP a ae)(o:ae.bk<0)(g1:M a.a7<=W+1)(C:M ae.aj<=ae.al)(D:fe ae a.af.aX)(p:a.af.bH kK=true):
 ∃(g:Nat) (k:au),eF (.ep g) ae k/\iN a ae (iE W a).1 k/\(k.bk<0->fe k (iE W a).1.af.aX/\g<M k.aj/\fB k.aC k.aj (W+1) g (iE W a).2):=by
 have q:=h.g2 o;have c:ae.f eO=true:=nu h (Y:=kK) bJ p;have E:ae.f ⟨#[40]⟩=false:=by
  apply j3.2;intro e;unfold au.f bN.f at e c;simp only[hh,gT]at e c;have:aJ (⟨#[40]⟩:ByteArray)=aJ eO:=by rw[<-e.2.2,<-c.2.2]
  exact absurd this (by rw[show(aJ (⟨#[40]⟩:ByteArray))=[40] by kernel_rfl,show(aJ eO)=[110,111,116] by kernel_rfl];decide)
 obtain⟨N,hu,hE⟩:=l4 h o (q.oS (Y:=kK) bJ p);have r:ae.s=ae.g:=by unfold au.s;rw[aP c]
 have F:ae.i1=⟨#[]⟩:=by unfold au.i1;rw[aP c];rfl
 rw[<-r]at N;unfold iE;simp only;obtain⟨d,G,hS,_⟩:=tZ N.cf 0 99;have H:ae.s.bp ((0:Nat):Int) ((99:Nat):Int)=ae.u:=rfl;rw[H]at d;have s:c6 ae ae.u:=c6.trans (by rw[r];exact c6.d rfl rfl rfl) (xT ae.s _ _);generalize hV:a.c.bp 0 99=w at*;have t:ae.iR=false:=by unfold au.iR;rw[c];rfl
 have f:ae.r=ae.u:=by unfold au.r;rw[aH (by rw[t];decide)]
 have u:ae.gF=1:=by unfold au.gF;rw[aH (by rw[t];decide)]
 have v:=N.trans d;rw[<-f]at v;obtain⟨i,b,I,x,j,y,J⟩:=DR (W:=W) E N.cf.b8 d.cf.b8 v (by rw[f];exact s) (by have:=d.bX;omega) C;refine⟨_,_,I,x,λK=>?_⟩;obtain⟨P,hZ,z,A,gf⟩:=J K;have B:a.af.aX+1<=w.af.aX:=by have ih:=d.cF (by rw[<-f];exact P);omega
 have l:(ae.af.a1:Int)=a.af.aX:=by rw[k5];exact congrArg Int.ofNat q.aX.symm
 refine⟨fe.ki D ⟨ae.af.a1,ae.f eO,ae.i1,ae.s.k,ae.gF,i,[]⟩ (by show b.aj++_=_;rw[j]) x.aC (by show a.af.aX<=(el W w).af.aX;omega) ?_ av ?_ av ?_ ?_,?_,?_⟩
 ·intro gg;rw[f]at y;exact(s.trans (y.trans (c6.d rfl rfl rfl)) h.b8.t8).2 gg
 ·intro _;show 0<=ae.gF/\ae.gF<=4;rw[u];omega
 ·intro _;show(a.af.aX:Int)<=(ae.af.a1:Int)/\(ae.af.a1:Int)<((el W w).af.aX:Nat);rw[l];omega
 ·intro _;show i= -1\/_;rcases z with⟨e,_⟩|⟨Y,gj,gC,gE,gF⟩
  ·exact .inl e
  ·refine .inr ⟨Y,gj,gC,gE,λm gL=>?_⟩;have:=gF.jW (A.B B) m gL;show(ae.af.a1:Int)<m/\m<((el W w).af.aX:Nat);rw[l];omega
 ·show(M ae.aj)<M (b.aj++[_]);rw[j];simp
 ·refine⟨⟨ae.af.a1,ae.f eO,ae.i1,ae.s.k,ae.gF,i,[]⟩,by show(b.aj++[_])[M ae.aj]?=_;rw[j];simp,.inl ⟨rfl,rfl,l,?_,F,z,⟨_,A.B B⟩,gf,.inl ⟨c,qI,rfl,u⟩⟩⟩;exact G.symm
theorem iN.NF(d:iN a ae x b)(r:iN x b.g w B):iN a ae w B:=
 ⟨bS r.bX d.bX,d.aC.trans r.aC,d.aj.trans r.aj,r.aT.trans d.aT,bS d.al (bS (lv _) r.al),r.bd.trans d.bd,r.aZ.trans d.aZ,λh=>⟨(d.cF (r.cF h).1).1,bS (d.cF (r.cF h).1).2 (r.cF h).2⟩,(d.eo.trans (c6.d rfl rfl rfl)).trans r.eo,r.cf,r.bz.trans d.bz,by have i:=d.fk;have e:=r.fk;have f:b.g.al=b.al+1:=rfl;have g:b.g.aj=b.aj:=rfl;rw[f,g]at e;omega⟩
theorem iN.c(d:iN a ae x b)(N:ij x b x.c b.g)(r:iN x.c b.g w B):iN a ae w B:=by have e:iN x b.g w B:=⟨bS r.bX N.bX,r.aC,r.aj,r.aT,r.al,r.bd,r.aZ,λh=>⟨(r.cF h).1,bS (N.cF (r.cF h).1).2 (r.cF h).2⟩,r.eo,r.cf,r.bz,r.fk⟩;exact d.NF e
theorem fe.g(h:fe ae y)(a:y<=u):fe ae.g u:=h.q rfl (rO _) a (λb=>b)
theorem Ta{c:aA->aA×aB}(p:As W c):∀(Y:Nat) (a:aA) (ae:au) (e:List Nat) (A:List aB),dP a ae->M a.a7<=W->M ae.aj<=ae.al->M e<=ae.al->(ae.bk<0->fe ae a.af.aX/\h7 (fB ae.aC ae.aj W) e A/\∀f∈e,f<M ae.aj)->
 (M (c a).1.a7)<=Y->∃(g:List Nat) (k:au),eF (.mU e g) ae k/\iN a ae (gn c Y (c a).1 (A++[(c a).2])).1 k/\(M e+1<=M g/\M g<=k.al+1)/\
      (k.bk<0->fe k (gn c Y (c a).1 (A++[(c a).2])).1.af.aX/\h7 (fB k.aC k.aj W) g (gn c Y (c a).1 (A++[(c a).2])).2/\∀f∈g,f<M k.aj):=by
 intro Y
 induction Y with
 |zero=>intro a ae e A h q r E o gL;obtain⟨l,b,s,d,u⟩:=p a ae h q r (λt=>(o t).1);have:=d.cf.a1;omega
 |succ Y F=>
  intro a ae e A h q r E o g1;obtain⟨l,b,s,d,u⟩:=p a ae h q r (λt=>(o t).1);have hu:=d.cf.b8;have v:M e<=10000:=by have:=h.b8.cY;have:=h.b8.aT;omega
  have hE:=d.fk;have hS:=d.al;have w:b.bk<0->fe b (c a).1.af.aX/\h7 (fB b.aC b.aj W) (e++[l]) (A++[(c a).2])/\∀f∈e++[l],f<M b.aj:=by
   intro j;obtain⟨G,hV,H⟩:=u j;obtain⟨hZ,I,J⟩:=o (d.cF j).1;refine⟨G,(I.me (fB.cE d.aC d.aj W)).kp H,λf m=>?_⟩;rcases dm.1 m with m|m
   ·have:=J f m;have:=d.aj.length_le;omega
   ·simp at m;omega
  generalize ih:(c a).1=x at*;generalize iR:(c a).2=K at*;unfold gn;rw[p3,d.cf.bH (Y:=kg) bJ];by_cases i:b.f kg=true
  ·rw[aP i];have j:=rT i;obtain⟨N,y,iU⟩:=l4 d.cf j ((d.cf.g2 j).oS (Y:=kg) bJ (by rw[<-d.cf.bH (Y:=kg) bJ]at i;exact i));obtain⟨z,P,gf⟩:=w j;have B:x.c.a7.length<=W:=by have:=d.bX;omega
   have C:M b.g.aj<=b.g.al:=by show(M b.aj)<=b.al+1;omega
   have gg:M (c x.c).1.a7<=Y:=by obtain⟨_,_,_,gj,_⟩:=p x.c b.g N.cf B C (λ_=>z.g (k3 y));have:=gj.bX;omega
   obtain⟨g,k,gC,gE,D,gF⟩:=F x.c b.g (e++[l]) (A++[K]) N.cf B C (by simp only[bV,dT,d5];show(M e)+1<=b.al+1;omega) (λ_=>⟨z.g (k3 y),P,gf⟩) gg;refine⟨g,k,.Aa v s i gC,d.c N gE,⟨?_,D.2⟩,gF⟩;have:=D.1;simp only[bV,dT,d5]at this;omega
  ·rw[aH i];exact⟨e++[l],b,.va v s (j3.2 i),d,by simp only[bV,dT,d5];omega,w⟩
def Am(h:Nat)(g:aA->aA×List aB):Prop:=∀(c:aA) (d:au),dP c d->M c.a7<=h->M d.aj<=d.al->(d.bk<0->fe d c.af.aX)->∃(f:List Nat) (e:au),eF (.mU [] f) d e/\iN c d (g c).1 e/\(1<=M f/\M f<=1000)/\(e.bk<0->fe e (g c).1.af.aX/\h7 (fB e.aC e.aj h) f (g c).2/\∀i∈f,i<M e.aj)
theorem Cu{b:aA->aA×aB}(e:As W b):Am W (km b):=by intro a ae h f g i;obtain⟨j,k,l,c,d,m⟩:=Ta e (M (b a).1.a7) a ae [] [] h f g av (λo=>⟨i o,h7.cL _,av⟩) (aN _);refine⟨j,k,l,c,?_,m⟩;have:=c.cf.b8.cY;have:=c.cf.b8.aT;have:=d.1;have:=d.2;simp only[d5]at*;omega
theorem Me(q:Am W z):∀(Y:Nat) (a:aA) (ae:au) (d:List (List Nat)) (m:List (List aB)),dP a ae->M a.a7<=W->M ae.aj<=ae.al->M d<=ae.al->(ae.bk<0->fe ae a.af.aX/\kN (fB ae.aC ae.aj W) d m/\∀o∈d,(1<=M o/\M o<=1000)/\∀e∈o,e<M ae.aj)->
 (M (z a).1.a7)<=Y->∃(f:List (List Nat)) (k:au),eF (.rH d f) ae k/\iN a ae (fm z Y (z a).1 (m++[(z a).2])).1 k/\M f<=k.al+1/\M d+1<=M f/\
      (k.bk<0->fe k (fm z Y (z a).1 (m++[(z a).2])).1.af.aX/\kN (fB k.aC k.aj W) f (fm z Y (z a).1 (m++[(z a).2])).2/\∀o∈f,(1<=M o/\M o<=1000)/\∀e∈o,e<M k.aj):=by
 intro Y
 induction Y with
 |zero=>intro a ae d A h r s G p hZ;obtain⟨l,b,t,c,_,v⟩:=q a ae h r s (λu=>(p u).1);have:=c.cf.a1;omega
 |succ Y H=>
  intro a ae d A h r s G p ih;obtain⟨l,b,t,c,I,v⟩:=q a ae h r s (λu=>(p u).1);have iR:=c.cf.b8;have w:M d<=10000:=by have:=h.b8.cY;have:=h.b8.aT;omega
  have iU:=c.fk;have iZ:=c.al;have y:b.bk<0->fe b (z a).1.af.aX/\kN (fB b.aC b.aj W) (d++[l]) (A++[(z a).2])/\∀o∈d++[l],(1<=M o/\M o<=1000)/\∀e∈o,e<M b.aj:=by
   intro j;obtain⟨J,K,P⟩:=v j;obtain⟨i0,gf,B⟩:=p (c.cF j).1;refine⟨J,(gf.me (fB.cE c.aC c.aj W)).kp K,λo g=>?_⟩;rcases dm.1 g with g|g
   ·refine⟨(B o g).1,λe gg=>?_⟩;have:=(B o g).2 e gg;have:=c.aj.length_le;omega
   ·simp at g;subst g;exact⟨I,P⟩
  generalize i1:(z a).1=x at*;generalize i2:(z a).2=gj at*;unfold fm;rw[p3,c.cf.bH (Y:=dO) bJ];by_cases i:b.f dO=true
  ·rw[aP i];have j:=rT i;obtain⟨N,C,jt⟩:=l4 c.cf j ((c.cf.g2 j).oS (Y:=dO) bJ (by rw[<-c.cf.bH (Y:=dO) bJ]at i;exact i));obtain⟨D,gC,gE⟩:=y j;have E:x.c.a7.length<=W:=by have:=c.bX;omega
   have F:M b.g.aj<=b.g.al:=by show(M b.aj)<=b.al+1;omega
   have gF:M (z x.c).1.a7<=Y:=by obtain⟨_,_,_,gL,_⟩:=q x.c b.g N.cf E F (λ_=>D.g (k3 C));have:=gL.bX;omega
   obtain⟨f,k,g1,hu,hE,hS,hV⟩:=H x.c b.g (d++[l]) (A++[gj]) N.cf E F (by simp only[bV,dT,d5];show(M d)+1<=b.al+1;omega) (λ_=>⟨D.g (k3 C),gC,gE⟩) gF;refine⟨f,k,.wj w t i g1,c.c N hu,hE,?_,hV⟩;simp only[bV,dT,d5]at hS;omega
  ·rw[aH i];exact⟨d++[l],b,.wh w t (j3.2 i),c,by simp only[bV,dT,d5];omega,av,y⟩
def xI{bD:Type}(ah:aA->aA×bD):Prop:=∀(c:aA) (d:Nat),c.a7=[⟨0,d,⟨#[]⟩⟩]->(ah c).1.a7=[⟨0,d,⟨#[]⟩⟩]
theorem GS(W:Nat):xI (ha W):=by
 intro a b h;cases W with
 |zero=>exact h
 |succ W=>
  have c:a.af.ao=0:=by unfold aA.af;rw[h];rfl
  unfold ha;rw[aH T,aH (by rw[r0 h bJ];decide),aH (by rw[r0 h bJ];decide)];exact Bl h
theorem NY{b:aA->aA×aB}(d:xI b):xI (km b):=by
 intro a e h;have c:=d a e h;unfold km;generalize(M (b a).1.a7)=Y;cases Y with
 |zero=>exact c
 |succ Y=>unfold gn;rw[aH (by rw[uv c bJ];decide)];exact c
theorem O2(Y:Nat)(c:List (List aB)){b:Nat}(h:a.a7=[⟨0,b,⟨#[]⟩⟩]):(fm z Y a c).1.a7=[⟨0,b,⟨#[]⟩⟩]:=by
 cases Y with
 |zero=>exact h
 |succ Y=>unfold fm;rw[aH (by rw[uv h bJ];decide)];exact h
theorem SG(gL:Am W z)(i2:xI z)(h:dP a ae)(g1:ae.bk<0)(pa:M a.a7<=W+1)(py:M ae.aj<=ae.al)(jt:fe ae a.af.aX)(jW:a.af.bH hk=true):
 ∃(G:Nat) (k:au),eF (.ep G) ae k/\iN a ae (h9 z a).1 k/\(k.bk<0->fe k (h9 z a).1.af.aX/\G<M k.aj/\fB k.aC k.aj (W+1) G (h9 z a).2):=by
 have H:ae.f hk=true:=nu h (Y:=hk) bJ jW;obtain⟨N,j4,hu,r,pF⟩:=Br h (Y:=hk) bJ H;have hE:c6 ae (ae.g.B ae.af.a1):=c6.d rfl rfl rfl;have w:(ae.g.B ae.af.a1).al=ae.al+1:=rfl;have I:(ae.g.B ae.af.a1).aj=ae.aj:=rfl;have j9:M (ae.g.B ae.af.a1).aj<=(ae.g.B ae.af.a1).al:=by rw[w,I];omega
 have kp:a.p.a7.length<=W:=T;have kr:fe (ae.g.B ae.af.a1) a.p.af.aX:=jt.q rfl (rO _) (N.cF g1).2 (λJ=>J);have ba:∃(f:List (List Nat)) (b:au) (i:aA) (K:List (List aB)),eF (.rH [] f) (ae.g.B ae.af.a1) b/\h9 z a=((i.bx [d9]).J,.fA ⟨#[]⟩ 0 0 0 [] K)/\
  ((2<=M f/\iN a.p (ae.g.B ae.af.a1) i b/\M f<=1000/\(b.bk<0->fe b i.af.aX/\kN (fB b.aC b.aj W) f K/\∀o∈f,(1<=M o/\M o<=1000)/\∀kx∈o,kx<M b.aj))\/
   (M f<2/\∃g:aA,iN a.p (ae.g.B ae.af.a1) g b/\i.a7=[⟨0,b.c8.bk.toNat,⟨#[]⟩⟩])):=by
  obtain⟨hS,m,hV,j,k1,k7⟩:=gL a.p (ae.g.B ae.af.a1) j4 kp j9 (λ_=>kr);unfold h9;simp only;generalize pR:(z a.p).1=g at*;generalize pU:(z a.p).2=lo at*;have B:=j.al;have C:=j.fk;by_cases x:m.f dO=true
  ·have P:=rT x;have D:g.m [dO]=true:=by rw[p3,j.cf.bH (Y:=dO) bJ];exact x
   obtain⟨hZ,l8,pX⟩:=l4 j.cf P ((j.cf.g2 P).oS (Y:=dO) bJ (by have:=D;rw[p3]at this;exact this));have gf:g.bx [dO]=g.c:=by unfold aA.bx;rw[aP D]
   rw[gf];obtain⟨me,mn,mO⟩:=k7 P;have mR:M m.g.aj<=m.g.al:=by show(M m.aj)<=m.al+1;omega
   have mY:g.c.a7.length<=W:=by have:=j.bX;omega
   obtain⟨m5,b,E,c,pZ,ih,gg⟩:=Me gL (M (z g.c).1.a7) g.c m.g [hS] [lo] hZ.cf mY mR (by show 1<=m.al+1;omega) (λ_=>⟨me.g (k3 l8),(kN.cL _).kp mn,λo r=>by simp at r;subst r;exact⟨k1,mO⟩⟩) (aN _);refine⟨m5,b,_,_,.wj av hV x E,rfl,.inl ⟨?_,j.c hZ c,?_,gg⟩⟩
   ·simp at ih;exact ih
   ·have:=c.cf.b8.cY;have:=c.cf.b8.aT;omega
  ·have D:¬g.m [dO]=true:=by rw[p3,j.cf.bH (Y:=dO) bJ];exact x
   have gf:g.bx [dO]=g.P:=by unfold aA.bx;rw[aH D]
   rw[gf];obtain⟨l,F⟩:=o5 j.cf;have gj:=l.cf.hS F;refine⟨[hS],m,_,_,.wh av hV (j3.2 x),rfl,.inr ⟨av,g,j,?_⟩⟩;exact O2 _ _ (i2 _ _ gj)
 obtain⟨f,b,i,K,E,ne,nB⟩:=ba;rw[ne];simp only;rcases nB with⟨s,c,nG,gg⟩|⟨s,g,c,gj⟩
 ·have y:b.bz=ae.bz+1:=c.bz.trans hu;have B:=c.al;have C:=c.fk;rw[w]at B;rw[w,I]at C;have u:=c.cf.b8;have gC:=x1 c.cf y;have d:=tR gC (Y:=d9) bJ;have oa:i.J.bx [d9]=(i.bx [d9]).J:=by unfold aA.bx;have:i.J.m [d9]=i.m [d9]:=rfl;rw[this];split<;>rfl
  rw[oa]at d;have gE:({b with bz:=ae.bz}:au).i2 f=({b with bz:=ae.bz}:au).c5 d9:=by unfold au.i2;rw[aH T];rfl
  have v:(({b with bz:=ae.bz}:au).c5 d9).aj=b.aj:=d.aj;have qp:b.al<=(({b with bz:=ae.bz}:au).c5 d9).al:=d.al;have iR:c6 b (({b with bz:=ae.bz}:au).c5 d9):=(c6.d rfl rfl rfl:c6 b {b with bz:=ae.bz}).trans (uG _ _);have p:=d.cf.b8;have A:=eF.tJ (V:=ae) H T E y T (by have:=u.cY;have:=u.aT;omega);rw[gE]at A;refine⟨_,_,A,⟨?_,?_,?_,?_,?_,?_,?_,?_,?_,⟨⟨p.aC,p.b9,p.b6,p.cc,p.bz,p.aT,p.ej,p.cY⟩,d.cf.hC⟩,?_,?_⟩,?_⟩
  ·exact bS d.bX (bS c.bX T)
  ·exact c.aC.trans d.aC
  ·show ae.aj<+:(({b with bz:=ae.bz}:au).c5 d9).aj++_;rw[v];exact c.aj.trans (oG _ _)
  ·exact d.aT.trans c.aT
  ·show ae.al<=(({b with bz:=ae.bz}:au).c5 d9).al;omega
  ·exact d.bd.trans c.bd
  ·exact d.aZ.trans c.aZ
  ·intro t;have L:=d.cF t;have iU:=c.cF L.1;have ob:=N.cF iU.1;exact⟨g1,bS ob.2 (bS iU.2 L.2)⟩
  ·exact(hE.trans c.eo).trans (iR.trans (c6.d rfl rfl rfl))
  ·exact d.bz
  ·show(M ((({b with bz:=ae.bz}:au).c5 d9).aj++[_]))+ae.al<=M ae.aj+(({b with bz:=ae.bz}:au).c5 d9).al+1;rw[v];simp only[bV,dT,d5];omega
  ·intro t;have L:=d.cF t;have oH:b.bk<0:=L.1;obtain⟨fo,dt,iZ⟩:=gg oH;refine⟨fe.ki fo ⟨ae.af.a1,false,cD,0,1, -1,f⟩ (by show(({b with bz:=ae.bz}:au).c5 d9).aj++_=_;rw[v]) d.aC L.2 ?_ ?_ ?_ ?_ ?_ ?_,?_,?_⟩
   ·intro J;exact((iR.trans (c6.d rfl rfl rfl:c6 _ (au.l8 _ _))) u.t8).2 J
   ·intro o r;exact(iZ o r).2
   ·intro _;show(0:Int)<=1/\(1:Int)<=4;omega
   ·exact⟨nG,λo r=>(iZ o r).1⟩
   ·intro e;have gF:f=[]:=e;rw[gF]at s;simp at s
   ·intro e;have gF:f=[]:=e;rw[gF]at s;simp at s
   ·show(M b.aj)<M ((({b with bz:=ae.bz}:au).c5 d9).aj++[_]);rw[v];simp
   ·refine⟨⟨ae.af.a1,false,cD,0,1, -1,f⟩,?_,.inr ⟨rfl,qI,s,?_⟩⟩
    ·show((({b with bz:=ae.bz}:au).c5 d9).aj++[_])[M b.aj]?=_;rw[v];simp
    ·refine dt.me (fB.cE d.aC ?_ W);show b.aj<+:(({b with bz:=ae.bz}:au).c5 d9).aj++_;rw[v];exact oG _ _
 ·have y:b.bz=ae.bz+1:=c.bz.trans hu;have B:=c.al;have C:=c.fk;rw[w]at B;rw[w,I]at C;have u:=c.cf.b8;have gC:=x1 c.cf y;obtain⟨l,F⟩:=o5 gC;have gE:({b with bz:=ae.bz}:au).i2 f=({b with bz:=ae.bz}:au).c8:=by unfold au.i2;rw[aP s,AY F]
  have oS:({b with bz:=ae.bz}:au).c8.bk=b.c8.bk:=yF;have i0:({b with bz:=ae.bz}:au).c8.aj=b.aj:=l.aj;have o6:({b with bz:=ae.bz}:au).c8.al=b.al:=(rZ _).2;have i1:((i.bx [d9]).J).a7=[⟨0,({b with bz:=ae.bz}:au).c8.bk.toNat,⟨#[]⟩⟩]:=by rw[oS];exact DA gj bJ
  have q:=l.cf.b8;have A:=eF.tJ (V:=ae) H T E y T (by have:=u.cY;have:=u.aT;omega);rw[gE]at A;refine⟨_,_,A,⟨?_,?_,?_,?_,?_,?_,?_,?_,?_,⟨⟨q.aC,q.b9,q.b6,q.cc,q.bz,q.aT,q.ej,q.cY⟩,.inr ⟨F,i1⟩⟩,?_,?_⟩,?_⟩
  ·rw[i1];show 1<=_;have:=h.a1;omega
  ·exact c.aC.trans l.aC
  ·show ae.aj<+:({b with bz:=ae.bz}:au).c8.aj++_;rw[i0];exact c.aj.trans (oG _ _)
  ·exact l.aT.trans c.aT
  ·show ae.al<=({b with bz:=ae.bz}:au).c8.al;omega
  ·exact l.bd.trans c.bd
  ·exact l.aZ.trans c.aZ
  ·intro t;have:({b with bz:=ae.bz}:au).c8.bk<0:=t;omega
  ·exact(hE.trans c.eo).trans (((c6.d rfl rfl rfl:c6 b {b with bz:=ae.bz}).trans (sI _)).trans (c6.d rfl rfl rfl))
  ·exact l.bz
  ·show(M (({b with bz:=ae.bz}:au).c8.aj++[_]))+ae.al<=M ae.aj+({b with bz:=ae.bz}:au).c8.al+1;rw[i0,o6];simp only[bV,dT,d5];omega
  ·intro t;have:({b with bz:=ae.bz}:au).c8.bk<0:=t;omega
theorem Tz(W:Nat):As W (ha W):=by
 induction W with
 |zero=>intro a ae h d;have:=h.a1;omega
 |succ W r=>
  intro a ae h d c j;by_cases b:ae.bk<0
  ·have s:=h.g2 b;unfold ha;by_cases f:a.af.ao=3
   ·rw[aP f];exact HR h b d c (j b) f
   ·rw[aH f];by_cases g:a.af.bH kK=true
    ·rw[aP g];exact Oz h b d c (j b) g
    ·rw[aH g];by_cases i:a.af.bH hk=true
     ·rw[aP i];exact SG (Cu r) (NY (GS W)) h b d c (j b) i
     ·rw[aH i];obtain⟨N,p⟩:=o5 h;have q:=s.name;rw[<-k5]at q;have t:ae.G=false:=by apply j3.2;intro e;unfold au.G at e;rw[hh]at e;exact f (q.1.2 e.1)
      obtain⟨l,k,m,o,u⟩:=Ec (W:=W) (nu h (Y:=hk) bJ (j3.2 i)) (nu h (Y:=kK) bJ (j3.2 g)) t rfl N p c;exact⟨l,k,m,o,λh=>T⟩
  ·obtain⟨l,k,m,o,p⟩:=QC (W:=W) h T (GS (W+1) a _ (h.hS T)) c;exact⟨l,k,m,o,λh=>T⟩
theorem D1(a:ByteArray)(j:Nat):(a.extract j (aW a)).data.toList=a.data.toList.drop j:=by rw[mL];apply qA;simp
theorem Ed(b:UInt8->Bool)(a:ByteArray)(j:Nat):cT b (a.extract j (aW a))=da b a j-j:=by rw[tu,D1];unfold da;omega
theorem Ft(a:ByteArray)(j b:Nat):(a.extract j (aW a)).data.toList.getD b 0=a.data.toList.getD (j+b) 0:=by rw[D1];simp[fj]
theorem Fq(a:ByteArray)(j W:Nat)(b:0<W):lF (a.extract j (j+W))=a.data.toList.getD j 0:=by unfold lF;rw[mL,show j+W-j=W by omega];simp only[fj,List.getElem?_take,b,iC,List.getElem?_drop,pC]
theorem Qg(r:UInt8)(d:(r==33)=false)(e:(r==60||r==62)=false):fI r yr=fI r mq/\fI r [33,60,62]=false:=by
 have a:=e;rw[xv]at a;rw[di]at d;rw[di,di]at a;constructor
 ·simp only[fI,yr,mq,oo,qh,oZ];have b:((60:UInt8)==r)=false:=di.2 (hO a.1);have c:((62:UInt8)==r)=false:=di.2 (hO a.2);simp[b,c]
 ·simp only[fI,oo,qh,oZ];have f:((33:UInt8)==r)=false:=di.2 (hO d);have b:((60:UInt8)==r)=false:=di.2 (hO a.1);have c:((62:UInt8)==r)=false:=di.2 (hO a.2);simp[b,c,f]
theorem Py(a:ByteArray)(j W:Nat)(b:W<=9):fS a j W=fx (a.extract j (j+W)):=by unfold fS rJ fx;rw[mL,show j+W-j=W by omega,qy,show min 9 W=W by omega]
theorem EC(a:ByteArray)(b:Nat)(h:b<=aW a):(∃Y,(eR a b).2=some Y/\tA (eb a b) (eR a b).1/\2<=(eb a b).ao/\Y=(eb a b).aX+aW (eb a b).bn)\/
 (xW (eb a b) (eR a b).1/\(eb a b).ao<=1):=by
 obtain⟨gf,k,c,v⟩:=qq a b h;have hS:=oB fs a b;have E:=pr fs a b h;unfold eb at*;unfold eR;simp only at*;generalize da fs a b=j at*;have F:aW (a.extract j (aW a))=aW a-j:=qB;by_cases G:aW a<=j
 ·rw[aP G];have e:fC (a.extract j (aW a))=(1,0):=by unfold fC;rw[aP T]
  rw[e]at c⊢;exact .inr ⟨⟨rfl,.inl ⟨rfl,rfl⟩,(c av).2⟩,av⟩
 ·rw[aH G];have e:fC (a.extract j (aW a))=gu (a.extract j (aW a)):=by unfold fC;rw[aH T]
  rw[e]at k c v⊢;have g:=yJ (aQ:=a.extract j (aW a)) T;rw[F]at g;have gg:(a.extract j (aW a)).data.toList.getD 0 0=a.data.toList.getD j 0:=by rw[Ft];rfl
  have l:∀W,j+W<=aW a->aW (a.extract j (j+W))=W:=λW H=>qB
  revert v c k gf g
  unfold gu;simp only[gg];by_cases d:ch (a.data.toList.getD j 0)=true
  ·rw[aP d,aP d];unfold nf;have B:=Ed ch a j;have gj:=oB ch a j;have I:=pr ch a j E;rw[B];have gC:0<da ch a j-j:=by have u:j<aW a:=T;rw[k0 a j u]at d;have:=oC ch a j u d;have:=oB ch a (j+1);omega
   have q:a.extract j (da ch a j)=a.extract j (j+(da ch a j-j)):=by congr 1;omega
   have gE:=y7 a j (da ch a j-j) T;rw[gE];have J:=Fq a j (da ch a j-j) gC;have m:=l (da ch a j-j) T;by_cases o:i6 (a.extract j (j+(da ch a j-j)))=true
   ·rw[aP o];intro _ _ _ _ _;refine .inl ⟨_,rfl,⟨rfl,.inr (.inr (.inl ⟨rfl,rfl,q,o,?_⟩))⟩,av,?_⟩
    ·rw[J];exact d
    ·simp only;rw[m];omega
   ·rw[aH o];by_cases C:8<da ch a j-j
    ·rw[aP C];intro _ _ c _ _;refine .inr ⟨⟨rfl,.inr ⟨rfl,.inr ⟨rfl,?_⟩⟩,(c av).2⟩,av⟩;simp only;rw[q,m];exact C
    ·rw[aH C];intro _ _ _ _ _;refine .inl ⟨_,rfl,⟨rfl,.inr (.inl ⟨rfl,rfl,q,?_,?_⟩)⟩,av,?_⟩
     ·unfold bN.G;simp only;rw[q,m];unfold i6 at o;rw[Bool.not_eq_true,xp]at o;rw[hh,hh,lq];refine⟨⟨rfl,b7⟩,λY gF=>?_⟩;have:=o Y gF;simpa using this
     ·rw[J];exact d
     ·simp only;rw[m];omega
  ·rw[aH d,aH d];by_cases w:cQ (a.data.toList.getD j 0)=true
   ·rw[aP w,aP w];unfold lA;have B:=Ed cQ a j;have gj:=oB cQ a j;have I:=pr cQ a j E;rw[B];by_cases x:9<da cQ a j-j
    ·rw[aP x,aP x];intro _ _ c _ _;exact .inr ⟨⟨rfl,.inr ⟨rfl,.inl rfl⟩,(c av).2⟩,av⟩
    ·rw[aH x,aH x];intro _ _ _ v _;have q:a.extract j (da cQ a j)=a.extract j (j+(da cQ a j-j)):=by congr 1;omega
     have m:=l (da cQ a j-j) T;refine .inl ⟨_,rfl,⟨rfl,.inl ⟨rfl,rfl,?_,((v av).1).2 rfl⟩⟩,av,?_⟩
     ·exact Py a j _ T
     ·simp only;rw[m];omega
   ·rw[aH w,aH w];have K:jv (a.extract j (aW a))=(decide (j+1<aW a)&&(a.data.toList.getD (j+1) 0==61)):=by unfold jv;rw[Ft,F];congr 1;simp only[wM];omega
    have y:∀W,0<W->j+W<=aW a->∀(D:bN),D=⟨2,a.extract j (j+W),j,0⟩->tA ⟨5,j,a.extract j (j+W)⟩ D:=by intro W H I D e;subst e;exact⟨rfl,.inr (.inr (.inr ⟨rfl,rfl,rfl,by rw[Fq a j W H];exact j3.2 d⟩))⟩
    generalize p:a.data.toList.getD j 0=r at*;by_cases z:(r==33)=true
    ·rw[aP z];have P:r=33:=by simpa using z
     have s:j5 a j=jv (a.extract j (aW a)):=by unfold j5;rw[K,p,P];rw[show fI (33:UInt8) [33,60,62]=true by decide,B0]
     have t:nX a j=false:=by unfold nX;rw[p,P];decide
     rw[s,t];by_cases f:jv (a.extract j (aW a))=true
     ·rw[aP f,aP f];intro _ k _ _ g;have:j+2<=aW a:=T;refine .inl ⟨_,rfl,y 2 T this _ rfl,av,?_⟩;simp only;rw[l 2 this]
     ·rw[aH f,aH f];intro _ _ c _ g;simp only[rc,lh];exact .inr ⟨⟨rfl,.inr ⟨rfl,.inl rfl⟩,(c av).2⟩,av⟩
    ·rw[aH z];by_cases i:(r==60||r==62)=true
     ·rw[aP i];have gL:fI r [33,60,62]=true:=by rw[tC,gT,gT]at i;rcases i with e|e<;>(rw[e];decide)
      have g1:fI r yr=true:=by rw[tC,gT,gT]at i;rcases i with e|e<;>(rw[e];decide)
      have s:j5 a j=jv (a.extract j (aW a)):=by unfold j5;rw[K,p,gL,B0]
      have t:nX a j=true:=by unfold nX;rw[p,g1]
      rw[s,t];by_cases f:jv (a.extract j (aW a))=true
      ·rw[aP f,aP f];intro _ k _ _ g;have:j+2<=aW a:=T;refine .inl ⟨_,rfl,y 2 T this _ rfl,av,?_⟩;simp only;rw[l 2 this]
      ·rw[aH f,aH f];intro _ k _ _ g;have:j+1<=aW a:=T;rw[aP rfl];refine .inl ⟨_,rfl,y 1 T this _ rfl,av,?_⟩;simp only;rw[l 1 this]
     ·rw[aH i];obtain⟨hu,hE⟩:=Qg r (j3.2 z) (j3.2 i);have s:j5 a j=false:=by unfold j5;rw[p,hE,EI]
      have t:nX a j=fI r mq:=by unfold nX;rw[p,hu]
      rw[s,t];simp only[rc,lh];by_cases A:fI r mq=true
      ·rw[aP A,aP A];intro _ k _ _ g;have:j+1<=aW a:=T;refine .inl ⟨_,rfl,y 1 T this _ rfl,av,?_⟩;simp only;rw[l 1 this]
      ·rw[aH A,aH A];intro _ _ c _ g;exact .inr ⟨⟨rfl,.inr ⟨rfl,.inl rfl⟩,(c av).2⟩,av⟩
theorem Di(a:ByteArray){b:Nat}{o:List bN}(j:k2 a b o):∀W,b<=aW a->aW a-b<W->fg (fw a W b) o/\((fw a W b).headD default)=eb a b:=by
 induction j with
 |@oF b l e=>
  intro W h m;cases W with
  |zero=>omega
  |succ W=>
   rcases EC a b h with⟨Y,c,_⟩|⟨c,d⟩
   ·rw[e]at c;cases c
   ·unfold fw;rw[aP d,e]at*;exact⟨c,rfl⟩
 |@f9 b Y l o e j p=>
  intro W h m;cases W with
  |zero=>omega
  |succ W=>
   rcases EC a b h with⟨t,c,d,q,r⟩|⟨c,d⟩
   ·rw[e]at c d;simp only[j0]at c;subst c;unfold fw;rw[aH T];obtain⟨u,g,_,s⟩:=qq a b h;have v:=(s q).2;rw[<-r]at g⊢;obtain⟨f,i⟩:=p W g T;refine⟨?_,rfl⟩;obtain⟨w,_⟩:=qq a Y g;cases k:fw a W Y with
    |nil=>rw[k]at f;exact absurd f.bX.1 av
    |cons x rest=>rw[k]at f i;simp only[Dw]at i;exact⟨d,by rw[i];omega,f⟩
   ·unfold fw;rw[aP d];rw[e]at c;exact⟨c,rfl⟩
theorem Tr(a:UInt8)(L:World):Calls prog 80 #[.int .u8 a.toNat] L λe f=>e=.returned (.bool (fs a))/\f=L:=by
 by_cases b:a=32
 ·subst b;go_enter func80,ntmps80;go_wp2;go_ret;exact⟨rfl,rfl⟩
 ·have j:((a.toNat:Int)==32)=false:=by rw[di];intro h;exact b (qV.1 (by exact_mod_cast h))
  have d:(a==32)=false:=by simpa using b
  have g:Hid (fs a=(a==10)):=by show _=_;unfold fs;rw[d];rfl
  clear b d;by_cases c:a=10
  ·subst c;go_enter func80,ntmps80;go_wp2;go_ret;exact⟨rfl,rfl⟩
  ·have k:((a.toNat:Int)==10)=false:=by rw[di];intro h;exact c (qV.1 (by exact_mod_cast h))
   have i:Hid ((a==10)=false):=by show _=_;simpa using c
   clear c;go_enter func80,ntmps80;go_wp2;go_ret;exact⟨kC (by rw[g.out,i.out]),rfl⟩
theorem y0(a:UInt8)(L:World):Calls prog 125 #[.int .u8 a.toNat] L λe d=>e=.returned (.bool (ch a))/\d=L:=by
 have b:Hid (ch a=(decide ((97:Int)<=a.toNat)&&decide ((a.toNat:Int)<=122))):=by show _=_;unfold ch;congr 1<;>(rw[wM];omega)
 by_cases c:(97:Int)<=(a.toNat:Int)
 ·go_enter func125,ntmps125;go_wp2;go_ret;exact⟨kC (by rw[b.out];simp[c]),rfl⟩
 ·have f:decide ((97:Int)<=(a.toNat:Int))=false:=by simpa using c
  go_enter func125,ntmps125;go_wp2;go_ret;exact⟨kC (by rw[b.out,f];rfl),rfl⟩
theorem BC(a:UInt8)(L:World):Calls prog 127 #[.int .u8 a.toNat] L λe d=>e=.returned (.bool (cQ a))/\d=L:=by
 have b:Hid (cQ a=(decide ((48:Int)<=a.toNat)&&decide ((a.toNat:Int)<=57))):=by show _=_;unfold cQ;congr 1<;>(rw[wM];omega)
 by_cases c:(48:Int)<=(a.toNat:Int)
 ·go_enter func127,ntmps127;go_wp2;go_ret;exact⟨kC (by rw[b.out];simp[c]),rfl⟩
 ·have f:decide ((48:Int)<=(a.toNat:Int))=false:=by simpa using c
  go_enter func127,ntmps127;go_wp2;go_ret;exact⟨kC (by rw[b.out,f];rfl),rfl⟩
def w6(N:Nat)(d:UInt8->Bool):Prop:=(∀args L,(callFunc N args).run prog L=.ok (.enter N args) L)/\∀(c:UInt8) (L:World),Calls prog N #[.int .u8 c.toNat] L λe f=>e=.returned (.bool (d c))/\f=L
theorem MI:w6 80 fs:=⟨Go.Proofs.enters_of func80 (by kernel_rfl) rfl,Tr⟩
theorem N7:w6 125 ch:=⟨Go.Proofs.enters_of func125 (by kernel_rfl) rfl,y0⟩
theorem Eu:w6 127 cQ:=⟨Go.Proofs.enters_of func127 (by kernel_rfl) rfl,BC⟩
theorem xb{N:Nat}{b:UInt8->Bool}(k:w6 N b)(a:ByteArray)(L:World)(m:aW a<=1000000):
 Calls prog 79 #[.string a,.func (.func N) #[] #[]] L λe g=>e=.returned (.int .i64 (cT b a))/\g=L:=by
 obtain⟨o,l⟩:=k;go_enter func79,ntmps79;go_wp2
 go_loop [5] (λj=>∃Y:Nat,Y<=aW a/\j=.int .i64 Y/\Hid (da b a Y=cT b a)) (λj=>aW a-(intOf j).toNat)
 case atStart=>exact⟨0,bL _,rfl,rfl⟩
 case round=>
  obtain⟨Y,p,rfl,h⟩:=hrel;by_cases i:Y<aW a
  ·have f:=l a[Y] L;cases c:b a[Y]with
   |true=>
    have d:Hid (da b a (Y+1)=cT b a):=(oC b a Y i c).trans h.out;rw[c]at f;clear c;go_wp2_with(go_at_fn N;refine f.mono ?_;rintro e g ⟨rfl,rfl⟩)
    go_round
    case rel=>exact⟨Y+1,T,bE,d⟩
    case measure=>simp[intOf];omega
   |false=>have d:Hid (cT b a=Y):=h.out.symm.trans (xX b a Y i c);rw[c]at f;clear c;go_wp2_with(go_at_fn N;refine f.mono ?_;rintro e g ⟨rfl,rfl⟩);go_ret;exact⟨jq (by rw[d.out]),rfl⟩
  ·have d:Hid (cT b a=Y):=h.out.symm.trans (xS b a Y T);go_wp2;go_ret;exact⟨jq (by rw[d.out]),rfl⟩
