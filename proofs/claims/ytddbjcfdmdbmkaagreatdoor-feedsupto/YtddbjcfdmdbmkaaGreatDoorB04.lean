import Derived.Test.YtddbjcfdmdbmkaaGreatDoorB02
set_option linter.all false
set_option maxRecDepth 100000
set_option maxHeartbeats 1600000
namespace Go.Proofs.YtddbjcfdmdbmkaaGreatDoor
open Go.RowKit Go.Proofs.Tryz
open Go.IntKind renaming i64->Q
open Go.Obj renaming cells->aw
open Go.RowKit renaming Hid->ag
open Go.Value renaming int->O,string->az
open _root_.ByteArray renaming toList->aJ
open Go.World renaming heap->R,setCell->ay
open List renaming length->M
def q9(a b:ByteArray)(c:Int):Array Value:=#[az ⟨#[102]⟩,O Q 0,O Q 0,O Q 0,az a,az b,O Q c]
structure Gg (ab:Nat->Nat) (L:World) (X:Nat) (tO:ByteArray) (a1:Int) (V:au) (Bq:Nat->Nat) (cO:eU) (bi:Nat) (d6:World):Prop where
 aV:bQ Bq d6 X cO V
 bo:aU ab L Bq d6
 ax:aL d6 bi (q9 tO cD a1) 248
 ab:Bq bi=8
 bT:L.heap.size<=bi
theorem F3{c:au}(G:c2 c.aT)(zS:c.bk<0)(gf:c.af.ao≠1)(g1:c.f ⟨#[45]⟩=false)(hu:c.f ⟨#[40]⟩=false)(H:Nat->Nat)(L:World)(d:Nat)(o:eU)(h:bQ H L d o c)(iZ:M c.x.aC<=100000):
 Calls prog 205 #[.pointer (some ⟨d,0,none⟩)] L λe j9=>
  ((c.x.af.hV&&decide (c.x.bk<0))=false/\e=.returned (O Q 0)/\qK H L d c.x.c8 j9)\/
  ((c.x.af.hV&&decide (c.x.bk<0))=true/\e=.returned (O Q (M c.x.aC))/\qK H L d (c.x.g.gC ⟨⟨#[102]⟩,0,0,0,c.j4,c.x.af.a8,c.af.a1⟩) j9):=by
 have z_:((c.af.ao:Int)==1)=false:=by rw[di];omega
 have Ai:ag (c.af.ao≠1):=gf;have ra:ag (c.f ⟨#[45]⟩=false):=g1;have rA:ag (c.f ⟨#[40]⟩=false):=hu;have rR:ag (c.t ⟨#[45]⟩=c):=by show _=_;simp[au.t,g1]
 have sY:ag (c.t ⟨#[40]⟩=c):=by show _=_;simp[au.t,hu]
 have tB:=p5 h ((R L).size+1) T;have pX:aO H ((R L).size+1) 7 ((R L).size+1)=7:=cy _ _ _;have kp:=λgj=>A4 H L gj (aw (ds c) 150) ((R L).size+1) T
 have pZ:=λgj=>sr L gj (ds c) 150
 unfold ds at kp pZ;clear g1 hu gf;go_enter func205,ntmps205;go_wp2_with(first|(go_at_call 96;refine(fJ h).mono ?_;rintro e j9 ⟨rfl,gj,rfl⟩)|(go_at_call_of 142 (az ⟨#[45]⟩);refine(fq (((tB.a _).a _).e) G.b8 _).mono ?_;rintro e Ak ⟨rfl,i0,hE⟩;rw[ra.out];rw[rR.out]at i0;have kr:=hE.ax pX (pZ gj))|(go_at_call_of 142 (az ⟨#[40]⟩);refine(fq i0 G.b8 _).mono ?_;rintro e E ⟨rfl,i1,hS⟩;rw[rA.out];rw[sY.out]at i1;have kx:=hS.ax pX kr;have dt:=kx.aa 2;simp at dt))
 have i2:=(DD i1 (R E).size (aN _)).a (aw (q9 cD cD c.af.a1) 248);have gg:aO (aO H ((R L).size+1) 7) (R E).size 8 (R E).size=8:=cy _ _ _;have jt:=aL.bT E (q9 cD cD c.af.a1) 248;have jW:=(((kp gj).trans hE).trans hS).o6 (aw (q9 cD cD c.af.a1) 248) 8;have k1:(R L).size<=(R E).size:=(((kp gj).trans hE).trans hS).b5;cases I:c.f ⟨#[105,116]⟩with
 |true=>
  have k7:ag (c.t ⟨#[105,116]⟩=c.g):=by show _=_;simp[au.t,I,au.g]
  have hV:ag (c.x=c.g.c5 ⟨#[46]⟩):=by show _=_;simp[au.x,I]
  have hZ:ag (c.j4=cD):=by show _=_;simp[au.j4,I]
  have lo:ag (c.f ⟨#[105,116]⟩=true):=I;clear I kr kx hE hS i0 i1 dt;refine(fq i2 G.b8 _).mono ?_;rintro e tI ⟨rfl,gC,gE⟩;rw[lo.out];rw[k7.out]at gC;have gF:=gE.z gg jt;go_wp2_with fail;refine(oA gC G.b8 _).mono ?_;rintro e p ⟨rfl,ih,gL⟩;have b:Gg H L d c.j4 c.af.a1 c.x _ _ _ p:=⟨hV.out▸ih,(jW.trans gE).trans gL,by rw[hZ.out];exact gL.z gg gF,gg,k1⟩;go_wp2_with fail;have J:M c.x.aC<=100000:=iZ;have l8:c2 c.x.aT:=by rw[xw];exact G
  have me:c.x.af.ao<=2->c.x.al+1<M c.x.aT:=λgf=>l8.b8.q b.aV.cY gf
  generalize iR:c.x=a at*;generalize iU:c.j4=mn at*;have q:ag (c.x=a):=iR;have K:ag (c.j4=mn):=iU;clear iR iU;generalize aO (aO H ((R L).size+1) 7) (R E).size 8=r at*;generalize(R E).size=l at*;have mO:=b.aV.aa 2;have mR:=b.aV.aa 1;simp[cp]at mO mR;have t8:=b.aV.ax.b 1;have ub:=b.aV.ax.am;have ug:=b.ax.am;have mY:d≠l:=λe=>by have:=b.aV.dN;rw[e,b.ab]at this;cases this
  have uY:=hO mY;have m5:=b.ax.aa 0;have ne:=b.ax.aa 1;have nB:=b.ax.aa 2;have nG:=b.ax.aa 3;have oa:=b.ax.aa 4;have ob:=b.ax.aa 5;have oH:=b.ax.aa 6;have vE:=b.ax.b 5;simp[q9]at m5 ne nB nG oa ob oH;have wz:=b.aV.cY;have wB:=b.aV.ia;have xf:l<(R p).size+1:=T;have xk:d<(R p).size+1:=T;clear ih gL gF gC gE jW jt i2 hV hZ iZ;refine(fJ b.aV).mono ?_;rintro e xr ⟨rfl,m,rfl⟩;have s:ag (∀F:Bool,(a.af.ao=0->a.bk<0->(aJ a.af.a8==[97]||aJ a.af.a8==[98]||aJ a.af.a8==[99]||aJ a.af.a8==[116])=F)->(¬a.af.ao=0->F=false)->(¬a.bk<0->F=false)->(a.af.hV&&decide (a.bk<0))=F):=by intro F g1 hu ys;by_cases gf:a.af.ao=0<;>by_cases yC:a.bk<0<;>simp_all [bN.hV]
  by_cases w:a.af.ao=0
  ·have oS:((a.af.ao:Int)!=0)=false:=by simp[w]
   have x:ag (a.af.ao=0):=w;clear w;by_cases y:a.bk<0
   ·have P:ag (a.al+1<M a.aT):=me (by rw[x.out];decide);by_cases z:aJ a.af.a8=[97]
    ·have o6:(aJ a.af.a8==[97])=true:=by simp[z]
     have f:ag ((a.af.hV&&decide (a.bk<0))=true):=s.out true (λ_ _=>by simp[z]) (λh=>absurd x.out h) (λh=>absurd y h);clear z;go_wp2_with fail;have t:bQ r (ay p ⟨d,1,none⟩ (O Q (a.al+1))) d o a.g:=b.aV.gE (bW:=a.g) 1 _ mg rfl rfl rfl rfl rfl rfl P.out b.aV.ej;have j:=(((t.A (ai:=⟨l,5,none⟩) b.ab (az a.af.a8)).a m).a (aw (ds a) 150)).e;have k:=(((((b.bo.v (ai:=⟨d,1,none⟩) b.aV.K (O Q (a.al+1))).D (ai:=⟨l,5,none⟩) b.bT (az a.af.a8)).a m).a (aw (ds a) 150)).e);unfold ds at j k;refine(ic j _ _ _ _ _ _ _ (by show(M a.aC)<=100000;exact J)).mono ?_;rintro e A ⟨rfl,u,v,g,i⟩;go_wp2_with fail;go_ret;rw[q.out,K.out];exact Or.inr ⟨f.out,rfl,u,v,g,k.trans i⟩
    have o6:(aJ a.af.a8==[97])=false:=by simp[z]
    by_cases B:aJ a.af.a8=[98]
    ·have pa:(aJ a.af.a8==[98])=true:=by simp[B]
     have f:ag ((a.af.hV&&decide (a.bk<0))=true):=s.out true (λ_ _=>by simp[B]) (λh=>absurd x.out h) (λh=>absurd y h);clear B;go_wp2_with fail;have t:bQ r (ay p ⟨d,1,none⟩ (O Q (a.al+1))) d o a.g:=b.aV.gE (bW:=a.g) 1 _ mg rfl rfl rfl rfl rfl rfl P.out b.aV.ej;have j:=(((t.A (ai:=⟨l,5,none⟩) b.ab (az a.af.a8)).a m).a (aw (ds a) 150)).e;have k:=(((((b.bo.v (ai:=⟨d,1,none⟩) b.aV.K (O Q (a.al+1))).D (ai:=⟨l,5,none⟩) b.bT (az a.af.a8)).a m).a (aw (ds a) 150)).e);unfold ds at j k;refine(ic j _ _ _ _ _ _ _ (by show(M a.aC)<=100000;exact J)).mono ?_;rintro e A ⟨rfl,u,v,g,i⟩;go_wp2_with fail;go_ret;rw[q.out,K.out];exact Or.inr ⟨f.out,rfl,u,v,g,k.trans i⟩
    have pa:(aJ a.af.a8==[98])=false:=by simp[B]
    by_cases C:aJ a.af.a8=[99]
    ·have py:(aJ a.af.a8==[99])=true:=by simp[C]
     have f:ag ((a.af.hV&&decide (a.bk<0))=true):=s.out true (λ_ _=>by simp[C]) (λh=>absurd x.out h) (λh=>absurd y h);clear C;go_wp2_with fail;have t:bQ r (ay p ⟨d,1,none⟩ (O Q (a.al+1))) d o a.g:=b.aV.gE (bW:=a.g) 1 _ mg rfl rfl rfl rfl rfl rfl P.out b.aV.ej;have j:=(((t.A (ai:=⟨l,5,none⟩) b.ab (az a.af.a8)).a m).a (aw (ds a) 150)).e;have k:=(((((b.bo.v (ai:=⟨d,1,none⟩) b.aV.K (O Q (a.al+1))).D (ai:=⟨l,5,none⟩) b.bT (az a.af.a8)).a m).a (aw (ds a) 150)).e);unfold ds at j k;refine(ic j _ _ _ _ _ _ _ (by show(M a.aC)<=100000;exact J)).mono ?_;rintro e A ⟨rfl,u,v,g,i⟩;go_wp2_with fail;go_ret;rw[q.out,K.out];exact Or.inr ⟨f.out,rfl,u,v,g,k.trans i⟩
    have py:(aJ a.af.a8==[99])=false:=by simp[C]
    by_cases D:aJ a.af.a8=[116]
    ·have pF:(aJ a.af.a8==[116])=true:=by simp[D]
     have f:ag ((a.af.hV&&decide (a.bk<0))=true):=s.out true (λ_ _=>by simp[D]) (λh=>absurd x.out h) (λh=>absurd y h);clear D;go_wp2_with fail;have t:bQ r (ay p ⟨d,1,none⟩ (O Q (a.al+1))) d o a.g:=b.aV.gE (bW:=a.g) 1 _ mg rfl rfl rfl rfl rfl rfl P.out b.aV.ej;have j:=(((t.A (ai:=⟨l,5,none⟩) b.ab (az a.af.a8)).a m).a (aw (ds a) 150)).e;have k:=(((((b.bo.v (ai:=⟨d,1,none⟩) b.aV.K (O Q (a.al+1))).D (ai:=⟨l,5,none⟩) b.bT (az a.af.a8)).a m).a (aw (ds a) 150)).e);unfold ds at j k;refine(ic j _ _ _ _ _ _ _ (by show(M a.aC)<=100000;exact J)).mono ?_;rintro e A ⟨rfl,u,v,g,i⟩;go_wp2_with fail;go_ret;rw[q.out,K.out];exact Or.inr ⟨f.out,rfl,u,v,g,k.trans i⟩
    have pF:(aJ a.af.a8==[116])=false:=by simp[D]
    have f:ag ((a.af.hV&&decide (a.bk<0))=false):=s.out false (λ_ _=>by simp[z,B,C,D]) (λ_=>rfl) (λ_=>rfl);clear z B C D;go_wp2_with(go_at_call 97;refine(lb ((b.aV.a _).a _).e).mono ?_;rintro e A ⟨rfl,g,i⟩);go_ret;rw[q.out];exact Or.inl ⟨f.out,rfl,r,o,g,(((b.bo.a _).a _).e).trans i⟩
   ·have f:ag ((a.af.hV&&decide (a.bk<0))=false):=s.out false (λ_ h=>absurd h y) (λ_=>rfl) (λ_=>rfl);have y2:0<=a.bk:=T;clear y;go_wp2_with(go_at_call 97;refine(lb ((b.aV.a _).a _).e).mono ?_;rintro e A ⟨rfl,g,i⟩);go_ret;rw[q.out];exact Or.inl ⟨f.out,rfl,r,o,g,(((b.bo.a _).a _).e).trans i⟩
  ·have f:ag ((a.af.hV&&decide (a.bk<0))=false):=s.out false (λh=>absurd h w) (λ_=>rfl) (λ_=>rfl);have oS:((a.af.ao:Int)!=0)=true:=by rw[bne_iff_ne];omega
   have x:ag (¬a.af.ao=0):=w;clear w;go_wp2_with(go_at_call 97;refine(lb ((b.aV.a _).a _).e).mono ?_;rintro e A ⟨rfl,g,i⟩);go_ret;rw[q.out];exact Or.inl ⟨f.out,rfl,r,o,g,(((b.bo.a _).a _).e).trans i⟩
 |false=>
  have k7:ag (c.t ⟨#[105,116]⟩=c):=by show _=_;simp[au.t,I]
  have hV:ag (c.x=c.hE.c5 ⟨#[46]⟩):=by show _=_;simp[au.x,I]
  have hZ:ag (c.j4=c.gL):=by show _=_;simp[au.j4,I]
  have lo:ag (c.f ⟨#[105,116]⟩=false):=I;clear I kr kx hE hS i0 i1 dt;refine(fq i2 G.b8 _).mono ?_;rintro e tI ⟨rfl,gC,gE⟩;rw[lo.out];rw[k7.out]at gC;have gF:=gE.z gg jt;go_wp2_with fail;refine(uw gC G.b8 G.b5).mono ?_;rintro e Aq ⟨rfl,qp,pR⟩;have j4:=pR.z gg gF;have qt:=j4.aa 4;have y5:=j4.b 4;simp[q9]at qt;go_wp2_with fail;have qP:=qp.A (ai:=⟨(R E).size,4,none⟩) gg (az c.gL);have pU:=j4.j 4 (az c.gL);have qW:=((jW.trans gE).trans pR).D (ai:=⟨(R E).size,4,none⟩) k1 (az c.gL);have zc:c2 c.hE.aT:=by rw[p0];exact G
  clear pR j4 qp qt y5 gF;refine(oA qP zc.b8 _).mono ?_;rintro e p ⟨rfl,ih,gL⟩;have b:Gg H L d c.j4 c.af.a1 c.x _ _ _ p:=⟨hV.out▸ih,qW.trans gL,by rw[hZ.out];have:=gL.z gg pU;simpa[q9]using this,gg,k1⟩;clear qP qW;have gF:=pU;clear pU;go_wp2_with fail;have J:M c.x.aC<=100000:=iZ;have l8:c2 c.x.aT:=by rw[xw];exact G
  have me:c.x.af.ao<=2->c.x.al+1<M c.x.aT:=λgf=>l8.b8.q b.aV.cY gf
  generalize iR:c.x=a at*;generalize iU:c.j4=mn at*;have q:ag (c.x=a):=iR;have K:ag (c.j4=mn):=iU;clear iR iU;generalize aO (aO H ((R L).size+1) 7) (R E).size 8=r at*;generalize(R E).size=l at*;have mO:=b.aV.aa 2;have mR:=b.aV.aa 1;simp[cp]at mO mR;have t8:=b.aV.ax.b 1;have ub:=b.aV.ax.am;have ug:=b.ax.am;have mY:d≠l:=λe=>by have:=b.aV.dN;rw[e,b.ab]at this;cases this
  have uY:=hO mY;have m5:=b.ax.aa 0;have ne:=b.ax.aa 1;have nB:=b.ax.aa 2;have nG:=b.ax.aa 3;have oa:=b.ax.aa 4;have ob:=b.ax.aa 5;have oH:=b.ax.aa 6;have vE:=b.ax.b 5;simp[q9]at m5 ne nB nG oa ob oH;have wz:=b.aV.cY;have wB:=b.aV.ia;have xf:l<(R p).size+1:=T;have xk:d<(R p).size+1:=T;clear ih gL gF gC gE jW jt i2 hV hZ iZ;refine(fJ b.aV).mono ?_;rintro e xr ⟨rfl,m,rfl⟩;have s:ag (∀F:Bool,(a.af.ao=0->a.bk<0->(aJ a.af.a8==[97]||aJ a.af.a8==[98]||aJ a.af.a8==[99]||aJ a.af.a8==[116])=F)->(¬a.af.ao=0->F=false)->(¬a.bk<0->F=false)->(a.af.hV&&decide (a.bk<0))=F):=by intro F g1 hu ys;by_cases gf:a.af.ao=0<;>by_cases yC:a.bk<0<;>simp_all [bN.hV]
  by_cases w:a.af.ao=0
  ·have oS:((a.af.ao:Int)!=0)=false:=by simp[w]
   have x:ag (a.af.ao=0):=w;clear w;by_cases y:a.bk<0
   ·have P:ag (a.al+1<M a.aT):=me (by rw[x.out];decide);by_cases z:aJ a.af.a8=[97]
    ·have o6:(aJ a.af.a8==[97])=true:=by simp[z]
     have f:ag ((a.af.hV&&decide (a.bk<0))=true):=s.out true (λ_ _=>by simp[z]) (λh=>absurd x.out h) (λh=>absurd y h);clear z;go_wp2_with fail;have t:bQ r (ay p ⟨d,1,none⟩ (O Q (a.al+1))) d o a.g:=b.aV.gE (bW:=a.g) 1 _ mg rfl rfl rfl rfl rfl rfl P.out b.aV.ej;have j:=(((t.A (ai:=⟨l,5,none⟩) b.ab (az a.af.a8)).a m).a (aw (ds a) 150)).e;have k:=(((((b.bo.v (ai:=⟨d,1,none⟩) b.aV.K (O Q (a.al+1))).D (ai:=⟨l,5,none⟩) b.bT (az a.af.a8)).a m).a (aw (ds a) 150)).e);unfold ds at j k;refine(ic j _ _ _ _ _ _ _ (by show(M a.aC)<=100000;exact J)).mono ?_;rintro e A ⟨rfl,u,v,g,i⟩;go_wp2_with fail;go_ret;rw[q.out,K.out];exact Or.inr ⟨f.out,rfl,u,v,g,k.trans i⟩
    have o6:(aJ a.af.a8==[97])=false:=by simp[z]
    by_cases B:aJ a.af.a8=[98]
    ·have pa:(aJ a.af.a8==[98])=true:=by simp[B]
     have f:ag ((a.af.hV&&decide (a.bk<0))=true):=s.out true (λ_ _=>by simp[B]) (λh=>absurd x.out h) (λh=>absurd y h);clear B;go_wp2_with fail;have t:bQ r (ay p ⟨d,1,none⟩ (O Q (a.al+1))) d o a.g:=b.aV.gE (bW:=a.g) 1 _ mg rfl rfl rfl rfl rfl rfl P.out b.aV.ej;have j:=(((t.A (ai:=⟨l,5,none⟩) b.ab (az a.af.a8)).a m).a (aw (ds a) 150)).e;have k:=(((((b.bo.v (ai:=⟨d,1,none⟩) b.aV.K (O Q (a.al+1))).D (ai:=⟨l,5,none⟩) b.bT (az a.af.a8)).a m).a (aw (ds a) 150)).e);unfold ds at j k;refine(ic j _ _ _ _ _ _ _ (by show(M a.aC)<=100000;exact J)).mono ?_;rintro e A ⟨rfl,u,v,g,i⟩;go_wp2_with fail;go_ret;rw[q.out,K.out];exact Or.inr ⟨f.out,rfl,u,v,g,k.trans i⟩
    have pa:(aJ a.af.a8==[98])=false:=by simp[B]
    by_cases C:aJ a.af.a8=[99]
    ·have py:(aJ a.af.a8==[99])=true:=by simp[C]
     have f:ag ((a.af.hV&&decide (a.bk<0))=true):=s.out true (λ_ _=>by simp[C]) (λh=>absurd x.out h) (λh=>absurd y h);clear C;go_wp2_with fail;have t:bQ r (ay p ⟨d,1,none⟩ (O Q (a.al+1))) d o a.g:=b.aV.gE (bW:=a.g) 1 _ mg rfl rfl rfl rfl rfl rfl P.out b.aV.ej;have j:=(((t.A (ai:=⟨l,5,none⟩) b.ab (az a.af.a8)).a m).a (aw (ds a) 150)).e;have k:=(((((b.bo.v (ai:=⟨d,1,none⟩) b.aV.K (O Q (a.al+1))).D (ai:=⟨l,5,none⟩) b.bT (az a.af.a8)).a m).a (aw (ds a) 150)).e);unfold ds at j k;refine(ic j _ _ _ _ _ _ _ (by show(M a.aC)<=100000;exact J)).mono ?_;rintro e A ⟨rfl,u,v,g,i⟩;go_wp2_with fail;go_ret;rw[q.out,K.out];exact Or.inr ⟨f.out,rfl,u,v,g,k.trans i⟩
    have py:(aJ a.af.a8==[99])=false:=by simp[C]
    by_cases D:aJ a.af.a8=[116]
    ·have pF:(aJ a.af.a8==[116])=true:=by simp[D]
     have f:ag ((a.af.hV&&decide (a.bk<0))=true):=s.out true (λ_ _=>by simp[D]) (λh=>absurd x.out h) (λh=>absurd y h);clear D;go_wp2_with fail;have t:bQ r (ay p ⟨d,1,none⟩ (O Q (a.al+1))) d o a.g:=b.aV.gE (bW:=a.g) 1 _ mg rfl rfl rfl rfl rfl rfl P.out b.aV.ej;have j:=(((t.A (ai:=⟨l,5,none⟩) b.ab (az a.af.a8)).a m).a (aw (ds a) 150)).e;have k:=(((((b.bo.v (ai:=⟨d,1,none⟩) b.aV.K (O Q (a.al+1))).D (ai:=⟨l,5,none⟩) b.bT (az a.af.a8)).a m).a (aw (ds a) 150)).e);unfold ds at j k;refine(ic j _ _ _ _ _ _ _ (by show(M a.aC)<=100000;exact J)).mono ?_;rintro e A ⟨rfl,u,v,g,i⟩;go_wp2_with fail;go_ret;rw[q.out,K.out];exact Or.inr ⟨f.out,rfl,u,v,g,k.trans i⟩
    have pF:(aJ a.af.a8==[116])=false:=by simp[D]
    have f:ag ((a.af.hV&&decide (a.bk<0))=false):=s.out false (λ_ _=>by simp[z,B,C,D]) (λ_=>rfl) (λ_=>rfl);clear z B C D;go_wp2_with(go_at_call 97;refine(lb ((b.aV.a _).a _).e).mono ?_;rintro e A ⟨rfl,g,i⟩);go_ret;rw[q.out];exact Or.inl ⟨f.out,rfl,r,o,g,(((b.bo.a _).a _).e).trans i⟩
   ·have f:ag ((a.af.hV&&decide (a.bk<0))=false):=s.out false (λ_ h=>absurd h y) (λ_=>rfl) (λ_=>rfl);have y2:0<=a.bk:=T;clear y;go_wp2_with(go_at_call 97;refine(lb ((b.aV.a _).a _).e).mono ?_;rintro e A ⟨rfl,g,i⟩);go_ret;rw[q.out];exact Or.inl ⟨f.out,rfl,r,o,g,(((b.bo.a _).a _).e).trans i⟩
  ·have f:ag ((a.af.hV&&decide (a.bk<0))=false):=s.out false (λh=>absurd h w) (λ_=>rfl) (λ_=>rfl);have oS:((a.af.ao:Int)!=0)=true:=by rw[bne_iff_ne];omega
   have x:ag (¬a.af.ao=0):=w;clear w;go_wp2_with(go_at_call 97;refine(lb ((b.aV.a _).a _).e).mono ?_;rintro e A ⟨rfl,g,i⟩);go_ret;rw[q.out];exact Or.inl ⟨f.out,rfl,r,o,g,(((b.bo.a _).a _).e).trans i⟩
