import Derived.Test.YtddbjcfdmdbmkaaGreatDoorB03
import Derived.Lib.Strings
set_option linter.all false
set_option maxRecDepth 100000
namespace Go.Proofs.YtddbjcfdmdbmkaaGreatDoor
open Go.RowKit Go.Proofs.Tryz
open Go renaming Value->an,World->aq
open Go.Value renaming int->O,slice->U,string->az,ownBlock->ap
open _root_.ByteArray renaming size->aW,toList->aJ
open Go.World renaming cell?->aK,grownBy->b_,setCell->ay
open List renaming length->M
variable{bK:List ByteArray}{aG Y aQ:ByteArray}{D o W gL hu ai y w H:Nat}{L gC gF:aq}{x:Nat->Nat}{z:bN}{b G hZ:au}{gj:List eV}{F:Bool}
structure co where
 ao:Nat
 aX:Nat
 bn:ByteArray
variable{j:List co}
def co.h(a:co):List an:=[O .i64 a.ao,O .i64 a.aX,az a.bn]
theorem zn{ai:Prop}(h:ai:=by simp[co.h,Value.oneCell']):ai:=h
instance:Inhabited co:=⟨⟨0,0,ByteArray.empty⟩⟩
def mq:List UInt8:=[40,41,124,58,46,43,45,42,47,61]
def i6(a:ByteArray):Bool:=lH.any λc=>aJ a==aJ c
def cT(a:UInt8->Bool)(c:ByteArray):Nat:=da a c 0
def nf(a:ByteArray):Nat×Nat:=
 if i6 (a.extract 0 (cT ch a))then(4,cT ch a)else if 8<cT ch a then(0,cT ch a)else(3,cT ch a)
def lA(a:ByteArray):Nat×Nat:=if 9<cT cQ a then(0,cT cQ a)else(2,cT cQ a)
def jv(a:ByteArray):Bool:=decide (1<aW a)&&(a.data.toList.getD 1 0==61)
def gu(c:ByteArray):Nat×Nat:=
 let a:=c.data.toList.getD 0 0
 if ch a then nf c
 else if cQ a then lA c
 else if a==33 then(if jv c then(5,2)else(0,1))
 else if a==60||a==62 then(if jv c then(5,2)else(5,1))
 else if fI a mq then(5,1)else(0,1)
def fC(a:ByteArray):Nat×Nat:=if(aW a)=0 then(1,0)else gu a
def eb(a:ByteArray)(d:Nat):co:=
 let c:=da fs a d
 ⟨(fC (a.extract c (aW a))).1,c,a.extract c (c+(fC (a.extract c (aW a))).2)⟩
def fw(a:ByteArray):Nat->Nat->List co
 |0,_=>[]
 |d+1,c=>if(eb a c).ao<=1 then [eb a c]else eb a c::fw a d ((eb a c).aX+aW (eb a c).bn)
def fh(a:ByteArray):List co:=fw a (aW a+1) 0
structure c0 where
 g8:ByteArray
 lM:Nat
 name:ByteArray
 aX:Nat
def c0.h(a:c0):List an:=[az a.g8,O .i64 a.lM,az a.name,O .i64 a.aX]
instance:Inhabited c0:=⟨⟨⟨#[]⟩,0,⟨#[]⟩,0⟩⟩
inductive aB where
 |fA (name:ByteArray) (aX bG ao:Nat) (bB:List c0) (cv:List (List aB)):aB
def aB.name:aB->ByteArray|.fA a _ _ _ _ _=>a
def aB.aX:aB->Nat|.fA _ a _ _ _ _=>a
def aB.bG:aB->Nat|.fA _ _ a _ _ _=>a
def aB.ao:aB->Nat|.fA _ _ _ a _ _=>a
def aB.bB:aB->List c0|.fA _ _ _ _ a _=>a
def aB.cv:aB->List (List aB)|.fA _ _ _ _ _ a=>a
instance:Inhabited aB:=⟨.fA ⟨#[]⟩ 0 0 0 [] []⟩
structure aA where
 a7:List co
 bU:Nat
 fZ:Option Nat
 e1:Option Nat
 cU:Option (List c0)
variable{V q u bW hE hV:aA}
variable{ah:aA->aA}
variable{gf:aA->aA×List aB}
def aA.af(a:aA):co:=a.a7.headD default
def aA.c(a:aA):aA:={a with a7:=a.a7.tail}
def aA.P(a:aA):aA:={a with a7:=[⟨0,a.af.aX,⟨#[]⟩⟩]}
def aA.m(a:aA)(d:List ByteArray):Bool:=d.any λe=>aJ e==aJ a.af.bn
def aA.dE(a:aA)(d:List ByteArray):aA:=if a.m d then a.c else a
def aA.I(a:aA)(d:List ByteArray):ByteArray:=if a.m d then a.af.bn else⟨#[]⟩
def aA.bx(a:aA)(d:List ByteArray):aA:=if a.m d then a.c else a.P
def kR(a:Option Nat)(c:Nat):Option Nat:=match a with|none=>some c|some d=>some d
def fx(a:ByteArray):Nat:=a.data.toList.foldl (λc d=>10*c+(d.toNat-48)) 0
def aA.k(a:aA):Nat:=if a.af.ao=2 then fx a.af.bn else 0
def aA.bp(a:aA)(d e:Nat):aA:=
 if a.af.ao=2 then{a.c with e1:=if fx a.af.bn<d\/e<fx a.af.bn then kR a.e1 a.af.aX else a.e1}else a.P
def aA.p(a:aA):aA:={a.c with bU:=a.bU+1,fZ:=if 8<=a.bU then kR a.fZ a.af.aX else a.fZ}
def aA.J(a:aA):aA:={a with bU:=a.bU-1}
def aA.aO(a:aA)(d:c0):aA:={a with cU:=a.cU.map (·++[d])}
def iI:ByteArray:=⟨#[111,114]⟩
def lT:ByteArray:=⟨#[97,110,100]⟩
def kd:ByteArray:=⟨#[105,102]⟩
def kg:ByteArray:=⟨#[116,104,101,110]⟩
def hX:ByteArray:=⟨#[116,105,109,101,115]⟩
def kK:ByteArray:=⟨#[110,111,116]⟩
def pb:ByteArray:=⟨#[105,116]⟩
def gy:ByteArray:=⟨#[119,105,116,104,105,110]⟩
def ix:ByteArray:=⟨#[114,97,116,101]⟩
def gM:ByteArray:=⟨#[45]⟩
def nc:ByteArray:=⟨#[43]⟩
def m9:ByteArray:=⟨#[42]⟩
def m3:ByteArray:=⟨#[47]⟩
def hk:ByteArray:=⟨#[40]⟩
def d9:ByteArray:=⟨#[41]⟩
def dO:ByteArray:=⟨#[124]⟩
def dp:ByteArray:=⟨#[58]⟩
def g6:ByteArray:=⟨#[46]⟩
def pT:ByteArray:=⟨#[112,117,115,104]⟩
def nS:ByteArray:=⟨#[111,112,112,111,115,105,116,101]⟩
def gz:List ByteArray:=[⟨#[61]⟩,⟨#[33,61]⟩,⟨#[60]⟩,⟨#[60,61]⟩,⟨#[62]⟩,⟨#[62,61]⟩]
def fz:List ByteArray:=[⟨#[97]⟩,⟨#[98]⟩,⟨#[99]⟩,⟨#[116]⟩]
def co.bH(a:co)(c:ByteArray):Bool:=aJ a.bn==aJ c
def jw(c:aA->aA)(d:List ByteArray):Nat->aA->aA
 |0,a=>a
 |e+1,a=>if a.m d then jw c d e ((c a.c).aO ⟨a.af.bn,0,⟨#[]⟩,0⟩)else a
def jS(a:aA->aA)(d:List ByteArray)(c:aA):aA:=jw a d (M (a c).a7) (a c)
def jy(a:aA)(name:ByteArray)(c:Nat):aA:=
 (a.c.bx [g6]|>.bx fz).aO ⟨(a.c.bx [g6]).I fz,0,name,c⟩
def yt(ah:aA->aA):aA->aA:=jS ah [m9,m3]
def gU(ah:aA->aA):aA->aA:=jS (yt ah) [nc,gM]
def dS:Nat->aA->aA
 |0,a=>a
 |c+1,a=>
  if a.af.ao=2 then(a.bp 0 999999999).aO ⟨pT,a.k,⟨#[]⟩,0⟩
  else if a.af.bH gM then(dS c a.p).J.aO ⟨nS,0,⟨#[]⟩,0⟩
  else if a.af.bH hk then((gU (dS c) a.p).bx [d9]).J
  else if a.af.ao=3 then jy a a.af.bn a.af.aX
  else if a.af.bH pb then jy a ⟨#[]⟩ 0
  else a.P
def oR(ah:aA->aA)(a:aA):aA:=
 (gU ah ((gU ah a).bx gz)).aO ⟨(gU ah a).I gz,0,⟨#[]⟩,0⟩
def nW(ah:aA->aA):aA->aA:=jS (oR ah) [lT]
def el(c:Nat)(a:aA):aA:=
 if a.m [kd]then jS (nW (dS c)) [iI] {a.c with cU:=some []}else{a with cU:=some []}
def aA.hS(a:aA):aA:={a with cU:=none}
def aA.gg(a:aA):List c0:=a.cU.getD []
def gS(d:Nat)(c:aA):aA×aB:=
 let a:=(c.c.bx [dp]).bp 0 99
 let f:=(c.c.bx [dp]).k
 let e:=if a.m [hX]then a.c.bp 1 4 else a
 let g:=if a.m [hX]then a.c.k else 1
 ((el d e).hS,.fA c.af.bn c.af.aX g f (el d e).gg [])
def iE(c:Nat)(a:aA):aA×aB:=
 let d:=a.c.bp 0 99
 ((el c d).hS,.fA ⟨#[]⟩ a.af.aX 0 a.c.k (el c d).gg [])
def gn(d:aA->aA×aB):Nat->aA->List aB->aA×List aB
 |0,a,c=>(a,c)
 |e+1,a,c=>if a.m [kg]then gn d e (d a.c).1 (c++[(d a.c).2])else(a,c)
def km(a:aA->aA×aB)(c:aA):aA×List aB:=gn a (M (a c).1.a7) (a c).1 [(a c).2]
def fm(d:aA->aA×List aB):Nat->aA->List (List aB)->aA×List (List aB)
 |0,a,c=>(a,c)
 |e+1,a,c=>if a.m [dO]then fm d e (d a.c).1 (c++[(d a.c).2])else(a,c)
def h9(a:aA->aA×List aB)(f:aA):aA×aB:=
 let d:=a f.p
 let c:=a (d.1.bx [dO])
 let e:=fm a (M c.1.a7) c.1 [d.2,c.2]
 ((e.1.bx [d9]).J,.fA ⟨#[]⟩ 0 0 0 [] e.2)
def ha:Nat->aA->aA×aB
 |0,a=>(a,default)
 |c+1,a=>
  if a.af.ao=3 then gS c a
  else if a.af.bH kK then iE c a
  else if a.af.bH hk then h9 (km (ha c)) a
  else(a.P,default)
structure it where
 bd:Nat
 aZ:Nat
 cJ:List aB
def l1(e:Nat)(f:aA):aA×it:=
 let a:=f.bx [gy]
 let c:=(a.bp 1 1000000).bx [ix]
 let d:=km (ha e) (c.bp 1 12)
 (d.1,⟨a.k,c.k,d.2⟩)
def gD(a:List co):aA:=⟨a,0,none,none,some []⟩
def go(d:List co):(it×Nat)⊕(Nat×Nat):=
 let a:=l1 (M d) (gD d)
 if a.1.af.ao≠1 then .inr (a.1.af.aX,1)
 else match a.1.fZ with
  |some c=>.inr (c,2)
  |none=>match a.1.e1 with
   |some c=>.inr (c,3)
   |none=>.inl (a.2,0)
def dd:List ByteArray:=[iI,lT,kd,kg,hX,kK,pb,gy,ix,gM,nc,m9,m3,hk,d9,dO,dp,g6]++gz++fz
theorem bJ{ai:Prop}(h:ai:=by simp[dd]):ai:=h
theorem rG{ai:Prop}(h:ai:=by simp[dd,fz]):ai:=h
theorem uQ{ai:Prop}(h:ai:=by simp[dd,gz]):ai:=h
def mF(a:ByteArray):Prop:=1<=aW a/\aW a<=9/\∀c∈a.data.toList,cQ c=true
def Ez(a:co):Prop:=2<=a.ao/\(a.ao=2->mF a.bn)
def G9(a:co):Prop:=a.ao<=1/\∀c∈dd,(aJ c==aJ a.bn)=false
def dw:List co->Prop
 |[]=>False
 |[a]=>G9 a
 |a::c::d=>Ez a/\dw (c::d)
theorem dw.a1(h:dw j):0<M j:=by cases j with|nil=>exact h.elim|cons _ _=>simp
theorem dw.mn(h:dw j)(a:2<=M j):dw j.tail:=by
 match j,h with
 |[_],_=>simp at a
 |_::_::_,h=>exact h.2
theorem dw.f9{j:List co}(h:dw j)(a:2<=(j.headD default).ao):2<=M j:=by
 match j,h with
 |[aG],h=>have:=h.1;simp at a;omega
 |_::_::_,_=>simp
theorem dw.RU(h:dw j)(a:(j.headD default).ao=2):mF (j.headD default).bn:=by
 match j,h with
 |[aG],h=>have:=h.1;simp at a;omega
 |_::_::_,h=>exact h.1.2 a
theorem dw.m(h:dw V.a7)(d:∀aG∈bK,aG∈dd)(a:V.m bK=true):2<=M V.a7:=by
 obtain⟨e,_,_,_,_⟩:=V
 match e,h with
 |[aG],h=>simp only[aA.m,jf,aA.af,List.headD]at a;obtain⟨b,f,c⟩:=a;rw[h.2 b (d b f)]at c;cases c
 |_::_::_,_=>simp
theorem dw.bH(h:dw V.a7)(b:aG∈dd)(a:V.af.bH aG=true):2<=M V.a7:=by refine h.m (bK:=[aG]) (by simpa using b) ?_;simp only[aA.m,oo,qh,oZ];simp only[co.bH,gT]at a⊢;exact a.symm
theorem wI:(dd.all λY=>!(aJ Y==aJ ⟨#[]⟩))=true:=by kernel_rfl
theorem Cj(ai:Nat):dw [⟨0,ai,⟨#[]⟩⟩]:=⟨av,λY a=>by have:=lq.1 wI Y a;simpa using this⟩
def aA.dL(a:aA):Nat:=M a.gg+2*M a.a7
structure ig (QX:Nat) (V bW:aA):Prop where
 bq:dw bW.a7
 b0:bW.a7.length<=V.a7.length
 dL:bW.dL<=V.dL+QX
 bU:bW.bU=V.bU
 cF:V.cU.isSome=true->bW.cU.isSome=true
theorem ig.l(h:dw V.a7):ig 0 V V:=⟨h,aN _,T,rfl,id⟩
theorem ig.trans{e:Nat}{o:aA}(h:ig D q o)(Y:ig e o u):ig (D+e) q u:=
 ⟨Y.bq,bS Y.b0 h.b0,by have:=h.dL;have:=Y.dL;omega,Y.bU.trans h.bU,λa=>Y.cF (h.cF a)⟩
theorem ig.cE{e:Nat}{o:aA}(h:ig D q o)(a:D<=e):ig e q o:=⟨h.bq,h.b0,by have:=h.dL;omega,h.bU,h.cF⟩
theorem hm(V:aA):V.c.a7.length=M V.a7-1:=by simp[aA.c]
theorem rN(a:2<=M V.a7):V.c.dL+2=V.dL:=by simp only[aA.dL,aA.gg,aA.c,wA];omega
theorem iu(h:dw V.a7)(a:2<=M V.a7):ig 0 V V.c:=
 ⟨h.mn a,by rw[hm];omega,by have:=rN a;omega,rfl,id⟩
theorem xK(h:dw V.a7):ig 0 V V.P:=
 ⟨Cj _,h.a1,by have:=h.a1;simp only[aA.dL,aA.gg,aA.P,dT,d5];omega,rfl,id⟩
theorem hd(h:dw V.a7)(a:∀aG∈bK,aG∈dd):ig 0 V (V.bx bK):=by
 unfold aA.bx;split
 ·rename_i b;exact iu h (h.m a b)
 ·exact xK h
theorem jd(h:dw V.a7)(y w:Nat):ig 0 V (V.bp y w):=by
 unfold aA.bp;split
 ·rename_i b;have a:=iu h (h.f9 (by show 2<=V.af.ao;omega));exact⟨a.bq,a.b0,a.dL,a.bU,a.cF⟩
 ·exact xK h
theorem In(h:dw V.a7)(y w:Nat)(a:V.af.ao=2):(V.bp y w).dL+2=V.dL:=by have:=rN (h.f9 (by show 2<=V.af.ao;omega));unfold aA.bp;rw[aP a];exact this
theorem R2(V:aA)(a:c0):(V.aO a).dL<=V.dL+1:=by unfold aA.dL aA.gg aA.aO;cases V.cU<;>simp<;>omega
theorem sZ(h:dw V.a7)(a:c0):ig 1 V (V.aO a):=
 ⟨h,aN _,R2 V a,rfl,λb=>by simpa[aA.aO]using b⟩
def jU(c d:Nat)(e:aA->aA):Prop:=∀a,dw a.a7->M a.a7<=c->ig d a (e a)
theorem Mm{c:aA->aA}(f:jU W D c)(k:D<=1)(g:∀aG∈bK,aG∈dd):
 ∀Y V,dw V.a7->M V.a7<=W->ig 0 V (jw c bK Y V):=by
 intro Y
 induction Y with
 |zero=>intro V h _;exact ig.l h
 |succ Y i=>
  intro V h d;unfold jw;split
  ·rename_i j;have e:=h.m g j;have a:=iu h e;have ai:=f _ a.bq (bS a.b0 d);have b:=sZ ai.bq ⟨V.af.bn,0,⟨#[]⟩,0⟩;have aQ:=i _ b.bq (bS b.b0 (bS ai.b0 (bS a.b0 d)));have q:=(a.trans ai).trans (b.trans aQ);refine⟨q.bq,q.b0,?_,q.bU,q.cF⟩;have:=rN e;have:=ai.dL;have:=b.dL;have:=aQ.dL;omega
  ·exact ig.l h
theorem vU{a:aA->aA}(b:jU W D a)(d:D<=1)(e:∀aG∈bK,aG∈dd):jU W D (jS a bK):=by intro V h c;have ai:=b V h c;have f:=Mm b d e (M (a V).a7) (a V) ai.bq (bS ai.b0 c);exact(ai.trans f).cE T
theorem FB(h:dw V.a7)(a:2<=M V.a7)(name:ByteArray)(b:Nat):ig 0 V (jy V name b):=by have c:=iu h a;have q:=hd c.bq (bK:=[g6]) bJ;have o:=hd q.bq (bK:=fz) rG;have ai:=sZ o.bq ⟨(V.c.bx [g6]).I fz,0,name,b⟩;have aG:=(c.trans q).trans (o.trans ai);refine⟨aG.bq,aG.b0,?_,aG.bU,aG.cF⟩;have:=rN a;have:=q.dL;have:=o.dL;have:=ai.dL;show(aA.aO _ _).dL<=_;omega
theorem qb:V.p.a7.length=M V.a7-1:=by simp[aA.p,aA.c]
theorem xM{ai:Prop}(h:ai:=by rw[qb];omega):ai:=h
theorem Bv(a:2<=M V.a7):V.p.dL+2=V.dL:=rN (V:=V) a
theorem BW(V:aA):V.J.dL=V.dL:=rfl
theorem Gk(a:jU W 0 ah):jU W 0 (yt ah):=vU a T bJ
theorem vN(a:jU W 0 ah):jU W 0 (gU ah):=vU (Gk a) T bJ
theorem r_:∀W,jU W 0 (dS W):=by
 intro W
 induction W with
 |zero=>intro V h g;have:=h.a1;omega
 |succ W d=>
  intro V h g;unfold dS;split
  ·rename_i f;have q:=jd h 0 999999999;have ai:=sZ q.bq ⟨pT,V.k,⟨#[]⟩,0⟩;have aG:=q.trans ai;exact⟨aG.bq,aG.b0,by have:=In h 0 999999999 f;have:=ai.dL;omega,aG.bU,aG.cF⟩
  split
  ·rename_i a;have b:=h.bH bJ a;have ah:=d V.p (h.mn b) xM;have ai:=sZ (V:=(dS W V.p).J) ah.bq ⟨nS,0,⟨#[]⟩,0⟩;refine⟨ai.bq,?_,?_,?_,λc=>ai.cF (ah.cF c)⟩
   ·have:=ai.b0;have:=ah.b0;rw[qb]at this;simp only[aA.J]at*;omega
   ·have:=ai.dL;have:=ah.dL;have:=Bv b;have:=BW (dS W V.p);omega
   ·have:=ah.bU;have:=ai.bU;simp only[aA.J,aA.p]at*;omega
  split
  ·rename_i a;have b:=h.bH bJ a;have ah:=vN d V.p (h.mn b) xM;have e:=hd ah.bq (bK:=[d9]) bJ;have aG:=ah.trans e;refine⟨aG.bq,?_,?_,?_,λc=>aG.cF c⟩
   ·have:=aG.b0;rw[qb]at this;simp only[aA.J]at*;omega
   ·have:=aG.dL;have:=Bv b;rw[BW];omega
   ·have:=aG.bU;simp only[aA.J,aA.p]at*;omega
  split
  ·rename_i f;exact FB h (h.f9 (by show 2<=V.af.ao;omega)) _ _
  split
  ·rename_i a;exact FB h (h.bH bJ a) _ _
  ·exact xK h
theorem FJ(a:jU W 0 ah):jU W 1 (oR ah):=by intro V h b;have q:=vN a V h b;have o:=hd q.bq (bK:=gz) uQ;have u:=vN a _ o.bq (bS o.b0 (bS q.b0 b));have ai:=sZ u.bq ⟨(gU ah V).I gz,0,⟨#[]⟩,0⟩;exact((q.trans o).trans (u.trans ai)).cE T
theorem zw(a:jU W 0 ah):jU W 1 (nW ah):=vU (FJ a) T bJ
structure iP (V bW:aA):Prop where
 bq:dw bW.a7
 b0:bW.a7.length<=V.a7.length
 bU:bW.bU=V.bU
theorem ig.k7{o:aA}(h:ig D q o):iP q o:=⟨h.bq,h.b0,h.bU⟩
theorem iP.l(h:dw V.a7):iP V V:=⟨h,aN _,rfl⟩
theorem iP.trans{o:aA}(h:iP q o)(Y:iP o u):iP q u:=⟨Y.bq,bS Y.b0 h.b0,Y.bU.trans h.bU⟩
theorem rP(h:dw V.a7)(c:M V.a7<=W):iP V (el W V)/\(el W V).cU.isSome=true:=by
 unfold el;split
 ·rename_i a;have b:=h.m (bK:=[kd]) bJ a;have u:=vU (zw (r_ W)) T (bK:=[iI]) bJ {V.c with cU:=some []} (h.mn b) (by simp only[aA.c,wA];omega);exact⟨⟨u.bq,bS u.b0 (by show V.a7.tail.length<=_;rw[wA];omega),u.bU⟩,u.cF rfl⟩
 ·exact⟨⟨h,aN _,rfl⟩,rfl⟩
theorem zM(h:dw V.a7):iP V V.hS:=⟨h,aN _,rfl⟩
def mf{bD:Type}(c:Nat)(d:aA->aA×bD):Prop:=∀a,dw a.a7->M a.a7<=c->iP a (d a).1
theorem Rx(h:dw V.a7)(f:2<=M V.a7)(i:M V.a7<=W+1):iP V (gS W V).1:=by
 have d:=iu h f;have u:=hd d.bq (bK:=[dp]) bJ;have q:=jd u.bq 0 99;have aG:=((d.trans u).trans q).k7;have e:M ((V.c.bx [dp]).bp 0 99).a7<=W:=by have:=q.b0;have:=u.b0;rw[hm]at this;omega
 unfold gS;simp only;by_cases a:((V.c.bx [dp]).bp 0 99).m [hX]=true
 ·simp only[a,iC];have g:=q.bq.m (bK:=[hX]) bJ a;have b:=iu q.bq g;have c:=jd b.bq 1 4;have Y:=rP (W:=W) c.bq (bS c.b0 (bS b.b0 e));exact(aG.trans ((b.trans c).k7.trans Y.1)).trans (zM Y.1.bq)
 ·simp only[a];have Y:=rP (W:=W) q.bq e;exact(aG.trans Y.1).trans (zM Y.1.bq)
theorem NK(h:dw V.a7)(b:2<=M V.a7)(c:M V.a7<=W+1):iP V (iE W V).1:=by have a:=iu h b;have q:=jd a.bq 0 99;have Y:=rP (W:=W) q.bq (by have:=q.b0;rw[hm]at this;omega);exact((a.trans q).k7.trans Y.1).trans (zM Y.1.bq)
theorem M0{b:aA->aA×aB}(d:mf W b):∀Y V j,dw V.a7->M V.a7<=W->iP V (gn b Y V j).1:=by
 intro Y
 induction Y with
 |zero=>intro V j h _;exact iP.l h
 |succ Y e=>
  intro V j h c;unfold gn;split
  ·rename_i f;have g:=h.m (bK:=[kg]) bJ f;have a:=iu h g;have ai:=d _ a.bq (bS a.b0 c);exact(a.k7.trans ai).trans (e _ _ ai.bq (bS ai.b0 (bS a.b0 c)))
  ·exact iP.l h
theorem yh{a:aA->aA×aB}(b:mf W a):mf W (km a):=by intro V h c;have ai:=b V h c;exact ai.trans (M0 b _ _ _ ai.bq (bS ai.b0 c))
theorem zN(c:mf W gf):∀Y V j,dw V.a7->M V.a7<=W->iP V (fm gf Y V j).1:=by
 intro Y
 induction Y with
 |zero=>intro V j h _;exact iP.l h
 |succ Y d=>
  intro V j h b;unfold fm;split
  ·rename_i e;have f:=h.m (bK:=[dO]) bJ e;have a:=iu h f;have ai:=c _ a.bq (bS a.b0 b);exact(a.k7.trans ai).trans (d _ _ ai.bq (bS ai.b0 (bS a.b0 b)))
  ·exact iP.l h
theorem Pt(a:mf W gf)(h:dw V.a7)(d:2<=M V.a7)(f:M V.a7<=W+1):iP V (h9 gf V).1:=by
 have b:V.p.a7.length<=W:=xM;have q:=a V.p (h.mn d) b;have o:=hd q.bq (bK:=[dO]) bJ;have c:=bS o.b0 (bS q.b0 b);have u:=a _ o.bq c;have D:=zN a (M (gf ((gf V.p).1.bx [dO])).1.a7) _ [(gf V.p).2,(gf ((gf V.p).1.bx [dO])).2] u.bq (bS u.b0 c);have e:=hd D.bq (bK:=[d9]) bJ;have aG:=((q.trans o.k7).trans (u.trans D)).trans e.k7;refine⟨aG.bq,?_,?_⟩
 ·have:=aG.b0;rw[qb]at this;show _<=_;simp only[h9,aA.J]at*;omega
 ·have:=aG.bU;simp only[h9,aA.J,aA.p]at*;omega
theorem se:∀W,mf W (ha W):=by
 intro W
 induction W with
 |zero=>intro V h a;have:=h.a1;omega
 |succ W c=>
  intro V h a;unfold ha;split
  ·rename_i d;exact Rx h (h.f9 (by show 2<=V.af.ao;omega)) a
  split
  ·rename_i b;exact NK h (h.bH bJ b) a
  split
  ·rename_i b;exact Pt (yh c) h (h.bH bJ b) a
  ·exact(xK h).k7
theorem dn(h:gC.heap[o]?=L.heap[o]?)(Y:Nat):aK gC ⟨o,Y,none⟩=aK L ⟨o,Y,none⟩:=by unfold aK;simp only[h]
structure mP (L:aq) (dF iJ:Nat) (Z:List co):Prop where
 am:dF<L.heap.size
 rI:∀dV,(h:dV<Z.length)->L.cell? ⟨dF,(iJ+dV)*3,none⟩=some (O .i64 Z[dV].ao)
 st:∀dV,(h:dV<Z.length)->L.cell? ⟨dF,(iJ+dV)*3+1,none⟩=some (O .i64 Z[dV].aX)
 ru:∀dV,(h:dV<Z.length)->L.cell? ⟨dF,(iJ+dV)*3+2,none⟩=some (az Z[dV].bn)
theorem mP.d(h:mP L gL hu j)(e:gC.heap[gL]?=L.heap[gL]?)(c:L.heap.size<=gC.heap.size):mP gC gL hu j:=
 ⟨cI h.am c,λa b=>(dn e _).trans (h.rI a b),λa b=>(dn e _).trans (h.st a b),λa b=>(dn e _).trans (h.ru a b)⟩
theorem mP.mn(h:mP L gL hu j):mP L gL (hu+1) j.tail:=by
 have e:∀a,hu+1+a=hu+(a+1):=λa=>T
 refine⟨h.am,λa b=>?_,λa b=>?_,λa b=>?_⟩<;>(rw[wA]at b;rw[e,List.getElem_tail])
 ·exact h.rI (a+1) T
 ·exact h.st (a+1) T
 ·exact h.ru (a+1) T
structure lP where
 dF:Nat
 iJ:Nat
 je:Nat
 f1:an
variable{r:lP}
def fN(c:lP)(a:aA):Array an:=
 #[U (some ⟨c.dF,c.iJ*3,none⟩) (M a.a7) c.je,O .i64 a.bU,.bool a.fZ.isSome,O .i64 (a.fZ.getD 0:Nat),.bool a.e1.isSome,O .i64 (a.e1.getD 0:Nat),c.f1]
structure bZ (ab:Nat->Nat) (L:aq) (X:Nat) (cO:lP) (V:aA):Prop where
 ax:aL L X (fN cO V) 177
 dN:ab X=1
 aT:mP L cO.dF cO.iJ V.a7
 fG:ab cO.dF=7
 b1:V.a7.length<=cO.je
 cF:∀Z,V.cU=some Z->L.ownsRow 0 241 4 cO.f1 Z.length (bC c0.h Z)/\∀N,cO.f1.ownBlock=some N->ab N=2
def hz(d:Nat->Nat)(L:aq)(e:Nat)(f:aA)(a:aq):Prop:=∃c g,bZ c a e g f/\aU d L c a
theorem bZ.K(h:bZ x L o r V):x o<7:=by rw[h.dN];decide
theorem bZ.Aq(h:bZ x L o r V):r.dF≠o:=λe=>by have:=h.fG;rw[e,h.dN]at this;cases this
theorem bZ.aa(h:bZ x L o r V)(Y:Nat):aK L ⟨o,Y,none⟩=(fN r V)[Y]?:=h.ax.aa Y
theorem bZ.g1(h:bZ x L o r V)(b:b_ L gC none):bZ x gC o r V:=by
 have d:∀(u:Nat) (N:Nat),(none:Option Nat)=some N->x N≠u:=λ_ _ e=>by cases e
 exact⟨h.ax.d (b.block o h.ax.am av),h.dN,h.aT.d (b.block _ h.aT.am av) b.size,h.fG,h.b1,λj c=>⟨dK 2 (h.cF j c).1 (h.cF j c).2 b (d 2),(h.cF j c).2⟩⟩
theorem bZ.a(h:bZ x L o r V)(b:Obj):bZ x (L.alloc b) o r V:=h.g1 (fv L b none)
theorem bZ.e(h:bZ x L o r V):bZ x L.drew o r V:=h.g1 (jm L none)
theorem bZ.E(h:bZ x L o r V)(W:Nat):bZ x (L.drewN W) o r V:=h.g1 (r4 L W none)
theorem bZ.kx{bl:Nat->Nat}(h:bZ x L o r V)(b:∀Y,Y<L.heap.size->bl Y=x Y):bZ bl L o r V:=
 ⟨h.ax,(b o h.ax.am).trans h.dN,h.aT,(b _ h.aT.am).trans h.fG,h.b1,λj c=>⟨(h.cF j c).1,λN d=>(b N ((h.cF j c).1.lt N d).2).trans ((h.cF j c).2 N d)⟩⟩
theorem bZ.gE{j1:lP}(h:bZ x L o r V)(Y:Nat)(b:an)(c:(fN r V).setIfInBounds Y b=fN j1 bW)(i:mP L j1.dF j1.iJ bW.a7)(d:x j1.dF=7)(k:M bW.a7<=j1.je)
 (f:∀j,bW.cU=some j->L.ownsRow 0 241 4 j1.f1 (M j) (bC c0.h j)/\∀N,ap j1.f1=some N->x N=2):bZ x (ay L ⟨o,Y,none⟩ b) o j1 bW:=by
 have g:=fU L ⟨o,Y,none⟩ b;have l:∀(u:Nat),u≠1->∀(N:Nat),some o=some N->x N≠u:=λu c N e=>by cases e;rw[h.dN];exact hO c
 have m:j1.dF≠o:=λe=>by rw[e,h.dN]at d;cases d
 exact⟨by rw[<-c];exact h.ax.j Y b,h.dN,i.d (g.block _ i.am (λe=>m (ty e))) g.size,d,k,λj e=>⟨dK 2 (f j e).1 (f j e).2 g (l 2 ak),(f j e).2⟩⟩
theorem bZ.rR(h:bZ x L o r V)(Y:Nat)(b:an)(d:(fN r V).setIfInBounds Y b=fN r bW)(c:bW.a7=V.a7)(f:bW.cU=V.cU):bZ x (ay L ⟨o,Y,none⟩ b) o r bW:=
 h.gE Y b d (by rw[c];exact h.aT) h.fG (by rw[c];exact h.b1) (by rw[f];exact h.cF)
theorem bZ.A(h:bZ x L o r V){ai:Addr}(b:x ai.block=8)(c:an):bZ x (ay L ai c) o r V:=by
 have d:=fU L ai c;have g:∀(u:Nat),u≠8->∀(N:Nat),some ai.block=some N->x N≠u:=λu i N e=>by cases e;rw[b];exact hO i
 have k:r.dF≠ai.block:=λe=>by have:=h.fG;rw[e,b]at this;cases this
 exact⟨h.ax.i0 ai c (λe=>by rw[e,h.dN]at b;cases b),h.dN,h.aT.d (d.block _ h.aT.am (λe=>k (ty e))) d.size,h.fG,h.b1,λj f=>⟨dK 2 (h.cF j f).1 (h.cF j f).2 d (g 2 ak),(h.cF j f).2⟩⟩
theorem bZ.f3{b:Option Nat}{c:Nat}(h:bZ x L o r V)(d:b_ L gF b)(f:∀Y,b=some Y->x Y=c)(g:1≠c):aL gF o (fN r V) 177:=
 h.ax.d (d.block o h.ax.am (λe=>by have:=f o e.symm;rw[h.dN]at this;exact g this))
theorem bZ.C{j:List c0}{N b:Nat}(h:bZ x L o r V)(k:V.cU=some j)(l:c0)(p:gF.ownsRow 0 241 4 (U (some ⟨N,0,none⟩) (M j+1) b) (M j+1) (bC c0.h j++c0.h l))(d:b_ L gF (ap r.f1))(f:ap r.f1=some N\/N=L.heap.size):bZ (Go.Proofs.YtddbjcfdmdbmkaaGreatDoor.aO x N 2) (ay gF ⟨o,6,none⟩ (U (some ⟨N,0,none⟩) (M j+1) b)) o {r with f1:=U (some ⟨N,0,none⟩) (M j+1) b} (V.aO l)/\
 aU x L (Go.Proofs.YtddbjcfdmdbmkaaGreatDoor.aO x N 2) (ay gF ⟨o,6,none⟩ (U (some ⟨N,0,none⟩) (M j+1) b)):=by
 have c:=(h.cF j k).2;have g:Go.Proofs.YtddbjcfdmdbmkaaGreatDoor.aO x N 2 o=1:=(nz 2 c f o h.ax.am).trans h.dN;have q:=h.f3 d c ak;have i:=fU gF ⟨o,6,none⟩ (U (some ⟨N,0,none⟩) (M j+1) b);have s:∀(u:Nat),u≠1->∀(Y:Nat),some o=some Y->Go.Proofs.YtddbjcfdmdbmkaaGreatDoor.aO x N 2 Y≠u:=λu t Y e=>by cases e;rw[g];exact hO t
 have v:ap r.f1≠some r.dF:=λe=>by have:=c _ e;rw[h.fG]at this;cases this
 have m:=h.aT.d (d.block _ h.aT.am (λe=>v e.symm)) d.size;have w:Go.Proofs.YtddbjcfdmdbmkaaGreatDoor.aO x N 2 r.dF=7:=(nz 2 c f _ h.aT.am).trans h.fG;have y:r.dF≠o:=h.Aq;refine⟨⟨?_,g,m.d (i.block _ m.am (λe=>y (ty e))) i.size,w,h.b1,?_⟩,(aU.dj (N:=N) 2 d c ak f).v (ai:=⟨o,6,none⟩) (by rw[g];decide) _⟩
 ·have:=q.j 6 (U (some ⟨N,0,none⟩) (M j+1) b);simpa[fN,aA.aO]using this
 ·intro z e;simp only[aA.aO,k,Ab]at e;cases e;refine⟨?_,λY e=>by cases e;exact cy _ _ _⟩;simp only[jc,bV,dT,d5,du];exact dK 2 p (ab:=Go.Proofs.YtddbjcfdmdbmkaaGreatDoor.aO x N 2) (λY e=>by cases e;exact cy _ _ _) i (s 2 ak)
theorem Nh(h:0<M j):j.headD default=j[0]:=by
 cases j with
 |nil=>simp at h
 |cons q j=>rfl
theorem bZ.xr(h:bZ x L o r V)(b:0<M V.a7):
 (aK L) ⟨r.dF,r.iJ*3,none⟩=some (O .i64 V.af.ao)/\aK L ⟨r.dF,r.iJ*3+1,none⟩=some (O .i64 V.af.aX)/\aK L ⟨r.dF,r.iJ*3+2,none⟩=some (az V.af.bn):=by
 have e:V.af=V.a7[0]:=Nh b;have c:=h.aT.rI 0 b;have d:=h.aT.st 0 b;have f:=h.aT.ru 0 b;rw[pC]at c d f;rw[e];exact⟨c,d,f⟩
theorem tu(ai:UInt8->Bool)(a:ByteArray):cT ai a=M (a.data.toList.takeWhile ai):=by simp[cT,da]
theorem vY(ai:UInt8->Bool)(a:ByteArray):cT ai a<=aW a:=pr ai a 0 (bL _)
theorem uU(ai:UInt8->Bool)(a:ByteArray)(h:0<aW a)(b:ai (a.data.toList.getD 0 0)=true):1<=cT ai a:=by rw[k0 a 0 h]at b;have:=oC ai a 0 h b;have:=oB ai a (0+1);unfold cT;omega
theorem mL(a:ByteArray)(q o:Nat):(a.extract q o).data.toList=(a.data.toList.drop q).take (o-q):=by simp[ByteArray.data_extract,List.take_drop]
theorem tN(a:ByteArray)(q o:Nat):aW (a.extract q o)=min o (aW a)-q:=av
theorem qB{ai:Prop}(h:ai:=by rw[tN];omega):ai:=h
theorem fW(a:ByteArray):aJ a=a.data.toList:=Lib.toList_data a
theorem EH:(dd.all λY=>decide (M Y.data.toList<=6)&&(decide (M Y.data.toList≠1)||fI (Y.data.toList.getD 0 0) ([40,41,124,58,46,43,45,42,47,61,60,62,97,98,99,116]:List UInt8)))=true:=by kernel_rfl
theorem EO(a:Y∈dd)(b:6<aW aG):(aJ Y==aJ aG)=false:=by have:=lq.1 EH Y a;simp only[hh,jF]at this;rw[di,fW,fW];intro e;have c:=congrArg M e;have d:M aG.data.toList=aW aG:=av;omega
theorem Pp(a:Y∈dd)(c:aW aG=1)(b:fI (aG.data.toList.getD 0 0) ([40,41,124,58,46,43,45,42,47,61,60,62,97,98,99,116]:List UInt8)=false):(aJ Y==aJ aG)=false:=by
 have:=lq.1 EH Y a;simp only[hh,tC,jF]at this;rw[di,fW,fW];intro e;have d:M aG.data.toList=aW aG:=av;rw[e]at this;rcases this.2 with h|h
 ·omega
 ·rw[b]at h;cases h
theorem Rz(a:Y∈dd)(b:aW aG=0):(aJ Y==aJ aG)=false:=by have:=lq.1 wI Y a;have c:aG.data.toList=[]:=sD (by rw[<-b];simp);rw[di,fW,fW,c];intro e;rw[fW,e]at this;simp at this
theorem yJ(h:0<aW aQ):1<=(gu aQ).2/\(gu aQ).2<=aW aQ:=by
 unfold gu nf lA jv;simp only;split
 ·rename_i c;have a:=uU ch aQ h c;have b:=vY ch aQ;split
  ·exact⟨a,b⟩
  ·split<;>exact⟨a,b⟩
 split
 ·rename_i c;have a:=uU cQ aQ h c;have b:=vY cQ aQ;split<;>exact⟨a,b⟩
 split
 ·split
  ·rename_i d;simp only[hh,jF]at d;exact⟨T,T⟩
  ·exact⟨T,T⟩
 split
 ·split
  ·rename_i d;simp only[hh,jF]at d;exact⟨T,T⟩
  ·exact⟨T,T⟩
 split<;>exact⟨T,T⟩
theorem QD(a:(gu aQ).1<=1):
 8<(gu aQ).2\/((gu aQ).2=1/\fI (aQ.data.toList.getD 0 0) ([40,41,124,58,46,43,45,42,47,61,60,62,97,98,99,116]:List UInt8)=false):=by
 revert a
 unfold gu nf lA;simp only;generalize aQ.data.toList.getD 0 0=o;split
 ·split
  ·intro a;simp at a
  ·split
   ·rename_i d;intro _;exact .inl d
   ·intro a;simp at a
 rename_i f;split
 ·split
  ·rename_i d;intro _;left;show 8<_;omega
  ·intro a;simp at a
 split
 ·split
  ·intro a;simp at a
  ·rename_i e _;intro _;right;have j:o=33:=by simpa using e
   subst j;exact⟨rfl,ak⟩
 split
 ·split<;>(intro a;simp at a)
 split
 ·intro a;simp at a
 ·rename_i g h c i;intro _;right;refine⟨rfl,?_⟩;simp only[fI,mq,oo,qh,oZ,tC,not_or,gT]at c i⊢;simp only[ch,hh,jF,not_and]at f;have b:∀u:UInt8,97<=u.toNat->u.toNat<=122->¬u=o:=λu g h e=>f (e▸g) (e▸h)
  have k:=b 97 ak ak;have l:=b 98 ak ak;have m:=b 99 ak ak;have p:=b 116 ak ak;have q:¬(60:UInt8)=o:=λe=>c.1 e.symm
  have r:¬(62:UInt8)=o:=λe=>c.2 e.symm
  simp[i,k,l,m,p,q,r]
theorem JK(h:0<aW aQ)(a:(gu aQ).1=2):mF (aQ.extract 0 (gu aQ).2):=by
 revert a
 unfold gu nf lA;simp only;split
 ·split
  ·intro a;simp at a
  ·split<;>(intro a;simp at a)
 split
 ·rename_i c;split
  ·intro a;simp at a
  ·rename_i g;intro _;have i:=uU cQ aQ h c;have k:=vY cQ aQ;refine⟨by rw[tN];show 1<=min (cT cQ aQ) (aW aQ)-0;omega,by rw[tN];show min (cT cQ aQ) (aW aQ)-0<=9;omega,?_⟩;intro u b;rw[mL,CN,C2]at b;have e:aQ.data.toList.take (cT cQ aQ)=aQ.data.toList.takeWhile cQ:=by rw[tu];exact(Mr.1 (RV _)).symm
   rw[e]at b;have all:∀j:List UInt8,∀u∈j.takeWhile cQ,cQ u=true:=by
    intro j
    induction j with
    |nil=>intro u b;simp at b
    |cons l j d=>
     intro u b;rw[zC]at b;split at b
     ·rename_i f;rcases ek.1 b with e|b
      ·exact e▸f
      ·exact d u b
     ·simp at b
   exact all _ u b
 split
 ·split<;>(intro a;simp at a)
 split
 ·split<;>(intro a;simp at a)
 split<;>(intro a;simp at a)
theorem JI(aQ:ByteArray):(gu aQ).1=0\/2<=(gu aQ).1:=by
 unfold gu nf lA;simp only
 repeat' split
 all_goals first|exact .inl rfl|exact .inr av
theorem y7(a:ByteArray)(b W:Nat)(h:b+W<=aW a):(a.extract b (aW a)).extract 0 W=a.extract b (b+W):=by apply k_;apply rK.1;rw[mL,mL,mL];simp only[CN,C2,qy];congr 1;omega
theorem qq(a:ByteArray)(c:Nat)(h:c<=aW a):c<=(eb a c).aX/\(eb a c).aX+aW (eb a c).bn<=aW a/\
 ((eb a c).ao<=1->G9 (eb a c))/\(2<=(eb a c).ao->Ez (eb a c)/\1<=aW (eb a c).bn):=by
 have g:=oB fs a c;have t:=pr fs a c h;unfold eb;simp only;generalize da fs a c=b at*;by_cases i:aW (a.extract b (aW a))=0
 ·have e:fC (a.extract b (aW a))=(1,0):=by unfold fC;rw[aP i]
  rw[e];refine⟨g,by rw[tN];show b+(min (b+0) (aW a)-b)<=_;omega,λ_=>⟨by show(1:Nat)<=1;omega,λY d=>Rz d (by rw[tN];show min (b+0) (aW a)-b=0;omega)⟩,λp=>absurd p (by show¬2<=1;omega)⟩
 ·have k:0<aW (a.extract b (aW a)):=by omega
  have e:fC (a.extract b (aW a))=gu (a.extract b (aW a)):=by unfold fC;rw[aH i]
  rw[e];have q:=yJ k;have u:aW (a.extract b (aW a))=aW a-b:=qB;have l:=y7 a b (gu (a.extract b (aW a))).2 T;have f:aW (a.extract b (b+(gu (a.extract b (aW a))).2))=(gu (a.extract b (aW a))).2:=qB;refine⟨g,by rw[f];show b+_<=_;omega,λd=>⟨d,λY m=>?_⟩,λd=>⟨⟨d,λr=>?_⟩,by rw[f];exact q.1⟩⟩
  ·show(aJ Y==aJ (a.extract b (b+(gu (a.extract b (aW a))).2)))=false;rcases QD d with v|⟨o,s⟩
   ·exact EO m (by rw[f];omega)
   ·refine Pp m (by rw[f];exact o) ?_;rw[<-l,o,mL];have:∀j:List UInt8,(List.take (1-0) (j.drop 0)).getD 0 0=j.getD 0 0:=λj=>by cases j<;>rfl
    rw[this];exact s
  ·show mF (a.extract b (b+(gu (a.extract b (aW a))).2));rw[<-l];exact JK k r
theorem En(b:ByteArray):∀W a,a<=aW b->aW b-a<W->dw (fw b W a)/\M (fw b W a)<=aW b-a+1:=by
 intro W
 induction W with
 |zero=>intro a _ h;omega
 |succ W e=>
  intro a h l;obtain⟨m,f,g,i⟩:=qq b a h;unfold fw;split
  ·rename_i c;exact⟨g c,av⟩
  ·rename_i c;obtain⟨k,o⟩:=i T;have aQ:=e ((eb b a).aX+aW (eb b a).bn) f T;refine⟨?_,by rw[dT];omega⟩;cases d:fw b W ((eb b a).aX+aW (eb b a).bn)with
   |nil=>rw[d]at aQ;exact aQ.1.elim
   |cons q j=>rw[d]at aQ;exact⟨k,aQ.1⟩
theorem HF(a:ByteArray):dw (fh a)/\M (fh a)<=aW a+1:=En a _ 0 (bL _) T
def lF(a:ByteArray):UInt8:=a.data.toList.getD 0 0
def tA(a:co)(c:bN):Prop:=a.aX=c.a1/\
 ((a.ao=2/\c.ao=1/\c.n=fx a.bn/\mF a.bn)\/
  (a.ao=3/\c.ao=0/\c.a8=a.bn/\c.G=true/\ch (lF a.bn)=true)\/
  (a.ao=4/\c.ao=0/\c.a8=a.bn/\i6 a.bn=true/\ch (lF a.bn)=true)\/
  (a.ao=5/\c.ao=2/\c.a8=a.bn/\ch (lF a.bn)=false))
def xW(c:co)(a:bN):Prop:=c.aX=a.a1/\((c.ao=1/\a.ao=3)\/(c.ao=0/\(a.ao=4\/(a.ao=0/\8<aW a.a8))))/\∀d∈dd,(aJ d==aJ c.bn)=false
def fg:List co->List bN->Prop
 |[],_=>False
 |_,[]=>False
 |[a],c::_=>xW a c
 |a::d::e,c::f=>tA a c/\a.aX<d.aX/\fg (d::e) f
theorem fg.bX{r:List bN}(h:fg j r):0<M j/\0<M r:=by
 match j,r,h with
 |[],_,h=>exact h.elim
 |[_],[],h=>exact h.elim
 |_::_::_,[],h=>exact h.elim
 |[_],_::_,_=>simp
 |_::_::_,_::_,_=>simp
theorem fg.m5{r:List bN}(h:fg j r):(M j=1/\xW (j.headD default) (r.headD default))\/
 (2<=M j/\tA (j.headD default) (r.headD default)/\(j.headD default).aX<(j.tail.headD default).aX/\fg j.tail r.tail):=by
 match j,r,h with
 |[],_,h=>exact h.elim
 |[_],[],h=>exact h.elim
 |_::_::_,[],h=>exact h.elim
 |[_],_::_,h=>exact .inl ⟨rfl,h⟩
 |_::_::_,_::_,h=>exact .inr ⟨av,h.1,h.2.1,h.2.2⟩
theorem IX:(dd.all λY=>!(cQ (lF Y)))=true:=by kernel_rfl
theorem zd(a:Y∈dd)(b:mF aG):(aJ Y==aJ aG)=false:=by
 have:=lq.1 IX Y a;rw[di,fW,fW];intro e;obtain⟨f,_,c⟩:=b;have g:M aG.data.toList=aW aG:=av;simp only[lF,e]at this;have d:aG.data.toList.getD 0 0∈aG.data.toList:=by rw[fj,dz T];simp only[mD];exact b4 _
 rw[c _ d]at this;cases this
theorem qa(q o:List UInt8):(q==o)=(o==q):=by
 cases h:(q==o)with
 |true=>rw[gT]at h;subst h;simp
 |false=>rw[di]at h;exact(di.2 (hO h)).symm
theorem xQ{aG:co}(h:xW aG z)(a:Y∈dd):aG.bH Y=false/\z.f Y=false:=by
 obtain⟨_,b,c⟩:=h;refine⟨by unfold co.bH;rw[qa];exact c Y a,?_⟩;unfold bN.f;rcases b with⟨_,h⟩|⟨_,h|⟨h,d⟩⟩
 ·simp[h]
 ·simp[h]
 ·have:=EO a (aG:=z.a8) T;rw[qa]at this;simp[this]
theorem Ro{aG:co}(h:tA aG z)(b:Y∈dd):aG.bH Y=z.f Y:=by
 unfold co.bH bN.f;obtain⟨_,⟨_,h,_,c⟩|⟨_,h,a,_⟩|⟨_,h,a,_⟩|⟨_,h,a,_⟩⟩:=h
 ·have:=zd b c;rw[qa]at this;simp[h,this]
 ·simp[h,a]
 ·simp[h,a]
 ·simp[h,a]
theorem fg.bH{r:List bN}(h:fg j r)(a:Y∈dd):(j.headD default).bH Y=(r.headD default).f Y:=by
 rcases h.m5 with⟨_,h⟩|⟨_,h,_⟩
 ·have:=xQ h a;rw[this.1,this.2]
 ·exact Ro h a
theorem fg.oS{r:List bN}(h:fg j r)(b:Y∈dd)(a:(j.headD default).bH Y=true):2<=M j:=by
 rcases h.m5 with⟨_,h⟩|⟨c,_⟩
 ·have:=xQ h b;rw[this.1]at a;cases a
 ·exact c
theorem fg.bp{r:List bN}(h:fg j r):((j.headD default).ao=2↔(r.headD default).ao=1)/\((j.headD default).ao=2->2<=M j/\(r.headD default).n=fx (j.headD default).bn/\(r.headD default).a1=(j.headD default).aX):=by
 rcases h.m5 with⟨_,b,h,_⟩|⟨c,⟨b,h⟩,_⟩
 ·rcases h with⟨h,a⟩|⟨h,a|⟨a,_⟩⟩<;>refine⟨by rw[h,a];decide,λe=>by rw[h]at e;cases e⟩
 ·rcases h with⟨h,a,d,_⟩|⟨h,a,_⟩|⟨h,a,_⟩|⟨h,a,_⟩
  ·exact⟨by rw[h,a];decide,λ_=>⟨c,d,b.symm⟩⟩
  all_goals exact⟨by rw[h,a];decide,λe=>by rw[h]at e;cases e⟩
theorem BS(h:z.ao≠0\/8<aW z.a8):z.G=false:=by
 unfold bN.G;rcases h with h|h
 ·simp[h]
 ·have:decide (aW z.a8<=8)=false:=by simp only[tU];omega
  simp[this]
theorem fg.name{r:List bN}(h:fg j r):((j.headD default).ao=3↔(r.headD default).G=true)/\((j.headD default).ao=3->2<=M j/\(r.headD default).a8=(j.headD default).bn):=by
 rcases h.m5 with⟨_,f,h,_⟩|⟨g,⟨f,h⟩,_⟩
 ·have a:(r.headD default).G=false:=by
   refine BS ?_;rcases h with⟨_,b⟩|⟨_,b|⟨b,i⟩⟩
   ·left;omega
   ·left;omega
   ·right;exact i
  refine⟨by rw[a];rcases h with⟨h,_⟩|⟨h,_⟩<;>rw[h]<;>decide,λe=>by rcases h with⟨h,_⟩|⟨h,_⟩<;>(rw[h]at e;cases e)⟩
 ·rcases h with⟨h,b,_⟩|⟨h,b,c,a,_⟩|⟨h,b,c,d,_⟩|⟨h,b,_⟩
  ·have a:(r.headD default).G=false:=BS (.inl T);exact⟨by rw[h,a];decide,λe=>by rw[h]at e;cases e⟩
  ·exact⟨by rw[h,a];decide,λ_=>⟨g,c⟩⟩
  ·have a:(r.headD default).G=false:=by
    unfold bN.G;unfold i6 at d;rw[jf]at d;obtain⟨k,l,m⟩:=d;rw[J1];right;rw[List.all_eq_false];exact⟨k,l,by rw[c,m];decide⟩
   exact⟨by rw[h,a];decide,λe=>by rw[h]at e;cases e⟩
  ·have a:(r.headD default).G=false:=BS (.inl T);exact⟨by rw[h,a];decide,λe=>by rw[h]at e;cases e⟩
theorem fg.Tj{r:List bN}(h:fg j r):((j.headD default).ao=1↔(r.headD default).ao=3):=by
 rcases h.m5 with⟨_,b,h,_⟩|⟨c,⟨b,h⟩,_⟩
 ·rcases h with⟨h,a⟩|⟨h,a|⟨a,_⟩⟩<;>(rw[h,a];decide)
 ·rcases h with⟨h,a,d,_⟩|⟨h,a,_⟩|⟨h,a,_⟩|⟨h,a,_⟩<;>(rw[h,a];decide)
theorem fg.aX{r:List bN}(h:fg j r):(j.headD default).aX=(r.headD default).a1:=by rcases h.m5 with⟨_,a,_⟩|⟨_,⟨a,_⟩,_⟩<;>exact a
theorem fg.hU{r:List bN}(h:fg j r)(d:Y∈dd)(a:(j.headD default).bH Y=true):(r.headD default).ao=if ch (lF Y)then 0 else 2:=by
 have e:lF (j.headD default).bn=lF Y:=by unfold co.bH at a;rw[gT,fW,fW]at a;unfold lF;rw[a]
 rcases h.m5 with⟨_,h⟩|⟨_,⟨_,h⟩,_⟩
 ·have:=xQ h d;rw[this.1]at a;cases a
 ·rcases h with⟨_,b,g,f⟩|⟨_,b,_,_,c⟩|⟨_,b,_,_,c⟩|⟨_,b,_,c⟩
  ·have:=zd d f;unfold co.bH at a;rw[qa,a]at this;cases this
  all_goals rw[b,<-e,c];rfl
theorem fg.bn{r:List bN}(h:fg j r)(d:Y∈dd)(a:(j.headD default).bH Y=true):(r.headD default).a8=(j.headD default).bn:=by
 rcases h.m5 with⟨_,h⟩|⟨_,⟨_,h⟩,_⟩
 ·have:=xQ h d;rw[this.1]at a;cases a
 ·rcases h with⟨_,b,g,f⟩|⟨_,b,c,_,e⟩|⟨_,b,c,_,e⟩|⟨_,b,c,e⟩
  ·have:=zd d f;unfold co.bH at a;rw[qa,a]at this;cases this
  all_goals exact c
def eo(c:au):Option Nat:=((c.b9.zip (c.b6.zip c.cc)).find? λa=>decide ((a.1.n:Int)<a.2.1\/a.2.2<(a.1.n:Int))).map λa=>a.1.a1
def tT(c:Option Nat)(a:Int):Prop:=match c with|none=>a= -1|some d=>a=d
structure lj (ae:au):Prop where
 aC:ae.aC.length<=2*ae.al
 b9:ae.b9.length<=ae.al
 b6:ae.b6.length=ae.b9.length
 cc:ae.cc.length=ae.b9.length
 bz:ae.bz<=ae.al
 aT:ae.aT.length<=601
 ej: -1<=ae.bk
 cY:ae.al<ae.aT.length
structure dP (V:aA) (ae:au):Prop where
 b8:lj ae
 hC:(ae.bk<0/\fg V.a7 (ae.aT.drop ae.al)/\V.bU=ae.bz/\tT V.fZ ae.bU/\V.e1=eo ae)\/(0<=ae.bk/\V.a7=[⟨0,ae.bk.toNat,⟨#[]⟩⟩])
theorem k5(b:au):b.af=(b.aT.drop b.al).headD default:=by unfold au.af;rw[List.headD_eq_head?_getD,List.head?_drop]
theorem dP.g2(h:dP V b)(a:b.bk<0):fg V.a7 (b.aT.drop b.al):=by
 rcases h.hC with h|h
 ·exact h.2.1
 ·omega
theorem dP.hS(h:dP V b)(a:0<=b.bk):V.a7=[⟨0,b.bk.toNat,⟨#[]⟩⟩]:=by
 rcases h.hC with h|h
 ·omega
 ·exact h.2
theorem r0(h:V.a7=[⟨0,ai,⟨#[]⟩⟩])(a:Y∈dd):V.af.bH Y=false:=by unfold aA.af co.bH;rw[h];simp only[List.headD];have:=lq.1 wI Y a;simp only[y_]at this;rw[qa];exact this
theorem dP.bH(h:dP V b)(c:Y∈dd):V.af.bH Y=b.f Y:=by
 unfold au.f;by_cases a:b.bk<0
 ·rw[k5];simp only[a,decide_true,A7];exact(h.g2 a).bH c
 ·simp only[a,xx,zZ];exact r0 (h.hS T) c
theorem p3(V:aA)(Y:ByteArray):V.m [Y]=V.af.bH Y:=by simp only[aA.m,oo,qh,oZ,co.bH];exact qa _ _
theorem A5(V:aA)(bK:List ByteArray):V.m bK=bK.any λY=>V.af.bH Y:=by unfold aA.m co.bH;congr 1;funext Y;exact qa _ _
theorem rT(h:b.f Y=true):b.bk<0:=by unfold au.f at h;simp only[hh,jF]at h;exact h.1
structure p6 (V:aA) (ae:au) (bW:aA) (gA:au):Prop where
 bX:bW.a7.length<=V.a7.length
 aC:ae.aC<+:gA.aC
 aj:gA.aj=ae.aj
 aT:gA.aT=ae.aT
 al:ae.al<=gA.al
 bd:gA.bd=ae.bd
 aZ:gA.aZ=ae.aZ
 cF:gA.bk<0->ae.bk<0/\V.af.aX<=bW.af.aX
theorem p6.l(V:aA)(b:au):p6 V b V b:=⟨aN _,rO _,rfl,rfl,aN _,rfl,rfl,λh=>⟨h,aN _⟩⟩
theorem p6.trans(q:p6 V b hE G)(o:p6 hE G hV hZ):p6 V b hV hZ:=
 ⟨bS o.bX q.bX,q.aC.trans o.aC,o.aj.trans q.aj,o.aT.trans q.aT,bS q.al o.al,o.bd.trans q.bd,o.aZ.trans q.aZ,λh=>⟨(q.cF (o.cF h).1).1,bS (q.cF (o.cF h).1).2 (o.cF h).2⟩⟩
structure ij (V:aA) (ae:au) (bW:aA) (gA:au):Prop extends p6 V ae bW gA where
 cf:dP bW gA
 bz:gA.bz=ae.bz
theorem ij.l(h:dP V b):ij V b V b:=⟨p6.l V b,h,rfl⟩
theorem ij.trans(q:ij V b hE G)(o:ij hE G hV hZ):ij V b hV hZ:=⟨q.top6.trans o.top6,o.cf,o.bz.trans q.bz⟩
theorem l4(h:dP V b)(c:b.bk<0)(l:2<=M V.a7):ij V b V.c b.g/\V.af.aX<V.c.af.aX/\V.c.a7.length+1=M V.a7:=by
 have f:=h.g2 c;obtain⟨_,_,g,i,j⟩:b.bk<0/\fg V.a7 (b.aT.drop b.al)/\V.bU=b.bz/\tT V.fZ b.bU/\V.e1=eo b:=by
  rcases h.hC with h|h
  ·exact h
  ·omega
 rcases f.m5 with⟨m,_⟩|⟨_,_,e,d⟩
 ·omega
 ·rw[List.tail_drop]at d;have k:=d.bX.2;rw[la]at k;have a:=h.b8;refine⟨⟨⟨by simp[aA.c],rO _,rfl,rfl,lv _,rfl,rfl,λ_=>⟨c,k3 e⟩⟩,⟨⟨?_,?_,a.b6,a.cc,?_,a.aT,a.ej,?_⟩,.inl ⟨c,d,g,i,j⟩⟩,rfl⟩,e,by simp[aA.c];omega⟩
  ·have:=a.aC;show(M b.aC)<=2*(b.al+1);omega
  ·have:=a.b9;show(M b.b9)<=b.al+1;omega
  ·have:=a.bz;show b.bz<=b.al+1;omega
  ·show b.al+1<M b.aT;omega
theorem o5(h:dP V b):ij V b V.P b.c8/\0<=b.c8.bk:=by
 have a:=h.b8;have j:0<M V.a7:=by
  rcases h.hC with h|h
  ·exact h.2.1.bX.1
  ·rw[h.2];simp
 by_cases c:b.bk<0
 ·have f:=h.g2 c;have e:b.c8={b with bk:=b.af.a1}:=by unfold au.c8;rw[aP c]
  have g:V.af.aX=b.af.a1:=by rw[k5];exact f.aX
  have d:0<=b.c8.bk:=by rw[e];show(0:Int)<=(b.af.a1:Int);omega
  refine⟨⟨⟨by simp[aA.P];omega,by rw[e];exact rO _,by rw[e],by rw[e],by rw[e];exact aN _,by rw[e],by rw[e],λh=>T⟩,⟨?_,.inr ⟨d,?_⟩⟩,by rw[e]⟩,d⟩
  ·rw[e];exact⟨a.aC,a.b9,a.b6,a.cc,a.bz,a.aT,by show -1<=(b.af.a1:Int);omega,a.cY⟩
  ·unfold aA.P;rw[e,g];simp
 ·have e:b.c8=b:=by unfold au.c8;rw[aH c]
  rw[e];have i:=h.hS T;refine⟨⟨⟨by simp[aA.P];omega,rO _,rfl,rfl,aN _,rfl,rfl,λh=>absurd h c⟩,⟨a,.inr ⟨T,?_⟩⟩,rfl⟩,T⟩;unfold aA.P aA.af;rw[i];simp
theorem tR(h:dP V b)(c:Y∈dd):ij V b (V.bx [Y]) (b.c5 Y):=by
 unfold aA.bx au.c5;rw[p3,h.bH c];by_cases a:b.f Y=true
 ·have d:=rT a;rw[aP a,aP a];refine(l4 h d ?_).1;rw[<-h.bH c]at a;exact(h.g2 d).oS c a
 ·rw[aH a,aH a];exact(o5 h).1
theorem NZ(c:lj b)(z:bN)(y w:Int)(d:au)(e:d.b9=b.b9++[z])(f:d.b6=b.b6++[y])(g:d.cc=b.cc++[w]):
 eo d=(eo b).or (if(z.n:Int)<y\/w<(z.n:Int)then some z.a1 else none):=by
 unfold eo;rw[e,f,g,sn (by rw[c.b6,c.cc]),sn (by rw[jT,c.b6,c.cc];simp),xq];cases(b.b9.zip (b.b6.zip b.cc)).find? λa=>decide ((a.1.n:Int)<a.2.1\/a.2.2<(a.1.n:Int))with
 |some a=>simp
 |none=>simp[uC];split<;>simp_all
theorem tZ(h:dP V b)(y w:Nat):ij V b (V.bp y w) (b.bp y w)/\(V.k:Int)=b.k/\(b.iU=true↔V.af.ao=2)/\(b.iU=true->M (V.bp y w).a7+1=M V.a7):=by
 have d:=h.b8;by_cases f:b.bk<0
 ·have m:=h.g2 f;have j:=m.bp;have g:b.iU=true↔V.af.ao=2:=by unfold au.iU;simp only[f,decide_true,B0,gT];rw[k5];exact j.1.symm
  by_cases a:V.af.ao=2
  ·obtain⟨o,p,q⟩:=j.2 a;obtain⟨N,v,r⟩:=l4 h f o;have c:=g.2 a;have k:(b.af.n:Int)=fx V.af.bn:=by rw[k5];exact congrArg Int.ofNat p
   have s:b.af.a1=V.af.aX:=by rw[k5];exact q
   refine⟨?_,by unfold aA.k au.k;rw[aP a,aP c,k],g,λ_=>by unfold aA.bp;rw[aP a];exact r⟩;unfold aA.bp au.bp;rw[aP a,aP c];refine⟨⟨N.bX,N.aC,rfl,rfl,N.al,rfl,rfl,N.cF⟩,⟨⟨N.cf.b8.aC,?_,?_,?_,N.cf.b8.bz,d.aT,d.ej,N.cf.b8.cY⟩,.inl ⟨f,N.cf.g2 f,?_,?_,?_⟩⟩,rfl⟩
   ·simp only[bV,dT,d5];have:=d.b9;omega
   ·simp only[bV,dT,d5];have:=d.b6;omega
   ·simp only[bV,dT,d5];have:=d.cc;omega
   ·rcases h.hC with h|h
    ·exact h.2.2.1
    ·omega
   ·rcases h.hC with h|h
    ·exact h.2.2.2.1
    ·omega
   ·have t:V.e1=eo b:=by
     rcases h.hC with h|h
     ·exact h.2.2.2.2
     ·omega
    rw[NZ d b.af y w _ rfl rfl rfl,<-t,s,k];have l:((fx V.af.bn:Int)<(y:Int)\/(w:Int)<(fx V.af.bn:Int))↔(fx V.af.bn<y\/w<fx V.af.bn):=T;show(if _ then _ else _)=_;by_cases i:fx V.af.bn<y\/w<fx V.af.bn
    ·rw[aP i,aP (l.2 i)];cases V.e1<;>rfl
    ·rw[aH i,aH (λe=>i (l.1 e))];cases V.e1<;>rfl
  ·have c:¬b.iU=true:=λe=>a (g.1 e)
   refine⟨?_,by unfold aA.k au.k;rw[aH a,aH c];rfl,g,λe=>absurd e c⟩;unfold aA.bp au.bp;rw[aH a,aH c];exact(o5 h).1
 ·have u:=h.hS T;have a:¬V.af.ao=2:=by unfold aA.af;rw[u];simp
  have c:¬b.iU=true:=by unfold au.iU;simp[f]
  refine⟨?_,by unfold aA.k au.k;rw[aH a,aH c];rfl,⟨λe=>absurd e c,λe=>absurd e a⟩,λe=>absurd e c⟩;unfold aA.bp au.bp;rw[aH a,aH c];exact(o5 h).1
theorem Br(h:dP V b)(i:Y∈dd)(e:b.f Y=true):p6 V b V.p (b.g.B b.af.a1)/\dP V.p (b.g.B b.af.a1)/\(b.g.B b.af.a1).bz=b.bz+1/\V.p.a7.length+1=M V.a7/\b.bz<=601:=by
 have d:=rT e;have k:2<=M V.a7:=(h.g2 d).oS i (by rw[<-h.bH i]at e;exact e);obtain⟨N,q,l⟩:=l4 h d k;have a:=h.b8;have f:=N.cf.b8;have m:b.af.a1=V.af.aX:=by rw[k5];exact(h.g2 d).aX.symm
 obtain⟨_,_,o,c,p⟩:b.bk<0/\fg V.a7 (b.aT.drop b.al)/\V.bU=b.bz/\tT V.fZ b.bU/\V.e1=eo b:=by
  rcases h.hC with h|h
  ·exact h
  ·omega
 refine⟨⟨N.bX,N.aC,rfl,rfl,N.al,rfl,rfl,N.cF⟩,⟨⟨f.aC,f.b9,a.b6,a.cc,?_,a.aT,a.ej,f.cY⟩,.inl ⟨d,N.cf.g2 d,?_,?_,p⟩⟩,rfl,l,?_⟩
 ·show b.bz+1<=b.al+1;have:=a.bz;omega
 ·show V.bU+1=b.bz+1;omega
 ·show tT (if 8<=V.bU then kR V.fZ V.af.aX else V.fZ) (if 8<=b.bz/\b.bU<0 then(b.af.a1:Int)else b.bU);rw[o,m];unfold tT at c⊢;by_cases g:8<=b.bz
  ·cases j:V.fZ with
   |none=>rw[j]at c;simp only at c;simp[g,kR,c]
   |some ai=>rw[j]at c;simp only at c;simp[g,kR,c];intro r;omega
  ·simp only[g,lh,false_and];exact c
 ·have:=a.bz;have:=a.cY;have:=a.aT;omega
theorem x1(h:dP V b){Y:Nat}(f:b.bz=Y+1):dP V.J {b with bz:=Y}:=by
 have a:=h.b8;refine⟨⟨a.aC,a.b9,a.b6,a.cc,by have:=a.bz;show Y<=b.al;omega,a.aT,a.ej,a.cY⟩,?_⟩;rcases h.hC with⟨c,d,g,e⟩|h
 ·exact .inl ⟨c,d,by show V.bU-1=Y;omega,e⟩
 ·exact .inr h
theorem vJ(h:dP V b)(c:eV)(d:c0)(e:M b.aC+1<=2*b.al):ij V b (V.aO d) (b.gC c):=by have a:=h.b8;refine⟨⟨aN _,oG _ _,rfl,rfl,aN _,rfl,rfl,λh=>⟨h,aN _⟩⟩,⟨⟨by simp[au.gC];exact e,a.b9,a.b6,a.cc,a.bz,a.aT,a.ej,a.cY⟩,h.hC⟩,rfl⟩
inductive fu:Bool->cH->List c0->Prop
 |bp (n:Nat):fu false (.bp n) [⟨pT,n,⟨#[]⟩,0⟩]
 |f2 {name i8:ByteArray} {a1 aX:Nat}:i8∈fz->(name.toList≠[]->aX=a1)->fu false (.f2 name i8 a1) [⟨i8,0,name,aX⟩]
 |s4 {aG:cH} {Z:List c0}:fu false aG Z->fu false (.eH gM (.bp 0) aG) (Z++[⟨nS,0,⟨#[]⟩,0⟩])
 |r9 {cj:ByteArray} {bj X:cH} {qR rl:List c0}:cj∈[m9,m3,nc,gM]->fu false bj qR->fu false X rl->fu false (.eH cj bj X) (qR++rl++[⟨cj,0,⟨#[]⟩,0⟩])
 |rq {cj:ByteArray} {bj X:cH} {qR rl:List c0}:cj∈gz->fu false bj qR->fu false X rl->fu true (.eH cj bj X) (qR++rl++[⟨cj,0,⟨#[]⟩,0⟩])
 |qG {cj:ByteArray} {bj X:cH} {qR rl:List c0}:cj∈[lT,iI]->fu true bj qR->fu true X rl->fu true (.eH cj bj X) (qR++rl++[⟨cj,0,⟨#[]⟩,0⟩])
def eM:Nat->Nat->List c0->Prop
 |a,c,[]=>a<=c
 |a,c,d::e=>if d.name.toList=[]then eM a c e else a<=d.aX/\eM (d.aX+1) c e
theorem eM.b0{j:List c0}(h:eM y w j):y<=w:=by
 induction j generalizing y with
 |nil=>exact h
 |cons b j a=>
  unfold eM at h;split at h
  ·exact a h
  ·have:=a h.2;omega
theorem eM.B{a:Nat}{j:List c0}(h:eM y w j)(b:a<=y):eM a w j:=by
 induction j generalizing y a with
 |nil=>exact bS b h
 |cons d j c=>
  unfold eM at h⊢;split
  ·rename_i e;rw[aP e]at h;exact c h b
  ·rename_i e;rw[aH e]at h;exact⟨bS b h.1,h.2⟩
theorem eM.C{r:Nat}{j qd:List c0}(h:eM y r j)(b:eM r w qd):eM y w (j++qd):=by
 induction j generalizing y with
 |nil=>exact b.B h
 |cons c j a=>
  rw[nH];unfold eM at h⊢;split
  ·rename_i e;rw[aP e]at h;exact a h
  ·rename_i e;rw[aH e]at h;exact⟨h.1,a h.2⟩
theorem qI:aJ (⟨#[]⟩:ByteArray)=[]:=by kernel_rfl
theorem eM.kS{a:c0}(b:a.name.toList=[])(h:y<=w):eM y w [a]:=by unfold eM;rw[aP b];exact h
theorem fl.cE{c:List eV}{Y:Nat}{aG:cH}(h:fl gj Y aG)(j:gj<+:c):fl c Y aG:=by
 have d:∀{e:Nat} {f:eV},gj[e]?=some f->c[e]?=some f:=by intro e f i;obtain⟨r,rfl⟩:=j;obtain⟨w,rfl⟩:=jX.1 i;rw[ms w];exact i
 induction h with
 |bp a b=>exact .bp (d a) b
 |f2 a b g=>exact .f2 (d a) b g
 |eH a b g k l _ _ m o=>exact .eH (d a) b g k l m o
structure ss (ao:Bool) (V:aA) (ae:au) (aQ:Int) (bW:aA) (gA:au):Prop extends ij V ae bW gA where
 fk:gA.aC.length+2*ae.al<=ae.aC.length+2*gA.al
 cU:gA.bk<0->∃(Z:List c0) (aG:cH) (Y:Nat),aQ=Y/\bW.cU=V.cU.map (·++Z)/\fl gA.aC Y aG/\fu ao aG Z/\eM V.af.aX bW.af.aX Z
def j6(ah:aA->aA):Prop:=∀(a:aA) (c:Nat),a.a7=[⟨0,c,⟨#[]⟩⟩]->(ah a).a7=[⟨0,c,⟨#[]⟩⟩]
def l6(f:Nat)(g:Bool)(ah:aA->aA)(h:Nat):Prop:=∀(a:aA) (c:au),dP a c->M a.a7<=h->∃d e,e9 (.dV f) c d e/\ss g a c d (ah a) e
theorem uv(h:V.a7=[⟨0,ai,⟨#[]⟩⟩])(a:∀Y∈bK,Y∈dd):V.m bK=false:=by rw[A5,xp];intro Y b;rw[r0 h (a Y b)];decide
theorem Bl(h:V.a7=[⟨0,ai,⟨#[]⟩⟩]):V.P.a7=[⟨0,ai,⟨#[]⟩⟩]:=by unfold aA.P aA.af;rw[h];rfl
theorem DA(h:V.a7=[⟨0,ai,⟨#[]⟩⟩])(a:∀Y∈bK,Y∈dd):(V.bx bK).a7=[⟨0,ai,⟨#[]⟩⟩]:=by unfold aA.bx;rw[aH (by rw[uv h a];decide)];exact Bl h
theorem L1(a:∀Y∈bK,Y∈dd)(Y:Nat):j6 (jw ah bK Y):=by
 intro V ai h;cases Y with
 |zero=>exact h
 |succ Y=>unfold jw;rw[aH (by rw[uv h a];decide)];exact h
theorem uM(a:j6 ah)(b:∀Y∈bK,Y∈dd):j6 (jS ah bK):=λV ai h=>L1 b _ _ ai (a V ai h)
theorem wT:∀Y∈[m9,m3],Y∈dd:=bJ
theorem Bx:∀Y∈[nc,gM],Y∈dd:=bJ
theorem Be:∀Y∈[lT],Y∈dd:=bJ
theorem DY:∀Y∈[iI],Y∈dd:=bJ
theorem w3:∀Y∈gz,Y∈dd:=uQ
theorem BX:∀Y∈fz,Y∈dd:=rG
theorem AU(a:j6 ah):j6 (gU ah):=uM (uM a wT) Bx
theorem zm(W:Nat):j6 (dS W):=by
 intro V ai h;cases W with
 |zero=>exact h
 |succ W=>
  have a:V.af.ao=0:=by unfold aA.af;rw[h];rfl
  unfold dS;rw[aH T,aH (by rw[r0 h bJ];decide),aH (by rw[r0 h bJ];decide),aH T,aH (by rw[r0 h bJ];decide)];exact Bl h
theorem y8(a:j6 ah):j6 (oR ah):=by intro V ai h;exact AU a _ ai (DA (AU a V ai h) w3)
theorem LY(a:j6 ah):j6 (nW ah):=uM (y8 a) Be
theorem xn(h:dP V b)(a:0<=b.bk)(c:bW.a7=[⟨0,b.bk.toNat,⟨#[]⟩⟩]):ij V b bW b:=by have d:=h.hS a;exact⟨⟨by rw[d,c];exact aN _,rO _,rfl,rfl,aN _,rfl,rfl,λh=>T⟩,⟨h.b8,.inr ⟨a,c⟩⟩,rfl⟩
theorem AT(d:j6 ah)(h:dP V b)(a:0<=b.bk):∃aQ c,e9 (.dV H) b aQ c/\ss F V b aQ (ah V) c:=
 ⟨0,b,.x3 a,xn h a (d V _ (h.hS a)),aN _,λh=>T⟩
theorem sQ(h:dP V b)(e:b.bk<0)(d:∀Y∈bK,Y∈dd)(o:Bool)(i:∀Y∈bK,ch (lF Y)=o):
 V.m bK=((b.af.ao==(if o then 0 else 2))&&bK.any λY=>aJ b.af.a8==aJ Y):=by
 have f:=h.g2 e;rw[A5];apply nM.2;rw[jf,hh,jf];constructor
 ·rintro⟨Y,a,w⟩;have c:=f.hU (d Y a) w;have g:=f.bn (d Y a) w;rw[<-k5]at c g;rw[i Y a]at c;refine⟨by rw[c];simp,Y,a,?_⟩;rw[g];exact w
 ·rintro⟨c,Y,a,w⟩;refine⟨Y,a,?_⟩;rw[h.bH (d Y a)];unfold au.f bN.f;rw[gT]at c;rw[c,w];cases o<;>simp[e]
theorem tw(a:List UInt8)(bK:List ByteArray):(bK.any λY=>a==aJ Y)=(bK.map (·.toList)).any (a==·):=by rw[Ej];rfl
theorem N6(h:dP V b)(c:b.bk<0):V.m [iI]=b.af.gf 0:=by rw[sQ h c DY true (by intro Y a;simp at a;subst a;rfl),tw,show [iI].map (·.toList)=[[111,114]] by kernel_rfl];simp[bN.gf]
theorem Jx(h:dP V b)(c:b.bk<0):V.m [lT]=b.af.gf 1:=by rw[sQ h c Be true (by intro Y a;simp at a;subst a;rfl),tw,show [lT].map (·.toList)=[[97,110,100]] by kernel_rfl];simp[bN.gf]
theorem Kr(h:dP V b)(c:b.bk<0):V.m [nc,gM]=b.af.gf 3:=by rw[sQ h c Bx false (by intro Y a;simp at a;rcases a with rfl|rfl<;>rfl),tw,show [nc,gM].map (·.toList)=[[43],[45]] by kernel_rfl];simp[bN.gf]
theorem IY(h:dP V b)(c:b.bk<0):V.m [m9,m3]=b.af.gf 4:=by rw[sQ h c wT false (by intro Y a;simp at a;rcases a with rfl|rfl<;>rfl),tw,show [m9,m3].map (·.toList)=[[42],[47]] by kernel_rfl];simp[bN.gf]
theorem Ev(h:dP V b)(c:b.bk<0):V.m gz=b.af.pa:=by rw[sQ h c w3 false (by intro Y a;simp[gz]at a;rcases a with rfl|rfl|rfl|rfl|rfl|rfl<;>rfl),tw,show gz.map (·.toList)=[[61],[33,61],[60],[60,61],[62],[62,61]] by kernel_rfl];simp[bN.pa,zL]
theorem C6(h:dP V b)(c:b.bk<0):V.m fz=b.af.hV:=by rw[sQ h c BX true (by intro Y a;simp[fz]at a;rcases a with rfl|rfl|rfl|rfl<;>rfl),tw,show fz.map (·.toList)=[[97],[98],[99],[116]] by kernel_rfl];simp[bN.hV,zL]
theorem Ld{q o:ByteArray}(h:aJ q=aJ o):q=o:=by rw[fW,fW]at h;cases q;cases o;simp only[ByteArray.mk.injEq];exact rK.1 h
theorem B1(h:dP V b)(c:b.bk<0)(d:∀Y∈bK,Y∈dd)(e:V.m bK=true):V.af.bn∈bK/\b.af.a8=V.af.bn/\2<=M V.a7:=by rw[A5,jf]at e;obtain⟨Y,a,w⟩:=e;have f:=(h.g2 c).bn (d Y a) w;rw[<-k5]at f;refine⟨?_,f,(h.g2 c).oS (d Y a) w⟩;unfold co.bH at w;rw[gT]at w;rw[Ld w];exact a
theorem B4(h:dP V b)(c:∀Y∈bK,Y∈dd)(a:V.m bK=true):b.bk<0:=by apply vd;intro d;rw[uv (h.hS T) c]at a;cases a
theorem vx(a:Option (List c0))(q o:List c0):(a.map (·++q)).map (·++o)=a.map (·++(q++o)):=by cases a<;>simp
theorem Na:(([m9,m3,nc,gM,lT,iI]++gz).all λY=>!(aJ Y==[110])&&!(aJ Y==[102]))=true:=by kernel_rfl
theorem Ad{cj:ByteArray}(c:cj∈[m9,m3,nc,gM,lT,iI]++gz){q:Nat}{b aG:cH}(d:fl gj q b)(e:fl gj o aG)(ai:Int):fl (gj++[⟨cj,q,o,0,cD,cD,ai⟩]) (M gj) (.eH cj b aG):=by have a:=lq.1 Na cj c;simp only[hh,y_,di]at a;have:=fl.eH (aC:=gj++[⟨cj,q,o,0,cD,cD,ai⟩]) (al:=M gj) (bb:=⟨cj,q,o,0,cD,cD,ai⟩) av a.1 a.2 rfl rfl (d.cE (oG _ _)) (e.cE (oG _ _));exact this
theorem Oj(u:l6 (H+1) F ah W)(p:∀Y∈bK,Y∈dd)(r:∀(V:aA) (b:au),dP V b->b.bk<0->V.m bK=b.af.gf H)(v:∀Y∈bK,Y∈[m9,m3,nc,gM,lT,iI]++gz)(w:∀{j:ByteArray} {q o:cH} {f g:List c0},j∈bK->fu F q f->fu F o g->fu F (.eH j q o) (f++g++[⟨j,0,⟨#[]⟩,0⟩])){k:aA}{l:au}:
 ∀(Y:Nat) (V:aA) (b:au) (q:Int),ss F k l q V b->M V.a7<=Y->M V.a7<=W->∃aQ i,e9 (.Z H q) b aQ i/\ss F k l aQ (jw ah bK Y V) i:=by
 intro Y
 induction Y with
 |zero=>
  intro V b q a iR _;have:0<M V.a7:=by
   rcases a.cf.hC with h|h
   ·exact h.2.1.bX.1
   ·rw[h.2];simp
  omega
 |succ Y x=>
  intro V b q a iU iZ;unfold jw;by_cases e:V.m bK=true
  ·rw[aP e]
   have c:=B4 a.cf p e;obtain⟨s,y,z⟩:=B1 a.cf c p e;obtain⟨N,A,i0⟩:=l4 a.cf c z;obtain⟨o,G,B,d⟩:=u V.c b.g N.cf T;have C:=d.fk;have t:b.g.al=b.al+1:=rfl;have D:b.g.aC=b.aC:=rfl;rw[t,D]at C;have E:=d.al;rw[t]at E;have i1:=a.fk;have i2:=a.al;have jt:=a.cf.b8.aC;have I:=vJ d.cf ⟨b.af.a8,q,o,0,cD,cD,0⟩ ⟨V.af.bn,0,⟨#[]⟩,0⟩ T;have m:=d.cf.b8;have J:ss F k l (M G.aC) ((ah V.c).aO ⟨V.af.bn,0,⟨#[]⟩,0⟩) (G.gC ⟨b.af.a8,q,o,0,cD,cD,0⟩):=by
    refine⟨((a.toij.trans N).trans d.toij).trans I,?_,?_⟩
    ·simp only[au.gC,bV,dT,d5];omega
    ·intro K;have P:G.bk<0:=K;obtain⟨f,gf,jW,gg,gj,gC,gE,gF⟩:=a.cU c;obtain⟨g,gL,j4,g1,hu,hE,hS,hV⟩:=d.cU P;subst gg;subst g1;refine⟨f++g++[⟨V.af.bn,0,⟨#[]⟩,0⟩],.eH V.af.bn gf gL,M G.aC,rfl,?_,?_,w s gE hS,?_⟩
     ·show((ah V.c).cU.map _)=_;rw[hu,show V.c.cU=V.cU from rfl,gj,vx,vx,ke]
     ·rw[y];exact Ad (v _ s) (gC.cE (N.aC.trans d.aC)) hE 0
     ·exact(gF.C (hV.B (k3 A))).C (eM.kS qI (aN _))
   have j9:M ((ah V.c).aO ⟨V.af.bn,0,⟨#[]⟩,0⟩).a7<=V.c.a7.length:=d.bX;obtain⟨aQ,i,hZ,ih⟩:=x _ _ _ J T T;refine⟨aQ,i,.yf c (by rw[<-r V b a.cf c];exact e) B ?_ hZ,ih⟩;have:=m.aC;have:=m.cY;have:=m.aT;omega
  ·rw[aH e];refine⟨q,b,.wF ?_,a⟩;by_cases c:b.bk<0
   ·rw[<-r V b a.cf c];simp[e]
   ·simp[c]
theorem w2(j:H=0\/H=1\/H=3\/H=4)(k:j6 ah)(c:l6 (H+1) F ah W)(d:∀Y∈bK,Y∈dd)(l:∀(V:aA) (b:au),dP V b->b.bk<0->V.m bK=b.af.gf H)(m:∀Y∈bK,Y∈[m9,m3,nc,gM,lT,iI]++gz)
 (p:∀{a:ByteArray} {q o:cH} {e f:List c0},a∈bK->fu F q e->fu F o f->fu F (.eH a q o) (e++f++[⟨a,0,⟨#[]⟩,0⟩])):l6 H F (jS ah bK) W:=by
 intro V b h g;by_cases r:b.bk<0
 ·obtain⟨q,G,s,i⟩:=c V b h g;obtain⟨aQ,t,u,v⟩:=Oj c d l m p (M (ah V).a7) (ah V) G q i (aN _) (bS i.bX g);exact⟨aQ,t,.xD r j s u,v⟩
 ·exact AT (uM k d) h T
theorem JP(b:j6 ah)(c:l6 5 false ah W):l6 4 false (yt ah) W:=
 w2 T b c wT (λ_ _ h d=>IY h d) av (λa=>.r9 (by simp at a⊢;rcases a with h|h<;>simp[h]))
theorem Ef(a:j6 ah)(c:l6 5 false ah W):l6 3 false (gU ah) W:=
 w2 T (uM a wT) (JP a c) Bx (λ_ _ h d=>Kr h d) av (λb=>.r9 (by simp at b⊢;rcases b with h|h<;>simp[h]))
