import Derived.Test.YtddbjcfdmdbmkaaGreatDoorB12
set_option linter.all false
set_option maxRecDepth 100000
set_option maxHeartbeats 3200000
namespace Go.Proofs.YtddbjcfdmdbmkaaGreatDoor
open Go.RowKit Go.Proofs.Tryz
open Go renaming Calls->aR,Value->an,World->aq
open Go.Ending renaming returned->aM
open Go.IntKind renaming i64->Q
open Go.Obj renaming cells->aw
open Go.RowKit renaming Below->aF,Hid->ag,intOf->bm
open Go.Value renaming int->O,pointer->aD,slice->U,string->az
open Go.World renaming alloc->ar,cell?->aK,heap->R
open List renaming length->M
variable{c:aB->Bool}{a:List aB}{b N o b1:Nat}{k:Nat->Nat}{L:aq}{j:an}{q:Array an}{d:List (List aB)}{r:aA}{u:au}
def vM(N:Nat)(s:Array an)(t:aB->Bool)(L:aq):Prop:=(∀args L,(callFunc N args).run prog L=.ok (.enter N args) L)/\∀(f:aq) (l:aB) (m p:an),aF (R L).size L f->(∃g h i,m=U g h i)->(∃g h i,p=U g h i)->aR prog N (#[eu l m p]++s) f λe v=>e=aM (.bool (t l))/\aF (R f).size f v
def n3(e:aB->Bool)(f:List aB):Int:=match f.findIdx? e with|some g=>(g:Int)|none=> -1
theorem J5(f:b<M a)(h:c a[b]=true)(g:∀d,(e:d<b)->c (a[d]'T)=false):n3 c a=b:=by have:a.findIdx? c=some b:=uX.2 ⟨f,h,λd e=>by simp[g d e]⟩;unfold n3;rw[this]
theorem Jd(e:∀b,(d:b<M a)->c a[b]=false):n3 c a= -1:=by have:a.findIdx? c=none:=ui.2 (λg f=>by obtain⟨b,d,rfl⟩:=iW f;exact e b d);unfold n3;rw[this]
theorem Jy(c:aB->Bool)(a:List aB):decide ((0:Int)<=n3 c a)=a.any c:=by
 unfold n3;cases h:a.findIdx? c with
 |none=>
  have:=ui.1 h;have e:a.any c=false:=by rw[xp];intro d f;simp[this d f]
  rw[e];rfl
 |some b=>obtain⟨g,i,_⟩:=uX.1 h;have e:a.any c=true:=jf.2 ⟨_,b4 g,i⟩;rw[e];simp
theorem K1(h:hA k L j a)(gg:M a<=1000000)(z:vM N q c L):
 aR prog 172 #[j,.func (.func N) #[] q] L λe A=>e=aM (O Q (n3 c a))/\aF (R L).size L A:=by
 obtain⟨gj,w⟩:=z;rcases h with⟨rfl,gC,gE,rfl⟩|⟨gF,o,b1,rfl,gL,B⟩
 ·go_enter func172,ntmps172;go_wp2
  go_loopw [8] (λl wr=>l=O Q 0/\wr=L) (λ_ _=>0)
  case atStart=>exact⟨rfl,rfl⟩
  case round=>obtain⟨rfl,rfl⟩:=hrel;go_wp2;go_ret;exact⟨rfl,ca _ _⟩
 ·go_enter func172,ntmps172;go_wp2
  go_loopw [8] (λl wr=>∃b:Nat,b<=M a/\l=O Q b/\aF (R L).size L wr/\ag (∀d,(f:d<b)->(p:d<M a)->c a[d]=false)) (λl _=>M a-(bm l).toNat)
  case atStart=>exact⟨0,bL _,rfl,ca _ _,λd f=>absurd f (vT _)⟩
  case round=>
   obtain⟨b,g1,rfl,g,r⟩:=hrel;by_cases s:b<M a
   ·obtain⟨C,D,t,x,E,F,G,H,I,J⟩:=(B.bo (aU.H g)).ep b s;have y:(o+b)*6=o*6+b*6:=T;rw[y]at E F G H I J;have m:=w wr a[b] C D g (dr t.1) x;obtain⟨hu,hE,hS,rfl⟩:=dr t.1;obtain⟨hV,hZ,ih,rfl⟩:=x;have iR:(b:Int)<(M a:Int):=T;have iU:(0:Int)<=(b:Int):=T;simp only[eu]at m;clear y t w;generalize o*6=iZ at*;cases i:c a[b]with
    |true=>rw[i]at m;have u:ag (n3 c a=(b:Int)):=J5 s i (λd f=>r.out d f T);clear i;go_wp2_with(go_at_fn N;refine m.mono ?_;rintro e K ⟨rfl,v⟩);go_ret;rw[u.out];exact⟨rfl,g.trans (v.mono g.size)⟩
    |false=>
     rw[i]at m;have P:ag (∀d,(f:d<b+1)->(p:d<M a)->c a[d]=false):=λd f p=>by
      by_cases e:d=b
      ·subst e;exact i
      ·exact r.out d T p
     clear i;go_wp2_with(go_at_fn N;refine m.mono ?_;rintro e K ⟨rfl,v⟩);go_roundw
     case rel=>exact⟨b+1,s,bE,g.trans (v.mono g.size),P⟩
     case measure=>simp[bm];omega
   ·have gf:b=M a:=by omega
    subst gf;have u:ag (n3 c a= -1):=Jd (λd f=>r.out d f f);go_wp2;go_ret;rw[u.out];exact⟨rfl,g⟩
theorem Ac(h:hA k L j a)(d:M a<=1000000)(f:vM N q c L):
 aR prog 137 #[j,.func (.func N) #[] q] L λe g=>e=aM (.bool (a.any c))/\aF (R L).size L g:=by
 have i:=K1 h d f;have l:∃m o b,j=U m o b:=by rcases h with⟨_,c,b,rfl⟩|⟨N,s,b1,rfl,_⟩<;>exact⟨_,_,_,rfl⟩
 obtain⟨t,u,v,rfl⟩:=l;have p:ag (decide ((0:Int)<=n3 c a)=a.any c):=Jy c a;generalize n3 c a=w at*;go_enter func137,ntmps137;go_wp2_with(go_at_call 172;refine i.mono ?_;rintro e x ⟨rfl,r⟩);go_ret;exact⟨kC p.out,r⟩
def lD(e:ByteArray)(f:aB):Bool:=f.name.toList==e.toList
theorem Mx{b:ByteArray}(c:o<(R L).size)(f:aK L ⟨o,0,none⟩=some (az b)):vM 173 #[aD (some ⟨o,0,none⟩)] (lD b) L:=by refine⟨Go.Proofs.enters_of func173 (by kernel_rfl) rfl,λd a s t e g h=>?_⟩;obtain⟨i,j,k,rfl⟩:=g;obtain⟨l,m,q,rfl⟩:=h;have u:=(e.cell (p:=⟨o,0,none⟩) c).trans f;have v:o<(R d).size:=cI c e.size;have r:ag (lD b a=(a.name.toList==b.toList)):=rfl;simp only[eu];show aR prog 173 #[.agg #[az a.name,O Q a.aX,O Q a.bG,O Q a.ao,U i j k,U l m q],aD (some ⟨o,0,none⟩)] d _;go_enter func173,ntmps173;go_wp2;go_ret;exact⟨kC r.out.symm,(ca _ _).alloc (aN _) _⟩
theorem hA.cV(h:hA k L j a):∃d e b,j=U d e b:=by rcases h with⟨_,c,b,rfl⟩|⟨N,f,b1,rfl,_⟩<;>exact⟨_,_,_,rfl⟩
theorem DN(h:hA k L j a)(f:M a<=1000000)(b:ByteArray):
 aR prog 139 #[j,az b] L λe g=>e=aM (.bool (a.any (lD b)))/\aF (R L).size L g:=by
 have o:∀(d:Fn) (first b1:Array an) (L:aq),(Instr.makeFunc d first b1).run prog L=.ok (.func d first b1) L:=λ_ _ _ _=>rfl
 have c:aF (R L).size L (ar L (aw #[az b] 9)):=(ca _ _).alloc (aN _) _;have i:vM 173 #[aD (some ⟨(R L).size,0,none⟩)] (lD b) (ar L (aw #[az b] 9)):=Mx av ((aL.bT L #[az b] 9).aa 0);have l:=Ac (h.bo (aU.H (ab:=k) c)) f i;obtain⟨p,q,r,rfl⟩:=h.cV;generalize a.any (lD b)=s at*;go_enter func139,ntmps139;go_wp2_with(go_at_call 137;refine l.mono ?_;rintro e t ⟨rfl,m⟩);go_ret;exact⟨rfl,c.trans (m.mono c.size)⟩
def jp(e f:aB):Bool:=(f.name.toList==e.name.toList)&&!(f.aX==e.aX)
theorem FG{kj:aB}(b:o<(R L).size)(g:aK L ⟨o,0,none⟩=some (az kj.name))(h:aK L ⟨o,1,none⟩=some (O Q kj.aX)):vM 138 #[aD (some ⟨o,0,none⟩)] (jp kj) L:=by
 refine⟨Go.Proofs.enters_of func138 (by kernel_rfl) rfl,λe a u v c i j=>?_⟩;obtain⟨k,l,m,rfl⟩:=i;obtain⟨q,r,s,rfl⟩:=j;have w:=(c.cell (p:=⟨o,0,none⟩) b).trans g;have x:=(c.cell (p:=⟨o,1,none⟩) b).trans h;have y:o<(R e).size:=cI b c.size;simp only[eu];show aR prog 138 #[.agg #[az a.name,O Q a.aX,O Q a.bG,O Q a.ao,U k l m,U q r s],aD (some ⟨o,0,none⟩)] e _;cases f:(a.name.toList==kj.name.toList)with
 |true=>
  have d:ag (jp kj a=!(a.aX==kj.aX)):=by show _=_;unfold jp;rw[f];rfl
  have t:ag ((!(a.aX==kj.aX))=((a.aX:Int)!=(kj.aX:Int))):=by show _=_;rw[nM];simp;omega
  go_enter func138,ntmps138;go_wp2;go_ret;refine⟨kC ?_,(ca _ _).alloc (aN _) _⟩;rw[d.out,t.out]
  try simp
 |false=>
  have d:ag (jp kj a=false):=by show _=_;unfold jp;rw[f];rfl
  go_enter func138,ntmps138;go_wp2;go_ret;exact⟨kC d.out.symm,(ca _ _).alloc (aN _) _⟩
def hY(f:aB)(g:List aB)(e:c0):Bool:=!(e.name.toList==[])&&!(e.name.toList==f.name.toList)&&!(g.any (lD e.name))
def gl(f:List aB)(g:Nat):Nat×Nat:=
 let e:=f.getD g default
 if cW e&&(f.take g).any (jp e)then(e.aX,4)
 else match e.bB.find? (hY e (f.take g))with
  |some h=>(h.aX,5)
  |none=>(0,0)
theorem hb.gj{a:List c0}(h:hb k L j a):(a=[]/\∃c l,j=U c 0 l)\/∃N b1,j=U (some ⟨N,0,none⟩) (M a) b1/\N<(R L).size/\
 ∀b,(f:b<M a)->aK L ⟨N,b*4,none⟩=some (az a[b].g8)/\aK L ⟨N,b*4+1,none⟩=some (O Q a[b].lM)/\aK L ⟨N,b*4+2,none⟩=some (az a[b].name)/\aK L ⟨N,b*4+3,none⟩=some (O Q a[b].aX):=by
 obtain⟨i,_⟩:=h;rcases i.2 with⟨rfl,m⟩|⟨N,b1,s,rfl,_,o,_⟩
 ·exact .inl ⟨sD m,_,_,rfl⟩
 ·refine .inr ⟨N,b1,rfl,(i7.1 o).1,λb f=>?_⟩;have ba:∀d,d<4->∀e,(c0.h a[b])[d]?=some e->aK L ⟨N,b*4+d,none⟩=some e:=by intro d p e q;have:=i.cells (g:=N) rfl (b*4+d) e (by rw[i5 c0.h 4 (λ_=>rfl) _ _ _ f p];exact q);have r:(⟨N,0,none⟩:Addr).add (b*4+d)=⟨N,b*4+d,none⟩:=l0;rw[r]at this;exact this
  exact⟨ba 0 ak _ rfl,ba 1 ak _ rfl,ba 2 ak _ rfl,ba 3 ak _ rfl⟩
theorem FT{c:c0->Bool}{a:List c0}(f:b<M a)(h:c a[b]=true)(g:∀d,(e:d<b)->(i:d<M a)->c a[d]=false):a.find? c=some a[b]:=by rw[Lx];exact⟨h,b,f,rfl,λd e=>by simp[g d e T]⟩
theorem Dz{c:c0->Bool}{a:List c0}(e:∀b,(d:b<M a)->(g:b<M a)->c a[b]=false):a.find? c=none:=by rw[Gh];intro h f;obtain⟨b,d,rfl⟩:=iW f;simp[e b d d]
theorem Fg{d:Option Addr}{b f:Nat}{a:List c0}(h:hb k L (U d b f) a):b=M a:=by
 rcases h.gj with⟨e,c,g,h⟩|⟨N,b1,h,_⟩
 ·cases h;rw[e];rfl
 ·cases h;rfl
theorem S_{a:List c0}(h:hb k L j a):M a<=maxLen:=by
 rcases h.1.2 with⟨_,e⟩|⟨N,b1,d,_,_,_,b,c,_⟩
 ·rw[e];exact bL _
 ·exact bS b c
theorem Ng{P:Nat}(jt:iY k L N P a)(ug:M a<=b1)(uY:M a<=1000000){c:Nat}(m5:c<M a):
 aR prog 88 #[U (some ⟨N,P*6,none⟩) (M a) b1,O Q c] L λe hu=>e=aM (.tuple #[O Q (gl a c).1,O Q (gl a c).2])/\aF (R L).size L hu:=by
 have vE:∀(ne:Fn) (first b1:Array an) (L:aq),(Instr.makeFunc ne first b1).run prog L=.ok (.func ne first b1) L:=λ_ _ _ _=>rfl
 obtain⟨o6,pa,K,nB,py,pF,pR,pU,nG,pX⟩:=jt.ep c m5;have oa:(P+c)*6=P*6+c*6:=T;rw[oa]at py pF pR pU nG pX;have wz:=jt.am;have gf:=λL=>sz a[c] o6 pa (dr K.1) nB L
 have ob:a.getD c default=a[c]:=by simp[List.getD,m5]
 have jW:ag (gl a c=if cW a[c]&&(a.take c).any (jp a[c])then(a[c].aX,4)else match a[c].bB.find? (hY a[c] (a.take c))with|some d=>(d.aX,5)|none=>(0,0)):=by show _=_;unfold gl;rw[ob]
 have iZ:∀hu,aF (R L).size L hu->hA k hu (U (some ⟨N,P*6,none⟩) c b1) (a.take c):=λhu pZ=>by
  by_cases e:c=0
  ·subst e;exact .inl ⟨rfl,_,_,rfl⟩
  ·exact .inr ⟨N,P,b1,by rw[hT,qn T],by rw[hT];omega,(jt.lJ c).bo (aU.H pZ)⟩
 have i0:M (a.take c)<=1000000:=by rw[hT];omega
 have qp:=S_ K;unfold maxLen at qp;obtain⟨z,t,A,oH⟩:=dr K.1;obtain⟨B,C,D,rfl⟩:=nB;have wB:(c:Int)<(M a:Int):=T;have xf:(0:Int)<=(c:Int):=T;have xk:(c:Int)<=(b1:Int):=T;simp only[eu]at gf;rw[oH]at gf nG K;clear oa ob oH;generalize xr:P*6=ys at*;cases q:cW a[c]with
 |true=>
  rw[q]at gf;cases i1:(a.take c).any (jp a[c])with
  |true=>
   have gg:ag (gl a c=(a[c].aX,4)):=by show _=_;rw[jW.out,q,i1];rfl
   go_enter func88,ntmps88;go_wp2
   go_region
   go_wp2_with(first|(go_at_call 137;refine(Ac (iZ _ u) i0 (FG (kj:=a[c]) h.am (h.aa 0) (h.aa 1))).mono ?_;rintro e j4 ⟨rfl,g1⟩;rw[i1];have i2:=u.trans (g1.mono u.size);have hE:aL j4 (R L).size #[az a[c].name,O Q a[c].aX,O Q a[c].bG,O Q a[c].ao,U z t A,U B C D] 189:=h.d (g1.block _ h.am);have qt:=hE.aa 1;simp at qt)|(go_at_call 91;refine(gf _).mono ?_;rintro e oS ⟨rfl,v,rfl⟩;have u:aF (R L).size L (ar (ar L (aw #[az a[c].name,O Q a[c].aX,O Q a[c].bG,O Q a[c].ao,U z t A,U B C D] 189)).drew v):=eY (eY ((ca _ _).alloc (aN _) _) (jm _ none) (λN e=>by cases e)) (fv _ v none) (λN e=>by cases e);have h:=((aL.bT L #[az a[c].name,O Q a[c].aX,O Q a[c].bG,O Q a[c].ao,U z t A,U B C D] 189).e).a v))
   go_ret2
   rw[gg.out];exact⟨rfl,i2⟩
  |false=>
   have gg:ag (gl a c=match a[c].bB.find? (hY a[c] (a.take c))with|some d=>(d.aX,5)|none=>(0,0)):=by show _=_;rw[jW.out,q,i1];rfl
   go_enter func88,ntmps88;go_wp2
   go_region
   go_wp2_with(first|(go_at_call 137;refine(Ac (iZ _ u) i0 (FG (kj:=a[c]) h.am (h.aa 0) (h.aa 1))).mono ?_;rintro e j4 ⟨rfl,g1⟩;rw[i1];have i2:=u.trans (g1.mono u.size);have hE:aL j4 (R L).size #[az a[c].name,O Q a[c].aX,O Q a[c].bG,O Q a[c].ao,U z t A,U B C D] 189:=h.d (g1.block _ h.am);have qP:=hE.aa 4;simp at qP)|(go_at_call 91;refine(gf _).mono ?_;rintro e oS ⟨rfl,v,rfl⟩;have u:aF (R L).size L (ar (ar L (aw #[az a[c].name,O Q a[c].aX,O Q a[c].bG,O Q a[c].ao,U z t A,U B C D] 189)).drew v):=eY (eY ((ca _ _).alloc (aN _) _) (jm _ none) (λN e=>by cases e)) (fv _ v none) (λN e=>by cases e);have h:=((aL.bT L #[az a[c].name,O Q a[c].aX,O Q a[c].bG,O Q a[c].ao,U z t A,U B C D] 189).e).a v))
   have j9:=i2;have kp:=hE;clear g1 i2 hE u h
   go_loopw [29] (λg wr=>∃b:Nat,b<=M a[c].bB/\g=O Q b/\aF (R L).size L wr/\aL wr (R L).size #[az a[c].name,O Q a[c].aX,O Q a[c].bG,O Q a[c].ao,U z t A,U B C D] 189/\ag (∀f,(E:f<b)->(gj:f<M a[c].bB)->hY a[c] (a.take c) (a[c].bB[f])=false)) (λg _=>M a[c].bB-(bm g).toNat)
   case atStart=>exact⟨0,bL _,rfl,j9,kp,λf E=>absurd E (vT _)⟩
   case round=>
    obtain⟨b,qW,rfl,F,gC,gE⟩:=hrel;have hS:=Fg K;have kr:=gC.aa 0;have ra:=gC.am;have rA:(R L).size<(R wr).size+1:=T;simp at kr;by_cases j:b<M a[c].bB
    ·rcases K.gj with⟨e,_⟩|⟨gF,rR,e,kx,hV⟩
     ·rw[e]at j;simp at j
     ·cases e;obtain⟨hZ,ih,iR,iU⟩:=hV b j;have w:∀g gL,aK L ⟨gF,b*4+g,none⟩=some gL->aK wr ⟨gF,b*4+g,none⟩=some gL:=λg gL e=>(F.cell (p:=⟨gF,b*4+g,none⟩) kx).trans e
      have k1:=w 0 _ hZ;have sY:=w 1 _ ih;have tB:=w 2 _ iR;have tI:=w 3 _ iU;rw[pC]at k1;have k7:(b:Int)<(M a[c].bB:Int):=T;have t8:(0:Int)<=(b:Int):=T;clear hV w hZ ih iR iU hS;have l:hY a[c] (a.take c) a[c].bB[b]=false->ag (∀f,(E:f<b+1)->(gj:f<M a[c].bB)->hY a[c] (a.take c) (a[c].bB[f])=false):=λq f E gj=>by
       by_cases e:f=b
       ·subst e;exact q
       ·exact gE.out f T gj
      have m:hY a[c] (a.take c) a[c].bB[b]=true->ag (gl a c=(a[c].bB[b].aX,5)):=λq=>by show _=_;rw[gg.out,FT j q gE.out]
      have G:=λlo h=>DN (iZ lo h) i0 a[c].bB[b].name
      have i:aF (R L).size L (ar wr (aw #[az a[c].bB[b].g8,O Q a[c].bB[b].lM,az a[c].bB[b].name,O Q a[c].bB[b].aX] 241)):=F.alloc F.size _;have H:=gC.a (aw #[az a[c].bB[b].g8,O Q a[c].bB[b].lM,az a[c].bB[b].name,O Q a[c].bB[b].aX] 241);have r:∀d:List UInt8,d.isEmpty=(d==[]):=λd=>by cases d<;>rfl
      have I:ag (hY a[c] (a.take c) a[c].bB[b]=(!(a[c].bB[b].name.toList==[])&&!(a[c].bB[b].name.toList==a[c].name.toList)&&!((a.take c).any (lD a[c].bB[b].name)))):=rfl;generalize a[c].bB[b]=d at*;cases s:(d.name.toList==[])with
      |true=>
       have l8:d.name.toList.isEmpty=true:=(r _).trans s;have o:=l (by rw[I.out,s];rfl);clear r l m;go_wp2_with fail;go_roundw
       case rel=>exact⟨b+1,j,bE,i,H,o⟩
       case measure=>simp[bm];omega
      |false=>
       have l8:d.name.toList.isEmpty=false:=(r _).trans s;cases x:(d.name.toList==a[c].name.toList)with
       |true=>
        have o:=l (by rw[I.out,s,x];rfl);have me:(d.name.toList !=a[c].name.toList)=false:=by simp[bne,x]
        clear r l m;go_wp2_with fail;go_roundw
        case rel=>exact⟨b+1,j,bE,i,H,o⟩
        case measure=>simp[bm];omega
       |false=>
        have me:(d.name.toList !=a[c].name.toList)=true:=by simp[bne,x]
        cases J:(a.take c).any (lD d.name)with
        |true=>
         have o:=l (by rw[I.out,s,x,J];rfl);rw[J]at G;clear r l m;go_wp2_with(go_at_call 139;refine(G _ i).mono ?_;rintro e mn ⟨rfl,y⟩);go_roundw
         case rel=>exact⟨b+1,j,bE,i.trans (y.mono i.size),H.d (y.block _ H.am),o⟩
         case measure=>simp[bm];omega
        |false=>
         have o:=m (by rw[I.out,s,x,J];rfl);rw[J]at G;clear r l m;go_wp2_with(go_at_call 139;refine(G _ i).mono ?_;rintro e mn ⟨rfl,y⟩;have mO:=(y.cell (p:=⟨(R wr).size,3,none⟩) av).trans ((aL.bT wr #[az d.g8,O Q d.lM,az d.name,O Q d.aX] 241).aa 3);simp at mO)
         go_ret2
         rw[o.out];exact⟨rfl,i.trans (y.mono i.size)⟩
    ·have mR:b=M a[c].bB:=by omega
     have m:ag (gl a c=(0,0)):=by show _=_;rw[gg.out,Dz (λg ub mY=>gE.out g T mY)]
     have k7:¬(b:Int)<(t:Int):=T;clear mR hS;go_wp2
     go_ret2
     rw[m.out];exact⟨rfl,F⟩
 |false=>
  rw[q]at gf;have gg:ag (gl a c=match a[c].bB.find? (hY a[c] (a.take c))with|some d=>(d.aX,5)|none=>(0,0)):=by show _=_;rw[jW.out,q];rfl
  go_enter func88,ntmps88;go_wp2
  go_region
  go_wp2_with((go_at_call 91;refine(gf _).mono ?_;rintro e oS ⟨rfl,v,rfl⟩;have u:aF (R L).size L (ar (ar L (aw #[az a[c].name,O Q a[c].aX,O Q a[c].bG,O Q a[c].ao,U z t A,U B C D] 189)).drew v):=eY (eY ((ca _ _).alloc (aN _) _) (jm _ none) (λN e=>by cases e)) (fv _ v none) (λN e=>by cases e);have h:=((aL.bT L #[az a[c].name,O Q a[c].aX,O Q a[c].bG,O Q a[c].ao,U z t A,U B C D] 189).e).a v));have j9:=u;have kp:=h;clear u h
  go_loopw [29] (λg wr=>∃b:Nat,b<=M a[c].bB/\g=O Q b/\aF (R L).size L wr/\aL wr (R L).size #[az a[c].name,O Q a[c].aX,O Q a[c].bG,O Q a[c].ao,U z t A,U B C D] 189/\ag (∀f,(E:f<b)->(gj:f<M a[c].bB)->hY a[c] (a.take c) (a[c].bB[f])=false)) (λg _=>M a[c].bB-(bm g).toNat)
  case atStart=>exact⟨0,bL _,rfl,j9,kp,λf E=>absurd E (vT _)⟩
  case round=>
   obtain⟨b,qW,rfl,F,gC,gE⟩:=hrel;have hS:=Fg K;have kr:=gC.aa 0;have ra:=gC.am;have rA:(R L).size<(R wr).size+1:=T;simp at kr;by_cases j:b<M a[c].bB
   ·rcases K.gj with⟨e,_⟩|⟨gF,rR,e,kx,hV⟩
    ·rw[e]at j;simp at j
    ·cases e;obtain⟨hZ,ih,iR,iU⟩:=hV b j;have w:∀g gL,aK L ⟨gF,b*4+g,none⟩=some gL->aK wr ⟨gF,b*4+g,none⟩=some gL:=λg gL e=>(F.cell (p:=⟨gF,b*4+g,none⟩) kx).trans e
     have k1:=w 0 _ hZ;have sY:=w 1 _ ih;have tB:=w 2 _ iR;have tI:=w 3 _ iU;rw[pC]at k1;have k7:(b:Int)<(M a[c].bB:Int):=T;have t8:(0:Int)<=(b:Int):=T;clear hV w hZ ih iR iU hS;have l:hY a[c] (a.take c) a[c].bB[b]=false->ag (∀f,(E:f<b+1)->(gj:f<M a[c].bB)->hY a[c] (a.take c) (a[c].bB[f])=false):=λq f E gj=>by
      by_cases e:f=b
      ·subst e;exact q
      ·exact gE.out f T gj
     have m:hY a[c] (a.take c) a[c].bB[b]=true->ag (gl a c=(a[c].bB[b].aX,5)):=λq=>by show _=_;rw[gg.out,FT j q gE.out]
     have G:=λlo h=>DN (iZ lo h) i0 a[c].bB[b].name
     have i:aF (R L).size L (ar wr (aw #[az a[c].bB[b].g8,O Q a[c].bB[b].lM,az a[c].bB[b].name,O Q a[c].bB[b].aX] 241)):=F.alloc F.size _;have H:=gC.a (aw #[az a[c].bB[b].g8,O Q a[c].bB[b].lM,az a[c].bB[b].name,O Q a[c].bB[b].aX] 241);have r:∀d:List UInt8,d.isEmpty=(d==[]):=λd=>by cases d<;>rfl
     have I:ag (hY a[c] (a.take c) a[c].bB[b]=(!(a[c].bB[b].name.toList==[])&&!(a[c].bB[b].name.toList==a[c].name.toList)&&!((a.take c).any (lD a[c].bB[b].name)))):=rfl;generalize a[c].bB[b]=d at*;cases s:(d.name.toList==[])with
     |true=>
      have l8:d.name.toList.isEmpty=true:=(r _).trans s;have o:=l (by rw[I.out,s];rfl);clear r l m;go_wp2_with fail;go_roundw
      case rel=>exact⟨b+1,j,bE,i,H,o⟩
      case measure=>simp[bm];omega
     |false=>
      have l8:d.name.toList.isEmpty=false:=(r _).trans s;cases x:(d.name.toList==a[c].name.toList)with
      |true=>
       have o:=l (by rw[I.out,s,x];rfl);have me:(d.name.toList !=a[c].name.toList)=false:=by simp[bne,x]
       clear r l m;go_wp2_with fail;go_roundw
       case rel=>exact⟨b+1,j,bE,i,H,o⟩
       case measure=>simp[bm];omega
      |false=>
       have me:(d.name.toList !=a[c].name.toList)=true:=by simp[bne,x]
       cases J:(a.take c).any (lD d.name)with
       |true=>
        have o:=l (by rw[I.out,s,x,J];rfl);rw[J]at G;clear r l m;go_wp2_with(go_at_call 139;refine(G _ i).mono ?_;rintro e mn ⟨rfl,y⟩);go_roundw
        case rel=>exact⟨b+1,j,bE,i.trans (y.mono i.size),H.d (y.block _ H.am),o⟩
        case measure=>simp[bm];omega
       |false=>
        have o:=m (by rw[I.out,s,x,J];rfl);rw[J]at G;clear r l m;go_wp2_with(go_at_call 139;refine(G _ i).mono ?_;rintro e mn ⟨rfl,y⟩;have mO:=(y.cell (p:=⟨(R wr).size,3,none⟩) av).trans ((aL.bT wr #[az d.g8,O Q d.lM,az d.name,O Q d.aX] 241).aa 3);simp at mO)
        go_ret2
        rw[o.out];exact⟨rfl,i.trans (y.mono i.size)⟩
   ·have mR:b=M a[c].bB:=by omega
    have m:ag (gl a c=(0,0)):=by show _=_;rw[gg.out,Dz (λg ub mY=>gE.out g T mY)]
    have k7:¬(b:Int)<(t:Int):=T;clear mR hS;go_wp2
    go_ret2
    rw[m.out];exact⟨rfl,F⟩
structure v7 (ab:Nat->Nat) (L:aq) (N:Nat) (bP:List (List aB)):Prop where
 am:N<L.heap.size
 cG:ab N=7
 eJ:∀Y,(Ck:Y<bP.length)->∃a6,L.cell? ⟨N,Y,none⟩=some a6/\hA ab L a6 bP[Y]
theorem v7.bo{c:Nat->Nat}{f:aq}(h:v7 k L N d)(a:aU k L c f):v7 c f N d:=by have e:=a.db.iA N ⟨h.am,by rw[h.cG];decide⟩;refine⟨cI h.am a.b5,(a.ci N h.am).trans h.cG,λb g=>?_⟩;obtain⟨j,i,l⟩:=h.eJ b g;exact⟨j,(dn e _).trans i,l.bo a⟩
theorem hA.Sc(h:hA k L j a):∃d1 d,j=U d1 (M a) d/\(0<M a->∃N b,d1=some ⟨N,b*6,none⟩/\M a<=d/\iY k L N b a):=by
 rcases h with⟨rfl,c,e,rfl⟩|⟨N,b,b1,rfl,f,g⟩
 ·exact⟨c,e,rfl,λh=>absurd h av⟩
 ·exact⟨_,b1,rfl,λ_=>⟨N,b,rfl,f,g⟩⟩
def A9(h:Nat)(ah:List aB->Nat->Nat×Nat):Prop:=(∀args L,(callFunc h args).run prog L=.ok (.enter h args) L)/\∀(m:Nat->Nat) (L:aq) (N i l:Nat) (f:List aB),iY m L N i f->M f<=l->M f<=1000000->∀g,g<M f->aR prog h #[U (some ⟨N,i*6,none⟩) (M f) l,O Q g] L λe p=>e=aM (.tuple #[O Q (ah f g).1,O Q (ah f g).2])/\aF (R L).size L p
theorem y1:A9 87 fR:=⟨Go.Proofs.enters_of func87 (by kernel_rfl) rfl,λ_ _ _ _ _ _ a b c _ d=>O_ a b c d⟩
theorem Hk:A9 88 gl:=⟨Go.Proofs.enters_of func88 (by kernel_rfl) rfl,λ_ _ _ _ _ _ a b c _ d=>Ng a b c d⟩
def lV(e f:Nat×Nat):Nat×Nat:=if f.2≠0/\(e.2=0\/f.1<e.1)then f else e
def nl(ah:List aB->Nat->Nat×Nat)(e:List aB)(f:Nat×Nat):Nat->Nat×Nat
 |0=>f
 |g+1=>lV (nl ah e f g) (ah e g)
def nv(ah:List aB->Nat->Nat×Nat)(f:List (List aB))(g:Nat):Nat×Nat:=(f.take g).foldl (λh e=>nl ah e h (M e)) (0,0)
def f_(ah:List aB->Nat->Nat×Nat)(e:List (List aB)):Nat×Nat:=nv ah e (M e)
theorem Gp(ah:List aB->Nat->Nat×Nat)(d:List (List aB))(b:Nat)(h:b<M d):nv ah d (b+1)=nl ah d[b] (nv ah d b) (M d[b]):=by unfold nv;rw[ev h,h_];rfl
theorem vH{r:Nat}{ah:List aB->Nat->Nat×Nat}(J:A9 r ah)(B:v7 k L N d)(hZ:M d<=1000000)(K:∀a∈d,M a<=1000000):
 aR prog 86 #[U (some ⟨N,0,none⟩) (M d) b1,.func (.func r) #[] #[]] L λe P=>e=aM (.tuple #[O Q (f_ ah d).1,O Q (f_ ah d).2])/\aF (R L).size L P:=by
 obtain⟨ih,C⟩:=J;have iR:=B.am;have gf:ag (f_ ah d=nv ah d (M d)):=rfl;go_enter func86,ntmps86;go_wp2
 go_loopw [6,7,15] (λf y p wr=>∃b:Nat,b<=M d/\p=O Q b/\f=O Q (nv ah d b).1/\y=O Q (nv ah d b).2/\aF (R L).size L wr) (λ_ _ p _=>M d-(bm p).toNat)
 case atStart=>exact⟨0,bL _,rfl,rfl,rfl,ca _ _⟩
 case round=>
  obtain⟨b,iU,rfl,rfl,rfl,v⟩:=hrel;by_cases w:b<M d
  ·obtain⟨j,iZ,D⟩:=(B.bo (aU.H v)).eJ b w;obtain⟨d1,gg,rfl,E⟩:=D.Sc;clear D;obtain⟨F,rfl⟩:∃gj,gj=wr:=⟨_,rfl⟩;have gC:=K d[b] (b4 w);have G:ag (nv ah d (b+1)=nl ah d[b] (nv ah d b) (M d[b])):=Gp ah d b w;have i0:(b:Int)<(M d:Int):=T;have i1:(0:Int)<=(b:Int):=T;generalize d[b]=a at*;generalize nv ah d b=s at*;go_wp2
   go_loopw [6,7,21] (λf y p gE=>∃c:Nat,c<=M a/\p=O Q c/\f=O Q (nl ah a s c).1/\y=O Q (nl ah a s c).2/\aF (R F).size F gE) (λ_ _ p _=>M a-(bm p).toNat)
   case atStart=>exact⟨0,bL _,rfl,rfl,rfl,ca _ _⟩
   case round=>
    obtain⟨c,i2,rfl,rfl,rfl,l⟩:=hrel;by_cases t:c<M a
    ·obtain⟨gF,H,rfl,gL,I⟩:=E T;have x:=C k wr gF H gg a (I.bo (aU.H l)) gL gC c t;have m:ag (nl ah a s (c+1)=lV (nl ah a s c) (ah a c)):=rfl;have jt:(c:Int)<(M a:Int):=T;generalize nl ah a s c=f at*;generalize ah a c=g at*;generalize H*6=jW at*;clear C E I;by_cases o:g.2=0
     ·have i:ag (lV f g=f):=by show _=_;unfold lV;rw[aH (λh=>h.1 o)]
      have g1:((g.2:Int)!=0)=false:=by simp[o]
      clear o;go_wp2_with(go_at_fn r;refine x.mono ?_;rintro e z ⟨rfl,q⟩);go_roundw
      case rel=>exact⟨c+1,t,bE,by rw[m.out,i.out],by rw[m.out,i.out],l.trans (q.mono l.size)⟩
      case measure=>simp[bm];omega
     ·have g1:((g.2:Int)!=0)=true:=by simp;omega
      by_cases u:f.2=0
      ·have i:ag (lV f g=g):=by show _=_;unfold lV;rw[aP ⟨o,.inl u⟩]
       have hu:((f.2:Int)==0)=true:=by simp[u]
       clear o u;go_wp2_with(go_at_fn r;refine x.mono ?_;rintro e z ⟨rfl,q⟩);go_roundw
       case rel=>exact⟨c+1,t,bE,by rw[m.out,i.out],by rw[m.out,i.out],l.trans (q.mono l.size)⟩
       case measure=>simp[bm];omega
      ·have hu:((f.2:Int)==0)=false:=by rw[di];omega
       by_cases A:g.1<f.1
       ·have i:ag (lV f g=g):=by show _=_;unfold lV;rw[aP ⟨o,.inr A⟩]
        have hE:(g.1:Int)<(f.1:Int):=T;clear o u A;go_wp2_with(go_at_fn r;refine x.mono ?_;rintro e z ⟨rfl,q⟩);go_roundw
        case rel=>exact⟨c+1,t,bE,by rw[m.out,i.out],by rw[m.out,i.out],l.trans (q.mono l.size)⟩
        case measure=>simp[bm];omega
       ·have i:ag (lV f g=f):=by show _=_;unfold lV;rw[aH (λh=>by rcases h.2 with h|h<;>contradiction)]
        have hE:¬(g.1:Int)<(f.1:Int):=T;clear o u A;go_wp2_with(go_at_fn r;refine x.mono ?_;rintro e z ⟨rfl,q⟩);go_roundw
        case rel=>exact⟨c+1,t,bE,by rw[m.out,i.out],by rw[m.out,i.out],l.trans (q.mono l.size)⟩
        case measure=>simp[bm];omega
    ·have hS:c=M a:=by omega
     subst hS;go_wp2;go_roundw
     case rel=>exact⟨b+1,w,bE,by rw[G.out],by rw[G.out],v.trans (l.mono v.size)⟩
     case measure=>simp[bm];omega
  ·have hV:b=M d:=by omega
   subst hV;go_wp2
   go_ret2
   rw[gf.out];exact⟨rfl,v⟩
def pq(e:List bN):au:=⟨e,0, -1,0, -1,[],[],[],[],[],0,0⟩
theorem sM{c:Prop}(h:c:=by simp[pq]):c:=h
def mx(e:List bN):au:=(pq e).c5 ⟨#[119,105,116,104,105,110]⟩
def pD(e:List bN):au:={(mx e).bp 1 1000000 with bd:=(mx e).k}
def l2(e:List bN):au:=(pD e).c5 ⟨#[114,97,116,101]⟩
def kW(e:List bN):au:={(l2 e).bp 1 12 with aZ:=(l2 e).k}
def au.hu(e:au):au:=if e.af.ao=3 then e else e.c8
theorem OJ{b:List co}{a:List bN}(c:fg b a)(d:M a<=601):dP (gD b) (pq a):=
 ⟨⟨sM,sM,rfl,rfl,sM,d,sM,c.bX.2⟩,.inl ⟨sM,by simpa[pq,gD]using c,rfl,rfl,rfl⟩⟩
theorem D5(a:List bN):(pD a).aj=((mx a).bp 1 1000000).aj/\(pD a).aT=((mx a).bp 1 1000000).aT/\(pD a).bd=(mx a).k:=by unfold pD;exact⟨rfl,rfl,rfl⟩
theorem He(a:List bN):(kW a).aj=((l2 a).bp 1 12).aj/\(kW a).aT=((l2 a).bp 1 12).aT/\(kW a).bd=((l2 a).bp 1 12).bd/\(kW a).aZ=(l2 a).k:=by unfold kW;exact⟨rfl,rfl,rfl,rfl⟩
theorem PF(h:dP r u)(j:Int):dP r {u with bd:=j}:=⟨⟨h.b8.aC,h.b8.b9,h.b8.b6,h.b8.cc,h.b8.bz,h.b8.aT,h.b8.ej,h.b8.cY⟩,h.hC⟩
theorem R1(h:dP r u)(j:Int):dP r {u with aZ:=j}:=⟨⟨h.b8.aC,h.b8.b9,h.b8.b6,h.b8.cc,h.b8.bz,h.b8.aT,h.b8.ej,h.b8.cY⟩,h.hC⟩
