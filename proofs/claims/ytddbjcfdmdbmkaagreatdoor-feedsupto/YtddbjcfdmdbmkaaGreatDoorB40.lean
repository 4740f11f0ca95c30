import Derived.Test.YtddbjcfdmdbmkaaGreatDoorB39
set_option linter.all false
set_option maxRecDepth 100000
set_option maxHeartbeats 6400000
namespace Go.Proofs.YtddbjcfdmdbmkaaGreatDoor
open Go.RowKit Go.Proofs.Tryz
open Go.IntKind renaming i64->Q
open Go.Value renaming bool->cK,int->O,slice->U
open Go renaming World->aq
open Go.World renaming alloc->ar,cell?->aK,drewN->bY
open List renaming length->M
variable{d:Nat->Nat}{L:aq}{c j:Nat}{b:List kB}{k:Value}{a:List ip}
theorem Bs{bD c:Type}:∀(a:List bD) (b:List c),M a=M b->(a.zip b).map (·.1)=a/\(a.zip b).map (·.2)=b
 |[],[],_=>⟨rfl,rfl⟩
 |f::a,g::b,h=>by obtain⟨d,e⟩:=Bs a b (by simpa using h);exact⟨by simp only[tM,hB];rw[d],by simp only[tM,hB];rw[e]⟩
theorem Ge(h:dx d L c b j):
 Calls prog 46 #[.pointer (some ⟨c,0,none⟩)] L λe q=>e=.returned (cK true)/\∃r,q=bY L r:=by
 obtain⟨x,y,z,A,B,C,f,g,i,a,h⟩:=h;obtain⟨s,m⟩:=Bs f g h.hj.1;obtain⟨fo,dt⟩:=Bs i a h.hl.1;have t:=h.hj.1;have u:=h.hl.1;have o:M (f.zip g)=M f:=by rw[jT];omega
 have p:M (i.zip a)=M i:=by rw[jT];omega
 have D:=h.fV;have E:=h.qN;have F:=h.q8;have G:=h.rC;refine MZ (lr:=λv=>d v=6) (bH:=f.zip g) (ct:=i.zip a) ⟨h.aQ.ax,?_,?_,?_,?_,λe k=>?_,λe k=>?_,T,T,T⟩
 ·rw[s,o];exact h.aQ.li.bg
 ·have:=h.aQ.lf.bg;rw[c_,<-t,<-o]at this;rw[show(f.zip g).map (λe=>O Q e.2)=g.map (O Q) by rw[<-m,sj,m];rfl];exact this
 ·rw[fo,p];exact h.aQ.kE.bg
 ·have:=h.aQ.lC.bg;rw[c_,<-u,<-p]at this;rw[show(i.zip a).map (λe=>O Q e.2)=a.map (O Q) by rw[<-dt,sj,dt];rfl];exact this
 ·obtain⟨l,w,rfl⟩:=iW k;rw[n7];exact h.hj.2 l T T
 ·obtain⟨l,w,rfl⟩:=iW k;rw[n7];exact h.hl.2 l T T
structure x_ (L:aq) (a6:Value) (dR:List ip):Prop where
 cV:∃bj aE,a6=U bj dR.length aE/\(0<dR.length->∃N pK,bj=some ⟨N,pK,none⟩/\N<L.heap.size/\∀Y,(Ck:Y<dR.length)->∀dV,dV<8->L.cell? ⟨N,pK+Y*8+dV,none⟩=(fK dR[Y])[dV]?)
 h2:∀kj∈dR,c1 kj.ef/\c1 kj.a6.aS
theorem RJ(L:aq):dx (aO (λ_=>0) L.heap.size 1) (ar L (.cells #[U none 0 0,O Q 0,U none 0 0,U none 0 0,U none 0 0,U none 0 0] 86)) L.heap.size [] 0:=by
 have a:∀c d,gh (aO (λ_=>0) L.heap.size 1) (ar L (.cells #[U none 0 0,O Q 0,U none 0 0,U none 0 0,U none 0 0,U none 0 0] 86)) c d (U none 0 0) []:=λc d=>⟨eE _ _ _ _,λN f=>by simp[Value.ownBlock]at f⟩
 exact⟨U none 0 0,0,U none 0 0,U none 0 0,U none 0 0,U none 0 0,[],[],[],[],⟨aL.bT L _ _,cy _ _ _,a _ _,a _ _,a _ _,a _ _⟩,⟨rfl,λe b=>by simp at b⟩,⟨rfl,λe b=>by simp at b⟩,a _ _,λe b=>by simp at b,aN _,λh g=>by simp at g,bL _,bL _,bL _,ak⟩
theorem AH(L:aq)(a:Nat):Below L.heap.size L (bY L a):=⟨rfl,rfl,rfl,aN _,λ_ _=>rfl⟩
theorem dx.E(h:dx d L c b j)(e:Nat):dx d (bY L e) c b j:=by have a:=h;obtain⟨_,_,_,_,_,_,_,_,_,_,a⟩:=a;exact h.bI (AH L e) (aN _) a.fV
theorem FO(hZ:x_ L k a)(me:M a<=900000)(D:Int)(y:∀{d:Nat->Nat} {L:aq} {c:Nat} {b:List kB} {j:Nat},dx d L c b j->j+1<=2000000->∀s:ip,s.ao<=D->c1 s.ef->c1 s.a6.aS->Calls prog 45 #[.pointer (some ⟨c,0,none⟩),hH s] L λo t=>o=.returned (cK true)/\∃x ih,dx x t c ih (j+1)/\bt (λi=>i≠0) d L x t):
 Calls prog 20 #[k,O Q D] L λo t=>o=.returned (cK true)/\Below L.heap.size L t:=by
 obtain⟨⟨mn,mO,rfl,E⟩,F⟩:=hZ;have gg:=RJ L;have gj:bt (λi=>i≠0) (aO (λ_=>0) L.heap.size 1) L (aO (λ_=>0) L.heap.size 1) (ar L (.cells #[U none 0 0,O Q 0,U none 0 0,U none 0 0,U none 0 0,U none 0 0] 86)):=bt.bI ((ca _ L).alloc (aN _) _);go_enter func20,ntmps20;go_upto_region 2 with fail;generalize(ar L (.cells #[U none 0 0,O Q 0,U none 0 0,U none 0 0,U none 0 0,U none 0 0] 86))=mR at*;have gC:∀u,u<L.heap.size->aO (λ_=>0) L.heap.size 1 u=0:=λu G=>cR _ _ _ _ T
 generalize mY:aO (λ_=>0) L.heap.size 1=z at*;generalize iR:L.heap.size=H at*;have gE:=Ps gg;go_upto_region 3 with(go_at_call 44;refine gE.mono ?_;rintro o m5 ⟨rfl,iU,iZ,gF,gL⟩);have hF:=gj.trans gL;clear gE gg gj gL;go_wp2
 go_loopw [6,7] (λI p wr=>∃(e:Nat) (l:Nat->Nat) (b:List kB),e<=M a/\I=cK true/\p=O Q (e:Nat)/\dx l wr H b (5+e)/\bt (λi=>i≠0) z L l wr) (λ_ p _=>M a-(intOf p).toNat)
 case atStart=>exact⟨0,iU,iZ,T,rfl,rfl,gF,hF⟩
 case round=>
  obtain⟨e,l,b,ne,rfl,rfl,q,r⟩:=hrel;clear gF hF;by_cases A:e<M a
  ·obtain⟨N,m,rfl,nB,g1⟩:=E T;have hu:=g1 e A;obtain⟨i0,i1⟩:=F _ (b4 A);obtain⟨i2,hE⟩:=r.ci N T (by rw[gC N T];simp);have nG:N<wr.heap.size:=by have:=r.b5;omega
   have ba:∀f,f<8->aK wr ⟨N,m+e*8+f,none⟩=(fK a[e])[f]?:=λf hS=>by rw[<-hu f hS];unfold aK;simp only[hE]
   have oa:aK wr ⟨N,m+e*8,none⟩=some (O Q a[e].ao):=ba 0 ak;have ob:aK wr ⟨N,m+e*8+1,none⟩=some (O Q a[e].ef):=ba 1 ak;have oH:aK wr ⟨N,m+e*8+2,none⟩=some (.string a[e].a8):=ba 2 ak;have oS:aK wr ⟨N,m+e*8+3,none⟩=some (O Q a[e].a6.aS):=ba 3 ak;have o6:aK wr ⟨N,m+e*8+4,none⟩=some (O Q a[e].a6.ao):=ba 4 ak;have pa:aK wr ⟨N,m+e*8+5,none⟩=some (O Q a[e].a6.bj):=ba 5 ak;have py:aK wr ⟨N,m+e*8+6,none⟩=some (O Q a[e].a6.X):=ba 6 ak;have pF:aK wr ⟨N,m+e*8+7,none⟩=some (O Q a[e].a6.aE):=ba 7 ak;have pR:(e:Int)<(M a:Int):=T;have pU:(0:Int)<=(e:Int):=T;clear g1 hu ba hE i2 F E;generalize a[e]=s at*;by_cases jt:s.ao<=D
   ·have v:=y q T s jt i0 i1;unfold hH fK at v;clear y;have B:Hid (∀{x:Nat->Nat} {t:aq},bt (λi=>i≠0) l wr x t->∀g,bt (λi=>i≠0) z L x (bY t g)):=λjW g=>(r.trans jW).trans (bt.bI ⟨rfl,rfl,rfl,aN _,λ_ _=>rfl⟩)
    clear q r;go_wp2_with(first|(go_at_call 45;refine v.mono ?_;rintro o j4 ⟨rfl,j9,kp,C,J⟩;have K:=Ge C)|(go_at_call 46;refine K.mono ?_;rintro o kr ⟨rfl,g,rfl⟩))
    go_roundw
    case rel=>exact⟨e+1,j9,kp,A,rfl,bE,C.E g,B.out J g⟩
    case measure=>simp[intOf];omega
   ·have K:=Ge q;have B:Hid (∀g,dx l (bY wr g) H b (5+(e+1))/\bt (λi=>i≠0) z L l (bY wr g)):=λg=>⟨q.bI (AH wr g) T T,r.trans (bt.bI (AH wr g))⟩
    clear q r y;go_wp2_with(first|(go_at_call 46;refine K.mono ?_;rintro o kr ⟨rfl,g,rfl⟩))
    go_roundw
    case rel=>exact⟨e+1,l,b,A,rfl,bE,(B.out g).1,(B.out g).2⟩
    case measure=>simp[intOf];omega
  ·have kx:e=M a:=by omega
   subst kx;have pX:M b<=5+M a:=by obtain⟨_,_,_,_,_,_,_,_,_,_,h⟩:=q;exact h.mC
   clear E F y;go_wp2
   go_loopw [6,8] (λI p hV=>∃(f:Nat),f<=M b/\I=cK true/\p=O Q (f:Nat)/\dx l hV H b (5+M a+f)/\bt (λi=>i≠0) z L l hV) (λ_ p _=>M b-(intOf p).toNat)
   case atStart=>exact⟨0,bL _,rfl,rfl,q,r⟩
   case round=>
    obtain⟨f,hS,rfl,rfl,P,w⟩:=hrel;clear q r;have k1:=P;obtain⟨pZ,qp,p,qt,qP,qW,ra,rA,rR,sY,h⟩:=k1;have gf:=h.eC.bg;rw[c_]at gf;obtain⟨tB,ac,rfl⟩:=eK gf;have tI:=h.aQ.ax.am;have k7:=h.aQ.ax.aa 0;simp at k7;clear h gf;by_cases lo:f<M b
    ·have v:=BI P T ⟨4,(f:Nat),⟨#[]⟩,⟨0,0,0,0,0⟩⟩ rfl (by show c1 (f:Int);unfold c1;omega) (Y:=on (f:Nat) (M b)) (Cn _ T) rfl;unfold hH fK at v;simp only at v;have t8:(f:Int)<(M b:Int):=T;have ub:(0:Int)<=(f:Int):=T;clear P;go_wp2_with(go_at_call 45;refine v.mono ?_;rintro o j4 ⟨rfl,C,J⟩);go_roundw
     case rel=>exact⟨f+1,lo,rfl,bE,C,w.trans J⟩
     case measure=>simp[intOf];omega
    ·have l8:f=M b:=by omega
     subst l8;go_wp2;go_ret;refine⟨rfl,w.dR,w.hq,w.ho,w.b5,λu G=>(w.ci u G (by rw[gC u (by rw[<-iR];exact G)];simp)).2⟩
theorem SL(c:x_ L k a)(d:M a<=900000):Calls prog 5 #[k] L λb e=>b=.returned (cK true)/\Below L.heap.size L e:=by have h:=FO c d 4 (λh f g j=>Ew h f g T);go_enter func5,ntmps5;go_wp2_with(go_at_call 20;refine h.mono ?_;rintro b l ⟨rfl,i⟩);go_ret;exact⟨rfl,i⟩
