import Derived.Test.YtddbjcfdmdbmkaaGreatDoorB33
import Derived.Test.YtddbjcfdmdbmkaaGreatDoorB25
set_option linter.all false
set_option maxRecDepth 100000
set_option maxHeartbeats 3200000
namespace Go.Proofs.YtddbjcfdmdbmkaaGreatDoor
open Go.RowKit Go.Proofs.Tryz
open Go renaming Calls->aR,Value->an,World->aq
open Go.Ending renaming returned->aM
open Go.IntKind renaming i64->Q
open Go.Obj renaming cells->aw
open Go.Proofs renaming intOf->eg
open Go.RowKit renaming Below->aF,Hid->ag
open Go.Value renaming int->O,pointer->aD,slice->U,ownBlock->ap
open _root_.Array renaming size->S
open Go.World renaming alloc->ar,cell?->aK,drewN->bY,grownBy->b_,heap->R,ownsRow->aY,setCell->ay
open List renaming length->M
variable{L w gF D:aq}{I:List (List gI)}{mR mY bH ct m5:List an}{d:List be}{K:List Nat}{k:bO}{dH o b al A gj me X z u hu N lo:Nat}{gE gf ih iR iU hZ iZ B gL i1 i0 gg k1 j4 kr jW:an}{bR J F:List es}{bb:es}{G r kx:List bO}{mO:bO->Int}{ai:bO->Bool}{hE:Obj}{x:Option Addr}{hV H:Int}{i2 mn:List (Nat×List Nat)}{ab l8:Nat->Nat}{hS k7 ne:List Int}
theorem Tryz.wB:(prog.info? 48).map (λal=>(al.zero,al.size,al.bytes))=some (some (U none 0 0),1,24):=by kernel_rfl
theorem fT.kh {c:Nat->Prop}(h:fT c L I mR d K k)(g:jb c L d K)(j:k.bw.2≠[]):BZ c L (λk=>eq d k.bw.2) k:=by
 obtain⟨al,u,e⟩:=uJ j;have l:=h.bX;have a:0<M k.bP:=by rw[l,e];simp
 rcases h.ck with⟨b,_⟩|⟨_,N,b,m,o⟩
 ·rw[b]at a;simp at a
 ·have p:al<M d:=h.am al (by rw[e];simp);obtain⟨q,r,s⟩:=y3 g p;have t:k.bP[0]=K.getD al 0:=by simp[h.bP,e]
  have f:=o 0 a;rw[t]at f;refine⟨N,K.getD al 0,b,a,f,?_,m,s,?_,r⟩
  ·rw[q.aa 0];show some _=some (O Q (eq d k.bw.2));unfold eq;rw[e];rfl
  ·exact h.ud _ b
def hs(a:List (List gI))(e:bO):Bool:=ou (cS a) e.bw
theorem fT.SV{a:Nat->Prop}(h:fT a L I mR d K k):∃x c,k.dJ=U x (M (I.getD k.bw.1 [])) c/\decide (M k.bP=M (I.getD k.bw.1 []))=hs I k:=by obtain⟨x,c,e,_⟩:=h.cz.o;refine⟨x,c,e,?_⟩;unfold hs ou;rw[uP,h.bX,c_];rw[nM];simp
theorem et.kp(h:et dH L gE bR)(d:aY w dH 48 1 gf (M bR+1) (bR.map (·.1)++[bb.1]))(e:aY w dH 3 1 bb.1 (M bb.2) (bb.2.map λu=>O Q (u:Nat)))(f:∀b∈bR,∀X,ap b.1=some X->(R w)[X]?=(R L)[X]?)(g:∀X,ap bb.1=some X->S (R L)<=X):et dH w gf (bR++[bb]):=by
 refine⟨by rw[bV,dv];exact d,λb a=>?_,?_⟩
 ·rcases dm.1 a with a|a
  ·exact cw (h.fP b a) (λX j=>f b a X j)
  ·rw[dB.1 a];exact e
 ·rw[ut];refine⟨h.oO,A3 _ _,λb a m k N l c=>?_⟩;rw[dB.1 k]at c;have:=((h.fP b a).lt N l).2;have:=g N c;omega
structure kU (d_:Nat->Prop) (L:aq) (b3:Nat) (uH vA uj uV uD jQ:an) (bc:List bO) (qD:bO->Int) (cm:List (List gI)) (lK:List bO) (Y:Nat) (wr:aq) (he:an) (bR:List es) (CB:an) (GB:List bO):Prop where
 dQ:et L.heap.size wr he bR
 mb:bR.map (·.2)=((lK.take Y).filter (hs cm)).map (·.bw.2)
 cq:hK d_ wr b3 uH vA uj uV uD CB GB qD
 p4:GB.Perm (bc++(lK.take Y).filter λaQ=>!hs cm aQ)
 gY:bv (λX=>X=b3\/jQ.ownBlock=some X) L wr
 nN:∀X,CB.ownBlock=some X->jQ.ownBlock=some X\/L.heap.size<=X
theorem kU.bI{d:Nat->Prop}{wr:aq}(h:kU d L o ih iR iU hZ iZ B G mO I r b wr gL bR i1 kx)(a:aF (S (R wr)) wr w):kU d L o ih iR iU hZ iZ B G mO I r b w gL bR i1 kx:=by
 refine⟨h.dQ.i (λX c=>a.block X ?_),h.mb,⟨h.cq.togd.i8 (bh:=λ_=>False) (h.cq.ee.d (a.block _ h.cq.ee.am)) (bv.bI _ a) (λX a=>a.elim) (λN _ a=>a),h.cq.cq⟩,h.p4,h.gY.trans (bv.bI (λX=>X=o\/ap B=some X) a) (λX _ e=>e),h.nN⟩;rcases c with c|⟨bb,f,c⟩
 ·exact(h.dQ.bg.lt X c).2
 ·exact((h.dQ.fP bb f).lt X c).2
theorem kU.j9{c:Nat->Prop}{wr:aq}(h:kU c L o ih iR iU hZ iZ B G mO I r b wr gL bR i1 kx)(hF:∀X,c X->X<S (R L))(d:bv (λX=>ap gL=some X) wr w):hK c w o ih iR iU hZ iZ i1 kx mO/\bv (λX=>X=o\/ap B=some X) L w:=by
 have f:∀X,ap gL=some X->S (R L)<=X:=λX a=>(h.dQ.bg.lt X a).1
 have g:¬(ap gL)=some o:=ed h.cq.ee h.dQ.bg ak;exact⟨⟨h.cq.togd.i8 (h.cq.ee.d (d.o o h.cq.ee.am g)) d (λX a i=>absurd (hF X i) (by have:=f X a;omega)) (λN j a=>i4 h.dQ.bg h.cq.bg ak N a j),h.cq.cq⟩,h.gY.trans d (λX a e=>absurd (f X e) T)⟩
theorem Fr(a:b<M r)(h:ai r[b]=true):(r.take (b+1)).filter ai=(r.take b).filter ai++[r[b]]:=by rw[ev a,lE];simp[h]
theorem Dj(a:b<M r)(h:ai r[b]=false):(r.take (b+1)).filter ai=(r.take b).filter ai:=by rw[ev a,lE];simp[h]
theorem kU.Rp{d:Nat->Prop}{wr:aq}(h:kU d L o ih iR iU hZ iZ B G mO I r b wr gL bR i1 kx)(hF:∀X,d X->X<S (R L))(f:b<M r)(g:hs I r[b]=true)(m:aF (S (R wr)) wr gF)(c:aY gF (S (R wr)) 3 1 bb.1 (M bb.2) (bb.2.map λu=>O Q (u:Nat)))(p:bb.2=r[b].bw.2)(i:b_ (ar gF hE) D (ap gL))(q:aY D (S (R L)) 48 1 gf (M bR+1) (bR.map (·.1)++[bb.1])):kU d L o ih iR iU hZ iZ B G mO I r (b+1) D gf (bR++[bb]) i1 kx:=by
 have s:=h.gY.b5;have j:bv (λX=>ap gL=some X) wr D:=((bv.bI (λX=>ap gL=some X) m).a hE).trans (bv.dj i) (λX _ e=>e);obtain⟨t,v⟩:=h.j9 hF j;refine⟨?_,?_,t,by rw[Dj f (by simp[g])];exact h.p4,v,h.nN⟩
 ·refine h.dQ.kp q ?_ (λk l X a=>j.o X ((h.dQ.fP k l).lt X a).2 (λe=>h.dQ.gV k l X e a)) (λX a=>(c.lt X a).1);refine qe (cw c (λX a=>?_)) s;rw[i.block X (by have:=(c.lt X a).2;simp;omega) (λe=>?_),fY _ _ _ (c.lt X a).2];have:=(h.dQ.bg.lt X e.symm).2;have:=(c.lt X a).1;omega
 ·rw[dv,h.mb,Fr f g,dv];simp[p]
theorem kU.gC{d:Nat->Prop}{wr:aq}(h:kU d L o ih iR iU hZ iZ B G mO I r b wr gL bR i1 kx)(l:b<M r)(m:hs I r[b]=false){f:an}{g:List bO}(q:hK d w o ih iR iU hZ iZ f g mO)(s:g.Perm (kx++[r[b]]))(i:bv (λX=>X=o\/ap i1=some X) wr w)(t:∀X,ap f=some X->ap i1=some X\/S (R wr)<=X):kU d L o ih iR iU hZ iZ B G mO I r (b+1) w gL bR f g:=by
 have u:=h.gY.b5;refine⟨h.dQ.i (λX a=>?_),by rw[Dj l m];exact h.mb,q,?_,h.gY.trans i (λX a e=>?_),λX a=>?_⟩
 ·rcases a with a|⟨bb,j,a⟩
  ·refine i.o X (h.dQ.bg.lt X a).2 (λc=>?_);rcases c with rfl|c
   ·exact ed h.cq.ee h.dQ.bg ak a
   ·exact i4 h.dQ.bg h.cq.bg ak X a c
  ·refine i.o X ((h.dQ.fP bb j).lt X a).2 (λc=>?_);rcases c with rfl|c
   ·exact ed h.cq.ee (h.dQ.fP bb j) ak a
   ·exact i4 (h.dQ.fP bb j) h.cq.bg ak X a c
 ·rw[Fr (ai:=λk=>!hs I k) l (by simp[m]),<-ke];exact s.trans (h.p4.append_right _)
 ·rcases e with e|e
  ·exact .inl e
  ·rcases h.nN X e with p|p
   ·exact .inr p
   ·omega
 ·rcases t X a with e|e
  ·exact h.nN X e
  ·exact .inr T
theorem P2{a:Nat->Prop}(i2:hK a L o ih iR iU hZ iZ B G (λk=>eq d k.bw.2))(sY:jb a L d K)(tB:∀k∈r,fT a L I mR d K k/\k.bw.2≠[])(tI:∀ai∈I,M ai<=10000)(t8:∀k∈r,M k.bw.2<=10000)(hu:aY L 0 163 2 i0 (M r) (bC bO.h r))(ub:∀N,ap i0=some N->ap B≠some N)(NF:M r<=400000)(NR:M G<=400000):
 aR prog 78 #[aD (some ⟨o,0,none⟩),i0] L λe w=>∃x u c J i j,e=aM (U x u c)/\et (S (R L)) w (U x u c) J/\h8 (J.map (·.2))/\(∀jt,jt∈J.map (·.2)↔jt∈(r.filter (hs I)).map (·.bw.2))/\hK a w o ih iR iU hZ iZ i j (λk=>eq d k.bw.2)/\j.Perm (G++r.filter λk=>!hs I k)/\bv (λX=>X=o\/ap B=some X) L w/\∀X,ap i=some X->ap B=some X\/S (R L)<=X:=by
 obtain⟨BV,Cs,Cz,CS,DM⟩:=dY Tryz.wB;obtain⟨ug,D7,ac,kp⟩:=dr hu;have D9:D7=M r:=by
  rcases hu.2 with⟨e,uY⟩|⟨N,lo,El,e,_⟩
  ·rw[e]at kp;cases kp;exact uY.symm
  ·rw[e]at kp;cases kp;rfl
 have vE:kU a L o ih iR iU hZ iZ B G (λk=>eq d k.bw.2) I r 0 L (U none 0 0) [] B G:=⟨et.cL _ _,rfl,i2,av,bv.l _ _,λX y=>.inl y⟩;have ET:∀N,ap i0=some N->N≠o:=λN kr e=>ed i2.ee hu ak (e▸kr)
 have wz:∀wr,bv (λX=>X=o\/ap B=some X) L wr->fL a L a wr:=λwr oS X y k1=>⟨y,oS.o X k1 (λA=>by rcases A with rfl|A;exact i2.mJ y;exact i2.jJ X A y)⟩
 have wB:ag (∀X,a X->X<S (R L)):=i2.m_;have xf:ag _:=wz;have xk:ag _:=vE;have xr:ag (jb a L d K):=sY;have ys:ag (∀k∈r,fT a L I mR d K k/\k.bw.2≠[]):=tB;have o6:ag (∀k∈r,M k.bw.2<=10000):=t8;have Fi:ag (∀ai∈I,M ai<=10000):=tI;have FM:ag (aY L 0 163 2 i0 (M r) (bC bO.h r)):=hu;have yC:ag (∀wr,bv (λX=>X=o\/ap B=some X) L wr->aY wr 0 163 2 i0 (M r) (bC bO.h r)):=λwr oS=>cw hu (λN kr=>oS.o N (hu.lt N kr).2 (λA=>by rcases A with A|A;exact ET N kr A;exact ub N kr A))
 subst kp;subst D9;clear i2 sY tB hu ub wz vE t8 tI;go_enter func78,ntmps78;go_wp2
 go_loopw [5,10] (λgL al wr=>∃(b:Nat) (x:Option Addr) (u c:Nat) (bR:List es) (i1:an) (kx:List bO),b<=M r/\al=O Q b/\gL=U x u c/\kU a L o ih iR iU hZ iZ B G (λk=>eq d k.bw.2) I r b wr (U x u c) bR i1 kx) (λ_ al _=>M r-(eg al).toNat)
 case atStart=>exact⟨0,none,0,0,[],B,G,bL _,rfl,rfl,xk.out⟩
 case round=>
  obtain⟨b,m,p,q,bR,i1,kx,OD,rfl,rfl,l⟩:=hrel;clear xk;have OF:M bR<=b:=by have:=congrArg M l.mb;rw[c_,c_]at this;rw[this];exact bS (vf _ _) (by rw[hT];omega)
  have OG:M kx<=800000:=by have:=l.p4.length_eq;rw[bV]at this;have:=vf (λk=>!hs I k) (r.take b);rw[hT]at this;omega
  by_cases hS:b<M r
  ·obtain⟨k7,y2⟩:=ys.out r[b] (b4 hS)
   have m5:=yC.out wr l.gY;obtain⟨N,lo,y5⟩:∃N lo,(U ug (M r) ac)=U (some ⟨N,0,none⟩) (M r) lo:=by
    rcases m5.2 with⟨_,uY⟩|⟨N,lo,El,e,_⟩
    ·omega
    ·exact⟨N,lo,e⟩
   obtain⟨rfl,_,rfl⟩:ug=some ⟨N,0,none⟩/\M r=M r/\ac=lo:=by simpa using y5
   obtain⟨F2,OW⟩:=pg m5 b hS;have Pn:=(m5.lt N rfl).2;obtain⟨l8,me,pa,py⟩:=k7.SV;have zc:aF (S (R wr)) wr (ar wr (aw #[r[b].dJ,U r[b].cd (M r[b].bP) r[b].cg] 163)):=(ca _ wr).alloc (aN _) _;have E:=l.bI zc;have P1:(b:Int)<(M r:Int):=T;have Rp:(0:Int)<=(b:Int):=T;have ne:=xf.out _ E.gY;have nB:=k7.i ne E.gY.b5;have nG:=xr.out.i ne E.gY.b5;rw[pa]at F2 zc E nB nG ne;have F4:hs I r[b]=hs I r[b]:=rfl;generalize pF:ar wr (aw #[U l8 (M (I.getD r[b].bw.1 [])) me,U r[b].cd (M r[b].bP) r[b].cg] 163)=f at*;have s:=aL.bT wr #[U l8 (M (I.getD r[b].bw.1 [])) me,U r[b].cd (M r[b].bP) r[b].cg] 163;rw[pF]at s;have zS:=k7.bX;have Ga:=o6.out r[b] (b4 hS);have oa:∀z,aR prog 117 #[.agg #[U l8 (M (I.getD r[b].bw.1 [])) me,U r[b].cd (M r[b].bP) r[b].cg]] z λe w=>e=aM (.bool (hs I r[b]))/\aF (S (R z)) z w:=λz=>by rw[<-py];exact Tb
   have z_:∀z,aF (S (R f)) f z->aR prog 118 #[.agg #[U l8 (M (I.getD r[b].bw.1 [])) me,U r[b].cd (M r[b].bP) r[b].cg]] z λe w=>∃x X c,e=aM (U x X c)/\aY w (S (R z)) 3 1 (U x X c) (M r[b].bw.2) (r[b].bw.2.map λbb=>O Q (bb:Nat))/\aF (S (R z)) z w:=λz h=>by
    have mn:fL a f a z:=λX y k1=>⟨y,h.block X k1⟩
    have ob:=nB.i mn h.size;have pR:=nG.i mn h.size;refine(Sd (kO:=r[b].bw.2) ob.ck T zS.symm (λal pU Gl=>?_)).mono ?_
    ·obtain⟨F,jW,mO⟩:=y3 pR (ob.am r[b].bw.2[al] (b4 Gl));have Gx:r[b].bP[al]=K.getD r[b].bw.2[al] 0:=by simp[k7.bP]
     rw[Gx];exact⟨mO,_,F⟩
    ·rintro e w ⟨gE,rfl,F,jW⟩;obtain⟨x,X,c,rfl⟩:=dr F;exact⟨x,X,c,rfl,F,jW⟩
   have Ai:∀z,aF (S (R f)) f z->aR prog 119 #[.iface 167 (aD (some ⟨o,5,none⟩)),.iface 163 (.agg #[U l8 (M (I.getD r[b].bw.1 [])) me,U r[b].cd (M r[b].bP) r[b].cg])] z λe w=>e=aM (.tuple #[])/\∃i j,hK a w o ih iR iU hZ iZ i j (λk=>eq d k.bw.2)/\j.Perm (kx++[r[b]])/\bv (λX=>X=o\/ap i1=some X) z w/\∀X,ap i=some X->ap i1=some X\/S (R z)<=X:=λz h=>by
    have mn:fL a f a z:=λX y k1=>⟨y,h.block X k1⟩
    have ob:=nB.i mn h.size;have pR:=nG.i mn h.size;have:=R4 (E.bI h).cq T r[b] (ob.kh pR y2) ⟨_,_,_,pa⟩;unfold bO.gX at this;rw[pa]at this;exact this
   have Ak:∀z,aF (S (R f)) f z->o<S (R z):=λz h=>(E.bI h).cq.ee.am
   have Aq:∀z,aF (S (R f)) f z->kU a L o ih iR iU hZ iZ B G (λk=>eq d k.bw.2) I r b z (U m p q) bR i1 kx:=λz h=>E.bI h
   have oH:ag _:=Aq;have RR:aF (S (R f)) f f:=ca _ _;clear l E nB nG ne m5 y5 k7 Aq F4 zS Ga y2;cases j4:hs I r[b]with
   |true=>
    rw[j4]at oa;have mY:∀(z gF D:aq) (hE:Obj) (H:Option Addr) (P gg:Nat) (gf:an),aF (S (R f)) f z->aF (S (R z)) z gF->aY gF (S (R z)) 3 1 (U H P gg) (M r[b].bw.2) (r[b].bw.2.map λbb=>O Q (bb:Nat))->b_ (ar gF hE) D (ap (U m p q))->aY D (S (R L)) 48 1 gf (M bR+1) (bR.map (·.1)++[U H P gg])->kU a L o ih iR iU hZ iZ B G (λk=>eq d k.bw.2) I r (b+1) D gf (bR++[(U H P gg,r[b].bw.2)]) i1 kx:=λz gF D hE H P gg gf gj gC t j9 pX=>(oH.out z gj).Rp wB.out hS j4 (bb:=(U H P gg,r[b].bw.2)) gC t rfl j9 pX
    have pZ:ag _:=mY;have Hp:∀z,aF (S (R f)) f z->aY z (S (R L)) 48 1 (U m p q) (M bR) (bR.map (·.1))/\S (R L)<=S (R z):=λz h=>⟨(oH.out z h).dQ.bg,(oH.out z h).gY.b5⟩
    clear mY j4 py Ai Ak;generalize I.getD r[b].bw.1 []=HY at*;generalize r[b].bw.2=RU at*;generalize r[b].cd=H_ at*;generalize(M r[b].bP)=J3 at*;generalize r[b].cg=Ko at*;have qp:=s.aa 0;have qt:=s.aa 1;have Kp:=s.am;simp at qp qt;go_wp2_with(first|(at_builtin;refine dq _ rfl _ _ 40 rfl (S (R L)) 48 BV _ 1 24 underlying40 Cs Cz CS DM rfl ak _ (M bR) (bR.map (·.1)) bf (Kz.alloc _) ⟨S (R gF),0,none⟩ 1 1 [U H P gg] bf rfl (c4 (cB _ _ _ av)) ey ak cN T b7 (S (R gF)+1) av ?_;intro Sc Sn D KJ K4 Sy SV)|(go_at_call 118;refine(z_ _ g).mono ?_;rintro e gF ⟨H,P,gg,rfl,K8,Az⟩;obtain⟨Kz,SY⟩:=Hp gF (g.trans (Az.mono g.size)))|(go_at_call 117;refine(oa _).mono ?_;rintro e v ⟨rfl,g⟩;(try rw[pF]at g);have hV:=s.d (g.block _ s.am);have qP:=hV.aa 0;have qW:=hV.aa 1;have Lp:=hV.am;simp at qP qW))
    go_roundw
    case rel=>exact⟨b+1,_,_,_,_,i1,kx,hS,bE,rfl,pZ.out v gF D _ H P gg _ g Az K8 K4 KJ⟩
    case measure=>simp[eg];omega
   |false=>
    rw[j4]at oa;have mY:∀(z w:aq) (i:an) (j:List bO),aF (S (R f)) f z->hK a w o ih iR iU hZ iZ i j (λk=>eq d k.bw.2)->j.Perm (kx++[r[b]])->bv (λX=>X=o\/ap i1=some X) z w->(∀X,ap i=some X->ap i1=some X\/S (R z)<=X)->kU a L o ih iR iU hZ iZ B G (λk=>eq d k.bw.2) I r (b+1) w (U m p q) bR i j:=λz w i j gj gC t j9 pX=>(oH.out z gj).gC hS j4 gC t j9 pX
    have pZ:ag _:=mY;clear mY j4 py z_;generalize I.getD r[b].bw.1 []=HY at*;generalize r[b].cd=H_ at*;generalize(M r[b].bP)=J3 at*;generalize r[b].cg=Ko at*;have qp:=s.aa 0;have qt:=s.aa 1;have Kp:=s.am;simp at qp qt;go_upto_region 7 with(go_at_call 117;refine(oa _).mono ?_;rintro e v ⟨rfl,g⟩;(try rw[pF]at g);have hV:=s.d (g.block _ s.am);have qP:=hV.aa 0;have qW:=hV.aa 1;have Lp:=hV.am;simp at qP qW);have S1:=Ak v g;go_region_law (first|(go_simp;refine(Ai _ (by first|exact g|exact⟨g.os,g.tape,g.output,g.size,g.block⟩)).mono ?_;rintro e Ls ⟨rfl,AE,AV,gj,gC,t,j9⟩;show _;dsimp only))
    all_goals
     have LB:=pZ.out v Ls AE AV g gj gC (by first|exact t|exact⟨t.dR,t.hq,t.ho,t.b5,t.iA⟩) j9;clear gj gC t j9;go_wp2;go_roundw
     case rel=>exact⟨b+1,m,p,q,bR,AE,AV,hS,bE,rfl,LB⟩
     case measure=>simp[eg];omega
  ·have LI:b=M r:=by omega
   subst LI;have ra:∀bb∈bR,M bb.2<=1000000:=λbb rA=>by have pU:bb.2∈bR.map (·.2):=eG.2 ⟨bb,rA,rfl⟩;rw[l.mb]at pU;obtain⟨k,LL,e⟩:=eG.1 pU;have:=o6.out k (pp (kG.1 LL).1);rw[<-e];omega
   have LQ:=NO l.dQ T ra;have LU:∀z J,J.Perm bR->et (S (R L)) z (U m p q) J->aR prog 122 #[U m p q,.func (.func 123) #[] #[]] z λe w=>∃x u c C,e=aM (U x u c)/\C.map (·.2)=kw (J.map (·.2))/\et (S (R L)) w (U x u c) C/\bv (λX=>ap (U m p q)=some X) z w/\ap (U x u c)=ap (U m p q):=λz J AW Mc=>M2 Mc (by rw[AW.length_eq];omega) (λbb rA=>ra bb (AW.mem_iff.1 rA))
   have Bg:∀(v g1:aq) (J C:List es) (x:Option Addr) (u c:Nat),J.Perm bR->J.Pairwise (λx X=>¬gm X.2 x.2)->bv (λX=>ap (U m p q)=some X) wr v->C.map (·.2)=kw (J.map (·.2))->et (S (R L)) g1 (U x u c) C->bv (λX=>ap (U m p q)=some X) v g1->∃Bo Bt BE J i j,aM (U x u c)=aM (U Bo Bt BE)/\et (S (R L)) g1 (U Bo Bt BE) J/\h8 (J.map (·.2))/\(∀jt,jt∈J.map (·.2)↔jt∈(r.filter (hs I)).map (·.bw.2))/\hK a g1 o ih iR iU hZ iZ i j (λk=>eq d k.bw.2)/\j.Perm (G++r.filter λk=>!hs I k)/\bv (λX=>X=o\/ap B=some X) L g1/\∀X,ap i=some X->ap B=some X\/S (R L)<=X:=by
    intro v g1 J C x u c F jW mO rR Mj Mk;obtain⟨gj,gC⟩:=l.j9 wB.out (mO.trans Mk (λX _ e=>e));have BH:=l.mb;have BN:=l.p4;rw[eQ]at BH BN;refine⟨x,u,c,C,i1,kx,rfl,Mj,?_,λjt=>?_,gj,BN,gC,l.nN⟩
    ·rw[rR];refine M7 _ ?_;rw[List.pairwise_map];exact jW
    ·rw[rR,Iy,<-BH];exact(F.map (·.2)).mem_iff
   have My:ag _:=Bg;clear Bg l ra xf xr ys o6 Fi FM yC;go_wp2_with(first|(go_at_call 122;refine(LU _ _ BP MA).mono ?_;rintro e g1 ⟨MC,MD,MT,C,rfl,F,jW,mO,rR⟩)|(go_at_call 120;refine LQ.mono ?_;rintro e v ⟨rfl,M1,BP,M9,MA,Nt⟩))
   go_ret;exact My.out v g1 M1 C MC MD MT BP M9 Nt F jW mO
structure kF where
 bF:Nat
 aZ:Nat
 e3:an
 cm:List (List gI)
 iS:List an
variable{c:kF}
structure pk (aE:kF):Prop where
 xo:1<=aE.bF
 DL:aE.bF<=1000000
 aZ:aE.aZ<=1000
 nZ:s1 aE.cm
 bX:∀ai∈aE.cm,0<ai.length/\ai.length<=1000
 fV:aE.cm.length<=1000
structure iD (d_:Nat->Prop) (L:aq) (b3:Nat) (aE:kF) (ad:List be) (b6:Nat) (jx:List Nat) (jV jQ:an) (bc:List bO):Prop where
 cq:hK d_ L b3 (O Q aE.bF) (O Q aE.aZ) aE.e3 (O Q ad.length) jV jQ bc (λaQ=>eq ad aQ.bw.2)
 bG:L.ownsRow 0 3 1 jV (de ad b6).length ((de ad b6).map (O Q))
 nC:∀N,jV.ownBlock=some N->¬d_ N
 cm:o8 d_ L aE.e3 aE.cm aE.iS
 mE:jb d_ L ad jx
 f0:∀aQ∈bc,fT d_ L aE.cm aE.iS ad jx aQ/\aQ.bw.2≠[]/\aQ.bw.2.length<(aE.cm.getD aQ.bw.1 []).length
structure g9 (aE:kF) (ad:List be) (b6:Nat) (rz:List (Nat×List Nat)):Prop where
 db:g5 (cS aE.cm) aE.bF ad (d8 ad) rz
 bF:kV aE.bF ad (d8 ad) b6
 cE:kb ad
 h2:∀e∈ad,c1 e.aS
 aZ:ad.length-b6<=aE.aZ
theorem gd.g1{b a:Nat->Prop}(h:gd b L o ih iR iU hZ iZ B G mO)(c:∀X,b X->a X)(e:∀X,a X->X<S (R L))(f:¬a o)(g:∀N,ap B=some N->¬a N):gd a L o ih iR iU hZ iZ B G mO:=
 ⟨h.ee,h.bg,e,f,g,λk i=>by obtain⟨d,ai,j,l,m,p,q,r,s,t⟩:=h.kh k i;exact⟨d,ai,j,l,m,p,q,r,c d s,c ai t⟩,h.dJ⟩
theorem fT.AW{a:Nat->Prop}(h:fT a L I mR d K k):∃x X c,k.dJ=U x X c:=h.cz.cV
theorem Ey(b:pk c)(a:al<M c.cm):0<M (c.cm.getD al [])/\M (c.cm.getD al [])<=1000:=by
 have e:c.cm.getD al []=c.cm[al]:=by simp[List.getD,a]
 rw[e];exact b.bX _ (b4 a)
structure sw (d_:Nat->Prop) (L:aq) (b3:Nat) (aE:kF) (ad:List be) (e:be) (b6:Nat) (jx:List Nat) (kz bi:Nat) (jV jQ:an) (bc:List bO):Prop where
 cq:gd d_ L b3 (O Q aE.bF) (O Q aE.aZ) aE.e3 (O Q (ad.length+1)) jV jQ bc (λaQ=>eq ad aQ.bw.2)
 bG:L.ownsRow 0 3 1 jV (de (ad++[e]) b6).length ((de (ad++[e]) b6).map (O Q))
 nC:∀N,jV.ownBlock=some N->¬d_ N
 cm:o8 d_ L aE.e3 aE.cm aE.iS
 mE:jb d_ L ad jx
 f0:∀aQ∈bc,fT d_ L aE.cm aE.iS ad jx aQ/\aQ.bw.2≠[]/\aQ.bw.2.length<(aE.cm.getD aQ.bw.1 []).length
 iX:j8 L kz e ad.length
 B3:d_ kz
 af:aL L bi #[aD (some ⟨kz,0,none⟩)] 156
structure qm (d_:Nat->Prop) (L:aq) (b3:Nat) (aE:kF) (ad:List be) (e:be) (b6:Nat) (jx:List Nat) (kz:Nat) (jV jQ:an) (bc:List bO) (g_:an) (lK:List bO):Prop where
 cq:gd d_ L b3 (O Q aE.bF) (O Q aE.aZ) aE.e3 (O Q (ad.length+1)) jV jQ bc (λaQ=>eq (ad++[e]) aQ.bw.2)
 bG:L.ownsRow 0 3 1 jV (de (ad++[e]) b6).length ((de (ad++[e]) b6).map (O Q))
 nC:∀N,jV.ownBlock=some N->¬d_ N
 cm:o8 d_ L aE.e3 aE.cm aE.iS
 mE:jb d_ L (ad++[e]) (jx++[kz])
 f0:∀aQ∈bc,fT d_ L aE.cm aE.iS (ad++[e]) (jx++[kz]) aQ/\aQ.bw.2≠[]/\aQ.bw.2.length<(aE.cm.getD aQ.bw.1 []).length
 bg:L.ownsRow 0 163 2 g_ lK.length (bC bO.h lK)
 dj:∀aQ∈lK,fT d_ L aE.cm aE.iS (ad++[e]) (jx++[kz]) aQ/\aQ.bw.2≠[]/\aQ.bw.2.length<=(aE.cm.getD aQ.bw.1 []).length
 oO:∀N,g_.ownBlock=some N->jQ.ownBlock≠some N
theorem S4{ah:Nat}{a:Array an}(L:aq):aR prog 74 #[U none 0 0,.func (.func ah) #[] a] L λe w=>e=aM (U none 0 0)/\w=L:=by
 have b:∀z,aR prog 111 #[U none 0 0,.func (.func ah) #[] a] z λe w=>e=aM (O Q (-1))/\w=z:=λz=>by
  go_enter func111,ntmps111;go_wp2
  go_loopw [8] (λal wr=>al=O Q 0/\wr=z) (λ_ _=>0)
  case atStart=>exact⟨rfl,rfl⟩
  case round=>obtain⟨rfl,rfl⟩:=hrel;go_wp2;go_ret;exact⟨rfl,rfl⟩
 go_enter func74,ntmps74;go_wp2_with(go_at_call 111;refine(b _).mono ?_;rintro e d ⟨rfl,c⟩;rw[c]);go_ret;exact⟨rfl,rfl⟩
theorem sw.dj{f:Nat->Prop}{e:be}(h:sw f L o c d e A K gj me gg B G)(a:pk c)(l:M G<=300000):aR prog 73 #[aD (some ⟨o,0,none⟩),aD (some ⟨gj,0,none⟩)] L λbb w=>∃j x X g r,bb=aM (U x X g)/\ht f L c.cm c.iS d K e gj (S (R L)) (S (R L)+1) (gi (cS c.cm)++G.map bO.bw) w j (U x X g) r:=
 Qu h.cq.ee h.cm h.cq.bg (λk b=>⟨(h.f0 k b).1,(h.f0 k b).2.2,(h.f0 k b).1.AW⟩) h.mE a.nZ (λai i=>⟨(a.bX ai i).1,by have:=(a.bX ai i).2;omega⟩) a.fV T h.cq.m_ h.iX
theorem sw.MA{f:Nat->Prop}{e:be}(h:sw f L o c d e A K gj me gg B G)(i:pk c)(v:M G<=300000)(a:aF (S (R L)) L gF):
 aR prog 74 #[B,.func (.func 75) #[] #[aD (some ⟨me,0,none⟩)]] gF λbb w=>∃x X g,bb=aM (U x X g)/\aY w 0 163 2 (U x X g) (M (G.filter λk=>!jr (cS c.cm) d e k.bw)) (bC bO.h (G.filter λk=>!jr (cS c.cm) d e k.bw))/\bv (λX=>ap B=some X) gF w/\ap (U x X g)=ap B:=by
 rcases h.cq.gj with⟨rfl,rfl⟩|⟨N,lo,rfl,_⟩
 ·refine(S4 gF).mono ?_;rintro bb w ⟨rfl,rfl⟩;exact⟨none,0,0,rfl,eE _ _ _ _,bv.l _ _,rfl⟩
 ·have j:fL f L f gF:=λX hF m=>⟨hF,a.block X m⟩
  have p:=cw h.cq.bg (aI:=gF) (λl r=>a.block l (h.cq.bg.lt l r).2);have s:=ON (bh:=λX=>X=N) (bc:=G) (λk b=>⟨((h.f0 k b).1).i j a.size,(h.f0 k b).2.2,by have:=(Ey i (h.f0 k b).1.eJ).2;omega,(h.f0 k b).1.AW⟩) (h.mE.i j a.size) i.nZ (aL.d h.iX (a.block _ h.iX.am)) (h.af.d (a.block _ h.af.am)) (λX e hF=>h.cq.jJ N rfl (e▸hF)) (λe=>h.cq.jJ N rfl (e▸h.B3)) (λe=>ed h.af h.cq.bg ak (by rw[e];rfl));refine(PX p T (λk b=>(h.f0 k b).1.AW) s).mono ?_;rintro bb w ⟨rfl,t,u⟩;exact⟨_,_,_,rfl,t,u.cE (λX _ e=>by rw[e];rfl),rfl⟩
theorem sw.q{y:Nat->Prop}{e:be}(h:sw y L o c d e A K gj me gg B G){l:aq}{m:Nat->Prop}(f:ht y L c.cm c.iS d K e gj (S (R L)) (S (R L)+1) (gi (cS c.cm)++G.map bO.bw) gF m i0 r){i:Nat}(gC:aY l 0 163 2 (U x X i) (M (G.filter λk=>!jr (cS c.cm) d e k.bw)) (bC bO.h (G.filter λk=>!jr (cS c.cm) d e k.bw)))(D:bv (λX=>ap B=some X) gF l)(C:ap (U x X i)=ap B):
 qm m (ay l ⟨o,5,none⟩ (U x X i)) o c d e A K gj gg (U x X i) (G.filter λk=>!jr (cS c.cm) d e k.bw) i0 r/\bv (λX=>X=o\/ap B=some X) L (ay l ⟨o,5,none⟩ (U x X i)):=by
 have E:=h.cq.ee.d (f.g7.block o h.cq.ee.am);have F:¬(ap B)=some o:=ed h.cq.ee h.cq.bg ak;have gE:=E.d (D.o o E.am F);have gL:aL (ay l ⟨o,5,none⟩ (U x X i)) o #[O Q c.bF,O Q c.aZ,c.e3,O Q (M d+1),gg,U x X i] 110:=by simpa using gE.j 5 (U x X i)
 have w:bv (λX=>X=o\/ap B=some X) gF (ay l ⟨o,5,none⟩ (U x X i)):=(D.cE (th:=λX=>X=o\/ap B=some X) (λX _ e=>.inr e)).v (ai:=⟨o,5,none⟩) (.inl (.inl rfl)) _;have t:bv (λX=>X=o\/ap B=some X) L (ay l ⟨o,5,none⟩ (U x X i)):=(bv.bI (λX=>X=o\/ap B=some X) f.g7).trans w (λX _ e=>e);have H:¬m o:=λhF=>by rcases f.bT o hF with b|b;exact h.cq.mJ b;have:=h.cq.ee.am;omega
 have I:∀N,ap B=some N->¬m N:=λN s hF=>by rcases f.bT N hF with b|b;exact h.cq.jJ N s b;have:=(h.cq.bg.lt N s).2;omega
 have g1:∀a,(a=o\/ap B=some a)->¬m a:=λa g=>by rcases g with rfl|g;exact H;exact I a g
 have hu:fL y L m gF:=f.Bt;have J:fL m gF m (ay l ⟨o,5,none⟩ (U x X i)):=λa hF hE=>⟨hF,w.o a hE (λj=>g1 a j hF)⟩
 have u:fL y L m (ay l ⟨o,5,none⟩ (U x X i)):=hu.trans J f.g7.size;have hS:=h.mE.bX;refine⟨⟨⟨gL,?_,λa hF=>cI (f.am a hF) w.b5,H,λa g=>I a (by rw[<-C];exact g),λk p=>?_,λk p=>h.cq.dJ k (kG.1 p).1⟩,?_,λN s hF=>?_,h.cm.i u,(h.mE.i u t.b5).kp (aL.d h.iX (u gj h.B3 h.iX.am).2) (f.m7 gj h.B3),λk p=>?_,?_,λk p=>?_,λN s=>?_⟩,t⟩
 ·exact cw gC λa g=>gw _ _ _ _ (λe=>by simp at e;subst e;exact F (by rw[<-C];exact g))
 ·obtain⟨v,z,_⟩:=h.f0 k (kG.1 p).1;have hV:=(v.i u t.b5).kh (h.mE.i u t.b5) z
  obtain⟨hZ,ai,ih,iR,iU,iZ,i1⟩:=hV;refine⟨hZ,ai,ih,iR,iU,?_,i1⟩;rw[r3 z v.am];exact iZ
 ·refine cw h.bG λa g=>t.o a (h.bG.lt a g).2 (λj=>?_)
  rcases j with rfl|j
  ·exact ed h.cq.ee h.bG ak g
  ·exact i4 h.bG h.cq.bg ak a g j
 ·rcases f.bT N hF with b|b
  ·exact h.nC N s b
  ·have:=(h.bG.lt N s).2;omega
 ·obtain⟨v,z,i2⟩:=h.f0 k (kG.1 p).1;exact⟨(v.i u t.b5).kp hS e gj,z,i2⟩
 ·refine uE (cw f.bg λa g=>w.o a (f.bg.lt a g).2 (λj=>?_));rcases j with rfl|j
  ·have:=(f.bg.lt a g).1;have:=h.cq.ee.am;omega
  ·have:=(f.bg.lt a g).1;have:=(h.cq.bg.lt a j).2;omega
 ·have v:=(f.f0 k p).i J w.b5;have P:k.bw∈r.map bO.bw:=eG.2 ⟨k,p,rfl⟩;rw[f.bw]at P;obtain⟨kp,jt,gf⟩:=eG.1 P;obtain⟨kr,jW⟩:=kG.1 jt;obtain⟨kx,j4,_⟩:=Ae.1 jW;have j9:=(jX.1 j4).1;rw[uP,c_]at j9;refine⟨v,?_,?_⟩
  ·rw[<-gf];simp[pJ]
  ·rw[<-gf];simp only[pJ,bV,dT,d5];omega
 ·intro j;rw[C]at j;have:=(f.bg.lt N s).1;have:=(h.cq.bg.lt N j).2;omega
theorem iD.i{b:Nat->Prop}(h:iD b L o c d A K gg B G){bh:Nat->Prop}(a:bv bh L w)(hF:∀X,bh X->¬b X)(l:¬bh o)(m:∀N,ap gg=some N->¬bh N)(p:∀N,ap B=some N->¬bh N):iD b w o c d A K gg B G:=by
 have e:fL b L b w:=λX f q=>⟨f,a.o X q (λr=>hF X r f)⟩
 exact⟨⟨h.cq.togd.i8 (h.cq.ee.d (a.o o h.cq.ee.am l)) a hF p,h.cq.cq⟩,cw h.bG (λN g=>a.o N (h.bG.lt N g).2 (m N g)),h.nC,h.cm.i e,h.mE.i e a.b5,λk j=>⟨(h.f0 k j).1.i e a.b5,(h.f0 k j).2⟩⟩
theorem iD.bI{a:Nat->Prop}(h:iD a L o c d A K gg B G)(b:aF (S (R L)) L w):iD a w o c d A K gg B G:=
 h.i (bh:=λ_=>False) (bv.bI _ b) (λ_ h=>h.elim) (λh=>h) (λ_ _ h=>h) (λ_ _ h=>h)
theorem Tt{a:Nat}:(G.filter λk=>decide (hV-eq d k.bw.2<a)).map bO.bw=(G.map bO.bw).filter (pj a d hV):=by rw[yT];rfl
theorem iD.OD{b:Nat->Prop}(h:iD b L o c d A K gg B G)(q:pk c)(r:g9 c d A i2)(E:M G<=1000000)(F:c1 hV)(f:d=[]\/d8 d<=hV):
 aR prog 72 #[aD (some ⟨o,0,none⟩),O Q hV] L λbb w=>bb=aM (.tuple #[])/\∃x u l m g,iD b w o c d (A+ex c.bF hV (de d A)) K (U x u l) m g/\(g.map bO.bw).Perm ((G.map bO.bw).filter (pj c.bF d hV))/\M g<=M G/\bv (λX=>X=o\/ap gg=some X\/ap B=some X) L w/\ap (U x u l)=ap gg/\ap m=ap B:=by
 have g1:=q.xo;have hu:=q.DL;have hE:=q.aZ;have y:∀al,al<M d->(cu d al).aS<=hV/\c1 (cu d al).aS:=λal j=>by
  have z:=r.cE al (M d-1) T T;refine⟨?_,by rw[jR j];exact r.h2 _ (b4 j)⟩;rcases f with rfl|f
  ·simp at j
  ·unfold d8 at f;omega
 have H:M (de d A)<=1000000:=by rw[pi];have:=r.aZ;omega
 refine(LJ (af:=hV) h.cq h.bG h.nC H E (λI J=>?_) (λk s=>?_) F T).mono ?_
 ·obtain⟨al,j,rfl⟩:=iW J;have P:=j;rw[pi]at P;rw[vp];exact y _ T
 ·obtain⟨gf,gj,_⟩:=h.f0 k s;obtain⟨al,I,e⟩:=uJ gj;have:=y al (gf.am al (by rw[e];simp));unfold eq;rw[e];exact this
 ·rintro bb w ⟨rfl,x,u,l,m,g,gC,C,t,p,D,gE⟩;refine⟨rfl,x,u,l,m,g,?_,?_,?_,p,D,gE⟩
  ·have gF:∀X,(X=o\/ap gg=some X\/ap B=some X)->¬b X:=λX a=>by
    rcases a with rfl|a|a
    ·exact h.cq.mJ
    ·exact h.nC X a
    ·exact h.cq.jJ X a
   have v:fL b L b w:=λX a f=>⟨a,p.o X f (λz=>gF X z a)⟩
   refine⟨gC,?_,λN gL=>h.nC N (by rw[<-D];exact gL),h.cm.i v,h.mE.i v p.b5,λk s=>?_⟩
   ·rw[Ou]at C;exact C
   ·have:=(kG.1 (t.mem_iff.1 s)).1;exact⟨(h.f0 k this).1.i v p.b5,(h.f0 k this).2⟩
  ·have:=t.map bO.bw;rw[Tt]at this;exact this
  ·rw[t.length_eq];exact vf _ _
theorem iD.BE{p:Nat->Prop}(h:iD p L o c d A K gg B G)(I:A<=M d){e:be}{l:aq}{g j:Nat}(f:aF (S (R L)) L l)(t:j8 l gj e (M d))(J:S (R L)<=gj)(u:aL l me #[aD (some ⟨gj,0,none⟩)] 156)(P:S (R L)<=me)(v:aY D 0 3 1 (U (some ⟨g,0,none⟩) (M (de d A)+1) j) (M (de d A)+1) ((de d A).map (O Q)++[O Q e.aS]))(m:b_ (ar (ay l ⟨o,3,none⟩ (O Q (M d+1))) hE) D (ap gg))(gf:ap gg=some g\/S (R l)<=g):
 sw (λX=>p X\/X=gj) (ay D ⟨o,4,none⟩ (U (some ⟨g,0,none⟩) (M (de d A)+1) j)) o c d e A K gj me (U (some ⟨g,0,none⟩) (M (de d A)+1) j) B G/\bv (λX=>X=o\/ap gg=some X) L (ay D ⟨o,4,none⟩ (U (some ⟨g,0,none⟩) (M (de d A)+1) j)):=by
 have iU:=f.size;have gC:=h.cq.ee.am;have gE:¬(ap gg)=some o:=ed h.cq.ee h.bG ak;have r:bv (λX=>X=o\/ap gg=some X) l (ay D ⟨o,4,none⟩ (U (some ⟨g,0,none⟩) (M (de d A)+1) j)):=((((bv.l (λX=>X=o\/ap gg=some X) l).v (ai:=⟨o,3,none⟩) (.inl (.inl rfl)) _).a hE).trans (bv.dj m) (λX _ e=>.inr e)).v (ai:=⟨o,4,none⟩) (.inl (.inl rfl)) _
 have q:bv (λX=>X=o\/ap gg=some X) L (ay D ⟨o,4,none⟩ (U (some ⟨g,0,none⟩) (M (de d A)+1) j)):=(bv.bI (λX=>X=o\/ap gg=some X) f).trans r (λX _ e=>e);have gF:=h.cq.ee.d (f.block o gC);have gL:=(gF.j 3 (O Q (M d+1))).a hE;have w:=gL.d (m.block o (by simp[ay];omega) (λe=>gE e.symm));have x:=w.j 4 (U (some ⟨g,0,none⟩) (M (de d A)+1) j);simp at x;have y:∀X,(X=o\/ap gg=some X)->¬p X:=λX f=>by
  rcases f with rfl|f
  ·exact h.cq.mJ
  ·exact h.nC X f
 have s:fL p L (λX=>p X\/X=gj) (ay D ⟨o,4,none⟩ (U (some ⟨g,0,none⟩) (M (de d A)+1) j)):=λX hF g1=>⟨.inl hF,q.o X g1 (λa=>y X a hF)⟩
 have z:∀X,ap gg=some X->X<S (R L):=λX f=>(h.bG.lt X f).2
 have C:=t.am;have E:∀X,S (R L)<=X->X<S (R l)->(R (ay D ⟨o,4,none⟩ (U (some ⟨g,0,none⟩) (M (de d A)+1) j)))[X]?=(R l)[X]?:=λX iZ hu=>r.o X hu (λa=>by rcases a with rfl|a;omega;have:=z X a;omega)
 have hS:∀X,(p X\/X=gj)->X<S (R (ay D ⟨o,4,none⟩ (U (some ⟨g,0,none⟩) (M (de d A)+1) j))):=λX f=>by
  rcases f with f|rfl
  ·exact cI (h.cq.m_ X f) q.b5
  ·exact cI C r.b5
 have hV:∀N,ap B=some N->¬(N=o\/ap gg=some N):=λN F a=>by
  rcases a with a|a
  ·exact h.cq.togd.gV N F a
  ·exact i4 h.bG h.cq.bg ak N a F
 have hZ:=h.cq.togd.i8 x q y hV;refine⟨⟨hZ.g1 (λX f=>.inl f) hS (λa=>?_) (λN m a=>?_),?_,λN m a=>?_,h.cm.i s,h.mE.i s q.b5,λk H=>⟨(h.f0 k H).1.i s q.b5,(h.f0 k H).2⟩,aL.d t (E gj J C),.inr rfl,u.d (E me P u.am)⟩,q⟩
 ·rcases a with a|a
  ·exact h.cq.mJ a
  ·omega
 ·rcases a with a|a
  ·exact h.cq.jJ N m a
  ·have:=(h.cq.bg.lt N m).2;omega
 ·rw[MN d e A I,bV,dv];exact cw v λi0 ih=>gw _ _ _ _ (λe=>by simp at e;subst e;exact ed w v ak ih)
 ·have iR:g=N:=by simpa[ap]using m
  subst iR;rcases gf with b|b
  ·rcases a with a|a
   ·exact h.nC _ b a
   ·have:=z _ b;omega
  ·rcases a with a|a
   ·have:=h.cq.m_ _ a;omega
   ·omega
theorem qm.MD{g:Nat->Prop}{e:be}(h:qm g L o c d e A K gj gg B G i0 r)(s:M G<=1000000):
 aR prog 77 #[.iface 167 (aD (some ⟨o,5,none⟩))] L λbb w=>bb=aM (.tuple #[])/\∃b,b.Perm G/\qm g w o c d e A K gj gg B b i0 r/\ls (λk=>eq (d++[e]) k.bw.2) b (M b) 0/\bv (λX=>ap B=some X) L w:=by
 refine(NJ h.cq s).mono ?_;rintro bb w ⟨rfl,b,m,p,a⟩;have i:fL g L g w:=λX q t=>⟨q,a.o X t (λl=>h.cq.jJ X l q)⟩
 refine⟨rfl,b,p,⟨m.togd,?_,h.nC,h.cm.i i,h.mE.i i a.b5,λk j=>?_,?_,λk j=>⟨(h.dj k j).1.i i a.b5,(h.dj k j).2⟩,h.oO⟩,m.cq,a⟩
 ·exact cw h.bG λN f=>a.o N (h.bG.lt N f).2 (λl=>i4 h.bG h.cq.bg ak N f l)
 ·have:=p.mem_iff.1 j;exact⟨(h.f0 k this).1.i i a.b5,(h.f0 k this).2⟩
 ·exact cw h.bg λN f=>a.o N (h.bg.lt N f).2 (h.oO N f)
theorem qm.y{g:Nat->Prop}{e:be}(h:qm g L o c d e A K gj gg B G i0 r)(t:pk c)(C:ls (λk=>eq (d++[e]) k.bw.2) G (M G) 0)(D:M G<=400000)(E:M r<=400000):
 aR prog 78 #[aD (some ⟨o,0,none⟩),i0] L λbb w=>∃x u j J l m,bb=aM (U x u j)/\et (S (R L)) w (U x u j) J/\h8 (J.map (·.2))/\(∀v,v∈J.map (·.2)↔v∈(r.filter (hs c.cm)).map (·.bw.2))/\iD g w o c (d++[e]) A (K++[gj]) gg l m/\m.Perm (G++r.filter λk=>!hs c.cm k)/\bv (λX=>X=o\/ap B=some X) L w/\∀X,ap l=some X->ap B=some X\/S (R L)<=X:=by
 have F:∀k∈r,M k.bw.2<=10000:=λk a=>by have:=(h.dj k a).2.2;have:=(Ey t (h.dj k a).1.eJ).2;omega
 refine(P2 ⟨h.cq,C⟩ h.mE (λk a=>⟨(h.dj k a).1,(h.dj k a).2.1⟩) (λai H=>by have:=(t.bX ai H).2;omega) F h.bg h.oO E D).mono ?_;rintro bb w ⟨x,u,j,J,l,m,I,P,gf,gC,gE,z,b,gF⟩;refine⟨x,u,j,J,l,m,I,P,gf,gC,?_,z,b,gF⟩;have gL:∀X,(X=o\/ap B=some X)->¬g X:=λX f=>by
  rcases f with rfl|f
  ·exact h.cq.mJ
  ·exact h.cq.jJ X f
 have p:fL g L g w:=λX f g1=>⟨f,b.o X g1 (λi=>gL X i f)⟩
 have hu:(M (d++[e]):Int)=(M d:Int)+1:=av;refine⟨by rw[hu];exact gE,?_,h.nC,h.cm.i p,h.mE.i p b.b5,λk a=>?_⟩
 ·refine cw h.bG λN q=>b.o N (h.bG.lt N q).2 (λi=>?_)
  rcases i with rfl|i
  ·exact ed h.cq.ee h.bG ak q
  ·exact i4 h.bG h.cq.bg ak N q i
 ·rcases dm.1 (z.mem_iff.1 a)with a|a
  ·exact⟨(h.f0 k a).1.i p b.b5,(h.f0 k a).2⟩
  ·obtain⟨hE,s⟩:=kG.1 a;obtain⟨hS,hV,ih⟩:=h.dj k hE;refine⟨hS.i p b.b5,hV,?_⟩;have:¬(M k.bw.2)=M (c.cm.getD k.bw.1 []):=by intro hZ;unfold hs ou at s;rw[uP,c_]at s;simp[hZ]at s
   omega
structure vw (d_:Nat->Prop) (L:aq) (b3:Nat) (aE:kF) (ad:List be) (e:be) (b6:Nat) (jV jQ:an) (rz:List (Nat×List Nat)) (a6:an) (aI:aq) (lI:Nat->Prop) (dH:Nat) (iy:List es) (S9:List Nat) (Al Dm:an) (CO:List bO):Prop where
 dQ:et dH aI a6 iy
 qk:h8 (iy.map (·.2))
 mb:∀aG,aG∈iy.map (·.2)↔aG∈sG (cS aE.cm) ad e (rz.filter (pj aE.bF ad e.aS))
 By:iD lI aI b3 aE (ad++[e]) (b6+ex aE.bF e.aS (de ad b6)) S9 Al Dm CO
 f0:(CO.map bO.bw).Perm (qr (cS aE.cm) ad e (rz.filter (pj aE.bF ad e.aS)))
 gY:bv (λX=>X=b3\/jV.ownBlock=some X\/jQ.ownBlock=some X) L aI
 Dv:∀X,Al.ownBlock=some X->jV.ownBlock=some X\/L.heap.size<=X
 FY:∀X,Dm.ownBlock=some X->jQ.ownBlock=some X\/L.heap.size<=X
 zq:∀X,lI X->d_ X\/L.heap.size<=X
 QZ:L.heap.size<=dH
 Li:∀X,lI X->X<dH
 OP:∀X,Al.ownBlock=some X->X<dH
theorem Kn{I:List (List dg)}{e:be}:(G.filter λk=>!jr I d e k.bw).map bO.bw=(G.map bO.bw).filter λk=>!jr I d e k:=by rw[yT];rfl
theorem On:(r.filter λk=>!hs I k).map bO.bw=(r.map bO.bw).filter λk=>!ou (cS I) k:=by rw[yT];rfl
theorem JN:(r.filter (hs I)).map (·.bw.2)=((r.map bO.bw).filter (ou (cS I))).map (·.2):=by rw[yT,sj];rfl
theorem Et{I:List (List dg)}{e:be}{H:List (Nat×List Nat)}(h:mn.Perm H):(o0 I d e mn).Perm (o0 I d e H):=by unfold o0;exact((h.append_left _).filter _).map _
theorem P6{I:List (List dg)}{e:be}{H:List (Nat×List Nat)}(h:mn.Perm H):(qr I d e mn).Perm (qr I d e H):=by unfold qr;exact(h.filter _).append ((Et h).filter _)
theorem PT{I:List (List dg)}{e:be}{H:List (Nat×List Nat)}(h:mn.Perm H):(sG I d e mn).Perm (sG I d e H):=by unfold sG;exact((Et h).filter _).map _
theorem Il{C:Nat->Prop}{z l g f h:aq}{e:be}{s:Nat}{m t i:an}{j u v:List bO}{E p:Nat->Prop}{w:an}(hV:A+ex c.bF e.aS (de d A)=s)(hZ:(G.map bO.bw).Perm i2)(F:aF (S (R L)) L z)(ih:(j.map bO.bw).Perm ((G.map bO.bw).filter (pj c.bF d e.aS)))(H:bv (λX=>X=o\/ap gg=some X\/ap B=some X) z l)(q:ap t=ap B)(I:bv (λX=>X=o\/ap gg=some X) l g)(iR:∀X,ap m=some X->ap gg=some X\/S (R l)<=X)(iU:∀X,E X->C X\/S (R l)<=X)(P:ht E g c.cm c.iS d K e gj (S (R g)) (S (R g)+1) (gi (cS c.cm)++j.map bO.bw) gF p i0 r)(gf:bv (λX=>X=o\/ap t=some X) g D)(x:ap i=ap t)(iZ:u.Perm (j.filter λk=>!jr (cS c.cm) d e k.bw))(gC:qm p f o c d e s K gj m i u i0 r)(gL:bv (λX=>ap i=some X) D f)(i1:et (S (R f)) h gE J)(jt:h8 (J.map (·.2)))(jW:∀y,y∈J.map (·.2)↔y∈(r.filter (hs c.cm)).map (·.bw.2))(j4:iD p h o c (d++[e]) s (K++[gj]) m w v)(j9:v.Perm (u++r.filter λk=>!hs c.cm k))(kp:bv (λX=>X=o\/ap i=some X) f h)(kr:∀X,ap w=some X->ap i=some X\/S (R f)<=X):
 vw C L o c d e A gg B i2 gE h p (S (R f)) J (K++[gj]) m w v:=by
 have g1:r.map bO.bw=o0 (cS c.cm) d e (j.map bO.bw):=P.bw;have hu:(j.map bO.bw).Perm (i2.filter (pj c.bF d e.aS)):=ih.trans (hZ.filter _);have k1:=F.size;have k7:=H.b5;have lo:=I.b5;have l8:=gf.b5;have me:=gL.b5;have kx:bv (λX=>X=o\/ap gg=some X\/ap B=some X) L h:=by
  refine(((((bv.bI (λX=>X=o\/ap gg=some X\/ap B=some X) F).trans H (λX _ b=>b)).trans I (λX _ b=>?_)).trans gf (λX _ b=>?_)).trans gL (λX _ b=>?_)).trans kp (λX _ b=>?_)
  ·rcases b with b|b;exact .inl b;exact .inr (.inl b)
  ·rcases b with b|b;exact .inl b;exact .inr (.inr (q▸b))
  ·exact .inr (.inr (by rw[<-q,<-x];exact b))
  ·rcases b with b|b;exact .inl b;exact .inr (.inr (by rw[<-q,<-x];exact b))
 refine⟨i1,jt,λy=>?_,by rw[hV];exact j4,?_,kx,λX a=>?_,λX a=>?_,λX a=>?_,T,gC.cq.m_,λX a=>(gC.bG.lt X a).2⟩
 ·rw[jW,JN,g1];exact(PT hu).mem_iff
 ·have hE:=j9.map bO.bw;rw[dv,On,g1]at hE;have hS:=iZ.map bO.bw;rw[Kn]at hS;exact(hE.trans (hS.append_right _)).trans (P6 hu)
 ·rcases iR X a with b|b
  ·exact .inl b
  ·exact .inr T
 ·rcases kr X a with b|b
  ·exact .inl (by rw[<-q,<-x];exact b)
  ·exact .inr T
 ·rcases P.bT X a with b|b
  ·rcases iU X b with b|b
   ·exact .inl b
   ·exact .inr T
  ·exact .inr T
theorem Qo{hS:Nat->Prop}(h:iD hS L o c d A K gg B G)(I:pk c)(kx:g9 c d A i2)(nG:(G.map bO.bw).Perm i2){e:be}(tB:c1 e.aS)(tI:d=[]\/d8 d<=e.aS)(My:M G<=100000)(MA:M d<=100000000):
 aR prog 49 #[aD (some ⟨o,0,none⟩),e4 e] L λbb w=>∃x u oa t8 dH J ub ug uY vE,bb=aM (U x u oa)/\vw hS L o c d e A gg B i2 (U x u oa) w t8 dH J ub ug uY vE:=by
 obtain⟨wz,wB,xf,xk,xr⟩:=dY Tryz.Ak;have hV:=aL.bT L #[O Q e.aS,O Q e.ao,O Q e.bj,O Q e.X,O Q e.aE] 44;have ob:aF (S (R L)) L (ar L (aw #[O Q e.aS,O Q e.ao,O Q e.bj,O Q e.X,O Q e.aE] 44)):=(ca _ L).alloc (aN _) _;have oH:=h.bI ob;have MC:=kx.aZ;have MD:=I.aZ;have MT:=kx.bF.b0;have oS:=oH.OD I kx T tB tI;have M1:M d-A<=1000:=T;have ys:=tP (c.bF:Int) e.aS (de d A);rw[pi]at ys;generalize yC:A+ex c.bF e.aS (de d A)=f at*;unfold e4;generalize M9:ar L (aw #[O Q e.aS,O Q e.ao,O Q e.bj,O Q e.X,O Q e.aE] 44)=z at*;have y2:=hV.aa 0;have Nt:=hV.am;simp at y2;go_enter func49,ntmps49;go_upto_region 2 with(go_at_call 72;refine oS.mono ?_;rintro bb a ⟨rfl,ih,iR,iU,mn,iZ,P,o6,NF,mO,pa,y5⟩);have t:aL a (S (R L)) #[O Q e.aS,O Q e.ao,O Q e.bj,O Q e.X,O Q e.aE] 44:=by
  refine hV.d (mO.o _ hV.am (λgf=>?_));rcases gf with gf|gf|gf
  ·have:=h.cq.ee.am;omega
  ·have:=(h.bG.lt _ gf).2;omega
  ·have:=(h.cq.bg.lt _ gf).2;omega
 have zc:=t.aa 0;have zS:=t.aa 1;have z_:=t.aa 2;have Ai:=t.aa 3;have Ak:=t.aa 4;have Aq:=t.am;simp at zc zS z_ Ai Ak;have i1:=P.cq.ee;have hZ:=i1.aa 3;have Az:=i1.am;simp at hZ
 go_cut [5]from 7 (λAE mR=>∃me gj,AE=aD (some ⟨me,0,none⟩)/\aL mR me #[aD (some ⟨gj,0,none⟩)] 156/\j8 mR gj e (M d)/\aF (S (R a)) a mR/\S (R a)<=me/\S (R a)<=gj)
 case first=>
  go_region
  all_goals
   go_wp2
   go_meet
   first
   |(refine⟨S (R a)+1,S (R a),rfl,?_,?_,?_,lv _,aN _⟩
     ·have b:=aL.bT (ar a (aw #[O Q e.aS,O Q e.ao,O Q e.bj,O Q e.X,O Q e.aE,O Q (M d)] 158)) #[aD (some ⟨S (R a),0,none⟩)] 156
      rw[hQ]at b;exact b
     ·exact(aL.bT a _ _).a _
     ·have b:aF (S (R a)) a (ar (ar a (aw #[O Q e.aS,O Q e.ao,O Q e.bj,O Q e.X,O Q e.aE,O Q (M d)] 158)) (aw #[aD (some ⟨S (R a),0,none⟩)] 156)):=((ca _ a).alloc (aN _) _).alloc av _
      exact⟨b.os,b.tape,b.output,b.size,b.block⟩)
   |(refine⟨S (R a),S (R a)+1,rfl,?_,?_,?_,aN _,lv _⟩
     ·exact(aL.bT a _ _).a _
     ·have b:=aL.bT (ar a (aw #[aD (some ⟨S (R a)+1,0,none⟩)] 156)) #[O Q e.aS,O Q e.ao,O Q e.bj,O Q e.X,O Q e.aE,O Q (M d)] 158
      rw[hQ]at b;exact b
     ·have b:aF (S (R a)) a (ar (ar a (aw #[aD (some ⟨S (R a)+1,0,none⟩)] 156)) (aw #[O Q e.aS,O Q e.ao,O Q e.bj,O Q e.X,O Q e.aE,O Q (M d)] 158)):=((ca _ a).alloc (aN _) _).alloc av _
      exact⟨b.os,b.tape,b.output,b.size,b.block⟩)
 case rest=>
  obtain⟨me,gj,rfl,py,pF,gC,AV,pR⟩:=hcut;have jt:=i1.d (gC.block o Az);have k1:=t.d (gC.block _ Aq);have AW:=jt.aa 3;have NR:=jt.b 3;have OD:=jt.am;have Bg:=k1.aa 0;have OF:=k1.am;simp at AW Bg;have k7:=jt.j 3 (O Q (M d+1));have Bo:S (R L)≠o:=by have:=h.cq.ee.am;omega
  have mY:=k1.i0 ⟨o,3,none⟩ (O Q (M d+1)) Bo.symm;have Bt:=k7.aa 4;have OG:=k7.am;have BE:=mY.aa 0;have OW:=mY.am;simp at Bt BE;have m5:¬(ap (U ih iR iU))=some o:=ed i1 P.bG ak;have pU:aY (ay wc ⟨o,3,none⟩ (O Q (M d+1))) 0 3 1 (U ih iR iU) (M (de d f)) ((de d f).map (O Q)):=cw P.bG (λgL lo=>(gw _ _ _ _ (λe=>by simp at e;subst e;exact m5 lo)).trans (gC.block gL (P.bG.lt gL lo).2))
  have Pn:M (de d f)<=1000:=tc;have pX:ag (∀(D:aq) (hE:Obj) (g i:Nat),aY D 0 3 1 (U (some ⟨g,0,none⟩) (M (de d f)+1) i) (M (de d f)+1) ((de d f).map (O Q)++[O Q e.aS])->b_ (ar (ay wc ⟨o,3,none⟩ (O Q (M d+1))) hE) D (ap (U ih iR iU))->(ap (U ih iR iU)=some g\/S (R wc)<=g)->_):=λD hE g i jW g1 hu=>P.BE T gC pF pR py AV jW g1 hu
  have P1:∀gL,ap (U ih iR iU)=some gL->gL≠o:=λgL lo e=>m5 (e▸lo)
  go_upto_region 4 with fail;go_region_law (first|(refine kc _ bf _ _ 48 bf 0 3 wz _ 1 8 underlying48 wB xf xk xr rfl ak _ (M (de d f)) ((de d f).map (O Q)) bf (pU.alloc _) ⟨S (R wc),0,none⟩ 1 1 [O Q e.aS] bf rfl (c4 (cB _ _ _ (by simp[ay]))) ey ak cN T (by simp<;>omega) (S (R wc)+1) (by simp[ay]) ?_;intro g i D pZ v qp Rp;have ne:=(k7.a (aw #[O Q e.aS] 3)).d (v.block o (by simp[ay];omega) (λe=>m5 e.symm));have BH:=ne.aa 4;have RR:=ne.b 4;have RU:=ne.am;simp at BH))
  all_goals
   obtain⟨y,qt⟩:=pX.out D (aw #[O Q e.aS] 3) g i pZ ⟨v.os,v.tape,v.output,v.size,v.block⟩ (by rcases qp with j|j;exact .inl j;exact .inr T);clear pX pZ v;have Sc:ap (U (some ⟨g,0,none⟩) (M (de d f)+1) i)=some g:=rfl;have BN:ag (∀(gF j4 s C:aq) (l:Nat->Prop) (i0:an) (r E F:List bO) (m:Option Addr) (p q:Nat) (gE:an) (J:List es) (H:an),ht (λX=>hS X\/X=gj) (ay D ⟨o,4,none⟩ (U (some ⟨g,0,none⟩) (M (de d f)+1) i)) c.cm c.iS d K e gj (S (R (ay D ⟨o,4,none⟩ (U (some ⟨g,0,none⟩) (M (de d f)+1) i)))) (S (R (ay D ⟨o,4,none⟩ (U (some ⟨g,0,none⟩) (M (de d f)+1) i)))+1) (gi (cS c.cm)++iZ.map bO.bw) gF l i0 r->bv (λX=>X=o\/ap mn=some X) (ay D ⟨o,4,none⟩ (U (some ⟨g,0,none⟩) (M (de d f)+1) i)) (ay j4 ⟨o,5,none⟩ (U m p q))->ap (U m p q)=ap mn->E.Perm (iZ.filter λk=>!jr (cS c.cm) d e k.bw)->qm l s o c d e f K gj (U (some ⟨g,0,none⟩) (M (de d f)+1) i) (U m p q) E i0 r->bv (λX=>ap (U m p q)=some X) (ay j4 ⟨o,5,none⟩ (U m p q)) s->et (S (R s)) C gE J->h8 (J.map (·.2))->(∀qP,qP∈J.map (·.2)↔qP∈(r.filter (hs c.cm)).map (·.bw.2))->iD l C o c (d++[e]) f (K++[gj]) (U (some ⟨g,0,none⟩) (M (de d f)+1) i) H F->F.Perm (E++r.filter λk=>!hs c.cm k)->bv (λX=>X=o\/ap (U m p q)=some X) s C->(∀X,ap H=some X->ap (U m p q)=some X\/S (R s)<=X)->
    vw hS L o c d e A gg B i2 gE C l (S (R s)) J (K++[gj]) (U (some ⟨g,0,none⟩) (M (de d f)+1) i) H F):=λgF j4 s C l i0 r E F m p q gE J H jW g1 hu BP BV Cs Cz CS DM D7 D9 El ET=>
    Il yC nG ob o6 mO y5 (qt.cE (λX _ j=>by rcases j with j|j;exact .inl j;exact .inr (by rw[<-pa];exact j))) (λX j9=>by
     have Fi:g=X:=by simpa[ap]using j9
     subst Fi
     rcases qp with j|j
     ·exact .inl (by rw[<-pa];exact j)
     ·exact .inr (by have:=gC.size;omega)) (λX j9=>by rcases j9 with j9|rfl;exact .inl j9;exact .inr pR) jW g1 hu BP BV Cs Cz CS DM D7 D9 El ET
   have Sn:M iZ<=100000:=T;have Sy:=I.fV;have FM:=y.dj I T;have qW:M (gi (cS c.cm))=M c.cm:=by simp[gi,cS]
   have ra:∀(gF:aq) (l:Nat->Prop) (i0:an) (r:List bO),ht (λX=>hS X\/X=gj) (ay D ⟨o,4,none⟩ (U (some ⟨g,0,none⟩) (M (de d f)+1) i)) c.cm c.iS d K e gj (S (R (ay D ⟨o,4,none⟩ (U (some ⟨g,0,none⟩) (M (de d f)+1) i)))) (S (R (ay D ⟨o,4,none⟩ (U (some ⟨g,0,none⟩) (M (de d f)+1) i)))+1) (gi (cS c.cm)++iZ.map bO.bw) gF l i0 r->M r<=400000:=λgF l i0 r b=>by have:=b.pX;rw[bV,qW,c_]at this;omega
   have F2:=y.af.aa 0;have SV:=y.af.am;have F4:=y.cq.ee.aa 5;have Ga:=y.cq.ee.am;simp at F2 F4;have kp:ag _:=y;have Gl:ag _:=ra;clear ra y qt h oH P o6 mO oS kx nG hV t k1 jt i1 k7 mY pU py pF gC qW;generalize SY:ay D ⟨o,4,none⟩ (U (some ⟨g,0,none⟩) (M (de d f)+1) i)=S1 at*;go_wp2_with(first|(go_at_call 78;refine(rA.y I Gx Hp (Gl.out _ _ _ _ kr)).mono ?_;rintro bb C ⟨HY,H_,J3,rR,H,F,rfl,Ko,Kp,Kz,KJ,K4,K8,Lp⟩)|(go_at_call 77;refine(Ls.MD (bS LB ak)).mono ?_;rintro bb s ⟨rfl,E,sY,rA,Gx,LI⟩;have Hp:M E<=400000:=(by rw[sY.length_eq];omega))|(go_at_call 74;refine LL.mono ?_;rintro bb j4 ⟨m,p,q,rfl,jW,g1,hu⟩;obtain⟨Ls,LQ⟩:=kp.out.q kr jW g1 hu;have nB:=l8.d (g1.o o l8.am LU);have Mc:=nB.aa 5;have Th:=nB.b 5;have Tj:=nB.am;simp at Mc;have LB:M (iZ.filter λk=>!jr (cS c.cm) d e k.bw)<=400000:=bS (vf _ _) T)|(go_at_call 73;refine FM.mono ?_;rintro bb gF ⟨l,TH,TJ,TK,Mj,rfl,kr⟩;have l8:=kp.out.cq.ee.d (kr.g7.block o Ga);have LU:¬(ap mn)=some o:=ed kp.out.cq.ee kp.out.cq.bg ak;have Mk:=l8.aa 5;have TP:=l8.am;simp at Mk;have LL:=kp.out.MA I T kr.g7))
   go_ret;exact⟨HY,H_,J3,l,_,rR,_,_,H,F,rfl,BN.out gF j4 s C l _ Mj E F m p q _ rR H kr LQ hu sY rA LI Ko Kp Kz KJ K4 K8 Lp⟩
theorem g9.p4{a:List (Nat×List Nat)}(h:g9 c d A i2)(b:a.Perm i2):g9 c d A a:=⟨h.db.p4 b,h.bF,h.cE,h.h2,h.aZ⟩
theorem g9.pX(h:g9 c d A i2):M i2<=o2 c.aZ (cS c.cm):=
 h.db.rW h.cE (λal e a=>zR.1 (λb=>h.bF.f3 al b a)) h.aZ
theorem g9.jt(c:kF):g9 c [] 0 []:=⟨g5.jt _ _ _,kV.jt _ _,λal d _ a=>by simp at a,λe b=>by simp at b,av⟩
theorem HE(h:g9 c d A i2)(a:d=[]\/d8 d<=hV):kV c.bF d hV (A+ex c.bF hV (de d A)):=by
 rcases a with rfl|a
 ·have b:A=0:=by have:=h.bF.b0;simpa using this
  subst b;have:ex (c.bF:Int) hV (de [] 0)=0:=rfl;rw[this];exact kV.jt _ _
 ·exact h.bF.Mk h.cE a
theorem g9.q(h:g9 c d A i2)(j:1<=c.bF){e:be}(g:c1 e.aS)(i:ff c.bF c.aZ d e.aS=0):g9 c (d++[e]) (A+ex c.bF e.aS (de d A)) (qr (cS c.cm) d e (i2.filter (pj c.bF d e.aS))):=by
 obtain⟨b,k⟩:=B8 i;have f:=HE h b;have l:=f.fk;refine⟨by rw[AS];exact(h.db.vF b).q T,by rw[AS];exact f.kp T,h.cE.kp b,λbb a=>?_,?_⟩
 ·rcases dm.1 a with a|a
  ·exact h.h2 bb a
  ·rw[dB.1 a];exact g
 ·have:=f.b0;rw[bV,Qp];omega
theorem g9.mb(h:g9 c d A i2)(f:1<=c.bF){e:be}(b:d=[]\/d8 d<=e.aS)(a:List Nat):a∈sG (cS c.cm) d e (i2.filter (pj c.bF d e.aS))↔mv (cS c.cm) c.bF (d++[e]) a:=
 (h.db.vF b).K4 T a
theorem FC(h:g9 c d A i2)(g:1<=c.bF)(b:d≠[]):A<M d/\(de d A).getLastD 0=d8 d:=by
 have i:0<M d:=lw.2 b;have e:A<M d:=by
  have j:=h.bF.b0;by_cases f:A<M d
  ·exact f
  ·have:=h.bF.f3 (M d-1) T;unfold d8 at this;omega
 refine⟨e,?_⟩;rw[l7,ws,pi];have a:M d-A-1<M (de d A):=tc;rw[dz a,mD,vp a,show A+(M d-A-1)=M d-1 by omega];rfl
theorem Le(h:g9 c d A i2)(l:1<=c.bF)(hV:Int):yB c.bF c.aZ (de d A) hV=ff c.bF c.aZ d hV:=by
 unfold yB ff;have j:=h.bF.b0;by_cases f:d=[]
 ·have k:A=0:=by rw[f]at j;simpa using j
  subst f k;have m:de ([]:List be) 0=[]:=rfl;have o:nh c.bF [] hV=0:=rfl;have p:ex (c.bF:Int) hV []=0:=rfl;have g:¬(0<M ([]:List Int)/\hV<([]:List Int).getLastD 0):=λb=>by simp at b
  have i:¬(([]:List be)≠[]/\hV<d8 []):=λb=>b.1 rfl
  rw[m,o,p,aH g,aH i];by_cases a:c.aZ<=0
  ·rw[aP (by simpa using a),aP T]
  ·rw[aH (by simpa using a),aH T]
 ·obtain⟨k,q⟩:=FC h l f;rw[q];by_cases e:hV<d8 d
  ·rw[aP ⟨tc,e⟩,aP ⟨f,e⟩]
  ·have g:¬(0<M (de d A)/\hV<d8 d):=λb=>e b.2
   have i:¬(d≠[]/\hV<d8 d):=λb=>e b.2
   rw[aH g,aH i];have r:=HE h (.inr (vl.1 e));have s:=r.fk;have t:=tP (c.bF:Int) hV (de d A);rw[pi]at t;rw[s,pi];by_cases a:c.aZ<=M d-A-ex c.bF hV (de d A)
   ·rw[aP a,aP T]
   ·rw[aH a,aH T]
theorem iD.uZ{j:Nat->Prop}(h:iD j L o c d A K gg B G)(b:pk c)(a:g9 c d A i2)(e:be)(k:c1 e.aS):
 aR prog 48 #[aD (some ⟨o,0,none⟩),e4 e] L λbb w=>bb=aM (O Q (ff c.bF c.aZ d e.aS))/\aF (S (R L)) L w:=by
 have g:=b.xo;have q:=b.DL;have r:=b.aZ;have s:=a.aZ;rw[<-Le a g];refine Mi e h.cq.ee h.bG tc T (λt l=>?_) k T;obtain⟨al,m,rfl⟩:=iW l;have f:=m;rw[pi]at f;have p:d≠[]:=λe=>by rw[e]at f;simp at f
 rw[(FC a g p).2,vp];refine⟨?_,by rw[jR T];exact a.h2 _ (b4 _)⟩;exact a.cE _ _ T T
def Hw:an->Nat
 |U _ a _=>a
 |_=>0
def ux(a:Option Nat):Int:=match a with
 |none=> -1
 |some e=>(e:Nat)
theorem Hu{mn a:List (List Nat)}(h:po mn a):M a<=M mn:=tS a mn (by
 have b:=h.qk
 unfold h8 at b
 exact b.imp (λ{x X} c e=>by subst e;exact q3 _ c)) h.y4
structure Lo (dH:Nat) (L:aq) (a6:an) (bR:List es):Prop where
 my:et dH L a6 bR
 fV:bR.length<=1000000000
 bX:∀bb∈bR,bb.2.length<=1000000000
 BF:∀bb∈bR,∀df∈bb.2,df<=1000000000
theorem et.AE{H c:Nat}(h:et dH L (U x H c) bR)(a:u<M bR):∃N,x=some ⟨N,0,none⟩/\N<S (R L)/\aK L ⟨N,u,none⟩=some bR[u].1/\fb L bR[u].1 bR[u].2:=by
 rcases h.bg.2 with⟨e,f⟩|⟨N,lo,j,e,_,d,_⟩
 ·omega
 ·injection e with b k l;refine⟨N,b,(i7.1 d).1,?_,fb.pU (h.fP bR[u] (b4 a))⟩;have:=h.bg.cells (g:=N) (by rw[b];rfl) u bR[u].1 (by rw[gq,dz a];rfl);rw[ez,du]at this;exact this
theorem LG{c:Nat}(h:aY L dH 48 1 (U x (M F) c) (M F) (F.map (·.1)))(b:hu<M F):∃N,x=some ⟨N,0,none⟩/\N<S (R L)/\aK L ⟨N,hu,none⟩=some F[hu].1:=by
 rcases h.2 with⟨e,f⟩|⟨N,lo,i,e,_,d,_⟩
 ·omega
 ·injection e with a j k;refine⟨N,a,(i7.1 d).1,?_⟩;have:=h.cells (g:=N) (by rw[a];rfl) hu F[hu].1 (by rw[gq,dz b];rfl);rw[ez,du]at this;exact this
theorem Pe(a:hu+1=M F):(F.map (·.2)).getLastD []=(F[hu]'T).2:=by rw[l7,ws,c_,show(M F)-1=hu by omega,gq,dz T];rfl
theorem L7{x X:List Nat}:0<gZ x X↔gm X x:=by have h:=Gj x X;unfold rX at h;unfold gm;rw[Fs];omega
theorem Dc{x X:List Nat}:gZ x X<0↔gm x X:=by have h:=Gj x X;unfold rX at h;unfold gm;omega
theorem fb.qp{mn:List Nat}(h:fb L gE mn)(e:R w=R L):fb w gE mn:=by obtain⟨x,c,a,d⟩:=h;refine⟨x,c,a,λf=>?_⟩;obtain⟨N,g,j,k⟩:=d f;exact⟨N,g,by rw[e];exact j,λb l=>(dn (by rw[e]) b).trans (k b l)⟩
theorem IM{wk:Option Addr}{xl:Nat}(i:Lo dH L (U wk (M bR) xl) bR):
 aR prog 152 #[U wk (M bR) xl] L λbb w=>∃(gE:an) (F:List es),bb=aM gE/\aY w (S (R L)) 48 1 gE (M F) (F.map (·.1))/\(∀j∈F,j∈bR)/\h8 (F.map (·.2))/\(∀pR,pR∈F.map (·.2)↔pR∈bR.map (·.2))/\aF (S (R L)) L w:=by
 obtain⟨vE,wz,wB,xf,xk⟩:=dY Tryz.wB;go_enter func152,ntmps152;go_wp2
 go_loopw [3] (λjW wr=>∃F:List es,aY wr (S (R L)) 48 1 jW (M F) (F.map (·.1))/\(∀j∈F,j∈bR)/\po (bR.map (·.2)) (F.map (·.2))/\aF (S (R L)) L wr) (λjW _=>M bR-Hw jW)
 case atStart=>exact⟨[],eE _ _ _ _,λj d=>by simp at d,po.jt _,ca _ _⟩
 case round=>
  obtain⟨F,A,P,B,t⟩:=hrel;have BH:M F<=M bR:=by have:=Hu B;simpa using this
  obtain⟨pU,pX,rfl⟩:=eK A;have BN:=t.size;have hS:et dH wr (U wk (M bR) xl) bR:=i.my.i (λX xr=>t.block X (by
   rcases xr with b|⟨k1,ys,b⟩
   ·exact(i.my.bg.lt X b).2
   ·exact((i.my.fP k1 ys).lt X b).2))
  have BP:=i.fV;obtain⟨gf,yC⟩:∃k1,k1=wr:=⟨_,rfl⟩;go_wp2;subst yC
  go_loopw [4,5] (λy2 j4 y5=>∃(al:Nat) (hE:Option Nat),al<=M bR/\j4=O Q (al:Nat)/\y2=O Q (ux hE)/\j_ (bR.map (·.2)) (F.map (·.2)) al hE/\∃g,y5=bY gf g) (λ_ j4 _=>M bR-(eg j4).toNat)
  case atStart=>exact⟨0,none,bL _,rfl,rfl,λBV h=>T,0,rfl⟩
  case round=>
   obtain⟨al,hE,Cs,rfl,rfl,f,g,hV⟩:=hrel;have c:R wr=R gf:=by rw[hV];rfl
   have C:aF (S (R L)) L wr:=by rw[hV];exact⟨t.os,t.tape,t.output,t.size,t.block⟩
   have pZ:ag (∀v:aq,(∃u,v=bY wr u)->∃g,v=bY gf g):=λv k7=>by obtain⟨u,rfl⟩:=k7;exact⟨g+u,by rw[hV];simp[bY,hr]⟩
   clear hV;by_cases hZ:al<M bR
   ·obtain⟨m,rfl,gg,l,ih⟩:=hS.AE hZ;have E:bR[al]∈bR:=b4 hZ;have qp:(bR.map (·.2)).getD al []=bR[al].2:=by simp[List.getD,hZ]
    have gj:ag ((bR.map (·.2)).getD al []=bR[al].2):=qp;have gC:=i.bX _ E;have gF:=i.BF _ E;obtain⟨o,p,G,iR⟩:=ih;have H:fb wr bR[al].1 bR[al].2:=(show fb gf bR[al].1 bR[al].2 from⟨o,p,G,iR⟩).qp c;clear iR qp;obtain⟨a,iU⟩:∃gE,bR[al]=gE:=⟨_,rfl⟩;rw[iU]at l E gC gF G H gj;rw[G]at l H;have lo:aK wr ⟨m,al,none⟩=some (U o (M a.2) p):=(dn (by rw[c]) al).trans l;have l8:m<S (R wr):=by rw[c];exact gg
    have zc:(al:Int)<(M bR:Int):=T;have Cz:(0:Int)<=(al:Int):=T;go_upto_region 6 with fail
    go_cut [6]from 7 to 47 (λgE zS=>∃iZ:Bool,gE=.bool iZ/\(iZ=true↔mB (F.map (·.2)) a.2)/\∃g,zS=bY wr g)
    case first=>
     by_cases d:M F=0
     ·have z_:((M F:Int)==0)=true:=by rw[d];rfl
      have i0:ag (mB (F.map (·.2)) a.2):=.inl (by rw[nx.1 d];rfl);clear c d;go_quiet(fail);go_wp2
      go_meet
      exact⟨true,rfl,⟨λ_=>i0.out,λ_=>rfl⟩,_,rfl⟩
     ·obtain⟨hu,i1⟩:∃hu,hu+1=M F:=⟨M F-1,T⟩
      have qt:hu<M F:=T;obtain⟨qP,rfl,qW,ra⟩:=LG A qt;have i2:F[hu]∈bR:=P _ (b4 qt);have rA:(F.map (·.2)).getLastD []=F[hu].2:=Pe i1;have me:mB (F.map (·.2)) a.2↔0<gZ a.2 F[hu].2:=by
       rw[L7];unfold mB;rw[rA];constructor
       ·rintro(h|h)
        ·have:F=[]:=by simpa using h
         rw[this]at i1;simp at i1
        ·exact h
       ·exact .inr
      have mn:fb wr F[hu].1 F[hu].2:=(fb.pU (hS.fP _ i2)).qp c;have rR:aK wr ⟨qP,hu,none⟩=some F[hu].1:=(dn (by rw[c]) hu).trans ra;have CS:qP<S (R wr):=by rw[c];exact qW
      have sY:=i.bX _ i2;have tB:=i.BF _ i2;have q:∀u,aR prog 182 #[U o (M a.2) p,F[hu].1] (bY wr u) λe w=>e=aM (O Q (gZ a.2 F[hu].2))/\∃b,w=bY wr b:=λu=>by refine(Dh (L:=bY wr u) (H.qp rfl) (mn.qp rfl) gC sY gF tB).mono ?_;rintro e w ⟨mO,g,mR⟩;exact⟨mO,u+g,by rw[mR];simp[bY,hr]⟩
      obtain⟨kr,tI⟩:∃gE,F[hu]=gE:=⟨_,rfl⟩;rw[tI]at me rR q mn;obtain⟨Ai,Ak,mY,m5⟩:=mn;rw[mY]at rR q;clear m5;have DM:(M F:Int)-1=(hu:Int):=T;have z_:((M F:Int)==0)=false:=di.2 T;have D7:(0:Int)<=(hu:Int):=T;have D9:(hu:Int)<(M F:Int):=T;have El:(hu:Int)<=1000000000:=T;have i0:ag (mB (F.map (·.2)) a.2↔0<gZ a.2 kr.2):=me;clear me ra l qW gg rA tI i1 sY tB i2 d H gC gF;generalize gZ a.2 kr.2=k at*;generalize(M a.2)=ne at*;generalize(M kr.2)=Aq at*;clear c;by_cases y:0<k
      ·have t8:decide ((0:Int)<k)=true:=by simpa using y
       go_quiet(first|(go_at_call 182;refine q _));go_wp2
       go_meet
       exact⟨true,rfl,⟨λ_=>i0.out.2 y,λ_=>rfl⟩,_,rfl⟩
      ·have t8:decide ((0:Int)<k)=false:=by simpa using y
       go_quiet(first|(go_at_call 182;refine q _));go_wp2
       go_meet
       exact⟨false,rfl,⟨λh=>by simp at h,λh=>by have:=i0.out.1 h;omega⟩,_,rfl⟩
    case rest=>
     obtain⟨iZ,rfl,gL,Az,e⟩:=hcut;have r:R wc=R wr:=by rw[e];rfl
     have jt:ag (∀v:aq,(∃u,v=bY wc u)->∃g,v=bY gf g):=λv k7=>by obtain⟨u,rfl⟩:=k7;exact pZ.out _ ⟨Az+u,by rw[e];simp[bY,hr]⟩
     have ET:aK wc ⟨m,al,none⟩=some (U o (M a.2) p):=(dn (by rw[r]) al).trans lo;have Fi:m<S (R wc):=by rw[r];exact l8
     have ub:=H.qp r;have j9:al+1<=M bR:=hZ;have FM:(al:Int)+1<=1000000000:=T;clear e pZ lo l8 l gg;cases iZ with
     |false=>
      have I:ag (j_ (bR.map (·.2)) (F.map (·.2)) (al+1) hE):=Oh f (by rw[gj.out];intro h;exact absurd (gL.2 h) av);clear f gL c r;go_upto_region 7 with fail;go_quiet(fail);go_wp2;go_roundw
      case rel=>exact⟨al+1,hE,j9,av,rfl,I.out,jt.out _ ⟨_,rfl⟩⟩
      case measure=>simp[eg];omega
     |true=>
      have kp:mB (F.map (·.2)) ((bR.map (·.2)).getD al []):=by rw[gj.out];exact gL.1 rfl
      cases hE with
      |none=>
       have I:ag (j_ (bR.map (·.2)) (F.map (·.2)) (al+1) (some al)):=Ks f kp;have nB:ux none<0:=ak;clear f gL c r kp;go_upto_region 7 with fail;go_quiet(fail);go_wp2;go_roundw
       case rel=>exact⟨al+1,some al,j9,av,rfl,I.out,jt.out _ ⟨_,rfl⟩⟩
       case measure=>simp[eg];omega
      |some X=>
       have z:X<M bR:=by have:=f.1;omega
       obtain⟨AE,nG,_,oa,ob⟩:=hS.AE z;have AV:m=AE:=by injection nG with nG;injection nG
       subst AV;have oH:bR[X]∈bR:=b4 z;have J:(bR.map (·.2)).getD X []=bR[X].2:=by simp[List.getD,z]
       have oS:=i.bX _ oH;have o6:=i.BF _ oH;obtain⟨s,ug⟩:∃gE,bR[X]=gE:=⟨_,rfl⟩;rw[ug]at oa ob J oS o6;have uY:fb wc s.1 s.2:=ob.qp (r.trans c);have AW:aK wc ⟨m,X,none⟩=some s.1:=(dn (by rw[r,c]) X).trans oa;have q:∀u,aR prog 182 #[U o (M a.2) p,s.1] (bY wc u) λe w=>e=aM (O Q (gZ a.2 s.2))/\∃b,w=bY wc b:=λu=>by refine(Dh (L:=bY wc u) (ub.qp rfl) (uY.qp rfl) gC oS gF o6).mono ?_;rintro e w ⟨mO,g,mR⟩;exact⟨mO,u+g,by rw[mR];simp[bY,hr]⟩
       obtain⟨Ai,Ak,mY,m5⟩:=uY;clear m5;rw[mY]at AW q;have Bg:(X:Int)<(M bR:Int):=T;have Bo:(0:Int)<=(X:Int):=T;have nB:¬(X:Int)<0:=T;have I:ag (if gZ a.2 s.2<0 then j_ (bR.map (·.2)) (F.map (·.2)) (al+1) (some al)else j_ (bR.map (·.2)) (F.map (·.2)) (al+1) (some X)):=by
        unfold ag;split
        ·next h=>exact SI f kp (by rw[gj.out,J];exact Dc.1 h)
        ·next h=>exact Q_ f (by rw[gj.out,J];exactλb=>h (Dc.2 b))
       have g1:ux (some X)=(X:Int):=rfl;rw[g1];clear g1 f gL kp ob oa J ub H gC gF oS o6 c r ug oH;generalize gZ a.2 s.2=k at*;generalize(M a.2)=ne at*;generalize(M s.2)=Aq at*;by_cases y:k<0
       ·have pa:ag (j_ (bR.map (·.2)) (F.map (·.2)) (al+1) (some al)):=by have:=I.out;rw[aP y]at this;exact this
        go_upto_region 7 with fail;go_quiet(first|(go_at_call 182;refine q _));go_wp2;go_roundw
        case rel=>exact⟨al+1,some al,j9,av,rfl,pa.out,jt.out _ ⟨_,rfl⟩⟩
        case measure=>simp[eg];omega
       ·have pa:ag (j_ (bR.map (·.2)) (F.map (·.2)) (al+1) (some X)):=by have:=I.out;rw[aH y]at this;exact this
        have t8:decide (k<0)=false:=by simpa using y
        go_upto_region 7 with fail;go_quiet(first|(go_at_call 182;refine q _));go_wp2;go_roundw
        case rel=>exact⟨al+1,some X,j9,av,rfl,pa.out,jt.out _ ⟨_,rfl⟩⟩
        case measure=>simp[eg];omega
   ·have py:al=M bR:=by omega
    have zc:¬(al:Int)<(M bR:Int):=T;rw[py]at f;cases hE with
    |none=>
     have pF:=B.mc (by rw[c_];exact f);have K:aY wr (S (R L)) 48 1 (U pU (M F) pX) (M F) (F.map (·.1)):=cw A (λj _=>by rw[c]);have nB:ux none<0:=ak;clear f py A;go_wp2;go_ret
     first
      |exact⟨_,F,rfl,K,P,B.qk,pF,C⟩
      |exact⟨_,rfl,F,K,P,B.qk,pF,C⟩
      |exact⟨_,rfl,F,K,λx X h=>P (x,X) h,B.qk,by simpa using pF,C⟩
    |some X=>
     have z:X<M bR:=f.1;have kx:=B.q (X:=X) (by rw[c_];exact f);have J:(bR.map (·.2)).getD X []=bR[X].2:=by simp[List.getD,z]
     rw[J]at kx;obtain⟨m,rfl,gg,l,ih⟩:=hS.AE z;have E:bR[X]∈bR:=b4 z;obtain⟨a,iU⟩:∃gE,bR[X]=gE:=⟨_,rfl⟩;rw[iU]at l ih kx E;obtain⟨o,p,G,iR⟩:=ih;rw[G]at l;have lo:aK wr ⟨m,X,none⟩=some (U o (M a.2) p):=(dn (by rw[c]) X).trans l;have l8:m<S (R wr):=by rw[c];exact gg
     have K:aY wr (S (R L)) 48 1 (U pU (M F) pX) (M F) (F.map (·.1)):=cw A (λj _=>by rw[c]);have F2:=C.size;have Bg:(X:Int)<(M bR:Int):=T;have Bo:(0:Int)<=(X:Int):=T;have g1:ux (some X)=(X:Int):=rfl;have nB:¬(X:Int)<0:=T;rw[g1];clear iR l;generalize(M a.2)=ne at*;clear f py A iU g1 c;go_wp2_with(at_builtin;refine dq _ rfl _ _ 40 rfl (S (R L)) 48 vE _ 1 24 underlying40 wz wB xf xk rfl ak _ (M F) (F.map (·.1)) bf (K.alloc _) ⟨S (R wr),0,none⟩ 1 1 [U o ne p] bf rfl (c4 (cB _ _ _ av)) ey ak cN T b7 (S (R wr)+1) av ?_;intro F4 Ga D Bt BE Gl Gx);go_roundw
     case rel=>
      refine⟨F++[a],by simp only[bV,Qp,dv,hB,pB,G];exact Bt,λj d=>?_,by rw[dv];exact kx,eY (C.alloc C.size _) BE (λj d=>(K.lt j d).1)⟩;rcases dm.1 d with d|d
      ·exact P j d
      ·rw[dB.1 d];exact E
     case measure=>have:=Hu kx;simp at this;simp[Hw];omega
def q1(g:Nat->Prop)(L:aq)(h:an)(i:Int):Prop:=∃e a j,h=U e a j/\a<=10000000000/\(0<a->∃N,e=some ⟨N,0,none⟩/\g N/\N<S (R L)/\∀f,f<a->aK L ⟨N,f,none⟩=some (O Q i))
def rb(e:Nat->Prop)(L:aq)(h:an)(i:Int):Prop:=∃f a j,h=U f a j/\a<=10000000000/\(0<a->∃N,f=some ⟨N,0,none⟩/\e N/\N<S (R L)/\∀g,g<a->∃ah l,aK L ⟨N,g,none⟩=some (U (some ⟨ah,0,none⟩) 1 l)/\e ah/\ah<S (R L)/\aK L ⟨ah,0,none⟩=some (O Q i))
theorem q1.i{a d:Nat->Prop}(h:q1 a L gE H)(f:∀X,a X->d X)(p:S (R L)<=S (R w))(g:∀X,a X->X<S (R L)->(R w)[X]?=(R L)[X]?):q1 d w gE H:=by obtain⟨x,u,c,rfl,j,h⟩:=h;refine⟨x,u,c,rfl,j,λk=>?_⟩;obtain⟨N,rfl,e,l,m⟩:=h k;exact⟨N,rfl,f N e,T,λb o=>(dn (g N e l) b).trans (m b o)⟩
theorem rb.i{a d:Nat->Prop}(h:rb a L gE H)(e:∀X,a X->d X)(v:S (R L)<=S (R w))(f:∀X,a X->X<S (R L)->(R w)[X]?=(R L)[X]?):rb d w gE H:=by obtain⟨x,u,c,rfl,k,h⟩:=h;refine⟨x,u,c,rfl,k,λl=>?_⟩;obtain⟨N,rfl,g,m,o⟩:=h l;refine⟨N,rfl,e N g,T,λb p=>?_⟩;obtain⟨ah,q,r,j,s,t⟩:=o b p;exact⟨ah,q,(dn (f N g m) b).trans r,e ah j,T,(dn (f ah j s) 0).trans t⟩
abbrev AI:=an×Int
structure rr (lr:Nat->Prop) (L:aq) (f8:Nat) (jj:an) (n:Nat) (jo he fQ f1:an) (bH ct:List AI):Prop where
 ax:aL L f8 #[jj,O Q (n:Nat),jo,he,fQ,f1] 86
 li:L.ownsRow 0 48 1 jo bH.length (bH.map (·.1))
 lf:L.ownsRow 0 3 1 he bH.length (bH.map λbb=>O Q bb.2)
 kE:L.ownsRow 0 40 1 fQ ct.length (ct.map (·.1))
 lC:L.ownsRow 0 3 1 f1 ct.length (ct.map λbb=>O Q bb.2)
 Cd:∀bb∈bH,q1 lr L bb.1 bb.2
 EA:∀bb∈ct,rb lr L bb.1 bb.2
 qN:bH.length<=1000000000000
 q8:ct.length<=1000000000000
 rC:n<=1000000000000
theorem md{d e:Nat}{c:Nat}(h:aY L d e 1 (U x u c) u mY)(j:al<u):∃N,x=some ⟨N,0,none⟩/\N<S (R L)/\∀a,mY[al]?=some a->aK L ⟨N,al,none⟩=some a:=by
 rcases h.2 with⟨e,k⟩|⟨N,lo,l,e,_,f,_⟩
 ·omega
 ·injection e with b m o;refine⟨N,b,(i7.1 f).1,λa i=>?_⟩;have:=h.cells (g:=N) (by rw[b];rfl) al a i;rw[ez,du]at this;exact this
theorem rr.E{c:Nat->Prop}{bH ct:List AI}(h:rr c L z k1 u j4 gL kr jW bH ct)(e:R w=R L):rr c w z k1 u j4 gL kr jW bH ct:=
 ⟨h.ax.d (by rw[e]),cw h.li (λ_ _=>by rw[e]),cw h.lf (λ_ _=>by rw[e]),cw h.kE (λ_ _=>by rw[e]),cw h.lC (λ_ _=>by rw[e]),λbb a=>(h.Cd bb a).i (λ_ b=>b) (by rw[e];exact aN _) (λ_ _ _=>by rw[e]),λbb a=>(h.EA bb a).i (λ_ b=>b) (by rw[e];exact aN _) (λ_ _ _=>by rw[e]),h.qN,h.q8,h.rC⟩
theorem MZ{lr:Nat->Prop}{bH ct:List AI}(h:rr lr L z k1 u j4 gL kr jW bH ct):
 aR prog 46 #[aD (some ⟨z,0,none⟩)] L λbb w=>bb=aM (.bool true)/\∃d,w=bY L d:=by
 obtain⟨oH,oS,rfl⟩:=eK h.li;obtain⟨o6,pa,rfl⟩:=eK h.lf;obtain⟨py,pF,rfl⟩:=eK h.kE;obtain⟨pR,pU,rfl⟩:=eK h.lC;have pX:=h.qN;have pZ:=h.q8;go_enter func46,ntmps46;go_wp2
 go_loopw [3] (λal wr=>∃b:Nat,b<=M bH/\al=O Q b/\∃d,wr=bY L d) (λal _=>M bH-(eg al).toNat)
 case atStart=>exact⟨0,bL _,rfl,0,rfl⟩
 case round=>
  obtain⟨b,iZ,rfl,d,J⟩:=hrel;have c:rr lr wr z k1 u _ _ _ _ bH ct:=h.E (by rw[J];rfl);have hS:ag (∀i:aq,(∃u,i=bY wr u)->∃d,i=bY L d):=λi K=>by obtain⟨u,rfl⟩:=K;exact⟨d+u,by rw[J];simp[bY,hr]⟩
  clear J;have q:=c.ax.am;have I:=c.ax.aa 2;simp at I;obtain⟨t,hV⟩:∃bb,bb=wr:=⟨_,rfl⟩;by_cases r:b<M bH
  ·have i0:(b:Int)<(M bH:Int):=by omega
   have i1:(0:Int)<=(b:Int):=T;obtain⟨v,rfl,j,x⟩:=md c.li r;obtain⟨y,rfl,k,A⟩:=md c.lf r;have g:=x bH[b].1 (by rw[gq,dz r];rfl);have l:=A (O Q bH[b].2) (by rw[gq,dz r];rfl);obtain⟨P,e,gf,B,i2,m⟩:=c.Cd _ (b4 r);rw[B]at g;generalize bH[b].2=C at*;clear x A B;go_wp2;subst hV
   go_loopw [4] (λo D=>∃H:Nat,H<=e/\o=O Q H/\∃d,D=bY t d) (λo _=>e-(eg o).toNat)
   case atStart=>exact⟨0,bL _,rfl,0,rfl⟩
   case round=>
    obtain⟨H,jt,rfl,gg,p⟩:=hrel;have a:R wr=R t:=by rw[p];rfl
    have E:ag (∀u,∃d,bY wr u=bY t d):=λu=>⟨gg+u,by rw[p];simp[bY,hr]⟩
    clear p;have f:=c.E a;have j9:=f.ax.am;have kp:=f.ax.aa 2;have kx:=f.ax.aa 3;simp at kp kx;have k7:aK wr ⟨v,b,none⟩=some (U P e gf):=(dn (by rw[a]) b).trans g;have lo:aK wr ⟨y,b,none⟩=some (O Q C):=(dn (by rw[a]) b).trans l;have l8:v<S (R wr):=by rw[a];exact j
    have me:y<S (R wr):=by rw[a];exact k
    by_cases F:H<e
    ·obtain⟨ah,rfl,_,gj,G⟩:=m T;have mn:aK wr ⟨ah,H,none⟩=some (O Q C):=(dn (by rw[a]) H).trans (G H F);have mO:ah<S (R wr):=by rw[a];exact gj
     have mR:(H:Int)<(e:Int):=T;have mY:(0:Int)<=(H:Int):=T;clear G m c f h a g l j k I q;go_wp2;go_quiet(fail);go_wp2;go_roundw
     case rel=>exact⟨H+1,F,bE,E.out _⟩
     case measure=>simp[eg];omega
    ·have gC:H=e:=by omega
     subst gC;clear m c f h a g l j k I q;go_wp2;go_roundw
     case rel=>exact⟨b+1,r,bE,hS.out _ (E.out 0)⟩
     case measure=>simp[eg];omega
  ·have gE:b=M bH:=by omega
   subst gE;have m5:ag (rr lr wr z k1 u _ _ _ _ bH ct):=c;clear c h;go_wp2;subst hV
   go_loopw [5] (λal D=>∃b:Nat,b<=M ct/\al=O Q b/\∃d,D=bY t d) (λal _=>M ct-(eg al).toNat)
   case atStart=>exact⟨0,bL _,rfl,0,rfl⟩
   case round=>
    obtain⟨b,iZ,rfl,gg,p⟩:=hrel;have c:rr lr wr z k1 u _ _ _ _ bH ct:=m5.out.E (by rw[p];rfl);have E:ag (∀i:aq,(∃u,i=bY wr u)->∃d,i=bY t d):=λi K=>by obtain⟨u,rfl⟩:=K;exact⟨gg+u,by rw[p];simp[bY,hr]⟩
    clear p I q;have q:=c.ax.am;have gF:=c.ax.aa 4;simp at gF;obtain⟨g1,ne⟩:∃bb,bb=wr:=⟨_,rfl⟩;by_cases s:b<M ct
    ·have i0:(b:Int)<(M ct:Int):=by omega
     have i1:(0:Int)<=(b:Int):=T;obtain⟨v,rfl,j,x⟩:=md c.kE s;obtain⟨y,rfl,k,A⟩:=md c.lC s;have g:=x ct[b].1 (by rw[gq,dz s];rfl);have l:=A (O Q ct[b].2) (by rw[gq,dz s];rfl);obtain⟨P,e,gf,B,i2,m⟩:=c.EA _ (b4 s);rw[B]at g;generalize ct[b].2=C at*;clear x A B;go_wp2;subst ne
     go_loopw [6] (λo D=>∃H:Nat,H<=e/\o=O Q H/\∃d,D=bY g1 d) (λo _=>e-(eg o).toNat)
     case atStart=>exact⟨0,bL _,rfl,0,rfl⟩
     case round=>
      obtain⟨H,jt,rfl,nB,hu⟩:=hrel;have a:R wr=R g1:=by rw[hu];rfl
      have hZ:ag (∀u,∃d,bY wr u=bY g1 d):=λu=>⟨nB+u,by rw[hu];simp[bY,hr]⟩
      clear hu;have f:=c.E a;have j9:=f.ax.am;have nG:=f.ax.aa 4;have oa:=f.ax.aa 5;simp at nG oa;have k7:aK wr ⟨v,b,none⟩=some (U P e gf):=(dn (by rw[a]) b).trans g;have lo:aK wr ⟨y,b,none⟩=some (O Q C):=(dn (by rw[a]) b).trans l;have l8:v<S (R wr):=by rw[a];exact j
      have me:y<S (R wr):=by rw[a];exact k
      by_cases F:H<e
      ·obtain⟨ah,rfl,_,gj,G⟩:=m T;obtain⟨hE,ob,ih,_,iR,iU⟩:=G H F;have mn:aK wr ⟨ah,H,none⟩=some (U (some ⟨hE,0,none⟩) 1 ob):=(dn (by rw[a]) H).trans ih;have qp:aK wr ⟨hE,0,none⟩=some (O Q C):=(dn (by rw[a]) 0).trans iU;have mO:ah<S (R wr):=by rw[a];exact gj
       have qt:hE<S (R wr):=by rw[a];exact iR
       have mR:(H:Int)<(e:Int):=T;have mY:(0:Int)<=(H:Int):=T;clear G m c f a g l j k gF q ih iU iR;go_wp2;go_quiet(fail);go_wp2;go_roundw
       case rel=>exact⟨H+1,F,bE,hZ.out _⟩
       case measure=>simp[eg];omega
      ·have gC:H=e:=by omega
       subst gC;clear m c f a g l j k gF q;go_wp2;go_roundw
       case rel=>exact⟨b+1,s,bE,E.out _ (hZ.out 0)⟩
       case measure=>simp[eg];omega
    ·have gE:b=M ct:=by omega
     subst gE;clear c;go_wp2;go_ret;exact⟨rfl,hS.out _ (E.out _ ⟨0,rfl⟩)⟩
def pO(L:aq)(h:an)(a:List (List Nat)):Prop:=∃f i,h=U f (M a) i/\(0<M a->∃N,f=some ⟨N,0,none⟩/\N<S (R L)/\∀e,(j:e<M a)->∃g,aK L ⟨N,e,none⟩=some g/\fb L g a[e])
theorem pO.CS(h:aY L dH 48 1 gE (M J) (J.map (·.1)))(i:∀d∈J,∃f,aY L f 3 1 d.1 (M d.2) (d.2.map λu=>O Q (u:Nat))):pO L gE (J.map (·.2)):=by obtain⟨x,c,rfl⟩:=eK h;refine⟨x,c,by rw[c_],λg=>?_⟩;rw[c_]at g;obtain⟨N,rfl,j,_⟩:=md h g;refine⟨N,rfl,j,λb a=>?_⟩;rw[c_]at a;obtain⟨m,e,_,k⟩:=md h a;injection e with e;injection e with e;subst e;obtain⟨f,l⟩:=i J[b] (b4 a);refine⟨J[b].1,k _ (by rw[gq,dz a];rfl),?_⟩;rw[yz];exact fb.pU l
theorem Pc{B C:an}{bR:List (List Nat)}(gF:pO L B bR)(gL:pO L C bR)(g1:M bR<=maxLen)(h:∀a∈bR,M a<=maxLen):
 aR prog 103 #[B,C] L λbb w=>bb=aM (.bool true)/\∃c,w=bY L c:=by
 obtain⟨i1,ac,rfl,i⟩:=gF;obtain⟨i2,jt,rfl,j⟩:=gL;unfold maxLen at g1 h;go_enter func103,ntmps103;go_wp2
 go_loopw [5] (λal wr=>∃b:Nat,b<=M bR/\al=O Q b/\∃c,wr=bY L c) (λal _=>M bR-(eg al).toNat)
 case atStart=>exact⟨0,bL _,rfl,0,rfl⟩
 case round=>
  obtain⟨b,jW,rfl,c,k⟩:=hrel;have d:R wr=R L:=by rw[k];rfl
  have D:ag (∀l:aq,(∃u,l=bY wr u)->∃c,l=bY L c):=λl hu=>by obtain⟨u,rfl⟩:=hu;exact⟨c+u,by rw[k];simp[bY,hr]⟩
  clear k;obtain⟨m,hE⟩:∃bb,bb=wr:=⟨_,rfl⟩;by_cases f:b<M bR
  ·obtain⟨N,rfl,o,E⟩:=i T;obtain⟨g,rfl,p,F⟩:=j T;obtain⟨j4,G,hS⟩:=E b f;obtain⟨u2,I,hV⟩:=F b f;have j9:=h _ (b4 f);obtain⟨J,K,rfl,q⟩:=hS;obtain⟨P,gf,rfl,r⟩:=hV;generalize bR[b]=a at*;have s:aK wr ⟨N,b,none⟩=some (U J (M a) K):=(dn (by rw[d]) b).trans G;have t:aK wr ⟨g,b,none⟩=some (U P (M a) gf):=(dn (by rw[d]) b).trans I;have v:N<S (R wr):=by rw[d];exact o
   have x:g<S (R wr):=by rw[d];exact p
   have kp:(b:Int)<(M bR:Int):=T;have kr:(0:Int)<=(b:Int):=T;clear E F i j G I h;go_wp2;go_quiet(fail);go_wp2;subst hE
   go_loopw [6] (λy hZ=>∃H:Nat,H<=M a/\y=O Q H/\∃c,hZ=bY m c) (λy _=>M a-(eg y).toNat)
   case atStart=>exact⟨0,bL _,rfl,_,rfl⟩
   case round=>
    obtain⟨H,kx,rfl,ih,z⟩:=hrel;have e:R wr=R m:=by rw[z];rfl
    have gg:ag (∀u,∃c,bY wr u=bY m c):=λu=>⟨ih+u,by rw[z];simp[bY,hr]⟩
    clear z;have k1:aK wr ⟨N,b,none⟩=some (U J (M a) K):=(dn (by rw[e]) b).trans s;have k7:aK wr ⟨g,b,none⟩=some (U P (M a) gf):=(dn (by rw[e]) b).trans t;have lo:N<S (R wr):=by rw[e];exact v
    have l8:g<S (R wr):=by rw[e];exact x
    by_cases A:H<M a
    ·obtain⟨ah,rfl,iR,gj⟩:=q T;obtain⟨gC,rfl,iU,gE⟩:=r T;have me:aK wr ⟨ah,H,none⟩=some (O Q (a[H]:Nat)):=(dn (by rw[e,d]) H).trans (gj H A);have mn:aK wr ⟨gC,H,none⟩=some (O Q (a[H]:Nat)):=(dn (by rw[e,d]) H).trans (gE H A);have mO:ah<S (R wr):=by rw[e,d];exact iR
     have mR:gC<S (R wr):=by rw[e,d];exact iU
     have mY:(H:Int)<(M a:Int):=T;have m5:(0:Int)<=(H:Int):=T;clear gj gE q r d e s t v x o p;generalize a[H]=ne at*;go_wp2;go_quiet(fail);go_wp2;go_roundw
     case rel=>exact⟨H+1,A,bE,gg.out _⟩
     case measure=>simp[eg];omega
    ·have iZ:H=M a:=by omega
     subst iZ;clear q r d e s t v x o p;go_wp2;go_roundw
     case rel=>exact⟨b+1,f,bE,D.out _ (gg.out 0)⟩
     case measure=>simp[eg];omega
  ·have i0:b=M bR:=by omega
   subst i0;clear i j d;go_wp2;go_ret;exact⟨rfl,D.out _ ⟨0,rfl⟩⟩
structure bt (nm:Nat->Prop) (ab:Nat->Nat) (L:aq) (bl:Nat->Nat) (aI:aq):Prop where
 dR:aI.os=L.os
 hq:aI.tape=L.tape
 ho:aI.output=L.output
 b5:L.heap.size<=aI.heap.size
 ci:∀X,X<L.heap.size->¬nm (ab X)->bl X=ab X/\aI.heap[X]?=L.heap[X]?
theorem bt.l(b:Nat->Prop)(ab:Nat->Nat)(L:aq):bt b ab L ab L:=⟨rfl,rfl,rfl,aN _,λ_ _ _=>⟨rfl,rfl⟩⟩
theorem bt.trans{d:Nat->Prop}{x X c:Nat->Nat}{f:aq}(h:bt d x L X w)(b:bt d X w c f):bt d x L c f:=
 ⟨b.dR.trans h.dR,b.hq.trans h.hq,b.ho.trans h.ho,bS h.b5 b.b5,λbb g i=>by
  obtain⟨k,m⟩:=h.ci bb g i
  obtain⟨o,p⟩:=b.ci bb (cI g h.b5) (by rw[k];exact i)
  exact⟨o.trans k,p.trans m⟩⟩
theorem bt.cE{d f:Nat->Prop}{x X:Nat->Nat}(h:bt d x L X w)(g:∀c,d c->f c):bt f x L X w:=⟨h.dR,h.hq,h.ho,h.b5,λbb i k=>h.ci bb i (λb=>k (g _ b))⟩
theorem bt.j{nm:Nat->Prop}(c:nm (ab X))(gE:an):bt nm ab L ab (ay L ⟨X,b,none⟩ gE):=⟨rfl,rfl,rfl,by simp[ay],λbb _ d=>⟨rfl,gw _ _ _ _ (λe=>d (e▸c))⟩⟩
theorem bt.a(b:Nat->Prop)(ab:Nat->Nat)(L:aq)(hE:Obj)(c:Nat):bt b ab L (aO ab (S (R L)) c) (ar L hE):=⟨rfl,rfl,rfl,av,λbb d _=>⟨cR _ _ _ _ T,fY _ _ _ d⟩⟩
theorem bt.g1{h:Nat->Prop}{g:Option Nat}{c:Nat}(i:h c)(d:b_ (ar L hE) D g)(k:∀X,g=some X->ab X=c)(m:g=some N\/S (R L)<=N):bt h ab L (aO ab N c) D:=by
 refine⟨d.os,d.tape,d.output,bS av d.size,λbb o f=>?_⟩;have p:bb≠N:=λe=>by
  subst e;rcases m with b|b
  ·rw[k bb b]at f;exact f i
  ·omega
 refine⟨cR _ _ _ _ p,?_⟩;rw[d.block bb b7 (λe=>?_),fY _ _ _ o];rw[k bb e.symm]at f;exact f i
theorem q1.bM{a:Nat->Prop}{d1 px:Nat->Prop}(h:q1 (λX=>d1 (ab X)) L gE H)(hF:bt a ab L l8 w)(d:∀c,d1 c->¬a c/\px c):q1 (λX=>px (l8 X)) w gE H:=
 by
 obtain⟨x,u,c,rfl,g,h⟩:=h;refine⟨x,u,c,rfl,g,λj=>?_⟩;obtain⟨N,rfl,e,f,k⟩:=h j;obtain⟨l,m⟩:=hF.ci N f (d _ e).1;exact⟨N,rfl,by show px (l8 N);rw[l];exact(d _ e).2,cI f hF.b5,λb o=>(dn m b).trans (k b o)⟩
theorem rb.bM{d:Nat->Prop}{d1 px:Nat->Prop}(h:rb (λX=>d1 (ab X)) L gE H)(hF:bt d ab L l8 w)(a:∀c,d1 c->¬d c/\px c):rb (λX=>px (l8 X)) w gE H:=by obtain⟨x,u,c,rfl,k,h⟩:=h;refine⟨x,u,c,rfl,k,λl=>?_⟩;obtain⟨N,rfl,e,f,m⟩:=h l;obtain⟨o,p⟩:=hF.ci N f (a _ e).1;refine⟨N,rfl,by show px (l8 N);rw[o];exact(a _ e).2,cI f hF.b5,λb q=>?_⟩;obtain⟨ah,r,s,g,j,t⟩:=m b q;obtain⟨fo,dt⟩:=hF.ci ah j (a _ g).1;exact⟨ah,r,(dn p b).trans s,by show px (l8 ah);rw[fo];exact(a _ g).2,cI j hF.b5,(dn dt 0).trans t⟩
structure gh (ab:Nat->Nat) (L:aq) (aE:Nat) (Im:Nat) (a6:an) (jL:List an):Prop where
 bg:L.ownsRow 0 Im 1 a6 jL.length jL
 cG:∀N,a6.ownBlock=some N->ab N=aE
theorem gh.bM{b:Nat->Prop}{c d:Nat}(h:gh ab L c d gE mY)(hF:bt b ab L l8 w)(e:¬b c):gh l8 w c d gE mY:=
 ⟨cw h.bg λN a=>(hF.ci N (h.bg.lt N a).2 (by rw[h.cG N a];exact e)).2,λN a=>by rw[(hF.ci N (h.bg.lt N a).2 (by rw[h.cG N a];exact e)).1];exact h.cG N a⟩
structure ft (ab:Nat->Nat) (L:aq) (f8:Nat) (jj:an) (n:Nat) (jo he fQ f1:an) (bH:List an) (rD:List Int) (ct:List an) (dR:List Int):Prop where
 ax:aL L f8 #[jj,O Q (n:Nat),jo,he,fQ,f1] 86
 il:ab f8=1
 li:gh ab L 2 48 jo bH
 lf:gh ab L 3 3 he (rD.map (O Q))
 kE:gh ab L 4 40 fQ ct
 lC:gh ab L 5 3 f1 (dR.map (O Q))
theorem ft.bM{d:Nat->Prop}(h:ft ab L z k1 u j4 gL kr jW bH hS ct k7)(hF:bt d ab L l8 w)(e:∀c,d c->6<=c\/c=0):ft l8 w z k1 u j4 gL kr jW bH hS ct k7:=by
 have a:∀c,1<=c->c<=5->¬d c:=λc i j b=>by rcases e c b with b|b<;>omega
 obtain⟨f,g⟩:=hF.ci z h.ax.am (by rw[h.il];exact a 1 ak ak);exact⟨h.ax.d g,f.trans h.il,h.li.bM hF (a 2 ak ak),h.lf.bM hF (a 3 ak ak),h.kE.bM hF (a 4 ak ak),h.lC.bM hF (a 5 ak ak)⟩
theorem ft.pX(h:ft ab L z k1 u j4 gL kr jW bH hS ct k7)(a:Nat):ft ab (ay L ⟨z,1,none⟩ (O Q (a:Nat))) z k1 a j4 gL kr jW bH hS ct k7:=by have hF:bt (λc=>c=1) ab L ab (ay L ⟨z,1,none⟩ (O Q (a:Nat))):=bt.j h.il _;exact⟨by simpa using h.ax.j 1 (O Q (a:Nat)),h.il,h.li.bM hF ak,h.lf.bM hF ak,h.kE.bM hF ak,h.lC.bM hF ak⟩
theorem ft.Bg(h:ft ab L z k1 u j4 gL kr jW bH hS ct k7)(bb:an)(g:gf=U (some ⟨N,0,none⟩) (M bH+1) lo)(i:b_ (ar L hE) D (ap j4))(j:aY D 0 48 1 gf (M bH+1) (bH++[bb]))(k:ap j4=some N\/S (R L)<=N):
 ft (aO ab N 2) (ay D ⟨z,2,none⟩ gf) z k1 u gf gL kr jW (bH++[bb]) hS ct k7/\bt (λc=>c=1\/c=2) ab L (aO ab N 2) (ay D ⟨z,2,none⟩ gf):=by
 have a:bt (λc=>c=2) ab L (aO ab N 2) D:=bt.g1 rfl i h.li.cG k;obtain⟨l,m⟩:=a.ci z h.ax.am (by rw[h.il];decide);have o:=h.ax.d m;have e:=l.trans h.il;have d:bt (λc=>c=1) (aO ab N 2) D (aO ab N 2) (ay D ⟨z,2,none⟩ gf):=bt.j e _;have p:gh (aO ab N 2) D 2 48 gf (bH++[bb]):=⟨by rw[bV];simpa using j,λX f=>by rw[g]at f;cases f;exact cy _ _ _⟩;refine⟨⟨by simpa using o.j 2 gf,e,p.bM d ak,(h.lf.bM a ak).bM d ak,(h.kE.bM a ak).bM d ak,(h.lC.bM a ak).bM d ak⟩,(a.cE (λ_ b=>.inr b)).trans (d.cE (λ_ b=>.inl b))⟩
theorem ft.vE(h:ft ab L z k1 u j4 gL kr jW bH hS ct k7)(bb:Int)(g:gf=U (some ⟨N,0,none⟩) (M hS+1) lo)(i:b_ (ar L hE) D (ap gL))(j:aY D 0 3 1 gf (M hS+1) ((hS.map (O Q))++[O Q bb]))(k:ap gL=some N\/S (R L)<=N):
 ft (aO ab N 3) (ay D ⟨z,3,none⟩ gf) z k1 u j4 gf kr jW bH (hS++[bb]) ct k7/\bt (λc=>c=1\/c=3) ab L (aO ab N 3) (ay D ⟨z,3,none⟩ gf):=by
 have a:bt (λc=>c=3) ab L (aO ab N 3) D:=bt.g1 rfl i h.lf.cG k;obtain⟨l,m⟩:=a.ci z h.ax.am (by rw[h.il];decide);have o:=h.ax.d m;have e:=l.trans h.il;have d:bt (λc=>c=1) (aO ab N 3) D (aO ab N 3) (ay D ⟨z,3,none⟩ gf):=bt.j e _;have p:gh (aO ab N 3) D 3 3 gf ((hS.map (O Q))++[O Q bb]):=⟨by rw[bV];simpa using j,λX f=>by rw[g]at f;cases f;exact cy _ _ _⟩;refine⟨⟨by simpa using o.j 3 gf,e,(h.li.bM a ak).bM d ak,by rw[dv];exact p.bM d ak,(h.kE.bM a ak).bM d ak,(h.lC.bM a ak).bM d ak⟩,(a.cE (λ_ b=>.inr b)).trans (d.cE (λ_ b=>.inl b))⟩
theorem ft.AV(h:ft ab L z k1 u j4 gL kr jW bH hS ct k7)(bb:an)(g:gf=U (some ⟨N,0,none⟩) (M ct+1) lo)(i:b_ (ar L hE) D (ap kr))(j:aY D 0 40 1 gf (M ct+1) (ct++[bb]))(k:ap kr=some N\/S (R L)<=N):
 ft (aO ab N 4) (ay D ⟨z,4,none⟩ gf) z k1 u j4 gL gf jW bH hS (ct++[bb]) k7/\bt (λc=>c=1\/c=4) ab L (aO ab N 4) (ay D ⟨z,4,none⟩ gf):=by
 have a:bt (λc=>c=4) ab L (aO ab N 4) D:=bt.g1 rfl i h.kE.cG k;obtain⟨l,m⟩:=a.ci z h.ax.am (by rw[h.il];decide);have o:=h.ax.d m;have e:=l.trans h.il;have d:bt (λc=>c=1) (aO ab N 4) D (aO ab N 4) (ay D ⟨z,4,none⟩ gf):=bt.j e _;have p:gh (aO ab N 4) D 4 40 gf (ct++[bb]):=⟨by rw[bV];simpa using j,λX f=>by rw[g]at f;cases f;exact cy _ _ _⟩;refine⟨⟨by simpa using o.j 4 gf,e,(h.li.bM a ak).bM d ak,(h.lf.bM a ak).bM d ak,p.bM d ak,(h.lC.bM a ak).bM d ak⟩,(a.cE (λ_ b=>.inr b)).trans (d.cE (λ_ b=>.inl b))⟩
theorem ft.BP(h:ft ab L z k1 u j4 gL kr jW bH hS ct k7)(bb:Int)(g:gf=U (some ⟨N,0,none⟩) (M k7+1) lo)(i:b_ (ar L hE) D (ap jW))(j:aY D 0 3 1 gf (M k7+1) ((k7.map (O Q))++[O Q bb]))(k:ap jW=some N\/S (R L)<=N):
 ft (aO ab N 5) (ay D ⟨z,5,none⟩ gf) z k1 u j4 gL kr gf bH hS ct (k7++[bb])/\bt (λc=>c=1\/c=5) ab L (aO ab N 5) (ay D ⟨z,5,none⟩ gf):=by
 have a:bt (λc=>c=5) ab L (aO ab N 5) D:=bt.g1 rfl i h.lC.cG k;obtain⟨l,m⟩:=a.ci z h.ax.am (by rw[h.il];decide);have o:=h.ax.d m;have e:=l.trans h.il;have d:bt (λc=>c=1) (aO ab N 5) D (aO ab N 5) (ay D ⟨z,5,none⟩ gf):=bt.j e _;have p:gh (aO ab N 5) D 5 3 gf ((k7.map (O Q))++[O Q bb]):=⟨by rw[bV];simpa using j,λX f=>by rw[g]at f;cases f;exact cy _ _ _⟩;refine⟨⟨by simpa using o.j 5 gf,e,(h.li.bM a ak).bM d ak,(h.lf.bM a ak).bM d ak,(h.kE.bM a ak).bM d ak,by rw[dv];exact p.bM d ak⟩,(a.cE (λ_ b=>.inr b)).trans (d.cE (λ_ b=>.inl b))⟩
def iB(g:Nat->Nat)(L:aq)(e:List an)(f:List Int):Prop:=M e=M f/\∀a,(h:a<M e)->(j:a<M f)->q1 (λi=>g i=6) L e[a] f[a]
def iq(g:Nat->Nat)(L:aq)(e:List an)(f:List Int):Prop:=M e=M f/\∀a,(h:a<M e)->(j:a<M f)->rb (λi=>g i=6) L e[a] f[a]
theorem iB.bM{a:Nat->Prop}(h:iB ab L bH hS)(hF:bt a ab L l8 w)(d:¬a 6):iB l8 w bH hS:=
 ⟨h.1,λb x X=>(h.2 b x X).bM (d1:=λc=>c=6) (px:=λc=>c=6) hF (λc e=>by subst e;exact⟨d,rfl⟩)⟩
theorem iq.bM{a:Nat->Prop}(h:iq ab L ct k7)(hF:bt a ab L l8 w)(d:¬a 6):iq l8 w ct k7:=
 ⟨h.1,λb x X=>(h.2 b x X).bM (d1:=λc=>c=6) (px:=λc=>c=6) hF (λc e=>by subst e;exact⟨d,rfl⟩)⟩
theorem iB.C(h:iB ab L bH hS)(b:iB ab L m5 ne):iB ab L (bH++m5) (hS++ne):=by
 refine⟨by rw[bV,bV,h.1,b.1],λal x X=>?_⟩;have c:=h.1;simp only[bV]at x X;by_cases a:al<M bH
 ·rw[iz a,iz T];exact h.2 al a T
 ·rw[iV T,iV T];have e:al-(M bH)=al-(M hS):=T;have:=b.2 (al-(M hS)) T T;simp only[e];exact this
theorem iq.C(h:iq ab L bH hS)(b:iq ab L m5 ne):iq ab L (bH++m5) (hS++ne):=by
 refine⟨by rw[bV,bV,h.1,b.1],λal x X=>?_⟩;have c:=h.1;simp only[bV]at x X;by_cases a:al<M bH
 ·rw[iz a,iz T];exact h.2 al a T
 ·rw[iV T,iV T];have e:al-(M bH)=al-(M hS):=T;have:=b.2 (al-(M hS)) T T;simp only[e];exact this
