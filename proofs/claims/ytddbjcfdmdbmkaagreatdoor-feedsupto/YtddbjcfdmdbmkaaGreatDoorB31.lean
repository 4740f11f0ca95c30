import Derived.Test.YtddbjcfdmdbmkaaGreatDoorB30
import Derived.Test.YtddbjcfdmdbmkaaGreatDoorB29
import Derived.Test.YtddbjcfdmdbmkaaGreatDoorB17
set_option linter.all false
set_option maxRecDepth 100000
set_option maxHeartbeats 6400000
namespace Go.Proofs.YtddbjcfdmdbmkaaGreatDoor
open Go.RowKit Go.Proofs.Tryz
open Go renaming Calls->aR,Value->an,World->aq,results->eS
open Go.Ending renaming returned->aM
open Go.IntKind renaming i64->Q
open Go.Obj renaming cells->aw
open Go.RowKit renaming Below->aF,Hid->ag,intOf->bm
open Go.Value renaming bool->cK,int->O,pointer->aD,slice->U,string->az,tuple->b2,ownBlock->ap
open _root_.Array renaming size->S
open Go.World renaming alloc->ar,cell?->aK,drewN->bY,grownBy->b_,heap->R,ownsRow->aY,setCell->ay
open _root_.Int renaming toNat->gB
open List renaming length->M
variable{gj:List cA}{D:List (Nat×List Nat)×List Nat×Int}{d u H gF x G ih a gE hZ bi iU:Nat}{c:cA}{L hS gC I iR:aq}{J j9 i2 iZ j4 i1 jt:an}{z i0 F hE:Nat->Nat}{A hV:List (Nat×List Nat)}{j gL:List ByteArray}{B:eU}{q b:au}{K gf E:List Nat}{jW:Obj}{r:Int×Nat}{k:List (List (Nat×List Nat))}{hu:List co}{aC:List eV}{gg:it}
def nL(g:Nat->Nat)(L:aq)(h:Nat)(i:eU)(l:au)(m:an)(o:List Nat)(p s:an)(f:List (Nat×List Nat)×List Nat)(wr:aq):Prop:=
 ∃e,ei g L h i l e wr/\cZ e wr m o/\eN 9 e wr p f.1 (S (R L))/\js e wr s f.2 (S (R L))
def P_(g:List Nat)(f:au):Prop:=∀(h:Nat->Nat) (L:aq) (i:Nat) (o:eU) (p:an),bQ h L i o f->cZ h L p g->aR prog 60 #[aD (some ⟨i,0,none⟩),p] L λe l=>∃s m,e=aM (b2 #[s,O Q (dI f.aj g).2])/\bQ m l i o f/\aU h L m l/\eN 7 m l s (dI f.aj g).1 (S (R L))
theorem Oc(a:gj[d]?=some c)(b:c.en=true):gK gj D d=(D.1,D.2.1++[d],if(M D.1)=0 then jl D.2.2 c.a1 else D.2.2):=by unfold gK;rw[a];simp[b]
theorem R0(a:gj[d]?=some c)(b:c.en=false):gK gj D d=((g0 d (gB c.bG) (D.1,D.2.1)).1,(g0 d (gB c.bG) (D.1,D.2.1)).2,D.2.2):=by unfold gK;rw[a];simp[b]
theorem Pk(d u:Nat)(D:List (Nat×List Nat)×List Nat):M (g0 d u D).1=M D.1+u/\M (g0 d u D).2<=M D.2:=by
 induction u with
 |zero=>exact⟨rfl,aN _⟩
 |succ u a=>exact⟨by simp only[g0,bV,dT,d5];omega,by simp[g0]⟩
theorem o4{e:TypeId}{d:Nat}{b:List an}(h:aY L 0 e d J u b):∃r H,J=U r u H/\(0<u->∃N,r=some ⟨N,0,none⟩/\N<S (R L)/\∀a c,b[a]?=some c->aK L ⟨N,a,none⟩=some c):=by
 have f:=λ(N:Nat) (e:ap J=some N)=>h.cells (g:=N) e
 have i:=λ(N:Nat) (e:ap J=some N)=>(h.lt N e).2
 rcases h.2 with⟨rfl,j⟩|⟨N,H,m,rfl,_⟩
 ·subst j;exact⟨none,0,rfl,λk=>absurd k ak⟩
 ·refine⟨_,_,rfl,λ_=>⟨N,rfl,i N rfl,λa c l=>?_⟩⟩;have:=f N rfl a c l;rw[ez,du]at this;exact this
theorem eN.cV(h:eN H z L J A gF):∃r a,J=U r (M A) a:=by obtain⟨c,d,b,_⟩:=h;obtain⟨r,H,e,_⟩:=o4 b;exact⟨r,H,e⟩
theorem js.cV{j:List Nat}(h:js z L J j gF):∃r a,J=U r (M j) a:=by obtain⟨r,H,e,_⟩:=o4 h.1;exact⟨r,H,e⟩
theorem nL.en(j:ei z L x B q i0 hS)(k:cZ i0 hS j9 K)(l:eN 9 i0 hS i2 hV (S (R L)))(w:aY hS 0 3 1 iZ (M gf) (gf.map λu:Nat=>O Q (u:Int)))(g:∀N,ap iZ=some N->i0 N=10/\S (R L)<=N)(m:aY gC 0 3 1 (U (some ⟨G,0,none⟩) (M gf+1) ih) (M gf+1) ((gf.map λu:Nat=>O Q (u:Int))++[O Q (d:Nat)]))(h:b_ (ar hS jW) gC (ap iZ))(o:ap iZ=some G\/G=S (R hS)+1):
 nL z L x B q j9 K i2 (U (some ⟨G,0,none⟩) (M gf+1) ih) (hV,gf++[d]) gC/\eT i0 hS (aO i0 G 10) gC:=by
 obtain⟨p,b⟩:=j.y (fv hS jW none);have i:ap iZ=some G\/G=S (R (ar hS jW)):=by rw[hQ];exact o
 obtain⟨r,c,s⟩:=p.mY 10 ak g h i;have t:∀a,ap iZ=some a->i0 a=10:=λa f=>(g a f).1
 have v:=l.y b (λa f=>⟨rfl,fY _ _ _ f⟩);refine⟨⟨_,r,(k.w b).w c,v.f3 c h t ak i,by simpa using m,λa e=>by cases e;exact⟨cy _ _ _,s⟩⟩,b.trans c⟩
theorem nL.hi(l:ei z L x B q i0 hS)(m:cZ i0 hS j9 K){b:List an}(o:M b=M hV)(I:aY hS 0 204 2 i2 (M hV) (bC l3 (hV.zip b)))(g:∀N,ap i2=some N->i0 N=9/\S (R L)<=N)(p:∀a,(h:a<M b)->(J:a<M hV)->cZ i0 hS b[a] hV[a].2)(r:js i0 hS iZ gf (S (R L)))(s:aY gC 0 204 2 (U (some ⟨G,0,none⟩) (M hV+1) ih) (M hV+1) (bC l3 (hV.zip b)++[O Q (d:Nat),iZ]))(t:b_ (ar hS jW) gC (ap i2))(u:ap i2=some G\/G=S (R hS)+1):
 ∃e,eT i0 hS e gC/\ei z L x B q e gC/\cZ e gC j9 K/\eN 9 e gC (U (some ⟨G,0,none⟩) (M hV+1) ih) (hV++[(d,gf)]) (S (R L))/\js e gC (U none 0 0) [] (S (R L)):=by
 obtain⟨hE,v,i,w,y⟩:=js.mO l r;obtain⟨A,f⟩:=v.y (fv hS jW none);have C:ap i2=some G\/G=S (R (ar hS jW)):=by rw[hQ];exact u
 obtain⟨D,E,F⟩:=eN.C A o (λN j=>⟨y N (g N j).1,(g N j).2⟩) (λa c H=>((p a c H).w i).w f) (w.w f) s t C;have k:=(i.trans f).trans E;exact⟨_,k,D,m.w k,F,js.cL _ _ _⟩
theorem KB(gj:List cA)(K:List Nat):∀N∈(K.foldl (gK gj) ([],[], -1)).2.1,N∈K:=by
 have e:∀(d u:Nat) (D:List (Nat×List Nat)×List Nat),∀N∈(g0 d u D).2,N∈D.2:=by
  intro d u D
  induction u with
  |zero=>exactλN h=>h
  |succ u a=>intro N h;simp[g0]at h
 have f:∀(K:List Nat) (D:List (Nat×List Nat)×List Nat×Int),∀N∈(K.foldl (gK gj) D).2.1,N∈D.2.1\/N∈K:=by
  intro K
  induction K with
  |nil=>intro D N h;exact .inl h
  |cons d K a=>
   intro D N h;rw[hc]at h;rcases a _ N h with h|h
   ·unfold gK at h;cases b:gj[d]? with
    |none=>rw[b]at h;exact .inl h
    |some c=>
     rw[b]at h;simp only at h;split at h
     ·rcases dm.1 h with h|h
      ·exact .inl h
      ·simp at h;subst h;exact .inr av
     ·exact .inl (e _ _ _ N h)
   ·exact .inr (by simp[h])
 intro N h;rcases f K _ N h with h|h
 ·simp at h
 ·exact h
theorem Jk(Ai:∀c∈q.aj,0<=c.bG/\c.bG<=4)(K:List Nat)(Ak:∀d∈K,∃c,q.aj[d]?=some c)(Pn:M K<=100000):P_ K q:=by
 intro z L x B j9 h y;obtain⟨r,P1,H,rfl,FM,Aq⟩:=y.o;subst FM;have F2:0<M K->∃N,r=some ⟨N,0,none⟩:=λF4=>by obtain⟨N,e,_⟩:=Aq F4;exact⟨N,e⟩
 have Az:nL z L x B q (U r (M K) H) K (U none 0 0) (U none 0 0) ([],[]) L:=⟨z,⟨h,aU.l _ _⟩,y,eN.cL _ _ _ _,js.cL _ _ _⟩;clear Aq h y;go_enter func60,ntmps60;go_wp2_with fail
 go_loopw [6,7,8,9] (λi2 iZ l8 s wr=>∃a:Nat,a<=M K/\s=O Q a/\l8=O Q ((K.take a).foldl (gK q.aj) ([],[], -1)).2.2/\nL z L x B q (U r (M K) H) K i2 iZ (((K.take a).foldl (gK q.aj) ([],[], -1)).1,((K.take a).foldl (gK q.aj) ([],[], -1)).2.1) wr) (λ_ _ _ s _=>M K-(gB (bm s)))
 case atStart=>exact⟨0,bL _,rfl,rfl,Az⟩
 case round=>
  obtain⟨a,Ga,rfl,rfl,F,i1,y,gE,C⟩:=hrel;clear Az;have E:=K2 q.aj Ai K a Ga;by_cases jt:a<M K
  ·obtain⟨me,rfl⟩:=F2 T;have AE:=y.pF a jt;obtain⟨c,A⟩:=Ak K[a] (b4 _);have J:ag ((K.take (a+1)).foldl (gK q.aj) ([],[], -1)=gK q.aj ((K.take a).foldl (gK q.aj) ([],[], -1)) K[a]):=pI _ _ _ _ jt;generalize(K.take a).foldl (gK q.aj) ([],[], -1)=D at*;obtain⟨hV,gf,i⟩:=D;simp only at E gE C;generalize K[a]=d at*;have Gl:d<M q.aj:=by obtain⟨qW,_⟩:=jX.1 A;exact qW
   obtain⟨N,AV,l8,mn,_,ne,AW,ra,rA,rR,sY,tB,tI⟩:=i1.aV.oa A;obtain⟨jW,Rp,wc,rfl,Gx,Hp⟩:=ne.o;subst Gx;have j4:=i1.aV.aa 9;simp[cp]at j4;rw[mn]at j4;have HY:(0:Int)<=(d:Int):=T;have H_:(d:Int)<(M q.aj:Int):=T;have J3:(0:Int)<=(a:Int):=T;have Ko:(a:Int)<(M K:Int):=T;have Bg:ag (q.aj[d]?=some c):=A;have Bo:=Ai c (m1 A);clear A mn Hp;go_upto_region 7 with fail;go_region_held3 (λI=>aK I ⟨x,9,none⟩=some (U (some ⟨N,0,none⟩) (M q.aj) AV)/\aK I ⟨me,a,none⟩=some (O Q d)/\aK I ⟨N,d*7,none⟩=some (O Q c.a1)/\aK I ⟨N,d*7+1,none⟩=some (cK c.en)/\aK I ⟨N,d*7+2,none⟩=some (az c.name)/\aK I ⟨N,d*7+3,none⟩=some (O Q c.ao)/\aK I ⟨N,d*7+4,none⟩=some (O Q c.bG)/\aK I ⟨N,d*7+5,none⟩=some (O Q c.bB)/\aK I ⟨N,d*7+6,none⟩=some (U jW (M c.br) wc)) (go_keep) (fail);have t8:b_ wr (ar wr (aw (h1 c (U jW (M c.br) wc)) 202)).drew none:=⟨rfl,rfl,rfl,av,λs iU _=>fY _ _ _ iU⟩;obtain⟨gF,ub⟩:=i1.bT t8 (aN _) 7;have ug:∀gL,gL<S (R wr)->aO F (S (R wr)) 7 gL=F gL/\(R (ar wr (aw (h1 c (U jW (M c.br) wc)) 202)).drew)[gL]?=(R wr)[gL]?:=λgL Kp=>⟨cR _ _ _ _ T,t8.block gL Kp av⟩
   have kp:aL (ar wr (aw (h1 c (U jW (M c.br) wc)) 202)).drew (S (R wr)) (h1 c (U jW (M c.br) wc)) 202:=(aL.bT wr _ _).e;have kr:=cy F (S (R wr)) 7;have P:=y.w ub;have gg:=gE.y ub ug;have mO:=C.y ug;have nB:=P.pF a jt;have mR:=y.pF a jt;rw[AE]at mR;rw[<-mR]at nB;clear i1 y gE C ne t8 ug ub AW ra rA rR sY tB tI j4;unfold h1 at gF kp P gg mO nB;generalize(ar wr (aw #[O Q c.a1,cK c.en,az c.name,O Q c.ao,O Q c.bG,O Q c.bB,U jW (M c.br) wc] 202)).drew=hS at*;generalize(S (R wr))=b at*;generalize aO F b 7=i0 at*;clear AE mR;have kx:=kp.aa 0;have nG:=kp.aa 1;have uY:=kp.aa 4;simp at kx nG uY;have k1:=kp.am;have Kz:b<S (R hS)+1:=T;obtain⟨RR,RU,rfl⟩:=gg.cV;obtain⟨KJ,K4,rfl⟩:=mO.cV;obtain⟨oa,ob,oH,oS,o6⟩:=dY Tryz.ys;cases k7:c.en with
   |true=>
    rw[k7]at nG;have f:ag ((K.take (a+1)).foldl (gK q.aj) ([],[], -1)=(hV,gf++[d],if(M hV)=0 then jl i c.a1 else i)):=J.out.trans (Oc Bg.out k7);clear J k7;obtain⟨gj,pa⟩:=mO;have K8:=E.2;by_cases g1:M hV=0
    ·have Lp:((M hV:Int)==0)=true:=by simp[g1]
     rw[aP g1]at f;by_cases hu:i<0
     ·have t:ag (jl i c.a1=c.a1):=by show _=_;unfold jl;rw[aP (.inl hu)]
      rw[t.out]at f;clear g1;go_wp2_with(first|(at_builtin;refine dq _ rfl _ _ 48 rfl 0 3 oa _ 1 8 underlying48 ob oH oS o6 rfl ak _ (M gf) (gf.map λu:Nat=>O Q (u:Int)) bf (gj.alloc _) ⟨S (R hS),0,none⟩ 1 1 [O Q d] bf rfl (c4 (cB _ _ _ av)) ey ak cN T (bL _) (S (R hS)+1) av ?_;intro G ih gC l m o py;obtain⟨w,k⟩:=nL.en gF P gg gj pa l m o;have vE:aK gC ⟨b,0,none⟩=some (O Q c.a1):=(dn (k.2 b k1 kr).2 _).trans kx;clear l m o k))
      refine⟨⟨a+1,T,bE,by rw[f.out],by rw[f.out];exact w⟩,by simp[bm];omega⟩
     ·have Ls:0<=i:=by omega
      by_cases mY:c.a1<i
      ·have t:ag (jl i c.a1=c.a1):=by show _=_;unfold jl;rw[aP (.inr mY)]
       rw[t.out]at f;clear g1 hu;go_wp2_with(first|(at_builtin;refine dq _ rfl _ _ 48 rfl 0 3 oa _ 1 8 underlying48 ob oH oS o6 rfl ak _ (M gf) (gf.map λu:Nat=>O Q (u:Int)) bf (gj.alloc _) ⟨S (R hS),0,none⟩ 1 1 [O Q d] bf rfl (c4 (cB _ _ _ av)) ey ak cN T (bL _) (S (R hS)+1) av ?_;intro G ih gC l m o py;obtain⟨w,k⟩:=nL.en gF P gg gj pa l m o;have vE:aK gC ⟨b,0,none⟩=some (O Q c.a1):=(dn (k.2 b k1 kr).2 _).trans kx;clear l m o k))
       refine⟨⟨a+1,T,bE,by rw[f.out],by rw[f.out];exact w⟩,by simp[bm];omega⟩
      ·have LB:i<=c.a1:=by omega
       have t:ag (jl i c.a1=i):=by show _=_;unfold jl;rw[aH T]
       rw[t.out]at f;clear g1 hu mY;go_wp2_with(first|(at_builtin;refine dq _ rfl _ _ 48 rfl 0 3 oa _ 1 8 underlying48 ob oH oS o6 rfl ak _ (M gf) (gf.map λu:Nat=>O Q (u:Int)) bf (gj.alloc _) ⟨S (R hS),0,none⟩ 1 1 [O Q d] bf rfl (c4 (cB _ _ _ av)) ey ak cN T (bL _) (S (R hS)+1) av ?_;intro G ih gC l m o py;obtain⟨w,k⟩:=nL.en gF P gg gj pa l m o;have vE:aK gC ⟨b,0,none⟩=some (O Q c.a1):=(dn (k.2 b k1 kr).2 _).trans kx;clear l m o k))
       refine⟨⟨a+1,T,bE,by rw[f.out],by rw[f.out];exact w⟩,by simp[bm];omega⟩
    ·have Lp:((M hV:Int)==0)=false:=by rw[di];omega
     rw[aH g1]at f;clear g1;go_wp2_with(first|(at_builtin;refine dq _ rfl _ _ 48 rfl 0 3 oa _ 1 8 underlying48 ob oH oS o6 rfl ak _ (M gf) (gf.map λu:Nat=>O Q (u:Int)) bf (gj.alloc _) ⟨S (R hS),0,none⟩ 1 1 [O Q d] bf rfl (c4 (cB _ _ _ av)) ey ak cN T (bL _) (S (R hS)+1) av ?_;intro G ih gC l m o py;obtain⟨w,k⟩:=nL.en gF P gg gj pa l m o;have vE:aK gC ⟨b,0,none⟩=some (O Q c.a1):=(dn (k.2 b k1 kr).2 _).trans kx;clear l m o k))
     refine⟨⟨a+1,T,bE,by rw[f.out],by rw[f.out];exact w⟩,by simp[bm];omega⟩
   |false=>
    rw[k7]at nG;have f:ag ((K.take (a+1)).foldl (gK q.aj) ([],[], -1)=((g0 d (gB c.bG) (hV,gf)).1,(g0 d (gB c.bG) (hV,gf)).2,i)):=J.out.trans (R0 Bg.out k7);clear J k7;obtain⟨LI,LL,LQ,LU,Mc⟩:=dY Tryz.Nt;have Sc:=Bo.1;have Sn:=Bo.2;go_wp2_with fail
    go_loopw [6,7,11] (λi2 iZ s hZ=>∃j:Nat,(j:Int)<=c.bG/\s=O Q j/\∃hE,ei z L x B q hE hZ/\cZ hE hZ (U (some ⟨me,0,none⟩) (M K) H) K/\eN 9 hE hZ i2 (g0 d j (hV,gf)).1 (S (R L))/\js hE hZ iZ (g0 d j (hV,gf)).2 (S (R L))/\hE b=7/\b<S (R hZ)/\aK hZ ⟨b,4,none⟩=some (O Q c.bG)/\aK hZ ⟨me,a,none⟩=some (O Q d)) (λ_ _ s _=>gB c.bG-(gB (bm s)))
    case atStart=>exact⟨0,T,rfl,i0,gF,P,gg,mO,kr,k1,uY,nB⟩
    case round=>
     obtain⟨j,Sy,rfl,hE,wz,pF,pR,lo,wB,pU,Mj,mR⟩:=hrel;clear gF P gg mO kr k1 Kz kx nG uY nB kp;have pX:=Pk d j (hV,gf);simp only at pX;by_cases SV:(j:Int)<c.bG
     ·have m5:ag (g0 d (j+1) (hV,gf)=((g0 d j (hV,gf)).1++[(d,(g0 d j (hV,gf)).2)],[])):=rfl;generalize g0 d j (hV,gf)=Bt at*;obtain⟨pZ,Mk⟩:=Bt;simp only at pX pR lo m5;obtain⟨My,MA,xf,MC,MD⟩:=pR;have SY:(u7:an).oneCell'=true:=by obtain⟨_,_,e⟩:=lo.cV;rw[e];rfl
      obtain⟨S1,Th,MT⟩:∃r H,u6=U r (M pZ) H:=by obtain⟨r,H,e,_⟩:=o4 xf;exact⟨r,H,e⟩
      obtain⟨M1,M9,Nt⟩:=lo.cV;subst MT;subst Nt;have Tj:b<S (R wr)+1:=T;have TH:gB c.bG<=4:=T;have TJ:M pZ<=400010:=T;clear E pX;go_wp2_with(first|(at_builtin;refine dq _ rfl _ _ 128 rfl 0 204 LI _ 2 32 underlying128 LL LQ LU Mc rfl ak _ (M pZ) (bC l3 (pZ.zip My)) bf (xf.alloc _) ⟨S (R wr),0,none⟩ 1 1 [O Q d,U M1 (M Mk) M9] bf rfl (c4 (cB _ _ _ av)) ey ak cN T (bL _) (S (R wr)+1) av ?_;intro G ih gC l m o py))
      obtain⟨BE,k,BH,xk,BN,BP⟩:=nL.hi wz pF MA xf MC MD lo l m o;have BV:b<S (R gC):=cI pU k.1;have Cs:aK gC ⟨b,4,none⟩=some (O Q c.bG):=(dn (k.2 b pU wB).2 _).trans Mj;have Cz:aK gC ⟨me,a,none⟩=some (O Q d):=by have r:=pF.pF a jt;have x:=xk.pF a jt;rw[mR]at r;rw[x,r]
      clear l m o
      first
      |(go_roundw
        case rel=>exact⟨j+1,T,bE,BE,BH,xk,by rw[m5.out];exact BN,by rw[m5.out];exact BP,(k.2 b pU wB).1,BV,Cs,Cz⟩
        case measure=>simp[bm];omega)
      |(refine⟨⟨j+1,T,bE,BE,BH,xk,by rw[m5.out];exact BN,by rw[m5.out];exact BP,(k.2 b pU wB).1,BV,Cs,Cz⟩,by simp[NF];omega⟩)
     ·have e:(j:Int)=c.bG:=by omega
      have CS:gB c.bG=j:=T;rw[CS]at f;have w:nL z L x B q (U (some ⟨me,0,none⟩) (M K) H) K u6 u7 (g0 d j (hV,gf)) wr:=⟨hE,wz,pF,pR,lo⟩;clear wz pF pR lo CS pX E;generalize g0 d j (hV,gf)=Bt at*;go_wp2_with fail
      first
      |(go_roundw
        case rel=>exact⟨a+1,T,bE,by rw[f.out],by rw[f.out];exact w⟩
        case measure=>simp[bm];omega)
      |(refine⟨⟨a+1,T,bE,by rw[f.out],by rw[f.out];exact w⟩,by simp[NF];omega⟩)
  ·have e:a=M K:=by omega
   subst e;rw[eQ]at gE C E⊢;have J:ag (dI q.aj K=((K.foldl (gK q.aj) ([],[], -1)).1,(K.foldl (gK q.aj) ([],[], -1)).2.1.foldl (nU q.aj) (K.foldl (gK q.aj) ([],[], -1)).2.2)):=rfl;have xr:=KB q.aj K;generalize K.foldl (gK q.aj) ([],[], -1)=D at*;obtain⟨hV,gf,i⟩:=D;simp only at gE C E J xr⊢;have K8:=E.2;obtain⟨NR,ys,rfl⟩:=C.cV;have OD:∀d∈gf,∃c,q.aj[d]?=some c:=λd qW=>Ak d (xr d qW)
   clear xr E;go_wp2_with fail
   go_loopw [8,12] (λl8 s yC=>∃g:Nat,g<=M gf/\s=O Q g/\l8=O Q ((gf.take g).foldl (nU q.aj) i)/\∃p,ei z L x B q p yC/\eN 9 p yC u6 hV (S (R L))/\js p yC (U NR (M gf) ys) gf (S (R L))) (λ_ s _=>M gf-(gB (bm s)))
   case atStart=>exact⟨0,bL _,rfl,rfl,F,i1,gE,C⟩
   case round=>
    obtain⟨g,TK,rfl,rfl,p,iR,qp,qt⟩:=hrel;clear i1 y gE C;by_cases DM:g<M gf
    ·obtain⟨KJ,K4,D7,D9⟩:=o4 qt.1;simp only[mi]at D7;obtain⟨rfl,_,rfl⟩:=D7;obtain⟨y2,rfl,TP,El⟩:=D9 T;have TQ:aK wr ⟨y2,g,none⟩=some (O Q (gf[g]:Nat)):=El g _ (by simp[DM]);obtain⟨c,A⟩:=OD gf[g] (b4 _);have y5:ag ((gf.take (g+1)).foldl (nU q.aj) i=jl ((gf.take g).foldl (nU q.aj) i) c.a1):=by show _=_;rw[pI _ _ _ _ DM];unfold nU;rw[A]
     generalize(gf.take g).foldl (nU q.aj) i=wc at*;generalize gf[g]=d at*;obtain⟨N,AV,l8,mn,Gl,ne,AW,ra,rA,rR,sY,tB,tI⟩:=iR.aV.oa A;have j4:=iR.aV.aa 9;simp[cp]at j4;rw[mn]at j4;have TR:=iR.aV.ax.am;have HY:(0:Int)<=(d:Int):=T;have H_:(d:Int)<(M q.aj:Int):=T;have J3:(0:Int)<=(g:Int):=T;have Ko:(g:Int)<(M gf:Int):=T;have ET:∀u,∃p,ei z L x B q p (bY wr u)/\eN 9 p (bY wr u) u6 hV (S (R L))/\js p (bY wr u) (U (some ⟨y2,0,none⟩) (M gf) ys) gf (S (R L)):=λu=>by obtain⟨OF,OG⟩:=iR.y (r4 wr u none);exact⟨p,OF,qp.y OG (λa _=>⟨rfl,rfl⟩),qt.y (λa _=>⟨rfl,rfl⟩)⟩
     have zc:ag (∀u,∃p,ei z L x B q p (bY wr u)/\eN 9 p (bY wr u) u6 hV (S (R L))/\js p (bY wr u) (U (some ⟨y2,0,none⟩) (M gf) ys) gf (S (R L))):=ET;clear ET iR qp qt D9 El A mn ne ra rA rR sY tB tI;by_cases hu:wc<0
     ·have t:ag (jl wc c.a1=c.a1):=by show _=_;unfold jl;rw[aP (.inl hu)]
      go_wp2;go_quiet(fail);go_wp2;go_roundw
      case rel=>exact⟨g+1,T,bE,by rw[y5.out,t.out],zc.out _⟩
      case measure=>simp[bm];omega
     ·have Ls:0<=wc:=by omega
      by_cases mY:c.a1<wc
      ·have t:ag (jl wc c.a1=c.a1):=by show _=_;unfold jl;rw[aP (.inr mY)]
       clear hu;go_wp2;go_quiet(fail);go_wp2;go_roundw
       case rel=>exact⟨g+1,T,bE,by rw[y5.out,t.out],zc.out _⟩
       case measure=>simp[bm];omega
      ·have LB:wc<=c.a1:=by omega
       have t:ag (jl wc c.a1=wc):=by show _=_;unfold jl;rw[aH T]
       clear hu mY;go_wp2;go_quiet(fail);go_wp2;go_roundw
       case rel=>exact⟨g+1,T,bE,by rw[y5.out,t.out],zc.out _⟩
       case measure=>simp[bm];omega
    ·have e:g=M gf:=by omega
     subst e;rw[eQ];obtain⟨qP,zS,OW,Fi⟩:=eN.mO iR qp;have z_:ag (bQ qP wr x B q/\aU z L qP wr/\eN 7 qP wr u6 hV (S (R L))):=⟨zS.aV,zS.bo,Fi⟩;clear iR qp qt zS OW Fi;go_wp2;refine dG (v:=b2 #[u6,O Q (gf.foldl (nU q.aj) i)]) (by simp[eS,results60,go_sem]) rfl ⟨u6,qP,?_,z_.out.1,z_.out.2.1,?_⟩
     ·rw[J.out]
     ·rw[J.out];exact z_.out.2.2
theorem eN.w(h:eN 7 z L J A gF)(b:eT z L F I):eN 7 F I J A gF:=by obtain⟨f,g,d,e,i⟩:=h;exact⟨f,g,cw d λN a=>(b.2 N (d.lt N a).2 (e N a).1).2,λN a=>⟨(b.2 N (d.lt N a).2 (e N a).1).1,(e N a).2⟩,λj c k=>(i j c k).w b⟩
def lO(g:Nat->Nat)(L:aq)(e:an)(f:List ByteArray)(h:Nat):Prop:=aY L 0 9 1 e (M f) (f.map az)/\∀N,ap e=some N->g N=11/\h<=N
theorem lO.cL(z:Nat->Nat)(L:aq)(gF:Nat):lO z L (U none 0 0) [] gF:=⟨eE _ _ _ _,λN a=>by simp[ap]at a⟩
theorem lO.Fi(h:lO z L J j gF):pP z L J j:=⟨h.1,λN a=>by rw[(h.2 N a).1];decide⟩
theorem lO.bo(h:lO z L J j gF)(b:aU z L F I):lO F I J j gF:=
 ⟨oP h.1 (λN a=>by rw[(h.2 N a).1];decide) b,λN a=>⟨(b.ci N (h.1.lt N a).2).trans (h.2 N a).1,(h.2 N a).2⟩⟩
theorem lO.y(h:lO z L J j gF)(c:∀a,a<S (R L)->F a=z a/\(R I)[a]?=(R L)[a]?):lO F I J j gF:=
 ⟨cw h.1 λN b=>(c N (h.1.lt N b).2).2,λN b=>⟨((c N (h.1.lt N b).2).1).trans (h.2 N b).1,(h.2 N b).2⟩⟩
theorem lO.cV(h:lO z L J j gF):∃r a,J=U r (M j) a:=by obtain⟨r,H,e,_⟩:=o4 h.1;exact⟨r,H,e⟩
def i_(f:Nat->Nat)(L:aq)(g:Nat)(h:eU)(i:au)(l:an)(m:List (Nat×List Nat))(o:Nat)(p:an)(s:List ByteArray)(e:Nat->Nat)(wr:aq):Prop:=
 ei f L g h i e wr/\eN 7 e wr l m o/\lO e wr p s (S (R L))
theorem i_.bo{wr:aq}(h:i_ z L x B q j4 A gF i1 gL F wr)(b:bQ hE iR x B q)(a:aU F wr hE iR):i_ z L x B q j4 A gF i1 gL hE iR:=
 ⟨⟨b,h.1.bo.trans a⟩,h.2.1.w a.w,h.2.2.bo a⟩
theorem i_.bT{wr:aq}(h:i_ z L x B q j4 A gF i1 gL F wr)(b:b_ wr iR none){N:Nat}(c:S (R wr)<=N)(H:Nat):i_ z L x B q j4 A gF i1 gL (aO F N H) iR/\eT F wr (aO F N H) iR:=by obtain⟨r,a⟩:=h.1.bT b c H;exact⟨⟨r,h.2.1.w a,h.2.2.y (λd e=>⟨cR _ _ _ _ T,b.block d e av⟩)⟩,a⟩
theorem i_.y{wr:aq}(h:i_ z L x B q j4 A gF i1 gL F wr)(b:b_ wr iR none):i_ z L x B q j4 A gF i1 gL F iR/\eT F wr F iR:=by obtain⟨r,a⟩:=h.1.y b;exact⟨⟨r,h.2.1.w a,h.2.2.y (λc d=>⟨rfl,b.block c d av⟩)⟩,a⟩
theorem i_.C{wr:aq}(h:i_ z L x B q j4 A gF i1 gL F wr){c:ByteArray}(f:aY gC 0 9 1 (U (some ⟨G,0,none⟩) (M gL+1) ih) (M gL+1) (gL.map az++[az c]))(g:b_ (ar wr jW) gC (ap i1))(i:ap i1=some G\/G=S (R wr)+1):
 i_ z L x B q j4 A gF (U (some ⟨G,0,none⟩) (M gL+1) ih) (gL++[c]) (aO F G 11) gC/\eT F wr (aO F G 11) gC:=by
 obtain⟨b,j⟩:=h.y (fv wr jW none);have k:ap i1=some G\/G=S (R (ar wr jW)):=by rw[hQ];exact i
 obtain⟨l,d,m⟩:=b.1.mY 11 ak b.2.2.2 g k;exact⟨⟨l,b.2.1.w d,by simpa using f,λa e=>by cases e;exact⟨cy _ _ _,m⟩⟩,j.trans d⟩
def Fy(g:List eV)(e:Int):Prop:=e= -1\/∃(f:Nat) (h:cH),e=f/\fl g f h
noncomputable def nr (g:List eV) (h:List cA) (e:List (Nat×List Nat)):Nat->Int×Nat
 |0=>(-1,0)
 |f+1=>(ow g h ((e.take f).map (·.1)) (e.getD f (0,[]))).foldl cx (nr g h e f)
theorem R9(aC:List eV)(gj:List cA)(A:List (Nat×List Nat)):nr aC gj A (M A)=io aC gj A:=by
 have d:∀(b a:List (Nat×List Nat)),nr aC gj (a++b) (M (a++b))=(nP aC gj (a.map (·.1)) b).foldl cx (nr aC gj (a++b) (M a)):=by
  intro b
  induction b with
  |nil=>intro a;rw[jN];rfl
  |cons e b f=>intro a;have c:=f (a++[e]);rw[ke,Tx]at c;rw[c];show _=(ow aC gj (a.map (·.1)) e++nP aC gj (a.map (·.1)++[e.1]) b).foldl cx _;rw[h_,dv];congr 1;rw[bV];show(ow aC gj (((a++e::b).take (M a)).map (·.1)) ((a++e::b).getD (M a) (0,[]))).foldl cx _=_;rw[Cr,fj,qs (aN _)];simp
 have:=d A [];simpa[io,nr]using this
theorem oU{J:Int}(b:0<=J)(h:r.1<0\/J<r.1):cx r (J,a)=(J,a):=by unfold cx;rw[aP ⟨b,h⟩]
theorem oc{J:Int}(h:¬(0<=J/\(r.1<0\/J<r.1))):cx r (J,a)=r:=by unfold cx;rw[aH h]
theorem Fu{bD:Type}(ah:bD->Int×Nat)(j:List bD)(r:Int×Nat)(a:Nat)(h:a<M j):((j.take (a+1)).map ah).foldl cx r=cx (((j.take a).map ah).foldl cx r) (ah j[a]):=by rw[ev h,dv,h_];rfl
theorem Ce{H:Int}(c:Fy q.aC H)(d:M q.aC<=100000)(f:M gL<=100000)(z:Nat->Nat)(L:aq)(x:Nat)(B:eU)(i1:an)(h:bQ z L x B q)(g:pP z L i1 gL):
 aR prog 98 #[aD (some ⟨x,0,none⟩),O Q H,i1] L λe I=>e=aM (O Q (lm q.aC H gL))/\pQ z L x B q I:=by
 rcases c with rfl|⟨a,j,rfl,b⟩
 ·refine(NP L x (-1) T i1).mono ?_;rintro e I ⟨rfl,rfl⟩;exact⟨by unfold lm;rw[aP T],z,h,aU.l _ _⟩
 ·refine(IT d f b z L x B i1 h g).mono ?_;rintro e I ⟨rfl,i⟩;exact⟨by unfold lm;rw[aH T,Hm b],i⟩
theorem eN.o (h:eN 7 z L J A gF)(f:0<M A):∃N H,J=U (some ⟨N,0,none⟩) (M A) H/\N<S (R L)/\∀a,(iU:a<M A)->∃iZ,aK L ⟨N,a*2,none⟩=some (O Q (A[a].1:Nat))/\aK L ⟨N,a*2+1,none⟩=some iZ/\cZ z L iZ A[a].2:=by
 obtain⟨b,l,g,m,i⟩:=h;obtain⟨r,H,e,j⟩:=o4 g;obtain⟨N,rfl,k,d⟩:=j f;refine⟨N,H,e,k,λa iU=>⟨b[a]'T,?_,?_,i a T iU⟩⟩
 ·have c:a<M (A.zip b):=by simp;omega
  exact d (a*2) _ ((i5 l3 2 (λ_=>rfl) (A.zip b) a 0 c ak).trans (by simp[l3]))
 ·have c:a<M (A.zip b):=by simp;omega
  exact d (a*2+1) _ ((i5 l3 2 (λ_=>rfl) (A.zip b) a 1 c ak).trans (by simp[l3]))
def Ml(g:List (Nat×List Nat))(f:au):Prop:=∀(h:Nat->Nat) (L:aq) (i:Nat) (l:eU) (m:an) (o:Nat),bQ h L i l f->eN 7 h L m g o->aR prog 61 #[aD (some ⟨i,0,none⟩),m] L λe p=>e=aM (b2 #[O Q (io f.aC f.aj g).1,O Q (io f.aC f.aj g).2])/\pQ h L i l f p
theorem Tryz.RR:(prog.info? 9).map (λa=>(a.zero,a.size,a.bytes))=some (some (az ⟨#[]⟩),1,16):=by kernel_rfl
def rY(f:au)(g:Nat):Prop:=∃e,f.aj[g]?=some e/\Fy f.aC e.bB/\0<=e.a1
theorem Pl(ra:M q.aC<=100000)(A:List (Nat×List Nat))(TX:M A<=100000)(F2:∀e∈A,rY q e.1/\M e.2<=100000/\∀N∈e.2,rY q N):Ml A q:=by
 intro z L x B j4 gF h nG;obtain⟨rA,gj,rfl⟩:=nG.cV;have rR:i_ z L x B q (U rA (M A) gj) A gF (U none 0 0) (ll q.aj ((A.take 0).map (·.1))) z L:=⟨⟨h,aU.l _ _⟩,nG,lO.cL _ _ _⟩;clear h nG;go_enter func61,ntmps61;go_wp2_with fail
 go_loopw [6,7,8,9] (λi1 C D i wr=>∃a:Nat,a<=M A/\i=O Q a/\C=O Q (nr q.aC q.aj A a).1/\D=O Q (nr q.aC q.aj A a).2/\∃F,i_ z L x B q (U rA (M A) gj) A gF i1 (ll q.aj ((A.take a).map (·.1))) F wr) (λ_ _ _ i _=>M A-(gB (bm i)))
 case atStart=>exact⟨0,bL _,rfl,rfl,rfl,z,rR⟩
 case round=>
  obtain⟨a,TY,rfl,rfl,rfl,F,hu⟩:=hrel;clear rR;by_cases me:a<M A
  ·obtain⟨E,TZ,sY,T0,tB⟩:=hu.2.1.o T;simp only[mi]at sY;obtain⟨rfl,_,rfl⟩:=sY;obtain⟨iZ,tI,F4,oa⟩:=tB a me;obtain⟨⟨c,kp,Ga,t8⟩,Gl,ub⟩:=F2 A[a] (b4 _);have ug:ag (nr q.aC q.aj A (a+1)=(ow q.aC q.aj ((A.take a).map (·.1)) A[a]).foldl cx (nr q.aC q.aj A a)):=by show(ow q.aC q.aj ((A.take a).map (·.1)) (A.getD a (0,[]))).foldl cx (nr q.aC q.aj A a)=_;rw[fj,dz me];rfl
   have Gx:ag (ll q.aj ((A.take (a+1)).map (·.1))=ll q.aj ((A.take a).map (·.1))++[c.name]):=by show _=_;unfold ll;rw[ev me,dv,dv];simp[o1 kp]
   have ob:ag (M ((A.take a).map (·.1))=a):=by show _=_;simp;omega
   have Hp:ag (∀i,(iU:i<a)->((A.take a).map (·.1))[i]?=some (A[i]'T).1):=λi iU=>by rw[gq,AA iU,dz T];rfl
   have uY:ag (ll q.aj ((A.take a).map (·.1)++[A[a].1])=ll q.aj ((A.take a).map (·.1))++[c.name]):=by show _=_;unfold ll;rw[dv];simp[o1 kp]
   have oH:ag (∀(hE:Nat->Nat) (hV:aq),eN 7 hE hV (U (some ⟨E,0,none⟩) (M A) gj) A gF->∀i,(iU:i<M A)->∃iZ,aK hV ⟨E,i*2,none⟩=some (O Q (A[i].1:Nat))/\aK hV ⟨E,i*2+1,none⟩=some iZ/\cZ hE hV iZ A[i].2):=λhE hV HY i iU=>by obtain⟨T1,T2,vE,_,H_⟩:=HY.o T;simp only[mi,j0,xU]at vE;obtain⟨⟨rfl,_⟩,_⟩:=vE;exact H_ i iU
   have T3:a<=100000:=T;generalize wz:A[a]=e at*;obtain⟨d,m⟩:=e;simp only at tI oa kp Gl ub uY;generalize(A.take a).map (·.1)=g at*;generalize oS:ll q.aj g=gL at*;have m5:ag (M gL=a):=by show _=_;rw[<-oS];unfold ll;rw[c_,ob.out]
   have J3:M gL<=100000:=by rw[m5.out];omega
   have Ko:M gL+1<=100000:=by rw[m5.out];omega
   generalize nr q.aC q.aj A a=Kp at*;obtain⟨C,D⟩:=Kp;obtain⟨N,Kz,T4,wB,T5,xf,KJ,K4,K8,Lp,Ls,LB,LI⟩:=hu.1.aV.oa kp;obtain⟨K,T6,P,rfl,LL,LQ⟩:=xf.o;subst LL;have jW:=hu.1.aV.aa 9;simp[cp]at jW;rw[wB]at jW;have T7:(0:Int)<=(d:Int):=T;have T8:(d:Int)<(M q.aj:Int):=T;have T9:(0:Int)<=(a:Int):=T;have T_:(a:Int)<(M A:Int):=T;have xk:ag (q.aj[d]?=some c):=kp;clear kp wB LQ tB;go_upto_region 7 with fail;go_region_held3 (λI=>aK I ⟨x,9,none⟩=some (U (some ⟨N,0,none⟩) (M q.aj) Kz)/\aK I ⟨E,a*2,none⟩=some (O Q d)/\aK I ⟨N,d*7,none⟩=some (O Q c.a1)/\aK I ⟨N,d*7+1,none⟩=some (cK c.en)/\aK I ⟨N,d*7+2,none⟩=some (az c.name)/\aK I ⟨N,d*7+3,none⟩=some (O Q c.ao)/\aK I ⟨N,d*7+4,none⟩=some (O Q c.bG)/\aK I ⟨N,d*7+5,none⟩=some (O Q c.bB)/\aK I ⟨N,d*7+6,none⟩=some (U K (M c.br) P)) (go_keep) (fail);have xr:b_ wr (ar wr (aw (h1 c (U K (M c.br) P)) 202)).drew none:=⟨rfl,rfl,rfl,av,λi iU _=>fY _ _ _ iU⟩;obtain⟨o6,ys⟩:=hu.bT xr (aN _) 7;have pa:aL (ar wr (aw (h1 c (U K (M c.br) P)) 202)).drew (S (R wr)) (h1 c (U K (M c.br) P)) 202:=(aL.bT wr _ _).e;have yC:=cy F (S (R wr)) 7;have y2:=oa.w ys;clear hu oa xf xr ys KJ K4 K8 Lp Ls LB LI jW tI F4;unfold h1 at o6 pa y2;generalize(ar wr (aw #[O Q c.a1,cK c.en,az c.name,O Q c.ao,O Q c.bG,O Q c.bB,U K (M c.br) P] 202)).drew=hS at*;generalize(S (R wr))=o at*;generalize aO F o 7=i0 at*;have Ua:True:=trivial;go_wp2_with fail
   go_loopw [7,8,11] (λLU Mc i y5=>∃k:Nat,k<=M m/\i=O Q k/\LU=O Q (((m.take k).map (jG q.aC q.aj g)).foldl cx (C,D)).1/\Mc=O Q (((m.take k).map (jG q.aC q.aj g)).foldl cx (C,D)).2/\∃hE,i_ z L x B q (U (some ⟨E,0,none⟩) (M A) gj) A gF u6 gL hE y5/\hE o=7/\aL y5 o #[O Q c.a1,cK c.en,az c.name,O Q c.ao,O Q c.bG,O Q c.bB,U K (M c.br) P] 202) (λ_ _ i _=>M m-(gB (bm i)))
   case atStart=>exact⟨0,bL _,rfl,rfl,rfl,i0,o6,yC,pa⟩
   case round=>
    obtain⟨k,Ub,rfl,rfl,rfl,hE,hZ,mn,mO⟩:=hrel;clear o6 y2 pa yC;obtain⟨Uc,py,Mj,mR⟩:=oH.out hE wr hZ.2.1 a me;rw[wz]at py mR;simp only at py mR;obtain⟨Ud,Ue,Uf,rfl,Mk,pF⟩:=mR.o;subst Mk;by_cases zc:k<M m
    ·obtain⟨Ug,rfl,zS⟩:=pF T;have My:=zS k zc;obtain⟨z_,pR,MA,Uh⟩:=ub m[k] (b4 _);have l:ag (((m.take (k+1)).map (jG q.aC q.aj g)).foldl cx (C,D)=cx (((m.take k).map (jG q.aC q.aj g)).foldl cx (C,D)) (lm q.aC z_.bB gL,5)):=by show _=_;rw[Fu _ _ _ _ zc];unfold jG;rw[o1 pR,oS]
     generalize((m.take k).map (jG q.aC q.aj g)).foldl cx (C,D)=MC at*;obtain⟨gf,kr⟩:=MC;generalize m[k]=Ai at*;obtain⟨G,ih,Ui,Ak,Uj,MD,MT,M1,M9,kx,Nt,NF,NR⟩:=hZ.1.aV.oa pR;have jW:=hZ.1.aV.aa 9;simp[cp]at jW;rw[Ak]at jW;have Uk:(0:Int)<=(Ai:Int):=T;have Ul:(Ai:Int)<(M q.aj:Int):=T;have Um:(0:Int)<=(k:Int):=T;have Un:(k:Int)<(M m:Int):=T;clear MD MT M1 M9 kx Nt NR zS pF pR Ak;generalize OD:lm q.aC z_.bB gL=j at*;go_upto_region 11 with fail
     go_cut [12]from 32 to 71 (λJ hV=>J=O Q j/\∃w,i_ z L x B q (U (some ⟨E,0,none⟩) (M A) gj) A gF u6 gL w hV/\w o=7/\aL hV o #[O Q c.a1,cK c.en,az c.name,O Q c.ao,O Q c.bG,O Q c.bB,U K (M c.br) P] 202)
     case first=>
      have s:=λu=>(hZ.y (r4 wr u none)).1
      go_region_with (first|(go_at_call 98;refine(Ce MA ra J3 hE (bY wr _) x B u6 (s _).1.aV (s _).2.2.Fi).mono ?_;rintro e Uo ⟨rfl,w,OF,pU⟩;rw[OD]))
      all_goals
       go_wp2_with fail
       go_meet
       exact⟨rfl,w,(s _).bo OF pU,(pU.ci o mO.am).trans mn,pU.ax mn mO⟩
     case rest=>
      obtain⟨rfl,w,s,k1,t⟩:=hcut;clear hZ mn mO mR My jW NF py Mj;have p:ag (∃hE,i_ z L x B q (U (some ⟨E,0,none⟩) (M A) gj) A gF u6 gL hE wc/\hE o=7/\aL wc o #[O Q c.a1,cK c.en,az c.name,O Q c.ao,O Q c.bG,O Q c.bB,U K (M c.br) P] 202):=⟨w,s,k1,t⟩;clear s k1 t;by_cases j9:0<=j
      ·by_cases y:gf<0
       ·have b:ag (cx (gf,kr) (j,5)=(j,5)):=oU j9 (.inl y);go_wp2_with fail;go_roundw
        case rel=>exact⟨k+1,T,bE,by rw[l.out,b.out],by rw[l.out,b.out];rfl,p.out⟩
        case measure=>simp[bm];omega
       ·have Aq:0<=gf:=by omega
        by_cases iR:j<gf
        ·have b:ag (cx (gf,kr) (j,5)=(j,5)):=oU j9 (.inr iR);clear y;go_wp2_with fail;go_roundw
         case rel=>exact⟨k+1,T,bE,by rw[l.out,b.out],by rw[l.out,b.out];rfl,p.out⟩
         case measure=>simp[bm];omega
        ·have b:ag (cx (gf,kr) (j,5)=(gf,kr)):=oc (by simp only;omega);have Az:gf<=j:=T;clear y iR;go_wp2_with fail;go_roundw
         case rel=>exact⟨k+1,T,bE,by rw[l.out,b.out],by rw[l.out,b.out],p.out⟩
         case measure=>simp[bm];omega
      ·have b:ag (cx (gf,kr) (j,5)=(gf,kr)):=oc (by simp only;omega);have OG:j<0:=T;clear j9;go_wp2_with fail;go_roundw
       case rel=>exact⟨k+1,T,bE,by rw[l.out,b.out],by rw[l.out,b.out],p.out⟩
       case measure=>simp[bm];omega
    ·have e:k=M m:=by omega
     subst e;have AE:ag (((m.take (M m)).map (jG q.aC q.aj g)).foldl cx (C,D)=(m.map (jG q.aC q.aj g)).foldl cx (C,D)):=by show _=_;rw[eQ]
     rw[AE.out];obtain⟨OW,AV⟩:∃pX,ag ((m.map (jG q.aC q.aj g)).foldl cx (C,D)=pX):=⟨_,rfl⟩;rw[AV.out];clear AE pF;obtain⟨gE,g1⟩:=OW;obtain⟨AW,pZ,Pn⟩:=hZ.2.2.cV;subst Pn;clear mR;go_wp2_with fail
     go_loopw [7,8,13] (λP1 Rp i Bg=>∃f:Nat,f<=M gL/\i=O Q f/\P1=O Q (((g.take f).map (jM q.aj d)).foldl cx (gE,g1)).1/\Rp=O Q (((g.take f).map (jM q.aj d)).foldl cx (gE,g1)).2/\∃hE,i_ z L x B q (U (some ⟨E,0,none⟩) (M A) gj) A gF (U AW (M gL) pZ) gL hE Bg/\hE o=7/\aL Bg o #[O Q c.a1,cK c.en,az c.name,O Q c.ao,O Q c.bG,O Q c.bB,U K (M c.br) P] 202) (λ_ _ i _=>M gL-(gB (bm i)))
     case atStart=>exact⟨0,bL _,rfl,rfl,rfl,hE,hZ,mn,mO⟩
     case round=>
      obtain⟨f,Up,rfl,rfl,rfl,w,s,k1,t⟩:=hrel;clear hZ mn mO;by_cases RR:f<M gL
      ·have Bo:f<a:=by rw[<-m5.out];exact RR
       obtain⟨gk,Uq,Bt,Ur,BE⟩:∃gk H,(U AW (M gL) pZ)=U (some ⟨gk,0,none⟩) (M gL) H/\gk<S (R wr)/\∀i BH,(gL.map az)[i]?=some BH->aK wr ⟨gk,i,none⟩=some BH:=by obtain⟨r,H,e,RU⟩:=o4 s.2.2.1;obtain⟨N,rfl,Sc,Sn⟩:=RU T;exact⟨N,H,e,Sc,Sn⟩
       simp only[mi]at Bt;obtain⟨rfl,_,rfl⟩:=Bt;obtain⟨Us,BN,Ut,_⟩:=oH.out w wr s.2.1 a me;obtain⟨Uu,Sy,Uv,_⟩:=oH.out w wr s.2.1 f T;rw[wz]at BN;simp only at BN;have qp:=Hp.out f Bo;have ne:f<M g:=by rw[ob.out];exact Bo
       have BP:g[f]=(A[f]'T).1:=by rw[dz ne]at qp;simpa using qp
       rw[<-BP]at Sy;have BV:(gL.map az)[f]?=some (az (o7 q.aj g[f]).name):=by rw[<-oS];unfold ll;rw[gq,gq,dz ne];rfl
       have Uw:=BE f _ BV;have l:ag (((g.take (f+1)).map (jM q.aj d)).foldl cx (gE,g1)=cx (((g.take f).map (jM q.aj d)).foldl cx (gE,g1)) (jM q.aj d g[f])):=Fu _ _ _ _ ne;have k7:ag (jM q.aj d g[f]=(if((o7 q.aj g[f]).name.toList==c.name.toList&&!(g[f]==d))=true then c.a1 else -1,4)):=by show _=_;unfold jM;rw[o1 xk.out]
       generalize(o7 q.aj g[f]).name=SV at*;generalize((g.take f).map (jM q.aj d)).foldl cx (gE,g1)=SY at*;obtain⟨v,i2⟩:=SY;generalize jM q.aj d g[f]=lo at*;generalize g[f]=kx at*;have S1:=t.aa 0;have qt:=t.aa 2;simp at S1 qt;have Th:=t.am;have p:ag (∀u,∃hE,i_ z L x B q (U (some ⟨E,0,none⟩) (M A) gj) A gF (U (some ⟨gk,0,none⟩) (M gL) pZ) gL hE (bY wr u)/\hE o=7/\aL (bY wr u) o #[O Q c.a1,cK c.en,az c.name,O Q c.ao,O Q c.bG,O Q c.bB,U K (M c.br) P] 202):=λu=>⟨w,(s.y (r4 wr u none)).1,k1,t⟩
       have Ux:(0:Int)<=(f:Int):=T;have Uy:(f:Int)<(M gL:Int):=T;have Uz:(f:Int)<(M A:Int):=T;clear s k1 t BE qp BP BV ne;cases qP:(SV.toList==c.name.toList)with
       |false=>
        have b:ag (cx (v,i2) lo=(v,i2)):=by show _=_;rw[k7.out,qP];exact oc av
        clear k7;go_wp2;go_quiet(fail);go_wp2;go_roundw
        case rel=>exact⟨f+1,T,bE,by rw[l.out,b.out],by rw[l.out,b.out],p.out _⟩
        case measure=>simp[bm];omega
       |true=>
        by_cases mY:kx=d
        ·have Tj:((kx:Int)!=(d:Int))=false:=by simp[mY]
         have b:ag (cx (v,i2) lo=(v,i2)):=by show _=_;rw[k7.out,qP,mY];exact oc av
         clear k7 mY;go_wp2;go_quiet(fail);go_wp2;go_roundw
         case rel=>exact⟨f+1,T,bE,by rw[l.out,b.out],by rw[l.out,b.out],p.out _⟩
         case measure=>simp[bm];omega
        ·have Tj:((kx:Int)!=(d:Int))=true:=by simp;omega
         have qW:ag (lo=(c.a1,4)):=by
          show _=_;rw[k7.out,qP];have:(kx==d)=false:=by rw[di];exact mY
          rw[this];rfl
         clear k7 mY;by_cases y:v<0
         ·have b:ag (cx (v,i2) lo=(c.a1,4)):=by show _=_;rw[qW.out];exact oU t8 (.inl y)
          go_wp2;go_quiet(fail);go_wp2;go_roundw
          case rel=>exact⟨f+1,T,bE,by rw[l.out,b.out],by rw[l.out,b.out];rfl,p.out _⟩
          case measure=>simp[bm];omega
         ·have Aq:0<=v:=by omega
          by_cases iR:c.a1<v
          ·have b:ag (cx (v,i2) lo=(c.a1,4)):=by show _=_;rw[qW.out];exact oU t8 (.inr iR)
           clear y;go_wp2;go_quiet(fail);go_wp2;go_roundw
           case rel=>exact⟨f+1,T,bE,by rw[l.out,b.out],by rw[l.out,b.out];rfl,p.out _⟩
           case measure=>simp[bm];omega
          ·have b:ag (cx (v,i2) lo=(v,i2)):=by show _=_;rw[qW.out];exact oc (by simp only;omega)
           have Az:v<=c.a1:=T;clear y iR;go_wp2;go_quiet(fail);go_wp2;go_roundw
           case rel=>exact⟨f+1,T,bE,by rw[l.out,b.out],by rw[l.out,b.out],p.out _⟩
           case measure=>simp[bm];omega
      ·have TH:f=M gL:=by omega
       subst TH;have Cs:ag (((g.take (M gL)).map (jM q.aj d)).foldl cx (gE,g1)=(g.map (jM q.aj d)).foldl cx (gE,g1)):=by show _=_;rw[m5.out,<-ob.out,eQ]
       rw[Cs.out];obtain⟨j,Cz⟩:∃pX,ag (lm q.aC c.bB (gL++[c.name])=pX):=⟨_,rfl⟩;have jt:ag (nr q.aC q.aj A (a+1)=cx ((g.map (jM q.aj d)).foldl cx (gE,g1)) (j,5)):=by show _=_;rw[ug.out];unfold ow;rw[h_,h_,AV.out];show cx _ (jG q.aC q.aj (g++[d]) d)=_;unfold jG;rw[o1 xk.out,uY.out,Cz.out]
       generalize(g.map (jM q.aj d)).foldl cx (gE,g1)=TJ at*;obtain⟨gg,l8⟩:=TJ;clear Cs ug;have qt:=t.aa 2;have CS:=t.aa 5;simp at qt CS;have Th:=t.am;have UA:o<S (R wr)+1:=T;obtain⟨TK,TP,TQ,TR,TS⟩:=dY Tryz.RR;have TT:=s.2.2.1;go_upto_region 23 with(first|(go_at_call 98;refine(Ce Ga ra (by rw[bV];exact Ko) (aO w G 11) gC x B (U (some ⟨G,0,none⟩) (M gL+1) ih) nB.1.aV nB.2.2.Fi).mono ?_;rintro e TU ⟨rfl,TV,DM,D7⟩;rw[Cz.out];have p:ag (∃F,i_ z L x B q (U (some ⟨E,0,none⟩) (M A) gj) A gF (U (some ⟨G,0,none⟩) (M gL+1) ih) (ll q.aj ((A.take (a+1)).map (·.1))) F TU):=(by rw[Gx.out];exact⟨TV,nB.bo DM D7⟩);clear DM D7 nB D9)|(at_builtin;refine dq _ rfl _ _ 91 rfl 0 9 TK _ 1 16 underlying91 TP TQ TR TS rfl ak _ (M gL) (gL.map az) bf (TT.alloc _) ⟨S (R wr),0,none⟩ 1 1 [az c.name] bf rfl (c4 (cB _ _ _ av)) ey ak cN T (bL _) (S (R wr)+1) av ?_;intro G ih gC El ET Fi UB;obtain⟨nB,D9⟩:=s.C El ET Fi;have UC:aK gC ⟨o,5,none⟩=some (O Q c.bB):=(dn (D9.2 o t.am k1).2 _).trans CS;clear El ET Fi))
       by_cases j9:0<=j
       ·by_cases y:gg<0
        ·have b:ag (cx (gg,l8) (j,5)=(j,5)):=oU j9 (.inl y);go_wp2_with fail;go_roundw
         case rel=>exact⟨a+1,T,bE,by rw[jt.out,b.out],by rw[jt.out,b.out];rfl,p.out⟩
         case measure=>simp[bm];omega
        ·have Aq:0<=gg:=by omega
         by_cases iR:j<gg
         ·have b:ag (cx (gg,l8) (j,5)=(j,5)):=oU j9 (.inr iR);clear y;go_wp2_with fail;go_roundw
          case rel=>exact⟨a+1,T,bE,by rw[jt.out,b.out],by rw[jt.out,b.out];rfl,p.out⟩
          case measure=>simp[bm];omega
         ·have b:ag (cx (gg,l8) (j,5)=(gg,l8)):=oc (by simp only;omega);have Az:gg<=j:=T;clear y iR;go_wp2_with fail;go_roundw
          case rel=>exact⟨a+1,T,bE,by rw[jt.out,b.out],by rw[jt.out,b.out],p.out⟩
          case measure=>simp[bm];omega
       ·have b:ag (cx (gg,l8) (j,5)=(gg,l8)):=oc (by simp only;omega);have OG:j<0:=T;clear j9;go_wp2_with fail;go_roundw
        case rel=>exact⟨a+1,T,bE,by rw[jt.out,b.out],by rw[jt.out,b.out],p.out⟩
        case measure=>simp[bm];omega
  ·have e:a=M A:=by omega
   subst e;have FM:=R9 q.aC q.aj A;have TW:ag (pQ z L x B q wr):=⟨F,hu.1.aV,hu.1.bo⟩;rw[FM];clear hu FM;go_wp2_with fail
   go_ret2
   exact⟨rfl,TW.out⟩
def k8(i:Nat->Nat)(L:aq)(l:an)(e:List (List (Nat×List Nat)))(m:Nat):Prop:=
 ∃f:List an,M f=M e/\aY L 0 128 1 l (M e) f/\(∀N,ap l=some N->i N=9/\m<=N)/\∀g,(h:g<M f)->(o:g<M e)->eN 7 i L f[g] e[g] 0
theorem k8.cL(z:Nat->Nat)(L:aq)(gF:Nat):k8 z L (U none 0 0) [] gF:=⟨[],rfl,eE _ _ _ _,λN a=>by simp[ap]at a,λb h=>by simp at h⟩
theorem eN.ub(h:eN H z L J A gF):eN H z L J A 0:=by obtain⟨a,b,c,d,e⟩:=h;exact⟨a,b,c,λN f=>⟨(d N f).1,bL _⟩,e⟩
theorem k8.bo(h:k8 z L J k gF)(b:aU z L F I):k8 F I J k gF:=by obtain⟨f,g,e,d,i⟩:=h;exact⟨f,g,oP e (λN a=>by rw[(d N a).1];decide) b,λN a=>⟨(b.ci N (e.lt N a).2).trans (d N a).1,(d N a).2⟩,λj c l=>(i j c l).w b.w⟩
theorem k8.y(h:k8 z L J k gF)(g:eT z L F I)(f:∀a,a<S (R L)->z a=9->F a=9/\(R I)[a]?=(R L)[a]?):k8 F I J k gF:=by obtain⟨i,j,d,e,l⟩:=h;exact⟨i,j,cw d λN b=>(f N (d.lt N b).2 (e N b).1).2,λN b=>⟨(f N (d.lt N b).2 (e N b).1).1,(e N b).2⟩,λm c p=>(l m c p).w g⟩
def ik(e:Nat)(f:an)(g:Nat):Array an:=#[aD (some ⟨e,0,none⟩),f,O Q (g:Nat),U none 0 0,O Q 0]
structure jK (ab:Nat->Nat) (L:aq) (X:Nat) (cO:eU) (ae:au) (b3:Nat) (e3:an) (bP:List (List (Nat×List Nat))) (e8:Nat) (bl:Nat->Nat) (wr:aq):Prop where
 lS:ei ab L X cO ae bl wr
 ax:aL wr b3 (ik X e3 e8) 127
 cG:bl b3=8
 bT:L.heap.size<=b3
 bP:k8 bl wr e3 bP L.heap.size
theorem jK.bo{wr:aq}(h:jK z L x B b gE jt k hZ F wr)(c:bQ hE iR x B b)(a:aU F wr hE iR):jK z L x B b gE jt k hZ hE iR:=
 ⟨⟨c,h.lS.bo.trans a⟩,a.z h.cG h.ax,(a.ci gE h.ax.am).trans h.cG,h.bT,h.bP.bo a⟩
theorem jK.g1{wr:aq}(h:jK z L x B b gE jt k hZ F wr)(c:b_ wr iR none):jK z L x B b gE jt k hZ F iR:=by obtain⟨r,a⟩:=h.lS.y c;exact⟨r,h.ax.d (c.block gE h.ax.am av),h.cG,h.bT,h.bP.y a (λd e f=>⟨f,c.block d e av⟩)⟩
theorem jK.rW{wr:aq}(h:jK z L x B b gE jt k hZ F wr)(c:Nat):jK z L x B b gE jt k c F (ay wr ⟨gE,2,none⟩ (O Q (c:Nat))):=by
 have g:=fU wr ⟨gE,2,none⟩ (O Q (c:Nat));have i:∀a,F a≠8->a<S (R wr)->(R (ay wr ⟨gE,2,none⟩ (O Q (c:Nat))))[a]?=(R wr)[a]?:=λa d j=>g.block a j (λe=>by simp at e;rw[e,h.cG]at d;exact d rfl)
 have l:eT F wr F (ay wr ⟨gE,2,none⟩ (O Q (c:Nat))):=⟨g.size,λa d f=>⟨f,i a T d⟩⟩;refine⟨⟨h.lS.aV.A (ai:=⟨gE,2,none⟩) h.cG _,h.lS.bo.D (ai:=⟨gE,2,none⟩) h.bT _⟩,?_,h.cG,h.bT,h.bP.y l (λm o f=>⟨f,i m T o⟩)⟩;have:=h.ax.j 2 (O Q (c:Nat));simpa[ik]using this
theorem jK.C{wr:aq}(h:jK z L x B b gE jt k hZ F wr){f:List an}(E:M f=M k)(i:∀N,ap jt=some N->F N=9/\S (R L)<=N)(H:∀d,(h:d<M f)->(hS:d<M k)->eN 7 F wr f[d] k[d] 0){p:List (Nat×List Nat)}(I:eN 7 F wr i2 p 0)(q:aY gC 0 128 1 (U (some ⟨G,0,none⟩) (M k+1) ih) (M k+1) (f++[i2]))(r:b_ (ar wr jW) gC (ap jt))(s:ap jt=some G\/G=S (R wr)+1):
 jK z L x B b gE (U (some ⟨G,0,none⟩) (M k+1) ih) (k++[p]) hZ (aO F G 9) (ay gC ⟨gE,1,none⟩ (U (some ⟨G,0,none⟩) (M k+1) ih))/\eT F wr (aO F G 9) (ay gC ⟨gE,1,none⟩ (U (some ⟨G,0,none⟩) (M k+1) ih))/\aL gC gE (ik x jt hZ) 127:=by
 have j:=h.g1 (fv wr jW none);have J:ap jt=some G\/G=S (R (ar wr jW)):=by rw[hQ];exact s
 obtain⟨t,K,P⟩:=j.lS.mY 9 ak i r J;have gf:gE≠G:=λe=>by
  rcases s with u|u
  ·have:=(i G u).1;rw[<-e,h.cG]at this;cases this
  ·have:=h.ax.am;omega
 have l:aO F G 9 gE=8:=(cR _ _ _ _ gf).trans h.cG;have v:aL gC gE (ik x jt hZ) 127:=j.ax.d (r.block gE j.ax.am (λe=>by have:=(i gE e.symm).1;rw[h.cG]at this;cases this));have w:=fU gC ⟨gE,1,none⟩ (U (some ⟨G,0,none⟩) (M k+1) ih);have y:∀a,aO F G 9 a≠8->a<S (R gC)->(R (ay gC ⟨gE,1,none⟩ (U (some ⟨G,0,none⟩) (M k+1) ih)))[a]?=(R gC)[a]?:=λa g gg=>w.block a gg (λe=>by simp at e;rw[e,l]at g;exact g rfl)
 have gj:eT (aO F G 9) gC (aO F G 9) (ay gC ⟨gE,1,none⟩ (U (some ⟨G,0,none⟩) (M k+1) ih)):=⟨w.size,λa g m=>⟨m,y a T g⟩⟩;have gF:eT F wr F (ar wr jW):=⟨av,λa g m=>⟨m,fY _ _ _ g⟩⟩;have o:=(gF.trans K).trans gj;refine⟨⟨⟨t.aV.A (ai:=⟨gE,1,none⟩) l _,t.bo.D (ai:=⟨gE,1,none⟩) h.bT _⟩,?_,l,h.bT,f++[i2],by simp[E],?_,λa e=>by cases e;exact⟨cy _ _ _,P⟩,?_⟩,o,v⟩
 ·have:=v.j 1 (U (some ⟨G,0,none⟩) (M k+1) ih);simpa[ik]using this
 ·have:=cw q (aI:=ay gC ⟨gE,1,none⟩ (U (some ⟨G,0,none⟩) (M k+1) ih)) (λN A=>y N (by cases A;rw[cy];decide) (q.lt N A).2);simpa using this
 ·intro d c gL;by_cases iU:d<M f
  ·have D:d<M k:=by omega
   rw[iz iU,iz D];exact(H d iU D).w o
  ·simp only[bV,dT,d5]at c gL;rw[iV T,iV T];have hu:d-(M f)=0:=T;have hE:d-(M k)=0:=T;simp only[hu,hE,pv];exact I.w o
theorem Tryz.LL:(prog.info? 128).map (λa=>(a.zero,a.size,a.bytes))=some (some (U none 0 0),1,24):=by kernel_rfl
theorem J8{bD:Type}(ah:bD->Int×Nat)(j:List bD):∀r:Int×Nat,r.1= -1\/0<=r.1->(j.foldl (λr a=>cx r (ah a)) r).1= -1\/0<=(j.foldl (λr a=>cx r (ah a)) r).1:=by
 induction j with
 |nil=>intro r h;exact h
 |cons c j b=>
  intro r h;rw[hc];refine b _ ?_;unfold cx;split
  ·rename_i d;exact .inr d.1
  ·exact h
theorem k8.o {r:Option Addr}(h:k8 z L (U r (M k) H) k gF)(g:0<M k):∃N,r=some ⟨N,0,none⟩/\N<S (R L)/\∀a,(f:a<M k)->∃b c,aK L ⟨N,a,none⟩=some (U b (M k[a]) c)/\eN 7 z L (U b (M k[a]) c) k[a] 0:=by obtain⟨i,s,j,t,l⟩:=h;obtain⟨u,v,e,m⟩:=o4 j;simp only[mi]at e;obtain⟨rfl,_,rfl⟩:=e;obtain⟨N,rfl,p,q⟩:=m g;refine⟨N,rfl,p,λa f=>?_⟩;have d:=l a T f;obtain⟨b,c,A⟩:=d.cV;rw[A]at d;exact⟨b,c,(q a (i[a]'T) av).trans (by rw[A]),d⟩
theorem ED(a:Nat)(b:a<=12)(B:Nat):fO a B<=4096*B:=by
 induction B with
 |zero=>simp[fO]
 |succ B c=>have d:=xO a (B+1);have e:2^a<=2^12:=sc ak b;have f:(2:Nat)^12=4096:=ak;simp only[fO];omega
theorem Eo(ah:List (Nat×List Nat)->Nat)(j:List (List (Nat×List Nat)))(a:Nat)(h:a<M j):((j.take (a+1)).map ah).sum=((j.take a).map ah).sum+ah j[a]:=by rw[ev h,dv,qO];simp
theorem Q9(ah:List (Nat×List Nat)->Nat)(H:Nat)(j:List (List (Nat×List Nat)))(h:∀c∈j,ah c<=H)(a:Nat):((j.take a).map ah).sum<=H*a:=by
 induction a with
 |zero=>simp
 |succ a d=>
  by_cases b:a<M j
  ·rw[Eo ah j a b];have:=h _ (b4 b);rw[Nat.mul_add];omega
  ·rw[qA T]at d⊢;rw[Nat.mul_add];omega
def Em(L:aq)(s:au)(t:(Nat×List (List (Nat×List Nat)))⊕(Int×Nat))(l:an)(f:aq):Prop:=aF (S (R L)) L f/\match t with
 |.inr (v,e)=>l=b2 #[aD none,O Q v,O Q (e:Nat)]
 |.inl (w,i)=>∃g m o p,l=b2 #[aD (some ⟨g,0,none⟩),O Q 0,O Q 0]/\S (R L)<=g/\aL f g (ik m (U o (M i) p) w) 127/\∃h y C,bQ h f m y s/\h g=8/\k8 h f (U o (M i) p) i C/\aU (h6 (S (R L))) L h f
structure zW (ae:au) (ew:List Nat):Prop where
 wC:uK ae.aj
 eo:ew.length<=1000/\∀dV∈ew,dV<ae.aj.length
 aC:ae.aC.length<=100000
 aZ:0<=ae.aZ/\ae.aZ<=12
 RI:¬(16<(dy ae.aj ae.aj.length ew).1\/8<(dy ae.aj ae.aj.length ew).2)->vZ ae.aj ae.aj.length ew/\(dD ae.aj ae.aj.length ew).length<=16/\∀aQ∈dD ae.aj ae.aj.length ew,aQ.length<=100000/\(∀dV∈aQ,∃bb,ae.aj[dV]?=some bb)/\(dI ae.aj aQ).1.length<=8/\∀e∈(dI ae.aj aQ).1,rY ae e.1/\e.2.length<=100000/\∀N∈e.2,rY ae N
theorem CX(b:au)(D:ByteArray)(L:aq)(c:Int)(e:Nat)(d:1<=e)(f:e<=8)(g:aR prog 57 #[az D] L λa I=>a=aM (b2 #[aD none,O Q c,O Q (e:Nat)])/\aF (S (R L)) L I):
 aR prog 39 #[az D] L λa I=>∃J,a=aM J/\Em L b (.inr (c,e)) J I:=by
 have i:((e:Int)!=0)=true:=b7;clear d f;go_enter func39,ntmps39;go_wp2_with fail;refine g.mono ?_;rintro a j ⟨rfl,h⟩;go_wp2;exact dG (v:=b2 #[aD none,O Q c,O Q (e:Nat)]) (by simp[eS,results39,go_sem]) rfl ⟨_,rfl,h,rfl⟩
def G_(f:Nat->Nat)(L:aq)(g:Nat)(h:eU)(i:au)(l:Nat)(m:an)(o:List (List Nat))(p:List (List (Nat×List Nat)))(s:Nat)(wr:aq):Prop:=∃e t,jK f L g h i l t p s e wr/\dZ e wr m o
theorem HM(D:ByteArray)(L:aq)(b:au)(E:List Nat)(w:zW b E)(CS:aR prog 57 #[az D] L λpF I=>∃x z B,pF=aM (b2 #[aD (some ⟨x,0,none⟩),O Q 0,O Q 0])/\bQ z I x B b/\cZ z I B.g_ E/\aU (h6 (S (R L))) L z I):
 aR prog 39 #[az D] L λpF I=>∃J,pF=aM J/\Em L b (lQ b E) J I:=by
 have DM:=SE w.wC (M b.aj) (aN _) E w.eo.2 w.eo.1;have Ui:=Ci b.aj w.wC (M b.aj) E w.eo.1;go_enter func39,ntmps39;go_wp2_with fail;refine CS.mono ?_;rintro pF I ⟨x,z,B,rfl,pR,oa,pU⟩;obtain⟨M9,Nt,NF,y5⟩:=oa.cV;have zc:=pR.aa 12;have NR:=pR.ax.am;simp[cp]at zc;rw[y5]at zc oa;have D7:ag (∀(F:Nat->Nat) (iR:aq),aU z I F iR->aF (S (R L)) L iR):=λF iR h=>r5 (pU.trans h)
 have OD:ag (∀(F:Nat->Nat) (iR:aq),aU z I F iR->aU (h6 (S (R L))) L F iR):=λF iR h=>pU.trans h
 have OF:ag (S (R L)<=S (R I)):=pU.b5;clear CS pU;go_upto_region 5 with(first|(go_at_call 58;refine(DM z I x B _ pR oa).mono ?_;rintro e iR ⟨rfl,hE,pX,pZ⟩;have OG:=pX.ax.am;have zS:=pX.aa 12;simp[cp]at zS;rw[y5]at zS;have D9:=oa.bo pZ))
 by_cases l8:16<(dy b.aj (M b.aj) E).1\/8<(dy b.aj (M b.aj) E).2
 ·have t:ag (lQ b E=.inr (0,6)):=by show _=_;unfold lQ;rw[aP l8]
  have El:ag (aF (S (R L)) L iR):=D7.out _ _ pZ;generalize(dy b.aj (M b.aj) E).1=qp at*;generalize(dy b.aj (M b.aj) E).2=ET at*;by_cases OW:16<qp
  ·have Fi:(16:Int)<(qp:Int):=by omega
   clear l8;go_wp2;refine dG (v:=b2 #[aD none,O Q 0,O Q 6]) (by simp[eS,results39,go_sem]) rfl ⟨_,rfl,El.out,?_⟩;rw[t.out];rfl
  ·have Fi:(qp:Int)<=16:=by omega
   have Pn:(8:Int)<(ET:Int):=T;clear l8 OW;go_wp2;refine dG (v:=b2 #[aD none,O Q 0,O Q 6]) (by simp[eS,results39,go_sem]) rfl ⟨_,rfl,El.out,?_⟩;rw[t.out];rfl
 ·have Fi:((dy b.aj (M b.aj) E).1:Int)<=16:=by omega
  have Pn:((dy b.aj (M b.aj) E).2:Int)<=8:=T;obtain⟨FM,P1,qt⟩:=w.RI l8;have t:ag (lQ b E=if 0<=((dD b.aj (M b.aj) E).foldl (λr c=>cx r ((dI b.aj c).2,1)) (-1,0)).1 then .inr (((dD b.aj (M b.aj) E).foldl (λr c=>cx r ((dI b.aj c).2,1)) (-1,0)).1,1)
   else if 0<=((dD b.aj (M b.aj) E).foldl (λr c=>cx r (io b.aC b.aj (dI b.aj c).1)) (-1,0)).1 then .inr ((dD b.aj (M b.aj) E).foldl (λr c=>cx r (io b.aC b.aj (dI b.aj c).1)) (-1,0))
   else if 4000<((dD b.aj (M b.aj) E).map λc=>fO (gB b.aZ) (M (dI b.aj c).1-1)).sum then .inr (0,6)
   else .inl (((dD b.aj (M b.aj) E).map λc=>fO (gB b.aZ) (M (dI b.aj c).1-1)).sum,(dD b.aj (M b.aj) E).map λc=>(dI b.aj c).1)):=by show _=_;unfold lQ;rw[aH l8]
  have Rp:=Ol w.wC.bX (M b.aj) E FM hE iR x B (U M9 Nt NF) pX D9;have RR:ag (aU z I hE iR):=pZ;clear l8 DM pR oa FM pZ;generalize(dy b.aj (M b.aj) E).1=qp at*;generalize(dy b.aj (M b.aj) E).2=ET at*;generalize dD b.aj (M b.aj) E=f at*;go_upto_region 9 with(first|(go_at_call 59;refine Rp.mono ?_;rintro e o ⟨j9,P,rfl,qP,F2,z_⟩;have Ai:ag (aU z I P o):=RR.out.trans F2;obtain⟨F4,Uj,Ga,rfl,RU,_⟩:=z_.o;subst RU;have Sc:=qP.ax.am))
  have Gl:=aL.bT o (ik x (U none 0 0) 0) 127;obtain⟨Gx,Hp⟩:=(ei.mk qP (aU.l _ _):ei P o x B b P o).bT (fv o (aw (ik x (U none 0 0) 0) 127) none) (aN _) 8;have Ak:G_ P o x B b (S (R o)) (U F4 (M f) Ga) f [] 0 (ar o (aw (ik x (U none 0 0) 0) 127)):=⟨_,_,⟨Gx,Gl,cy _ _ _,aN _,k8.cL _ _ _⟩,z_.w Hp⟩;have Sn:=w.wC.bG;clear qP F2 z_ Sc Gl Gx Hp pX D9 zc zS NR OG y5;unfold ik at Ak;generalize(S (R o))=gE at*;obtain⟨qW,ra,rA,rR,sY⟩:=dY Tryz.LL;go_wp2_with fail
  go_loopw [12,13] (λAq p wr=>∃a:Nat,a<=M f/\p=O Q a/\Aq=O Q ((f.take a).foldl (λr c=>cx r ((dI b.aj c).2,1)) (-1,0)).1/\G_ P o x B b gE (U F4 (M f) Ga) f ((f.take a).map λc=>(dI b.aj c).1) 0 wr) (λ_ p _=>M f-(gB (bm p)))
  case atStart=>exact⟨0,bL _,rfl,rfl,Ak⟩
  case round=>
   obtain⟨a,Uk,rfl,rfl,HY,jt,hV,tB⟩:=hrel;clear Ak;by_cases Az:a<M f
   ·obtain⟨Ul,Um,Sy,H_,Un,Uo,J3,SV,Ko⟩:=tB.pR T;simp only[mi]at H_;obtain⟨rfl,_,rfl⟩:=H_;have Kp:=J3 a (Sy[a]'T) av;rw[ez,du]at Kp;have tI:=Ko a T Az;obtain⟨Up,Uq,Ur,Kz⟩:=tI.cV;rw[Kz]at Kp tI;obtain⟨SY,KJ,Us,_⟩:=qt f[a] (b4 _);have S1:=Jk Sn f[a] KJ SY HY wr x B _ hV.lS.aV tI;have m:ag ((f.take (a+1)).foldl (λr c=>cx r ((dI b.aj c).2,1)) (-1,0)=cx ((f.take a).foldl (λr c=>cx r ((dI b.aj c).2,1)) (-1,0)) ((dI b.aj f[a]).2,1)):=pI _ _ _ _ Az;have iU:ag ((f.take (a+1)).map (λc=>(dI b.aj c).1)=(f.take a).map (λc=>(dI b.aj c).1)++[(dI b.aj f[a]).1]):=by show _=_;rw[ev Az,dv];rfl
    have Ut:M ((f.take a).map λc=>(dI b.aj c).1)<=16:=b7;generalize(f.take a).foldl (λr c=>cx r ((dI b.aj c).2,1)) (-1,0)=AE at*;obtain⟨gf,me⟩:=AE;generalize(f.take a).map (λc=>(dI b.aj c).1)=k at*;generalize(dI b.aj f[a]).2=gg at*;generalize(dI b.aj f[a]).1=t8 at*;have Th:(0:Int)<=(a:Int):=T;have Tj:(a:Int)<(M f:Int):=T;clear J3 SV Ko tI Kz KJ;go_upto_region 14 with(first|(go_at_call 60;refine S1.mono ?_;rintro e gj ⟨i2,i0,rfl,AV,ub,i1⟩;replace i1:=i1.ub;obtain⟨mn,mO,TH⟩:=i1.cV;have u:=hV.bo AV ub;have iZ:=tB.w ub.w;obtain⟨ob,ug,oH,uY,vE⟩:=u.bP;obtain⟨mR,jW,AW,_⟩:=o4 oH;subst AW;subst TH;have hS:=u.ax.aa 1;have oS:=u.ax.am;simp[ik]at hS;have Uu:gE<S (R gj)+1:=T))
    by_cases j4:0<=gg
    ·by_cases kp:gf<0
     ·have i:ag (cx (gf,me) (gg,1)=(gg,1)):=oU j4 (.inl kp);go_wp2_with(first|(at_builtin;refine dq _ rfl _ _ 125 rfl 0 128 qW _ 1 24 underlying125 ra rA rR sY rfl ak _ (M k) ob bf (oH.alloc _) ⟨S (R gj),0,none⟩ 1 1 [U mn (M t8) mO] bf rfl (c4 (cB _ _ _ av)) ey ak cN T (bL _) (S (R gj)+1) av ?_;intro G ih gC kr kx k1 Bg;obtain⟨y,A,q⟩:=u.C ug uY vE i1 kr kx k1;have k7:=q.aa 1;have Bo:=q.b 1;have Bt:=q.am;simp[ik]at k7))
      first
      |(go_roundw
        case rel=>exact⟨a+1,T,bE,by rw[m.out,i.out],_,_,by rw[iU.out];exact y,iZ.w A⟩
        case measure=>simp[bm];omega)
      |(refine⟨⟨a+1,T,bE,by rw[m.out,i.out],_,_,by rw[iU.out];exact y,iZ.w A⟩,by simp[wz];omega⟩)
     ·have TJ:0<=gf:=by omega
      by_cases o6:gg<gf
      ·have i:ag (cx (gf,me) (gg,1)=(gg,1)):=oU j4 (.inr o6);clear kp;go_wp2_with(first|(at_builtin;refine dq _ rfl _ _ 125 rfl 0 128 qW _ 1 24 underlying125 ra rA rR sY rfl ak _ (M k) ob bf (oH.alloc _) ⟨S (R gj),0,none⟩ 1 1 [U mn (M t8) mO] bf rfl (c4 (cB _ _ _ av)) ey ak cN T (bL _) (S (R gj)+1) av ?_;intro G ih gC kr kx k1 Bg;obtain⟨y,A,q⟩:=u.C ug uY vE i1 kr kx k1;have k7:=q.aa 1;have Bo:=q.b 1;have Bt:=q.am;simp[ik]at k7))
       first
       |(go_roundw
         case rel=>exact⟨a+1,T,bE,by rw[m.out,i.out],_,_,by rw[iU.out];exact y,iZ.w A⟩
         case measure=>simp[bm];omega)
       |(refine⟨⟨a+1,T,bE,by rw[m.out,i.out],_,_,by rw[iU.out];exact y,iZ.w A⟩,by simp[wz];omega⟩)
      ·have i:ag (cx (gf,me) (gg,1)=(gf,me)):=oc (by simp only;omega);have TK:gf<=gg:=T;clear kp o6;go_wp2_with(first|(at_builtin;refine dq _ rfl _ _ 125 rfl 0 128 qW _ 1 24 underlying125 ra rA rR sY rfl ak _ (M k) ob bf (oH.alloc _) ⟨S (R gj),0,none⟩ 1 1 [U mn (M t8) mO] bf rfl (c4 (cB _ _ _ av)) ey ak cN T (bL _) (S (R gj)+1) av ?_;intro G ih gC kr kx k1 Bg;obtain⟨y,A,q⟩:=u.C ug uY vE i1 kr kx k1;have k7:=q.aa 1;have Bo:=q.b 1;have Bt:=q.am;simp[ik]at k7))
       first
       |(go_roundw
         case rel=>exact⟨a+1,T,bE,by rw[m.out,i.out],_,_,by rw[iU.out];exact y,iZ.w A⟩
         case measure=>simp[bm];omega)
       |(refine⟨⟨a+1,T,bE,by rw[m.out,i.out],_,_,by rw[iU.out];exact y,iZ.w A⟩,by simp[wz];omega⟩)
    ·have i:ag (cx (gf,me) (gg,1)=(gf,me)):=oc (by simp only;omega);have TP:gg<0:=T;clear j4;go_wp2_with(first|(at_builtin;refine dq _ rfl _ _ 125 rfl 0 128 qW _ 1 24 underlying125 ra rA rR sY rfl ak _ (M k) ob bf (oH.alloc _) ⟨S (R gj),0,none⟩ 1 1 [U mn (M t8) mO] bf rfl (c4 (cB _ _ _ av)) ey ak cN T (bL _) (S (R gj)+1) av ?_;intro G ih gC kr kx k1 Bg;obtain⟨y,A,q⟩:=u.C ug uY vE i1 kr kx k1;have k7:=q.aa 1;have Bo:=q.b 1;have Bt:=q.am;simp[ik]at k7))
     first
     |(go_roundw
       case rel=>exact⟨a+1,T,bE,by rw[m.out,i.out],_,_,by rw[iU.out];exact y,iZ.w A⟩
       case measure=>simp[bm];omega)
     |(refine⟨⟨a+1,T,bE,by rw[m.out,i.out],_,_,by rw[iU.out];exact y,iZ.w A⟩,by simp[wz];omega⟩)
   ·have e:a=M f:=by omega
    subst e;rw[eQ]at hV⊢;obtain⟨TQ,K4⟩:∃C,ag (f.foldl (λr c=>cx r ((dI b.aj c).2,1)) (-1,0)=C):=⟨_,rfl⟩;rw[K4.out]at t⊢;have BE:ag (∀(F:Nat->Nat) (wB:aq),aU P o F wB->aF (S (R L)) L wB):=λF wB h=>D7.out _ _ (Ai.out.trans h)
    obtain⟨pa,Uv⟩:=TQ;by_cases BH:0<=pa
    ·have lo:ag (lQ b E=.inr (pa,1)):=by show _=_;rw[t.out,aP BH]
     have mY:=BE.out _ _ hV.lS.bo;clear hV tB;go_wp2;refine dG (v:=b2 #[aD none,O Q pa,O Q 1]) (by simp[eS,results39,go_sem]) rfl ⟨_,rfl,mY,?_⟩;rw[lo.out];rfl
    ·have TR:pa<0:=by omega
     rw[aH BH]at t;obtain rfl:pa= -1:=by have:=J8 (λc=>((dI b.aj c).2,1)) f (-1,0) (.inl rfl);rw[K4.out]at this;simp only at this;omega
     clear BH TR;have K8:ag (M (f.map λc=>(dI b.aj c).1)=M f):=by show _=_;simp
     have Lp:ag (f.foldl (λr c=>cx r (io b.aC b.aj (dI b.aj c).1)) (-1,0)=(f.map λc=>(dI b.aj c).1).foldl (λr d=>cx r (io b.aC b.aj d)) (-1,0)):=by show _=_;rw[List.foldl_map]
     have Ls:ag ((f.map λc=>fO (gB b.aZ) (M (dI b.aj c).1-1))=(f.map λc=>(dI b.aj c).1).map λd=>fO (gB b.aZ) (M d-1)):=by show _=_;rw[sj];rfl
     rw[Lp.out,Ls.out]at t;have BN:∀d∈(f.map λc=>(dI b.aj c).1),M d<=8/\∀e∈d,rY b e.1/\M e.2<=100000/\∀N∈e.2,rY b N:=λd BP=>by obtain⟨c,m5,rfl⟩:=eG.1 BP;exact⟨(qt c m5).2.2.1,(qt c m5).2.2.2⟩
     have Uw:M (f.map λc=>(dI b.aj c).1)<=16:=by rw[K8.out];exact P1
     generalize(f.map λc=>(dI b.aj c).1)=k at*;clear Lp Ls K8 tB qt;obtain⟨mR,jW,AW⟩:∃r H,jt=U r (M k) H:=by obtain⟨ob,_,h,_⟩:=hV.bP;obtain⟨r,H,e,_⟩:=o4 h;exact⟨r,H,e⟩
     subst AW;have TS:=w.aC;go_wp2_with fail
     go_loopw [12,16,17] (λAq TT p TU=>∃l:Nat,l<=M k/\p=O Q l/\Aq=O Q (((k.take l).foldl (λr d=>cx r (io b.aC b.aj d)) (-1,0))).1/\TT=O Q (((k.take l).foldl (λr d=>cx r (io b.aC b.aj d)) (-1,0))).2/\∃i0,jK P o x B b gE (U mR (M k) jW) k 0 i0 TU) (λ_ _ p _=>M k-(gB (bm p)))
     case atStart=>exact⟨0,bL _,rfl,rfl,rfl,HY,hV⟩
     case round=>
      obtain⟨l,Ux,rfl,rfl,rfl,LB,gL⟩:=hrel;clear hV;have hS:=gL.ax.aa 1;have oS:=gL.ax.am;simp[ik]at hS;by_cases LI:l<M k
      ·obtain⟨LL,rfl,TV,py⟩:=gL.bP.o T;obtain⟨mn,mO,TW,LQ⟩:=py l LI;have LU:=BN k[l] (b4 _);have Mc:=Pl TS k[l] T LU.2 LB wr x B _ 0 gL.lS.aV LQ;have m:ag ((k.take (l+1)).foldl (λr d=>cx r (io b.aC b.aj d)) (-1,0)=cx ((k.take l).foldl (λr d=>cx r (io b.aC b.aj d)) (-1,0)) (io b.aC b.aj k[l])):=pI _ _ _ _ LI;generalize(k.take l).foldl (λr d=>cx r (io b.aC b.aj d)) (-1,0)=AE at*;obtain⟨g1,ne⟩:=AE;generalize io b.aC b.aj k[l]=TX at*;obtain⟨hu,nB⟩:=TX;have Th:(0:Int)<=(l:Int):=T;have Tj:(l:Int)<(M k:Int):=T;clear py LQ LU;go_upto_region 24 with(first|(go_at_call 61;refine Mc.mono ?_;rintro e gj ⟨rfl,i0,AV,ub⟩;have u:=gL.bo AV ub;clear gL Mc))
       by_cases j4:0<=hu
       ·by_cases kp:g1<0
        ·have i:ag (cx (g1,ne) (hu,nB)=(hu,nB)):=oU j4 (.inl kp);go_wp2_with fail;go_roundw
         case rel=>exact⟨l+1,T,bE,by rw[m.out,i.out],by rw[m.out,i.out],i0,u⟩
         case measure=>simp[bm];omega
        ·have TJ:0<=g1:=by omega
         by_cases o6:hu<g1
         ·have i:ag (cx (g1,ne) (hu,nB)=(hu,nB)):=oU j4 (.inr o6);clear kp;go_wp2_with fail;go_roundw
          case rel=>exact⟨l+1,T,bE,by rw[m.out,i.out],by rw[m.out,i.out],i0,u⟩
          case measure=>simp[bm];omega
         ·have i:ag (cx (g1,ne) (hu,nB)=(g1,ne)):=oc (by simp only;omega);have TK:g1<=hu:=T;clear kp o6;go_wp2_with fail;go_roundw
          case rel=>exact⟨l+1,T,bE,by rw[m.out,i.out],by rw[m.out,i.out],i0,u⟩
          case measure=>simp[bm];omega
       ·have i:ag (cx (g1,ne) (hu,nB)=(g1,ne)):=oc (by simp only;omega);have TP:hu<0:=T;clear j4;go_wp2_with fail;go_roundw
        case rel=>exact⟨l+1,T,bE,by rw[m.out,i.out],by rw[m.out,i.out],i0,u⟩
        case measure=>simp[bm];omega
      ·have e:l=M k:=by omega
       subst e;rw[eQ];obtain⟨TY,TZ⟩:∃C,ag (k.foldl (λr d=>cx r (io b.aC b.aj d)) (-1,0)=C):=⟨_,rfl⟩;rw[TZ.out]at t⊢;obtain⟨xf,Mj⟩:=TY;by_cases BV:0<=xf
       ·have lo:ag (lQ b E=.inr (xf,Mj)):=by show _=_;rw[t.out,aP BV]
        have mY:=BE.out _ _ gL.lS.bo;clear gL;go_wp2;refine dG (v:=b2 #[aD none,O Q xf,O Q (Mj:Nat)]) (by simp[eS,results39,go_sem]) rfl ⟨_,rfl,mY,?_⟩;rw[lo.out]
       ·have Uy:xf<0:=by omega
        rw[aH BV]at t;clear BV;obtain⟨c,m5⟩:∃c:Nat,b.aZ=c:=⟨gB b.aZ,by have:=w.aZ.1;omega⟩;have Cs:c<=12:=by have:=w.aZ.2;omega
        have T0:ag (gB b.aZ=c):=by show _=_;rw[m5];rfl
        rw[T0.out]at t;have T1:ag (b.aZ=(c:Int)):=m5;clear m5;have Mk:∀C,((k.take C).map λd=>fO c (M d-1)).sum<=32768*C:=λC=>Q9 _ _ k (λd BP=>by have:=ED c Cs (M d-1);have:=(BN d BP).1;omega) C
        have My:ag (∀C,((k.take C).map λd=>fO c (M d-1)).sum<=32768*C):=Mk;clear Mk;go_wp2_with fail
        go_loopw [20] (λp T2=>∃j:Nat,j<=M k/\p=O Q j/\∃xk,jK P o x B b gE (U mR (M k) jW) k ((k.take j).map λd=>fO c (M d-1)).sum xk T2) (λp _=>M k-(gB (bm p)))
        case atStart=>exact⟨0,bL _,rfl,LB,gL⟩
        case round=>
         obtain⟨j,Uz,rfl,xk,s⟩:=hrel;clear gL hS oS;have hS:=s.ax.aa 1;have oS:=s.ax.am;simp[ik]at hS;by_cases MA:j<M k
         ·have T3:ag (((k.take (j+1)).map λd=>fO c (M d-1)).sum=((k.take j).map λd=>fO c (M d-1)).sum+fO c (M k[j]-1)):=Eo _ _ _ MA;have qP:=My.out j;have UA:=(BN k[j] (b4 _)).1;generalize((k.take j).map λd=>fO c (M d-1)).sum=w1 at*;have UB:(0:Int)<=(j:Int):=T;have UC:(j:Int)<(M k:Int):=T;go_wp2_with fail
          go_loopw [21] (λp T4=>∃g:Nat,1<=g/\(g=1\/g<=M k[j])/\p=O Q g/\∃nG,jK P o x B b gE (U mR (M k) jW) k (w1+fO c (g-1)) nG T4) (λp _=>M k[j]-(gB (bm p)))
          case atStart=>exact⟨1,aN _,.inl rfl,rfl,xk,s⟩
          case round=>
           obtain⟨g,UD,UE,rfl,nG,K⟩:=hrel;clear s hS oS;obtain⟨hZ,xr⟩:∃hZ,ag (w1+fO c (g-1)=hZ):=⟨_,rfl⟩;rw[xr.out]at K;have hS:=K.ax.aa 1;have Cz:=K.ax.aa 2;have UF:=K.ax.b 2;have oS:=K.ax.am;simp[ik]at hS Cz;obtain⟨LL,rfl,TV,py⟩:=K.bP.o T;obtain⟨mn,mO,TW,_⟩:=py j MA;by_cases UG:g<M k[j]
           ·have T5:ag (fO c (g+1-1)=fO c (g-1)+gs c g):=by
             show _=_;obtain⟨MC,rfl⟩:∃MC,g=MC+1:=⟨g-1,T⟩;rfl
            have T6:=xO c g;have T7:2^c<=2^12:=sc ak Cs;have T8:(2:Nat)^12=4096:=ak;have T9:=ED c Cs (g-1);have UH:gs c g<=4096:=T;have UI:hZ<=1000000:=by rw[<-xr.out];omega
            have MD:=K.lS.aV.aa 11;simp[cp]at MD;rw[T1.out]at MD;have UJ:=K.lS.aV.ax.am;have T_:=KQ c g wr.drew T T;generalize Ua:gs c g=ys at*;have UK:(M k[j]:Int)<=8:=T;have Ub:(g:Int)<(M k[j]:Int):=T;have MT:((hZ+ys:Nat):Int)=(hZ:Int)+(ys:Int):=T;have M1:ag (jK P o x B b gE (U (some ⟨LL,0,none⟩) (M k) jW) k (w1+fO c (g+1-1)) nG (ay wr ⟨gE,2,none⟩ (O Q ((hZ:Int)+(ys:Int)))).drew):=by have:=(K.rW (hZ+ys)).g1 (jm _ none);show jK _ _ _ _ _ _ _ _ _ _ _;rw[MT]at this;rw[T5.out,<-hr,xr.out];exact this
            clear T6 T7 T8 T9 Ua MT;go_upto_region 35 with fail;go_region_with (first|(go_at_call 62;refine T_.mono ?_;rintro e wB ⟨rfl,rfl⟩))
            all_goals
             go_wp2_with fail
             first
             |(go_roundw
               case rel=>exact⟨g+1,T,.inr T,bE,nG,M1.out⟩
               case measure=>simp[bm];omega)
             |(refine⟨⟨g+1,T,.inr T,bE,nG,M1.out⟩,by simp[wz];omega⟩)
           ·have Ub:(M k[j]:Int)<=(g:Int):=by omega
            have Uc:g-1=M k[j]-1:=T;rw[<-xr.out,Uc]at K;clear py;go_wp2_with fail;go_roundw
            case rel=>exact⟨j+1,T,bE,nG,by rw[T3.out];exact K⟩
            case measure=>simp[bm];omega
         ·have e:j=M k:=by omega
          subst e;rw[eQ]at s;have Cz:=s.ax.aa 2;simp[ik]at Cz;have mY:=BE.out _ _ s.lS.bo;have Ud:S (R L)<=gE:=bS OF.out (bS Ai.out.b5 s.bT);have Ue:=My.out (M k);rw[eQ]at Ue;have Uf:=s.ax;have Ug:ag (∃z B gF,bQ z wr x B b/\z gE=8/\k8 z wr (U mR (M k) jW) k gF/\aU (h6 (S (R L))) L z wr):=⟨xk,B,_,s.lS.aV,s.cG,s.bP,OD.out _ _ (Ai.out.trans s.lS.bo)⟩;generalize(k.map λd=>fO c (M d-1)).sum=yC at*;clear s;by_cases y2:4000<yC
          ·have Uh:(4000:Int)<(yC:Int):=by omega
           have lo:ag (lQ b E=.inr (0,6)):=by show _=_;rw[t.out,aP y2]
           clear y2;go_wp2;refine dG (v:=b2 #[aD none,O Q 0,O Q 6]) (by simp[eS,results39,go_sem]) rfl ⟨_,rfl,mY,?_⟩;rw[lo.out];rfl
          ·have Uh:(yC:Int)<=4000:=by omega
           have lo:ag (lQ b E=.inl (yC,k)):=by show _=_;rw[t.out,aH y2]
           clear y2;go_wp2;refine dG (v:=b2 #[aD (some ⟨gE,0,none⟩),O Q 0,O Q 0]) (by simp[eS,results39,go_sem]) rfl ⟨_,rfl,mY,?_⟩;rw[lo.out];exact⟨gE,x,mR,jW,rfl,Ud,Uf,Ug.out⟩
theorem CE{j:List bN}(G:fg hu j)(I:M j<=601):∃(E:List Nat) (b:au),eF (.mU [] E) (kW j) b/\lj b/\b.aT=j/\1<=M E/\M E<=1000/\M b.aj<=1000/\(mx j).ih/\(l2 j).ih/\match go hu with
 |.inr (l,e)=>(e=1/\b.hu.bk=l)\/(e=2/\b.hu.bk<0/\b.hu.bU=l)\/(e=3/\b.hu.bk<0/\b.hu.bU<0/\eo b=some l)
 |.inl (gg,_)=>b.hu.bk<0/\b.hu=b/\b.bU<0/\eo b=none/\(∃iU,fe b iU)/\h7 (fB b.aC b.aj (M hu)) E gg.cJ/\(∀d∈E,d<M b.aj)/\b.bd=gg.bd/\b.aZ=gg.aZ:=by
 have J:=OJ G I;have m:ij (gD hu) (pq j) ((gD hu).bx [gy]) (mx j):=tR J (Y:=gy) bJ;have v:=tZ m.cf 1 1000000;rw[show((1:Nat):Int)=1 from rfl,show((1000000:Nat):Int)=1000000 from rfl]at v;obtain⟨p,K,_,_⟩:=v;have P:dP (((gD hu).bx [gy]).bp 1 1000000) (pD j):=PF p.cf _;have g:ij (((gD hu).bx [gy]).bp 1 1000000) (pD j) ((((gD hu).bx [gy]).bp 1 1000000).bx [ix]) (l2 j):=tR P (Y:=ix) bJ;have w:=tZ g.cf 1 12;rw[show((1:Nat):Int)=1 from rfl,show((12:Nat):Int)=12 from rfl]at w;obtain⟨o,gf,_,_⟩:=w;have gj:dP ((((((gD hu).bx [gy]).bp 1 1000000).bx [ix])).bp 1 12) (kW j):=R1 o.cf _;obtain⟨gC,gE,gF⟩:=D5 j;obtain⟨gL,g1,hE,hS⟩:=He j;have c:(kW j).aj=[]:=by rw[gL,o.aj,g.aj,gC,p.aj,m.aj];rfl
 have hV:(kW j).aT=j:=by rw[g1,o.aT,g.aT,gE,p.aT,m.aT];rfl
 have hZ:M ((((((gD hu).bx [gy]).bp 1 1000000).bx [ix])).bp 1 12).a7<=M hu:=by have r:=m.bX;have x:=p.bX;have H:=g.bX;have jt:=o.bX;have e:(gD hu).a7=hu:=rfl;rw[e]at r;omega
 have ih:(kW j).bd=((gD hu).bx [gy]).k:=by rw[hE,o.bd,g.bd,gF,K]
 have iR:(kW j).aZ=((((gD hu).bx [gy]).bp 1 1000000).bx [ix]).k:=by rw[hS,gf]
 obtain⟨E,b,iZ,a,y,i0⟩:=Cu (Tz (M hu)) _ (kW j) gj hZ (by rw[c];simp) (λ_=>⟨by rw[c];simp,by rw[c];simp,by rw[c];simp,by rw[c];simp,by rw[c];simp,by rw[c];simp⟩);refine⟨E,b,iZ,a.cf.b8,a.aT.trans hV,y.1,y.2,?_,m.cf.b8.hU,g.cf.b8.hU,?_⟩
 ·have z:=a.fk;have jW:=a.cf.b8.cY;have j4:=a.cf.b8.aT;rw[c]at z;simp only[d5]at z;omega
 unfold go;simp only;rw[wg];simp only;generalize km (ha (M hu)) ((((((gD hu).bx [gy]).bp 1 1000000).bx [ix])).bp 1 12)=f at*;by_cases i:b.bk<0
 ·have A:=a.cf.g2 i;have s:=A.Tj;have B:=A.aX;rw[<-k5]at s B;by_cases q:f.1.af.ao=1
  ·have t:b.af.ao=3:=s.1 q;have u:b.hu=b:=by unfold au.hu;rw[aP t]
   rw[aH (by simp[q])];obtain⟨_,_,_,k,C⟩:b.bk<0/\fg f.1.a7 (b.aT.drop b.al)/\f.1.bU=b.bz/\tT f.1.fZ b.bU/\f.1.e1=eo b:=by
    rcases a.cf.hC with h|h
    ·exact h
    ·omega
   rw[u];cases D:f.1.fZ with
   |some l=>rw[D]at k;exact .inr (.inl ⟨rfl,i,k⟩)
   |none=>
    rw[D]at k;have j9:b.bU= -1:=k;cases F:f.1.e1 with
    |some l=>exact .inr (.inr ⟨rfl,i,T,by rw[<-C];exact F⟩)
    |none=>obtain⟨fo,dt,i1⟩:=i0 i;exact⟨i,rfl,T,by rw[<-C];exact F,⟨_,fo⟩,dt,i1,a.bd.trans ih,a.aZ.trans iR⟩
  ·have t:¬b.af.ao=3:=λe=>q (s.2 e)
   have u:b.hu=b.c8:=by unfold au.hu;rw[aH t]
   rw[aP q];refine .inl ⟨rfl,?_⟩;rw[u];unfold au.c8;rw[aP i];exact congrArg Int.ofNat B.symm
 ·have k:=a.cf.hS T;have i2:f.1.af=⟨0,gB b.bk,⟨#[]⟩⟩:=by unfold aA.af;rw[k];rfl
  rw[i2];rw[aP av];refine .inl ⟨rfl,?_⟩;have:b.hu=b:=by unfold au.hu;split;rfl;exact vq T
  rw[this];show b.bk=((gB b.bk:Nat):Int);omega
theorem cP.lJ{bD b:Type}{c:bD->b->Prop}{j:List bD}{B:List b}(h:cP c j B)(a:Nat):cP c (j.take a) (B.take a):=by
 induction h generalizing a with
 |cL=>rw[List.take_nil,List.take_nil];exact .cL
 |d7 d _ e=>cases a with
  |zero=>exact .cL
  |succ a=>exact .d7 d (e a)
theorem cP.iw{bD b:Type}{c:bD->b->Prop}{j:List bD}{B:List b}(h:cP c j B):∀r∈j,∃x∈B,c r x:=by
 induction h with
 |cL=>simp
 |d7 d _ e=>
  intro r a;rcases ek.1 a with rfl|a
  ·exact⟨_,av,d⟩
  ·obtain⟨x,f,h⟩:=e r a;exact⟨x,by simp[f],h⟩
theorem cP.tB{bD b:Type}{c:bD->b->Prop}{j:List bD}{B:List b}(h:cP c j B):∀x∈B,∃r∈j,c r x:=by
 induction h with
 |cL=>simp
 |d7 d _ e=>
  intro r a;rcases ek.1 a with rfl|a
  ·exact⟨_,av,d⟩
  ·obtain⟨x,f,h⟩:=e r a;exact⟨x,by simp[f],h⟩
theorem F_{a hu:List (List Nat)}{c:List Nat}(h:c∈lp a hu):∃r∈a,∃x∈hu,c=r++x:=by unfold lp at h;obtain⟨r,b,d⟩:=ky.1 h;obtain⟨x,e,rfl⟩:=eG.1 d;exact⟨r,b,x,e,rfl⟩
theorem CI(gj:List cA)(bi d:Nat):dD gj (bi+1) [d]=hD (dD gj bi) gj d:=by show lp [[]] _=_;unfold lp;simp
theorem Sx(u:Nat)(a:aB):c3 (u+1) [a]=fd (c3 u) a:=by show hW [[]] _=_;unfold hW;simp
theorem Io(f:∀(e:Nat) (c:cA),gj[e]?=some c->∀j∈c.br,∀d∈j,d<e){b:aB}(h:fB aC gj (u+1) d b)(g:d<bi+1):cP (k6 aC gj) (hD (dD gj bi) gj d) (fd (c3 (u+1)) b):=by have:=uu (aC:=aC) f (u+1) (bi+1) [d] [b] (.d7 h .cL) (λa i=>by rw[dB.1 i];exact g);rw[CI,Sx]at this;exact this
theorem Te(e:∀(b:Nat) (c:cA),gj[b]?=some c->∀j∈c.br,∀d∈j,d<b){j:List Nat}{k:List aB}(h:cP (fB aC gj (u+1)) j k)(f:∀d∈j,d<bi+1)(a:Nat):cP (k6 aC gj) (iH gj bi j a) (h3 (u+1) k a):=
 uu e (u+1) (bi+1) (j.take a) (k.take a) (h.lJ a) (λd g=>f d (pp g))
theorem zx(x:∀(q:Nat) (c:cA),gj[q]?=some c->∀j∈c.br,∀d∈j,d<q):∀(u bi:Nat) (j:List Nat) (k:List aB),cP (fB aC gj u) j k->(∀d∈j,d<bi)->∀b∈dD gj bi j,M b<=c9 (u+1) k:=by
 intro u
 induction u with
 |zero=>
  intro bi j k h _ b f;cases h with
  |cL=>have e:b=[]:=by cases bi<;>simpa[dD]using f
       rw[e];simp
  |d7 h _=>exact h.elim
 |succ u y=>
  intro bi j k h m;cases bi with
  |zero=>
   cases h with
   |cL=>intro b f;have e:b=[]:=by simpa[dD]using f
        rw[e];simp
   |@d7 d _ _ _ _ _=>have:=m d av;omega
  |succ bi=>
   show∀b∈j.foldl (λE d=>lp E (hD (dD gj bi) gj d)) [[]],_;have z:cP (λd i=>fB aC gj (u+1) d i/\d<bi+1) j k:=h.me (λd i s _ f=>⟨f,m d s⟩);clear h m;rw[r8]
   suffices A:∀(r:List (List Nat)) (l:Nat),(∀b∈r,M b<=l)->∀b∈j.foldl (λE d=>lp E (hD (dD gj bi) gj d)) r,M b<=l+(k.map (kI (u+1))).sum fromλb f=>by have:=A [[]] 0 av b f;omega
   induction z with
   |cL=>intro r l h b f;have:=h b f;simpa using this
   |@d7 d i j k B _ C=>
    intro r l D b f;rw[hc]at f;have:=C _ (l+kI (u+1) i) ?_ b f
    ·rw[hB,qx];omega
    ·intro b f;obtain⟨F,G,t,g,rfl⟩:=F_ f;have:=D F G;rw[bV]
     suffices (M t)<=kI (u+1) i by omega
     obtain⟨⟨c,v,o⟩,s⟩:=B;unfold hD at g;rw[v]at g;simp only at g;rcases o with I|⟨_,gg,gC,J⟩
     ·rw[aP (by rw[I.br];rfl)]at g;rw[dB.1 g];unfold kI;simp only[dT,d5];omega
     ·rw[aH T]at g;obtain⟨p,w,K⟩:=ky.1 g;obtain⟨H,o,P⟩:=J.ob.iw p w;have gE:=y bi p H P (λa gf=>by have:=x d c v p w a gf;omega) t K;have gF:c9 (u+1) H+1<=(i.cv.map λH=>c9 (u+1) H+1).sum:=pf (eG.2 ⟨H,o,rfl⟩);unfold kI;omega
theorem LO{f:Nat->List (List Nat)}:∀(j:List Nat) (r:List (List Nat)),(∀d∈j,∀b∈f d,b≠[])->(j≠[]\/∀b∈r,b≠[])->∀b∈j.foldl (λE d=>lp E (f d)) r,b≠[]:=by
 intro j
 induction j with
 |nil=>intro r _ h b c;rcases h with h|h
       ·exact absurd rfl h
       ·exact h b c
 |cons d j g=>intro r hF _ b c;rw[hc]at c;refine g _ (λa i=>hF a (by simp[i])) (.inr λb c=>?_) b c;obtain⟨m,_,k,l,rfl⟩:=F_ c;exactλe=>hF d av k l (E1.1 e).2
theorem EV(p:∀(k:Nat) (c:cA),gj[k]?=some c->∀j∈c.br,∀d∈j,d<k)(q:∀c∈gj,∀j∈c.br,1<=M j):∀(bi:Nat) (j:List Nat),(∀d∈j,d<bi)->j≠[]->∀f∈dD gj bi j,f≠[]:=by
 intro bi
 induction bi with
 |zero=>intro j h g;cases j with
        |nil=>exact absurd rfl g
        |cons d _=>have:=h d av;omega
 |succ bi r=>
  intro j h g;refine LO j [[]] (λd s f b=>?_) (.inl g);unfold hD at b;split at b
  ·rw[dB.1 b];simp
  ·rename_i c l;split at b
   ·rw[dB.1 b];simp
   ·obtain⟨i,m,t⟩:=ky.1 b;have o:=q c (m1 l) i m;exact r i (λa u=>by have:=p d c l i m a u;have:=h d s;omega) (by intro e;rw[e]at o;simp at o) f t
theorem KN(g:∀(E:Nat) (c:cA),gj[E]?=some c->∀j∈c.br,∀d∈j,d<E)(z:∀c∈gj,M c.br<=1000/\∀j∈c.br,1<=M j/\M j<=1000):∀(u bi:Nat) (j:List Nat) (k:List aB),cP (fB aC gj u) j k->(∀d∈j,d<bi)->n2 (u+1) k->M j<=1000->vZ gj bi j:=by
 have F:∀c∈gj,∀j∈c.br,1<=M j:=λc q j A=>((z c q).2 j A).1
 intro u
 induction u with
 |zero=>
  intro bi j k h _ s;cases h with
  |cL=>exact absurd rfl s.1
  |d7 h _=>exact h.elim
 |succ u g1=>
  intro bi j k h t s A;cases bi with
  |zero=>
   cases h with
   |cL=>exact rfl
   |@d7 d _ _ _ _ _=>have:=t d av;omega
  |succ bi=>
   obtain⟨hu,hE,hS,B⟩:=s;have e:e7 (ce (u+1)) k (M k)=ce (u+2) k:=s7;have G:∀b∈k,sN (fd (c3 (u+1)) b) (eP (ce (u+1)) b).1 (b.bG+1+(b.cv.map λH=>c9 (u+1) H+1).sum):=λb l=>Ba (B b l).1 (λH v=>qT (u+1) H ((B b l).2 H v))
   have I:=(vG G (M k) (aN _) (by rw[e];exact hE)).2.2.2;have f:∀a,a<=M k->M (h3 (u+1) k a)<=16/\0<M (h3 (u+1) k a):=λa f=>by have r:=vG G a f (I a f);have:=I a f;exact⟨by rw[r.1];exact this,r.2.1⟩
   have iR:=h.lo;refine⟨A,λa iU=>?_,λd m=>?_⟩
   ·have C:=Te g h t a;obtain⟨J,K⟩:=f a T;rw[<-C.lo]at J K;refine⟨J,K,λi o=>⟨?_,λiZ=>?_⟩⟩
    ·have:=zx (aC:=aC) g (u+1) (bi+1) (j.take a) (k.take a) (h.lJ a) (λd m=>t d (pp m)) i o;rw[r8,FQ]at this;have y:=tD (k.map (kI (u+1))) a;rw[r8]at hS;omega
    ·refine EV g F (bi+1) (j.take a) (λd m=>t d (pp m)) (λe=>?_) i o;have:M (j.take a)=0:=by rw[e];rfl
     have i0:0<M k:=lw.2 hu;rw[hT]at this;omega
   ·obtain⟨b,l,o⟩:=h.iw d m;have P:=t d m;have C:=Io g (bi:=bi) o P;have gf:∀a∈[d],a<bi+1:=λa f=>by rw[dB.1 f];exact P
    have hV:∀i∈hD (dD gj bi) gj d,M i<=100000/\i≠[]:=λi D=>by rw[<-CI]at D;have w:=zx (aC:=aC) g (u+1) (bi+1) [d] [b] (.d7 o .cL) gf i D;rw[r8]at w;simp only[hB,pB,qx,GI]at w;have y:kI (u+1) b<=c9 (u+1+1) k:=x5 l;exact⟨T,EV g F (bi+1) [d] gf av i D⟩
    have hZ:M (hD (dD gj bi) gj d)<=16:=by rw[C.lo];obtain⟨a,gg,rfl⟩:=iW l;have w:=f (a+1) gg;have y:=f a T;rw[un _ _ _ gg,ue]at w;exact bS (vR _ y.2) w.1
    obtain⟨c,q,v⟩:=o;have gC:=m1 q;refine⟨c,q,(z c gC).1,hZ,hV,λp x=>?_⟩;rcases v with ih|⟨_,i1,y,s⟩
    ·rw[ih.br]at x;simp at x
    ·obtain⟨H,v,gE⟩:=s.ob.iw p x;have gF:=(B b l).2 H v;have gL:∀a∈p,a<bi:=λa f=>by have:=g d c q p x a f;omega
     refine⟨g1 bi p H gE gL gF ((z c gC).2 p x).2,?_⟩;rw[(uu g u bi p H gE gL).lo];exact(qT (u+1) H gF).a1
theorem B9{bD a:Type}(ah:bD->List a):∀(j:List bD) (r:bD),r∈j->M (ah r)<=M (j.flatMap ah):=by
 intro j
 induction j with
 |nil=>intro r h;simp at h
 |cons c j b=>
  intro r h;rw[ni,bV];rcases ek.1 h with rfl|h
  ·omega
  ·have:=b r h;omega
theorem ko.eD{b:au}{d:Nat}{f:aB}(h:ko b.aC b.aj d f):rY b d:=by
 obtain⟨c,g,e⟩:=h;refine⟨c,g,?_,by rw[e.a1];omega⟩;rcases e.bB with h|⟨a,i,j,k,_⟩
 ·exact .inl h.1
 ·exact .inr ⟨a,i,j,k⟩
theorem zg(e:fe b iU)(f:h7 (fB b.aC b.aj u) E gg.cJ)(g:∀d∈E,d<M b.aj)(h:mQ (u+1) gg.cJ)(i:c9 (u+1) gg.cJ<=100000)(c:jE (u+1) gg.cJ=false):
 (ce (u+1) gg.cJ).1<=16/\(ce (u+1) gg.cJ).2<=8/\n2 (u+1) gg.cJ/\cP (k6 b.aC b.aj) (dD b.aj (M b.aj) E) (c3 (u+1) gg.cJ):=by
 have a:(ce (u+1) gg.cJ).1<=16/\(ce (u+1) gg.cJ).2<=8:=by unfold jE at c;simp only[xv,tU]at c;omega
 exact⟨a.1,a.2,AL (u+1) gg.cJ h a.1 i,uu e.am u (M b.aj) E gg.cJ f.ob g⟩
theorem ID(m:lj b)(z:eo b=none)(a:fe b iU)(h:h7 (fB b.aC b.aj u) E gg.cJ)(g:∀d∈E,d<M b.aj)(q:M E<=1000)(A:M b.aj<=1000)(i:b.aZ=gg.aZ)(gL:gg.aZ<=12)(B:mQ (u+1) gg.cJ)(r:c9 (u+1) gg.cJ<=100000):zW b E:=by
 refine⟨⟨a.am,a.bG z,λc l=>⟨(a.gt c l).1,λj C=>((a.gt c l).2 j C).2⟩,A⟩,⟨q,g⟩,by have:=m.aC;have:=m.cY;have:=m.aT;omega,by rw[i];omega,λg1=>?_⟩;have D:=GN a.am h g;have F:jE (u+1) gg.cJ=false:=by rw[D];simp only[xv,tU];omega
 obtain⟨G,hu,o,hS⟩:=zg a h g B r F;have s:=qT _ _ o;have H:=Bw _ _ o;refine⟨KN a.am a.gt u _ E gg.cJ h.ob g o q,by rw[hS.lo,s.fk];exact G,λt i=>?_⟩;obtain⟨f,v,w⟩:=hS.iw t i;have x:=vr w;refine⟨bS (zx a.am u _ E gg.cJ h.ob g t i) r,λd I=>?_,?_,λe J=>?_⟩
 ·obtain⟨k,p,_⟩:=w;obtain⟨hE,_,c,l,_⟩:=p.iw d I;exact⟨c,l⟩
 ·have e:c7 f=M (dM f).1:=by unfold c7;rw[yx,c_]
  have:=H f v;rw[x.1.lo];omega
 ·obtain⟨K,P,gf,y⟩:=x.1.iw e J;refine⟨gf.eD,?_,λN gj=>?_⟩
  ·rw[y.lo];have p:=(sy f).nF;have gC:=B9 (λe:aB×List aB=>e.2++[e.1]) (dM f).1 K P;have hV:=s.bX f v;have gE:=congrArg M p;simp only[bV]at gC gE;omega
  ·obtain⟨hZ,_,gF⟩:=y.iw N gj;exact gF.eD
theorem N_(p:fe b iU)(q:h7 (fB b.aC b.aj u) E gg.cJ)(r:∀d∈E,d<M b.aj)(s:mQ (u+1) gg.cJ)(m:c9 (u+1) gg.cJ<=100000){k:List (List aB)}(h:fF (u+1) gg=.inl (hZ,k)):
 (M k)<=1000/\∀j∈k,M j<=100000/\j≠[]/\∀f∈j,M f.bB<=1000000:=by
 have g:jE (u+1) gg.cJ=false/\k=c3 (u+1) gg.cJ:=by
  unfold fF at h;split at h
  ·cases h
  ·rename_i g;split at h
   ·cases h
   ·split at h
    ·cases h
    ·split at h
     ·cases h
     ·cases h;exact⟨j3.2 g,rfl⟩
 obtain⟨t,rfl⟩:=g;obtain⟨A,B,v,hS⟩:=zg p q r s m t;have i:=qT _ _ v;refine⟨by rw[i.fk];omega,λj l=>⟨bS (i.bX j l) m,i.gV j l,λf w=>?_⟩⟩;obtain⟨K,_,k,x,rfl⟩:=hS.tB j l;obtain⟨o,y,a⟩:=ky.1 w;obtain⟨d,_,c,_,z⟩:=x.tB o y;have e:f=o:=by
  unfold p9 at a;split at a
  ·exact Dp a
  ·exact dB.1 a
 have:=z.bX;rw[e];omega
theorem QO{f e:Nat}(h:fF u gg=.inr (f,e)):1<=e/\e<=8:=by
 have c:∀(ah:List aB->Nat->Nat×Nat) (k:List (List aB)),(∀j b,(ah j b).2<=8)->(f_ ah k).2≠0->1<=(f_ ah k).2/\(f_ ah k).2<=8:=by
  intro ah k g a;rcases yq ah k with⟨d,_⟩|⟨d,⟨j,_,b,_,iU⟩,_⟩
  ·rw[d]at a;exact absurd rfl a
  ·have:=g j b;rw[<-iU]at this;omega
 unfold fF at h;split at h
 ·cases h;omega
 ·split at h
  ·rename_i a;have:=c fR _ (λj b=>by unfold fR;split<;>simp) a;rw[Sum.inr.inj h]at this;exact this
  ·split at h
   ·rename_i a;have:=c gl _ (λj b=>by unfold gl;simp only;split;simp;split<;>simp) a;rw[Sum.inr.inj h]at this;exact this
   ·split at h
    ·cases h;omega
    ·cases h
structure y9 (bK:List co) (Z:List bN) (ew:List Nat) (ae:au):Prop where
 bu:eF (.mU [] ew) (kW Z) ae
 b8:lj ae
 g2:fg bK Z
 aT:ae.aT=Z
 CZ:(mx Z).ih
 GV:(l2 Z).ih
 EY:∀ai e,go bK=.inr (ai,e)->(e=1/\ae.hu.bk=ai)\/(e=2/\ae.hu.bk<0/\ae.bU=ai)\/(e=3/\ae.hu.bk<0/\ae.bU<0/\eo ae=some ai)
 eD:∀em df,go bK=.inl (em,df)->ae.hu.bk<0/\ae.bU<0/\eo ae=none/\zW ae ew/\(∀ai e,fF (bK.length+1) em=.inr (ai,e)->lQ ae ew=.inr ((ai:Int),e))/\(∀e8 bP,fF (bK.length+1) em=.inl (e8,bP)->(∃bu,lQ ae ew=.inl (e8,bu)/\cP (λzy eJ=>cP (m4 ae.aC ae.aj) zy (dM eJ).1) bu bP/\∀eJ∈bP,(dM eJ).2=[])/\bP.length<=1000/\∀Z∈bP,Z.length<=100000/\Z≠[]/\∀ai∈Z,ai.bB.length<=1000000)/\(∃cc,fe ae cc)/\ae.bd=em.bd/\ae.aZ=em.aZ/\1<=em.bd/\em.bd<=1000000/\1<=em.aZ/\em.aZ<=12
theorem SQ(b:au):b.hu.bU=b.bU:=by
 unfold au.hu;split
 ·rfl
 ·unfold au.c8;split<;>rfl
theorem Ob{j:List bN}(p:fg hu j)(v:M j<=601):∃E b,y9 hu j E b:=by
 obtain⟨w,I⟩:=p.BN;obtain⟨E,b,q,t,x,J,y,z,r,s,a⟩:=CE p v;refine⟨E,b,q,t,p,x,r,s,λA e d=>?_,λgg K d=>?_⟩
 ·clear q r s;rw[d]at a;simp only[SQ]at a;exact a
 ·clear q r s;rw[d]at a;obtain⟨B,P,C,u,⟨iU,c⟩,f,g,D,h⟩:=a;obtain⟨i,gf,F,G,H,l⟩:=zf w T d;have m:c9 (M hu+1) gg.cJ<=100000:=T;refine⟨B,C,u,ID t u c f g y z h l i m,λA e o=>?_,λhZ k o=>?_,⟨iU,c⟩,D,h,F,G,H,l⟩
  ·have:=yX c f g h l i m;rw[o]at this;exact this
  ·have:=yX c f g h l i m;rw[o]at this;exact⟨this,N_ c f g i m o⟩
theorem EL(D:ByteArray)(c:D.size<=600)(hu:List co)(u:Nat)(d:u=D.size+1)(e:fw D u 0=hu):∃j E b,k2 D 0 j/\y9 hu j E b:=by obtain⟨j,a⟩:=Gu D D.size 0 T (bL _);have f:=(zK a (bL _) c).2.2;have h:=Di D a u (bL _) T;rw[e]at h;obtain⟨E,b,h⟩:=Ob h.1 T;exact⟨j,E,b,a,h⟩
theorem Ee(D:ByteArray)(a:D.size<=600):∃j E b,k2 D 0 j/\y9 (fh D) j E b:=EL D a _ _ rfl rfl
def RZ(L:aq)(i:(it×Nat×List (List aB))⊕(Nat×Nat))(g:an)(h:aq):Prop:=aF (S (R L)) L h/\match i with
 |.inr (l,e)=>g=b2 #[aD none,O Q (l:Nat),O Q (e:Nat)]
 |.inl (_,m,_)=>∃f o p s t,g=b2 #[aD (some ⟨f,0,none⟩),O Q 0,O Q 0]/\S (R L)<=f/\aL h f (ik o (U p s t) m) 127
theorem wd(D:ByteArray):(∀gg hZ k,ec D=.inl (gg,hZ,k)->M k<=1000/\∀j∈k,M j<=100000/\j≠[]/\∀c∈j,M c.bB<=1000000)/\(∀c e,ec D=.inr (c,e)->1<=e/\e<=8):=by
 by_cases d:600<D.size
 ·unfold ec;rw[aP d];refine⟨λgg hZ k h=>(by cases h),λc e h=>(by cases h;omega)⟩
 ·obtain⟨j,E,b,r,f⟩:=Ee D T;unfold ec;rw[aH d];have o:=f.EY;have p:=f.eD;cases g:go (fh D)with
  |inr a=>obtain⟨c,e⟩:=a;simp only;refine⟨λgg hZ k h=>(by cases h),λi l h=>?_⟩;cases h;rcases o _ _ g with h|h|h<;>omega
  |inl a=>
   obtain⟨gg,s⟩:=a;simp only;obtain⟨_,_,_,_,_,q,_⟩:=p _ _ g;cases m:fF (M (fh D)+1) gg with
   |inr a=>obtain⟨c,e⟩:=a;refine⟨λgg hZ k h=>(by cases h),λi l h=>?_⟩;cases h;exact QO m
   |inl a=>obtain⟨hZ,k⟩:=a;refine⟨λgg hZ k h=>?_,λi l h=>by cases h⟩;cases h;exact(q _ _ m).2
theorem C_(D:ByteArray)(L:aq):
 aR prog 39 #[az D] L λe I=>∃J,e=aM J/\RZ L (ec D) J I:=by
 by_cases i:600<D.size
 ·have e:ec D=.inr (600,1):=by unfold ec;rw[aP i]
  rw[e];refine(CX (pq []) D L 600 1 T T (OZ D L i)).mono ?_;rintro g I ⟨J,rfl,d,a⟩;exact⟨J,rfl,d,a⟩
 ·obtain⟨j,E,b,o,f⟩:=Ee D T;have p:=FR D T j o (λL=>DQ D T j o L) E b f.bu f.b8 f.CZ f.GV L;have q:=f.EY;have v:=f.eD;unfold ec;rw[aH i];cases l:go (fh D)with
  |inr c=>
   obtain⟨s,e⟩:=c;simp only;have t:1<=e/\e<=8:=by rcases q _ _ l with h|h|h<;>omega
   refine(CX b D L s e t.1 t.2 (p.mono ?_)).mono ?_
   ·rintro g I ⟨J,rfl,d,a⟩;refine⟨?_,d⟩;rcases q _ _ l with⟨rfl,r⟩|⟨rfl,r,x⟩|⟨rfl,r,x,H⟩
    ·rw[aP T,r]at a;rw[a];rfl
    ·rw[aH T,aP T,x]at a;rw[a];rfl
    ·rw[aH T,aH T,H]at a;rw[a];rfl
   ·rintro g I ⟨J,rfl,d,a⟩;exact⟨J,rfl,d,a⟩
  |inl c=>
   obtain⟨gg,g1⟩:=c;simp only;obtain⟨d,a,w,y,A,C,_⟩:=v _ _ l;refine(HM D L b E y (p.mono ?_)).mono ?_
   ·rintro g I ⟨J,rfl,m,G⟩;rw[aH T,aH T,w]at G;obtain⟨x,z,B,rfl,r,F,H⟩:=G;exact⟨x,z,B,rfl,r,F,H⟩
   ·rintro g I ⟨J,rfl,m,G⟩;refine⟨J,rfl,?_⟩;cases u:fF (M (fh D)+1) gg with
    |inr c=>obtain⟨s,e⟩:=c;rw[A _ _ u]at G;exact⟨m,G⟩
    |inl c=>obtain⟨hZ,k⟩:=c;obtain⟨⟨K,P,_⟩,_⟩:=C _ _ u;rw[P]at G;obtain⟨gE,x,gf,gj,gC,gF,gL,_⟩:=G;exact⟨m,gE,x,gf,M K,gj,gC,gF,gL⟩
theorem EJ{k:List (List aB)}(h:sL hu=.inl (gg,hZ,k)):∃b,go hu=.inl (gg,b)/\fF (M hu+1) gg=.inl (hZ,k):=by
 unfold sL at h;cases d:go hu with
 |inr a=>rw[d]at h;cases h
 |inl a=>
  obtain⟨e,b⟩:=a;rw[d]at h;simp only at h;cases c:fF (M hu+1) e with
  |inr a=>rw[c]at h;cases h
  |inl a=>rw[c]at h;obtain⟨f,g⟩:=a;simp only[Sum.inl.injEq,B6]at h;obtain⟨rfl,rfl,rfl⟩:=h;exact⟨b,rfl,c⟩
structure zj (a8:ByteArray) (em:it) (bP:List (List aB)) (ae:au) (bu:List (List (Nat×List Nat))):Prop where
 vn:k2 a8 0 ae.aT
 g2:∀bK,fh a8=bK->fg bK ae.aT
 cm:cP (λzy eJ=>cP (m4 ae.aC ae.aj) zy (dM eJ).1) bu bP
 KK:∀eJ∈bP,(dM eJ).2=[]
 b8:∃cc,fe ae cc
 bF:ae.bd=em.bd
 aZ:ae.aZ=em.aZ
 zP:1<=em.bd/\em.bd<=1000000
 zp:1<=em.aZ/\em.aZ<=12
def Bf(p:ByteArray)(L:aq)(s:it)(t:Nat)(v:List (List aB))(w:an)(e:aq):Prop:=
 aF (S (R L)) L e/\∃f i l m g y C o h,w=b2 #[aD (some ⟨f,0,none⟩),O Q 0,O Q 0]/\S (R L)<=f/\aL e f (ik i (U l (M h) m) t) 127/\bQ g e i y o/\g f=8/\k8 g e (U l (M h) m) h C/\aU (h6 (S (R L))) L g e/\zj p s v o h
theorem RW{D:ByteArray}(iZ:¬600<D.size){h:Nat}{k:List (List aB)}(e:fh D=hu)(i:go hu=.inl (gg,h))(l:fF (M hu+1) gg=.inl (hZ,k))(L:aq):
 aR prog 39 #[az D] L λe I=>∃J,e=aM J/\Bf D L gg hZ k J I:=by
 obtain⟨j,E,b,c,a⟩:=EL D T hu _ rfl e;have m:=FR D T j c (λL=>DQ D T j c L) E b a.bu a.b8 a.CZ a.GV L;have o:=a.g2;have f:=a.aT;obtain⟨i0,i1,p,q,i2,s,t,u,v,w,y,A,C⟩:=a.eD _ _ i;clear a;refine(HM D L b E q (m.mono ?_)).mono ?_
 ·rintro d I ⟨J,rfl,g,G⟩;rw[aH T,aH T,p]at G;obtain⟨x,z,B,rfl,r,F,H⟩:=G;exact⟨x,z,B,rfl,r,F,H⟩
 ·rintro d I ⟨J,rfl,g,G⟩;refine⟨J,rfl,g,?_⟩;obtain⟨⟨K,P,gf,gj⟩,_⟩:=s _ _ l;rw[P]at G;obtain⟨gE,x,gC,gL,g1,hE,hS,z,B,gF,hV,ih,iR,iU⟩:=G;refine⟨gE,x,gC,gL,z,B,gF,b,K,g1,hE,hS,hV,ih,iR,iU,⟨by rw[f];exact c,λjt d=>by rw[f,<-d,e];exact o,gf,gj,t,u,v,⟨w,y⟩,⟨A,C⟩⟩⟩
theorem Fm{D:ByteArray}{k:List (List aB)}(h:ec D=.inl (gg,hZ,k))(L:aq):
 aR prog 39 #[az D] L λe I=>∃J,e=aM J/\Bf D L gg hZ k J I:=by
 obtain⟨hu,e⟩:∃hu,fh D=hu:=⟨_,rfl⟩;have b:=zT e h;obtain⟨f,c,d⟩:=EJ b;have a:¬600<D.size:=by intro a;rw[ym e,aP a]at h;cases h
 exact RW a e c d L
