import Derived.Test.YtddbjcfdmdbmkaaGreatDoorB37
set_option linter.all false
set_option maxRecDepth 100000
set_option maxHeartbeats 6400000
namespace Go.Proofs.YtddbjcfdmdbmkaaGreatDoor
open Go.RowKit Go.Proofs.Tryz
open Go renaming Calls->aR,Value->an,World->aq
open Go.Ending renaming returned->aM
open Go.IntKind renaming i64->Q
open Go.Obj renaming cells->aw
open Go.Proofs renaming intOf->eg
open Go.RowKit renaming Below->aF,Hid->ag
open Go.Value renaming bool->cK,int->O,pointer->aD,slice->U,tuple->b2,ownBlock->ap
open _root_.Array renaming size->S
open Go.World renaming alloc->ar,cell?->aK,drew->cb,drewN->bY,heap->R,ownsRow->aY,setCell->ay
open List renaming length->M
variable{y L aI:aq}{d c o u a z I x K sU:Nat}{q:eU}{k w E:an}{ae:au}{ad:List be}{cl:Nat->Option cH}{j D:List (Nat×List Nat)}{bu:List (List (Nat×List Nat))}{A:Int}{F:List (List aB)}{b:kF}{G:it}{B H:Nat->Nat}
def e0:List Nat:=[]
theorem NQ(r:uc y d c q k o w u ae ad E cl j)(ra:∀b,tY y d ae ad E cl j [b]):tY y d ae ad E cl j e0:=by
 intro L gF t F v s rA hF rR S1 Cz sY CS jW ih;obtain rfl:=sY rfl;have j4:=r.oI;clear sY Cz CS;obtain⟨DM,D7,D9,El,ET⟩:=dY Tryz.Gl;obtain⟨i,mR⟩:∃i,i=(j.drop 1).map (is ae.aj cl j):=⟨_,rfl⟩;obtain⟨f,mY⟩:∃f,f=is ae.aj cl j j[0]:=⟨_,rfl⟩;have j9:ln ae cl j e0=f::i:=by show(j.drop 0).map _=_;rw[ku j4,hB,mR,mY]
 have kp:∀b,ln ae cl j [b]=i:=λb=>by unfold ln;rw[mR];rfl
 have tB:∀(b:Nat) (L:aq) (gF:an) (t:Nat) (F:an) (v:List es) (s:Nat),aF (S (R y)) y L->S (R y)<=t->ib (S (R y)) t L F v s->aY L (S (R y)) 3 1 gF 1 ([b].map λs=>O Q (s:Nat))->(∀g∈v,∀N,ap g.1=some N->ap gF≠some N)->b<M ad->(M v)+M (ge ad ae.bd i [b])<=1000000->s+M (gc ad ae.bd i [b])<=1000000->
  aR prog 99 #[aD (some ⟨d,0,none⟩),E,gF,aD (some ⟨t,0,none⟩)] L λe aI=>e=aM (b2 #[])/\∃gf m,gR (S (R y)) t L F v aI gf m (s+M (gc ad ae.bd i [b]))/\m.map (·.2)=ge ad ae.bd i [b]:=by
  intro b L gF t F v s z C Fi FM F2 F4 Ga Gl;have:=ra b L gF t F v s z C Fi FM F2 (λe=>by simp at e) (λGx m5=>by rw[dB.1 m5];exact F4) (by rw[kp];exact Ga) (by rw[kp];exact Gl);rw[kp]at this;exact this
 clear ra;obtain⟨ne,nB⟩:=Fx ad ae.bd f i e0;rw[j9,nB]at jW;rw[j9,ne]at ih;rw[j9,ne,nB];have tI:M (if e0≠[]/\hg ad f e0 (M ad)then [e0]else [])=jC ad f e0:=by unfold jC;split<;>rfl
 rw[bV,tI]at ih⊢;have iR:=r.i9.bI rA;have Th:=iR.j7;have Tj:=r.eJ.fV;obtain⟨Hp,nG,rfl⟩:=r.cz.cV;have TH:=iR.cr.am;have t8:=iR.cr.aa 3;simp[eB]at t8;obtain⟨TJ,ac,rfl⟩:=eK iR.eC;obtain⟨l,TK⟩:∃l,l+1=M ad:=⟨M ad-1,by have:=r.iF;omega⟩;have TP:(M ad:Int)-1=(l:Int):=T;have TQ:((0:Int)==(M j:Int))=false:=by rw[di];omega
 have ub:jC ad f e0=0:=by unfold jC;rw[aH (λa=>a.1 rfl)]
 have TR:(l:Int)+1=(M ad:Int):=T;have TS:(l:Int)<=1000000000:=T;have ug:ag (M v+M (hp ad ae.bd f i e0 (M ad))<=1000000):=jW;have uY:ag (s+(jC ad f e0+M (hP ad ae.bd f i e0 (M ad)))<=1000000):=ih;have vE:=tB;have wz:ag (f=is ae.aj cl j j[0]):=mY;clear tB j9 kp ne nB tI mR mY;have HY:ag (jC ad f e0=0):=ub;clear ub;go_enter func99,ntmps99;go_wp2
 go_loopw [12] (λoa wr=>∃(b:Nat) (G:an) (m:List es),ii e0<=b/\b<=M ad/\oa=O Q b/\gR (S (R y)) t L F v wr G m (s+jC ad f e0+M (hP ad ae.bd f i e0 b))/\m.map (·.2)=hp ad ae.bd f i e0 b) (λoa _=>M ad-(eg oa).toNat)
 case atStart=>exact⟨0,F,[],aN _,bL _,rfl,by rw[HY.out,show hP ad ae.bd f i e0 0=[]from Eh (aG:=e0)];exact gR.l rR,by rw[show hp ad ae.bd f i e0 0=[]from FL (aG:=e0)];rfl⟩
 case round=>
  obtain⟨b,G,m,H_,TT,rfl,gL,iU⟩:=hrel;have gg:=gL.ub rR rA rfl hF;have g1:=r.i9.bI gg;have ob:ps wr (U Hp (M j) nG) (U none 0 0) ad j e0:=⟨r.cz.bI gg,⟨none,0,rfl,λh=>absurd h (Nat.lt_irrefl 0)⟩,bL _,λGx m5=>by cases m5⟩;by_cases B:b<M ad
  ·obtain⟨g,kr,_⟩:=r.eJ.hi _ (b4 j4);have wB:=r.eJ.hi _ (b4 j4);obtain⟨oH,TU,TV,rfl,TW,J3,Ko,_⟩:=ob.cz.yC j4;have xf:∀oS e,f.hn oS e=im ae.aj cl j j[0].1 (ks ae.aj j[0].1) oS e:=λoS e=>by rw[wz.out];rfl
   generalize j[0].1=A at*;have xk:=o3.z_ wB kr (ad:=ad) (a_:=j) (ck:=e0) (bA:=b) (ab:=g.name);have xr:f.hn (cM ad e0) (cu ad b)=((g.ao==(cu ad b).ao)&&p7 (e2 ae.aj j (cM ad e0) (cu ad b) g.name) (cl A)):=by rw[xf];unfold im sE ks;rw[kr];rfl
   generalize p7 (e2 ae.aj j (cM ad e0) (cu ad b) g.name) (cl A)=kx at*;obtain⟨N,Kp,hu,hE,hS,ys,TX,TY,Kz,KJ,K4,K8,Lp,Ls,LB⟩:=g1.oa kr;have TZ:=g1.cr.am;have yC:=g1.cr.aa 0;simp[eB]at yC;have T0:=g1.fi.am;have o6:=g1.fi.aa 9;simp[cp]at o6;rw[ys]at o6;have T1:(0:Int)<=(A:Int):=T;have T2:(A:Int)<(M ae.aj:Int):=T;have T3:(0:Int)<(M j:Int):=T;have LI:(b:Int)<=(l:Int):=T;have y2:ag (f.hn (cM ad e0) (cu ad b)=((g.ao==(cu ad b).ao)&&kx)):=xr;clear ys xf xr kr wB;go_upto_region 14 with fail;go_region_held3 (λaI=>aK aI ⟨d,0,none⟩=some (aD (some ⟨c,0,none⟩))/\aK aI ⟨c,9,none⟩=some (U (some ⟨N,0,none⟩) (M ae.aj) Kp)/\aK aI ⟨oH,0,none⟩=some (O Q A)/\aK aI ⟨N,A*7,none⟩=some (O Q g.a1)/\aK aI ⟨N,A*7+1,none⟩=some (cK g.en)/\aK aI ⟨N,A*7+2,none⟩=some (.string g.name)/\aK aI ⟨N,A*7+3,none⟩=some (O Q g.ao)/\aK aI ⟨N,A*7+4,none⟩=some (O Q g.bG)/\aK aI ⟨N,A*7+5,none⟩=some (O Q g.bB)/\aK aI ⟨N,A*7+6,none⟩=some (U hu hE hS)) (go_keep) (fail);have gj:aF (S (R wr)) wr (cb (ar wr (aw (lz g (U hu hE hS)) 202))):=by have z:=(ca _ wr).alloc (aN _) (aw (lz g (U hu hE hS)) 202);exact⟨z.os,z.tape,z.output,z.size,z.block⟩
   have k1:aL (cb (ar wr (aw (lz g (U hu hE hS)) 202))) (S (R wr)) (lz g (U hu hE hS)) 202:=(aL.bT wr _ _).e;unfold lz at gj k1;generalize(cb (ar wr (aw #[O Q g.a1,cK g.en,.string g.name,O Q g.ao,O Q g.bG,O Q g.bB,U hu hE hS] 202)))=x at*;have y5:aF (S (R y)) y x:=gg.trans (gj.mono gg.size);have H:=r.i9.bI y5;have zc:=ob.bI gj;have zS:=gL.hi gj;have k7:l<M ad:=T;obtain⟨pa,T4,LL,py,LQ,lo,_⟩:=H.ne B;obtain⟨T5,T6,LU,_,u0,_⟩:=H.ne k7;injection LL with Mc Mj Mk;subst Mc;subst Mk;injection LU with iZ I hV;injection iZ with iZ;injection iZ with iZ;subst iZ;clear I hV Mj;have pF:=jR B;have z_:d8 ad=ad[l].aS:=by unfold d8;rw[show(M ad)-1=l by omega,jR k7]
   have Ai:ad[b].aS<=ad[l].aS:=by have:=r.cE b l T k7;rw[jR B,jR k7]at this;exact this
   have Ak:∀bu,aR prog 145 #[O Q ad[b].aS,O Q ad[l].aS] (bY x bu) λe aI=>e=aM (O Q (kP ad[b].aS ad[l].aS))/\∃a,aI=bY x a:=λbu=>by refine(xZ _ _ (r.h2 _ (b4 _)) (r.h2 _ (b4 _)) Ai _).mono ?_;rintro e aI ⟨z,C⟩;exact⟨z,bu,C⟩
   have Aq:ag (kP ad[b].aS ad[l].aS<ae.bd↔d8 ad-(cu ad b).aS<ae.bd):=by show _↔_;rw[z_,pF];exact ww r.bF
   have Az:ad[b].ao=(cu ad b).ao:=by rw[pF]
   rw[Az]at lo;generalize ad[b].aS=My at*;generalize ad[l].aS=MA at*;generalize kP My MA=l8 at*;have i0:ag (f.hn (cM ad e0) (cu ad b)=((g.ao==(cu ad b).ao)&&kx)):=y2.out;generalize(cu ad b).ao=gC at lo i0;have MC:=H.cr.am;have AE:=H.cr.aa 0;have pR:=H.cr.aa 3;simp[eB]at AE pR;have MD:=H.fi.am;have AV:=H.fi.aa 10;simp[cp]at AV;have T7:(0:Int)<=(b:Int):=T;have T8:(b:Int)<(M ad:Int):=T;have T9:(0:Int)<=(l:Int):=T;have T_:(l:Int)<(M ad:Int):=T;clear Kz KJ K4 K8 Lp Ls LB yC o6 J3 Ko pF z_ Ai Az ob g1 t8 iR y2;go_upto_region 15 with fail
   go_cut [14]from 71 to 162 (λMT M1=>MT=cK (decide (l8<ae.bd))/\∃bu,M1=bY x bu)
   case first=>
    go_quiet(first|(go_at_call 145;refine Ak _));go_wp2
    go_meet
    exact⟨rfl,_,rfl⟩
   obtain⟨rfl,bu,AW⟩:=hcut;have J:aF (S (R x)) x wc:=by rw[AW];exact⟨rfl,rfl,rfl,aN _,λ_ _=>rfl⟩
   have Ua:aK wc ⟨pa,b*5+1,none⟩=some (O Q gC):=(J.cell (p:=⟨pa,b*5+1,none⟩) py).trans lo;have Ub:pa<S (R wc):=cI py J.size;have i1:=k1.d (J.block _ k1.am);have M9:=i1.aa 2;have Nt:=i1.aa 3;have NF:=i1.aa 5;have Uc:=i1.am;simp at M9 Nt NF;have me:=H.bI J;have Bg:=zc.bI J;have Bo:=zS.hi J;have Ud:=me.cr.am;have pR:=me.cr.aa 3;simp[eB]at pR;have Bt:aF (S (R wr)) wr wc:=gj.trans (J.mono gj.size);clear AW J Ak u0 LQ lo i1 k1 H zc zS MC py MD AE AV gj y5;have K:∀bu,aF (S (R wc)) wc (bY wc bu):=λbu=>⟨rfl,rfl,rfl,aN _,λ_ _=>rfl⟩
   have mn:ag (jg ad ae.bd f e0 b=false->∀P,aF (S (R wc)) wc P->gR (S (R y)) t L F v P G m (s+jC ad f e0+M (hP ad ae.bd f i e0 (b+1)))/\m.map (·.2)=hp ad ae.bd f i e0 (b+1)):=λh P I=>by rw[(td h).1,(td h).2];exact⟨Bo.hi I,iU⟩
   have BE:∀bu,aR prog 146 #[aD (some ⟨d,0,none⟩),O Q g.bB,U (some ⟨oH,0,none⟩) (M j) nG,U none 0 0,O Q b,.string g.name] (bY wc bu) λe aI=>e=aM (cK kx)/\aF (S (R wc)) wc aI:=λbu=>by refine(xk _ _ _ _ _ _ _ _ _ _ (me.bI (K bu)) ((Bg.bI (K bu)).o r.eJ B)).mono ?_;rintro e aI ⟨z,C⟩;exact⟨z,⟨C.os,C.tape,C.output,C.size,C.block⟩⟩
   clear xk;go_upto_region 16 with fail;by_cases mO:l8<ae.bd
   ·have NR:decide (l8<ae.bd)=true:=by simpa using mO
    cases gE:(g.ao==gC)with
    |false=>
     have D:=mn.out (x9 (by rw[i0.out,gE];rfl));have pU:(g.ao !=gC)=true:=by simpa[bne]using gE
     go_quiet(fail);go_wp2;go_roundw
     case rel=>exact⟨b+1,G,m,T,B,bE,(D _ (K _)).1,(D _ (K 0)).2⟩
     case measure=>simp[eg];omega
    |true=>
     have pU:(g.ao !=gC)=false:=by simpa[bne]using gE
     go_quiet(fail);cases kx with
     |false=>
      have D:=mn.out (x9 (by rw[i0.out];simp));go_wp2_with(go_at_call 146;refine(BE _).mono ?_;rintro e P ⟨rfl,I⟩);go_roundw
      case rel=>exact⟨b+1,G,m,T,B,bE,(D _ I).1,(D _ I).2⟩
      case measure=>simp[eg];omega
     |true=>
      have BH:ag (jg ad ae.bd f e0 b=true->∀i2 jt,aF (S (R wr)) wr i2->aY i2 (S (R y)) 3 1 jt 1 ([b].map λs=>O Q (s:Nat))->(∀N,ap jt=some N->S (R wr)<=N)->
       aR prog 99 #[aD (some ⟨d,0,none⟩),U (some ⟨oH,0,none⟩) (M j) nG,jt,aD (some ⟨t,0,none⟩)] i2 λe aI=>e=aM (b2 #[])/\∃gf hZ,gR (S (R y)) t L F v aI gf hZ (s+jC ad f e0+M (hP ad ae.bd f i e0 (b+1)))/\hZ.map (·.2)=hp ad ae.bd f i e0 (b+1)):=λOD i2 jt BN OF OG=>by
       have BP:=gL.hi BN;have BV:=Hl (ad:=ad) (bF:=ae.bd) (aV:=f) (rest:=i) (aG:=e0) (al:=b+1) (W:=M ad) B;obtain⟨pX,pZ⟩:=xa (ad:=ad) (bF:=ae.bd) (aV:=f) (rest:=i) (aG:=e0) (al:=b) OD;rw[show e0++[b]=[b]from rfl]at pX pZ;have OW:M m=M (hp ad ae.bd f i e0 b):=by rw[<-iU];simp
       have jW:=ug.out;have ih:=uY.out;rw[pX,pZ]at BV;simp only[bV]at BV;refine(vE b i2 jt t G (v++m) _ (gg.trans (BN.mono gg.size)) hF BP.so OF (λPn P1 N qp Rp=>?_) B (by rw[bV,OW];omega) T).mono ?_
       ·have z:=((gL.so.dQ.fP Pn P1).lt N qp).2;have C:=OG N Rp;omega
       ·rintro e aI ⟨rfl,gf,hZ,qt,qP⟩;refine⟨rfl,gf,m++hZ,?_,?_⟩
        ·rw[pX,bV,<-hr];exact BP.q qt
        ·rw[dv,iU,qP,pZ]
      have RR:=BH.out (Dq H_ (Aq.out.1 mO) (by rw[i0.out,gE];rfl) (.inl rfl));have RU:∀qW,aF (S (R wc)) wc qW->aF (S (R wr)) wr qW:=λqW h=>Bt.trans (h.mono Bt.size)
      clear ug uY wz ih jW Bg me Bo gL iU BH vE mn i0;go_upto_region 24 with(go_at_call 146;refine(BE _).mono ?_;rintro e P ⟨rfl,I⟩);have hV:=RU _ I;have Ue:S (R y)<=S (R P):=bS gg.size hV.size;go_wp2_with(at_builtin;refine dq _ rfl _ _ 48 rfl (S (R y)) 3 DM _ 1 8 underlying48 D7 D9 El ET rfl ak _ 0 [] bf (eE _ _ _ _) ⟨S (R P),0,none⟩ 1 1 [O Q b] bf rfl (c4 (cB _ _ _ av)) ey ak cN T b7 (S (R P)+1) av ?_;intro Uf Ug Cs Sc Sn Sy Uh);have SV:aF (S (R wr)) wr Cs:=eY (hV.alloc hV.size _) Sn (λN e=>by simp[ap]at e);refine(RR Cs _ SV (by simpa using Sc) (λN qp=>?_)).mono ?_
      ·rcases Sy with e|e
       ·simp[ap]at e
       ·have:=hV.size;simp[ap]at qp;omega
      rintro e Ui ⟨rfl,gf,hZ,qt,qP⟩;go_wp2;go_roundw
      case rel=>exact⟨b+1,gf,hZ,T,B,bE,qt,qP⟩
      case measure=>simp[eg];omega
   ·have NR:decide (l8<ae.bd)=false:=by simpa using mO
    have D:=mn.out (Hz (λh=>mO (Aq.out.2 h)));cases gE:(g.ao==gC)with
    |false=>
     have pU:(g.ao !=gC)=true:=by simpa[bne]using gE
     go_quiet(fail);go_wp2;go_roundw
     case rel=>exact⟨b+1,G,m,T,B,bE,(D _ (K _)).1,(D _ (K 0)).2⟩
     case measure=>simp[eg];omega
    |true=>
     have pU:(g.ao !=gC)=false:=by simpa[bne]using gE
     go_quiet(fail);go_wp2;go_roundw
     case rel=>exact⟨b+1,G,m,T,B,bE,(D _ (K _)).1,(D _ (K 0)).2⟩
     case measure=>simp[eg];omega
  ·have SY:b=M ad:=by omega
   subst SY;have LI:¬(M ad:Int)<=(l:Int):=T;go_wp2
   go_end0
   exact⟨rfl,G,m,by rw[<-hr];exact gL,iU⟩
theorem Lf(e:uc y d c q k o w u ae ad E cl j):∀(b:Nat) (a:List Nat),M a+b=M j->tY y d ae ad E cl j a:=by
 intro b
 induction b with
 |zero=>intro a h;exact TF e h
 |succ b g=>
  intro a h;by_cases i:a=[]
  ·subst i;exact NQ e λf=>g [f] (by simp at h⊢;omega)
  ·exact SD e i T λf=>g (a++[f]) b7
def nd(L:aq)(i:an)(e:List (List (Nat×List Nat))):Prop:=
 ∃f:List an,M f=M e/\aY L 0 128 1 i (M e) f/\∀g,(h:g<M f)->(l:g<M e)->n9 L f[g] e[g]
def gr(e:au)(g:Nat->Option cH)(h:List be)(i:List (List (Nat×List Nat))):List (List Nat):=i.flatMap λf=>ge h e.bd (f.map (is e.aj g f)) []
def eW(e:au)(g:Nat->Option cH)(h:List be)(i:List (List (Nat×List Nat))):Nat:=(i.map λf=>M (gc h e.bd (f.map (is e.aj g f)) [])).sum
theorem KR(ae:au)(cl:Nat->Option cH)(ad:List be)(bu:List (List (Nat×List Nat)))(j:List (Nat×List Nat)):gr ae cl ad (bu++[j])=gr ae cl ad bu++ge ad ae.bd (j.map (is ae.aj cl j)) []:=by unfold gr;rw[nV];simp
theorem Jv(ae:au)(cl:Nat->Option cH)(ad:List be)(bu:List (List (Nat×List Nat)))(j:List (Nat×List Nat)):eW ae cl ad (bu++[j])=eW ae cl ad bu+M (gc ad ae.bd (j.map (is ae.aj cl j)) []):=by unfold eW;rw[dv,qO];simp
theorem I6(a:Nat):M (gr ae cl ad (bu.take a))<=M (gr ae cl ad bu)/\eW ae cl ad (bu.take a)<=eW ae cl ad bu:=by
 have h:∀b c:List (List (Nat×List Nat)),M (gr ae cl ad b)<=M (gr ae cl ad (b++c))/\eW ae cl ad b<=eW ae cl ad (b++c):=by intro b c;unfold gr eW;rw[nV,bV,dv,qO];omega
 have:=h (bu.take a) (bu.drop a);rw[vi]at this;exact this
theorem Eb(A:Int)(a:List dg):gc [] A a []=[]/\(a≠[]->ge [] A a []=[]):=by
 cases a with
 |nil=>exact⟨rfl,λh=>absurd rfl h⟩
 |cons b rest=>
  refine⟨?_,λ_=>?_⟩
  ·unfold gc;simp[pu]
  ·unfold ge;simp[pu]
theorem GG(a:∀j∈bu,j≠[]):gr ae cl [] bu=[]/\eW ae cl [] bu=0:=by
 induction bu with
 |nil=>exact⟨rfl,rfl⟩
 |cons j bu b=>
  obtain⟨c,d⟩:=b λe f=>a e (by simp[f])
  unfold gr eW at*;rw[ni,hB,qx,c,d,(Eb _ _).1,(Eb ae.bd (j.map (is ae.aj cl j))).2 (by simpa using a j av)];exact⟨rfl,rfl⟩
structure tL (L:aq) (b3 X:Nat) (cO:eU) (e3:an) (e8:Nat) (g_:an) (qY:Nat) (ae:au) (ad:List be) (cl:Nat->Option cH) (bu:List (List (Nat×List Nat))):Prop where
 i9:gp L b3 X cO e3 e8 g_ qY ae ad
 cm:nd L e3 bu
 eD:∀a_∈bu,qM ae cl a_
 oI:∀a_∈bu,0<a_.length
 fV:bu.length<=1000000
 cE:kb ad
 h2:∀e∈ad,c1 e.aS
 bF:ae.bd<=1000000
 tp:(gr ae cl ad bu).length<=1000000
 vs:eW ae cl ad bu<=1000000
theorem F5(h:tL L d c q k o w u ae ad cl bu):
 aR prog 63 #[aD (some ⟨d,0,none⟩)] L λe aI=>∃(r:an) (f:List es),e=aM (.agg #[r,O Q (eW ae cl ad bu:Nat)])/\et (S (R L)) aI r f/\f.map (·.2)=gr ae cl ad bu/\aF (S (R L)) L aI:=by
 have z:=h.i9;have qp:=z.j7;have qt:=h.fV;have qP:=z.cr.am;obtain⟨l8,ac,rfl⟩:=eK z.eC;obtain⟨A,qW,B,me⟩:=h.cm;obtain⟨ra,mn,rfl⟩:=eK B;go_enter func63,ntmps63;go_wp2
 go_loopw [4] (λgf wr=>∃(b:Nat) (r:an) (f:List es),b<=M bu/\gf=O Q b/\ib (S (R L)) (S (R L)+1) wr r f (eW ae cl ad (bu.take b))/\aL wr (S (R L)) #[U none 0 0,O Q 0] 133/\f.map (·.2)=gr ae cl ad (bu.take b)/\aF (S (R L)) L wr) (λgf _=>M bu-(eg gf).toNat)
 case atStart=>refine⟨0,U none 0 0,[],bL _,rfl,⟨?_,et.cL _ _⟩,(aL.bT _ _ _).a _,rfl,((ca _ L).alloc (aN _) _).alloc av _⟩;have:=aL.bT (ar L (aw #[U none 0 0,O Q 0] 133)) #[U none 0 0,O Q 0] 133;rw[show(S (R (ar L (aw #[U none 0 0,O Q 0] 133))))=S (R L)+1 by simp]at this;exact this
 case round=>
  obtain⟨b,r,f,rA,rfl,hF,i,K,s⟩:=hrel;have gg:=z.bI s;have rR:=gg.cr.am;have mO:=gg.cr.aa 1;have mR:=gg.cr.aa 3;simp[eB]at mO mR;by_cases P:b<M bu
  ·have jW:b<M A:=by omega
   have mY:(b:Int)<(M bu:Int):=T;have sY:(0:Int)<=(b:Int):=T;by_cases C:ad=[]
   ·have D:ag (eW ae cl ad (bu.take b)=eW ae cl ad bu/\gr ae cl ad (bu.take b)=gr ae cl ad bu):=by
     subst C;obtain⟨m5,ne⟩:=GG (ae:=ae) (cl:=cl) (bu:=bu) (λj gj=>Lm (h.oI j gj));obtain⟨nB,nG⟩:=GG (ae:=ae) (cl:=cl) (bu:=bu.take b) (λj gj=>Lm (h.oI j (pp gj)));exact⟨nG.trans ne.symm,nB.trans m5.symm⟩
    have oa:¬(0:Int)<(M ad:Int):=by rw[C];decide
    obtain⟨l,m,rfl⟩:=eK hF.dQ.bg;clear C;have gC:=hF.ax.aa 0;have gE:=hF.ax.aa 1;have gF:=i.aa 0;have gL:=i.aa 1;have ob:=i.b 0;have oH:=i.b 1;simp at gC gE gF gL;have oS:=hF.ax.am;have o6:=i.am;go_wp2;have E:=(i.j 0 (U l (M f) m)).j 1 (O Q (eW ae cl ad (bu.take b):Nat));have g1:=(s.setCell (p:=⟨S (R L),0,none⟩) (aN _) (U l (M f) m)).setCell (p:=⟨S (R L),1,none⟩) (aN _) (O Q (eW ae cl ad (bu.take b):Nat));have hu:et (S (R L)) (ay (ay wr ⟨S (R L),0,none⟩ (U l (M f) m)) ⟨S (R L),1,none⟩ (O Q (eW ae cl ad (bu.take b):Nat))) (U l (M f) m) f:=hF.dQ.i λc hE=>by
     have F:c≠S (R L):=λe=>by
      subst e;rcases hE with a|⟨hS,hV,a⟩
      ·exact ed i hF.dQ.bg ak a
      ·exact ed i (hF.dQ.fP hS hV) ak a
     rw[gw _ _ _ _ F,gw _ _ _ _ F]
    generalize(ay (ay wr ⟨S (R L),0,none⟩ (U l (M f) m))) ⟨S (R L),1,none⟩ (O Q (eW ae cl ad (bu.take b):Nat))=x at*;have G:=E.aa 0;have H:=E.aa 1;simp at G H;refine dG (v:=.agg #[U l (M f) m,O Q (eW ae cl ad (bu.take b):Nat)]) (by simp[results,results63,go_sem,G,H]) rfl ⟨_,by rw[D.out.1],f,hu,by rw[K,D.out.2],g1⟩
   ·have oa:(0:Int)<(M ad:Int):=by have:=lw.2 C;omega
    have j4:=b4 P;obtain⟨t,tB,pa,_,_⟩:=B.form T;injection pa with hZ ih iR;subst hZ;subst iR;clear ih;have j9:=(B.lt t rfl).2;have kp:aK L ⟨t,b,none⟩=some A[b]:=by have:=B.cells (g:=t) rfl b A[b] (by simp[jW]);rw[ez,du]at this;exact this
    have py:aK wr ⟨t,b,none⟩=some A[b]:=(s.cell (p:=⟨t,b,none⟩) j9).trans kp;have tI:t<S (R wr):=cI j9 s.size;have iU:=me b jW P;have iZ:bu.take (b+1)=bu.take b++[bu[b]]:=ev P;have i0:=I6 (ae:=ae) (cl:=cl) (ad:=ad) (bu:=bu) (b+1);have t8:=h.tp;have ub:=h.vs;have pF:M f=M (gr ae cl ad (bu.take b)):=by rw[<-K];simp
    have i1:=(congrArg (gr ae cl ad) iZ).trans (KR _ _ _ _ _);have i2:=(congrArg (eW ae cl ad) iZ).trans (Jv _ _ _ _ _);have kr:=i0.2;have kx:=i0.1;rw[i1,bV]at kx;rw[i2]at kr;have k1:uc L d c q (U (some ⟨t,0,none⟩) (M bu) mn) o (U l8 (M ad) ac) u ae ad A[b] cl bu[b]:=⟨z,iU,h.eD _ j4,h.oI _ j4,lw.2 C,h.cE,h.h2,h.bF⟩;have k7:=Lf k1 (M bu[b]) [] av wr (U none 0 0) (S (R L)+1) r f _ s T hF (eE _ _ _ _) (λ_ _ _ _ e=>by simp[ap]at e) (λ_=>rfl) (λug pR=>by simp at pR) (by show(M f)+M (ge ad ae.bd (bu[b].map (is ae.aj cl bu[b])) [])<=_;omega) (by show _+M (gc ad ae.bd (bu[b].map (is ae.aj cl bu[b])) [])<=_;omega);have pU:ag (∀aI I y,gR (S (R L)) (S (R L)+1) wr r f aI I y (eW ae cl ad (bu.take b)+M (gc ad ae.bd (ln ae cl bu[b] []) []))->y.map (·.2)=ge ad ae.bd (ln ae cl bu[b] []) []->ib (S (R L)) (S (R L)+1) aI I (f++y) (eW ae cl ad (bu.take (b+1)))/\aL aI (S (R L)) #[U none 0 0,O Q 0] 133/\(f++y).map (·.2)=gr ae cl ad (bu.take (b+1))/\aF (S (R L)) L aI):=λaI I y J jt=>by
     refine⟨by rw[i2];exact J.so,i.d (J.gY.o _ i.am (λe=>?_)),by rw[dv,K,jt,i1];rfl,J.ub hF s rfl T⟩;rcases e with e|e
     ·omega
     ·exact ed i hF.dQ.bg ak e
    obtain⟨uY,vE,pX⟩:=iU.cV;rw[pX]at py k7;clear i1 i2 kr kx i0 iZ pF k1 iU kp B;go_wp2_with(go_at_call 99;refine k7.mono ?_;rintro e wz ⟨rfl,I,y,J,jt⟩);obtain⟨hZ,ih,iR,pZ⟩:=pU.out _ _ _ J jt;go_wp2;go_roundw
    case rel=>exact⟨b+1,I,f++y,P,bE,hZ,ih,iR,pZ⟩
    case measure=>simp[eg];omega
  ·have lo:b=M bu:=by omega
   have D:ag (eW ae cl ad (bu.take b)=eW ae cl ad bu/\gr ae cl ad (bu.take b)=gr ae cl ad bu):=by rw[lo,eQ];exact⟨rfl,rfl⟩
   have mY:¬(b:Int)<(M bu:Int):=T;obtain⟨l,m,rfl⟩:=eK hF.dQ.bg;clear lo;have gC:=hF.ax.aa 0;have gE:=hF.ax.aa 1;have gF:=i.aa 0;have gL:=i.aa 1;have ob:=i.b 0;have oH:=i.b 1;simp at gC gE gF gL;have oS:=hF.ax.am;have o6:=i.am;go_wp2;have E:=(i.j 0 (U l (M f) m)).j 1 (O Q (eW ae cl ad (bu.take b):Nat));have g1:=(s.setCell (p:=⟨S (R L),0,none⟩) (aN _) (U l (M f) m)).setCell (p:=⟨S (R L),1,none⟩) (aN _) (O Q (eW ae cl ad (bu.take b):Nat));have hu:et (S (R L)) (ay (ay wr ⟨S (R L),0,none⟩ (U l (M f) m)) ⟨S (R L),1,none⟩ (O Q (eW ae cl ad (bu.take b):Nat))) (U l (M f) m) f:=hF.dQ.i λc hE=>by
    have F:c≠S (R L):=λe=>by
     subst e;rcases hE with a|⟨hS,hV,a⟩
     ·exact ed i hF.dQ.bg ak a
     ·exact ed i (hF.dQ.fP hS hV) ak a
    rw[gw _ _ _ _ F,gw _ _ _ _ F]
   generalize(ay (ay wr ⟨S (R L),0,none⟩ (U l (M f) m))) ⟨S (R L),1,none⟩ (O Q (eW ae cl ad (bu.take b):Nat))=x at*;have G:=E.aa 0;have H:=E.aa 1;simp at G H;refine dG (v:=.agg #[U l (M f) m,O Q (eW ae cl ad (bu.take b):Nat)]) (by simp[results,results63,go_sem,G,H]) rfl ⟨_,by rw[D.out.1],f,hu,by rw[K,D.out.2],g1⟩
theorem nd.bI(h:nd L k bu)(a:aF (S (R L)) L aI):nd aI k bu:=by obtain⟨d,e,c,f⟩:=h;exact⟨d,e,cw c λN g=>a.block N (c.lt N g).2,λi j b=>(f i j b).bI a⟩
theorem tL.bI(h:tL L d c q k o w u ae ad cl bu)(a:aF (S (R L)) L aI):tL aI d c q k o w u ae ad cl bu:=
 ⟨h.i9.bI a,h.cm.bI a,h.eD,h.oI,h.fV,h.cE,h.h2,h.bF,h.tp,h.vs⟩
theorem Qh(h:tL L d c q k o w u ae ad cl bu):
 aR prog 41 #[aD (some ⟨d,0,none⟩)] L λe aI=>e=aM (.agg #[O Q (M ad:Nat),O Q (eW ae cl ad bu:Nat),O Q (o:Nat),O Q (u:Nat)])/\aF (S (R L)) L aI:=by
 have l:aF (S (R L)) L (ar L (aw #[O Q 0,O Q 0,O Q 0,O Q 0] 27)):=(ca _ L).alloc (aN _) _;have A:=F5 (h.bI l);have m:=(h.bI l).i9.cr;have gf:=h.i9.cr.am;obtain⟨gg,ac,rfl⟩:=eK h.i9.eC;have p:=aL.bT L #[O Q 0,O Q 0,O Q 0,O Q 0] 27;generalize eW ae cl ad bu=b at*;clear h;go_enter func41,ntmps41;go_wp2_with(first|(go_at_call 63;refine A.mono ?_;rintro e i ⟨gj,B,rfl,r,C,j⟩;obtain⟨D,E,rfl⟩:=eK r.bg;clear r C;have f:=m.d (j.block d m.am);have a:=p.d (j.block (S (R L)) p.am);have F:=f.aa 2;have G:=f.aa 3;have H:=f.aa 4;simp[eB]at F G H;have I:=a.aa 0;have J:=a.aa 1;have K:=a.aa 2;have P:=a.aa 3;have gC:=a.b 0;have gE:=a.b 1;have gF:=a.b 2;have gL:=a.b 3;simp at I J K P;have fo:=f.am;have dt:=a.am;have g1:d<S (R i)+1:=T;have hu:S (R L)<S (R i)+1:=T))
 go_region
 go_wp2;have g:=((((((a.j 0 (O Q (M ad:Nat))).j 1 (O Q (b:Nat))).j 2 (O Q (o:Nat))).j 3 (O Q (u:Nat))).a (aw #[U D (M B) E,O Q (b:Nat)] 133)).e);have s:=g.aa 0;have t:=g.aa 1;have x:=g.aa 2;have y:=g.aa 3;simp at s t x y;have z:aF (S (R L)) L _:=eY (sd j) (wy i (S (R L)) (O Q (M ad:Nat)) (O Q (b:Nat)) (O Q (o:Nat)) (O Q (u:Nat))) (λN e=>by cases e;exact aN _);refine dG (v:=.agg #[O Q (M ad:Nat),O Q (b:Nat),O Q (o:Nat),O Q (u:Nat)]) (by simp[results,results41,go_sem,s,t,x,y]) rfl ⟨rfl,?_⟩;exact eY (z.alloc z.size _) (jm _ none) (λN e=>by cases e)
theorem gp.j9{g:an}{j:Nat}{a:List be}(h:gp L d c q k o w u ae ad)(v:aL aI d (eB c k o g j) 127)(x:aY aI 0 44 5 g (M a) (bC lc a))(l:∀N,N<S (R L)->N≠d->ap w≠some N->(R aI)[N]?=(R L)[N]?)(y:M a<=1000000000):gp aI d c q k o g j ae a:=by
 have m:∀{b p r:Nat} {s:an} {t:List an},aY L 0 b p s r t->127≠b->44≠b->aY aI 0 b p s r t:=λf z A=>cw f λN i=>l N (f.lt N i).2 (λe=>ed h.cr f z (e▸i)) (λe=>i4 h.eC f A N e i)
 refine⟨v,h.fi.d (l c h.fi.am (λe=>v6 h.cr h.fi ak e.symm) (ed h.fi h.eC ak)),m h.aC ak ak,m h.aj ak ak,h.gt,h.wZ,x,y⟩
theorem nd.j9(x:nd L k bu)(h:gp L d c q k o w u ae ad)(i:∀N,N<S (R L)->N≠d->ap w≠some N->(R aI)[N]?=(R L)[N]?):nd aI k bu:=by
 have j:∀{f r s:Nat} {t:an} {v:List an},aY L 0 f r t s v->127≠f->44≠f->aY aI 0 f r t s v:=λg l m=>cw g λN p=>i N (g.lt N p).2 (λe=>ed h.cr g l (e▸p)) (λe=>i4 h.eC g m N e p)
 obtain⟨y,l,m,z⟩:=x;refine⟨y,l,j m ak ak,λA B b=>?_⟩;obtain⟨C,D,E,F⟩:=z A B b;refine⟨C,D,j E ak ak,λG H e=>?_⟩;obtain⟨a,i⟩:=F G H e;exact⟨a,j i ak ak⟩
structure xj (ae:au) (cl:Nat->Option cH) (bu:List (List (Nat×List Nat))):Prop where
 eD:∀a_∈bu,qM ae cl a_
 oI:∀a_∈bu,0<a_.length
 fV:bu.length<=1000000
 bF:1<=ae.bd/\ae.bd<=1000000
 aZ:1<=ae.aZ/\ae.aZ<=12
def kv(f:Int)(g:List be)(h:Int)(i:Nat):Nat:=(g.take i).countP λe=>decide (h-e.aS<f)
theorem D0{b:Int}(h:a<M ad):kv A ad b (a+1)=kv A ad b a+if b-ad[a].aS<A then 1 else 0:=by
 unfold kv;rw[ev h,List.countP_append];congr 1;by_cases c:b-ad[a].aS<A
 ·simp[c]
 ·simp[c]
theorem Fe(A:Int)(ad:List be)(a:Int):kv A ad a (M ad)=nh A ad a:=by unfold kv nh;rw[eQ]
theorem DT(A:Int)(ad:List be)(b:Int)(a:Nat):kv A ad b a<=M ad:=by unfold kv;exact bS List.countP_le_length b7
theorem PJ(h:gp L d c q k o w u ae ad)(g:u≠0)(e:be):
 aR prog 102 #[aD (some ⟨d,0,none⟩),e4 e] L λb aI=>b=aM (b2 #[U none 0 0,O Q (u:Nat)])/\aF (S (R L)) L aI:=by
 have i:=h.cr.am;have f:=h.cr.aa 4;simp[eB]at f;have j:((u:Int)!=0)=true:=b7;have a:aF (S (R L)) L (ar L (aw (fM e) 44)):=(ca _ L).alloc (aN _) _;unfold e4;unfold fM at a;go_enter func102,ntmps102;go_upto_region 2 with fail;go_quiet(fail);go_wp2
 go_ret2
 exact⟨rfl,⟨a.os,a.tape,a.output,a.size,a.block⟩⟩
theorem Pg(h:gp L d c q k o w 0 ae ad)(e:be)(i:ad≠[])(j:e.aS<d8 ad):
 aR prog 102 #[aD (some ⟨d,0,none⟩),e4 e] L λu aI=>u=aM (b2 #[U none 0 0,O Q 7])/\aL aI d (eB c k o w 7) 127/\bv (λN=>N=d) L aI:=by
 have E:=h.cr.am;have F:=h.j7;obtain⟨a,v⟩:∃a,a+1=M ad:=⟨M ad-1,by have:=lw.2 i;omega⟩;have l:a<M ad:=T;have m:d8 ad=ad[a].aS:=by unfold d8;rw[show(M ad)-1=a by omega,jR l]
 have p:aF (S (R L)) L (ar L (aw (fM e) 44)):=(ca _ L).alloc (aN _) _;have g:=aL.bT L (fM e) 44;have r:=h.cr.aa 4;simp[eB]at r;have b:=h.bI p;have f:bv (λN=>N=d) L (ar L (aw (fM e) 44)):=(bv.l _ L).a _;obtain⟨G,H,rfl,y,u0,_⟩:=b.ne l;rw[m]at j;generalize ad[a].aS=z at*;have s:=h.cr.aa 3;simp[eB]at s;have I:(M ad:Int)-1=(a:Int):=T;have J:(0:Int)<=(a:Int):=T;have K:(a:Int)<(M ad:Int):=T;have P:(a:Int)<=1000000000:=T;have gf:(0:Int)<(M ad:Int):=T;have A:0<M ad:=T;have gg:decide (0<M ad)=true:=by simpa using A
 have gj:decide (e.aS<z)=true:=by simpa using j
 unfold e4;unfold fM at f p b g y u0;clear h v m i;go_enter func102,ntmps102;go_upto_region 4 with fail;generalize(ar L (aw #[O Q e.aS,O Q e.ao,O Q e.bj,O Q e.X,O Q e.aE] 44))=x at*;have B:=g.aa 0;have gC:=g.am;simp at B;have C:=b.cr.aa 3;have D:=b.cr.aa 4;have gE:=b.cr.b 4;have gF:=b.cr.am;simp[eB]at C D;have t:=b.cr.j 4 (O Q 7);clear b g s r;go_quiet(fail);go_wp2
 go_ret2
 exact⟨rfl,by simp[eB]at t;exact t,(show bv (λN=>N=d) L (bY x _)from⟨f.dR,f.hq,f.ho,f.b5,f.iA⟩).v (.inl rfl) _⟩
theorem JE(h:gp L d c q k o w 0 ae ad)(gg:xj ae cl bu)(iU:kb ad)(iZ:∀e∈ad,c1 e.aS)(e:be)(i0:c1 e.aS)(j:ad=[]\/d8 ad<=e.aS)(i1:ae.aZ<(nh ae.bd ad e.aS+1:Nat)):
 aR prog 102 #[aD (some ⟨d,0,none⟩),e4 e] L λt aI=>t=aM (b2 #[U none 0 0,O Q 8])/\aL aI d (eB c k o w 8) 127/\bv (λN=>N=d) L aI:=by
 have pR:=h.cr.am;have pU:=h.j7;have i2:=gg.bF;have pX:=gg.aZ;have u:aF (S (R L)) L (ar L (aw (fM e) 44)):=(ca _ L).alloc (aN _) _;have l:=aL.bT L (fM e) 44;have jt:=h.cr.aa 4;simp[eB]at jt;have gj:=h.eC;obtain⟨jW,ac,rfl⟩:=eK gj;have j4:=h.cr.aa 3;simp[eB]at j4;have i:=h.bI u;have v:ag (aF (S (R L)) L (ar L (aw (fM e) 44))):=u;have m:∀a,(p:a<M ad)->ad[a].aS<=e.aS:=λa p=>by
  rcases j with j|j
  ·rw[j]at p;simp at p
  ·have:=iU a (M ad-1) T T;rw[jR p]at this;unfold d8 at j;omega
 unfold e4;unfold fM at u i l v;have pZ:ag (gp L d c q k o (U jW (M ad) ac) 0 ae ad):=h;clear h gj;go_enter func102,ntmps102;go_upto_region 4 with fail;generalize(ar L (aw #[O Q e.aS,O Q e.ao,O Q e.bj,O Q e.X,O Q e.aE] 44))=x at*;have y:=l.aa 0;have gC:=l.am;simp at y
 go_cut [40]from 25 to 40 (λj9 kp=>j9=cK false/\∃f,kp=bY x f)
 case first=>
  have E:=i.cr.aa 3;have kr:=i.cr.am;simp[eB]at E;by_cases z:ad=[]
  ·have F:¬0<M ad:=by rw[z];decide
   have kx:decide (0<M ad)=false:=by simpa using F
   clear z j i m;go_quiet(fail);go_wp2
   go_meet
   exact⟨rfl,_,rfl⟩
  ·obtain⟨g,k1⟩:∃g,g+1=M ad:=⟨M ad-1,by have:=lw.2 z;omega⟩;have gE:g<M ad:=T;have qp:=m g gE;obtain⟨k7,lo,G,l8,u0,_⟩:=i.ne gE;injection G with H I J;subst H;subst J;generalize ad[g].aS=me at*;have qt:(M ad:Int)-1=(g:Int):=T;have qP:(0:Int)<=(g:Int):=T;have qW:(g:Int)<(M ad:Int):=T;have ra:(g:Int)<=1000000000:=T;have F:0<M ad:=T;have kx:decide (0<M ad)=true:=by simpa using F
   have rA:decide (e.aS<me)=false:=b7;clear z j i m k1 I;go_quiet(fail);go_wp2
   go_meet
   exact⟨rfl,_,rfl⟩
 case rest=>
  obtain⟨rfl,rR,gF⟩:=hcut;have A:aF (S (R x)) x wc:=by rw[gF];exact⟨rfl,rfl,rfl,aN _,λ_ _=>rfl⟩
  have K:=i.bI A;have B:=l.d (A.block _ l.am);have gL:aF (S (R L)) L wc:=v.out.trans (A.mono v.out.size);clear gF A i l y gC v u;go_wp2
  go_loopw [7,8] (λmn P wr=>∃a:Nat,a<=M ad/\P=O Q a/\mn=O Q ((1+kv ae.bd ad e.aS a:Nat):Int)/\∃f,wr=bY wc f) (λ_ P _=>M ad-(eg P).toNat)
  case atStart=>exact⟨0,bL _,rfl,rfl,0,rfl⟩
  case round=>
   obtain⟨a,p,rfl,rfl,mO,C⟩:=hrel;have g1:R wr=R wc:=by rw[C];rfl
   have r:aF (S (R wc)) wc wr:=by rw[C];exact⟨rfl,rfl,rfl,aN _,λ_ _=>rfl⟩
   have hu:ag (∀f,∃mR,bY wr f=bY wc mR):=λf=>⟨mO+f,by rw[C];simp[bY,hr]⟩
   have b:=K.bI r;have D:=B.d (r.block _ B.am);have y:=D.aa 0;have gC:=D.am;simp at y;have mY:=b.cr.aa 0;have E:=b.cr.aa 3;have kr:=b.cr.am;simp[eB]at mY E;have sY:=b.fi.am;have m5:=b.fi.aa 10;have ne:=b.fi.aa 11;simp[cp]at m5 ne;have tB:=DT ae.bd ad e.aS a;clear C;by_cases s:a<M ad
   ·obtain⟨k7,lo,G,l8,u0,_⟩:=b.ne s;injection G with H I J;subst H;subst J;clear I;have hE:kv ae.bd ad e.aS (a+1)=_:=D0 s;have hS:∀f,aR prog 145 #[O Q ad[a].aS,O Q e.aS] (bY wr f) λt aI=>t=aM (O Q (kP ad[a].aS e.aS))/\∃nB,aI=bY wr nB:=λf=>by refine(xZ _ _ (iZ _ (b4 _)) i0 (m a s) _).mono ?_;rintro t aI ⟨nG,oa⟩;exact⟨nG,f,oa⟩
    have hV:ag (kP ad[a].aS e.aS<ae.bd↔e.aS-ad[a].aS<ae.bd):=ww i2.2;have hZ:ag (kv ae.bd ad e.aS (a+1)=kv ae.bd ad e.aS a+if e.aS-ad[a].aS<ae.bd then 1 else 0):=hE;clear hE;generalize kv ae.bd ad e.aS a=gf at*;generalize ad[a].aS=ob at*;generalize kP ob e.aS=oH at*;have tI:(0:Int)<=(a:Int):=T;have oS:(a:Int)<(M ad:Int):=T;have t8:(a:Int)<=1000000000:=T;have ub:(gf:Int)<=1000000000:=T;clear K b B D g1 r m;by_cases ih:oH<ae.bd
    ·go_upto_region 11 with fail;go_quiet(first|(go_at_call 145;refine hS _));go_wp2;go_roundw
     case rel=>exact⟨a+1,s,bE,by rw[hZ.out,aP (hV.out.1 ih)];go_num,hu.out _⟩
     case measure=>simp[eg];omega
    ·go_upto_region 11 with fail;go_quiet(first|(go_at_call 145;refine hS _));go_wp2;go_roundw
     case rel=>exact⟨a+1,s,bE,by rw[hZ.out,aH (λN=>ih (hV.out.2 N))];rfl,hu.out _⟩
     case measure=>simp[eg];omega
   ·have o6:a=M ad:=by omega
    subst o6;rw[Fe]at*;have pa:aF (S (R L)) L wr:=gL.trans (r.mono gL.size);generalize nh ae.bd ad e.aS=gf at*;have oS:¬(M ad:Int)<(M ad:Int):=T;have ug:ae.aZ<(((1+gf:Nat)):Int):=T;have py:=b.cr.aa 4;have uY:=b.cr.b 4;simp[eB]at py;have iR:=b.cr.j 4 (O Q 8);simp[eB]at iR;have pF:bv (λN=>N=d) L wr:=bv.bI _ pa;clear K b B D g1 r m i1;go_wp2
    go_ret2
    exact⟨rfl,iR,pF.v (.inl rfl) _⟩
theorem Tryz.TK:(prog.info? 44).map (λa=>(a.zero,a.size,a.bytes))=some (some (.agg #[O Q 0,O Q 0,O Q 0,O Q 0,O Q 0]),5,40):=by kernel_rfl
theorem DC(c:xj ae cl bu){a:List Nat}(h:a∈gr ae cl ad bu):M a<=1000000/\∀b∈a,b<M ad:=by unfold gr at h;obtain⟨j,d,h⟩:=ky.1 h;obtain⟨k,e,f,l,g,m⟩:=(tg _ _ _).1 h;rw[fa]at e;subst e;refine⟨by rw[g,c_];exact(c.eD j d).fV,λb i=>?_⟩;have:=pG f av;rw[fa]at this;exact this b i
theorem LD(h:gp L d c q k o w 0 ae ad)(i1:nd L k bu)(E:xj ae cl bu)(oa:kb ad)(ob:∀e∈ad,c1 e.aS)(e:be)(oH:c1 e.aS)(z:ad=[]\/d8 ad<=e.aS)(AE:M ad<=100000000)(AV:((nh ae.bd ad e.aS+1:Nat):Int)<=ae.aZ)(oS:M (gr ae cl (ad++[e]) bu)<=1000000)(AW:eW ae cl (ad++[e]) bu<=1000000):
 aR prog 102 #[aD (some ⟨d,0,none⟩),e4 e] L λg aI=>∃(F:an) (B:List es) (N i:Nat),g=aM (b2 #[F,O Q 0])/\aY aI (S (R L)) 48 1 F (M B) (B.map (·.1))/\(∀b∈B,aY aI (S (R L)) 3 1 b.1 (M b.2) (b.2.map λm=>O Q (m:Nat)))/\h8 (B.map (·.2))/\(∀g1,g1∈B.map (·.2)↔g1∈gr ae cl (ad++[e]) bu)/\gp aI d c q k o (U (some ⟨N,0,none⟩) (M ad+1) i) 0 ae (ad++[e])/\nd aI k bu/\bv (λb=>b=d\/ap w=some b) L aI/\(ap w=some N\/S (R L)<=N):=by
 have Lp:=h.cr.am;obtain⟨Bg,Bo,Bt,BE,J⟩:=dY Tryz.TK;have Ls:=h.j7;have o6:=E.bF;have LB:=E.aZ;have hu:aF (S (R L)) L (ar L (aw (fM e) 44)):=(ca _ L).alloc (aN _) _;have G:=aL.bT L (fM e) 44;have BH:=h.cr.aa 4;simp[eB]at BH;have pa:=h.eC;obtain⟨l,ac,rfl⟩:=eK pa;have BN:=h.cr.aa 3;simp[eB]at BN;have t:=h.bI hu;have hE:ag (aF (S (R L)) L (ar L (aw (fM e) 44))):=hu;have H:∀a,(A:a<M ad)->ad[a].aS<=e.aS:=λa A=>by
  rcases z with z|z
  ·rw[z]at A;simp at A
  ·have:=oa a (M ad-1) T T;rw[jR A]at this;unfold d8 at z;omega
 unfold e4;unfold fM at hu t G hE;have py:ag (gp L d c q k o (U l (M ad) ac) 0 ae ad):=h;clear h pa;go_enter func102,ntmps102;go_upto_region 4 with fail;generalize(ar L (aw #[O Q e.aS,O Q e.ao,O Q e.bj,O Q e.X,O Q e.aE] 44))=x at*;have K:=G.aa 0;have pF:=G.am;simp at K
 go_cut [40]from 25 to 40 (λF P=>F=cK false/\∃m,P=bY x m)
 case first=>
  have hS:=t.cr.aa 3;have pR:=t.cr.am;simp[eB]at hS;by_cases hV:ad=[]
  ·have J:¬0<M ad:=by rw[hV];decide
   have BP:decide (0<M ad)=false:=by simpa using J
   clear hV z t H;go_quiet(fail);go_wp2
   go_meet
   exact⟨rfl,_,rfl⟩
  ·obtain⟨y,BV⟩:∃y,y+1=M ad:=⟨M ad-1,by have:=lw.2 hV;omega⟩;have pU:y<M ad:=T;have LI:=H y pU;obtain⟨Cs,Cz,i2,CS,u0,_⟩:=t.ne pU;injection i2 with jt jW j4;subst jt;subst j4;generalize ad[y].aS=DM at*;have LL:(M ad:Int)-1=(y:Int):=T;have LQ:(0:Int)<=(y:Int):=T;have LU:(y:Int)<(M ad:Int):=T;have Mc:(y:Int)<=1000000000:=T;have J:0<M ad:=T;have BP:decide (0<M ad)=true:=by simpa using J
   have Mj:decide (e.aS<DM)=false:=b7;clear hV z t H BV jW;go_quiet(fail);go_wp2
   go_meet
   exact⟨rfl,_,rfl⟩
 case rest=>
  obtain⟨rfl,pX,pZ⟩:=hcut;have hZ:aF (S (R x)) x wc:=by rw[pZ];exact⟨rfl,rfl,rfl,aN _,λ_ _=>rfl⟩
  have gf:=t.bI hZ;have j9:=G.d (hZ.block _ G.am);have qp:aF (S (R L)) L wc:=hE.out.trans (hZ.mono hE.out.size);clear pZ hZ t G K pF hE hu;go_wp2
  go_loopw [7,8] (λqt kp wr=>∃a:Nat,a<=M ad/\kp=O Q a/\qt=O Q ((1+kv ae.bd ad e.aS a:Nat):Int)/\∃m,wr=bY wc m) (λ_ kp _=>M ad-(eg kp).toNat)
  case atStart=>exact⟨0,bL _,rfl,rfl,0,rfl⟩
  case round=>
   obtain⟨a,A,rfl,rfl,D7,ih⟩:=hrel;have qP:R wr=R wc:=by rw[ih];rfl
   have I:aF (S (R wc)) wc wr:=by rw[ih];exact⟨rfl,rfl,rfl,aN _,λ_ _=>rfl⟩
   have kr:ag (∀m,∃D9,bY wr m=bY wc D9):=λm=>⟨D7+m,by rw[ih];simp[bY,hr]⟩
   have j:=gf.bI I;have u:=j9.d (I.block _ j9.am);have K:=u.aa 0;have pF:=u.am;simp at K;have qW:=j.cr.aa 0;have hS:=j.cr.aa 3;have pR:=j.cr.am;simp[eB]at qW hS;have El:=j.fi.am;have ra:=j.fi.aa 10;have rA:=j.fi.aa 11;simp[cp]at ra rA;have Mk:=DT ae.bd ad e.aS a;clear ih;by_cases gg:a<M ad
   ·obtain⟨Cs,Cz,i2,CS,u0,_⟩:=j.ne gg;injection i2 with jt jW j4;subst jt;subst j4;clear jW;have rR:kv ae.bd ad e.aS (a+1)=_:=D0 gg;have sY:∀m,aR prog 145 #[O Q ad[a].aS,O Q e.aS] (bY wr m) λg aI=>g=aM (O Q (kP ad[a].aS e.aS))/\∃ET,aI=bY wr ET:=λm=>by refine(xZ _ _ (ob _ (b4 _)) oH (H a gg) _).mono ?_;rintro g aI ⟨Fi,FM⟩;exact⟨Fi,m,FM⟩
    have tB:ag (kP ad[a].aS e.aS<ae.bd↔e.aS-ad[a].aS<ae.bd):=ww o6.2;have tI:ag (kv ae.bd ad e.aS (a+1)=kv ae.bd ad e.aS a+if e.aS-ad[a].aS<ae.bd then 1 else 0):=rR;clear rR;generalize kv ae.bd ad e.aS a=kx at*;generalize ad[a].aS=F2 at*;generalize kP F2 e.aS=F4 at*;have My:(0:Int)<=(a:Int):=T;have Ga:(a:Int)<(M ad:Int):=T;have MA:(a:Int)<=1000000000:=T;have MC:(kx:Int)<=1000000000:=T;clear gf j j9 u qP I H;by_cases t8:F4<ae.bd
    ·go_upto_region 11 with fail;go_quiet(first|(go_at_call 145;refine sY _));go_wp2;go_roundw
     case rel=>exact⟨a+1,gg,bE,by rw[tI.out,aP (tB.out.1 t8)];go_num,kr.out _⟩
     case measure=>simp[eg];omega
    ·go_upto_region 11 with fail;go_quiet(first|(go_at_call 145;refine sY _));go_wp2;go_roundw
     case rel=>exact⟨a+1,gg,bE,by rw[tI.out,aH (λN=>t8 (tB.out.2 N))];rfl,kr.out _⟩
     case measure=>simp[eg];omega
   ·have Gl:a=M ad:=by omega
    subst Gl;rw[Fe]at*;have gj:aF (S (R L)) L wr:=qp.trans (I.mono qp.size);generalize nh ae.bd ad e.aS=kx at*;have Ga:¬(M ad:Int)<(M ad:Int):=T;have MD:¬ae.aZ<(((1+kx:Nat)):Int):=T;have ub:∀p,aY (cb (ar wr p)) 0 44 5 (U l (M ad) ac) (M ad) (bC lc ad):=λp=>cw j.eC λb v=>fY _ _ _ (j.eC.lt b v).2
    have Gx:ap (U l (M ad) ac)≠some d:=ed j.cr j.eC ak;have iR:ag (∀{p:Obj} {r:aq},(cb (ar wr p)).grownBy r (ap (U l (M ad) ac))->aL r d (eB c k o (U l (M ad) ac) 0) 127):=λ{p r} gC=>(j.cr.a p).d (gC.block d (by show d<S (R (ar wr p));simp;omega) (λa=>Gx a.symm))
    have k1:ag (∀{p:Obj} {r:aq} {N i:Nat},(cb (ar wr p)).grownBy r (ap (U l (M ad) ac))->aY r 0 44 5 (U (some ⟨N,0,none⟩) (M ad+1) i) (M ad+1) (bC lc ad++lc e)->(ap (U l (M ad) ac)=some N\/N=S (R wr)+1)->
     gp (ay r ⟨d,3,none⟩ (U (some ⟨N,0,none⟩) (M ad+1) i)) d c q k o (U (some ⟨N,0,none⟩) (M ad+1) i) 0 ae (ad++[e])/\nd (ay r ⟨d,3,none⟩ (U (some ⟨N,0,none⟩) (M ad+1) i)) k bu/\bv (λb=>b=d\/ap (U l (M ad) ac)=some b) L (ay r ⟨d,3,none⟩ (U (some ⟨N,0,none⟩) (M ad+1) i))/\(ap (U l (M ad) ac)=some N\/S (R L)<=N)):=λ{p r N i} gC ug iU=>by
     have uY:=iR.out gC;have Hp:N≠d:=λa=>by have HY:=ed uY ug ak;exact HY (by rw[a];rfl)
     have A:∀b,b<S (R wr)->b≠d->ap (U l (M ad) ac)≠some b->(R (ay r ⟨d,3,none⟩ (U (some ⟨N,0,none⟩) (M ad+1) i)))[b]?=(R wr)[b]?:=λb t gf j=>by rw[gw _ _ _ _ gf,gC.block b (by show b<S (R (ar wr p));simp;omega) (λa=>j a.symm)];exact fY _ _ _ t
     have vE:=uY.j 3 (U (some ⟨N,0,none⟩) (M ad+1) i);simp[eB]at vE;have H_:aY (ay r ⟨d,3,none⟩ (U (some ⟨N,0,none⟩) (M ad+1) i)) 0 44 5 (U (some ⟨N,0,none⟩) (M ad+1) i) (M (ad++[e])) (bC lc (ad++[e])):=by
      have:bC lc (ad++[e])=bC lc ad++lc e:=by simp[bC]
      rw[this,bV];exact cw ug λb v=>gw _ _ _ _ (λa=>Hp (by cases v;exact a))
     refine⟨j.j9 vE H_ A b7,(i1.bI gj).j9 j A,?_,?_⟩
     ·have J3:bv (λb=>b=d\/ap (U l (M ad) ac)=some b) L (cb (ar wr p)):=by
       have:=(bv.bI (λb=>b=d\/ap (U l (M ad) ac)=some b) gj).a p;exact⟨this.dR,this.hq,this.ho,this.b5,this.iA⟩
      exact(J3.trans (bv.dj gC) (λ_ _ a=>.inr a)).v (.inl (.inl rfl)) _
     ·rcases iU with a|a
      ·exact .inl a
      ·exact .inr (by have:=gj.size;omega)
    have wz:=u.aa 0;have wB:=u.aa 1;have xf:=u.aa 2;have xk:=u.aa 3;have xr:=u.aa 4;simp at wz wB xf xk xr;have MT:M ad<=100000000:=AE;clear gf qP H AV;go_upto_region 17 with fail
    go_cut [3]from 83 (λKo P=>∃N i,Ko=aD (some ⟨S (R L),0,none⟩)/\gp P d c q k o (U (some ⟨N,0,none⟩) (M ad+1) i) 0 ae (ad++[e])/\nd P k bu/\bv (λb=>b=d\/ap (U l (M ad) ac)=some b) L P/\(ap (U l (M ad) ac)=some N\/S (R L)<=N))
    case first=>
     clear j u I gj py i1;go_region_law ((refine kc _ bf _ _ 50 bf 0 44 Bg _ 5 40 underlying50 Bo Bt BE J rfl ak (U l (M ad) ac) (M ad) (bC lc ad) bf (ub _) ⟨S (R wr),0,none⟩ 1 1 (lc e) bf rfl (c4 (cB _ _ _ av)) (by simp[lc,an.oneCell']) ak cN T (bL _) (S (R wr)+1) av ?_;intro N i r ys k7 iU M1;have lo:=iR.out k7;have Kp:=lo.aa 3;have M9:=lo.b 3;have Nt:=lo.am;simp[eB]at Kp))
     all_goals
      obtain⟨l8,iZ,me,mn⟩:=k1.out k7 ys iU;clear ys k7 iU k1 iR;go_wp2
      go_meet
      exact⟨N,i,rfl,l8,iZ,me,mn⟩
    case rest=>
     obtain⟨N,i,rfl,yC,y2,y5,Kz⟩:=hcut;have zc:tL _ d c q k o (U (some ⟨N,0,none⟩) (M ad+1) i) 0 ae (ad++[e]) cl bu:=⟨yC,y2,E.eD,E.oI,E.fV,oa.kp z,λg s=>by
      rcases dm.1 s with s|s
      ·exact ob g s
      ·rw[dB.1 s];exact oH,o6.2,oS,AW⟩
     have zS:=F5 zc;clear zc ub iR k1 qW hS ra rA wz wB xf xk xr K j u I gj kr py i1 pR El;go_upto_region 19 with(go_at_call 63;refine zS.mono ?_;rintro g C ⟨qt,D,rfl,gE,mO,z_⟩;obtain⟨gF,gL,rfl⟩:=eK gE.bg);have NF:M D<=1000000:=by rw[<-c_ (f:=λg:es=>g.2),mO];exact oS
     have mR:aF (S (R C)) C (ar C (aw #[U gF (M D) gL,O Q (eW ae cl (ad++[e]) bu:Nat)] 133)):=(ca _ C).alloc (aN _) _;have mY:=gE.i (aI:=ar C (aw #[U gF (M D) gL,O Q (eW ae cl (ad++[e]) bu:Nat)] 133)) (λb v=>mR.block b (by
      rcases v with a|⟨i0,m5,a⟩
      ·exact(gE.bg.lt b a).2
      ·exact((gE.fP i0 m5).lt b a).2))
     have ne:=aL.bT C #[U gF (M D) gL,O Q (eW ae cl (ad++[e]) bu:Nat)] 133;generalize(ar C (aw #[U gF (M D) gL,O Q (eW ae cl (ad++[e]) bu:Nat)] 133))=Ai at*;have Ak:∀g∈D,M g.2<=1000000/\∀b∈g.2,b<M ad+1:=λg s=>by
      have KJ:g.2∈gr ae cl (ad++[e]) bu:=by rw[<-mO];exact eG.2 ⟨g,s,rfl⟩
      have:=DC E KJ;simpa using this
     have K4:=IM (L:=Ai) (dH:=_) (wk:=gF) (xl:=gL) (bR:=D) ⟨mY,T,λg s=>by have:=(Ak g s).1;omega,λg s b v=>by have:=(Ak g s).2 b v;omega⟩;have pX:=ne.aa 0;have NR:=ne.am;simp at pX;have nB:aF _ wc Ai:=z_.trans (mR.mono z_.size);have Aq:=y5.b5;clear zS ne mR gE;go_wp2_with(go_at_call 152;refine K4.mono ?_;rintro g K8 ⟨F,B,rfl,l8,iZ,me,mn,Az⟩)
     go_ret2
     have nG:aF _ wc K8:=nB.trans (Az.mono nB.size);refine⟨F,B,N,i,rfl,qe l8 (bS Aq nB.size),λb v=>qe (cw (mY.fP b (iZ b v)) λi0 m5=>Az.block i0 ((mY.fP b (iZ b v)).lt i0 m5).2) Aq,me,λg1=>by rw[mn g1,mO],yC.bI nG,y2.bI nG,y5.trans (bv.bI (λb=>b=d\/ap (U l (M ad) ac)=some b) nG) (λ_ _ a=>a),Kz⟩
theorem Nw:∀(rest:List dg) (pre:List Nat),(ge ad A rest pre).Nodup:=by
 intro rest
 induction rest with
 |nil=>intro pre;unfold ge;split<;>simp
 |cons g rest b=>intro pre;unfold ge;refine B2 (Ho _ _ _ _) (λc _=>b _) (λc _ h _ i d e=>?_);obtain⟨j,f,_⟩:=(tg _ _ _).1 d;obtain⟨k,a,_⟩:=(tg _ _ _).1 e;rw[f]at a;simp at a;exact a.1
theorem JG:∀q a,gs q a<=2^q:=by
 intro q
 induction q with
 |zero=>intro a;cases a<;>simp[gs]
 |succ q b=>
  intro a;cases a with
  |zero=>simp[gs];exact Nat.one_le_two_pow
  |succ a=>have c:=b a;have d:=b (a+1);show gs q a+gs q (a+1)<=2^(q+1);rw[vy];omega
theorem O3{c:List dg}(i:kV A ad (d8 ad) z)(j:M ad-z<=12):M (ge ad A c [])<=4096:=by
 have d:M (ge ad A c [])<=M (mm z (M ad-z) (M c)):=by
  refine tS _ _ (Nw _ _) (λo k=>?_);obtain⟨p,e,f,l,m,_⟩:=(tg _ _ _).1 k;rw[fa]at e;subst e;rw[<-m];refine C4 _ _ _ (xF f) (λb g=>?_);have h:=pG f av;rw[fa]at h;have q:=h b g;have r:z<=b:=by
   rcases vC b z with a|a
   ·exact absurd (l b g) (i.f3 b a)
   ·exact a
  omega
 rw[Hh]at d;exact bS d (bS (JG _ _) (bS (sc ak j) ak))
theorem Jt{bD e:Type}(ah:bD->List e)(d:Nat):∀a:List bD,(∀b∈a,M (ah b)<=d)->M (a.flatMap ah)<=d*M a:=by
 intro a
 induction a with
 |nil=>intro _;simp
 |cons b a f=>
  intro h;rw[ni,bV,dT,Nat.mul_succ];have:=h b av;have:=f λc g=>h c (by simp[g])
  omega
structure m2 (ae:au) (bu:List (List (Nat×List Nat))) (aE:kF):Prop where
 a8:xj ae (gG ae) bu
 bF:ae.bd=aE.bF
 aZ:ae.aZ=aE.aZ
 Fh:cP (λa_ cz=>rf 0 (a_.map (is ae.aj (gG ae) a_)) (cz.map qw)) bu aE.cm
 fV:aE.cm.length<=16
 gV:∀ai∈aE.cm,ai≠[]
theorem ER{F:List (List gI)}(h:cP (λj a=>rf 0 (j.map (is ae.aj (gG ae) j)) (a.map qw)) bu F)(ad:List be):gr ae (gG ae) ad bu=sX (cS F) ae.bd ad/\eW ae (gG ae) ad bu=((cS F).map λb=>M (gc ad ae.bd b [])).sum:=by
 induction h with
 |cL=>exact⟨rfl,rfl⟩
 |d7 c _ d=>obtain⟨e,f⟩:=d;obtain⟨g,i⟩:=Td (ad:=ad) (bF:=ae.bd) _ _ [] c;unfold gr eW sX cS at*;simp only[ni,hB,qx];rw[e,f,g,i];exact⟨rfl,rfl⟩
theorem m2.cO(h:m2 ae bu b)(ad:List be):gr ae (gG ae) ad bu=sX (cS b.cm) b.bF ad:=by rw[<-h.bF];exact(ER h.Fh ad).1
theorem m2.aQ(h:m2 ae bu b)(ad:List be):eW ae (gG ae) ad bu=M (qL (cS b.cm) b.bF ad):=by rw[OA,<-h.bF];exact(ER h.Fh ad).2
theorem m2.tp(h:m2 ae bu b)(a:kV b.bF ad (d8 ad) z)(d:M ad-z<=b.aZ):M (gr ae (gG ae) ad bu)<=100000:=by rw[h.cO];have c:=h.a8.aZ.2;rw[h.aZ]at c;unfold sX;refine bS (Jt _ 4096 _ λe _=>O3 a T) ?_;have:=h.fV;unfold cS;rw[c_];omega
theorem m2.vs(h:m2 ae bu b)(a:kb ad)(c:g5 (cS b.cm) b.bF ad (d8 ad) D):eW ae (gG ae) ad bu=M D:=by rw[h.aQ];exact(CK a).FM c
theorem m2.ld(h:m2 ae bu b)(d:kb ad)(a:List Nat):a∈gr ae (gG ae) ad bu↔mv (cS b.cm) b.bF ad a:=by rw[h.cO];refine M_ d (λg c=>?_) a;unfold cS at c;obtain⟨e,f,rfl⟩:=eG.1 c;simpa using h.gV e f
theorem Q0{g:ByteArray}(b:zj g G F ae bu)(hF:rs g G o F)(k:an)(q:List an):m2 ae bu ⟨G.bd,G.aZ,k,F.map er,q⟩:=by
 have r:=b.cm.lo;have i:∀j∈bu,∃a∈F,cP (m4 ae.aC ae.aj) j (dM a).1:=λj c=>b.cm.iw j c
 have l:∀j∈bu,1<=M j/\M j<=8:=λj c=>by obtain⟨a,d,h⟩:=i j c;rw[h.lo];exact hF.cz a d
 refine⟨⟨λj c=>?_,λj c=>(l j c).1,by rw[r];have:=hF.fV;omega,?_,?_⟩,b.bF,b.aZ,?_,by simpa using hF.fV,λz d=>?_⟩
 ·obtain⟨a,d,h⟩:=i j c;refine K3 h (by have:=(l j c).2;omega) (λe s=>?_);obtain⟨m,t,u⟩:=h.iw e s;rw[u.2.lo];have v:=(sy a).nF;have p:=hF.Fv a d;have f:M m.2<=M ((dM a).1.flatMap λe=>e.2++[e.1]):=by have:=B9 (λe:aB×List aB=>e.2++[e.1]) (dM a).1 m t;simp only[bV]at this;omega
  have w:=congrArg M v;rw[bV]at w;omega
 ·rw[b.bF];have:=b.zP;omega
 ·rw[b.aZ];have:=b.zp;omega
 ·have p:=b.cm.me (sH:=λj a=>rf 0 (j.map (is ae.aj (gG ae) j)) ((er a).map qw)) λj a _ d h=>SO h (b.KK a d) (hF.bs a d)
  have f:=p.Hp (ah:=id) (N:=er) (sH:=λj x=>rf 0 (j.map (is ae.aj (gG ae) j)) (x.map qw)) (λ_ _ h=>h);rw[List.map_id]at f;exact f
 ·obtain⟨a,y,rfl⟩:=eG.1 d;have:=(hF.cz a y).1;rw[yd];intro e;have f:=congrArg M e;unfold mK at f;simp at f;rw[f]at this;simp at this
def PM(i:Nat->Prop)(L:aq)(l:an)(e:List (Nat×List Nat)):Prop:=
 ∃f:List an,M f=M e/\aY L 0 204 2 l (M e) (bC l3 (e.zip f))/\(∀N,ap l=some N->i N)/\∀g,(h:g<M f)->(r:g<M e)->(∃m,aY L 0 3 1 f[g] m (e[g].2.map λp:Nat=>O Q (p:Int)))/\∀N,ap f[g]=some N->i N
def s8(i:Nat->Prop)(L:aq)(l:an)(e:List (List (Nat×List Nat))):Prop:=
 ∃f:List an,M f=M e/\aY L 0 128 1 l (M e) f/\(∀N,ap l=some N->i N)/\∀g,(h:g<M f)->(m:g<M e)->PM i L f[g] e[g]
theorem s8.rA{a:Nat->Prop}(h:s8 a L k bu):nd L k bu:=by obtain⟨d,e,f,_,g⟩:=h;refine⟨d,e,f,λj l c=>?_⟩;obtain⟨m,o,p,_,q⟩:=g j l c;exact⟨m,o,p,λr b s=>(q r b s).1⟩
theorem s8.i{f m:Nat->Prop}(h:s8 f L k bu)(g:∀{e o p:Nat} {j:an} {q:List an},aY L 0 e o j p q->(∀N,ap j=some N->f N)->127≠e->44≠e->aY aI 0 e o j p q)(l:∀N,f N->m N):s8 m aI k bu:=by obtain⟨u,v,w,r,x⟩:=h;refine⟨u,v,g w r ak ak,λN d=>l N (r N d),λy z c=>?_⟩;obtain⟨A,B,C,s,D⟩:=x y z c;refine⟨A,B,g C s ak ak,λN d=>l N (s N d),λE b F=>?_⟩;obtain⟨⟨a,G⟩,t⟩:=D E b F;exact⟨⟨a,g G t ak ak⟩,λN d=>l N (t N d)⟩
def hM(e:Nat->Prop)(L:aq)(g r s:Nat)(t:kF)(v:List be):Prop:=
 ∃h f i l m p,gp L g h f i r l s m v/\s8 e L i p/\m2 m p t/\e g/\e h/\(∀N,ap f.mG=some N->e N)/\(∀N,ap f.e3=some N->e N)/\(∀N,ap l=some N->e N)
theorem hM.i{f:Nat->Prop}(h:hM f L d o u b ad)(l:∀N,f N->N<S (R L)->(R aI)[N]?=(R L)[N]?):hM f aI d o u b ad:=by
 obtain⟨c,q,k,w,ae,bu,e,D,E,r,s,t,v,x⟩:=h;have g:∀{y z A:Nat} {m:an} {B:List an},aY L 0 y z m A B->(∀N,ap m=some N->f N)->aY aI 0 y z m A B:=λj p=>cw j λN C=>l N (p N C) (j.lt N C).2
 exact⟨c,q,k,w,ae,bu,⟨e.cr.d (l d r e.cr.am),e.fi.d (l c s e.fi.am),g e.aC t,g e.aj v,e.gt,e.wZ,g e.eC x,e.j7⟩,D.i (λj p _ _=>g j p) (λ_ a=>a),E,r,s,t,v,x⟩
theorem M4(m:ByteArray)(L:aq)(h:ec m=.inl (G,o,F)):
 aR prog 39 #[.string m] L λt aI=>∃d u,t=aM (b2 #[aD (some ⟨d,0,none⟩),O Q 0,O Q 0])/\aF (S (R L)) L aI/\(∀N,u N->S (R L)<=N/\N<S (R aI))/\∀k p,hM u aI d o 0 ⟨G.bd,G.aZ,k,F.map er,p⟩ []:=by
 refine(Fm h L).mono ?_;rintro t aI ⟨j,rfl,C,d,c,D,E,B,q,z,ae,bu,rfl,H,v,f,iZ,I,J,K⟩;have P:=HK h;have w:∀{N:Nat},B N<12->S (R L)<=N:=λg=>J.Sy g
 refine⟨d,λN=>S (R L)<=N/\N<S (R aI),rfl,C,λN g=>g,λk p=>?_⟩;have l:∀{gf m gg:Nat} {j:an} {gj:List an} (b:Nat),aY aI 0 gf m j gg gj->(∀N,ap j=some N->B N=b)->b<12->∀N,ap j=some N->S (R L)<=N/\N<S (R aI):=λb r gC gE N g=>⟨w (by rw[gC N g];exact gE),(r.lt N g).2⟩
 refine⟨c,q,U D (M bu) E,U none 0 0,ae,bu,⟨v,f.ax,f.aC,f.aj,f.gt,λj gF=>?_,eE _ _ _ _,bL _⟩,?_,Q0 K P k p,⟨H,v.am⟩,⟨w (by rw[f.dN];decide),f.ax.am⟩,l 5 f.aC f.jP ak,l 6 f.aj f.cj ak,λN g=>by simp[ap]at g⟩
 ·obtain⟨i,i0,rfl⟩:=iW gF;have i1:=f.gt;have gL:(ae.aj[i]'T,q.fy[i])∈ae.aj.zip q.fy:=by have:(ae.aj.zip q.fy)[i]'(by rw[jT];omega)=(ae.aj[i]'T,q.fy[i]):=n7;rw[<-this];exact b4 _
  obtain⟨x,r,_⟩:=f.br _ gL;obtain⟨s,b,e⟩:=eK r;exact⟨s,_,b,e⟩
 ·obtain⟨x,g1,y,hu,hE⟩:=I;refine⟨x,g1,y,l 9 y (λN g=>(hu N g).1) ak,λi s hS=>?_⟩;obtain⟨hV,fo,dt,hZ,ih⟩:=hE i s hS;refine⟨hV,fo,dt,l 7 dt (λN g=>(hZ N g).1) ak,λiR e ah=>?_⟩;obtain⟨⟨a,A⟩,iU⟩:=ih iR e ah;exact⟨⟨a,A⟩,l 7 A iU ak⟩
def eh(f:Nat)(g:kF)(h:List be)(e:be):Nat:=if f≠0 then f else ff g.bF g.aZ h e.aS
def gv(g:Nat)(h:kF)(f:List be)(e:be):List be:=if eh g h f e=0 then f++[e]else f
theorem gO.rA{c:Nat->Prop}(h:gO c L I o u b ad):∃z D,g9 b ad z D/\M D<=o2 b.aZ (cS b.cm):=by obtain⟨e,d,z,f,g,j,k,l,m,a,p,q⟩:=h;exact⟨z,_,a,a.pX⟩
theorem OQ{m:Nat->Prop}(h:gO m L I o u b ad)(y:vb b)(z:M ad<=100000000)(e:be)(A:c1 e.aS):
 aR prog 27 #[aD (some ⟨I,0,none⟩),e4 e] L λx aI=>∃(p:an) (g:List es) (l:Nat) (f:Nat->Prop),x=aM (b2 #[p,O Q (eh u b ad e:Nat)])/\et l aI p g/\S (R L)<=l/\(∀c,(ap p=some c\/∃q∈g,ap q.1=some c)->¬f c)/\h8 (g.map (·.2))/\(∀i,i∈g.map (·.2)↔eh u b ad e=0/\mv (cS b.cm) b.bF (ad++[e]) i)/\(∀c,f c->m c\/S (R L)<=c)/\bv m L aI/\gO f aI I o (eh u b ad e) b (gv u b ad e):=by
 refine(OB h y z e A).mono ?_;rintro x aI ⟨f,J,K,r,s,B,t⟩;cases B with
 |qY j=>
  have d:eh u b ad e=u:=by unfold eh;rw[aP j]
  have k:gv u b ad e=ad:=by unfold gv;rw[d,aH j]
  rw[d,k];exact⟨_,[],S (R L),f,rfl,et.cL _ _,aN _,λc v=>by
   rcases v with a|⟨q,w,_⟩
   ·simp[ap]at a
   ·simp at w,List.Pairwise.nil,λi=>⟨λa=>by simp at a,λa=>absurd a.1 j⟩,r,s,t⟩
 |uZ j=>
  have d:eh 0 b ad e=ff b.bF b.aZ ad e.aS:=by unfold eh;rw[aH av]
  have k:gv 0 b ad e=ad:=by unfold gv;rw[d,aH j]
  rw[d,k];exact⟨_,[],S (R L),f,rfl,et.cL _ _,aN _,λc v=>by
   rcases v with a|⟨q,w,_⟩
   ·simp[ap]at a
   ·simp at w,List.Pairwise.nil,λi=>⟨λa=>by simp at a,λa=>absurd a.1 j⟩,r,s,t⟩
 |@eD P gf gg l g _ C D E F G H=>
  have d:eh 0 b ad e=0:=by unfold eh;rw[aH av,C]
  have k:gv 0 b ad e=ad++[e]:=by unfold gv;rw[d,aP rfl]
  rw[d,k];exact⟨_,g,l,f,rfl,D,E,F,G,λi=>by rw[H i];exact⟨λa=>⟨rfl,a⟩,λa=>a.2⟩,r,s,t⟩
theorem MP{s:Nat->Prop}(h:hM s L d o u b ad)(gj:∀N,s N->N<S (R L))(hu:kb ad)(hE:∀e∈ad,c1 e.aS)(j9:M ad<=100000000)(e:be)(hS:c1 e.aS)(kp:eh u b ad e=0->∃z D,g9 b (ad++[e]) z D/\M D<=1000000):
 aR prog 102 #[aD (some ⟨d,0,none⟩),e4 e] L λm aI=>∃(t:an) (i:List es) (F:Nat->Prop),m=aM (b2 #[t,O Q (eh u b ad e:Nat)])/\aY aI (S (R L)) 48 1 t (M i) (i.map (·.1))/\(∀f∈i,aY aI (S (R L)) 3 1 f.1 (M f.2) (f.2.map λC=>O Q (C:Nat)))/\h8 (i.map (·.2))/\(∀v,v∈i.map (·.2)↔eh u b ad e=0/\mv (cS b.cm) b.bF (ad++[e]) v)/\(∀N,F N->(s N\/S (R L)<=N)/\N<S (R aI))/\bv s L aI/\hM F aI d o (eh u b ad e) b (gv u b ad e):=by
 have kr:=h;obtain⟨c,q,k,w,ae,bu,j,gC,y,P,hV,hZ,ih,gE⟩:=h;by_cases G:u=0
 ·subst G;have iR:eh 0 b ad e=ff b.bF b.aZ ad e.aS:=by unfold eh;rw[aH av]
  have iU:∀(ah:Nat),ah≠0->ff b.bF b.aZ ad e.aS=ah->∀(m:Ending) (aI:aq),m=aM (b2 #[U none 0 0,O Q (ah:Nat)])->aL aI d (eB c k o w ah) 127->bv (λN=>N=d) L aI->
   ∃(t:an) (i:List es) (F:Nat->Prop),m=aM (b2 #[t,O Q (eh 0 b ad e:Nat)])/\aY aI (S (R L)) 48 1 t (M i) (i.map (·.1))/\(∀f∈i,aY aI (S (R L)) 3 1 f.1 (M f.2) (f.2.map λC=>O Q (C:Nat)))/\h8 (i.map (·.2))/\(∀v,v∈i.map (·.2)↔eh 0 b ad e=0/\mv (cS b.cm) b.bF (ad++[e]) v)/\(∀N,F N->(s N\/S (R L)<=N)/\N<S (R aI))/\bv s L aI/\hM F aI d o (eh 0 b ad e) b (gv 0 b ad e):=by
   intro ah iZ B m aI kx k1 H;have A:eh 0 b ad e=ah:=iR.trans B;have I:gv 0 b ad e=ad:=by unfold gv;rw[A,aH iZ]
   have k7:∀N,N<S (R L)->N≠d->ap w≠some N->(R aI)[N]?=(R L)[N]?:=λN p r _=>H.o N p r
   have lo:aY aI 0 44 5 w (M ad) (bC lc ad):=cw j.eC λN l=>H.o N (j.eC.lt N l).2 (λa=>ed j.cr j.eC ak (a▸l))
   rw[A,I];exact⟨_,[],s,kx,eE _ _ _ _,λf g=>by simp at g,List.Pairwise.nil,λv=>⟨λa=>by simp at a,λa=>absurd a.1 iZ⟩,λN l=>⟨.inl l,cI (gj N l) H.b5⟩,H.cE (λN _ a=>a▸P),c,q,k,w,ae,bu,j.j9 k1 lo k7 j.j7,gC.i (λx _ p _=>cw x λN l=>H.o N (x.lt N l).2 (λa=>ed j.cr x p (a▸l))) (λ_ a=>a),y,P,hV,hZ,ih,gE⟩
  have i0:=y.bF;have i1:=y.aZ;by_cases E:ad≠[]/\e.aS<d8 ad
  ·have B:ff b.bF b.aZ ad e.aS=7:=by unfold ff;rw[aP E]
   refine(Pg j e E.1 E.2).mono ?_;rintro m aI ⟨p,r,J⟩;exact iU 7 ak B m aI p r J
  ·have i2:ad=[]\/d8 ad<=e.aS:=by
    by_cases a:ad=[]
    ·exact .inl a
    ·right;rcases Int.lt_or_le e.aS (d8 ad)with N|N
     ·exact absurd ⟨a,N⟩ E
     ·exact N
   by_cases gf:b.aZ<nh b.bF ad e.aS+1
   ·have B:ff b.bF b.aZ ad e.aS=8:=by unfold ff;rw[aH E,aP gf]
    refine(JE j y.a8 hu hE e hS i2 (by rw[i1,i0];omega)).mono ?_;rintro m aI ⟨p,r,J⟩;exact iU 8 ak B m aI p r J
   ·have B:ff b.bF b.aZ ad e.aS=0:=by unfold ff;rw[aH E,aH gf]
    have A:eh 0 b ad e=0:=iR.trans B;have I:gv 0 b ad e=ad++[e]:=by unfold gv;rw[A,aP rfl]
    obtain⟨z,D,K,ne⟩:=kp A;have nB:=y.tp K.bF K.aZ;have nG:=y.vs K.cE K.db;refine(LD j gC.rA y.a8 hu hE e hS i2 j9 (by rw[i1,i0];omega) T T).mono ?_;rintro m aI ⟨t,i,N,oa,p,r,J,l8,me,jt,ob,gF,mn⟩;rw[A,I];have mO:N<S (R aI):=(jt.eC.lt N rfl).2;have gf:∀{gg jW C:Nat} {t:an} {j4:List an},aY L 0 gg jW t C j4->127≠gg->44≠gg->aY aI 0 gg jW t C j4:=λx mR mY=>cw x λgL g1=>gF.o gL (x.lt gL g1).2 (λa=>by
     rcases a with a|a
     ·exact ed j.cr x mR (a▸g1)
     ·exact i4 j.eC x mY gL a g1)
    refine⟨t,i,λf=>s f\/f=N,p,r,J,l8,λv=>?_,λf g=>?_,gF.cE (λf _ a=>?_),c,q,k,_,ae,bu,jt,gC.i (λx _ m5 c=>gf x m5 c) (λ_ a=>.inl a),y,.inl P,.inl hV,λf g=>.inl (hZ f g),λf g=>.inl (ih f g),λf g=>.inr (by cases g;rfl)⟩
    ·rw[me v,y.ld K.cE v];exact⟨λa=>⟨rfl,a⟩,λa=>a.2⟩
    ·rcases g with g|g
     ·exact⟨.inl g,cI (gj f g) gF.b5⟩
     ·subst g;refine⟨?_,mO⟩;rcases mn with a|a
      ·exact .inl (gE f a)
      ·exact .inr a
    ·rcases a with a|a
     ·exact a▸P
     ·exact gE f a
 ·have A:eh u b ad e=u:=by unfold eh;rw[aP G]
  have I:gv u b ad e=ad:=by unfold gv;rw[A,aH G]
  refine(PJ j G e).mono ?_;rintro m aI ⟨p,r⟩;rw[A,I];exact⟨_,[],s,p,eE _ _ _ _,λf g=>by simp at g,List.Pairwise.nil,λv=>⟨λa=>by simp at a,λa=>absurd a.1 G⟩,λN l=>⟨.inl l,cI (gj N l) r.size⟩,bv.bI s r,kr.i λN _ l=>r.block N l⟩
theorem LR{f:Nat->Prop}(h:hM f L d o u b ad)(a:g9 b ad z D)(m:M D<=1000000):
 aR prog 41 #[aD (some ⟨d,0,none⟩)] L λg aI=>g=aM (.agg #[O Q (M ad:Nat),O Q (M D:Nat),O Q (o:Nat),O Q (u:Nat)])/\aF (S (R L)) L aI:=by
 obtain⟨c,q,k,w,ae,bu,i,j,e,_⟩:=h;have p:=e.tp a.bF a.aZ;have l:=e.vs a.cE a.db;rw[<-l];exact Qh ⟨i,j.rA,e.a8.eD,e.a8.oI,e.a8.fV,a.cE,a.h2,e.a8.bF.2,T,T⟩
structure kB where
 d0:Nat
 ny:Nat
 b3:Nat
 e8:Nat
 ah:Nat
 aE:kF
 ad:List be
 aS:Int
 e6:Nat->Prop
 lB:Nat->Prop
variable{J:List kB}
structure mS (ab:Nat->Nat) (L:aq) (Y:Nat) (aG:kB):Prop where
 ax:aL L aG.d0 #[aD (some ⟨aG.ny,0,none⟩),aD (some ⟨aG.b3,0,none⟩),O Q aG.aS] 152
 nn:ab aG.d0=20+3*Y
 cr:gO aG.e6 L aG.ny aG.e8 aG.ah aG.aE aG.ad
 nY:∀X,aG.e6 X->ab X=21+3*Y
 i9:hM aG.lB L aG.b3 aG.e8 aG.ah aG.aE aG.ad
 m6:∀X,aG.lB X->ab X=22+3*Y/\X<L.heap.size
 nZ:vb aG.aE
 h2:c1 aG.aS
theorem mS.bM{e:Nat->Prop}{d:kB}(h:mS B L a d)(hF:bt e B L H aI)(f:¬e (20+3*a)/\¬e (21+3*a)/\¬e (22+3*a)):mS H aI a d:=by
 obtain⟨j,k⟩:=hF.ci d.d0 h.ax.am (by rw[h.nn];exact f.1);have g:∀c,d.e6 c->H c=B c/\(R aI)[c]?=(R L)[c]?:=λc b=>hF.ci c (h.cr.am c b) (by rw[h.nY c b];exact f.2.1)
 have i:∀c,d.lB c->H c=B c/\(R aI)[c]?=(R L)[c]?:=λc b=>hF.ci c (h.m6 c b).2 (by rw[(h.m6 c b).1];exact f.2.2)
 have l:bv (λc=>¬d.e6 c) L aI:=⟨hF.dR,hF.hq,hF.ho,hF.b5,λc b=>(g c (Ct λa=>b.2 a)).2⟩;exact⟨h.ax.d k,j.trans h.nn,h.cr.i l (λc b=>b),λc b=>(g c b).1.trans (h.nY c b),h.i9.i (λc b _=>(i c b).2),λc b=>⟨(i c b).1.trans (h.m6 c b).1,cI (h.m6 c b).2 hF.b5⟩,h.nZ,h.h2⟩
structure pV (ab:Nat->Nat) (L:aq) (f8:Nat) (pL:List kB) (fk:Nat) (jj:an) (n:Nat) (jo he fQ f1:an) (bH:List an) (rD:List Int) (ct:List an) (dR:List Int):Prop where
 aQ:ft ab L f8 jj n jo he fQ f1 bH rD ct dR
 hj:iB ab L bH rD
 hl:iq ab L ct dR
 eC:gh ab L 10 153 jj (pL.map λaG=>aD (some ⟨aG.d0,0,none⟩))
 kX:∀Y,(h:Y<pL.length)->mS ab L Y pL[Y]
 mC:pL.length<=fk
 j7:∀aG∈pL,aG.ad.length<=fk
 qN:bH.length<=400000*fk
 q8:ct.length<=4*fk
 rC:n<=100001*fk
 fV:fk<=2000000
def dx(e:Nat->Nat)(L:aq)(f:Nat)(g:List kB)(h:Nat):Prop:=∃i l m p r s t v C P,pV e L f g h i l m p r s t v C P
theorem pV.bM{nm:Nat->Prop}{f:an}{g:Nat}{i j k:an}{l:List an}{m:List Int}{o:List an}{p:List Int}(h:pV B L x J K f g i j E k l m o p)(hF:bt nm B L H aI)(q:∀b,nm b->b=0\/(7<=b/\b<=9))(d:K<=sU)(r:sU<=2000000):pV H aI x J sU f g i j E k l m o p:=by
 have c:∀b,¬b=0->¬(7<=b/\b<=9)->¬nm b:=λb v w a=>by rcases q b a with e|e<;>omega
 exact⟨h.aQ.bM hF (λb a=>by rcases q b a with e|e<;>omega),h.hj.bM hF (c 6 ak ak),h.hl.bM hF (c 6 ak ak),h.eC.bM hF (c 10 ak ak),λa s=>(h.kX a s).bM hF ⟨c _ T T,c _ T T,c _ T T⟩,bS h.mC d,λt u=>bS (h.j7 t u) d,bS h.qN (zk _ d),bS h.q8 (zk _ d),bS h.rC (zk _ d),r⟩
theorem bt.bI{b:Nat->Prop}(h:aF (S (R L)) L aI):bt b B L B aI:=⟨h.os,h.tape,h.output,h.size,λc d _=>⟨rfl,h.block c d⟩⟩
theorem dx.bI(h:dx B L x J K)(c:aF (S (R L)) L aI)(d:K<=sU)(e:sU<=2000000):dx B aI x J sU:=by obtain⟨f,g,i,j,E,k,l,m,o,p,h⟩:=h;exact⟨f,g,i,j,E,k,l,m,o,p,h.bM (nm:=λ_=>False) (bt.bI c) (λb a=>a.elim) d e⟩
def kB.iF(f:kB)(e:be)(g h:Nat->Prop):kB:={f with ah:=eh f.ah f.aE f.ad e,ad:=gv f.ah f.aE f.ad e,aS:=if eh f.ah f.aE f.ad e=0 then e.aS else f.aS,e6:=g,lB:=h}
theorem Sv(ah:Nat)(b:kF)(ad:List be)(e:be):M (gv ah b ad e)<=M ad+1:=by
 unfold gv;split
 ·simp
 ·omega
