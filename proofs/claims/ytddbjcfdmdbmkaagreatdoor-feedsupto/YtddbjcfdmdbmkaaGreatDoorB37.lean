import Derived.Test.YtddbjcfdmdbmkaaGreatDoorB36
set_option linter.all false
set_option maxRecDepth 100000
set_option maxHeartbeats 6400000
namespace Go.Proofs.YtddbjcfdmdbmkaaGreatDoor
open Go.RowKit Go.Proofs.Tryz
open Go.IntKind renaming i64->Q
open Go.RowKit renaming Below->aF,Hid->ag
open Go.Value renaming int->O,pointer->aD,slice->U,ownBlock->ap
open Go.World renaming cell?->aK,drewN->bY,heap->R,ownsRow->aY
open List renaming length->M
def nT(a:List Nat):Int:=(ii a:Int)-1
theorem Tryz.Gl:(prog.info? 3).map (λa=>(a.zero,a.size,a.bytes))=some (some (O Q 0),1,8):=by kernel_rfl
def jC(a:List be)(c:dg)(b:List Nat):Nat:=if b≠[]/\hg a c b (M a)then 1 else 0
theorem Gt{a:List Nat}{b:Nat}(c:b+1=M a):a.getLastD 0=a[b]'T:=by rw[l7,ws,show(M a)-1=b by omega,dz T];rfl
theorem SD{l:World}{gC tB:Nat}{Rp:eU}{RR:Value}{RU:Nat}{Sc:Value}{Sn:Nat}{d:au}{b:List be}{m5:Value}{F:Nat->Option cH}{k:List (Nat×List Nat)}(u:uc l gC tB Rp RR RU Sc Sn d b m5 F k){a:List Nat}(A:a≠[])(ih:M a<M k)(Bt:∀c,tY l gC d b m5 F k (a++[c])):tY l gC d b m5 F k a:=by
 intro L gE w B x j tI hF ne nB Sy SV iR nG j9;obtain⟨BE,BH,BN,BP,BV⟩:=dY Tryz.Gl;obtain⟨m,t8⟩:∃m,m=(k.drop (M a+1)).map (is d.aj F k):=⟨_,rfl⟩;obtain⟨f,oa⟩:∃f,f=is d.aj F k k[M a]:=⟨_,rfl⟩;have ob:ln d F k a=f::m:=by unfold ln;rw[ku ih,hB,t8,oa]
 have oH:∀c,ln d F k (a++[c])=m:=λc=>by unfold ln;rw[bV,t8];rfl
 have Cs:∀(c:Nat) (L:World) (gE:Value) (w:Nat) (B:Value) (x:List es) (j:Nat),aF (R l).size l L->(R l).size<=w->ib (R l).size w L B x j->aY L (R l).size 3 1 gE (M a+1) ((a++[c]).map λj=>O Q (j:Nat))->(∀i∈x,∀N,ap i.1=some N->ap gE≠some N)->c<M b->(M x)+M (ge b d.bd m (a++[c]))<=1000000->j+M (gc b d.bd m (a++[c]))<=1000000->
  Calls prog 99 #[aD (some ⟨gC,0,none⟩),m5,gE,aD (some ⟨w,0,none⟩)] L λe o=>e=.returned (.tuple #[])/\∃gF q,gR (R l).size w L B x o gF q (j+M (gc b d.bd m (a++[c])))/\q.map (·.2)=ge b d.bd m (a++[c]):=by
  intro c L gE w B x j y C SY S1 Th Tj TH TJ;have:=Bt c L gE w B x j y C SY (by rw[bV];exact S1) Th (λe=>by simp at e) (λTK kp=>by
   rcases dm.1 kp with kp|kp
   ·exact iR TK kp
   ·rw[dB.1 kp];exact Tj) (by rw[oH];exact TH) (by rw[oH];exact TJ)
  rw[oH]at this;exact this
 clear Bt;obtain⟨ub,ug⟩:=Fx b d.bd f m a;rw[ob,ug]at nG;rw[ob,ub]at j9;rw[ob,ub,ug];have Cz:M (if a≠[]/\hg b f a (M b)then [a]else [])=jC b f a:=by unfold jC;split<;>rfl
 rw[bV,Cz]at j9⊢;have iU:=u.i9.bI tI;have UM:=iU.j7;have UN:=u.eJ.fV;obtain⟨CS,oS,rfl⟩:=u.cz.cV;have UO:=iU.cr.am;have DM:=iU.cr.aa 3;simp[eB]at DM;obtain⟨UP,ac,rfl⟩:=eK iU.eC;obtain⟨s,UQ⟩:∃s,s+1=M b:=⟨M b-1,by have:=u.iF;omega⟩;have TP:ps L (U CS (M k) oS) gE b k a:=⟨u.cz.bI tI,fb.pU nB,T,iR⟩;have o6:=λ(D7 D9:Nat) (y:D7<M b) (C:D9<=M b)=>Gb iU TP u.eJ ih D7 D9 y C
 rw[<-oa]at o6;have TQ:=fb.pU nB;obtain⟨El,kr,rfl,uY⟩:=TQ;have UR:(M b:Int)-1=(s:Int):=T;have US:((M a:Int)==(M k:Int))=false:=by rw[di];omega
 have UT:(s:Int)+1=(M b:Int):=T;have UU:(s:Int)<=1000000000:=T;have ET:ag (M x+M (hp b d.bd f m a (M b))<=1000000):=nG;have Fi:ag (j+(jC b f a+M (hP b d.bd f m a (M b)))<=1000000):=j9;have FM:=Cs;have vE:ag (f=is d.aj F k k[M a]):=oa;clear Cs ob oH ub ug Cz t8 oa;have wz:ag (a≠[]->∀c,hg b f a c↔m0 b f a (a.getLastD 0) c=true):=λ_ c=>by rw[HG];rfl
 go_enter func99,ntmps99;go_upto_if 48 with fail
 go_cut [10,11]from 47 to 68 (λwB _ xf=>wB=O Q (nT a)/\gR (R l).size w L B x xf B [] (j+jC b f a))
 case first=>
  obtain⟨t,pa⟩:∃t,t+1=M a:=⟨M a-1,by have:=lw.2 A;omega⟩;obtain⟨kx,rfl,UV,F2⟩:=uY T;have F4:=F2 t T;have xk:=Gt pa;have py:a[t]<M b:=iR _ (b4 _);have Ga:nT a=(a[t]:Int):=by unfold nT ii;rw[aH A,xk];omega
  have Gl:=o6 a[t] (M b) py (aN _);have pF:=wz.out A;rw[xk]at pF;have Gx:ag (nT a=(a[t]:Int)):=Ga;have UW:(M a:Int)-1=(t:Int):=T;have UX:(0:Int)<=(t:Int):=T;have UY:(t:Int)<(M a:Int):=T;have UZ:(t:Int)<=1000000000:=T;have TR:(0:Int)<(M a:Int):=T;have Hp:ag (jC b f a=if m0 b f a a[t] (M b)=true then 1 else 0):=by
   show _=_;unfold jC;by_cases gL:m0 b f a a[t] (M b)=true
   ·rw[aP ⟨A,(pF _).2 gL⟩,aP gL]
   ·rw[aH (λk1=>gL ((pF _).1 k1.2)),aH gL]
  generalize m0 b f a a[t] (M b)=TS at*;have HY:=gR.l ne;have U0:(j:Int)<=1000000:=T;clear F2 o6 uY xk pF Ga A;generalize a[t]=U1 at*;clear pa;cases TS with
  |false=>
   go_wp2_with(go_at_call 144;refine Gl.mono ?_;rintro e TT ⟨rfl,I⟩)
   go_meet
   exact⟨by rw[Gx.out],by rw[Hp.out];exact HY.hi I⟩
  |true=>
   go_wp2_with(go_at_call 144;refine Gl.mono ?_;rintro e TT ⟨rfl,I⟩;have pR:=ne.i I;have TU:=pR.ax.aa 1;have U2:=pR.ax.b 1;have U3:=pR.ax.am;simp at TU)
   go_meet
   refine⟨by rw[Gx.out],?_⟩;rw[Hp.out];have H_:=(HY.hi I);exact⟨by rw[jN];exact pR.f9 (j+1),H_.gY.v (.inl (.inl rfl)) _,H_.nN⟩
 case rest=>
  obtain⟨rfl,J3⟩:=hcut;have TV:nT a+1=(ii a:Int):=by unfold nT;omega
  have xr:ii a<=M b:=by
   unfold ii
   ·rw[aH A];obtain⟨t,pa⟩:∃t,t+1=M a:=⟨M a-1,by have:=lw.2 A;omega⟩;rw[Gt pa];exact iR _ (b4 _)
  have U4:(ii a:Int)<=1000000000:=T;have U5: -1<=nT a/\nT a<=1000000000:=by unfold nT;omega
  clear o6 uY Sy;go_wp2
  go_loopw [12] (λys wr=>∃(c:Nat) (G:Value) (q:List es),ii a<=c/\c<=M b/\ys=O Q c/\gR (R l).size w L B x wr G q (j+jC b f a+M (hP b d.bd f m a c))/\q.map (·.2)=hp b d.bd f m a c) (λys _=>M b-(intOf ys).toNat)
  case atStart=>exact⟨ii a,B,[],aN _,xr,by first|rw[TV]|simp,by rw[Eh];exact J3,by rw[FL];rfl⟩
  case round=>
   obtain⟨c,G,q,TW,Ko,rfl,g1,iZ⟩:=hrel;have gf:=g1.ub ne tI rfl hF;have i0:=u.i9.bI gf;have pU:=g1.bg ne nB;have yC:ps wr (U CS (M k) oS) (U El (M a) kr) b k a:=⟨u.cz.bI gf,fb.pU pU,T,iR⟩;by_cases H:c<M b
   ·obtain⟨i,pX,_⟩:=u.eJ.hi _ (b4 ih);have Kp:=u.eJ.hi _ (b4 ih);obtain⟨y2,U6,U7,rfl,U8,TX,TY,_⟩:=yC.cz.yC ih;have Kz:∀y5 e,f.hn y5 e=im d.aj F k k[M a].1 (ks d.aj k[M a].1) y5 e:=λy5 e=>by rw[vE.out];rfl
    generalize k[M a].1=D at*;have KJ:=o3.z_ Kp pX (ad:=b) (a_:=k) (ck:=a) (bA:=c) (ab:=i.name);have K4:f.hn (cM b a) (cu b c)=((i.ao==(cu b c).ao)&&p7 (e2 d.aj k (cM b a) (cu b c) i.name) (F D)):=by rw[Kz];unfold im sE ks;rw[pX];rfl
    generalize p7 (e2 d.aj k (cM b a) (cu b c) i.name) (F D)=pZ at*;obtain⟨N,TZ,i1,i2,jt,K8,U9,U_,F4,T0,T1,T2,T3,T4,T5⟩:=i0.oa pX;have Va:=i0.cr.am;have Lp:=i0.cr.aa 0;simp[eB]at Lp;have Vb:=i0.fi.am;have zc:=i0.fi.aa 9;simp[cp]at zc;rw[K8]at zc;have Vc:(0:Int)<=(D:Int):=T;have Vd:(D:Int)<(M d.aj:Int):=T;have Ve:(0:Int)<=(M a:Int):=T;have Vf:(M a:Int)<(M k:Int):=T;have T6:(c:Int)<=(s:Int):=T;have Ls:ag (f.hn (cM b a) (cu b c)=((i.ao==(cu b c).ao)&&pZ)):=K4;clear K8 Kz K4 pX Kp;go_upto_region 14 with fail;go_region_held3 (λo=>aK o ⟨gC,0,none⟩=some (aD (some ⟨tB,0,none⟩))/\aK o ⟨tB,9,none⟩=some (U (some ⟨N,0,none⟩) (M d.aj) TZ)/\aK o ⟨y2,M a*2,none⟩=some (O Q D)/\aK o ⟨N,D*7,none⟩=some (O Q i.a1)/\aK o ⟨N,D*7+1,none⟩=some (.bool i.en)/\aK o ⟨N,D*7+2,none⟩=some (.string i.name)/\aK o ⟨N,D*7+3,none⟩=some (O Q i.ao)/\aK o ⟨N,D*7+4,none⟩=some (O Q i.bG)/\aK o ⟨N,D*7+5,none⟩=some (O Q i.bB)/\aK o ⟨N,D*7+6,none⟩=some (U i1 i2 jt)) (go_keep) (fail);have hu:aF (R wr).size wr (wr.alloc (.cells (lz i (U i1 i2 jt)) 202)).drew:=by have y:=(ca _ wr).alloc (aN _) (.cells (lz i (U i1 i2 jt)) 202);exact⟨y.os,y.tape,y.output,y.size,y.block⟩
    have qp:aL (wr.alloc (.cells (lz i (U i1 i2 jt)) 202)).drew (R wr).size (lz i (U i1 i2 jt)) 202:=(aL.bT wr _ _).e;unfold lz at hu qp;generalize(wr.alloc (.cells #[O Q i.a1,.bool i.en,.string i.name,O Q i.ao,O Q i.bG,O Q i.bB,U i1 i2 jt] 202)).drew=jW at*;have LB:aF (R l).size l jW:=gf.trans (hu.mono gf.size);have P:=u.i9.bI LB;have LI:=yC.bI hu;have LL:=g1.hi hu;have qt:s<M b:=T;obtain⟨zS,Vg,T7,z_,T8,qP,_⟩:=P.ne H;obtain⟨Vh,Vi,T9,_,u0,_⟩:=P.ne qt;injection T7 with T_ Ua Ub;subst T_;subst Ub;injection T9 with I r k7;injection I with I;injection I with I;subst I;clear r k7 Ua;have Ai:=jR H;have LQ:d8 b=b[s].aS:=by unfold d8;rw[show(M b)-1=s by omega,jR qt]
    have LU:b[c].aS<=b[s].aS:=by have:=u.cE c s T qt;rw[jR H,jR qt]at this;exact this
    have Mc:∀z,Calls prog 145 #[O Q b[c].aS,O Q b[s].aS] (bY jW z) λe o=>e=.returned (O Q (kP b[c].aS b[s].aS))/\∃k1,o=bY jW k1:=λz=>by refine(xZ _ _ (u.h2 _ (b4 _)) (u.h2 _ (b4 _)) LU _).mono ?_;rintro e o ⟨y,C⟩;exact⟨y,z,C⟩
    have Mj:ag (kP b[c].aS b[s].aS<d.bd↔d8 b-(cu b c).aS<d.bd):=by show _↔_;rw[LQ,Ai];exact ww u.bF
    have Mk:b[c].ao=(cu b c).ao:=by rw[Ai]
    rw[Mk]at qP;generalize b[c].aS=Uc at*;generalize b[s].aS=Ud at*;generalize kP Uc Ud=qW at*;have lo:ag (f.hn (cM b a) (cu b c)=((i.ao==(cu b c).ao)&&pZ)):=Ls.out;generalize(cu b c).ao=hE at qP lo;have Ue:=P.cr.am;have My:=P.cr.aa 0;have Ak:=P.cr.aa 3;simp[eB]at My Ak;have Uf:=P.fi.am;have MA:=P.fi.aa 10;simp[cp]at MA;have Vj:(0:Int)<=(c:Int):=T;have Vk:(c:Int)<(M b:Int):=T;have Vl:(0:Int)<=(s:Int):=T;have Vm:(s:Int)<(M b:Int):=T;clear F4 T0 T1 T2 T3 T4 T5 Lp zc TX TY Ai LQ LU Mk yC i0 DM iU Ls;go_upto_region 15 with fail
    go_cut [14]from 71 to 162 (λwB xf=>wB=.bool (decide (qW<d.bd))/\∃z,xf=bY jW z)
    case first=>
     go_quiet(first|(go_at_call 145;refine Mc _));go_wp2
     go_meet
     exact⟨rfl,_,rfl⟩
    obtain⟨rfl,z,gL⟩:=hcut;have gg:aF (R jW).size jW wc:=by rw[gL];exact⟨rfl,rfl,rfl,aN _,λ_ _=>rfl⟩
    have Vn:aK wc ⟨zS,c*5+1,none⟩=some (O Q hE):=(gg.cell (p:=⟨zS,c*5+1,none⟩) z_).trans qP;have Vo:zS<(R wc).size:=cI z_ gg.size;have l8:=qp.d (gg.block _ qp.am);have Ug:=l8.aa 2;have Uh:=l8.aa 3;have Ui:=l8.aa 5;have Vp:=l8.am;simp at Ug Uh Ui;have me:=P.bI gg;have Aq:=LI.bI gg;have Az:=LL.hi gg;have Vq:=me.cr.am;have Ak:=me.cr.aa 3;simp[eB]at Ak;have MC:aF (R wr).size wr wc:=hu.trans (gg.mono hu.size);clear gL gg Mc u0 T8 qP l8 qp P LI LL Ue z_ Uf My MA hu LB;have gj:∀z,aF (R wc).size wc (bY wc z):=λz=>⟨rfl,rfl,rfl,aN _,λ_ _=>rfl⟩
    have ra:ag (jg b d.bd f a c=false->∀E,aF (R wc).size wc E->gR (R l).size w L B x E G q (j+jC b f a+M (hP b d.bd f m a (c+1)))/\q.map (·.2)=hp b d.bd f m a (c+1)):=λh E r=>by rw[(td h).1,(td h).2];exact⟨Az.hi r,iZ⟩
    have rA:∀z,Calls prog 146 #[aD (some ⟨gC,0,none⟩),O Q i.bB,U (some ⟨y2,0,none⟩) (M k) oS,U El (M a) kr,O Q c,.string i.name] (bY wc z) λe o=>e=.returned (.bool pZ)/\aF (R wc).size wc o:=λz=>by refine(KJ _ _ _ _ _ _ _ _ _ _ (me.bI (gj z)) ((Aq.bI (gj z)).o u.eJ H)).mono ?_;rintro e o ⟨y,C⟩;exact⟨y,⟨C.os,C.tape,C.output,C.size,C.block⟩⟩
    clear KJ;go_upto_region 16 with fail;by_cases rR:qW<d.bd
    ·have Uj:decide (qW<d.bd)=true:=by simpa using rR
     cases hS:(i.ao==hE)with
     |false=>
      have J:=ra.out (x9 (by rw[lo.out,hS];rfl));have AE:(i.ao !=hE)=true:=by simpa[bne]using hS
      go_quiet(fail);go_wp2;go_roundw
      case rel=>exact⟨c+1,G,q,T,H,bE,(J _ (gj _)).1,(J _ (gj 0)).2⟩
      case measure=>simp[intOf];omega
     |true=>
      have AE:(i.ao !=hE)=false:=by simpa[bne]using hS
      go_quiet(fail);cases pZ with
      |false=>
       have J:=ra.out (x9 (by rw[lo.out];simp));go_wp2_with(go_at_call 146;refine(rA _).mono ?_;rintro e E ⟨rfl,r⟩);go_roundw
       case rel=>exact⟨c+1,G,q,T,H,bE,(J _ r).1,(J _ r).2⟩
       case measure=>simp[intOf];omega
      |true=>
       have MD:ag (jg b d.bd f a c=true->∀mn mO,aF (R wr).size wr mn->aY mn (R l).size 3 1 mO (M a+1) ((a++[c]).map λj=>O Q (j:Nat))->(∀N,ap mO=some N->(R wr).size<=N)->
        Calls prog 99 #[aD (some ⟨gC,0,none⟩),U (some ⟨y2,0,none⟩) (M k) oS,mO,aD (some ⟨w,0,none⟩)] mn λe o=>e=.returned (.tuple #[])/\∃gF j4,gR (R l).size w L B x o gF j4 (j+jC b f a+M (hP b d.bd f m a (c+1)))/\j4.map (·.2)=hp b d.bd f m a (c+1)):=λUk mn mO hV Ul Um=>by
        have MT:=g1.hi hV;have M1:=Hl (ad:=b) (bF:=d.bd) (aV:=f) (rest:=m) (aG:=a) (al:=c+1) (W:=M b) H;obtain⟨M9,Nt⟩:=xa (ad:=b) (bF:=d.bd) (aV:=f) (rest:=m) (aG:=a) (al:=c) Uk;have Un:M q=M (hp b d.bd f m a c):=by rw[<-iZ];simp
        have nG:=ET.out;have j9:=Fi.out;rw[M9,Nt]at M1;simp only[bV]at M1;refine(FM c mn mO w G (x++q) _ (gf.trans (hV.mono gf.size)) hF MT.so Ul (λUo Up N mR Uq=>?_) H (by rw[bV,Un];omega) T).mono ?_
        ·have y:=((g1.so.dQ.fP Uo Up).lt N mR).2;have C:=Um N Uq;omega
        ·rintro e o ⟨rfl,gF,j4,AV,AW⟩;refine⟨rfl,gF,q++j4,?_,?_⟩
         ·rw[M9,bV,<-hr];exact MT.q AV
         ·rw[dv,iZ,AW,Nt]
       have NF:nT a=((a.getLastD 0:Nat):Int):=by unfold nT ii;rw[aH A];omega
       have py:a.getLastD 0<M b:=by unfold ii at xr;rw[aH A]at xr;omega
       have Ur:0<M a:=lw.2 A;have sY:=λE (r:aF (R wc).size wc E)=>Gb (me.bI r) (Aq.bI r) u.eJ ih (a.getLastD 0) c py Ko
       rw[<-vE.out,<-NF]at sY;have Bg:=wz.out A c;have NR:ag (m0 b f a (a.getLastD 0) c=false->∀E,aF (R wc).size wc E->gR (R l).size w L B x E G q (j+(jC b f a+M (hP b d.bd f m a (M b))))/\q.map (·.2)=hp b d.bd f m a (M b)):=λh E r=>by obtain⟨Us,Ut⟩:=Mt (bF:=d.bd) (rest:=m) A (al:=c) (λk1=>by have:=Bg.1 k1;rw[h]at this;cases this) Ko;rw[Us,Ut,<-hr];exact⟨Az.hi r,iZ⟩
       have OD:m0 b f a (a.getLastD 0) c=true->_:=λh=>MD.out (Dq TW (Mj.out.1 rR) (by rw[lo.out,hS];rfl) (.inr (Bg.2 h)))
       generalize m0 b f a (a.getLastD 0) c=Uu at*;have Uv:∀K,aF (R wc).size wc K->aF (R wr).size wr K:=λK h=>MC.trans (h.mono MC.size)
       obtain⟨kx,Vr,Uw,_,_⟩:=pU.form T;injection Uw with Ux Uy Uz;subst Ux;subst Uz;have Bo:ag (aY wr (R l).size 3 1 (U (some ⟨kx,0,none⟩) (M a) kr) (M a) (a.map λj=>O Q (j:Nat))):=pU;have TR:(0:Int)<(M a:Int):=T;clear Uy SV ET Fi wz vE j9 nG nB pU Aq me Az g1 iZ iR MD FM ra lo J3 Bg NF py;cases Uu with
       |false=>
        have UA:=NR.out rfl;go_wp2_with(first|(go_at_call 146;refine(rA _).mono ?_;rintro e E ⟨rfl,r⟩)|(go_at_call 144;refine(sY _ r).mono ?_;rintro e K ⟨rfl,k7⟩))
        have hZ:=UA K (r.trans (k7.mono r.size));refine dG (v:=.tuple #[]) (by simp[results,results99,go_sem]) rfl ⟨rfl,G,q,hZ.1,hZ.2⟩
       |true=>
        have UB:=OD rfl;clear OD NR;go_upto_region 23 with(first|(go_at_call 146;refine(rA _).mono ?_;rintro e E ⟨rfl,r⟩)|(go_at_call 144;refine(sY _ r).mono ?_;rintro e K ⟨rfl,k7⟩))
        have hZ:=Uv K (r.trans (k7.mono r.size));have OF:aY K (R l).size 3 1 (U (some ⟨kx,0,none⟩) (M a) kr) (M a) (a.map λj=>O Q (j:Nat)):=cw Bo.out λN mR=>hZ.block N (Bo.out.lt N mR).2
        have OG:=OF.cells (g:=kx) rfl;have UC:(R l).size<=(R K).size:=bS gf.size hZ.size;clear sY rA Bo;go_upto_region 24 with(at_builtin;refine dq _ rfl _ _ 48 rfl (R l).size 3 BE _ 1 8 underlying48 BH BN BP BV rfl ak _ 0 [] bf (eE _ _ _ _) ⟨kx,0,none⟩ (M a) kr (a.map λj:Nat=>O Q (j:Nat)) bf av OG ey Ur cN T UC (R K).size rfl ?_;intro OW UD mY Pn UE UF Vs);have UG:aY mY (R l).size 3 1 (U (some ⟨OW,0,none⟩) (M a) UD) (M a) (a.map λj=>O Q (j:Nat)):=by simpa using Pn
        have hV:aF (R wr).size wr mY:=eY hZ UE (λN e=>by simp[ap]at e);have Vt:(R l).size<=(R mY).size:=bS gf.size hV.size;have Vu:(R wr).size<=OW:=by
         rcases UF with e|e
         ·simp[ap]at e
         ·have:=hZ.size;omega
        clear Pn OG OF;go_wp2_with(at_builtin;refine dq _ rfl _ _ 48 rfl (R l).size 3 BE _ 1 8 underlying48 BH BN BP BV rfl ak _ (M a) (a.map λj=>O Q (j:Nat)) bf (UG.alloc _) ⟨(R mY).size,0,none⟩ 1 1 [O Q c] bf rfl (c4 (cB _ _ _ av)) ey ak cN T b7 ((R mY).size+1) av ?_;intro Vv Vw P1 UH UI UJ Vx);have UK:aF (R wr).size wr P1:=eY (hV.alloc hV.size _) UI (λN e=>by simp[ap]at e;omega);refine(UB P1 _ UK (by rw[dv];exact UH) (λN mR=>?_)).mono ?_
        ·have:=hV.size;simp[ap]at mR UJ;omega
        rintro e Vy ⟨rfl,gF,j4,AV,AW⟩;go_wp2;go_roundw
        case rel=>exact⟨c+1,gF,j4,T,H,bE,AV,AW⟩
        case measure=>simp[intOf];omega
    ·have Uj:decide (qW<d.bd)=false:=by simpa using rR
     have J:=ra.out (Hz (λh=>rR (Mj.out.2 h)));cases hS:(i.ao==hE)with
     |false=>
      have AE:(i.ao !=hE)=true:=by simpa[bne]using hS
      go_quiet(fail);go_wp2;go_roundw
      case rel=>exact⟨c+1,G,q,T,H,bE,(J _ (gj _)).1,(J _ (gj 0)).2⟩
      case measure=>simp[intOf];omega
     |true=>
      have AE:(i.ao !=hE)=false:=by simpa[bne]using hS
      go_quiet(fail);go_wp2;go_roundw
      case rel=>exact⟨c+1,G,q,T,H,bE,(J _ (gj _)).1,(J _ (gj 0)).2⟩
      case measure=>simp[intOf];omega
   ·have UL:c=M b:=by omega
    subst UL;have T6:¬(M b:Int)<=(s:Int):=T;go_wp2
    go_end0
    exact⟨rfl,G,q,by rw[<-hr];exact g1,iZ⟩
