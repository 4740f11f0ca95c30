import Derived.Test.YtddbjcfdmdbmkaaGreatDoorB11
set_option linter.all false
set_option maxRecDepth 100000
set_option maxHeartbeats 1600000
namespace Go.Proofs.YtddbjcfdmdbmkaaGreatDoor
open Go.RowKit Go.Proofs.Tryz
open Go renaming Calls->aR,Value->an,World->aq,results->eS
open Go.Ending renaming returned->aM
open Go.IntKind renaming i64->Q
open Go.Obj renaming cells->aw
open Go.RowKit renaming Below->aF,Hid->ag,intOf->bm
open Go.Value renaming agg->dA,bool->cK,int->O,pointer->aD,slice->U,string->az,tuple->b2,ownBlock->ap
open _root_.Array renaming size->S
open Go.World renaming alloc->ar,cell?->aK,grownBy->b_,heap->R,ownsRow->aY,setCell->ay
open List renaming length->M
variable{j E d W a F A w N z aZ:Nat}{c:List (List aB)}{ab u D:Nat->Nat}{L q o:aq}{k y x:an}{r:aA->aA×List aB}{B:lP}{b:aA}{Z:List aB}{ai:aB}
theorem OH(r:aA->aA×List aB)(b:aA):h9 r b=
 (((fm r (M (r ((r b.p).1.bx [dO])).1.a7) (r ((r b.p).1.bx [dO])).1 [(r b.p).2,(r ((r b.p).1.bx [dO])).2]).1.bx [d9]).J,
   .fA ⟨#[]⟩ 0 0 0 [] (fm r (M (r ((r b.p).1.bx [dO])).1.a7) (r ((r b.p).1.bx [dO])).1 [(r b.p).2,(r ((r b.p).1.bx [dO])).2]).2):=rfl
theorem oT{d j c:aq}{b:Option Nat}(h:b_ d j b)(a:b_ j c b):b_ d c b:=
 ⟨a.os.trans h.os,a.tape.trans h.tape,a.output.trans h.output,bS h.size a.size,λe f g=>(a.block e (cI f h.size) g).trans (h.block e f g)⟩
theorem HL(L:aq)(d:Nat)(a b c e f g:an):b_ L (ay (ay (ay (ay (ay (ay L ⟨d,0,none⟩ a) ⟨d,1,none⟩ b) ⟨d,2,none⟩ c) ⟨d,3,none⟩ e) ⟨d,4,none⟩ f) ⟨d,5,none⟩ g) (some d):=
 oT (oT (oT (oT (oT (fU L ⟨d,0,none⟩ a) (fU _ ⟨d,1,none⟩ b)) (fU _ ⟨d,2,none⟩ c)) (fU _ ⟨d,3,none⟩ e)) (fU _ ⟨d,4,none⟩ f)) (fU _ ⟨d,5,none⟩ g)
theorem HT{q:Nat->Nat}{o:aq}{w:lP}{y:aA}{r:List an}(h:ot E d ab L j k q w y c r o)(I:ap k≠some d)(J:S (R L)<=d)(z:c≠[])(b f g i l m:an):
 ∃D,bZ D (ay (ay (ay (ay (ay (ay o ⟨d,0,none⟩ b) ⟨d,1,none⟩ f) ⟨d,2,none⟩ g) ⟨d,3,none⟩ i) ⟨d,4,none⟩ l) ⟨d,5,none⟩ m) j w y/\aU ab L D (ay (ay (ay (ay (ay (ay o ⟨d,0,none⟩ b) ⟨d,1,none⟩ f) ⟨d,2,none⟩ g) ⟨d,3,none⟩ i) ⟨d,4,none⟩ l) ⟨d,5,none⟩ m)/\
  gH D (ay (ay (ay (ay (ay (ay o ⟨d,0,none⟩ b) ⟨d,1,none⟩ f) ⟨d,2,none⟩ g) ⟨d,3,none⟩ i) ⟨d,4,none⟩ l) ⟨d,5,none⟩ m) E (.fA ⟨#[]⟩ 0 0 0 [] c) (U none 0 0) k:=by
 have A:=h.aV.hZ h.ly b f g i l m;have u:=h.bo.hZ J b f g i l m;have B:=HL o d b f g i l m;have C:=h.bg.kept B (.inr (λe=>I e));have F:∀p∈c.zip r,d3 q _ E p.2 p.1:=λp v=>p_ (bl:=q) B (λa e=>by cases e;exact h.ly) (λ_ _ _=>rfl) (h.nb p v)
 generalize(ay (ay (ay (ay (ay (ay o ⟨d,0,none⟩ b) ⟨d,1,none⟩ f) ⟨d,2,none⟩ g) ⟨d,3,none⟩ i) ⟨d,4,none⟩ l) ⟨d,5,none⟩ m)=K at*;have G:∀ab,hb ab K (U none 0 0) []:=λab=>⟨eE _ _ _ _,λN s=>by simp[ap]at s⟩
 cases x:ap k with
 |none=>exact⟨q,A,u,G _,.inr ⟨z,r,h.bX,C,λN s=>(by rw[x]at s;cases s),F⟩⟩
 |some N=>obtain⟨H,P⟩:=h.cG N x;refine⟨aO q N 7,A.mR 7 H,⟨λa t=>by rw[cR _ _ _ _ T];exact u.ci a t,u.db⟩,G _,.inr ⟨z,r,h.bX,C,λa t=>by rw[x]at t;cases t;exact cy _ _ _,λp v=>?_⟩⟩;refine d3.cG (λa _ e=>?_) E _ _ (F p v);rw[cR _ _ _ _ (λh=>by rw[h,H]at e;cases e)];exact e
theorem S3(s:mf W r)(gL:GJ j W E r)(h:bZ ab L j B b)(t:hN (W+1) b)(mn:b.af.bH hk=true):
 aR prog 202 #[aD (some ⟨j,0,none⟩)] L λe o=>∃k,e=aM k/\mN ab L j E (h9 r b) k o:=by
 have F4:=h.ax.am;have mO:=t.bq.bH bJ mn;have I:hN W b.p:=⟨t.bq.mn mO,by rw[qb];have:=t.b0;omega,by rw[qb];have:=t.bU;show b.bU+1+_<=_;omega⟩;have g1:=s _ I.bq I.b0;have hu:=I.eD g1;have hE:=hd hu.bq (bK:=[dO]) bJ;have J:=hu.eD hE.k7;have hS:=s _ J.bq J.b0;have x:=J.eD hS;obtain⟨f,K⟩:∃f,ag (fm r (M (r ((r b.p).1.bx [dO])).1.a7) (r ((r b.p).1.bx [dO])).1 [(r b.p).2,(r ((r b.p).1.bx [dO])).2]=f):=⟨_,rfl⟩;have hV:ag (iP (r ((r b.p).1.bx [dO])).1 f.1):=by have:=zN s (M (r ((r b.p).1.bx [dO])).1.a7) (r ((r b.p).1.bx [dO])).1 [(r b.p).2,(r ((r b.p).1.bx [dO])).2] x.bq x.b0;rw[K.out]at this;exact this
 have hZ:=x.eD hV.out;have mR:=hd hZ.bq (bK:=[d9]) bJ;have P:ag (1<=(f.1.bx [d9]).bU/\(f.1.bx [d9]).bU<=1000000/\b.bU<=1000000):=by have Ga:=mR.bU;have Gl:=hV.out.bU;have Gx:=hS.bU;have Hp:=hE.bU;have HY:=g1.bU;have H_:b.p.bU=b.bU+1:=rfl;have:=t.bU;exact⟨T,T,T⟩
 rw[OH,K.out];obtain⟨y,ih⟩:∃y,ag (M (r ((r b.p).1.bx [dO])).1.a7=y):=⟨_,rfl⟩;have mY:ag (fm r y (r ((r b.p).1.bx [dO])).1 [(r b.p).2,(r ((r b.p).1.bx [dO])).2]=f):=by have:=K.out;rw[ih.out]at this;exact this
 obtain⟨m5,ne,nB,nG,oa⟩:=dY Tryz.Sn;clear mn K g1 hE hS;go_enter func202,ntmps202;go_wp2_with(first|(go_at_call 225;obtain⟨ob,oH⟩:=h.ug (aw f7 189);have iR:=aL.bT L f7 189;have iU:=cy ab (S (R L)) 8;refine(z1 ob mO P.out.2.2).mono ?_;rintro e q ⟨rfl,u,xf,oS,z⟩;have iZ:=z.z iU iR;have i0:=(z.ci _ iR.am).trans iU)|(go_at_call 132;refine(gL xk xr ys _ i1.aV J).mono ?_;rintro e o6 ⟨J3,rfl,Ko,Kp,pa,py,i2⟩;obtain⟨yC,y2,y5,rfl⟩:=i2.cV;have jt:=i1.q pa py)|(go_at_call 132;refine(gL u q xf _ oS I).mono ?_;rintro e pF ⟨Kz,rfl,KJ,K4,pR,A,jW⟩;obtain⟨zc,zS,z_,rfl⟩:=jW.cV;have j4:=ot.kh pR ((oH.trans z).trans A) jW (A.z i0 iZ) ((A.ci _ iZ.am).trans i0))|(go_at_call 130;have pU:=na j4.aV hu.bq [dO] bJ av 1 rfl;rw[hQ]at pU;refine pU.mono ?_;rintro e xr ⟨rfl,xk,ys,pX,pZ⟩;have i1:=j4.q pX pZ)|(at_builtin;refine dq _ rfl (.tmp 12) (.tmp 15) 187 rfl 0 99 m5 _ 1 24 underlying187 ne nB nG oa rfl ak _ 1 [U zc zS z_] bf (jt.bg.alloc _) ⟨S (R o6),0,none⟩ 1 1 [U yC y2 y5] bf rfl (c4 (cB _ _ _ av)) ey ak cN T (bL _) (S (R o6)+1) av ?_;intro N w Ai gf gg gj qp))
 have Ak:S (R L)+1<=S (R pF):=by have j9:=z.b5;have c:=A.b5;rw[hQ]at j9;omega
 have qt:ap (U (some ⟨S (R pF),0,none⟩) 1 1)≠some (S (R L)):=λe=>by simp only[ap,j0]at e;omega
 obtain⟨qP,qW⟩:=jt.C i2 qt gf gg (by simpa using gj) (aN _);have ra:GO r W E (S (R L)) f ab L j y (U (some ⟨N,0,none⟩) (1+1) w) Ai:=⟨_,_,_,_,_,qP,qW,mY,Nat.le_of_eq ih.out,x,by have:=x.bU;show 2+_<=_;omega,av⟩;clear qP qW qt Ak gf gg gj qp jt i2 pa py i1 pX pZ j4 jW pR A oS z iZ i0 oH ob iR iU mY ih
 go_loopg [3] y (λa k wr=>GO r W E (S (R L)) f ab L j a k wr)
 case atStart=>exact ra
 case round=>
  obtain⟨D,K8,g,c,Aq,C,rA,gC,Lp,F,Ls,Az⟩:=hrel;clear ra;obtain⟨kp,kr,kx,rfl⟩:=dr C.bg;cases i:g.m [dO]with
  |false=>
   have l:ag (g.dE [dO]=g/\(g,c)=f):=⟨by unfold aA.dE;rw[aH (by simp[i])],(QQ i).symm.trans gC.out⟩;have G:=q5 C.aV F.bq [dO] bJ av 1 rfl;rw[l.out.1,i]at G;have k1:ag (f.1=g/\f.2=c):=⟨by rw[<-l.out.2],by rw[<-l.out.2]⟩;rw[k1.out.1]at P hZ;clear i gC hV l mR;go_wp2_with(first|(go_at_call 168;refine G.mono ?_;rintro e rR ⟨rfl,sY,tB,gE,k7⟩;have gF:=C.q gE k7)|(go_at_call 130;refine(na gF.aV hZ.bq [d9] bJ av 1 rfl).mono ?_;rintro e lo ⟨rfl,AE,AV,l8,me⟩;have H:=gF.q l8 me)|(go_at_call 226;refine(Bn H.aV P.out.1 P.out.2.1).mono ?_;rintro e AW ⟨rfl,LB,Bg,Bo,Bt⟩;have d:=H.q Bo Bt;have BE:=d.df.aa 0;have BH:=d.df.aa 1;have BN:=d.df.aa 2;have BP:=d.df.aa 3;have BV:=d.df.aa 4;have Cs:=d.df.aa 5;have LI:=d.df.b 0;have LL:=d.df.b 1;have LQ:=d.df.b 2;have LU:=d.df.b 3;have Mc:=d.df.b 4;have Mj:=d.df.b 5;simp[f7]at BE BH BN BP BV Cs))
   obtain⟨Cz,CS,DM,D7⟩:=HT d rA (aN _) Az (az ⟨#[]⟩) (O Q 0) (O Q 0) (O Q 0) (U none 0 0) (U kp kr kx);have m:=d.df.hZ (az ⟨#[]⟩) (O Q 0) (O Q 0) (O Q 0) (U none 0 0) (U kp kr kx);have tI:=m.aa 0;have t8:=m.aa 1;have ub:=m.aa 2;have ug:=m.aa 3;have uY:=m.aa 4;have vE:=m.aa 5;simp at tI t8 ub ug uY vE;rw[k1.out.1,k1.out.2];exact dG (v:=eu (.fA ⟨#[]⟩ 0 0 0 [] c) (U none 0 0) (U kp kr kx)) (by simp[eS,results202,go_sem,tI,t8,ub,ug,uY,vE,eu,aB.name,aB.aX,aB.bG,aB.ao]) rfl
    ⟨_,rfl,Cz,Bg,_,_,CS,DM,rfl,D7⟩
  |true=>
   have D9:=F.bq.m (bK:=[dO]) bJ i;obtain⟨a,rfl⟩:∃a,gk=a+1:=⟨gk-1,T⟩;have p:=F.eD (iu F.bq D9).k7;have El:=p.eD (s _ p.bq p.b0);have l:ag (g.dE [dO]=g.c/\fm r a (r g.c).1 (c++[(r g.c).2])=f):=⟨by unfold aA.dE;rw[aP i],(PN i).symm.trans gC.out⟩;have wz:ag (M (r g.c).1.a7+1<=M g.a7):=by have j9:=(s _ p.bq p.b0).b0;rw[hm]at j9;show _<=_;omega
   have G:=q5 C.aV F.bq [dO] bJ av 1 rfl;rw[l.out.1,i]at G;clear i gC;go_wp2_with(first|(go_at_call 168;refine G.mono ?_;rintro e rR ⟨rfl,sY,tB,gE,k7⟩;have gF:=C.q gE k7)|(go_at_call 132;refine(gL sY rR tB _ gE p).mono ?_;rintro e lo ⟨Mk,rfl,AE,AV,l8,me,wB⟩;obtain⟨ET,Fi,FM,rfl⟩:=wB.cV;have H:=gF.q l8 me)|(at_builtin;refine dq _ rfl (.tmp 20) (.tmp 23) 187 rfl 0 99 m5 _ 1 24 underlying187 ne nB nG oa rfl ak _ (M c) Aq bf (H.bg.alloc _) ⟨S (R lo),0,none⟩ 1 1 [U ET Fi FM] bf rfl (c4 (cB _ _ _ av)) ey ak cN T (bL _) (S (R lo)+1) av ?_;intro My MA AW gf gg gj qp))
   obtain⟨d,F2⟩:=H.C wB rA gf gg (by simpa using gj) (aN _)
   go_roundg a
   case measure=>omega
   case rel=>exact⟨_,_,_,_,_,d,F2,l.out.2,by have:=wz.out;omega,El,by have:=wz.out;simp;omega,av⟩
theorem wU{k:lP}{aQ:aA×aB}(m:bZ u q j k aQ.1)(o:aU ab L u q)(p:gH u q a aQ.2 y x)(l:u d=8)(r:S (R L)<=d)(b c f g h i:an):mN ab L j a aQ (eu aQ.2 y x) (ay (ay (ay (ay (ay (ay q ⟨d,0,none⟩ b) ⟨d,1,none⟩ c) ⟨d,2,none⟩ f) ⟨d,3,none⟩ g) ⟨d,4,none⟩ h) ⟨d,5,none⟩ i):=
 ⟨u,k,y,x,m.hZ l b c f g h i,o.hZ r b c f g h i,rfl,xy (bl:=u) (HL q d b c f g h i) (λa e=>by cases e;exact l) (λ_ _ _=>rfl) p⟩
theorem JA(h:bZ ab L j B b)(J:hN (W+1) b)(l:b.af.ao=3)(K:∀(ab:Nat->Nat) (L:aq) (B:lP),bZ ab L j B b->aR prog 200 #[aD (some ⟨j,0,none⟩)] L λe o=>∃k,e=aM k/\mN ab L j a (gS W b) k o):
 aR prog 167 #[aD (some ⟨j,0,none⟩)] L λe o=>∃k,e=aM k/\mN ab L j a (gS W b) k o:=by
 have hE:=h.ax.am;have hS:((b.af.ao:Int)==3)=true:=by simp[l]
 clear l;generalize gS W b=f at*;go_enter func167,ntmps167;go_wp2_with(first|(go_at_call 83;refine(hw (h.a _) J.bq.a1).mono ?_;rintro e o ⟨rfl,m,rfl⟩)|(go_at_call 200;obtain⟨P,gf⟩:=h.nB (aw f7 189) m (aw (h0 b.af) 141);have p:=tq L f7 189 m (aw (h0 b.af) 141);have r:=pN ab (S (R L));refine(K _ _ _ P).mono ?_;rintro e q ⟨k,rfl,u,hV,y,x,gg,g,rfl,i⟩;obtain⟨s,t,w,rfl⟩:=dr i.1.1;obtain⟨z,A,C,rfl⟩:=i.2.cV;have c:=g.z r p;have gj:=(g.ci _ p.am).trans r;have gC:=c.aa 0;have gE:=c.aa 1;have gF:=c.aa 2;have gL:=c.aa 3;have g1:=c.aa 4;have hu:=c.aa 5;have hZ:=c.b 0;have ih:=c.b 1;have iR:=c.b 2;have iU:=c.b 3;have iZ:=c.b 4;have i0:=c.b 5;simp[f7]at gC gE gF gL g1 hu;simp only[eu]))
 have d:=c.hZ (az f.2.name) (O Q f.2.aX) (O Q f.2.bG) (O Q f.2.ao) (U s t w) (U z A C);have D:=d.aa 0;have E:=d.aa 1;have F:=d.aa 2;have G:=d.aa 3;have H:=d.aa 4;have I:=d.aa 5;simp at D E F G H I;exact dG (v:=eu f.2 (U s t w) (U z A C)) (by simp[eS,results167,go_sem,D,E,F,G,H,I,eu]) rfl
  ⟨_,rfl,wU gg (gf.trans g) i gj (aN _) _ _ _ _ _ _⟩
theorem N4(h:bZ ab L j B b)(J:hN (W+1) b)(K:¬b.af.ao=3)(l:b.af.bH kK=true)(P:∀(ab:Nat->Nat) (L:aq) (B:lP),bZ ab L j B b->aR prog 201 #[aD (some ⟨j,0,none⟩)] L λe o=>∃k,e=aM k/\mN ab L j a (iE W b) k o):
 aR prog 167 #[aD (some ⟨j,0,none⟩)] L λe o=>∃k,e=aM k/\mN ab L j a (iE W b) k o:=by
 have hS:=h.ax.am;have hV:((b.af.ao:Int)==3)=false:=by rw[di];omega
 have hZ:(b.af.bn.toList==[110,111,116])=true:=(kY _ _).symm.trans l;clear K l;generalize iE W b=f at*;go_enter func167,ntmps167;go_wp2_with(first|(go_at_call 83;refine(hw (h.a _) J.bq.a1).mono ?_;rintro e o ⟨rfl,m,rfl⟩)|(go_at_call 201;obtain⟨gf,gg⟩:=h.nB (aw f7 189) m (aw (h0 b.af) 141);have p:=tq L f7 189 m (aw (h0 b.af) 141);have r:=pN ab (S (R L));refine(P _ _ _ gf).mono ?_;rintro e q ⟨k,rfl,u,ih,y,x,gj,g,rfl,i⟩;obtain⟨s,t,w,rfl⟩:=dr i.1.1;obtain⟨z,A,C,rfl⟩:=i.2.cV;have c:=g.z r p;have gC:=(g.ci _ p.am).trans r;have gE:=c.aa 0;have gF:=c.aa 1;have gL:=c.aa 2;have g1:=c.aa 3;have hu:=c.aa 4;have hE:=c.aa 5;have iR:=c.b 0;have iU:=c.b 1;have iZ:=c.b 2;have i0:=c.b 3;have i1:=c.b 4;have i2:=c.b 5;simp[f7]at gE gF gL g1 hu hE;simp only[eu]))
 have d:=c.hZ (az f.2.name) (O Q f.2.aX) (O Q f.2.bG) (O Q f.2.ao) (U s t w) (U z A C);have D:=d.aa 0;have E:=d.aa 1;have F:=d.aa 2;have G:=d.aa 3;have H:=d.aa 4;have I:=d.aa 5;simp at D E F G H I;exact dG (v:=eu f.2 (U s t w) (U z A C)) (by simp[eS,results167,go_sem,D,E,F,G,H,I,eu]) rfl
  ⟨_,rfl,wU gj (gg.trans g) i gC (aN _) _ _ _ _ _ _⟩
theorem tJ(h:bZ ab L j B b)(P:hN (W+1) b)(gf:¬b.af.ao=3)(l:b.af.bH kK=false)(m:b.af.bH hk=true)(gg:∀(ab:Nat->Nat) (L:aq) (B:lP),bZ ab L j B b->aR prog 202 #[aD (some ⟨j,0,none⟩)] L λe o=>∃k,e=aM k/\mN ab L j a (h9 r b) k o):
 aR prog 167 #[aD (some ⟨j,0,none⟩)] L λe o=>∃k,e=aM k/\mN ab L j a (h9 r b) k o:=by
 have hZ:=h.ax.am;have ih:((b.af.ao:Int)==3)=false:=by rw[di];omega
 have iR:(b.af.bn.toList==[110,111,116])=false:=(kY _ _).symm.trans l;have iU:(b.af.bn.toList==[40])=true:=(kY _ _).symm.trans m;clear gf l m;generalize h9 r b=f at*;go_enter func167,ntmps167;go_wp2_with(first|(go_at_call 83;refine(hw (h.a _) P.bq.a1).mono ?_;rintro e o ⟨rfl,p,rfl⟩)|(go_at_call 202;obtain⟨gj,gC⟩:=h.nB (aw f7 189) p (aw (h0 b.af) 141);have s:=tq L f7 189 p (aw (h0 b.af) 141);have t:=pN ab (S (R L));refine(gg _ _ _ gj).mono ?_;rintro e q ⟨k,rfl,u,iZ,y,x,gE,g,rfl,i⟩;obtain⟨w,z,A,rfl⟩:=dr i.1.1;obtain⟨C,D,E,rfl⟩:=i.2.cV;have c:=g.z t s;have gF:=(g.ci _ s.am).trans t;have gL:=c.aa 0;have g1:=c.aa 1;have hu:=c.aa 2;have hE:=c.aa 3;have hS:=c.aa 4;have hV:=c.aa 5;have i0:=c.b 0;have i1:=c.b 1;have i2:=c.b 2;have jt:=c.b 3;have jW:=c.b 4;have j4:=c.b 5;simp[f7]at gL g1 hu hE hS hV;simp only[eu]))
 have d:=c.hZ (az f.2.name) (O Q f.2.aX) (O Q f.2.bG) (O Q f.2.ao) (U w z A) (U C D E);have F:=d.aa 0;have G:=d.aa 1;have H:=d.aa 2;have I:=d.aa 3;have J:=d.aa 4;have K:=d.aa 5;simp at F G H I J K;exact dG (v:=eu f.2 (U w z A) (U C D E)) (by simp[eS,results167,go_sem,F,G,H,I,J,K,eu]) rfl
  ⟨_,rfl,wU gE (gC.trans g) i gF (aN _) _ _ _ _ _ _⟩
theorem To(h:bZ ab L j B b)(g:hN (W+1) b)(A:¬b.af.ao=3)(i:b.af.bH kK=false)(l:b.af.bH hk=false):
 aR prog 167 #[aD (some ⟨j,0,none⟩)] L λe o=>∃k,e=aM k/\mN ab L j a (b.P,default) k o:=by
 have gC:=h.ax.am;have gE:((b.af.ao:Int)==3)=false:=by rw[di];omega
 have gF:(b.af.bn.toList==[110,111,116])=false:=(kY _ _).symm.trans i;have gL:(b.af.bn.toList==[40])=false:=(kY _ _).symm.trans l;have C:ag ((default:aB)=.fA ⟨#[]⟩ 0 0 0 [] []):=rfl;clear A i l;go_enter func167,ntmps167;go_wp2_with(first|(go_at_call 83;refine(hw (h.a _) g.bq.a1).mono ?_;rintro e o ⟨rfl,m,rfl⟩)|(go_at_call 163;obtain⟨D,E⟩:=h.nB (aw f7 189) m (aw (h0 b.af) 141);have p:=tq L f7 189 m (aw (h0 b.af) 141);have r:=pN ab (S (R L));refine(yD D g.bq.a1).mono ?_;rintro e q ⟨rfl,u,g1,F,f⟩;have c:=f.z r p;have G:=(f.ci _ p.am).trans r;have H:=c.aa 0;have I:=c.aa 1;have J:=c.aa 2;have K:=c.aa 3;have P:=c.aa 4;have gf:=c.aa 5;have hu:=c.b 0;have hE:=c.b 1;have hS:=c.b 2;have hV:=c.b 3;have hZ:=c.b 4;have ih:=c.b 5;simp[f7]at H I J K P gf))
 have d:=c.hZ (az ⟨#[]⟩) (O Q 0) (O Q 0) (O Q 0) (U none 0 0) (U none 0 0);have s:=d.aa 0;have t:=d.aa 1;have w:=d.aa 2;have x:=d.aa 3;have y:=d.aa 4;have z:=d.aa 5;simp at s t w x y z;rw[C.out];have gg:gH u q a (.fA ⟨#[]⟩ 0 0 0 [] []) (U none 0 0) (U none 0 0):=⟨⟨eE _ _ _ _,λN gj=>by simp[ap]at gj⟩,.inl ⟨rfl,rfl⟩⟩;exact dG (v:=eu (.fA ⟨#[]⟩ 0 0 0 [] []) (U none 0 0) (U none 0 0)) (by simp[eS,results167,go_sem,s,t,w,x,y,z,eu,aB.name,aB.aX,aB.bG,aB.ao]) rfl
  ⟨_,rfl,wU (aQ:=(b.P,.fA ⟨#[]⟩ 0 0 0 [] [])) F (E.trans f) gg G (aN _) _ _ _ _ _ _⟩
theorem HU(j:Nat):∀W,FP j W W (ha W):=by
 intro W
 induction W with
 |zero=>intro ab L B b h a;have:=a.bq.a1;have:=a.b0;omega
 |succ W i=>
  intro ab L B b h a;by_cases c:b.af.ao=3
  ·have e:ha (W+1) b=gS W b:=by rw[ha,aP c]
   rw[e];refine JA h a c (λab L B h=>?_);cases g:((b.c.bx [dp]).bp 0 99).m [hX]with
   |true=>exact KS h a c g
   |false=>exact K6 h a c g
  cases d:b.af.bH kK with
  |true=>
   have e:ha (W+1) b=iE W b:=by rw[ha,aH c,aP d]
   rw[e];exact N4 h a c d (λab L B h=>Ru h a d)
  |false=>
  cases f:b.af.bH hk with
  |true=>
   have e:ha (W+1) b=h9 (km (ha W)) b:=by rw[ha,aH c,aH (by simp[d]),aP f]
   rw[e];exact tJ h a c d f (λab L B h=>S3 (yh (se W)) (Ca (se W) i) h a f)
  |false=>
   have e:ha (W+1) b=(b.P,default):=by rw[ha,aH c,aH (by simp[d]),aH (by simp[f])]
   rw[e];exact To h a c d f
def mo:Array an:=#[O Q 0,O Q 0,U none 0 0]
theorem aL.wN(h:aL L d mo 101)(c f g:an):
 aL (ay (ay (ay L ⟨d,0,none⟩ c) ⟨d,1,none⟩ f) ⟨d,2,none⟩ g) d #[c,f,g] 101:=by
 have:=((h.j 0 c).j 1 f).j 2 g;simpa[mo]using this
theorem Ap(L:aq)(d:Nat)(a b c:an):b_ L (ay (ay (ay L ⟨d,0,none⟩ a) ⟨d,1,none⟩ b) ⟨d,2,none⟩ c) (some d):=
 oT (oT (fU L ⟨d,0,none⟩ a) (fU _ ⟨d,1,none⟩ b)) (fU _ ⟨d,2,none⟩ c)
def JQ(i:Nat->Nat)(L:aq)(l m:Nat)(e:aA×it)(p:an)(f:aq):Prop:=∃g s h,bZ g f l s e.1/\aU i L g f/\p=dA #[O Q e.2.bd,O Q e.2.aZ,h]/\d3 g f m h e.2.cJ
theorem wg(W:Nat)(b:aA):l1 W b=((km (ha W) ((((b.bx [gy]).bp 1 1000000).bx [ix]).bp 1 12)).1,⟨(b.bx [gy]).k,(((b.bx [gy]).bp 1 1000000).bx [ix]).k,(km (ha W) ((((b.bx [gy]).bp 1 1000000).bx [ix]).bp 1 12)).2⟩):=rfl
theorem Jl(h:bZ ab L j B b)(p:hN W b):
 aR prog 82 #[aD (some ⟨j,0,none⟩)] L λe o=>∃k,e=aM k/\JQ ab L j (W+1) (l1 W b) k o:=by
 have kp:=h.ax.am;have r:=p.eD (hd p.bq (bK:=[gy]) bJ).k7;have s:=r.eD (jd r.bq 1 1000000).k7;have t:=s.eD (hd s.bq (bK:=[ix]) bJ).k7;have J:=t.eD (jd t.bq 1 12).k7;have K:=Ca (X:=j) (se W) (HU j W);have P:=λu q d (f:bZ u q j d (b.bx [gy]))=>r1 f r.bq 1 1000000 T T
 have gf:=λu q d (f:bZ u q j d (((b.bx [gy]).bp 1 1000000).bx [ix]))=>r1 f t.bq 1 12 T T
 rw[wg];generalize(b.bx [gy]).k=w at*;generalize(((b.bx [gy]).bp 1 1000000).bx [ix]).k=x at*;go_enter func82,ntmps82;go_wp2_with(first|(go_at_call 130;refine(na gg s.bq [ix] bJ av 1 rfl).mono ?_;rintro e gj ⟨rfl,gC,gE,gF,gL⟩)|(go_at_call 130;obtain⟨g1,hu⟩:=h.ug (aw mo 101);have A:=aL.bT L mo 101;have C:=cy ab (S (R L)) 8;have D:=na g1 p.bq [gy] bJ av 1 rfl;rw[hQ]at D;refine D.mono ?_;rintro e q ⟨rfl,u,d,f,hE⟩)|(go_at_call 131;refine(gf gC gj gE gF).mono ?_;rintro e hS ⟨rfl,hV,hZ,ih,iR⟩)|(go_at_call 131;refine(P u q d f).mono ?_;rintro e kr ⟨rfl,kx,k1,gg,iU⟩)|(go_at_call 132;refine(K hV hS hZ _ ih J).mono ?_;rintro e iZ ⟨k7,rfl,E,i0,i1,i2,F⟩;obtain⟨g,i,l,rfl⟩:=F.cV;have y:=(((hE.trans iU).trans gL).trans iR).trans i2;have c:=y.z C A;have m:=(y.ci _ A.am).trans C;have jt:=c.aa 0;have jW:=c.aa 1;have j4:=c.aa 2;have lo:=c.b 0;have l8:=c.b 1;have me:=c.b 2;simp[mo]at jt jW j4))
 have z:=c.wN (O Q w) (O Q x) (U g i l);have G:=z.aa 0;have H:=z.aa 1;have I:=z.aa 2;simp at G H I;have j9:=Ap iZ (S (R L)) (O Q w) (O Q x) (U g i l);refine dG (v:=dA #[O Q w,O Q x,U g i l]) (by simp[eS,results82,go_sem,G,H,I]) rfl
  ⟨_,rfl,E,i0,U g i l,?_,?_,rfl,?_⟩
 ·exact((i1.A (ai:=⟨S (R L),0,none⟩) m _).A (ai:=⟨S (R L),1,none⟩) m _).A (ai:=⟨S (R L),2,none⟩) m _
 ·exact(((hu.trans y).D (ai:=⟨S (R L),0,none⟩) (aN _) _).D (ai:=⟨S (R L),1,none⟩) (aN _) _).D (ai:=⟨S (R L),2,none⟩) (aN _) _
 ·exact p_ (bl:=E) j9 (λa e=>by cases e;exact m) (λ_ _ _=>rfl) F
def rB:Nat->Nat:=λ_=>7
def rt(f:Nat->Nat)(e:Nat):Nat->Nat:=aO (aO f e 8) (e+1) 1
theorem zX(h:a<d):rt ab d a=ab a:=by unfold rt;rw[cR _ _ _ _ T,cR _ _ _ _ T]
theorem vk(ab:Nat->Nat)(d:Nat):rt ab d d=8:=by unfold rt;rw[cR _ _ _ _ T,cy]
theorem LX(ab:Nat->Nat)(d:Nat):rt ab d (d+1)=1:=cy _ _ _
def zh(e:an):Array an:=#[e,O Q 0,cK false,O Q 0,cK false,O Q 0,U none 0 0]
theorem Dy{i:Nat}{Z:List co}(h:aY L F 141 3 (U (some ⟨A,0,none⟩) i w) (M Z) (bC co.h Z)):mP L A 0 Z/\M Z=i/\M Z<=w:=by
 have ba:∀a d,(b:a<M Z)->d<3->∀f,(co.h Z[a])[d]?=some f->aK L ⟨A,a*3+d,none⟩=some f:=by intro a d b j f k;have:=h.cells (g:=A) rfl (a*3+d) f (by rw[i5 co.h 3 (λ_=>rfl) _ _ _ b j];exact k);have l:(⟨A,0,none⟩:Addr).add (a*3+d)=⟨A,a*3+d,none⟩:=l0;rw[l]at this;exact this
 refine⟨⟨(h.lt A rfl).2,λa b=>?_,λa b=>?_,λa b=>?_⟩,?_⟩
 ·rw[du];exact ba a 0 b ak _ rfl
 ·rw[du];exact ba a 1 b ak _ rfl
 ·rw[du];exact ba a 2 b ak _ rfl
 ·rcases h.2 with⟨e,_⟩|⟨N,c,o,e,_,_,m,_⟩
  ·cases e
  ·cases e;exact⟨rfl,m⟩
theorem N9{Z:List co}(h:aY L F 141 3 (U (some ⟨A,0,none⟩) (M Z) w) (M Z) (bC co.h Z))(b:ab A=7):
 bZ (rt ab (S (R L))) (ar (ar L (aw mo 101)) (aw (zh (U (some ⟨A,0,none⟩) (M Z) w)) 177)) (S (R L)+1) ⟨A,0,w,U none 0 0⟩ (gD Z):=by
 obtain⟨a,_,c⟩:=Dy h;have d:(R (ar (ar L (aw mo 101)) (aw (zh (U (some ⟨A,0,none⟩) (M Z) w)) 177)))[A]?=(R L)[A]?:=by rw[fY _ _ _ (by simp;have:=a.am;omega),fY _ _ _ a.am]
 refine⟨cB _ _ _ av,LX _ _,a.d d b7,(zX a.am).trans b,c,λZ e=>?_⟩;cases e;exact⟨eE _ _ _ _,λN f=>by simp[ap]at f⟩
theorem xu{c d:Obj}(h:aU (rt ab (S (R L))) (ar (ar L c) d) u q):aU ab L u q:=by refine⟨λa b=>(h.ci a b7).trans (zX b),h.db.dR,h.db.hq,h.db.ho,by have:=h.b5;simp at this;omega,λa b=>?_⟩;rw[h.db.iA a ⟨b7,by rw[zX b.1];exact b.2⟩,fY _ _ _ b7,fY _ _ _ b.1]
theorem wL(g:aL q (S (R L)) mo 101)(h:aU ab L u q)(a b c:an)(d e f:Obj):aL (ar (ar (ar (ay (ay (ay q ⟨S (R L),0,none⟩ a) ⟨S (R L),1,none⟩ b) ⟨S (R L),2,none⟩ c) d) e) f) (S (R L)) #[a,b,c] 101/\aU ab L u (ar (ar (ar (ay (ay (ay q ⟨S (R L),0,none⟩ a) ⟨S (R L),1,none⟩ b) ⟨S (R L),2,none⟩ c) d) e) f):=
 ⟨(((g.wN a b c).a d).a e).a f,((((((h.D (ai:=⟨S (R L),0,none⟩) (aN _) a).D (ai:=⟨S (R L),1,none⟩) (aN _) b).D (ai:=⟨S (R L),2,none⟩) (aN _) c).a d).a e).a f)⟩
def I7(p:Nat->Nat)(L:aq)(g:List co)(h:an)(i:aq):Prop:=∃l,aU p L l i/\match go g with
 |.inr (s,e)=>h=b2 #[dA #[O Q 0,O Q 0,U none 0 0],O Q s,O Q e]
 |.inl (f,_)=>∃m,h=b2 #[dA #[O Q f.bd,O Q f.aZ,m],O Q 0,O Q 0]/\d3 l i (M g+1) m f.cJ
theorem Df{Z:List co}(h:aY L F 141 3 (U (some ⟨A,0,none⟩) (M Z) w) (M Z) (bC co.h Z))(i2:dw Z)(me:M Z<=2000)(j9:ab A=7):
 aR prog 54 #[U (some ⟨A,0,none⟩) (M Z) w] L λe o=>∃k,e=aM k/\I7 ab L Z k o:=by
 have kp:=N9 h j9;have gC:hN (M Z) (gD Z):=⟨i2,aN _,by show 0+M Z<=_;omega⟩;have gf:=Jl kp gC;obtain⟨b,gE⟩:∃b,ag (l1 (M Z) (gD Z)=b):=⟨_,rfl⟩;have hE:ag (go Z=if b.1.af.ao≠1 then .inr (b.1.af.aX,1)else match b.1.fZ with|some ai=>.inr (ai,2)|none=>match b.1.e1 with|some ai=>.inr (ai,3)|none=>.inl (b.2,0)):=by show _=_;rw[<-gE.out];rfl
 have gF:ag (0<M b.1.a7):=by have gL:=(hd gC.bq (bK:=[gy]) bJ).bq;have j:=(jd gL 1 1000000).bq;have c:=(hd j (bK:=[ix]) bJ).bq;have kr:M ((((gD Z).bx [gy]).bp 1 1000000).bx [ix]|>.bp 1 12).a7<=M Z:=bS (jd c 1 12).b0 (bS (hd j (bK:=[ix]) bJ).b0 (bS (jd gL 1 1000000).b0 (hd gC.bq (bK:=[gy]) bJ).b0));have hS:=(yh (se (M Z)) _ (jd c 1 12).bq kr).bq;rw[<-gE.out,wg];exact hS.a1
 rw[gE.out]at gf;clear gE i2 gC;have kx:=aL.bT L mo 101;have gg:=kx.a (aw (zh (U (some ⟨A,0,none⟩) (M Z) w)) 177);by_cases gj:b.1.af.ao=1
 ·have k1:((b.1.af.ao:Int)!=1)=false:=by simp[gj]
  have P:ag (go Z=match b.1.fZ with|some ai=>.inr (ai,2)|none=>match b.1.e1 with|some ai=>.inr (ai,3)|none=>.inl (b.2,0)):=by show _=_;rw[hE.out,aH (by simp[gj])]
  clear gj hE;obtain⟨k7,C⟩:∃lo,ag (b.1.e1=lo):=⟨_,rfl⟩;cases D:b.1.fZ with
  |some ai=>
   have g1:ag (b.1.fZ=some ai):=D;have H:ag (go Z=.inr (ai,2)):=by show _=_;rw[P.out,D]
   clear D P;go_enter func54,ntmps54;go_wp2_with(first|(go_at_call 82;refine gf.mono ?_;rintro e q ⟨k,rfl,u,hV,hZ,f,i,rfl,E⟩;obtain⟨l,m,p,rfl⟩:=E.cV;have d:=i.z (vk _ _) gg;have ih:=d.am;have iR:S (R L)<S (R q)+1:=T;have iU:S (R L)<S (R q)+1+1:=T;have jt:=f.ax.am;have jW:S (R L)+1<S (R q)+1:=T;have j4:S (R L)+1<S (R q)+1+1:=T;have r:=f.aa 2;have s:=f.aa 3;have t:=f.aa 4;have x:=f.aa 5;simp[fN]at r s t x;rw[g1.out]at r s;rw[C.out]at t x;simp at r s t x;have I:=d.aa 0;have J:=d.aa 1;have K:=d.aa 2;have iZ:=d.b 0;have i0:=d.b 1;have i1:=d.b 2;simp[mo]at I J K)|(go_at_call 83;refine(hw (f.a _) gF.out).mono ?_;rintro e o ⟨rfl,G,rfl⟩))
   go_region
   go_wp2;have g:=wL d (xu i) (O Q 0) (O Q 0) (U none 0 0) (aw #[O Q b.2.bd,O Q b.2.aZ,U l m p] 101) G (aw #[O Q b.1.af.ao,O Q b.1.af.aX,az b.1.af.bn] 141);have y:=g.1.e.aa 0;have z:=g.1.e.aa 1;have B:=g.1.e.aa 2;simp at y z B;refine dG (v:=b2 #[dA #[O Q 0,O Q 0,U none 0 0],O Q ai,O Q 2]) (by simp[eS,results54,go_sem,y,z,B]) rfl ⟨_,rfl,u,g.2.e,?_⟩;rw[H.out];rfl
  |none=>
   have g1:ag (b.1.fZ=none):=D;cases hu:k7 with
   |some ai=>
    have C:ag (b.1.e1=some ai):=C.out.trans hu;have H:ag (go Z=.inr (ai,3)):=by show _=_;rw[P.out,D,C.out]
    clear D hu P;go_enter func54,ntmps54;go_wp2_with(first|(go_at_call 82;refine gf.mono ?_;rintro e q ⟨k,rfl,u,hV,hZ,f,i,rfl,E⟩;obtain⟨l,m,p,rfl⟩:=E.cV;have d:=i.z (vk _ _) gg;have ih:=d.am;have iR:S (R L)<S (R q)+1:=T;have iU:S (R L)<S (R q)+1+1:=T;have jt:=f.ax.am;have jW:S (R L)+1<S (R q)+1:=T;have j4:S (R L)+1<S (R q)+1+1:=T;have r:=f.aa 2;have s:=f.aa 3;have t:=f.aa 4;have x:=f.aa 5;simp[fN]at r s t x;rw[g1.out]at r s;rw[C.out]at t x;simp at r s t x;have I:=d.aa 0;have J:=d.aa 1;have K:=d.aa 2;have iZ:=d.b 0;have i0:=d.b 1;have i1:=d.b 2;simp[mo]at I J K)|(go_at_call 83;refine(hw (f.a _) gF.out).mono ?_;rintro e o ⟨rfl,G,rfl⟩))
    go_region
    go_wp2;have g:=wL d (xu i) (O Q 0) (O Q 0) (U none 0 0) (aw #[O Q b.2.bd,O Q b.2.aZ,U l m p] 101) G (aw #[O Q b.1.af.ao,O Q b.1.af.aX,az b.1.af.bn] 141);have y:=g.1.e.aa 0;have z:=g.1.e.aa 1;have B:=g.1.e.aa 2;simp at y z B;refine dG (v:=b2 #[dA #[O Q 0,O Q 0,U none 0 0],O Q ai,O Q 3]) (by simp[eS,results54,go_sem,y,z,B]) rfl ⟨_,rfl,u,g.2.e,?_⟩;rw[H.out];rfl
   |none=>
    have C:ag (b.1.e1=none):=C.out.trans hu;have H:ag (go Z=.inl (b.2,0)):=by show _=_;rw[P.out,D,C.out]
    clear D hu P;go_enter func54,ntmps54;go_wp2_with(first|(go_at_call 82;refine gf.mono ?_;rintro e q ⟨k,rfl,u,hV,hZ,f,i,rfl,E⟩;obtain⟨l,m,p,rfl⟩:=E.cV;have d:=i.z (vk _ _) gg;have ih:=d.am;have iR:S (R L)<S (R q)+1:=T;have iU:S (R L)<S (R q)+1+1:=T;have jt:=f.ax.am;have jW:S (R L)+1<S (R q)+1:=T;have j4:S (R L)+1<S (R q)+1+1:=T;have r:=f.aa 2;have s:=f.aa 3;have t:=f.aa 4;have x:=f.aa 5;simp[fN]at r s t x;rw[g1.out]at r s;rw[C.out]at t x;simp at r s t x;have I:=d.aa 0;have J:=d.aa 1;have K:=d.aa 2;have iZ:=d.b 0;have i0:=d.b 1;have i1:=d.b 2;simp[mo]at I J K)|(go_at_call 83;refine(hw (f.a _) gF.out).mono ?_;rintro e o ⟨rfl,G,rfl⟩))
    have g:=wL d (xu i) (O Q b.2.bd) (O Q b.2.aZ) (U l m p) (aw #[O Q b.2.bd,O Q b.2.aZ,U l m p] 101) G (aw #[O Q b.1.af.ao,O Q b.1.af.aX,az b.1.af.bn] 141);have y:=g.1.aa 0;have z:=g.1.aa 1;have B:=g.1.aa 2;simp at y z B;refine dG (v:=b2 #[dA #[O Q b.2.bd,O Q b.2.aZ,U l m p],O Q 0,O Q 0]) (by simp[eS,results54,go_sem,y,z,B]) rfl ⟨_,rfl,u,g.2,?_⟩;rw[H.out];refine⟨_,rfl,?_⟩;have l8:=(i.ci _ gg.am).trans (vk _ _);have gL:=p_ (bl:=u) (Ap q (S (R L)) (O Q b.2.bd) (O Q b.2.aZ) (U l m p)) (λa e=>by cases e;exact l8) (λ_ _ _=>rfl) E;have j:=p_ (bl:=u) (fv _ (aw #[O Q b.2.bd,O Q b.2.aZ,U l m p] 101) none) (λa e=>by cases e) (λ_ _ _=>rfl) gL;have c:=p_ (bl:=u) (fv _ G none) (λa e=>by cases e) (λ_ _ _=>rfl) j;have hS:=p_ (bl:=u) (fv _ (aw #[O Q b.1.af.ao,O Q b.1.af.aX,az b.1.af.bn] 141) none) (λa e=>by cases e) (λ_ _ _=>rfl) c;exact hS
 ·have k1:((b.1.af.ao:Int)!=1)=true:=by simp;omega
  have H:ag (go Z=.inr (b.1.af.aX,1)):=by show _=_;rw[hE.out,aP gj]
  clear gj;go_enter func54,ntmps54;go_wp2_with(first|(go_at_call 82;refine gf.mono ?_;rintro e q ⟨k,rfl,u,hV,hZ,f,i,rfl,E⟩;obtain⟨l,m,p,rfl⟩:=E.cV;have d:=i.z (vk _ _) gg;have ih:=d.am;have iR:S (R L)<S (R q)+1:=T;have iU:S (R L)<S (R q)+1+1:=T;have I:=d.aa 0;have J:=d.aa 1;have K:=d.aa 2;have iZ:=d.b 0;have i0:=d.b 1;have i1:=d.b 2;simp[mo]at I J K)|(go_at_call 83;refine(hw (f.a _) gF.out).mono ?_;rintro e o ⟨rfl,G,rfl⟩))
  go_region
  go_wp2;have g:=wL d (xu i) (O Q 0) (O Q 0) (U none 0 0) (aw #[O Q b.2.bd,O Q b.2.aZ,U l m p] 101) G (aw #[O Q b.1.af.ao,O Q b.1.af.aX,az b.1.af.bn] 141);have y:=g.1.e.aa 0;have z:=g.1.e.aa 1;have B:=g.1.e.aa 2;simp at y z B;refine dG (v:=b2 #[dA #[O Q 0,O Q 0,U none 0 0],O Q b.1.af.aX,O Q 1]) (by simp[eS,results54,go_sem,y,z,B]) rfl ⟨_,rfl,u,g.2.e,?_⟩;rw[H.out];rfl
def eP(f:List aB->Nat×Nat)(e:aB):Nat×Nat:=
 if e.cv.isEmpty then(1,e.bG)else e.cv.foldl (λg h=>(g.1+(f h).1,max g.2 (f h).2)) (0,0)
def n0(e:List aB->Nat×Nat)(f:Nat×Nat)(g:aB):Nat×Nat:=(min (f.1*(eP e g).1) 17,f.2+(eP e g).2)
def ce:Nat->List aB->Nat×Nat
 |0,_=>(1,0)
 |e+1,f=>f.foldl (n0 (ce e)) (1,0)
def c9:Nat->List aB->Nat
 |0,_=>0
 |f+1,g=>(g.map λe=>e.bG+1+(e.cv.map λh=>c9 f h+1).sum).sum
theorem tD(Z:List Nat)(a:Nat):(Z.take a).sum<=Z.sum:=by
 induction Z generalizing a with
 |nil=>simp
 |cons c Z b=>cases a with
  |zero=>simp
  |succ a=>simp;exact b a
theorem pf{Z:List Nat}{a:Nat}(h:a∈Z):a<=Z.sum:=by
 induction Z with
 |nil=>simp at h
 |cons j Z b=>
  simp only[ek]at h;rcases h with rfl|h
  ·simp
  ·have:=b h;simp;omega
theorem xB(Z:List Nat)(h:∀a∈Z,1<=a):M Z<=Z.sum:=by
 induction Z with
 |nil=>simp
 |cons j Z b=>have d:=h j (um ..);have e:=b (λa c=>h a (uo _ c));simp;omega
theorem BU(W:Nat)(Z:List aB):(ce W Z).1<=17:=by
 cases W with
 |zero=>show 1<=17;omega
 |succ W=>
  have ba:∀(Z:List aB) (a:Nat×Nat),a.1<=17->(Z.foldl (n0 (ce W)) a).1<=17:=by
   intro Z
   induction Z with
   |nil=>intro a h;exact h
   |cons ai Z b=>intro a _;exact b _ (GR _ _)
  exact ba Z (1,0) (by show 1<=17;omega)
def kT(f:List aB->Nat×Nat)(e:List (List aB))(h:Nat):Nat×Nat:=(e.take h).foldl (λg e=>(g.1+(f e).1,max g.2 (f e).2)) (0,0)
def e7(e:List aB->Nat×Nat)(f:List aB)(g:Nat):Nat×Nat:=(f.take g).foldl (n0 e) (1,0)
theorem s7{ai:Prop}(h:ai:=by unfold e7;rw[eQ];rfl):ai:=h
theorem E4(b:List aB->Nat×Nat)(c:List (List aB))(a:Nat)(h:a<M c):kT b c (a+1)=((kT b c a).1+(b c[a]).1,max (kT b c a).2 (b c[a]).2):=by unfold kT;rw[ev h,h_];rfl
theorem uN(b:List aB->Nat×Nat)(Z:List aB)(a:Nat)(h:a<M Z):e7 b Z (a+1)=n0 b (e7 b Z a) Z[a]:=by unfold e7;rw[ev h,h_];rfl
theorem DJ(e:∀b∈c,(ce W b).2<=c9 W b):∀a,a<=M c->(kT (ce W) c a).1<=17*a/\(kT (ce W) c a).2<=(c.map λb=>c9 W b+1).sum:=by
 intro a
 induction a with
 |zero=>intro _;exact⟨by show 0<=_;omega,by show 0<=_;omega⟩
 |succ a f=>intro g;have h:=f T;rw[E4 _ _ _ T];have d:c[a]∈c:=b4 T;have i:=BU W c[a];have j:=e _ d;have k:c9 W c[a]+1<=(c.map λb=>c9 W b+1).sum:=pf (eG.2 ⟨_,d,rfl⟩);exact⟨by show _+_<=_;omega,by show max _ _<=_;omega⟩
theorem De(d:∀a∈ai.cv,(ce W a).2<=c9 W a):(eP (ce W) ai).1<=17*(ai.cv.map λa=>c9 W a+1).sum+1/\(eP (ce W) ai).2<=ai.bG+1+(ai.cv.map λa=>c9 W a+1).sum:=by
 unfold eP;split
 ·exact⟨by show 1<=_;omega,by show ai.bG<=_;omega⟩
 ·have h:=DJ d (M ai.cv) (aN _);have e:kT (ce W) ai.cv (M ai.cv)=ai.cv.foldl (λb c=>(b.1+(ce W c).1,max b.2 (ce W c).2)) (0,0):=by unfold kT;rw[eQ]
  rw[e]at h;have f:=xB (ai.cv.map λa=>c9 W a+1) (λb g=>by obtain⟨a,_,rfl⟩:=eG.1 g;omega);rw[c_]at f;exact⟨by have:=h.1;omega,by have:=h.2;omega⟩
theorem F7(d:∀ai∈Z,∀b∈ai.cv,(ce W b).2<=c9 W b):∀a,a<=M Z->(e7 (ce W) Z a).1<=17/\(e7 (ce W) Z a).2<=((Z.map λai=>ai.bG+1+(ai.cv.map λc=>c9 W c+1).sum).take a).sum:=by
 intro a
 induction a with
 |zero=>intro _;exact⟨by show 1<=17;omega,by show 0<=_;omega⟩
 |succ a e=>intro g;have h:=e T;rw[uN _ _ _ T];refine⟨GR _ _,?_⟩;have f:Z[a]∈Z:=b4 T;have i:=(De (d _ f)).2;rw[ev (by rw[c_];omega),qO];have j:=h.2;simp only[yz,qx,GI];show _+_<=_;omega
theorem xY:∀W Z,(ce W Z).2<=c9 W Z:=by
 intro W
 induction W with
 |zero=>intro Z;show 0<=_;omega
 |succ W a=>intro Z;have h:=(F7 (Z:=Z) (λai _ b _=>a b) (M Z) (aN _)).2;have e:e7 (ce W) Z (M Z)=ce (W+1) Z:=s7;rw[e]at h;exact bS h (tD _ _)
theorem x5(h:ai∈Z):ai.bG+1+(ai.cv.map λc=>c9 W c+1).sum<=c9 (W+1) Z:=pf (eG.2 ⟨ai,h,rfl⟩)
theorem CV:M Z<=c9 (W+1) Z:=by have:=xB (Z.map λai:aB=>ai.bG+1+(ai.cv.map λc=>c9 W c+1).sum) (λb a=>by obtain⟨d,_,rfl⟩:=eG.1 a;omega);rw[c_]at this;exact this
theorem d3.gj(h:d3 ab L (W+1) k Z):(Z=[]/\∃ai c,k=U ai 0 c)\/∃N w,k=U (some ⟨N,0,none⟩) (M Z) w/\N<S (R L)/\
 ∀a,(j:a<M Z)->∃y x,gH ab L W Z[a] y x/\aK L ⟨N,a*6,none⟩=some (az Z[a].name)/\aK L ⟨N,a*6+1,none⟩=some (O Q Z[a].aX)/\aK L ⟨N,a*6+2,none⟩=some (O Q Z[a].bG)/\aK L ⟨N,a*6+3,none⟩=some (O Q Z[a].ao)/\aK L ⟨N,a*6+4,none⟩=some y/\aK L ⟨N,a*6+5,none⟩=some x:=by
 obtain⟨d,s,i,_,l⟩:=h;rcases i.2 with⟨rfl,m⟩|⟨N,w,t,rfl,_,o,_⟩
 ·exact .inl ⟨sD m,_,_,rfl⟩
 ·refine .inr ⟨N,w,rfl,(i7.1 o).1,λa j=>⟨(d[a]'T).1,(d[a]'T).2,?_,?_⟩⟩
  ·have f:a<M (Z.zip d):=by rw[jT];omega
   have:=l _ (b4 f);unfold gH;simpa using this
  ·have f:a<M (Z.zip d):=by rw[jT];omega
   have ba:∀b,b<6->∀e,(e5 (Z[a],d[a]'T))[b]?=some e->aK L ⟨N,a*6+b,none⟩=some e:=by intro b p e q;have:=i.cells (g:=N) rfl (a*6+b) e (by rw[i5 e5 6 (λ_=>rfl) _ _ _ f p];simpa using q);have r:(⟨N,0,none⟩:Addr).add (a*6+b)=⟨N,a*6+b,none⟩:=l0;rw[r]at this;exact this
   exact⟨ba 0 ak _ rfl,ba 1 ak _ rfl,ba 2 ak _ rfl,ba 3 ak _ rfl,ba 4 ak _ rfl,ba 5 ak _ rfl⟩
theorem nt.gj{e:an->List aB->Prop}(h:nt ab L e k c)(f:c≠[]):∃N w,k=U (some ⟨N,0,none⟩) (M c) w/\N<S (R L)/\∀a,(l:a<M c)->∃i,e i c[a]/\aK L ⟨N,a,none⟩=some i:=by
 rcases h with⟨d,_⟩|⟨_,b,r,j,_,m⟩
 ·exact absurd d f
 ·rcases j.2 with⟨rfl,d⟩|⟨N,w,s,rfl,_,o,_⟩
  ·exact absurd (sD d) f
  ·refine⟨N,w,rfl,(i7.1 o).1,λa l=>⟨b[a]'T,?_,?_⟩⟩
   ·have p:a<M (c.zip b):=by rw[jT];omega
    have:=m _ (b4 p);simpa using this
   ·have:=j.cells (g:=N) rfl a (b[a]'T) (by simp[show a<M b by omega]);have q:(⟨N,0,none⟩:Addr).add a=⟨N,a,none⟩:=l0;rw[q]at this;exact this
theorem CJ(L:aq):(binOp .eql 187 (U none 0 0) (U none 0 0)).run prog L=.ok (cK true) L:=by kernel_rfl
theorem Gn(a:Addr)(W c:Nat)(L:aq):(binOp .eql 187 (U (some a) W c) (U none 0 0)).run prog L=.ok (cK false) L:=by kernel_rfl
def Dt(f:Nat):Prop:=∀(i:Nat->Nat) (L:aq) (h:an) (g:List aB),d3 i L f h g->c9 f g<=100000000000000->aR prog 133 #[h] L λe l=>e=aM (b2 #[O Q (ce f g).1,O Q (ce f g).2])/\aF (S (R L)) L l
theorem QS(A:Dt W)(h:gH ab L W ai y x)(gF:ai.bG+1+(ai.cv.map λc=>c9 W c+1).sum<=100000000000000):
 aR prog 169 #[eu ai y x] L λe o=>e=aM (b2 #[O Q (eP (ce W) ai).1,O Q (eP (ce W) ai).2])/\aF (S (R L)) L o:=by
 by_cases i:ai.cv=[]
 ·have k:ag (eP (ce W) ai=(1,ai.bG)):=by show _=_;unfold eP;rw[aP (by simp[i])]
  have B:x=U none 0 0:=by
   rcases h.2 with⟨_,e⟩|⟨C,_⟩
   ·exact e
   ·exact absurd i C
  subst B;have D:=CJ;simp only[eu];go_enter func169,ntmps169;go_wp2;go_quiet(fail);go_wp2
  go_ret2
  rw[k.out];exact⟨rfl,eY ((ca _ _).alloc (aN _) _) (r4 _ _ none) (λN e=>by cases e)⟩
 ·obtain⟨N,w,rfl,E,s⟩:=h.2.gj i;have D:=Gn;have k:ag (eP (ce W) ai=kT (ce W) ai.cv (M ai.cv)):=by show _=_;unfold eP kT;rw[aH (by simpa using i),eQ]
  have gL:M ai.cv<=100000000000000:=by have F:=xB (ai.cv.map λb=>c9 W b+1) (λt G=>by obtain⟨b,_,rfl⟩:=eG.1 G;omega);rw[c_]at F;omega
  have l:∀a,a<=M ai.cv->ag ((kT (ce W) ai.cv a).1<=17*100000000000000/\(kT (ce W) ai.cv a).2<=100000000000000):=λa d=>by have:=DJ (λb _=>xY W b) a d;exact⟨T,T⟩
  simp only[eu];generalize ai.cv=c at*;go_enter func169,ntmps169;go_wp2
  go_loopw [2,3,16] (λt j m wr=>∃a:Nat,a<=M c/\m=O Q a/\t=O Q (kT (ce W) c a).1/\j=O Q (kT (ce W) c a).2/\aF (S (R L)) L wr) (λ_ _ m _=>M c-(bm m).toNat)
  case atStart=>exact⟨0,bL _,rfl,rfl,rfl,(ca _ _).alloc (aN _) _⟩
  case round=>
   obtain⟨a,d,rfl,rfl,rfl,f⟩:=hrel;by_cases g:a<M c
   ·obtain⟨H,u,I⟩:=s a g;have g1:=(f.cell (p:=⟨N,a,none⟩) E).trans I;have J:=d3.bo (bl:=ab) (aI:=wr) ⟨λ_ _=>rfl,(ea.sY f).cE (λ_ d=>d.1)⟩ W _ _ u;have K:c9 W c[a]<=100000000000000:=by have:=pf (Z:=c.map λb=>c9 W b+1) (eG.2 ⟨c[a],b4 g,rfl⟩);omega
    have P:=A ab wr H c[a] J K;obtain⟨hu,hE,hS,rfl⟩:=u.cV;have r:=E4 (ce W) c a g;have gf:=(l a d).out;have v:=(l (a+1) g).out;rw[r]at v;have z:ag _:=r;clear r;obtain⟨hV,hZ⟩:=gf;obtain⟨gg,gj⟩:=v;simp only at gg gj;have ih:(a:Int)<(M c:Int):=T;have iR:=BU W c[a];clear s l;generalize(ce W c[a]).1=iU at*;generalize(ce W c[a]).2=iZ at*;generalize(kT (ce W) c a).1=i0 at*;generalize(kT (ce W) c a).2=i1 at*;go_wp2_with(go_at_call 133;refine P.mono ?_;rintro e q ⟨rfl,gC⟩);go_roundw
    case rel=>exact⟨a+1,g,bE,by rw[z.out];congr 1,by rw[z.out];congr 1;simp only;omega,f.trans (gC.mono f.size)⟩
    case measure=>simp[bm];omega
   ·have gE:a=M c:=by omega
    subst gE;go_wp2
    go_ret2
    rw[k.out];exact⟨rfl,f⟩
theorem Ky:∀W,Dt W:=by
 intro W
 induction W with
 |zero=>intro ab L k Z h;exact h.elim
 |succ W gg=>
  intro ab L k Z h l;have t:∀a,a<=M Z->ag ((e7 (ce W) Z a).1<=17/\(e7 (ce W) Z a).2<=100000000000000):=λa b=>by have:=F7 (Z:=Z) (λai _ u _=>xY W u) a b;exact⟨this.1,bS this.2 (bS (tD _ _) l)⟩
  have gj:ag (ce (W+1) Z=e7 (ce W) Z (M Z)):=by show _=_;unfold e7;rw[eQ];rfl
  have hV:M Z<=100000000000000:=bS CV l;rcases h.gj with⟨rfl,hZ,v,rfl⟩|⟨N,w,rfl,gC,D⟩
  ·go_enter func133,ntmps133;go_wp2
   go_loopw [2,3,10] (λm j d wr=>m=O Q 1/\j=O Q 0/\d=O Q 0/\wr=L) (λ_ _ _ _=>0)
   case atStart=>exact⟨rfl,rfl,rfl,rfl⟩
   case round=>
    obtain⟨rfl,rfl,rfl,rfl⟩:=hrel;go_wp2
    go_ret2
    exact⟨rfl,ca _ _⟩
  ·have z:∀a,(b:a<M Z)->Z[a].bG+1+(Z[a].cv.map λc=>c9 W c+1).sum<=100000000000000:=λa b=>bS (x5 (b4 b)) l
   have E:∀a,(b:a<M Z)->(eP (ce W) Z[a]).1<=17*100000000000000+1/\(eP (ce W) Z[a]).2<=100000000000000:=λa b=>by have m:=De (W:=W) (ai:=Z[a]) (λu _=>xY W u);have j:=z a b;exact⟨T,T⟩
   clear h l;go_enter func133,ntmps133;go_wp2
   go_loopw [2,3,10] (λm j d wr=>∃a:Nat,a<=M Z/\d=O Q a/\m=O Q (e7 (ce W) Z a).1/\j=O Q (e7 (ce W) Z a).2/\aF (S (R L)) L wr) (λ_ _ d _=>M Z-(bm d).toNat)
   case atStart=>exact⟨0,bL _,rfl,rfl,rfl,ca _ _⟩
   case round=>
    obtain⟨a,b,rfl,rfl,rfl,g⟩:=hrel;by_cases i:a<M Z
    ·obtain⟨y,x,o,v,F,G,H,I,J⟩:=D a i;have f:∀d A,aK L ⟨N,a*6+d,none⟩=some A->aK wr ⟨N,a*6+d,none⟩=some A:=λd A e=>(g.cell (p:=⟨N,a*6+d,none⟩) gC).trans e
     have gE:=f 0 _ v;have ih:=f 1 _ F;have iR:=f 2 _ G;have iU:=f 3 _ H;have iZ:=f 4 _ I;have i0:=f 5 _ J;rw[pC]at gE;have K:gH ab (ar wr (aw #[az Z[a].name,O Q Z[a].aX,O Q Z[a].bG,O Q Z[a].ao,y,x] 189)) W Z[a] y x:=o.bo ⟨λ_ _=>rfl,(ea.sY (g.alloc g.size _)).cE (λ_ b=>b.1)⟩
     have P:=QS gg K (z a i);obtain⟨i1,i2,jt,rfl⟩:=dr o.1.1;obtain⟨jW,j4,j9,rfl⟩:=o.2.cV;have B:ag (e7 (ce W) Z (a+1)=n0 (ce W) (e7 (ce W) Z a) Z[a]):=uN (ce W) Z a i;have C:ag (n0 (ce W) (e7 (ce W) Z a) Z[a]=(min ((e7 (ce W) Z a).1*(eP (ce W) Z[a]).1) 17,(e7 (ce W) Z a).2+(eP (ce W) Z[a]).2)):=rfl;obtain⟨gF,kp⟩:=(t a b).out;have gf:=(t (a+1) i).out;rw[B.out,C.out]at gf;obtain⟨gL,g1⟩:=gf;simp only at gL g1;obtain⟨hu,kr⟩:=E a i;have kx:(a:Int)<(M Z:Int):=T;have k1:(0:Int)<=(a:Int):=T;simp only[eu]at P;clear D t f o K E z v F G H I J;generalize(eP (ce W) Z[a]).1=r at*;generalize(eP (ce W) Z[a]).2=k7 at*;generalize(e7 (ce W) Z a).1=s at*;generalize(e7 (ce W) Z a).2=lo at*;have l8:s*r<=17*(17*100000000000000+1):=tx gF hu;have me:((s:Int)*(r:Int))=((s*r:Nat):Int):=av;generalize s*r=mn at*;go_wp2_with(go_at_call 169;refine P.mono ?_;rintro e q ⟨rfl,hE⟩);go_roundw
     case rel=>exact⟨a+1,i,bE,by rw[B.out,C.out];congr 1;simp only;omega,by rw[B.out,C.out];congr 1,eY (g.alloc g.size _) (Hn hE) (λN e=>by cases e)⟩
     case measure=>simp[bm];omega
    ·have hS:a=M Z:=by omega
     subst hS;go_wp2
     go_ret2
     rw[gj.out];exact⟨rfl,g⟩
def jE(e:Nat)(f:List aB):Bool:=decide (16<(ce e f).1)||decide (8<(ce e f).2)
theorem xG(h:d3 ab L W k Z)(d:c9 W Z<=100000000000000):
 aR prog 84 #[k] L λe o=>e=aM (cK (jE W Z))/\aF (S (R L)) L o:=by
 have f:=Ky W ab L k Z h d;have l:=BU W Z;have m:=bS (xY W Z) d;have g:ag (jE W Z=(decide (16<(ce W Z).1)||decide (8<(ce W Z).2))):=rfl;obtain⟨p,r,s,rfl⟩:=h.cV;generalize(ce W Z).1=a at*;generalize(ce W Z).2=t at*;by_cases i:16<a
 ·have b:(16:Int)<(a:Int):=by omega
  have j:decide ((16:Int)<(a:Int))=true:=by simpa using b
  go_enter func84,ntmps84;go_wp2_with(go_at_call 133;refine f.mono ?_;rintro e q ⟨rfl,c⟩);go_ret;exact⟨kC (by rw[g.out];simp[i]),c⟩
 ·have b:¬(16:Int)<(a:Int):=by omega
  have j:decide ((16:Int)<(a:Int))=false:=by simpa using b
  go_enter func84,ntmps84;go_wp2_with(go_at_call 133;refine f.mono ?_;rintro e q ⟨rfl,c⟩);go_ret;exact⟨kC (by rw[g.out];simp[i];omega),c⟩
structure iY (ab:Nat->Nat) (L:aq) (N pK:Nat) (Z:List aB):Prop where
 am:N<L.heap.size
 cG:ab N=7
 ep:∀Y,(Ck:Y<Z.length)->∃dc cC,hb ab L dc Z[Y].bB/\(∃bj X aE,cC=U bj X aE)/\L.cell? ⟨N,(pK+Y)*6,none⟩=some (az Z[Y].name)/\L.cell? ⟨N,(pK+Y)*6+1,none⟩=some (O Q Z[Y].aX)/\L.cell? ⟨N,(pK+Y)*6+2,none⟩=some (O Q Z[Y].bG)/\L.cell? ⟨N,(pK+Y)*6+3,none⟩=some (O Q Z[Y].ao)/\L.cell? ⟨N,(pK+Y)*6+4,none⟩=some dc/\L.cell? ⟨N,(pK+Y)*6+5,none⟩=some cC
def hA(i:Nat->Nat)(L:aq)(f:an)(e:List aB):Prop:=(e=[]/\∃l m,f=U l 0 m)\/∃N g h,f=U (some ⟨N,g*6,none⟩) (M e) h/\M e<=h/\iY i L N g e
theorem iY.bo(h:iY ab L N z Z)(b:aU ab L D o):iY D o N z Z:=by have e:=b.db.iA N ⟨h.am,by rw[h.cG];decide⟩;refine⟨cI h.am b.b5,(b.ci N h.am).trans h.cG,λa c=>?_⟩;obtain⟨y,x,d,f,g,i,j,k,l,m⟩:=h.ep a c;exact⟨y,x,d.bo b,f,(dn e _).trans g,(dn e _).trans i,(dn e _).trans j,(dn e _).trans k,(dn e _).trans l,(dn e _).trans m⟩
theorem hA.bo(h:hA ab L k Z)(a:aU ab L D o):hA D o k Z:=by
 rcases h with h|⟨N,z,w,b,c,d⟩
 ·exact .inl h
 ·exact .inr ⟨N,z,w,b,c,d.bo a⟩
theorem aU.H(h:aF (S (R L)) L o):aU ab L ab o:=⟨λ_ _=>rfl,(ea.sY h).cE (λ_ b=>b.1)⟩
def cW(e:aB):Bool:=!(e.name.toList==[])
theorem sz(ai:aB)(y x:an)(b:∃a j c,y=U a j c)(d:∃a j c,x=U a j c)(L:aq):
 aR prog 91 #[eu ai y x] L λe o=>e=aM (cK (cW ai))/\∃f,o=ar L f:=by
 obtain⟨a,j,c,rfl⟩:=b;obtain⟨h,i,k,rfl⟩:=d;have e:∀Z:List UInt8,Z.isEmpty=(Z==[]):=λZ=>by cases Z<;>rfl
 have g:ag (cW ai=!(ai.name.toList.isEmpty)):=by show _=_;unfold cW;rw[e]
 clear e;simp only[eu];go_enter func91,ntmps91;go_wp2;go_ret;exact⟨kC g.out.symm,_,rfl⟩
def c7(e:List aB):Nat:=M (e.filter cW)
theorem IF(Z:List aB)(a:Nat)(h:a<M Z):c7 (Z.take (a+1))=c7 (Z.take a)+if cW Z[a]then 1 else 0:=by unfold c7;rw[ev h,lE,bV];cases b:cW Z[a]<;>simp[b]
theorem EP(Z:List aB):c7 Z<=M Z:=vf _ _
theorem wo(h:hA ab L k Z)(G:M Z<=1000000):
 aR prog 136 #[k] L λe o=>e=aM (O Q (c7 Z))/\aF (S (R L)) L o:=by
 rcases h with⟨rfl,H,I,rfl⟩|⟨N,z,w,rfl,J,r⟩
 ·go_enter func136,ntmps136;go_wp2
  go_loopw [3,8] (λi d wr=>i=O Q 0/\d=O Q 0/\wr=L) (λ_ _ _=>0)
  case atStart=>exact⟨rfl,rfl,rfl⟩
  case round=>obtain⟨rfl,rfl,rfl⟩:=hrel;go_wp2;go_ret;exact⟨rfl,ca _ _⟩
 ·go_enter func136,ntmps136;go_wp2
  go_loopw [3,8] (λi d wr=>∃a:Nat,a<=M Z/\d=O Q a/\i=O Q (c7 (Z.take a))/\aF (S (R L)) L wr) (λ_ d _=>M Z-(bm d).toNat)
  case atStart=>exact⟨0,bL _,rfl,rfl,ca _ _⟩
  case round=>
   obtain⟨a,K,rfl,rfl,b⟩:=hrel;have s:=EP (Z.take a);rw[hT]at s;by_cases g:a<M Z
   ·obtain⟨y,x,j,l,t,u,v,A,B,C⟩:=(r.bo (aU.H b)).ep a g;have m:(z+a)*6=z*6+a*6:=T;rw[m]at t u v A B C;have c:ag (c7 (Z.take (a+1))=c7 (Z.take a)+if cW Z[a]then 1 else 0):=IF Z a g;have f:=λL=>sz Z[a] y x (dr j.1) l L
    obtain⟨P,gf,gg,rfl⟩:=dr j.1;obtain⟨gj,gC,gE,rfl⟩:=l;have gF:(a:Int)<(M Z:Int):=T;have gL:(0:Int)<=(a:Int):=T;simp only[eu]at f;clear m j;generalize z*6=g1 at*;cases p:cW Z[a]with
    |true=>
     rw[p]at f c;simp only[iC]at c;go_wp2_with(go_at_call 91;refine(f _).mono ?_;rintro e q ⟨rfl,D,rfl⟩);go_roundw
     case rel=>exact⟨a+1,g,bE,by rw[c.out];go_num,(b.alloc b.size _).alloc (by simp;have:=b.size;omega) _⟩
     case measure=>simp[bm];omega
    |false=>
     rw[p]at f c;simp only[rc,lh,pC]at c;go_wp2_with(go_at_call 91;refine(f _).mono ?_;rintro e q ⟨rfl,D,rfl⟩);go_roundw
     case rel=>exact⟨a+1,g,bE,by rw[c.out],(b.alloc b.size _).alloc (by simp;have:=b.size;omega) _⟩
     case measure=>simp[bm];omega
   ·have E:a=M Z:=by omega
    subst E;have F:ag (Z.take (M Z)=Z):=eQ;go_wp2;go_ret;rw[F.out];exact⟨rfl,b⟩
def hf(f:Nat):Nat->Nat×Nat
 |0=>(0,1)
 |e+1=>((hf f e).1+(hf f e).2*(f-e)/(e+1),(hf f e).2*(f-e)/(e+1))
def n1(e f:Nat):Nat:=(hf e (f-1)).1
theorem PK(c:aZ<=12):∀a,(hf aZ a).2<=12^a:=by
 intro a
 induction a with
 |zero=>exact aN _
 |succ a b=>show(hf aZ a).2*(aZ-a)/(a+1)<=_;refine bS (Nat.div_le_self _ _) ?_;rw[vy];exact tx b T
theorem LZ:∀a,aZ<a->(hf aZ a).2=0:=by
 intro a
 induction a with
 |zero=>intro h;omega
 |succ a b=>
  intro h;show(hf aZ a).2*(aZ-a)/(a+1)=0;by_cases e:aZ<a
  ·rw[b e,Nat.zero_mul,Nat.zero_div]
  ·rw[show aZ-a=0 by omega,Nat.mul_zero,Nat.zero_div]
theorem AB(b:aZ<=12):∀a,a<=8->(hf aZ a).2<=429981696/\(hf aZ a).1<=429981696*a:=by
 intro a
 induction a with
 |zero=>intro _;exact⟨by show 1<=_;omega,by show 0<=_;omega⟩
 |succ a c=>intro d;have h:=c T;have e:(hf aZ (a+1)).2<=429981696:=bS (PK b (a+1)) (bS (sc ak d) ak);exact⟨e,by show(hf aZ a).1+(hf aZ (a+1)).2<=_;omega⟩
theorem JR(h:hA ab L k Z)(l:M Z<=1000000)(E:c7 Z<=8)(F:1<=c7 Z)(m:aZ<=12):
 aR prog 89 #[k,O Q aZ] L λe o=>e=aM (O Q (n1 aZ (c7 Z)))/\aF (S (R L)) L o:=by
 have v:=wo h l;have x:∃f j c,k=U f j c:=by rcases h with⟨_,ai,c,rfl⟩|⟨N,z,w,rfl,_⟩<;>exact⟨_,_,_,rfl⟩
 obtain⟨G,H,I,rfl⟩:=x;clear h l;generalize c7 Z=b at*;have y:ag (n1 aZ b=(hf aZ (b-1)).1):=rfl;go_enter func89,ntmps89;go_wp2_with(go_at_call 136;refine v.mono ?_;rintro e q ⟨rfl,A⟩)
 go_loop [5,6,11] (λf j g=>∃a:Nat,a<=b-1/\g=O Q a/\f=O Q (hf aZ a).1/\j=O Q (hf aZ a).2) (λ_ _ g=>b-1-(bm g).toNat)
 case atStart=>exact⟨0,bL _,rfl,rfl,rfl⟩
 case round=>
  obtain⟨a,J,rfl,rfl,rfl⟩:=hrel;obtain⟨B,K⟩:=AB m a T;by_cases P:a<b-1
  ·have i:ag (hf aZ (a+1)=((hf aZ a).1+(hf aZ a).2*(aZ-a)/(a+1),(hf aZ a).2*(aZ-a)/(a+1))):=rfl
   obtain⟨p,r⟩:=AB m (a+1) T;rw[i.out]at r p;simp only at r p;have C:(a:Int)<(b:Int)-1:=T;have s:=LZ (aZ:=aZ) a;have gf:((hf aZ a).2:Int)*((aZ:Int)-(a:Int))=(((hf aZ a).2*(aZ-a):Nat):Int):=by
    by_cases e:aZ<a
    ·rw[s e];simp
    ·rw[Int.natCast_mul,Int.natCast_sub T]
   have gg:(hf aZ a).2*(aZ-a)<=429981696*12:=tx B T;clear s;generalize(hf aZ a).2=t at*;generalize(hf aZ a).1=gj at*;generalize u:t*(aZ-a)=d at*;have gC:ag (t*(aZ-a)=d):=u;clear u;have gE:(d:Int)/((a:Int)+1)=((d/(a+1):Nat):Int):=av;generalize d/(a+1)=gF at*;go_wp2
   go_round
   case rel=>exact⟨a+1,T,bE,by rw[i.out];go_num,by rw[i.out]⟩
   case measure=>simp[bm];omega
  ·have D:a=b-1:=by omega
   subst D;have C:¬(((b-1:Nat)):Int)<(b:Int)-1:=T;go_wp2;go_ret;rw[y.out];exact⟨rfl,A⟩
theorem iY.lJ(h:iY ab L N z Z)(b:Nat):iY ab L N z (Z.take b):=by refine⟨h.am,h.cG,λa c=>?_⟩;rw[hT]at c;rw[List.getElem_take];exact h.ep a T
theorem iY.ET(h:iY ab L N z Z)(b:Nat):iY ab L N (z+b) (Z.drop b):=by refine⟨h.am,h.cG,λa c=>?_⟩;rw[la]at c;rw[GC,hr];exact h.ep (b+a) T
def fR(e:List aB)(f:Nat):Nat×Nat:=
 if cW (e.getD f default)||(decide (0<c7 (e.take f))&&decide (0<c7 (e.drop (f+1))))then(0,0)else((e.getD f default).aX,1)
theorem O_(C:iY ab L N z Z)(i0:M Z<=w)(i1:M Z<=1000000){a:Nat}(gC:a<M Z):
 aR prog 87 #[U (some ⟨N,z*6,none⟩) (M Z) w,O Q a] L λe o=>e=aM (b2 #[O Q (fR Z a).1,O Q (fR Z a).2])/\aF (S (R L)) L o:=by
 obtain⟨y,x,D,gE,g1,E,hu,hE,hS,hV⟩:=C.ep a gC;have H:(z+a)*6=z*6+a*6:=T;rw[H]at g1 E hu hE hS hV;have I:=C.am;have k:=λL=>sz Z[a] y x (dr D.1) gE L
 have J:Z.getD a default=Z[a]:=by simp[List.getD,gC]
 have g:ag (fR Z a=if cW Z[a]||(decide (0<c7 (Z.take a))&&decide (0<c7 (Z.drop (a+1))))then(0,0)else(Z[a].aX,1)):=by show _=_;unfold fR;rw[J]
 obtain⟨i2,jt,jW,rfl⟩:=dr D.1;obtain⟨j4,j9,kp,rfl⟩:=gE;have kr:(a:Int)<(M Z:Int):=T;have kx:(0:Int)<=(a:Int):=T;have k1:(a:Int)<=(w:Int):=T;have k7:(a:Int)+1<=(M Z:Int):=T;simp only[eu]at k;cases f:cW Z[a]with
 |true=>
  have h:ag (fR Z a=(0,0)):=by show _=_;rw[g.out,f];rfl
  rw[f]at k;clear f H J g D;go_enter func87,ntmps87;go_wp2_with(go_at_call 91;refine(k _).mono ?_;rintro e q ⟨rfl,i,rfl⟩)
  go_ret2
  rw[h.out];exact⟨rfl,(ca _ _).alloc (aN _) _⟩
 |false=>
  rw[f]at k;have s:∀o,aF (S (R L)) L o->hA ab o (U (some ⟨N,z*6,none⟩) a w) (Z.take a):=λo v=>by
   by_cases e:a=0
   ·subst e;exact .inl ⟨rfl,_,_,rfl⟩
   ·exact .inr ⟨N,z,w,by rw[hT,qn T],by rw[hT];omega,(C.lJ a).bo (aU.H v)⟩
  have j:=λo v=>wo (s o v) (by rw[hT];omega)
  clear H J D;generalize hZ:z*6=t at*;by_cases K:0<c7 (Z.take a)
  ·have F:∀o ai c,aF (S (R L)) L o->(a+1<M Z->ai=some ⟨N,t+(a+1)*6,none⟩/\M Z-(a+1)<=c)->hA ab o (U ai (M Z-(a+1)) c) (Z.drop (a+1)):=λo ai c v ih=>by
    by_cases e:a+1<M Z
    ·obtain⟨rfl,iR⟩:=ih e;refine .inr ⟨N,z+(a+1),c,by rw[la,<-hZ,show(z+(a+1))*6=z*6+(a+1)*6 by omega],by rw[la];exact iR,(C.ET (a+1)).bo (aU.H v)⟩
    ·exact .inl ⟨wS T,ai,c,by rw[show(M Z)-(a+1)=0 by omega]⟩
   have P:(0:Int)<(c7 (Z.take a):Int):=T;have iU:decide ((0:Int)<(c7 (Z.take a):Int))=true:=by simpa using P
   have gF:M (Z.drop (a+1))<=1000000:=by rw[la];omega
   by_cases iZ:w=a+1
   ·subst iZ;have u:=λo gf=>wo (F o (some ⟨N,t,none⟩) 0 gf (λe=>absurd e T)) gF
    rw[show(M Z)-(a+1)=0 by omega]at u;clear F;by_cases A:0<c7 (Z.drop (a+1))
    ·have h:ag (fR Z a=(0,0)):=by show _=_;rw[g.out,f];simp[K,A]
     have gg:(0:Int)<(c7 (Z.drop (a+1)):Int):=T;clear f g s;generalize c7 (Z.take a)=G at*;go_enter func87,ntmps87;go_wp2_with(first|(go_at_call 91;refine(k _).mono ?_;rintro e q ⟨rfl,i,rfl⟩;have b:aF (S (R L)) L (ar L i):=(ca _ _).alloc (aN _) _)|(go_at_call 136;have d:=b.trans (l.mono b.size);refine(u m d).mono ?_;rintro e gj ⟨rfl,r⟩)|(go_at_call 136;refine(j _ b).mono ?_;rintro e m ⟨rfl,l⟩;clear j))
     all_goals
      go_ret2
      rw[h.out];exact⟨rfl,d.trans (r.mono d.size)⟩
    ·have h:ag (fR Z a=(Z[a].aX,1)):=by show _=_;rw[g.out,f];simp[A]
     have gg:¬(0:Int)<(c7 (Z.drop (a+1)):Int):=T;clear f g s;generalize c7 (Z.take a)=G at*;go_enter func87,ntmps87;go_wp2_with(first|(go_at_call 91;refine(k _).mono ?_;rintro e q ⟨rfl,i,rfl⟩;have b:aF (S (R L)) L (ar L i):=(ca _ _).alloc (aN _) _)|(go_at_call 136;have d:=b.trans (l.mono b.size);refine(u m d).mono ?_;rintro e gj ⟨rfl,r⟩;have B:=d.trans (r.mono d.size);have gL:=(B.cell (p:=⟨N,t+a*6+1,none⟩) I).trans E)|(go_at_call 136;refine(j _ b).mono ?_;rintro e m ⟨rfl,l⟩;clear j))
     all_goals
      go_ret2
      rw[h.out];exact⟨rfl,B⟩
   ·have u:=λo gf=>wo (F o (some ⟨N,t+(a+1)*6,none⟩) (w-(a+1)) gf (λ_=>⟨rfl,T⟩)) gF
    clear F;by_cases A:0<c7 (Z.drop (a+1))
    ·have h:ag (fR Z a=(0,0)):=by show _=_;rw[g.out,f];simp[K,A]
     have gg:(0:Int)<(c7 (Z.drop (a+1)):Int):=T;clear f g s;generalize c7 (Z.take a)=G at*;go_enter func87,ntmps87;go_wp2_with(first|(go_at_call 91;refine(k _).mono ?_;rintro e q ⟨rfl,i,rfl⟩;have b:aF (S (R L)) L (ar L i):=(ca _ _).alloc (aN _) _)|(go_at_call 136;have d:=b.trans (l.mono b.size);refine(u m d).mono ?_;rintro e gj ⟨rfl,r⟩)|(go_at_call 136;refine(j _ b).mono ?_;rintro e m ⟨rfl,l⟩;clear j))
     all_goals
      go_ret2
      rw[h.out];exact⟨rfl,d.trans (r.mono d.size)⟩
    ·have h:ag (fR Z a=(Z[a].aX,1)):=by show _=_;rw[g.out,f];simp[A]
     have gg:¬(0:Int)<(c7 (Z.drop (a+1)):Int):=T;clear f g s;generalize c7 (Z.take a)=G at*;go_enter func87,ntmps87;go_wp2_with(first|(go_at_call 91;refine(k _).mono ?_;rintro e q ⟨rfl,i,rfl⟩;have b:aF (S (R L)) L (ar L i):=(ca _ _).alloc (aN _) _)|(go_at_call 136;have d:=b.trans (l.mono b.size);refine(u m d).mono ?_;rintro e gj ⟨rfl,r⟩;have B:=d.trans (r.mono d.size);have gL:=(B.cell (p:=⟨N,t+a*6+1,none⟩) I).trans E)|(go_at_call 136;refine(j _ b).mono ?_;rintro e m ⟨rfl,l⟩;clear j))
     all_goals
      go_ret2
      rw[h.out];exact⟨rfl,B⟩
  ·have h:ag (fR Z a=(Z[a].aX,1)):=by show _=_;rw[g.out,f];simp[K]
   have P:¬(0:Int)<(c7 (Z.take a):Int):=T;have iU:decide ((0:Int)<(c7 (Z.take a):Int))=false:=by simpa using P
   clear f g s;generalize c7 (Z.take a)=G at*;go_enter func87,ntmps87;go_wp2_with(first|(go_at_call 91;refine(k _).mono ?_;rintro e q ⟨rfl,i,rfl⟩;have b:aF (S (R L)) L (ar L i):=(ca _ _).alloc (aN _) _)|(go_at_call 136;refine(j _ b).mono ?_;rintro e m ⟨rfl,l⟩;have d:=b.trans (l.mono b.size);have gL:=(d.cell (p:=⟨N,t+a*6+1,none⟩) I).trans E;clear j))
   go_ret2
   rw[h.out];exact⟨rfl,d⟩
