import Derived.Test.YtddbjcfdmdbmkaaGreatDoorB20
import Derived.Deep.RegionLawGrows
set_option linter.all false
set_option maxRecDepth 100000
set_option maxHeartbeats 3200000
namespace Go.Proofs.YtddbjcfdmdbmkaaGreatDoor
open Go.RowKit Go.Proofs.Tryz
open Go renaming Calls->aR,Value->an,World->aq
open Go.Ending renaming returned->aM
open Go.IntKind renaming i64->Q
open Go.Obj renaming cells->aw
open Go.RowKit renaming Below->aF
open Go.Value renaming int->O,pointer->aD,slice->U
open _root_.Array renaming size->S
open Go.World renaming alloc->ar,cell?->aK,grownBy->b_,heap->R,ownsRow->aY,setCell->ay
open List renaming length->M
variable{W o z w aE N j r:Nat}{L X d:aq}{k q ai:Option Addr}{c:List Nat}{u:an}{x:List an}{bj:Addr}
def Lw(e:Int)(f:Nat):Array an:=#[O Q e,O Q 0,aD (some ⟨f,0,none⟩)]
theorem SH(b:aq)(W:Nat)(bj X aE c:an):aF W b (ay (ay (ay (ay b ⟨W,0,none⟩ bj) ⟨W,1,none⟩ X) ⟨W,2,none⟩ aE) ⟨W,3,none⟩ c).drew:=
 ⟨rfl,rfl,rfl,by simp[ay],λd a=>by refine Eq.trans (gw _ _ _ _ (ye a)) (Eq.trans (gw _ _ _ _ (ye a)) (Eq.trans (gw _ _ _ _ (ye a)) (gw _ _ _ _ (ye a))))⟩
def on(e:Int)(f:Nat):Nat:=((if e<0 then -(e+1)else e)%(f:Int)).toNat
theorem Cn(aE:Int)(h:0<W):on aE W<W:=by unfold on;have a:=Int.emod_nonneg (if aE<0 then -(aE+1)else aE) (show(W:Int)≠0 by omega);have b:=Int.emod_lt_of_pos (if aE<0 then -(aE+1)else aE) (show 0<(W:Int) by omega);omega
theorem Nr(aE:Int)(h:0<W):((on aE W:Nat):Int)=(if aE<0 then -(aE+1)else aE)%(W:Int):=by unfold on;have a:=Int.emod_nonneg (if aE<0 then -(aE+1)else aE) (show(W:Int)≠0 by omega);omega
theorem Tryz.Lp:(prog.info? 156).map (λa=>(a.zero,a.size,a.bytes))=some (some (aD none),1,8):=by kernel_rfl
def oV(e:Nat):an:=aD (some ⟨e,0,none⟩)
def lg(L:aq)(g:Option Addr)(i:Nat)(e:List Nat):Prop:=(e=[]/\g=none/\i=0)\/(M e<=i/\∃N,g=some ⟨N,0,none⟩/\N<S (R L)/\∀f,(h:f<M e)->aK L ⟨N,f,none⟩=some (oV e[f]))
theorem Su(h:lg L k o c):
 aR prog 153 #[U k (M c) o] L λe d=>e=aM (U k (M c) (M c))/\d=L:=by
 rcases h with⟨rfl,rfl,rfl⟩|⟨a,N,rfl,b,_⟩
 ·go_enter func153,ntmps153;go_wp2;go_ret;exact⟨rfl,rfl⟩
 ·have f:(M c:Int)<=(o:Int):=by omega
  have g:(0:Int)<=(M c:Int):=T;go_enter func153,ntmps153;go_wp2;go_ret;exact⟨gx,rfl⟩
theorem Kf(h:lg L k o c):k=none->M c=0/\M c=0:=by
 intro e;rcases h with⟨rfl,_⟩|⟨_,N,a,_⟩
 ·exact⟨rfl,rfl⟩
 ·rw[e]at a;cases a
theorem KZ(h:lg L k o c):∀X,k=some X->∀a b,(c.map λai=>aD (some ⟨ai,0,none⟩))[a]?=some b->aK L (X.add a)=some b:=by
 intro X e a b d;rcases h with⟨rfl,_⟩|⟨_,N,f,_,g⟩
 ·simp at d
 ·rw[e]at f;cases f;rw[ez,du];rw[gq]at d;obtain⟨l,i,rfl⟩:=si.1 d;obtain⟨j,rfl⟩:=jX.1 i;exact g a j
theorem qe{X a:Nat}{e:TypeId}(h:aY L X e z u W x)(b:a<=X):aY L a e z u W x:=by
 refine⟨h.1,?_⟩;rcases h.2 with h|⟨N,j,c,d,f,g⟩
 ·exact .inl h
 ·exact .inr ⟨N,j,c,d,bS b f,g⟩
theorem Kt{e:Nat}(h:aY L w e z u (W+1) x):∃N j,u=U (some ⟨N,0,none⟩) (W+1) j:=by
 rcases h.2 with⟨_,a⟩|⟨N,j,b,h,_⟩
 ·omega
 ·exact⟨N,j,h⟩
theorem LH{b:Nat}(h:lg L k o c)(hS:M c<=100000):
 aR prog 110 #[.agg #[U q W aE,U k (M c) o],oV b] L λe d=>∃A B,e=aM (.agg #[U q W aE,U (some ⟨A,0,none⟩) (M c+1) B])/\aF (S (R L)) L d/\aY d (S (R L)) 156 1 (U (some ⟨A,0,none⟩) (M c+1) B) (M c+1) ((c++[b]).map oV):=by
 obtain⟨K,P,gf,s,gg⟩:=dY Tryz.Lp;unfold oV;have C:=aL.bT L #[U q W aE,U k (M c) o] 163;have u:=C.a (aw #[U none 0 0,U none 0 0] 163);have y:=aL.bT (ar L (aw #[U q W aE,U k (M c) o] 163)) #[U none 0 0,U none 0 0] 163;rw[hQ]at y;have f:aF (S (R L)) L (ar (ar L (aw #[U q W aE,U k (M c) o] 163)) (aw #[U none 0 0,U none 0 0] 163)):=((ca _ L).alloc (aN _) _).alloc av _;have z:∀r,aF (S (R L)) L r->lg r k o c:=λr w=>by
  rcases h with h|⟨bj,N,X,D,e⟩
  ·exact .inl h
  ·exact .inr ⟨bj,N,X,cI D w.size,λE gj=>(w.cell (p:=⟨N,E,none⟩) D).trans (e E gj)⟩
 have gC:=λr w=>Su (z r w)
 go_enter func110,ntmps110;go_upto_region 1 with fail;have hV:aK (ar (ar L (aw #[U q W aE,U k (M c) o] 163)) (aw #[U none 0 0,U none 0 0] 163)) ⟨S (R L),0,none⟩=some (U q W aE):=u.aa 0;have hZ:aK (ar (ar L (aw #[U q W aE,U k (M c) o] 163)) (aw #[U none 0 0,U none 0 0] 163)) ⟨S (R L),1,none⟩=some (U k (M c) o):=u.aa 1;have ih:=u.am;have iR:=y.am;clear C h;generalize(ar (ar L (aw #[U q W aE,U k (M c) o] 163))) (aw #[U none 0 0,U none 0 0] 163)=g at*;have iU:=f.size;have a:aF (S (R L)) L (ar g (aw #[aD (some ⟨b,0,none⟩)] 156)):=f.alloc f.size _;go_region_law (first|(refine step_append_grows bf _ _ 161 bf 156 K _ 1 8 underlying161 P gf s gg rfl ak k (M c) (M c) (c.map λai=>aD (some ⟨ai,0,none⟩)) bf (Kf (z g f)) av (KZ (z _ (by first|exact a|exact⟨a.os,a.tape,a.output,a.size,a.block⟩))) ⟨S (R g),0,none⟩ 1 1 [aD (some ⟨b,0,none⟩)] bf rfl (c4 (cs:=#[aD (some ⟨b,0,none⟩)]) (t:=156) (fr:=(0,0)) (cB g (aw #[aD (some ⟨b,0,none⟩)] 156) (S (R g)) rfl)) ey T cN T ?_;intro iZ F x i;obtain⟨l,m,rfl⟩:=Kt x;have j:=(y.a (aw #[aD (some ⟨b,0,none⟩)] 156)).d (i.block (S (R L)+1) (by show(S (R L))+1<S (R (ar g _));simp;omega) av);have u0:=j.aa 0;have u1:=j.aa 1;have i0:=j.b 0;have i1:=j.b 1;have i2:=j.am;simp at u0 u1;have G:=(u.a (aw #[aD (some ⟨b,0,none⟩)] 156)).d (i.block (S (R L)) (by show(S (R L))<S (R (ar g _));simp;omega) av);have gE:=G.aa 0;have jt:=G.am;simp at gE)|(go_simp;refine(gC _ (by first|exact f|exact a|exact⟨f.os,f.tape,f.output,f.size,f.block⟩|exact⟨a.os,a.tape,a.output,a.size,a.block⟩)).mono ?_;rintro e jW ⟨rfl,gF⟩;subst gF;show _;dsimp only))
 all_goals
  have H:=(j.j 0 (U q W aE)).j 1 (U (some ⟨l,0,none⟩) (M c+1) m);have I:=H.aa 0;have J:=H.aa 1;simp at I J;have gL:aY (ay (ay F ⟨S (R L)+1,0,none⟩ (U q W aE)) ⟨S (R L)+1,1,none⟩ (U (some ⟨l,0,none⟩) (M c+1) m)) (S (R L)) 156 1 (U (some ⟨l,0,none⟩) (M c+1) m) (M c+1) ((c++[b]).map λai=>aD (some ⟨ai,0,none⟩)):=by
   rw[dv];refine qe (cw x λg1 hu=>?_) (by have:=a.size;show(S (R L))<=S (R (ar g _));exact this);have s:g1≠S (R L)+1:=λe=>by subst e;exact ed j x ak hu
   exact(gw _ _ _ _ (λe=>s (by simp at e;omega))).trans (gw _ _ _ _ (λe=>s (by simp at e;omega)))
  have hE:aF (S (R L)) L (ay (ay F ⟨S (R L)+1,0,none⟩ (U q W aE)) ⟨S (R L)+1,1,none⟩ (U (some ⟨l,0,none⟩) (M c+1) m)):=((eY (cn:=(ar g (aw #[aD (some ⟨b,0,none⟩)] 156))) a ⟨i.os,i.tape,i.output,i.size,i.block⟩ (λN e=>by cases e)).setCell (p:=⟨S (R L)+1,0,none⟩) (lv _) _).setCell (p:=⟨S (R L)+1,1,none⟩) (lv _) _;clear x i;go_wp2;exact dG (v:=.agg #[U q W aE,U (some ⟨l,0,none⟩) (M c+1) m]) (by simp[results,results110,go_sem,I,J]) rfl ⟨l,m,rfl,hE,gL⟩
theorem Sd{kO:List Nat}(h:lg L k o c)(P:M c<=100000)(v:M kO=M c)(l:∀b,(h:b<M c)->(gf:b<M kO)->c[b]<S (R L)/\∃e,j8 L c[b] e kO[b]):
 aR prog 118 #[.agg #[U q W aE,U k (M c) o]] L λe d=>∃u,e=aM u/\aY d (S (R L)) 3 1 u (M kO) (kO.map λf=>O Q (f:Nat))/\aF (S (R L)) L d:=by
 obtain⟨w,x,y,z,A⟩:=dY Tryz.Ak;have gg:=aL.bT L #[U q W aE,U k (M c) o] 163;have B:aF (S (R L)) L (ar L (aw #[U q W aE,U k (M c) o] 163)):=(ca _ L).alloc (aN _) _;go_enter func118,ntmps118;go_wp2
 go_loopw [3,9] (λu b wr=>∃a:Nat,a<=M c/\b=O Q a/\aY wr (S (R L)) 3 1 u a ((kO.take a).map λf=>O Q (f:Nat))/\aF (S (R L)) L wr) (λ_ b _=>M c-(intOf b).toNat)
 case atStart=>exact⟨0,bL _,rfl,eE _ _ _ _,B⟩
 case round=>
  obtain⟨a,gj,rfl,i,g⟩:=hrel;have gC:=g.size;obtain⟨gE,gF,gL,rfl⟩:=dr i;by_cases j:a<M c
  ·rcases h with⟨rfl,_⟩|⟨_,N,rfl,m,r⟩
   ·simp at j
   ·have C:=(g.cell (p:=⟨N,a,none⟩) m).trans (r a j);obtain⟨D,g1,s⟩:=l a j T;have t:=aL.d s (g.block _ D);have E:=t.aa 5;have hu:=t.am;simp at E;have F:Hid ((kO.take (a+1)).map (λf=>O Q (f:Nat))=(kO.take a).map (λf=>O Q (f:Nat))++[O Q (kO[a]:Nat)]):=by show _=_;rw[ev T,dv];rfl
    unfold oV at C;generalize c[a]=ai at*;generalize kO[a]=G at*;have hE:(a:Int)<(M c:Int):=T;have hS:(0:Int)<=(a:Int):=T;have hV:N<S (R wr):=cI m g.size;clear r l s;go_wp2_with(at_builtin;refine dq _ rfl _ _ 48 rfl (S (R L)) 3 w _ 1 8 underlying48 x y z A rfl ak _ a ((kO.take a).map λf=>O Q (f:Nat)) bf (i.alloc _) ⟨S (R wr),0,none⟩ 1 1 [O Q (G:Nat)] bf rfl (c4 (cB _ _ _ av)) ey ak cN T b7 (S (R wr)+1) av ?_;intro hZ ih iR H I iU iZ);go_roundw
    case rel=>exact⟨a+1,j,bE,by rw[F.out];exact H,eY (g.alloc g.size _) I (λJ K=>(i.lt J K).1)⟩
    case measure=>simp[intOf];omega
  ·have e:a=M c:=by omega
   subst e;rw[qA T]at i;go_wp2;go_ret;rw[v];exact⟨_,rfl,i,g⟩
structure bO where
 dJ:an
 cd:Option Addr
 cg:Nat
 bP:List Nat
 bw:Nat×List Nat
variable{a:List bO}
variable{b:bO->Int}
instance:Inhabited bO:=⟨⟨U none 0 0,none,0,[],(0,[])⟩⟩
def bO.h(e:bO):List an:=[e.dJ,U e.cd (M e.bP) e.cg]
def bO.gX(e:bO):an:=.agg #[e.dJ,U e.cd (M e.bP) e.cg]
theorem Is{a b c f o g h p i k:Nat}{l m:Int}(q:N<S (R L))(r:a<W)(s:b<W)(t:aK L ⟨N,a*2+1,none⟩=some (U (some ⟨c,0,none⟩) f o))(u:aK L ⟨c,0,none⟩=some (aD (some ⟨i,0,none⟩)))(v:aK L ⟨i,0,none⟩=some (O Q l))(w:c<S (R L))(x:i<S (R L))(y:0<f)(z:aK L ⟨N,b*2+1,none⟩=some (U (some ⟨g,0,none⟩) h p))(A:aK L ⟨g,0,none⟩=some (aD (some ⟨k,0,none⟩)))(B:aK L ⟨k,0,none⟩=some (O Q m))(C:g<S (R L))(D:k<S (R L))(E:0<h):
 aR prog 278 #[U (some ⟨N,0,none⟩) W j,O Q a,O Q b] L λe d=>e=aM (.bool (decide (l<m)))/\aF (S (R L)) L d:=by
 have F:(0:Int)<=(a:Int):=T;have G:(a:Int)<(W:Int):=T;have H:(0:Int)<=(b:Int):=T;have I:(b:Int)<(W:Int):=T;have J:(0:Int)<(f:Int):=T;have K:(0:Int)<(h:Int):=T;go_enter func278,ntmps278;go_upto_region 1 with fail;go_quiet(fail);go_wp2;go_ret;exact⟨rfl,⟨rfl,rfl,rfl,aN _,λ_ _=>rfl⟩⟩
theorem zv{bD:Type}{ah:bD->List an}{bj X:bD->an}(g:∀a,ah a=[bj a,X a]):∀(c:List bD) (b:Nat) (a:bD),bC ah (c.set b a)=((bC ah c).set (b*2) (bj a)).set (b*2+1) (X a):=by
 intro c
 induction c with
 |nil=>intro b a;simp[bC]
 |cons i c h=>
  intro b a;have d:∀(e:bD) (f:List bD),bC ah (e::f)=bj e::X e::bC ah f:=λe f=>by simp[bC,g]
  cases b with
  |zero=>rw[GX,d,d];rfl
  |succ b=>rw[List.set_cons_succ,d,d,h];rw[show(b+1)*2=b*2+1+1 by omega];rfl
theorem oj{e:TypeId}{Y:Nat}{kf:an}(h:aY L w e z (U (some ⟨N,0,none⟩) W j) W x)(p:Y<M x):aY (ay L ⟨N,Y,none⟩ kf) w e z (U (some ⟨N,0,none⟩) W j) W (x.set Y kf):=by
 obtain⟨b,c⟩:=h;refine⟨by rw[qJ];exact b,?_⟩;rcases c with⟨h,_⟩|⟨q,r,a,d,f,g,i,k,l,m⟩
 ·cases h
 ·cases d;have o:aL L N a e:=g;refine .inr ⟨N,j,a.setIfInBounds Y kf,rfl,f,o.j Y kf,i,k,by simpa using l,?_⟩;rw[<-m,Ma,List.take_set]
theorem pg(h:aY L w 163 2 (U (some ⟨N,0,none⟩) (M a) j) (M a) (bC bO.h a))(b:Nat)(e:b<M a):aK L ⟨N,b*2,none⟩=some a[b].dJ/\aK L ⟨N,b*2+1,none⟩=some (U a[b].cd (M a[b].bP) a[b].cg):=by
 have ba:∀c,c<2->∀d,(bO.h a[b])[c]?=some d->aK L ⟨N,b*2+c,none⟩=some d:=by intro c f d i;have:=h.cells (g:=N) rfl (b*2+c) d (by rw[i5 bO.h 2 (λ_=>rfl) _ _ _ e f];exact i);rw[ez,du]at this;exact this
 exact⟨ba 0 ak _ rfl,ba 1 ak _ rfl⟩
theorem Pv(a:List bO)(c d:Nat)(bj X:bO):bC bO.h ((a.set c X).set d bj)=((((bC bO.h a).set (c*2) X.dJ).set (c*2+1) (U X.cd (M X.bP) X.cg)).set (d*2) bj.dJ).set (d*2+1) (U bj.cd (M bj.bP) bj.cg):=by rw[zv (ah:=bO.h) (bj:=bO.dJ) (X:=λb=>U b.cd (M b.bP) b.cg) (λ_=>rfl),zv (ah:=bO.h) (bj:=bO.dJ) (X:=λb=>U b.cd (M b.bP) b.cg) (λ_=>rfl)]
theorem JO(h:aY L w 163 2 (U (some ⟨N,0,none⟩) (M a) j) (M a) (bC bO.h a))(o:∀A∈a,∃bj X aE,A.dJ=U bj X aE)(c b:Nat)(p:c<M a)(q:b<M a):
 aR prog 279 #[U (some ⟨N,0,none⟩) (M a) j,O Q c,O Q b] L λe d=>e=aM (.tuple #[])/\aY d w 163 2 (U (some ⟨N,0,none⟩) (M a) j) (M a) (bC bO.h (eL a c b))/\b_ L d (some N):=by
 obtain⟨B,gj⟩:=pg h c p;obtain⟨C,gC⟩:=pg h b q;obtain⟨gE,gF,gL,D⟩:=o a[c] (b4 p);obtain⟨g1,hu,hE,E⟩:=o a[b] (b4 q);have F:M (bC bO.h a)=M a*2:=h.1;have hS:=(h.lt N rfl).2;obtain⟨i,t,u⟩:∃i,aL L N i 163/\M a*2<=S i:=by
  rcases h.2 with⟨e,_⟩|⟨hV,hZ,i,G,_,H,I,_,u,_⟩
  ·cases e
  ·cases G;exact⟨i,H,by rw[u];exact qj _ I⟩
 have l:∀k,L.frozen? ⟨N,k,none⟩=false:=λk=>t.b k
 have f:=(t.j (c*2) a[b].dJ).j (c*2+1) (U a[b].cd (M a[b].bP) a[b].cg);have m:=f.j (b*2) a[c].dJ;have v:=f.aa (b*2);have x:=f.aa (b*2+1);have r:=m.aa (b*2+1);have J:=f.b (b*2);have K:=f.b (b*2+1);have y:=m.b (b*2+1);have P:=f.am;have z:=m.am;rw[tz b7]at v x r;have s:aY (ay (ay (ay (ay L ⟨N,c*2,none⟩ a[b].dJ) ⟨N,c*2+1,none⟩ (U a[b].cd (M a[b].bP) a[b].cg)) ⟨N,b*2,none⟩ a[c].dJ) ⟨N,b*2+1,none⟩ (U a[c].cd (M a[c].bP) a[c].cg)) w 163 2 (U (some ⟨N,0,none⟩) (M a) j) (M a) (bC bO.h (eL a c b)):=by
  have e:eL a c b=(a.set c a[b]).set b a[c]:=by unfold eL;simp[List.getD,p,q]
  rw[e,Pv];exact oj (oj (oj (oj h T) b7) b7) b7
 have g:b_ L (ay (ay (ay (ay L ⟨N,c*2,none⟩ a[b].dJ) ⟨N,c*2+1,none⟩ (U a[b].cd (M a[b].bP) a[b].cg)) ⟨N,b*2,none⟩ a[c].dJ) ⟨N,b*2+1,none⟩ (U a[c].cd (M a[c].bP) a[c].cg)) (some N):=
  ⟨rfl,rfl,rfl,by simp[ay],λk ih gf=>by
   have gg:k≠N:=λe=>gf (by rw[e])
   repeat rw[gw _ _ _ _ (λe=>gg (by simp at e;omega))]⟩
 rw[D]at B s g r y z;rw[E]at C s g v x r J K y P z;clear f m;generalize a[c].cd=iR at*;generalize(M a[c].bP)=iU at*;generalize a[c].cg=iZ at*;generalize a[b].cd=i0 at*;generalize(M a[b].bP)=i1 at*;generalize a[b].cg=i2 at*;have jt:=l (c*2);have jW:=l (c*2+1);have j4:=l (b*2);have j9:=l (b*2+1);have kp:(0:Int)<=(c:Int):=T;have kr:(c:Int)<(M a:Int):=T;have kx:(0:Int)<=(b:Int):=T;have k1:(b:Int)<(M a:Int):=T;generalize bC bO.h (eL a c b)=k7 at*;clear h o F;go_enter func279,ntmps279
 go_region
 all_goals
  go_end0
  exact⟨rfl,s,⟨g.os,g.tape,g.output,g.size,g.block⟩⟩
theorem SN(bj:Addr)(a:String)(L:aq):(Builtin.ssaWrapNilChk_ #[167] 167 #[aD (some bj),strVal "",strVal a]).run prog L=.ok (aD (some bj)) L:=by kernel_rfl
theorem zO{b:String}{ah:Nat}(e:(prog.info? 167).map (λc=>(c.methods.find? (·.name==b)).map λa=>(a.path.isEmpty,a.func))=some (some (true,some (ah,false))))(h:aK L bj=some (U ai W aE)):
 (method 468 167 (aD (some bj)) b).run prog L=.ok (ah,U ai W aE) L:=by
 obtain⟨c,f,g⟩:=si.1 e;obtain⟨a,i,d⟩:=si.1 g;simp only[B6]at d;obtain⟨j,k⟩:=d;have l:a.path.toList=[]:=by simpa[Array.isEmpty]using j
 have m:a.path=#[]:=rK.1 l;unfold method;simp[typeInfo,f,i,m,k,follow,receiverAt,go_sem,SN,Place.get,h]
theorem wX(h:aK L bj=some (U ai W aE)):(method 468 167 (aD (some bj)) "Len").run prog L=.ok (277,U ai W aE) L:=zO (by kernel_rfl) h
theorem ta(h:aK L bj=some (U ai W aE)):(method 468 167 (aD (some bj)) "Less").run prog L=.ok (278,U ai W aE) L:=zO (by kernel_rfl) h
theorem pM(h:aK L bj=some (U ai W aE)):(method 468 167 (aD (some bj)) "Swap").run prog L=.ok (279,U ai W aE) L:=zO (by kernel_rfl) h
theorem Ow(bj:Addr)(L:aq):(method 468 167 (aD (some bj)) "Push").run prog L=.ok (283,aD (some bj)) L:=by kernel_rfl
theorem JY(bj:Addr)(L:aq):(method 468 167 (aD (some bj)) "Pop").run prog L=.ok (282,aD (some bj)) L:=by kernel_rfl
theorem xP(L:aq):aR prog 277 #[U ai W aE] L λe d=>e=aM (O Q W)/\d=L:=by go_enter func277,ntmps277;go_wp2;go_ret;exact⟨rfl,rfl⟩
structure hI (L:aq) (b3 N b1:Nat) (bc:List bO) (qD:bO->Int):Prop where
 am:b3<L.heap.size
 gV:N≠b3
 aa:L.cell? ⟨b3,5,none⟩=some (U (some ⟨N,0,none⟩) bc.length b1)
 bg:L.ownsRow 0 163 2 (U (some ⟨N,0,none⟩) bc.length b1) bc.length (bC bO.h bc)
 kh:∀aQ∈bc,∃aG ai,aQ.cd=some ⟨aG,0,none⟩/\0<aQ.bP.length/\L.cell? ⟨aG,0,none⟩=some (aD (some ⟨ai,0,none⟩))/\L.cell? ⟨ai,0,none⟩=some (O Q (qD aQ))/\aG<L.heap.size/\ai<L.heap.size/\aG≠N/\ai≠N
 dJ:∀aQ∈bc,∃bj X aE,aQ.dJ=U bj X aE
theorem hI.ra(h:hI L r N j a b)(c f:Nat)(g:c<M a)(i:f<M a):
 aR prog 278 #[U (some ⟨N,0,none⟩) (M a) j,O Q c,O Q f] L λe d=>e=aM (.bool (decide (dl b a c<dl b a f)))/\aF (S (R L)) L d:=by
 have m:=(h.bg.lt N rfl).2;obtain⟨_,k⟩:=pg h.bg c g;obtain⟨_,l⟩:=pg h.bg f i;obtain⟨E,F,o,p,q,s,t,u,_⟩:=h.kh a[c] (b4 g)
 obtain⟨G,H,v,w,x,z,A,B,_⟩:=h.kh a[f] (b4 i)
 rw[o]at k;rw[v]at l;have C:dl b a c=b a[c]:=by unfold dl;simp[List.getD,g]
 have D:dl b a f=b a[f]:=by unfold dl;simp[List.getD,i]
 rw[C,D];exact Is m g i k q s t u p l x z A B w
theorem hI.y(h:hI L r N j a b)(c:aF (S (R L)) L d):hI d r N j a b:=by
 have w:=(h.bg.lt N rfl).2;refine⟨cI h.am c.size,h.gV,(c.cell (p:=⟨r,5,none⟩) h.am).trans h.aa,cw h.bg (λe k=>c.block e (h.bg.lt e k).2),λl m=>?_,h.dJ⟩;obtain⟨f,ai,o,q,s,t,g,i,u,v⟩:=h.kh l m
 exact⟨f,ai,o,q,(c.cell (p:=⟨f,0,none⟩) g).trans s,(c.cell (p:=⟨ai,0,none⟩) i).trans t,cI g c.size,cI i c.size,u,v⟩
theorem hI.j9{g:List bO}(h:hI L r N j a b)(i:g.Perm a)(v:aY d 0 163 2 (U (some ⟨N,0,none⟩) (M a) j) (M a) (bC bO.h g))(c:b_ L d (some N)):hI d r N j g b:=by
 have o:=i.length_eq;have k:∀X f,X<S (R L)->X≠N->aK d ⟨X,f,none⟩=aK L ⟨X,f,none⟩:=λX f w x=>dn (c.block X w (λe=>x (by simpa using e))) f
 refine⟨cI h.am c.size,h.gV,by rw[o,k r 5 h.am (λe=>h.gV e.symm)];exact h.aa,by rw[o];exact v,λl m=>?_,λl m=>h.dJ l (i.mem_iff.1 m)⟩;obtain⟨p,ai,z,A,B,C,q,s,t,u⟩:=h.kh l (i.mem_iff.1 m)
 exact⟨p,ai,z,A,(k p 0 q t).trans B,(k ai 0 s u).trans C,cI q c.size,cI s c.size,t,u⟩
theorem hI.qt(h:hI L r N j a b)(c f:Nat)(g:c<M a)(i:f<M a):
 aR prog 279 #[U (some ⟨N,0,none⟩) (M a) j,O Q c,O Q f] L λe d=>e=aM (.tuple #[])/\hI d r N j (eL a c f) b/\b_ L d (some N):=by
 refine(JO h.bg h.dJ c f g i).mono ?_;rintro e d ⟨l,m,k⟩;exact⟨l,h.j9 (vg a c f g i) m k,k⟩
theorem jY{bj aE:aq}(h:b_ bj X (some N))(a:b_ X aE (some N)):b_ bj aE (some N):=
 ⟨a.os.trans h.os,a.tape.trans h.tape,a.output.trans h.output,bS h.size a.size,λb c d=>(a.block b (cI c h.size) d).trans (h.block b c d)⟩
theorem nw{bj:aq}(h:aF (S (R bj)) bj X):b_ bj X (some N):=⟨h.os,h.tape,h.output,h.size,λa b _=>h.block a b⟩
theorem AK(bj:aq)(N:Nat):b_ bj bj (some N):=⟨rfl,rfl,rfl,aN _,λ_ _ _=>rfl⟩
theorem Er(h:hI L r N j a b)(q W:Nat)(gL:W<=M a)(iU:M a<=1000000)(g1:q<=1000000):
 aR prog 116 #[.iface 167 (aD (some ⟨r,5,none⟩)),O Q q,O Q W] L λe d=>(∃X,e=aM (.bool X))/\hI d r N j (e_ b W a q W) b/\b_ L d (some N):=by
 go_enter func116,ntmps116;go_wp2
 go_loopw [7] (λK wr=>∃(c ah:Nat) (f:List bO),K=O Q c/\c<=1000000/\W<=c+ah/\M f=M a/\e_ b ah f c W=e_ b W a q W/\hI wr r N j f b/\b_ L wr (some N)) (λK _=>W-(intOf K).toNat)
 case atStart=>exact⟨q,W,a,rfl,g1,T,rfl,rfl,h,AK _ _⟩
 case round=>
  obtain⟨c,ah,f,rfl,iZ,i0,gg,gj,v,D⟩:=hrel;have s:Hid (e_ b ah f c W=e_ b W a q W):=gj;have i1:Hid (M f=M a):=gg;have i2:W<=M f:=T;have jt:W<=1000000:=T;clear gj h gg gL;have gC:=v.aa;have jW:=ta gC;have j4:=pM gC;by_cases gE:W<=2*c+1
  ·have hu:Hid (f=e_ b W a q W):=by
    show _=_;rw[<-s.out];cases ah with
    |zero=>rfl
    |succ ah=>unfold e_;rw[aP gE]
   have hE:(W:Int)<=2*(c:Int)+1:=T;go_wp2;go_ret;rw[<-hu.out];exact⟨⟨_,rfl⟩,v,D⟩
  ·have hE:2*(c:Int)+1<(W:Int):=by omega
   have j9:(0:Int)<=2*(c:Int)+1:=T;have hS:2*c+1<M f:=T;have t:c<M f:=T;obtain⟨ah,rfl⟩:∃hV,ah=hV+1:=⟨ah-1,T⟩;have u:Hid (e_ b (ah+1) f c W=if dl b f (j2 b f c W)<dl b f c then e_ b ah (eL f c (j2 b f c W)) (j2 b f c W) W else f):=by
    show _=_
    conv=>lhs;unfold e_
    rw[aH gE]
   obtain⟨kp,kr,_⟩:=w4 b f c W T;have hZ:((2*c+1:Nat):Int)=2*(c:Int)+1:=T;have ih:((2*c+2:Nat):Int)=2*(c:Int)+1+1:=T;by_cases gF:2*c+2<W
   ·have iR:2*(c:Int)+1+1<(W:Int):=by omega
    have E:=v.ra (2*c+2) (2*c+1) T hS;rw[hZ,ih]at E;by_cases J:dl b f (2*c+2)<dl b f (2*c+1)
    ·rw[lW J]at E;have A:j2 b f c W=2*c+2:=by unfold j2;rw[aP ⟨gF,J⟩]
     have p:((2*c+2:Nat):Int)=2*(c:Int)+1+1:=T;by_cases g:dl b f (2*c+2)<dl b f c
     ·have w:decide (dl b f (2*c+2)<dl b f c)=true:=lW g;have x:Hid (e_ b ah (eL f c (2*c+2)) (2*c+2) W=e_ b W a q W):=by show _=_;rw[<-s.out,u.out,A,aP g]
      clear g s u;go_wp2_with(first|(go_at_call 279;refine k.mono ?_;rintro e G ⟨rfl,B,C⟩)|(go_at_call 278;refine l.mono ?_;rintro e H ⟨rfl,m⟩;have i:=o.y m;have y:=i.aa;have I:=pM y;have k:=i.qt c (2*c+2) t T;rw[p]at k)|(go_at_call 278;refine E.mono ?_;rintro e P ⟨rfl,z⟩;have o:=v.y z;have F:=o.aa;have gf:=ta F;have l:=o.ra (2*c+2) c T t;rw[w,p]at l))
      go_roundw
      case rel=>exact⟨2*c+2,ah,eL f c (2*c+2),bE,T,T,by rw[qC];exact i1.out,x.out,B,jY (jY (jY D (nw z)) (nw m)) C⟩
      case measure=>simp[intOf];omega
     ·have w:decide (dl b f (2*c+2)<dl b f c)=false:=kt g;have x:Hid (f=e_ b W a q W):=by show _=_;rw[<-s.out,u.out,A,aH g]
      clear g s u;go_wp2_with(first|(go_at_call 279;refine k.mono ?_;rintro e G ⟨rfl,B,C⟩)|(go_at_call 278;refine l.mono ?_;rintro e H ⟨rfl,m⟩;have i:=o.y m;have y:=i.aa;have I:=pM y;have k:=i.qt c (2*c+2) t T;rw[p]at k)|(go_at_call 278;refine E.mono ?_;rintro e P ⟨rfl,z⟩;have o:=v.y z;have F:=o.aa;have gf:=ta F;have l:=o.ra (2*c+2) c T t;rw[w,p]at l))
      go_ret;rw[<-x.out];exact⟨⟨_,rfl⟩,i,jY (jY D (nw z)) (nw m)⟩
    ·rw[kt J]at E;have A:j2 b f c W=2*c+1:=by unfold j2;rw[aH (λe=>J e.2)]
     have p:((2*c+1:Nat):Int)=2*(c:Int)+1:=T;by_cases g:dl b f (2*c+1)<dl b f c
     ·have w:decide (dl b f (2*c+1)<dl b f c)=true:=lW g;have x:Hid (e_ b ah (eL f c (2*c+1)) (2*c+1) W=e_ b W a q W):=by show _=_;rw[<-s.out,u.out,A,aP g]
      clear g s u;go_wp2_with(first|(go_at_call 279;refine k.mono ?_;rintro e G ⟨rfl,B,C⟩)|(go_at_call 278;refine l.mono ?_;rintro e H ⟨rfl,m⟩;have i:=o.y m;have y:=i.aa;have I:=pM y;have k:=i.qt c (2*c+1) t T;rw[p]at k)|(go_at_call 278;refine E.mono ?_;rintro e P ⟨rfl,z⟩;have o:=v.y z;have F:=o.aa;have gf:=ta F;have l:=o.ra (2*c+1) c T t;rw[w,p]at l))
      go_roundw
      case rel=>exact⟨2*c+1,ah,eL f c (2*c+1),bE,T,T,by rw[qC];exact i1.out,x.out,B,jY (jY (jY D (nw z)) (nw m)) C⟩
      case measure=>simp[intOf];omega
     ·have w:decide (dl b f (2*c+1)<dl b f c)=false:=kt g;have x:Hid (f=e_ b W a q W):=by show _=_;rw[<-s.out,u.out,A,aH g]
      clear g s u;go_wp2_with(first|(go_at_call 279;refine k.mono ?_;rintro e G ⟨rfl,B,C⟩)|(go_at_call 278;refine l.mono ?_;rintro e H ⟨rfl,m⟩;have i:=o.y m;have y:=i.aa;have I:=pM y;have k:=i.qt c (2*c+1) t T;rw[p]at k)|(go_at_call 278;refine E.mono ?_;rintro e P ⟨rfl,z⟩;have o:=v.y z;have F:=o.aa;have gf:=ta F;have l:=o.ra (2*c+1) c T t;rw[w,p]at l))
      go_ret;rw[<-x.out];exact⟨⟨_,rfl⟩,i,jY (jY D (nw z)) (nw m)⟩
   ·have iR:(W:Int)<=2*(c:Int)+1+1:=by omega
    have A:j2 b f c W=2*c+1:=by unfold j2;rw[aH (λe=>gF e.1)]
    have p:((2*c+1:Nat):Int)=2*(c:Int)+1:=T;by_cases g:dl b f (2*c+1)<dl b f c
    ·have w:decide (dl b f (2*c+1)<dl b f c)=true:=lW g;have x:Hid (e_ b ah (eL f c (2*c+1)) (2*c+1) W=e_ b W a q W):=by show _=_;rw[<-s.out,u.out,A,aP g]
     have l:=v.ra (2*c+1) c T t;rw[w,p]at l;clear g s u;go_wp2_with(first|(go_at_call 279;refine k.mono ?_;rintro e G ⟨rfl,B,C⟩)|(go_at_call 278;refine l.mono ?_;rintro e H ⟨rfl,m⟩;have i:=v.y m;have y:=i.aa;have I:=pM y;have k:=i.qt c (2*c+1) t T;rw[p]at k))
     go_roundw
     case rel=>exact⟨2*c+1,ah,eL f c (2*c+1),bE,T,T,by rw[qC];exact i1.out,x.out,B,jY (jY D (nw m)) C⟩
     case measure=>simp[intOf];omega
    ·have w:decide (dl b f (2*c+1)<dl b f c)=false:=kt g;have x:Hid (f=e_ b W a q W):=by show _=_;rw[<-s.out,u.out,A,aH g]
     have l:=v.ra (2*c+1) c T t;rw[w,p]at l;clear g s u;go_wp2_with(first|(go_at_call 279;refine k.mono ?_;rintro e G ⟨rfl,B,C⟩)|(go_at_call 278;refine l.mono ?_;rintro e H ⟨rfl,m⟩;have i:=v.y m;have y:=i.aa;have I:=pM y;have k:=i.qt c (2*c+1) t T;rw[p]at k))
     go_ret;rw[<-x.out];exact⟨⟨_,rfl⟩,i,jY D (nw m)⟩
