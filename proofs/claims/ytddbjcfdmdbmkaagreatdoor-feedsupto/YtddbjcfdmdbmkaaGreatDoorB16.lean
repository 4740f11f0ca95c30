import Derived.Test.YtddbjcfdmdbmkaaGreatDoorB15
set_option linter.all false
set_option maxRecDepth 100000
set_option maxHeartbeats 1600000
namespace Go.Proofs.YtddbjcfdmdbmkaaGreatDoor
open Go.RowKit Go.Proofs.Tryz
open Go renaming Calls->aR,Value->an,World->aq,results->eS
open Go.Ending renaming returned->aM
open Go.IntKind renaming i64->Q
open Go.Obj renaming cells->aw
open Go.RowKit renaming Below->aF,Hid->ag,intOf->bm
open Go.Value renaming agg->dA,int->O,slice->U,string->az,tuple->b2
open _root_.Array renaming size->S
open Go.World renaming alloc->ar,grownBy->b_,heap->R,ownsRow->aY,setCell->ay
open List renaming length->M
variable{W N b1 q FF:Nat}{d bl x:Nat->Nat}{L r w:aq}{a em:it}{Z:List co}{c:Nat×Nat}{ah:aA->aA}{b:List (List aB)}{j k:an}{V:aA}{bK:List ByteArray}{u:aA->aA×List aB}{y:Obj}
theorem K_(l:A0 W){a:aB}{f g:an}(h:gH d L W a f g)(i:cW a=true->1<=a.bG/\a.bG<=4/\a.cv=[])(m:∀o∈a.cv,n2 W o)(p:M (fd (c3 W) a)<=1000)(q:M a.cv<=100000):
 aR prog 135 #[eu a f g] L λe r=>∃j,e=aM j/\uW d L (fd (c3 W) a) j r:=by
 by_cases b:cW a=true
 ·exact Qk h b (i b).1 (i b).2.1
 ·have k:cW a=false:=by simpa using b
  by_cases c:a.cv=[]
  ·exact KE h k c
  ·have e:fd (c3 W) a=a.cv.flatMap (c3 W):=by unfold fd;rw[aH b,aH (by simpa using c)]
   exact IV l h k c m (by rw[<-e];exact p) q
theorem Sf(d:Nat->Nat)(L:aq):jk d L (U none 0 0) []:=⟨.inl ⟨rfl,none,0,rfl⟩,λ_=>rfl⟩
theorem ze:∀W,A0 W:=by
 intro W
 induction W with
 |zero=>intro d L j Z h gg;exact gg.elim
 |succ W gj=>
  rintro d L j Z h ⟨C,D,l,q⟩;have r:∀a∈Z,sN (fd (c3 W) a) (eP (ce W) a).1 (a.bG+1+(a.cv.map λk=>c9 W k+1).sum):=λa E=>Ba (q a E).1 (λk F=>qT W k ((q a E).2 k F))
  have e:e7 (ce W) Z (M Z)=ce (W+1) Z:=s7;have u:=(vG r (M Z) (aN _) (by rw[e];exact D)).2.2.2;have G:∀f,(((Z.map λa=>a.bG+1+(a.cv.map λk=>c9 W k+1).sum)).take f).sum<=100000:=λf=>bS (tD _ f) l
  have s:∀f,f<=M Z->M (h3 W Z f)<=16/\0<M (h3 W Z f)/\∀g∈h3 W Z f,M g<=100000:=λf i=>by obtain⟨v,w,gC,_⟩:=vG r f i (u f i);have:=u f i;exact⟨T,w,λg x=>bS (gC g x).2 (G f)⟩
  have H:∀f,(i:f<M Z)->M (fd (c3 W) Z[f])<=16/\0<M (fd (c3 W) Z[f])/\(∀g∈fd (c3 W) Z[f],g≠[])/\(∀g∈fd (c3 W) Z[f],M g<=100000)/\M Z[f].cv<=100000/\M (h3 W Z f)*M (fd (c3 W) Z[f])<=1000000:=λf i=>by have ah:=r _ (b4 i);have v:=(s (f+1) i).1;have w:=(s f T).2.1;rw[un W Z f i,ue]at v;have gE:Z[f].bG+1+(Z[f].cv.map λk=>c9 W k+1).sum<=100000:=bS (x5 (b4 i)) l;have gF:=xB (Z[f].cv.map λg=>c9 W g+1) (λc I=>by obtain⟨g,_,rfl⟩:=eG.1 I;omega);rw[c_]at gF;exact⟨bS (vR _ w) v,ah.a1,ah.gV,λg x=>bS (ah.bX g x) gE,T,T⟩
  have j9:M Z<=100000:=bS CV l;have gL:ag (c3 (W+1) Z=h3 W Z (M Z)):=(xc W Z).symm;rcases h.gj with⟨y,_⟩|⟨N,b1,rfl,kp,_⟩
  ·exact absurd y C
  clear r u G e D l;go_enter func85,ntmps85;go_wp2
  go_loopw [3,9] (λj z wr=>∃(f:Nat) (bl:Nat->Nat),f<=M Z/\z=O Q f/\aU d L bl wr/\ga bl wr j (h3 W Z f)) (λ_ z _=>M Z-(bm z).toNat)
  case atStart=>obtain⟨bl,m,o⟩:=At (Sf d L);exact⟨0,bl,bL _,rfl,m,o⟩
  case round=>
   obtain⟨f,bl,i,rfl,m,o⟩:=hrel;obtain⟨kr,J,g1⟩:=s f i;obtain⟨kx,k1,rfl,_,_,_⟩:=o.gj J;by_cases p:f<M Z
   ·rcases(d3.bo m (W+1) _ _ h).gj with⟨y,_⟩|⟨k7,lo,hu,_,K⟩
    ·exact absurd y C
    cases hu;obtain⟨hE,hS,t,l8,me,mn,mO,mR,mY⟩:=K f p;obtain⟨m5,hV,hZ,ih,iR,iU⟩:=H f p;have A:=q _ (b4 p);have B:aU bl wr bl (ar wr (aw #[az Z[f].name,O Q Z[f].aX,O Q Z[f].bG,O Q Z[f].ao,hE,hS] 189)):=aU.H ((ca _ wr).alloc (aN _) _);have P:=K_ gj (t.bo B) A.1 A.2 T iR;obtain⟨ne,nB,nG,rfl⟩:=dr t.1.1;obtain⟨I,l,F,rfl⟩:=t.2.cV;have iZ:ag (h3 W Z (f+1)=hW (h3 W Z f) (fd (c3 W) Z[f])):=un W Z f p;have oa:(f:Int)<(M Z:Int):=T;have ob:(0:Int)<=(f:Int):=T;simp only[eu]at P;clear K s H t A h q;generalize fd (c3 W) Z[f]=b at*;generalize h3 W Z f=oH at*;go_wp2_with(first|(go_at_call 134;refine(Ti i0 i1 J hV hZ iU g1 ih).mono ?_;rintro e oS ⟨o6,rfl,i2,jt,jW⟩)|(go_at_call 135;refine P.mono ?_;rintro e pa ⟨py,rfl,pF,gf,i1⟩;have i0:=o.bo (B.trans gf)))
    go_roundw
    case rel=>exact⟨f+1,i2,p,bE,m.trans ((B.trans gf).trans jt),by rw[iZ.out];exact jW⟩
    case measure=>simp[bm];omega
   ·have j4:f=M Z:=by omega
    subst j4;go_wp2;go_ret;rw[gL.out];exact⟨_,rfl,bl,m,o⟩
theorem P7(c a:List aB):c7 (c++a)=c7 c+c7 a:=by unfold c7;rw[lE,bV]
theorem Sh(a:List (List aB))(ah:List aB->Nat×Nat)(c:Nat×Nat):c.2<=(a.foldl (λc a=>(c.1+(ah a).1,max c.2 (ah a).2)) c).2/\∀d∈a,(ah d).2<=(a.foldl (λc a=>(c.1+(ah a).1,max c.2 (ah a).2)) c).2:=by
 induction a generalizing c with
 |nil=>exact⟨aN _,λd b=>by simp at b⟩
 |cons e a f=>
  rw[hc];have h:=f (c.1+(ah e).1,max c.2 (ah e).2);refine⟨bS (Nat.le_max_left _ _) h.1,λd b=>?_⟩;rcases ek.1 b with rfl|b
  ·exact bS (Nat.le_max_right _ _) h.1
  ·exact h.2 d b
theorem PA{a:aB}(g:(cW a=true->1<=a.bG/\a.bG<=4/\a.cv=[]))(h:∀d∈a.cv,∀e∈c3 W d,c7 e<=(ce W d).2):
 ∀e∈fd (c3 W) a,c7 e<=(eP (ce W) a).2:=by
 intro e b;unfold fd at b;unfold eP;by_cases f:cW a=true
 ·obtain⟨_,_,c⟩:=g f;rw[aP f]at b;rw[aP (by simp[c])];simp only[dB]at b;subst b;exact bS (EP _) av
 ·rw[aH f]at b;by_cases c:a.cv.isEmpty=true
  ·rw[aP c]at b;simp only[dB]at b;subst b;have:c7 [a]=0:=by unfold c7;simp[f]
   omega
  ·rw[aH c]at b;rw[aH c];obtain⟨d,c,b⟩:=ky.1 b;exact bS (h d c e b) ((Sh a.cv (ce W) (0,0)).2 d c)
theorem II{Z:List aB}(g:∀a∈Z,∀d∈fd (c3 W) a,c7 d<=(eP (ce W) a).2):∀b,b<=M Z->∀d∈h3 W Z b,c7 d<=(e7 (ce W) Z b).2:=by
 intro b
 induction b with
 |zero=>
  intro _ d f;have e:d=[]:=by simpa[h3]using f
  subst e;exact bL _
 |succ b h=>intro l d f;rw[un W Z b T]at f;obtain⟨c,i,j,k,rfl⟩:=Fz f;rw[uN (ce W) Z b T,P7];exact C8 (h T c i) (g _ (b4 T) j k)
theorem Bw:∀W Z,n2 W Z->∀b∈c3 W Z,c7 b<=(ce W Z).2:=by
 intro W
 induction W with
 |zero=>intro Z h;exact h.elim
 |succ W i=>rintro Z ⟨_,_,_,c⟩ b d;have e:e7 (ce W) Z (M Z)=ce (W+1) Z:=s7;rw[<-xc]at d;rw[<-e];exact II (λa f=>PA (c a f).1 (λg j=>i g ((c a f).2 g j))) _ (aN _) b d
theorem OK{b:Nat×Nat}(h:(lV c b).2=0):c.2=0/\b.2=0:=by
 unfold lV at h;split at h
 ·rename_i a;exact absurd h a.1
 ·rename_i a;refine⟨h,vd λd=>a ⟨d,.inl h⟩⟩
theorem K5{ah:List aB->Nat->Nat×Nat}{Z:List aB}:∀a,(nl ah Z c a).2=0->c.2=0/\∀b,b<a->(ah Z b).2=0:=by
 intro a
 induction a with
 |zero=>intro h;exact⟨h,λb d=>absurd d T⟩
 |succ a f=>
  intro h;obtain⟨g,i⟩:=OK h;obtain⟨j,k⟩:=f g;refine⟨j,λb d=>?_⟩;by_cases e:b=a
  ·subst e;exact i
  ·exact k b T
theorem Mg{ah:List aB->Nat->Nat×Nat}:∀a,a<=M b->(nv ah b a).2=0->∀c,(f:c<M b)->c<a->∀d,d<M b[c]->(ah b[c] d).2=0:=by
 intro a
 induction a with
 |zero=>intro _ _ c _ f;omega
 |succ a i=>
  intro m h c j f d g;rw[Gp ah b a T]at h;obtain⟨k,l⟩:=K5 _ h;by_cases e:c=a
  ·subst e;exact l d g
  ·exact i T k c j T d g
theorem Hf{ah:List aB->Nat->Nat×Nat}(h:(f_ ah b).2=0):∀c∈b,∀a,a<M c->(ah c a).2=0:=by intro c e a f;obtain⟨g,d,rfl⟩:=iW e;exact Mg (M b) (aN _) h g d d a f
theorem Hx{b:List aB}(g:b≠[])(h:∀c,c<M b->(fR b c).2=0):1<=c7 b:=by
 obtain⟨a,i,rfl⟩:=uJ g;have d:=h 0 av;unfold fR at d;have e:c7 []=0:=rfl;cases f:cW a with
 |true=>unfold c7;simp[f]
 |false=>simp[f,e]at d
theorem ga.py(c:∀a,a<S (R L)->d a=7->bl a=7)(h:ga d L j b):ga bl L j b:=by obtain⟨l,m,e,p,f⟩:=h;exact⟨l,m,e,λN g=>c N (e.lt N g).2 (p N g),λi k=>⟨(f i k).1.py c,(f i k).2⟩⟩
theorem ga.D9{f:Option Nat}(i:b_ L r f)(k:∀a,f=some a->d a=8)(g:∀a,a<S (R L)->d a≠8->bl a=d a)(h:ga d L j b):ga bl r j b:=by
 have l:ga (kA d) L j b:=h.py (λa _ e=>by simp[kA,e]);have m:=l.bo (ul i k g);refine m.py (λa _ e=>?_);by_cases c:a<S (R L)
 ·simp only[c,iC]at e;unfold kA at e;split at e
  ·omega
  ·rename_i p;rw[g a c p];exact e
 ·simp only[c,lh]at e;exact e
theorem ga.o{a:Nat}(h:ga d L (U (some ⟨N,0,none⟩) a b1) b)(f:0<M b):v7 d L N b:=by obtain⟨q,r,e,g,i,k⟩:=h.gj f;cases e;exact⟨g,i,λl m=>by obtain⟨j,c,p⟩:=k l m;exact⟨j,c,p.1⟩⟩
def hR(e:Nat)(f:List (List aB)):Nat:=(f.map λg=>n1 e (c7 g)).sum
def fF(f:Nat)(e:it):(Nat×List (List aB))⊕(Nat×Nat):=
 if jE f e.cJ then .inr (0,6)
 else if(f_ fR (c3 f e.cJ)).2≠0 then .inr (f_ fR (c3 f e.cJ))
 else if(f_ gl (c3 f e.cJ)).2≠0 then .inr (f_ gl (c3 f e.cJ))
 else if 4000<hR e.aZ (c3 f e.cJ)then .inr (0,6)else .inl (hR e.aZ (c3 f e.cJ),c3 f e.cJ)
def d4:Array an:=#[O Q 0,O Q 0,O Q 0,U none 0 0]
theorem aL.Ai{c:Nat}(h:aL L c d4 67)(f g i k:an):
 aL (ay (ay (ay (ay L ⟨c,0,none⟩ f) ⟨c,1,none⟩ g) ⟨c,2,none⟩ i) ⟨c,3,none⟩ k) c #[f,g,i,k] 67:=by
 have:=(((h.j 0 f).j 1 g).j 2 i).j 3 k;simpa[d4]using this
theorem wy(L:aq)(a:Nat)(b c d e:an):b_ L (ay (ay (ay (ay L ⟨a,0,none⟩ b) ⟨a,1,none⟩ c) ⟨a,2,none⟩ d) ⟨a,3,none⟩ e) (some a):=
 oT (Ap L a b c d) (fU _ ⟨a,3,none⟩ e)
theorem D3(c:Nat)(b:List (List aB))(a:Nat)(h:a<M b):hR c (b.take (a+1))=hR c (b.take a)+n1 c (c7 b[a]):=by unfold hR;rw[ev h,dv,qO];simp
theorem IS{c:Nat}(d:c<=12)(e:∀f∈b,c7 f<=8):∀a,a<=M b->hR c (b.take a)<=3439853568*a:=by
 intro a
 induction a with
 |zero=>intro _;show 0<=_;omega
 |succ a g=>
  intro i;rw[D3 c b a T];have h:=g T;have j:=e b[a] (b4 T);have k:n1 c (c7 b[a])<=3439853568:=by unfold n1;have:=(AB d (c7 b[a]-1) T).2;omega
  omega
def no(f:Nat->Nat)(e:Nat):Nat->Nat:=aO (aO f e 8) (e+1) 8
theorem vX(d:Nat->Nat)(a:Nat):no d a a=8:=by unfold no;rw[cR _ _ _ _ T,cy]
theorem vW(d:Nat->Nat)(a:Nat):no d a (a+1)=8:=cy _ _ _
theorem vP(d:Nat->Nat)(L:aq)(a b:Obj):aU d L (no d (S (R L))) (ar (ar L a) b):=by have:=((aU.l d L).o6 a 8).o6 b 8;rw[hQ]at this;exact this
theorem wE{a b:Obj}(h:aU (no d (S (R L))) (ar (ar L a) b) x w):aU d L x w:=(vP d L a b).trans h
def rV(l:Nat->Nat)(L:aq)(m:Nat)(e:it)(f:an)(g:aq):Prop:=∃h,aU l L h g/\match fF m e with
 |.inr (o,p)=>f=b2 #[dA d4,O Q o,O Q p]
 |.inl (s,t)=>∃i,f=b2 #[dA #[O Q e.bd,O Q e.aZ,O Q s,i],O Q 0,O Q 0]/\ga h g i t
theorem vO(f:aL w (S (R L)+1) d4 67)(g:aU d L x w)(a b c e:an):aL (ay (ay (ay (ay w ⟨S (R L)+1,0,none⟩ a) ⟨S (R L)+1,1,none⟩ b) ⟨S (R L)+1,2,none⟩ c) ⟨S (R L)+1,3,none⟩ e) (S (R L)+1) #[a,b,c,e] 67/\aU d L x (ay (ay (ay (ay w ⟨S (R L)+1,0,none⟩ a) ⟨S (R L)+1,1,none⟩ b) ⟨S (R L)+1,2,none⟩ c) ⟨S (R L)+1,3,none⟩ e):=
 ⟨f.Ai a b c e,(((g.D (ai:=⟨S (R L)+1,0,none⟩) (lv _) a).D (ai:=⟨S (R L)+1,1,none⟩) (lv _) b).D (ai:=⟨S (R L)+1,2,none⟩) (lv _) c).D (ai:=⟨S (R L)+1,3,none⟩) (lv _) e⟩
theorem Qy(h:d3 d L W k a.cJ)(g:c9 W a.cJ<=100000000000000)(f:jE W a.cJ=true):
 aR prog 55 #[dA #[O Q a.bd,O Q a.aZ,k]] L λe r=>∃j,e=aM j/\rV d L W a j r:=by
 have s:ag (fF W a=.inr (0,6)):=by show _=_;unfold fF;rw[aP f]
 have t:=vP d L (aw #[O Q a.bd,O Q a.aZ,k] 101) (aw d4 67);have C:aL (ar (ar L (aw #[O Q a.bd,O Q a.aZ,k] 101)) (aw d4 67)) (S (R L)) #[O Q a.bd,O Q a.aZ,k] 101:=(aL.bT L _ _).a _;have u:aL (ar (ar L (aw #[O Q a.bd,O Q a.aZ,k] 101)) (aw d4 67)) (S (R L)+1) d4 67:=cB _ _ _ av;have i:=xG (d3.bo t W _ _ h) g;rw[f]at i;obtain⟨D,E,F,rfl⟩:=h.cV;clear h g f;go_enter func55,ntmps55;go_wp2_with(go_at_call 84;refine i.mono ?_;rintro e w ⟨rfl,x⟩;have l:=(aU.H (ab:=no d (S (R L))) x);have b:=l.z (vW _ _) u;have y:=b.aa 0;have z:=b.aa 1;have A:=b.aa 2;have B:=b.aa 3;have G:=b.b 0;have H:=b.b 1;have I:=b.b 2;have J:=b.b 3;simp[d4]at y z A B);have c:=vO b (wE l) (O Q 0) (O Q 0) (O Q 0) (U none 0 0);have m:=c.1.aa 0;have o:=c.1.aa 1;have p:=c.1.aa 2;have q:=c.1.aa 3;simp at m o p q;refine dG (v:=b2 #[dA d4,O Q 0,O Q 6]) (by simp[eS,results55,go_sem,m,o,p,q,d4]) rfl ⟨_,rfl,_,c.2,?_⟩;rw[s.out];rfl
structure r2 (n:Nat) (ai:it):Prop where
 c9:c9 n ai.cJ<=100000000000000
 hU:jE n ai.cJ=false
 tl:n2 n ai.cJ
 aZ:ai.aZ<=12
theorem r2.xf(h:r2 W a):M (c3 W a.cJ)<=16/\0<M (c3 W a.cJ)/\∀b∈c3 W a.cJ,b≠[]/\M b<=1000000/\c7 b<=8:=by
 have ah:=qT W a.cJ h.tl;have c:=h.hU;unfold jE at c;simp at c;have e:Go.Proofs.YtddbjcfdmdbmkaaGreatDoor.c9 W a.cJ<=100000:=by
  have:=h.tl;cases W with
  |zero=>exact this.elim
  |succ W=>exact this.2.2.1
 refine⟨by rw[ah.fk];omega,ah.a1,λb d=>⟨ah.gV b d,bS (ah.bX b d) T,?_⟩⟩;exact bS (Bw W a.cJ h.tl b d) c.2
theorem Sr(h:d3 d L W k a.cJ)(f:r2 W a)(p:(f_ fR (c3 W a.cJ)).2≠0):
 aR prog 55 #[dA #[O Q a.bd,O Q a.aZ,k]] L λe r=>∃j,e=aM j/\rV d L W a j r:=by
 have F:ag (fF W a=.inr (f_ fR (c3 W a.cJ))):=by show _=_;unfold fF;rw[aH (by simp[f.hU]),aP p]
 have G:=vP d L (aw #[O Q a.bd,O Q a.aZ,k] 101) (aw d4 67);have H:aL (ar (ar L (aw #[O Q a.bd,O Q a.aZ,k] 101)) (aw d4 67)) (S (R L)) #[O Q a.bd,O Q a.aZ,k] 101:=(aL.bT L _ _).a _;have I:aL (ar (ar L (aw #[O Q a.bd,O Q a.aZ,k] 101)) (aw d4 67)) (S (R L)+1) d4 67:=cB _ _ _ av;have i:=d3.bo G W _ _ h;have q:=xG i f.c9;rw[f.hU]at q;have J:=λw K=>ze W (no d (S (R L))) w k a.cJ (d3.bo K W _ _ i) f.tl
 obtain⟨ih,s,P⟩:=f.xf;obtain⟨iR,iU,iZ,rfl⟩:=h.cV;generalize c3 W a.cJ=b at*;have gf:=λ(t:aq) u x l (gg:ga u t (U (some ⟨x,0,none⟩) (M b) l) b)=>vH (b1:=l) y1 (gg.o s) T (λgj gC=>(P gj gC).2.1)
 generalize f_ fR b=m at*;have i0:((m.2:Int)!=0)=true:=b7;clear h f p i;go_enter func55,ntmps55;go_wp2_with(first|(go_at_call 86;refine(gf _ _ _ _ y).mono ?_;rintro e i1 ⟨rfl,gE⟩;have z:=gF.trans (aU.H gE);have c:=z.z (vW _ _) I;have gL:=c.aa 0;have g1:=c.aa 1;have hu:=c.aa 2;have hE:=c.aa 3;have i2:=c.b 0;have jt:=c.b 1;have jW:=c.b 2;have j4:=c.b 3;simp[d4]at gL g1 hu hE)|(go_at_call 85;refine(J w o).mono ?_;rintro e t ⟨j9,rfl,u,hS,y⟩;obtain⟨x,l,rfl,_⟩:=y.gj s;have gF:=o.trans hS)|(go_at_call 84;refine q.mono ?_;rintro e w ⟨rfl,hV⟩;have o:=(aU.H (ab:=no d (S (R L))) hV);have A:=o.z (vX _ _) H;have hZ:=A.aa 2;simp at hZ;have kp:=A.am))
 have g:=vO c (wE z) (O Q 0) (O Q 0) (O Q 0) (U none 0 0);have B:=g.1.aa 0;have C:=g.1.aa 1;have D:=g.1.aa 2;have E:=g.1.aa 3;simp at B C D E;refine dG (v:=b2 #[dA d4,O Q m.1,O Q m.2]) (by simp[eS,results55,go_sem,B,C,D,E,d4]) rfl ⟨_,rfl,_,g.2,?_⟩;rw[F.out]
theorem Lu(h:d3 d L W k a.cJ)(f:r2 W a)(p:(f_ fR (c3 W a.cJ)).2=0)(B:(f_ gl (c3 W a.cJ)).2≠0):
 aR prog 55 #[dA #[O Q a.bd,O Q a.aZ,k]] L λe r=>∃j,e=aM j/\rV d L W a j r:=by
 have gf:ag (fF W a=.inr (f_ gl (c3 W a.cJ))):=by show _=_;unfold fF;rw[aH (by simp[f.hU]),aH (by simp[p]),aP B]
 have gg:=vP d L (aw #[O Q a.bd,O Q a.aZ,k] 101) (aw d4 67);have gj:aL (ar (ar L (aw #[O Q a.bd,O Q a.aZ,k] 101)) (aw d4 67)) (S (R L)) #[O Q a.bd,O Q a.aZ,k] 101:=(aL.bT L _ _).a _;have gC:aL (ar (ar L (aw #[O Q a.bd,O Q a.aZ,k] 101)) (aw d4 67)) (S (R L)+1) d4 67:=cB _ _ _ av;have q:=d3.bo gg W _ _ h;have C:=xG q f.c9;rw[f.hU]at C;have gE:=λw gF=>ze W (no d (S (R L))) w k a.cJ (d3.bo gF W _ _ q) f.tl
 obtain⟨i1,s,D⟩:=f.xf;obtain⟨i2,jt,jW,rfl⟩:=h.cV;generalize c3 W a.cJ=b at*;have E:=λ(l:aq) m o g (t:ga m l (U (some ⟨o,0,none⟩) (M b) g) b)=>vH (b1:=g) y1 (t.o s) T (λu x=>(D u x).2.1)
 have gL:=λ(l:aq) m o g (t:ga m l (U (some ⟨o,0,none⟩) (M b) g) b)=>vH (b1:=g) Hk (t.o s) T (λu x=>(D u x).2.1)
 rw[p]at E;generalize f_ fR b=j4 at*;generalize f_ gl b=y at*;have j9:((y.2:Int)!=0)=true:=b7;clear h f B q p;go_enter func55,ntmps55;go_wp2_with(first|(go_at_call 86;refine(gL _ _ _ _ g1).mono ?_;rintro e kp ⟨rfl,hu⟩;have F:=hE.trans (aU.H hu);have c:=F.z (vW _ _) gC;have hS:=c.aa 0;have hV:=c.aa 1;have hZ:=c.aa 2;have ih:=c.aa 3;have kr:=c.b 0;have kx:=c.b 1;have k1:=c.b 2;have k7:=c.b 3;simp[d4]at hS hV hZ ih)|(go_at_call 86;refine(E _ _ _ _ z).mono ?_;rintro e lo ⟨rfl,G⟩;have hE:=iR.trans (aU.H G);have g1:=z.bo (aU.H G))|(go_at_call 85;refine(gE w A).mono ?_;rintro e l ⟨l8,rfl,m,iU,z⟩;obtain⟨o,g,rfl,_⟩:=z.gj s;have iR:=A.trans iU)|(go_at_call 84;refine C.mono ?_;rintro e w ⟨rfl,iZ⟩;have A:=(aU.H (ab:=no d (S (R L))) iZ);have H:=A.z (vX _ _) gj;have i0:=H.aa 2;simp at i0;have me:=H.am))
 have i:=vO c (wE F) (O Q 0) (O Q 0) (O Q 0) (U none 0 0);have I:=i.1.aa 0;have J:=i.1.aa 1;have K:=i.1.aa 2;have P:=i.1.aa 3;simp at I J K P;refine dG (v:=b2 #[dA d4,O Q y.1,O Q y.2]) (by simp[eS,results55,go_sem,I,J,K,P,d4]) rfl ⟨_,rfl,_,i.2,?_⟩;rw[gf.out]
theorem NS(h:d3 d L W k a.cJ)(q:r2 W a)(G:(f_ fR (c3 W a.cJ)).2=0)(gj:(f_ gl (c3 W a.cJ)).2=0):
 aR prog 55 #[dA #[O Q a.bd,O Q a.aZ,k]] L λe r=>∃j,e=aM j/\rV d L W a j r:=by
 have H:ag (fF W a=if 4000<hR a.aZ (c3 W a.cJ)then .inr (0,6)else .inl (hR a.aZ (c3 W a.cJ),c3 W a.cJ)):=by show _=_;unfold fF;rw[aH (by simp[q.hU]),aH (by simp[G]),aH (by simp[gj])]
 have i2:=vP d L (aw #[O Q a.bd,O Q a.aZ,k] 101) (aw d4 67);have gC:aL (ar (ar L (aw #[O Q a.bd,O Q a.aZ,k] 101)) (aw d4 67)) (S (R L)) #[O Q a.bd,O Q a.aZ,k] 101:=(aL.bT L _ _).a _;have gE:aL (ar (ar L (aw #[O Q a.bd,O Q a.aZ,k] 101)) (aw d4 67)) (S (R L)+1) d4 67:=cB _ _ _ av;have gF:=d3.bo i2 W _ _ h;have gL:=xG gF q.c9;rw[q.hU]at gL;have jt:=λw m5=>ze W (no d (S (R L))) w k a.cJ (d3.bo m5 W _ _ gF) q.tl
 obtain⟨ra,I,s⟩:=q.xf;have jW:=q.aZ;obtain⟨rA,rR,sY,rfl⟩:=h.cV;have j4:∀l∈c3 W a.cJ,1<=c7 l:=λl o=>Hx (s l o).1 (Hf G l o)
 generalize c3 W a.cJ=b at*;have g1:=λ(t:aq) g u p (hu:ga g t (U (some ⟨u,0,none⟩) (M b) p) b)=>vH (b1:=p) y1 (hu.o I) T (λl o=>(s l o).2.1)
 have hE:=λ(t:aq) g u p (hu:ga g t (U (some ⟨u,0,none⟩) (M b) p) b)=>vH (b1:=p) Hk (hu.o I) T (λl o=>(s l o).2.1)
 have j9:=λ(t:aq) g j f (y:f<M b) (ne:hA g t j b[f])=>JR ne (s _ (b4 y)).2.1 (s _ (b4 y)).2.2 (j4 _ (b4 y)) jW
 have hS:∀f,f<=M b->hR a.aZ (b.take f)<=3439853568*f:=IS jW (λl o=>(s l o).2.2);have hV:ag (hR a.aZ (b.take (M b))=hR a.aZ b):=by show _=_;rw[eQ]
 rw[G]at g1;rw[gj]at hE;clear h q gF G gj s j4;go_enter func55,ntmps55;go_wp2_with(first|(go_at_call 86;refine(hE _ _ _ _ hZ).mono ?_;rintro e kp ⟨rfl,J⟩;have z:=kr.trans (aU.H J);have kx:=hZ.bo (aU.H J);have nB:=A.trans (J.mono A.size))|(go_at_call 86;refine(g1 _ _ _ _ K).mono ?_;rintro e tB ⟨rfl,A⟩;have kr:=k1.trans (aU.H A);have hZ:=K.bo (aU.H A))|(go_at_call 85;refine(jt w P).mono ?_;rintro e t ⟨tI,rfl,g,k7,K⟩;obtain⟨u,p,rfl,_⟩:=K.gj I;have k1:=P.trans k7)|(go_at_call 84;refine gL.mono ?_;rintro e w ⟨rfl,lo⟩;have P:=(aU.H (ab:=no d (S (R L))) lo);have ih:=P.z (vX _ _) gC;have nG:=ih.aa 2;simp at nG;have t8:=ih.am))
 have l8:=z.z (vX _ _) gC;have oa:=z.z (vW _ _) gE;have me:g (S (R L)+1)=8:=(z.ci _ gE.am).trans (vW _ _);have ob:=wE z;clear gL jt g1 hE K hZ k1 kr i2 P k7 lo A J nB gC gE ih
 go_loopw [10,42] (λc iR wr=>∃f:Nat,f<=M b/\iR=O Q f/\c=O Q (hR a.aZ (b.take f))/\aF (S (R kp)) kp wr) (λ_ iR _=>M b-(bm iR).toNat)
 case atStart=>exact⟨0,bL _,rfl,rfl,ca _ _⟩
 case round=>
  obtain⟨f,y,rfl,rfl,iU⟩:=hrel;have gf:=aU.H (ab:=g) iU;have iZ:=kx.bo gf;have mn:=gf.db.ax ⟨l8.am,by rw[(z.ci _ b7).trans (vX _ _)];decide⟩ l8;have m:=gf.z me oa;have oH:=mn.aa 0;have oS:=mn.aa 1;simp at oH oS;have o6:=hS f y;by_cases B:f<M b
  ·obtain⟨ub,ug,pa,_,_,mO⟩:=iZ.gj I;cases pa;obtain⟨py,uY,i0⟩:=mO f B;have pF:=j9 wr g py f B i0.1;obtain⟨vE,wz,wB,rfl⟩:=i0.1.cV;have mR:ag (hR a.aZ (b.take (f+1))=hR a.aZ (b.take f)+n1 a.aZ (c7 b[f])):=D3 a.aZ b f B;have pR:=hS (f+1) B;rw[mR.out]at pR;have xf:(f:Int)<(M b:Int):=T;have xk:(0:Int)<=(f:Int):=T;generalize hR a.aZ (b.take f)=xr at*;generalize n1 a.aZ (c7 b[f])=ys at*;clear mO hS j9 i0 kx iZ;go_wp2_with(go_at_call 89;refine pF.mono ?_;rintro e yC ⟨rfl,pU⟩);go_roundw
   case rel=>exact⟨f+1,B,bE,by rw[mR.out];congr 1,iU.trans (pU.mono iU.size)⟩
   case measure=>simp[bm];omega
  ·have pX:f=M b:=by omega
   subst pX;rw[hV.out]at o6;have y2:ag (O Q (hR a.aZ (b.take (M b)))=O Q (hR a.aZ b)):=by show _=_;rw[hV.out]
   rw[hV.out];generalize hR a.aZ b=x at*;have pZ:=m.aa 0;have qp:=m.aa 1;have qt:=m.aa 2;have qP:=m.aa 3;have y5:=m.b 0;have zc:=m.b 1;have zS:=m.b 2;have z_:=m.b 3;simp[d4]at pZ qp qt qP;have mY:aU d L g wr:=ob.trans gf;by_cases gg:4000<x
   ·have qW:(4000:Int)<(x:Int):=by omega
    have i1:ag (fF W a=.inr (0,6)):=by show _=_;rw[H.out,aP gg]
    clear gg H;go_wp2;have i:=vO m mY (O Q 0) (O Q 0) (O Q 0) (U none 0 0);have C:=i.1.aa 0;have D:=i.1.aa 1;have E:=i.1.aa 2;have F:=i.1.aa 3;simp at C D E F;refine dG (v:=b2 #[dA d4,O Q 0,O Q 6]) (by simp[eS,results55,go_sem,C,D,E,F,d4]) rfl ⟨_,rfl,_,i.2,?_⟩;rw[i1.out];rfl
   ·have qW:¬(4000:Int)<(x:Int):=by omega
    have i1:ag (fF W a=.inl (x,b)):=by show _=_;rw[H.out,aH gg]
    clear gg H;go_wp2;have i:=vO m mY (O Q a.bd) (O Q a.aZ) (O Q x) (U (some ⟨u,0,none⟩) (M b) p);have C:=i.1.aa 0;have D:=i.1.aa 1;have E:=i.1.aa 2;have F:=i.1.aa 3;simp at C D E F;refine dG (v:=b2 #[dA #[O Q a.bd,O Q a.aZ,O Q x,U (some ⟨u,0,none⟩) (M b) p],O Q 0,O Q 0]) (by simp[eS,results55,go_sem,C,D,E,F]) rfl ⟨_,rfl,_,i.2,?_⟩;rw[i1.out];exact⟨_,rfl,(iZ.D9 (bl:=g) (wy wr (S (R L)+1) _ _ _ _) (λf e=>by cases e;exact me) (λ_ _ _=>rfl))⟩
theorem HV(h:d3 d L W k a.cJ)(g:c9 W a.cJ<=100000000000000)(l:a.aZ<=12)(m:jE W a.cJ=false->n2 W a.cJ):
 aR prog 55 #[dA #[O Q a.bd,O Q a.aZ,k]] L λe r=>∃j,e=aM j/\rV d L W a j r:=by
 cases b:jE W a.cJ with
 |true=>exact Qy h g b
 |false=>
  have c:r2 W a:=⟨g,b,m b,l⟩;by_cases f:(f_ fR (c3 W a.cJ)).2=0
  ·by_cases i:(f_ gl (c3 W a.cJ)).2=0
   ·exact NS h c f i
   ·exact Lu h c f i
  ·exact Sr h c f
def eA(f:aA):Prop:=f.e1≠none\/∃e,f.a7=[e]/\e.ao=0/\∀g∈dd,(g.toList==e.bn.toList)=false
theorem sp(V:aA):eA V.P:=.inr ⟨_,rfl,rfl,(Cj V.af.aX).2⟩
theorem qH(e:∀a∈bK,a∈dd)(b:V.m bK=true)(h:eA V):V.e1≠none:=by
 rcases h with h|⟨a,f,_,g⟩
 ·exact h
 ·simp only[aA.m,jf,aA.af,f,List.headD]at b;obtain⟨c,i,d⟩:=b;rw[g c (e c i)]at d;cases d
theorem vB{a:ByteArray}(c:a∈dd)(b:V.af.bH a=true)(h:eA V):V.e1≠none:=by refine qH (bK:=[a]) (by simpa using c) ?_ h;simp only[aA.m,oo,qh,oZ];simp only[co.bH,gT]at b⊢;exact b.symm
theorem y6(a:V.af.ao≠0)(h:eA V):V.e1≠none:=by
 rcases h with h|⟨d,b,c,_⟩
 ·exact h
 ·simp only[aA.af,b,List.headD]at a;exact absurd c a
theorem l9{bW:aA}(e:bW.e1=V.e1)(h:V.e1≠none):eA bW:=.inl (by rw[e];exact h)
theorem pd(a:∀b∈bK,b∈dd)(h:eA V):eA (V.bx bK):=by
 unfold aA.bx;split
 ·rename_i c;exact l9 (V:=V) rfl (qH a c h)
 ·exact sp V
theorem C3{q:Option Nat}{a:Nat}:kR q a≠none:=by cases q<;>simp[kR]
theorem ql(a b:Nat)(h:eA V):eA (V.bp a b):=by
 unfold aA.bp;split
 ·rename_i d;have c:=y6 T h;refine .inl ?_;show(if _ then _ else _)≠none;split
  ·exact C3
  ·exact c
 ·exact sp V
def oD(ah:aA->aA):Prop:=∀e,eA e->eA (ah e)
theorem OM(b:oD ah)(c:∀d∈bK,d∈dd):∀a,oD (jw ah bK a):=by
 intro a
 induction a with
 |zero=>intro V h;exact h
 |succ a e=>
  intro V h;unfold jw;split
  ·rename_i f;exact e _ (b _ (l9 (V:=V) (bW:=V.c) rfl (qH c f h)))
  ·exact h
theorem yR(a:oD ah)(b:∀c∈bK,c∈dd):oD (jS ah bK):=λV h=>OM a b _ _ (a V h)
theorem Cf(h:V.e1≠none)(name:ByteArray)(a:Nat):eA (jy V name a):=
 pd (bK:=fz) rG (pd (bK:=[g6]) bJ (l9 (V:=V) (bW:=V.c) rfl h))
theorem BM(a:oD ah):oD (gU ah):=yR (yR a bJ) bJ
theorem O4:∀W,oD (dS W):=by
 intro W
 induction W with
 |zero=>intro V h;exact h
 |succ W b=>
  intro V h;unfold dS;split
  ·exact ql (V:=V) 0 999999999 h
  split
  ·rename_i a;exact b _ (l9 (V:=V) (bW:=V.p) rfl (vB bJ a h))
  split
  ·rename_i a;exact pd (bK:=[d9]) bJ (BM b _ (l9 (V:=V) (bW:=V.p) rfl (vB bJ a h)))
  split
  ·rename_i c;exact Cf (y6 T h) _ _
  split
  ·rename_i a;exact Cf (vB bJ a h) _ _
  ·exact sp V
theorem Qj(a:oD ah):oD (oR ah):=λV h=>BM a _ (pd (bK:=gz) uQ (BM a V h))
theorem uz:oD (el W):=by
 intro V h;unfold el;split
 ·rename_i a;exact yR (yR (Qj (O4 W)) bJ) bJ _ (l9 (V:=V) rfl (qH bJ a h))
 ·rcases h with h|h
  ·exact .inl h
  ·exact .inr h
def mZ{bD:Type}(ah:aA->aA×bD):Prop:=∀e,eA e->eA (ah e).1
theorem MF(b:V.af.ao≠0)(h:eA V):eA (gS W V).1:=by
 have c:=ql 0 99 (pd (bK:=[dp]) bJ (l9 (V:=V) (bW:=V.c) rfl (y6 b h)));unfold gS;simp only;by_cases a:((V.c.bx [dp]).bp 0 99).m [hX]=true
 ·simp only[a,iC];exact uz _ (ql 1 4 (l9 (V:=(V.c.bx [dp]).bp 0 99) (bW:=((V.c.bx [dp]).bp 0 99).c) rfl (qH bJ a c)))
 ·simp only[a];exact uz _ c
theorem zI{b:aA->aA×aB}(c:mZ b):∀a Z,mZ (λV=>gn b a V Z):=by
 intro a
 induction a with
 |zero=>intro Z V h;exact h
 |succ a d=>
  intro Z V h;show eA (gn b (a+1) V Z).1;unfold gn;split
  ·rename_i e;exact d _ _ (c _ (l9 (V:=V) (bW:=V.c) rfl (qH bJ e h)))
  ·exact h
theorem BR{a:aA->aA×aB}(b:mZ a):mZ (km a):=λV h=>zI b _ _ _ (b V h)
theorem AR(b:mZ u):∀a Z,mZ (λV=>fm u a V Z):=by
 intro a
 induction a with
 |zero=>intro Z V h;exact h
 |succ a c=>
  intro Z V h;show eA (fm u (a+1) V Z).1;unfold fm;split
  ·rename_i d;exact c _ _ (b _ (l9 (V:=V) (bW:=V.c) rfl (qH bJ d h)))
  ·exact h
theorem QB(a:mZ u)(h:V.e1≠none):eA (h9 u V).1:=
 pd (bK:=[d9]) bJ (AR a _ _ _ (a _ (pd (bK:=[dO]) bJ (a _ (l9 (V:=V) (bW:=V.p) rfl h)))))
theorem wq:∀W,mZ (ha W):=by
 intro W
 induction W with
 |zero=>intro V h;exact h
 |succ W b=>
  intro V h;unfold ha;split
  ·rename_i c;exact MF T h
  split
  ·rename_i a;exact uz _ (ql 0 99 (l9 (V:=V) (bW:=V.c) rfl (vB bJ a h)))
  split
  ·rename_i a;exact QB (BR b) (vB bJ a h)
  ·exact sp V
theorem wx(h:¬eA (V.bx bK)):V.m bK=true/\V.bx bK=V.c:=by
 unfold aA.bx at h⊢;by_cases a:V.m bK=true
 ·exact⟨a,aP a⟩
 ·rw[aH a]at h;exact absurd (sp V) h
theorem vo{a b:Nat}(h:¬eA (V.bp a b)):V.af.ao=2/\a<=V.k/\V.k<=b/\(V.bp a b).a7=V.c.a7:=by
 by_cases c:V.af.ao=2
 ·unfold aA.bp at h⊢;rw[aP c]at h⊢;unfold aA.k;rw[aP c];by_cases d:fx V.af.bn<a\/b<fx V.af.bn
  ·refine absurd (.inl ?_) h;simp only[d,iC];exact C3
  ·exact⟨c,T,T,rfl⟩
 ·unfold aA.bp at h;rw[aH c]at h;exact absurd (sp V) h
def mQ:Nat->List aB->Prop
 |0,_=>False
 |g+1,f=>f≠[]/\∀e∈f,(cW e=true->1<=e.bG/\e.bG<=4/\e.cv=[])/\∀h∈e.cv,mQ g h
def qz(f:Nat)(e:aB):Prop:=(cW e=true->1<=e.bG/\e.bG<=4/\e.cv=[])/\∀g∈e.cv,mQ f g
def kI(f:Nat)(e:aB):Nat:=e.bG+1+(e.cv.map λg=>c9 f g+1).sum
theorem r8(W:Nat)(Z:List aB):c9 (W+1) Z=(Z.map (kI W)).sum:=rfl
theorem Aj(a:List (List aB))(ah:List aB->Nat×Nat):(a.foldl (λc a=>(c.1+(ah a).1,max c.2 (ah a).2)) (0,0)).1=(a.map λb=>(ah b).1).sum:=by rw[C9];simp
theorem PL:∀W Z,mQ W Z->1<=(ce W Z).1:=by
 intro W
 induction W with
 |zero=>intro Z h;exact h.elim
 |succ W i=>
  rintro Z ⟨_,j⟩;have ba:∀(Z:List aB) (c:Nat×Nat),(∀a∈Z,∀b∈a.cv,mQ W b)->1<=c.1->1<=(Z.foldl (n0 (ce W)) c).1:=by
   intro Z
   induction Z with
   |nil=>intro c _ h;exact h
   |cons a Z k=>
    intro c f l;refine k _ (λm o=>f m (uo _ o)) ?_;have p:1<=(eP (ce W) a).1:=by
     unfold eP;by_cases d:a.cv.isEmpty=true
     ·rw[aP d];exact aN 1
     ·rw[aH d,Aj];obtain⟨b,r,e⟩:=uJ (show a.cv≠[] by simpa using d);have g:b∈a.cv:=by rw[e];simp
      exact bS (i b (f a (um ..) b g)) (pf (eG.2 ⟨b,g,rfl⟩))
    show 1<=min (c.1*(eP (ce W) a).1) 17;have:=tx l p;omega
  exact ba Z (1,0) (λa q=>(j a q).2) (aN 1)
theorem Pm{a:aB}(h:qz W a):1<=(eP (ce W) a).1:=by
 unfold eP;by_cases c:a.cv.isEmpty=true
 ·rw[aP c];exact aN 1
 ·rw[aH c,Aj];obtain⟨b,f,e⟩:=uJ (show a.cv≠[] by simpa using c);have d:b∈a.cv:=by rw[e];simp
  exact bS (PL W b (h.2 b d)) (pf (eG.2 ⟨b,d,rfl⟩))
theorem N5{Z:List aB}(j:∀a∈Z,qz W a):∀b,b<=M Z->(e7 (ce W) Z b).1<=16->1<=(e7 (ce W) Z b).1/\∀c,(d:c<M Z)->c<b->(eP (ce W) Z[c]).1<=16:=by
 intro b
 induction b with
 |zero=>intro _ _;exact⟨by show 1<=1;omega,λc _ d=>absurd d T⟩
 |succ b k=>
  intro p h;rw[uN (ce W) Z b T]at h⊢;have q:min ((e7 (ce W) Z b).1*(eP (ce W) Z[b]).1) 17<=16:=h;have f:=Pm (j _ (b4 (show b<M Z by omega)));have g:(e7 (ce W) Z b).1*(eP (ce W) Z[b]).1<=16:=T;have l:(e7 (ce W) Z b).1<=16:=bS (w_ _ f) g;obtain⟨i,m⟩:=k T l;have r:=tx i f;refine⟨by show 1<=min _ 17;omega,λc o d=>?_⟩;by_cases e:c=b
  ·subst e;exact bS (vR _ i) g
  ·exact m c o T
theorem AL:∀W Z,mQ W Z->(ce W Z).1<=16->c9 W Z<=100000->n2 W Z:=by
 intro W
 induction W with
 |zero=>intro Z h;exact h.elim
 |succ W m=>
  rintro Z ⟨o,g⟩ k l;refine⟨o,k,l,λa d=>⟨(g a d).1,λb f=>?_⟩⟩;have e:e7 (ce W) Z (M Z)=ce (W+1) Z:=s7;obtain⟨c,i,rfl⟩:=iW d;have j:=(N5 (W:=W) (Z:=Z) (λa d=>g a d) (M Z) (aN _) (by rw[e];exact k)).2 c i i;have p:kI W Z[c]<=100000:=bS (x5 (b4 i)) l;refine m b ((g _ d).2 b f) ?_ ?_
  ·unfold eP at j;have q:Z[c].cv.isEmpty=false:=by cases h:Z[c].cv with|nil=>rw[h]at f;simp at f|cons _ _=>rfl
   rw[aH (by simp[q]),Aj]at j;exact bS (pf (Z:=Z[c].cv.map λr=>(ce W r).1) (eG.2 ⟨b,f,rfl⟩)) j
  ·have:c9 W b+1<=(Z[c].cv.map λb=>c9 W b+1).sum:=pf (eG.2 ⟨b,f,rfl⟩);unfold kI at p;omega
theorem Nz:ByteArray.toList ⟨#[]⟩=[]:=by kernel_rfl
theorem s_(c a b:Nat)(d:List c0)(e:List (List aB)):cW (.fA ⟨#[]⟩ c a b d e)=false:=by unfold cW aB.name;simp only;rw[Nz];rfl
def zs(h g:Nat)(f:aA->aA×aB):Prop:=∀e,dw e.a7->M e.a7<=h->¬eA (f e).1->qz g (f e).2/\kI g (f e).2+2*M (f e).1.a7<=2*M e.a7
def zA(h g:Nat)(f:aA->aA×List aB):Prop:=∀e,dw e.a7->M e.a7<=h->¬eA (f e).1->mQ g (f e).2/\c9 g (f e).2+2*M (f e).1.a7<=2*M e.a7
theorem N1(W:Nat)(Z:List aB)(a:aB):c9 (W+1) (Z++[a])=c9 (W+1) Z+kI W a:=by rw[r8,r8,dv,qO];simp
theorem NG{b:aA->aA×aB}(l:mf q b)(m:mZ b)(o:zs q W b):∀c V Z,dw V.a7->M V.a7<=q->¬eA (gn b c V Z).1->Z≠[]->(∀a∈Z,qz W a)->
 (gn b c V Z).2≠[]/\(∀a∈(gn b c V Z).2,qz W a)/\c9 (W+1) (gn b c V Z).2+2*M (gn b c V Z).1.a7<=c9 (W+1) Z+2*M V.a7:=by
 intro c
 induction c with
 |zero=>intro V Z _ _ _ i g;exact⟨i,g,aN _⟩
 |succ c p=>
  intro V Z h j f i g;unfold gn at f⊢;by_cases k:V.m [kg]=true
  ·simp only[k,iC]at f⊢;have r:=h.m (bK:=[kg]) bJ k;have d:=iu h r;have a:=l _ d.bq (bS d.b0 j);have s:¬eA (b V.c).1:=λt=>f (zI m _ _ _ t)
   obtain⟨u,z⟩:=o V.c d.bq (bS d.b0 j) s;obtain⟨v,w,x⟩:=p _ _ a.bq (bS a.b0 (bS d.b0 j)) f av (λy e=>by
    rcases dm.1 e with e|e
    ·exact g y e
    ·simp only[dB]at e;subst e;exact u)
   refine⟨v,w,?_⟩;rw[N1]at x;have:=d.b0;omega
  ·simp only[k]at f⊢;exact⟨i,g,aN _⟩
theorem GH{b:aA->aA×aB}(d:mf q b)(f:mZ b)(g:zs q W b):zA q (W+1) (km b):=by
 intro V h c i;have a:=d V h c;have k:¬eA (b V).1:=λl=>i (zI f _ _ _ l)
 obtain⟨m,s⟩:=g V h c k;obtain⟨o,p,r⟩:=NG d f g (M (b V).1.a7) (b V).1 [(b V).2] a.bq (bS a.b0 c) i av (λt j=>by simp only[dB]at j;subst j;exact m);refine⟨⟨o,p⟩,?_⟩;have e:c9 (W+1) [(b V).2]=kI W (b V).2:=by rw[r8];simp
 rw[e]at r;show c9 (W+1) (gn b _ _ _).2+2*M (gn b _ _ _).1.a7<=_;omega
def qX(f:Nat)(e:List (List aB)):Nat:=(e.map λe=>c9 f e+1).sum
theorem QY(l:mf q u)(m:mZ u)(o:zA q W u):∀b V Z,dw V.a7->M V.a7<=q->¬eA (fm u b V Z).1->(∀i∈Z,mQ W i)->
 (∀i∈(fm u b V Z).2,mQ W i)/\qX W (fm u b V Z).2+2*M (fm u b V Z).1.a7<=qX W Z+2*M V.a7:=by
 intro b
 induction b with
 |zero=>intro V Z _ _ _ g;exact⟨g,aN _⟩
 |succ b p=>
  intro V Z h j d g;unfold fm at d⊢;by_cases k:V.m [dO]=true
  ·simp only[k,iC]at d⊢;have r:=h.m (bK:=[dO]) bJ k;have f:=iu h r;have a:=l _ f.bq (bS f.b0 j);have s:¬eA (u V.c).1:=λt=>d (AR m _ _ _ t)
   obtain⟨v,w⟩:=o V.c f.bq (bS f.b0 j) s;obtain⟨x,y⟩:=p _ _ a.bq (bS a.b0 (bS f.b0 j)) d (λz c=>by
    rcases dm.1 c with c|c
    ·exact g z c
    ·simp only[dB]at c;subst c;exact v)
   refine⟨x,?_⟩;have e:qX W (Z++[(u V.c).2])=qX W Z+(c9 W (u V.c).2+1):=by unfold qX;rw[dv,qO];simp
   rw[e]at y;rw[hm]at w;omega
  ·simp only[k]at d⊢;exact⟨g,aN _⟩
theorem I1(d:mf q u)(g:mZ u)(i:zA q W u)(h:dw V.a7)(s:2<=M V.a7)(J:M V.a7<=q+1)(j:¬eA (h9 u V).1):
 qz W (h9 u V).2/\kI W (h9 u V).2+2*M (h9 u V).1.a7<=2*M V.a7:=by
 have k:V.p.a7.length<=q:=xM;have K:=qb (V:=V);have l:=d V.p (h.mn s) k;unfold h9 at j⊢;simp only at j⊢;generalize t:u V.p=c at*;have m:=hd l.bq (bK:=[dO]) bJ;have e:=bS m.b0 (bS l.b0 k);have f:=d _ m.bq e;generalize o:u (c.1.bx [dO])=a at*;have B:=zN d (M a.1.a7) a.1 [c.2,a.2] f.bq (bS f.b0 e);have v:¬eA ((fm u (M a.1.a7) a.1 [c.2,a.2]).1.bx [d9]):=j;have w:¬eA (fm u (M a.1.a7) a.1 [c.2,a.2]).1:=λb=>v (pd bJ b)
 have x:¬eA a.1:=λb=>w (AR g _ _ _ b)
 have y:¬eA (c.1.bx [dO]):=λb=>x (by rw[<-o];exact g _ b)
 have C:¬eA c.1:=λb=>y (pd bJ b)
 have p:=i V.p (h.mn s) k (by rw[t];exact C);rw[t]at p;have r:=i _ m.bq e (by rw[o];exact x);rw[o]at r;obtain⟨D,E⟩:=wx y;obtain⟨F,G⟩:=wx v;have P:=l.bq.m (bK:=[dO]) bJ D;have gf:=B.bq.m (bK:=[d9]) bJ F;obtain⟨H,gg⟩:=QY d g i (M a.1.a7) a.1 [c.2,a.2] f.bq (bS f.b0 e) w (λgj z=>by
  simp only[ek,nE,oz]at z
  rcases z with rfl|rfl
  ·exact p.1
  ·exact r.1)
 refine⟨⟨λA=>(by rw[s_]at A;cases A),H⟩,?_⟩;have gC:qX W [c.2,a.2]=c9 W c.2+1+(c9 W a.2+1):=by unfold qX;simp
 have gE:=p.2;have I:=r.2;rw[E,hm]at I;rw[G];show 0+1+qX W (fm u (M a.1.a7) a.1 [c.2,a.2]).2+2*(fm u (M a.1.a7) a.1 [c.2,a.2]).1.c.a7.length<=_;rw[hm];omega
theorem PC(h:dw V.a7)(s:V.af.ao=3)(F:M V.a7<=q+1)(b:¬eA (gS q V).1):
 qz W (gS q V).2/\kI W (gS q V).2+2*M (gS q V).1.a7<=2*M V.a7:=by
 have w:=h.f9 (by show 2<=V.af.ao;omega);have g:=iu h w;have e:=hd g.bq (bK:=[dp]) bJ;have c:=jd e.bq 0 99;have t:M ((V.c.bx [dp]).bp 0 99).a7<=q:=by have:=c.b0;have:=e.b0;rw[hm]at this;omega
 unfold gS at b⊢;simp only at b⊢;by_cases f:((V.c.bx [dp]).bp 0 99).m [hX]=true
 ·simp only[f,iC]at b⊢;have x:=c.bq.m (bK:=[hX]) bJ f;have u:=iu c.bq x;have i:=jd u.bq 1 4;have j:=rP (W:=q) i.bq (bS i.b0 (bS u.b0 t));have v:¬eA (((V.c.bx [dp]).bp 0 99).c.bp 1 4):=λa=>b (uz _ a)
  obtain⟨_,y,z,G⟩:=vo v;have d:¬eA ((V.c.bx [dp]).bp 0 99):=λa=>v (ql 1 4 (l9 (V:=(V.c.bx [dp]).bp 0 99) (bW:=((V.c.bx [dp]).bp 0 99).c) rfl (qH bJ f a)))
  obtain⟨_,_,_,k⟩:=vo d;have l:¬eA (V.c.bx [dp]):=λa=>d (ql 0 99 a)
  obtain⟨m,o⟩:=wx l;have mw:=g.bq.m (bK:=[dp]) bJ m;refine⟨⟨λ_=>⟨y,z,rfl⟩,λe p=>by simp[aB.cv]at p⟩,?_⟩;have s:=j.1.b0;have H:=i.b0;have I:=hm ((V.c.bx [dp]).bp 0 99);have A:=congrArg M k;have B:=hm (V.c.bx [dp]);have C:=congrArg (λr=>M r.a7) o;have D:=hm V.c;have E:=hm V;show(((V.c.bx [dp]).bp 0 99).c).k+1+0+2*M (el q _).a7<=_;omega
 ·simp only[f]at b⊢;have j:=rP (W:=q) c.bq t;have d:¬eA ((V.c.bx [dp]).bp 0 99):=λa=>b (uz _ a)
  obtain⟨_,_,_,k⟩:=vo d;have l:¬eA (V.c.bx [dp]):=λa=>d (ql 0 99 a)
  obtain⟨m,o⟩:=wx l;have mw:=g.bq.m (bK:=[dp]) bJ m;refine⟨⟨λ_=>⟨aN 1,by show 1<=4;omega,rfl⟩,λe p=>by simp[aB.cv]at p⟩,?_⟩;have s:=j.1.b0;have A:=congrArg M k;have B:=hm (V.c.bx [dp]);have C:=congrArg (λr=>M r.a7) o;have D:=hm V.c;have E:=hm V;show 1+1+0+2*M (el q ((V.c.bx [dp]).bp 0 99)).a7<=_;omega
theorem H2(h:dw V.a7)(b:2<=M V.a7)(g:M V.a7<=q+1):qz W (iE q V).2/\kI W (iE q V).2+2*M (iE q V).1.a7<=2*M V.a7:=by have d:=iu h b;have c:=jd d.bq 0 99;have e:=rP (W:=q) c.bq (by have:=c.b0;rw[hm]at this;omega);refine⟨⟨λa=>(by unfold iE at a;rw[s_]at a;cases a),λi f=>by simp[iE,aB.cv]at f⟩,?_⟩;have j:=e.1.b0;have k:=c.b0;have l:=hm V;show 0+1+0+2*M (el q _).a7<=_;omega
theorem I3:∀W,zs W W (ha W):=by
 intro W
 induction W with
 |zero=>intro V h g;have:=h.a1;omega
 |succ W f=>
  intro V h b a;unfold ha at a⊢;by_cases c:V.af.ao=3
  ·simp only[c,iC]at a⊢;exact PC h c b a
  ·simp only[c,lh]at a⊢;by_cases d:V.af.bH kK=true
   ·simp only[d,iC]at a⊢;exact H2 h (h.bH bJ d) b
   ·simp only[d]at a⊢;by_cases e:V.af.bH hk=true
    ·simp only[e,iC]at a⊢;exact I1 (yh (se W)) (BR (wq W)) (GH (se W) (wq W) f) h (h.bH bJ e) b a
    ·simp only[e]at a;exact absurd (sp V) a
theorem zf(i:dw Z)(v:M Z<=2000){j:Nat}(h:go Z=.inl (em,j)):
 mQ (M Z+1) em.cJ/\c9 (M Z+1) em.cJ<=4000/\1<=em.bd/\em.bd<=1000000/\1<=em.aZ/\em.aZ<=12:=by
 have b:¬eA (l1 (M Z) (gD Z)).1/\em=(l1 (M Z) (gD Z)).2:=by
  unfold go at h;simp only at h;split at h
  ·cases h
  ·rename_i k;split at h
   ·cases h
   ·split at h
    ·cases h
    ·rename_i l;injection h with h;injection h with h _;refine⟨λa=>?_,h.symm⟩;rcases a with a|⟨x,m,y,_⟩
     ·exact a l
     ·simp only[aA.af,m,List.headD]at k;omega
 obtain⟨b,rfl⟩:=b;rw[wg]at b⊢;simp only at b⊢;have c:=hd (V:=gD Z) i (bK:=[gy]) bJ;have d:=jd c.bq 1 1000000;have e:=hd d.bq (bK:=[ix]) bJ;have f:=jd e.bq 1 12;have o:M ((((gD Z).bx [gy]).bp 1 1000000).bx [ix]|>.bp 1 12).a7<=M Z:=bS f.b0 (bS e.b0 (bS d.b0 c.b0));obtain⟨p,z⟩:=GH (se (M Z)) (wq (M Z)) (I3 (M Z)) _ f.bq o b;have g:¬eA ((((gD Z).bx [gy]).bp 1 1000000).bx [ix]|>.bp 1 12):=λa=>b (BR (wq _) _ a)
 have q:¬eA (((gD Z).bx [gy]).bp 1 1000000|>.bx [ix]):=λa=>g (ql 1 12 a)
 have r:¬eA (((gD Z).bx [gy]).bp 1 1000000):=λa=>q (pd bJ a)
 obtain⟨_,s,t,_⟩:=vo g;obtain⟨_,w,u,_⟩:=vo r;exact⟨p,T,w,u,s,t⟩
def ec(e:ByteArray):(it×Nat×List (List aB))⊕(Nat×Nat):=
 if 600<e.size then .inr (600,1)else match go (fh e)with
  |.inr f=>.inr f
  |.inl (g,_)=>match fF (M (fh e)+1) g with
   |.inr f=>.inr f
   |.inl (h,i)=>.inl (g,h,i)
def ya(L:aq)(f:ByteArray)(h:an)(g:aq):Prop:=aF (S (R L)) L g/\match ec f with
 |.inr (m,o)=>∃e,h=b2 #[e,dA d4,O Q m,O Q o]
 |.inl (i,p,s)=>∃e l,h=b2 #[e,dA #[O Q i.bd,O Q i.aZ,O Q p,l],O Q 0,O Q 0]/\ga rB g l s/\aY g 0 141 3 e (M (fh f)) (bC co.h (fh f))
def ts(e:Nat):Nat->Nat:=aO rB e 8
theorem A2(a b:Nat):7<=ts a b:=by unfold ts aO rB;split<;>omega
theorem aU.xk(h:aU d L bl r)(c:∀b,7<=d b):aF (S (R L)) L r:=⟨h.db.dR,h.db.hq,h.db.ho,h.b5,λb f=>h.db.iA b ⟨f,c b⟩⟩
theorem sd(h:aF (S (R (ar L y))) (ar L y) r):aF (S (R L)) L r:=((ca _ L).alloc (aN _) y).trans (h.mono av)
theorem RF(b:ByteArray)(L:aq)(c:600<b.size):
 aR prog 35 #[az b] L λe r=>∃j,e=aM j/\ya L b j r:=by
 have i:ag (ec b=.inr (600,1)):=by show _=_;unfold ec;rw[aP c]
 have a:=aL.bT L d4 67;have p:(600:Int)<(b.size:Int):=T;clear c;have k:=a.aa 0;have l:=a.aa 1;have m:=a.aa 2;have o:=a.aa 3;have q:=a.b 0;have s:=a.b 1;have t:=a.b 2;have u:=a.b 3;simp[d4]at k l m o;go_enter func35,ntmps35;go_wp2;have d:=a.aa 0;have f:=a.aa 1;have g:=a.aa 2;have h:=a.aa 3;simp[d4]at d f g h;refine dG (v:=b2 #[U none 0 0,dA d4,O Q 600,O Q 1]) (by simp[eS,results35,go_sem,d,f,g,h,d4]) rfl ⟨_,rfl,(ca _ L).alloc (aN _) _,?_⟩;rw[i.out];exact⟨_,rfl⟩
theorem Si{a e:Nat}(h:go Z=.inr (a,e)):e≠0:=by
 unfold go at h;simp only at h;split at h
 ·injection h with h;injection h with _ h;omega
 ·split at h
  ·injection h with h;injection h with _ h;omega
  ·split at h
   ·injection h with h;injection h with _ h;omega
   ·cases h
theorem yv.cV(h:yv L j Z r)(b:0<M Z):∃N b1,j=U (some ⟨N,0,none⟩) (M Z) b1/\S (R L)<=N:=by
 rcases h.bg.2 with⟨_,c⟩|⟨N,b1,d,rfl,a,_⟩
 ·omega
 ·exact⟨N,b1,rfl,a⟩
theorem xC(h:S (R (ar L y))<=N):ts (S (R L)) N=7:=by rw[hQ]at h;unfold ts;rw[cR _ _ _ _ T];rfl
theorem MK(h:dw Z/\M Z<=W+1)(a:W<=600):dw Z/\M Z<=2000/\0<M Z:=⟨h.1,(by have:=h.2;omega),h.1.a1⟩
theorem EE(a:ByteArray)(b:a.size<=600):dw (fh a)/\M (fh a)<=2000/\0<M (fh a):=MK (HF a) b
theorem MX(a:ByteArray)(L:aq)(h:a.size<=600){bw vt:Nat}(d:go (fh a)=.inr (bw,vt)):
 aR prog 35 #[az a] L λe r=>∃j,e=aM j/\ya L a j r:=by
 have u:ag (ec a=.inr (bw,vt)):=by show _=_;unfold ec;rw[aH T,d]
 have w:=Si d;have K:((vt:Int)!=0)=true:=b7;have i:=EE a h;have x:=aL.bT L d4 67;have k:=Gw a (ar L (aw d4 67)) T;have P:¬(600:Int)<(a.size:Int):=T;clear h w;obtain⟨l,y⟩:∃l,ag (fh a=l):=⟨_,rfl⟩;rw[y.out]at d k i;obtain⟨z,A,B⟩:=i;go_enter func35,ntmps35;go_wp2_with(first|(go_at_call 54;refine C.mono ?_;rintro e D ⟨gf,rfl,gg,m,g⟩;rw[d]at g;simp only at g;subst g;have b:=m.z (cy _ _ _) E;have F:=(b.a (aw #[O Q 0,O Q 0,U none 0 0] 101)).aa 0;have G:=(b.a (aw #[O Q 0,O Q 0,U none 0 0] 101)).aa 1;have H:=(b.a (aw #[O Q 0,O Q 0,U none 0 0] 101)).aa 2;have I:=(b.a (aw #[O Q 0,O Q 0,U none 0 0] 101)).aa 3;have gj:=(b.a (aw #[O Q 0,O Q 0,U none 0 0] 101)).b 0;have gC:=(b.a (aw #[O Q 0,O Q 0,U none 0 0] 101)).b 1;have gE:=(b.a (aw #[O Q 0,O Q 0,U none 0 0] 101)).b 2;have gF:=(b.a (aw #[O Q 0,O Q 0,U none 0 0] 101)).b 3;simp[d4]at F G H I)|(go_at_call 53;refine k.mono ?_;rintro e gL ⟨g1,rfl,c⟩;obtain⟨N,b1,rfl,J⟩:=c.cV B;have C:=Df c.bg z A (xC J);have E:=(aU.H (ab:=ts (S (R L))) c.bI).z (cy _ _ _) x))
 have o:aF (S (R L)) L D:=(sd c.bI).trans ((m.xk (A2 _)).mono (sd c.bI).size);have f:=(b.a (aw #[O Q 0,O Q 0,U none 0 0] 101)).Ai (O Q 0) (O Q 0) (O Q 0) (U none 0 0);have p:=f.aa 0;have q:=f.aa 1;have s:=f.aa 2;have t:=f.aa 3;simp at p q s t;refine dG (v:=b2 #[U none 0 0,dA d4,O Q bw,O Q vt]) (by simp[eS,results35,go_sem,p,q,s,t,d4]) rfl ⟨_,rfl,eY (o.alloc o.size _) (wy _ _ _ _ _ _) (λN e=>by cases e;exact aN _),?_⟩;rw[u.out];exact⟨_,rfl⟩
theorem Fo{a b c d f g h:an}(e:b2 #[a,b,c]=b2 #[d,f,g]):b2 #[h,a,b,c]=b2 #[h,d,f,g]:=by injection e with e;have:=congrArg Array.toList e;simp at this;obtain⟨rfl,rfl,rfl⟩:=this;rfl
theorem L5{c:Nat}{e:TypeId}{a:Nat}{b:List an}(h:aY L c e a j W b):aY L 0 e a j W b:=by
 refine⟨h.1,?_⟩;rcases h.2 with d|⟨N,b1,f,e,_,g⟩
 ·exact .inl d
 ·exact .inr ⟨N,b1,f,e,bL _,g⟩
theorem rV.cV(h:rV d L W a j r):∃(c l m:Int) (b:Option Addr) (f g o p:Nat),j=b2 #[dA #[O Q c,O Q l,O Q m,U b f g],O Q o,O Q p]:=by
 obtain⟨bl,u,q⟩:=h
 revert q
 cases fF W a with
 |inr i=>intro e;exact⟨0,0,0,none,0,0,i.1,i.2,e⟩
 |inl i=>rintro⟨k,e,s⟩;obtain⟨v,_,t,_⟩:=s;obtain⟨b,f,g,rfl⟩:=dr t;exact⟨_,_,_,b,f,g,0,0,e⟩
theorem QA{a:ByteArray}(g:a.size<=600)(f:go (fh a)=.inl (em,FF)):(∀c,fF (M (fh a)+1) em=.inr c->ec a=.inr c)/\∀d b,fF (M (fh a)+1) em=.inl (d,b)->ec a=.inl (em,d,b):=by
 constructor
 ·intro c e;unfold ec;rw[aH T,f];simp only;rw[e]
 ·intro d b e;unfold ec;rw[aH T,f];simp only;rw[e]
theorem KI(c:ByteArray)(L:aq)(B:c.size<=600)(s:go (fh c)=.inl (em,FF)):
 aR prog 35 #[az c] L λe r=>∃j,e=aM j/\ya L c j r:=by
 have C:=QA B s;have gg:=EE c B;have j4:=aL.bT L d4 67;have gj:=Gw c (ar L (aw d4 67)) T;have o6:¬(600:Int)<(c.size:Int):=T;clear B;obtain⟨g,D⟩:∃g,ag (fh c=g):=⟨_,rfl⟩;rw[D.out]at s gj gg;rw[D.out]at C;have j9:ag _:=C;clear C;obtain⟨gC,gE,kp⟩:=gg;obtain⟨gF,kr,_,_,_,gL⟩:=zf gC gE s;have kx:=λd L k (h:d3 d L (M g+1) k em.cJ)=>HV h T gL (λg1=>AL _ _ gF (by unfold jE at g1;simp at g1;omega) T)
 clear gF kr gL;go_enter func35,ntmps35;go_wp2_with(first|(go_at_call 55;refine(kx t _ _ k1).mono ?_;rintro e u ⟨pa,rfl,hu⟩;obtain⟨i,l,m,o,p,q,k7,lo,rfl⟩:=hu.cV;obtain⟨w,E,x⟩:=hu;have a:=E.z hE (hS.a _);have hV:=(E.ci _ (hS.a _).am).trans hE;have py:=a.am;have pF:S (R L)<S (R u)+1:=T;have l8:=a.aa 0;have me:=a.aa 1;have mn:=a.aa 2;have mO:=a.aa 3;have pR:=a.b 0;have pU:=a.b 1;have pX:=a.b 2;have pZ:=a.b 3;simp[d4]at l8 me mn mO)|(go_at_call 54;refine mR.mono ?_;rintro e F ⟨qp,rfl,t,y,G⟩;rw[s]at G;simp only at G;obtain⟨k,rfl,hZ⟩:=G;obtain⟨ih,iR,iU,rfl⟩:=hZ.cV;have hS:=y.z (cy _ _ _) iZ;have hE:t (S (R L))=8:=(y.ci _ iZ.am).trans (cy _ _ _);have k1:=d3.bo (aU.H (ab:=t) ((ca _ F).alloc (aN _) (aw #[O Q em.bd,O Q em.aZ,U ih iR iU] 101))) _ _ _ hZ)|(go_at_call 53;refine gj.mono ?_;rintro e qt ⟨qP,rfl,f⟩;obtain⟨N,b1,rfl,H⟩:=f.cV kp;have mR:=Df f.bg gC gE (xC H);have iZ:=(aU.H (ab:=ts (S (R L))) f.bI).z (cy _ _ _) j4))
 go_region
 go_wp2;have qW:aF (S (R L)) L F:=(sd f.bI).trans ((y.xk (A2 _)).mono (sd f.bI).size);have I:=y.trans ((aU.H (ab:=t) ((ca _ F).alloc (aN _) (aw #[O Q em.bd,O Q em.aZ,U ih iR iU] 101))).trans E);have mY:aF (S (R L)) L u:=(sd f.bI).trans ((I.xk (A2 _)).mono (sd f.bI).size);have z:=(a.Ai (O Q i) (O Q l) (O Q m) (U o p q)).a (aw #[O Q i,O Q l,O Q m,U o p q] 67);have i0:=z.e.aa 0;have i1:=z.e.aa 1;have i2:=z.e.aa 2;have jt:=z.e.aa 3;simp at i0 i1 i2 jt;have J:b_ u ((ar (ay (ay (ay (ay u ⟨S (R L),0,none⟩ (O Q i)) ⟨S (R L),1,none⟩ (O Q l)) ⟨S (R L),2,none⟩ (O Q m)) ⟨S (R L),3,none⟩ (U o p q)) (aw #[O Q i,O Q l,O Q m,U o p q] 67)).drew) (some (S (R L))):=oT (oT (wy _ _ _ _ _ _) (fv _ _ (some (S (R L))))) (jm _ _)
 refine dG (v:=b2 #[U (some ⟨N,0,none⟩) (M g) b1,dA #[O Q i,O Q l,O Q m,U o p q],O Q k7,O Q lo]) (by simp[eS,results35,go_sem,i0,i1,i2,jt]) rfl ⟨_,rfl,eY mY J (λN e=>by cases e;exact aN _),?_⟩;obtain⟨m5,ne⟩:=j9.out;cases A:fF (M g+1) em with
 |inr K=>rw[A]at x;rw[m5 K A];exact⟨_,Fo x⟩
 |inl K=>obtain⟨nB,b⟩:=K;rw[A]at x;rw[ne nB b A];obtain⟨k,e,nG⟩:=x;have jW:=f.bg;have oa:w N=7:=(I.ci N (jW.lt N rfl).2).trans (xC H);have ob:=(s3 jW (λP gf=>by cases gf;exact xC H) I).1;have oH:=(s3 ob (ab:=kA w) (λP gf=>by cases gf;simp[kA,oa]) (ul (bl:=w) J (λP e=>by cases e;exact hV) (λ_ _ _=>rfl))).1;have oS:=(nG.D9 (bl:=w) J (λP e=>by cases e;exact hV) (λ_ _ _=>rfl)).py (bl:=rB) (λ_ _ _=>rfl);refine⟨_,k,Fo e,oS,?_⟩;rw[D.out];exact L5 oH
theorem wl(a:ByteArray)(L:aq):aR prog 35 #[az a] L λe r=>∃j,e=aM j/\ya L a j r:=by
 by_cases d:600<a.size
 ·exact RF a L d
 ·cases c:go (fh a)with
  |inr b=>exact MX a L T (bw:=b.1) (vt:=b.2) c
  |inl b=>exact KI a L T (em:=b.1) (FF:=b.2) c
def mX(name:ByteArray)(e:List ByteArray):Nat->Nat
 |0=>M e-1
 |f+1=>if(e.getD f ⟨#[]⟩).toList==name.toList then f else mX name e f
def ma(name:ByteArray)(e:List ByteArray):Nat:=mX name e (M e)
theorem JL{name:ByteArray}{bs:List ByteArray}(h:∀a,(i:a<M bs)->L.cell? ⟨N,a,none⟩=some (az bs[a]))(m:1<=M bs)(o:M bs<=1000000):
 aR prog 140 #[az name,U (some ⟨N,0,none⟩) (M bs) b1] L λe r=>e=aM (O Q (ma name bs))/\r=L:=by
 have j:ag (ma name bs=mX name bs (M bs)):=rfl;have p:((M bs:Int)-1)=((M bs-1:Nat):Int):=T;go_enter func140,ntmps140;go_wp2
 go_loopw [5,13] (λc f wr=>∃a:Nat,a<=M bs/\f=O Q a/\c=O Q (mX name bs a)/\wr=L) (λ_ f _=>M bs-(bm f).toNat)
 case atStart=>exact⟨0,bL _,rfl,by first|rfl|(congr 1),rfl⟩
 case round=>
  obtain⟨a,i,rfl,rfl,rfl⟩:=hrel;by_cases b:a<M bs
  ·have q:=h a b;have s:(a:Int)<(M bs:Int):=T;have t:(0:Int)<=(a:Int):=T;have k:bs.getD a ⟨#[]⟩=bs[a]:=by simp[List.getD,b]
   have d:ag (mX name bs (a+1)=if bs[a].toList==name.toList then a else mX name bs a):=by show _=_;rw[<-k];rfl
   generalize mX name bs a=u at*;cases g:bs[a].toList==name.toList with
   |true=>
    rw[g]at d;go_wp2;go_roundw
    case rel=>exact⟨a+1,b,bE,by rw[d.out];rfl,trivial⟩
    case measure=>simp[bm];omega
   |false=>
    rw[g]at d;go_wp2;go_roundw
    case rel=>exact⟨a+1,b,bE,by rw[d.out];rfl,trivial⟩
    case measure=>simp[bm];omega
  ·have l:a=M bs:=by omega
   subst l;go_wp2;go_ret;rw[j.out];exact⟨rfl,rfl⟩
