import Derived.Test.YtddbjcfdmdbmkaaGreatDoorB27
import Derived.Test.YtddbjcfdmdbmkaaGreatDoorB16
import Derived.Deep.Cut
set_option linter.all false
set_option maxRecDepth 100000
set_option maxHeartbeats 3200000
namespace Go.Proofs.YtddbjcfdmdbmkaaGreatDoor
open Go.RowKit Go.Proofs.Tryz
open Go.Ending renaming returned->aM
open Go.IntKind renaming i64->Q
open Go.Obj renaming cells->aw
open Go.RowKit renaming Hid->ag,intOf->bm
open Go renaming Value->an,World->aq,results->eS
open Go.Value renaming int->O,pointer->aD,slice->U,string->az,tuple->b2,ownBlock->ap
open Go.World renaming alloc->ar,cell?->aK,heap->R,ownsRow->aY,setCell->ay
open List renaming length->M
variable{c B b:au}{u:Nat->Nat}{L y:aq}{r N k q a D:Nat}{w:eU}{j:cA}{x:an}{d:List Nat}{z:List cA}{ah:List Nat->Nat×Nat}{A:Nat×Nat}
def JC:uL->au->Int->au->Prop
 |.dV h,e,f,g=>ie h e f g
 |.Z h i,e,f,g=>∃l,pH h f g l i e
 |.ah,e,f,g=>t_ e f g
theorem e9.y5{D:uL}{x:Int}(h:e9 D c x B)(b:c2 c.aT):JC D c x B:=by
 induction h with
 |x3 a=>exact PW _ a
 |w0 a _ j=>exact Je a (j b)
 |yS a _ p j=>exact Rr a (j b) p
 |wO a d q E _ f i s=>have t:=d.aT;exact ND a (i b) q E (s (by have m:=b;rw[<-t]at m;exact m)) (by rw[t];exact b) f
 |@xD F c G x z B a H d _ i s=>
  have l:c2 z.aT:=by rw[d.aT];exact b
  obtain⟨k,o⟩:=s l;rcases H with rfl|rfl|rfl|rfl
  ·exact Ql a (i b) o l
  ·exact Rd a (i b) o l
  ·exact KV a (i b) o l
  ·exact J6 a (i b) o l
 |wF p=>exact⟨0,.mc p rfl rfl⟩
 |@yf F G r x c z B a I d f _ i s=>
  have t:z.aT=c.aT:=d.aT;have l:c2 z.aT:=by rw[t];exact b
  obtain⟨k,o⟩:=s l;exact⟨k+1,.f9 a I (i b) t f o⟩
 |wR a g J K P gf=>exact Tq b a g J K P gf
 |xL a q A _ g C f j=>exact J7 b a q A (j b) g C f
 |yc a q A d g C j=>exact MO b (by rw[d.aT];exact b) a q A (j b) g C
 |uR a g d m p f=>
  intro u L r w h;refine(F3 b a g d m u L r w h f).mono ?_;rintro e y (⟨_,h⟩|⟨v,_⟩)
  ·exact h
  ·rw[p]at v;cases v
 |wD a g d m gg gj f=>
  intro u L r w h;refine(F3 b a g d m u L r w h f).mono ?_;rintro e y (⟨v,_⟩|⟨_,h⟩)
  ·rw[gg]at v;simp[gj]at v
  ·exact h
def KY:xV->au->au->Prop
 |.ep l,e,f=>oJ l e f
 |.mU g h,e,f=>∃i,tr h f i g e
 |.rH g h,e,f=>∃i,s6 h f i g e
theorem eF.y5(F:∀{c B:au} {D:Int},e9 (.dV 0) c D B->c2 c.aT->ie 0 c D B){E:xV}(h:eF E c B)(b:c2 c.aT):KY E c B:=by
 induction h with
 |va l g v q=>exact⟨0,.mc l (q b) g.aT v rfl rfl⟩
 |Aa l g x _ y z=>obtain⟨k,s⟩:=z (by have t:=b;rw[<-g.aT]at t;exact t);exact⟨k+1,.f9 l (y b) g.aT x s⟩
 |wh l g v q=>obtain⟨k,s⟩:=q b;exact⟨0,.mc l (λu L r w h=>AQ b s u L r w h) g.aT v rfl rfl⟩
 |wj l g x _ y z=>obtain⟨k,s⟩:=y b;obtain⟨a,e⟩:=z (by have t:=b;rw[<-g.aT]at t;exact t);exact⟨a+1,.f9 l (λu L r w h=>AQ b s u L r w h) g.aT x e⟩
 |tJ i G _ H I e q=>obtain⟨k,J⟩:=q b;exact TC b i G J H I e
 |@yO c i m A o e=>
  cases d:c.f eO with
  |true=>
   have p:c.i1=cD:=by simp[au.i1,d]
   have f:c.gF=1:=by simp[au.gF,au.iR,d]
   rw[p,f];exact Qe b i d m o e
  |false=>
   have p:c.i1=c.gL:=by simp[au.i1,d]
   rw[p];cases j:c.u.f ji with
   |true=>
    have f:c.gF=c.u.g.k:=by simp[au.gF,au.iR,d,j]
    rw[f];exact Mn b i d m A j o e
   |false=>
    have f:c.gF=1:=by simp[au.gF,au.iR,d,j]
    rw[f];exact Mv b i d m j o e
 |@B7 c P gf i m A o K e=>
  have C:=F K (by show c2 c.r.aT;rw[pE];exact b);cases d:c.f eO with
  |true=>
   have p:c.i1=cD:=by simp[au.i1,d]
   have f:c.gF=1:=by simp[au.gF,au.iR,d]
   rw[p,f];exact M3 b i d m o C e
  |false=>
   have p:c.i1=c.gL:=by simp[au.i1,d]
   rw[p];cases j:c.u.f ji with
   |true=>
    have f:c.gF=c.u.g.k:=by simp[au.gF,au.iR,d,j]
    rw[f];exact Of b i d m A j o C e
   |false=>
    have f:c.gF=1:=by simp[au.gF,au.iR,d,j]
    rw[f];exact PV b i d m j o C e
def fp(ah:List Nat->Nat×Nat)(e:Nat×Nat)(f:List Nat):Nat×Nat:=(e.1+(ah f).1,if e.2<(ah f).2 then(ah f).2 else e.2)
def iL(g:List cA)(ah:List Nat->Nat×Nat)(e:Nat×Nat)(h:Nat):Nat×Nat:=
 match g[h]? with
 |none=>e
 |some f=>
  if(M f.br)=0 then(e.1,if f.en then e.2 else e.2+f.bG.toNat)
  else(if 99<e.1*(f.br.foldl (fp ah) (0,0)).1 then 99 else e.1*(f.br.foldl (fp ah) (0,0)).1,if 99<e.2+(f.br.foldl (fp ah) (0,0)).2 then 99 else e.2+(f.br.foldl (fp ah) (0,0)).2)
def dy(e:List cA):Nat->List Nat->Nat×Nat
 |0,_=>(1,0)
 |f+1,g=>g.foldl (iL e (dy e f)) (1,0)
structure uK (aj:List cA):Prop where
 am:∀(al:Nat) (bb:cA),aj[al]?=some bb->∀Z∈bb.br,∀dV∈Z,dV<al
 bG:∀bb∈aj,0<=bb.bG/\bb.bG<=4
 gt:∀bb∈aj,bb.br.length<=1000/\∀Z∈bb.br,Z.length<=1000
 bX:aj.length<=1000
theorem bQ.oa(h:bQ u L r w c){b:Nat}(o:c.aj[b]?=some j):
 ∃N f i,w.e3=U (some ⟨N,0,none⟩) (M c.aj) f/\b<M c.aj/\dZ u L i j.br/\(aK L) ⟨N,b*7,none⟩=some (O Q j.a1)/\aK L ⟨N,b*7+1,none⟩=some (.bool j.en)/\aK L ⟨N,b*7+2,none⟩=some (az j.name)/\aK L ⟨N,b*7+3,none⟩=some (O Q j.ao)/\
  (aK L) ⟨N,b*7+4,none⟩=some (O Q j.bG)/\aK L ⟨N,b*7+5,none⟩=some (O Q j.bB)/\aK L ⟨N,b*7+6,none⟩=some i:=by
 obtain⟨k,p⟩:=jX.1 o;obtain⟨N,f,l,_,_⟩:=h.aj.form T;have z:b<M w.fy:=by rw[h.gt];exact k
 have s:b<M (c.aj.zip w.fy):=b7;have m:(c.aj.zip w.fy)[b]=(j,w.fy[b]):=by simp[p]
 have ba:∀q,q<7->∀d,(cA.h (j,w.fy[b]))[q]?=some d->aK L ⟨N,b*7+q,none⟩=some d:=by intro q t d v;have:=h.aj.cells (g:=N) (by rw[l];rfl) (b*7+q) d (by rw[i5 cA.h 7 (λ_=>rfl) _ _ _ s t,m];exact v);have x:(⟨N,0,none⟩:Addr).add (b*7+q)=⟨N,b*7+q,none⟩:=l0;rw[x]at this;exact this
 have y:=h.br (j,w.fy[b]) (by rw[<-m];exact b4 _);exact⟨N,f,w.fy[b],l,k,y,ba 0 ak _ rfl,ba 1 ak _ rfl,ba 2 ak _ rfl,ba 3 ak _ rfl,ba 4 ak _ rfl,ba 5 ak _ rfl,ba 6 ak _ rfl⟩
theorem cZ.o(h:cZ u L x d):∃b k c,x=U b k c/\k=M d/\(0<k->∃N,b=some ⟨N,0,none⟩/\∀a,(f:a<M d)->aK L ⟨N,a,none⟩=some (O Q (d[a]:Nat))):=by
 obtain⟨⟨k,h⟩,_⟩:=h;have i:k=M d:=by have:=h.1;simp at this;exact this.symm
 subst i;have j:=λ(N:Nat) (e:ap x=some N)=>h.cells (g:=N) e
 rcases h.2 with⟨rfl,l⟩|⟨N,c,q,rfl,_⟩
 ·exact⟨none,0,0,rfl,l.symm,λm=>absurd m ak⟩
 ·refine⟨_,_,_,rfl,rfl,λ_=>⟨N,rfl,λa f=>?_⟩⟩;have:=j N rfl a (O Q (d[a]:Nat)) (by simp[f]);have p:(⟨N,0,none⟩:Addr).add a=⟨N,a,none⟩:=l0;rw[p]at this;exact this
theorem dZ.o{d:List (List Nat)}(h:dZ u L x d):∃b k c,x=U b k c/\k=M d/\(0<k->∃N,b=some ⟨N,0,none⟩/\∀a,(f:a<M d)->∃i,aK L ⟨N,a,none⟩=some i/\cZ u L i d[a]):=by
 obtain⟨j,h,s,t,l⟩:=h;have m:=λ(N:Nat) (e:ap x=some N)=>h.cells (g:=N) e
 rcases h.2 with⟨rfl,p⟩|⟨N,c,v,rfl,_⟩
 ·exact⟨none,0,0,rfl,p.symm,λq=>absurd q ak⟩
 ·refine⟨_,_,_,rfl,rfl,λ_=>⟨N,rfl,λa f=>⟨j[a]'T,?_,l a T f⟩⟩⟩;have:=m N rfl a (j[a]'T) av;have r:(⟨N,0,none⟩:Addr).add a=⟨N,a,none⟩:=l0;rw[r]at this;exact this
theorem pI{bD b:Type}(ah:b->bD->b)(r:b)(d:List bD)(a:Nat)(h:a<M d):(d.take (a+1)).foldl ah r=ah ((d.take a).foldl ah r) d[a]:=by rw[ev h,h_];rfl
theorem Cq(z:List cA)(b:uK z)(ah:List Nat->Nat×Nat)(d:List Nat)(a:Nat)(f:a<=M d):((d.take a).foldl (iL z ah) (1,0)).1<=99/\((d.take a).foldl (iL z ah) (1,0)).2<=99+4*a:=by
 induction a with
 |zero=>simp
 |succ a c=>
  rw[pI _ _ _ _ T];have h:=c T;generalize(d.take a).foldl (iL z ah) (1,0)=A at*;unfold iL;cases e:z[d[a]]? with
  |none=>simp;omega
  |some j=>
   have g:=b.bG j (m1 e);simp only;split
   ·simp only;split<;>omega
   ·refine⟨?_,?_⟩<;>simp only<;>split<;>omega
theorem Ci(z:List cA)(a:uK z)(k:Nat)(d:List Nat)(b:M d<=1000):(dy z k d).1<=99/\(dy z k d).2<=5000:=by
 cases k with
 |zero=>simp[dy]
 |succ k=>have:=Cq z a (dy z k) d (M d) (aN _);rw[eQ]at this;simp only[dy];omega
theorem H4(ah:List Nat->Nat×Nat)(b:List (List Nat))(c:∀d∈b,(ah d).1<=99/\(ah d).2<=5000)(a:Nat)(f:a<=M b):((b.take a).foldl (fp ah) (0,0)).1<=99*a/\((b.take a).foldl (fp ah) (0,0)).2<=5000:=by
 induction a with
 |zero=>simp
 |succ a e=>rw[pI _ _ _ _ T];have h:=e T;have g:=c b[a] (b4 _);generalize(b.take a).foldl (fp ah) (0,0)=A at*;unfold fp;simp only;refine⟨T,?_⟩;split<;>omega
def t7(l:List cA)(g:Nat)(m:au):Prop:=∀(f:List Nat),(∀s∈f,s<g)->M f<=1000->∀(h:Nat->Nat) (L:aq) (i:Nat) (o:eU) (p:an),bQ h L i o m->cZ h L p f->Calls prog 58 #[aD (some ⟨i,0,none⟩),p] L λe t=>e=aM (b2 #[O Q (dy l g f).1,O Q (dy l g f).2])/\pQ h L i o m t
theorem cZ.pF{b:Nat}(h:cZ u L (U (some ⟨N,0,none⟩) k b) d)(a:Nat)(c:a<M d):aK L ⟨N,a,none⟩=some (O Q (d[a]:Nat)):=by obtain⟨⟨w,h⟩,_⟩:=h;have:=h.cells (g:=N) rfl a (O Q (d[a]:Nat)) (by simp[c]);have e:(⟨N,0,none⟩:Addr).add a=⟨N,a,none⟩:=l0;rw[e]at this;exact this
theorem F8(a:z[q]?=some j)(b:M j.br=0):iL z ah A q=(A.1,if j.en then A.2 else A.2+j.bG.toNat):=by simp[iL,a,b]
theorem Fj(a:z[q]?=some j)(b:¬(M j.br)=0):iL z ah A q=
 (if 99<A.1*(j.br.foldl (fp ah) (0,0)).1 then 99 else A.1*(j.br.foldl (fp ah) (0,0)).1,if 99<A.2+(j.br.foldl (fp ah) (0,0)).2 then 99 else A.2+(j.br.foldl (fp ah) (0,0)).2):=by
 simp only[iL,a,aH b]
def yi(f:Nat->Nat)(L:aq)(g:Nat)(h:eU)(i:au)(l:an)(m:List Nat)(wr:aq):Prop:=∃e,bQ e wr g h i/\aU f L e wr/\cZ e wr l m
def h1(e:cA)(f:an):Array an:=#[O Q e.a1,.bool e.en,az e.name,O Q e.ao,O Q e.bG,O Q e.bB,f]
theorem Rt{a r b c:Int}(d:a=b)(e:r=c):aM (b2 #[O Q a,O Q r])=aM (b2 #[O Q b,O Q c]):=by rw[d,e]
theorem MG(h:bQ u L r w c)(a:Obj):bQ (aO u (R L).size 7) (ar L a).drew r w c:=((p5 h (R L).size (aN _)).a a).e
theorem dZ.El{c:Nat->Nat}{d:List (List Nat)}(h:dZ u L x d)(b:aU u L c y):dZ c y x d:=by obtain⟨f,h,e,g,i⟩:=h;exact⟨f,oP h (λN a=>by rw[e N a];exact aN _) b,λN a=>(b.ci N (h.lt N a).2).trans (e N a),g,λj k l=>(i j k l).bo b⟩
theorem cZ.LI(h:cZ u L x d):∃a k b,x=U a k b:=by obtain⟨a,k,b,h,_⟩:=h.o;exact⟨a,k,b,h⟩
def A1(i:Nat->Nat)(L:aq)(l:Nat)(m:eU)(o:au)(p:an)(s:List Nat)(f:Nat)(g:cA)(h:an)(wr:aq):Prop:=
 ∃e,bQ e wr l m o/\aU i L e wr/\cZ e wr p s/\dZ e wr h g.br/\aL wr f (h1 g h) 202/\e f=7
theorem SX(z:uK c.aj)(k:Nat)(kr:t7 c.aj k c)(BN:k+1<=M c.aj):t7 c.aj (k+1) c:=by
 intro d ra BP u L r w ih h l;obtain⟨iR,BV,B,rfl,rA,kx⟩:=l.o;subst rA;have k1:yi u L r w c (U iR (M d) B) d L:=⟨u,h,aU.l _ _,l⟩;have rR:0<M d->∃N,iR=some ⟨N,0,none⟩:=λsY=>by obtain⟨N,e,_⟩:=kx sY;exact⟨N,e⟩
 clear h l kx;go_enter func58,ntmps58;go_wp2_with fail
 go_loopw [6,7,8] (λm i t wr=>∃a:Nat,a<=M d/\t=O Q a/\m=O Q ((d.take a).foldl (iL c.aj (dy c.aj k)) (1,0)).1/\i=O Q ((d.take a).foldl (iL c.aj (dy c.aj k)) (1,0)).2/\yi u L r w c (U iR (M d) B) d wr) (λ_ _ t _=>M d-(bm t).toNat)
 case atStart=>exact⟨0,bL _,rfl,rfl,rfl,k1⟩
 case round=>
  obtain⟨a,tB,rfl,rfl,rfl,J,o,C,l⟩:=hrel;clear k1;have k7:=Cq c.aj z (dy c.aj k) d a tB;by_cases lo:a<M d
  ·obtain⟨G,rfl⟩:=rR T;have tI:=l.pF a lo;have Cs:d[a]<k+1:=ra _ (b4 _);have K:ag ((d.take (a+1)).foldl (iL c.aj (dy c.aj k)) (1,0)=iL c.aj (dy c.aj k) ((d.take a).foldl (iL c.aj (dy c.aj k)) (1,0)) d[a]):=pI _ _ _ _ lo;generalize(d.take a).foldl (iL c.aj (dy c.aj k)) (1,0)=A at*;obtain⟨m,i⟩:=A;generalize d[a]=q at*;have t8:q<M c.aj:=T;obtain⟨j,P⟩:∃j,c.aj[q]?=some j:=⟨c.aj[q],by simp[t8]⟩;obtain⟨N,ub,Cz,l8,_,H,ug,uY,me,vE,wz,wB,xf⟩:=o.oa P;obtain⟨v,CS,wc,rfl,xk,xr⟩:=H.o;subst xk;have iU:=o.aa 9;simp[cp]at iU;rw[l8]at iU;have DM:(0:Int)<=(q:Int):=T;have D7:(q:Int)<(M c.aj:Int):=T;have D9:(0:Int)<=(a:Int):=T;have El:(a:Int)<(M d:Int):=T;have ET:=z.bX;have gE:ag (c.aj[q]?=some j):=P;have mn:=z.bG j (m1 P);have Fi:=(z.gt j (m1 P)).1;simp only at k7;clear P l8 xr;go_upto_region 6 with fail;go_region_held3 (λy=>aK y ⟨r,9,none⟩=some (U (some ⟨N,0,none⟩) (M c.aj) ub)/\aK y ⟨G,a,none⟩=some (O Q q)/\aK y ⟨N,q*7,none⟩=some (O Q j.a1)/\aK y ⟨N,q*7+1,none⟩=some (.bool j.en)/\aK y ⟨N,q*7+2,none⟩=some (az j.name)/\aK y ⟨N,q*7+3,none⟩=some (O Q j.ao)/\aK y ⟨N,q*7+4,none⟩=some (O Q j.bG)/\aK y ⟨N,q*7+5,none⟩=some (O Q j.bB)/\aK y ⟨N,q*7+6,none⟩=some (U v (M j.br) wc)) (go_keep) (fail);have ys:wr.grownBy (ar wr (aw (h1 j (U v (M j.br) wc)) 202)).drew none:=⟨rfl,rfl,rfl,av,λt yC _=>fY _ _ _ yC⟩;have gF:aU J wr (aO J (R wr).size 7) (ar wr (aw (h1 j (U v (M j.br) wc)) 202)).drew:=((aU.l J wr).o6 _ 7).e;have mO:bQ (aO J (R wr).size 7) (ar wr (aw (h1 j (U v (M j.br) wc)) 202)).drew r w c:=(MG o _);have mR:A1 u L r w c (U (some ⟨G,0,none⟩) (M d) B) d (R wr).size j (U v (M j.br) wc) (ar wr (aw (h1 j (U v (M j.br) wc)) 202)).drew:=⟨_,mO,C.trans gF,l.bo gF,H.El gF,(aL.bT wr _ _).e,cy _ _ _⟩
   clear mO gF ys o C l H ug uY me vE wz wB xf iU tI;unfold h1 at mR;generalize(ar wr (aw #[O Q j.a1,.bool j.en,az j.name,O Q j.ao,O Q j.bG,O Q j.bB,U v (M j.br) wc] 202)).drew=y2 at*;generalize(R wr).size=iZ at*;obtain⟨mY,o,C,l,H,gf,m5⟩:=mR;have x:yi u L r w c (U (some ⟨G,0,none⟩) (M d) B) d y2:=⟨mY,o,C,l⟩;have gg:=gf.aa 6;have ne:=gf.aa 1;have nB:=gf.aa 4;simp[h1]at gg ne nB;by_cases D:M j.br=0
   ·have y5:((M j.br:Int)==0)=true:=by simp[D]
    have E:ag ((d.take (a+1)).foldl (iL c.aj (dy c.aj k)) (1,0)=(m,if j.en then i else i+j.bG.toNat)):=by show _=_;rw[K.out];exact F8 gE.out D
    have zc:ag (M j.br=0):=D;clear D;cases nG:j.en with
    |true=>
     go_wp2_with fail;go_roundw
     case rel=>exact⟨a+1,T,bE,by rw[E.out],by rw[E.out,nG];rfl,x⟩
     case measure=>simp[bm];omega
    |false=>
     have FM:=mn.1;have F2:=mn.2;go_wp2_with fail;go_roundw
     case rel=>exact⟨a+1,T,bE,by rw[E.out],by rw[E.out,nG];simp;omega,x⟩
     case measure=>simp[bm];omega
   ·have y5:((M j.br:Int)==0)=false:=by rw[di];omega
    have E:ag ((d.take (a+1)).foldl (iL c.aj (dy c.aj k)) (1,0)=_):=K.out.trans (Fj gE.out D);have zc:ag (¬(M j.br)=0):=D;clear D;have oa:=(z.gt j (m1 gE.out)).2;have ob:∀p∈j.br,(dy c.aj k p).1<=99/\(dy c.aj k p).2<=5000:=λp zS=>Ci c.aj z k p (oa p zS)
    have z_:∀p∈j.br,∀i0∈p,i0<k:=λp gL i0 F=>by have:=z.am q j gE.out p gL i0 F;omega
    have Ai:ag (t7 c.aj k c):=kr;clear kr x ne nB;go_wp2_with fail
    go_loopw [10,11,12] (λs g t Ak=>∃b:Nat,b<=M j.br/\t=O Q b/\s=O Q ((j.br.take b).foldl (fp (dy c.aj k)) (0,0)).1/\g=O Q ((j.br.take b).foldl (fp (dy c.aj k)) (0,0)).2/\A1 u L r w c (U (some ⟨G,0,none⟩) (M d) B) d iZ j (U v (M j.br) wc) Ak) (λ_ _ t _=>M j.br-(bm t).toNat)
    case atStart=>exact⟨0,bL _,rfl,rfl,rfl,mY,o,C,l,H,gf,m5⟩
    case round=>
     obtain⟨b,Aq,rfl,rfl,rfl,oH,g1,hu,x,hE,gj,hS⟩:=hrel;clear o C l H gf m5 gg;have i1:=H4 (dy c.aj k) j.br ob b Aq;have gg:=gj.aa 6;simp[h1]at gg;by_cases i2:b<M j.br
     ·obtain⟨F4,Ga,me,oS,Gl,o6⟩:=hE.o;simp only[mi]at oS;obtain⟨rfl,rfl,rfl⟩:=oS;obtain⟨Az,rfl,pa⟩:=o6 T;obtain⟨Gx,AE,jt⟩:=pa b i2;obtain⟨Hp,HY,H_,rfl⟩:=jt.LI;have py:ag ((j.br.take (b+1)).foldl (fp (dy c.aj k)) (0,0)=fp (dy c.aj k) ((j.br.take b).foldl (fp (dy c.aj k)) (0,0)) j.br[b]):=pI _ _ _ _ i2;have jW:=b4 i2;have AV:=ob _ jW;have pF:=Ai.out j.br[b] (z_ _ jW) (oa _ jW);have AW:ag (∀(u:Nat->Nat) (L:aq) (r:Nat) (w:eU) (ih:an),bQ u L r w c->cZ u L ih j.br[b]->Calls prog 58 #[aD (some ⟨r,0,none⟩),ih] L λe y=>e=aM (b2 #[O Q (dy c.aj k j.br[b]).1,O Q (dy c.aj k j.br[b]).2])/\pQ u L r w c y):=pF;clear pF pa o6;generalize(j.br.take b).foldl (fp (dy c.aj k)) (0,0)=j4 at*;obtain⟨s,g⟩:=j4;simp only at i1;generalize pR:dy c.aj k j.br[b]=pU at*;have pX:ag (dy c.aj k j.br[b]=pU):=pR;clear pR;obtain⟨pZ,hV⟩:=pU;simp only at AV;have J3:(0:Int)<=(b:Int):=T;have Ko:(b:Int)<(M j.br:Int):=T;go_wp2_with fail;refine(AW.out oH _ r w _ g1 jt).mono ?_;rintro e Bg ⟨rfl,Bo,qp,I⟩;have qt:A1 u L r w c (U (some ⟨G,0,none⟩) (M d) B) d iZ j (U (some ⟨Az,0,none⟩) (M j.br) wc) Bg:=⟨Bo,qp,hu.trans I,x.bo I,hE.El I,I.ax hS gj,(I.ci iZ gj.am).trans hS⟩
      clear g1 hu x hE gj hS qp I jt AE gg;simp only;by_cases qP:g<hV
      ·have Bt:(g:Int)<(hV:Int):=by omega
       have gC:ag ((j.br.take (b+1)).foldl (fp (dy c.aj k)) (0,0)=(s+pZ,hV)):=by show _=_;rw[py.out];unfold fp;rw[pX.out];simp[qP]
       go_wp2_with fail;go_roundw
       case rel=>exact⟨b+1,T,bE,by rw[gC.out];go_num,by rw[gC.out],qt⟩
       case measure=>simp[bm];omega
      ·have Bt:¬(g:Int)<(hV:Int):=by omega
       have gC:ag ((j.br.take (b+1)).foldl (fp (dy c.aj k)) (0,0)=(s+pZ,g)):=by show _=_;rw[py.out];unfold fp;rw[pX.out];simp[qP]
       go_wp2_with fail;go_roundw
       case rel=>exact⟨b+1,T,bE,by rw[gC.out];go_num,by rw[gC.out],qt⟩
       case measure=>simp[bm];omega
     ·have e:b=M j.br:=by omega
      subst e;have qW:ag (j.br.take (M j.br)=j.br):=eQ;rw[qW.out]at i1;rw[qW.out];have f:ag ((d.take (a+1)).foldl (iL c.aj (dy c.aj k)) (1,0)=(if 99<m*(j.br.foldl (fp (dy c.aj k)) (0,0)).1 then 99 else m*(j.br.foldl (fp (dy c.aj k)) (0,0)).1,if 99<i+(j.br.foldl (fp (dy c.aj k)) (0,0)).2 then 99 else i+(j.br.foldl (fp (dy c.aj k)) (0,0)).2)):=E.out;have hZ:yi u L r w c (U (some ⟨G,0,none⟩) (M d) B) d wr:=⟨oH,g1,hu,x⟩;clear E g1 hu x hE gj hS;generalize j.br.foldl (fp (dy c.aj k)) (0,0)=j4 at*;obtain⟨s,g⟩:=j4;simp only at i1 f;have Kp:m*s<=99*(99*1000):=tx k7.1 T;have Kz:(m:Int)*(s:Int)=((m*s:Nat):Int):=av;generalize m*s=j9 at*;simp only;by_cases gL:99<j9
      ·have BE:(99:Int)<(j9:Int):=by omega
       rw[aP gL]at f;by_cases F:99<i+g
       ·have kp:(99:Int)<(i:Int)+(g:Int):=by omega
        rw[aP F]at f;go_wp2_with fail;go_roundw
        case rel=>exact⟨a+1,T,bE,by rw[f.out];rfl,by rw[f.out];rfl,hZ⟩
        case measure=>simp[bm];omega
       ·have kp:¬(99:Int)<(i:Int)+(g:Int):=by omega
        rw[aH F]at f;go_wp2_with fail;go_roundw
        case rel=>exact⟨a+1,T,bE,by rw[f.out];rfl,by rw[f.out];go_num,hZ⟩
        case measure=>simp[bm];omega
      ·have BE:¬(99:Int)<(j9:Int):=by omega
       rw[aH gL]at f;by_cases F:99<i+g
       ·have kp:(99:Int)<(i:Int)+(g:Int):=by omega
        rw[aP F]at f;go_wp2_with fail;go_roundw
        case rel=>exact⟨a+1,T,bE,by rw[f.out],by rw[f.out];rfl,hZ⟩
        case measure=>simp[bm];omega
       ·have kp:¬(99:Int)<(i:Int)+(g:Int):=by omega
        rw[aH F]at f;go_wp2_with fail;go_roundw
        case rel=>exact⟨a+1,T,bE,by rw[f.out],by rw[f.out];go_num,hZ⟩
        case measure=>simp[bm];omega
  ·have e:a=M d:=by omega
   subst e;have K:ag (dy c.aj (k+1) d=(d.take (M d)).foldl (iL c.aj (dy c.aj k)) (1,0)):=by show _=_;rw[eQ];rfl
   have BH:ag (pQ u L r w c wr):=⟨J,o,C⟩;go_wp2_with fail
   go_ret2
   exact⟨Rt (by rw[K.out]) (by rw[K.out]),BH.out⟩
theorem Oq:t7 c.aj 0 c:=by
 intro d a k u L r w l h b;have e:d=[]:=by
  cases d with
  |nil=>rfl
  |cons q d=>have:=a q av;omega
 subst e;obtain⟨m,o,p,rfl,f,_⟩:=b.o;subst f;go_enter func58,ntmps58;go_wp2_with fail
 go_loop [6,7,8] (λg i j=>g=O Q 1/\i=O Q 0/\j=O Q 0) (λ_ _ _=>0)
 case atStart=>exact⟨rfl,rfl,rfl⟩
 case round=>
  obtain⟨rfl,rfl,rfl⟩:=hrel;go_wp2_with fail
  go_ret2
  exact⟨rfl,u,h,aU.l _ _⟩
theorem SE(a:uK c.aj)(k:Nat)(b:k<=M c.aj):t7 c.aj k c:=by
 induction k with
 |zero=>exact Oq
 |succ k d=>exact SX a k (d T) b
def E7(i:ByteArray)(g:List bN):Prop:=∀L:aq,Calls prog 92 #[az i] L λe h=>∃f,e=aM f/\(aY h 0 150 4 f (M g) (bC bN.h g)/\(∀N,ap f=some N->(R L).size<=N)/\Below (R L).size L h)
def h6(e:Nat):Nat->Nat:=λf=>if f<e then 12 else 7
theorem Ir(k a:Nat):7<=h6 k a:=by unfold h6;split<;>omega
theorem Se(h:k<=a):h6 k a=7:=by unfold h6;rw[aH T]
theorem aU.h6(h:Below (R L).size L y):aU (h6 k) L (h6 k) y:=⟨λ_ _=>rfl,(ea.sY h).cE (λ_ b=>b.1)⟩
theorem aU.Sy(h:aU (Go.Proofs.YtddbjcfdmdbmkaaGreatDoor.h6 (R L).size) L u y)(b:u N<12):(R L).size<=N:=by
 rcases vC N (R L).size with a|a
 ·have:=h.ci N a;unfold Go.Proofs.YtddbjcfdmdbmkaaGreatDoor.h6 at this;rw[aP a]at this;omega
 ·exact a
def Bm(L:aq)(e:au)(m:List Nat)(f:an)(g:aq):Prop:=Below (R L).size L g/\if 0<=e.hu.bk then f=b2 #[aD none,O Q e.hu.bk,O Q 1]
 else if 0<=e.bU then f=b2 #[aD none,O Q e.bU,O Q 2]
 else match eo e with
  |some o=>f=b2 #[aD none,O Q (o:Nat),O Q 3]
  |none=>∃i h l,f=b2 #[aD (some ⟨i,0,none⟩),O Q 0,O Q 0]/\bQ h g i l e/\cZ h g l.g_ m/\aU (h6 (R L).size) L h g
def ja:an:=U none 0 0
theorem bQ.jt{b:aq}{d:List bN}(h:∀N,ap x=some N->k<=N)(f:aY b 0 150 4 x (M d) (bC bN.h d))(g:0<M d)(i:M d<=601)(j:(R b).size=D):
 ∃N c,x=U (some ⟨N,0,none⟩) (M d) c/\bQ (aO (h6 k) D 1) (ar b (aw #[x,O Q 0,O Q (-1),O Q 0,O Q (-1),ja,ja,ja,ja,ja,O Q 0,O Q 0,ja] 123)) D ⟨N,c,ja,ja,ja,ja,ja,ja,[]⟩ (pq d):=by
 obtain⟨N,c,l,_,_⟩:=f.form g;subst l;subst j;have m:N≠(R b).size:=λe=>by have:=(f.lt N rfl).2;omega
 refine⟨N,c,rfl,⟨aL.bT _ _ _,cy _ _ _,f.alloc _,by rw[cR _ _ _ _ m];exact Se (h N rfl),eE _ _ _ _,?_,eE _ _ _ _,?_,eE _ _ _ _,?_,eE _ _ _ _,?_,eE _ _ _ _,?_,?_,rfl,i,g,sM⟩⟩
 all_goals first|(intro a o;simp[ja,ap]at o)|(intro q p;simp[pq]at p)
theorem bQ.P1(h:bQ u L r w c)(x:an):bQ u (ay L ⟨r,12,none⟩ x) r {w with g_:=x} c:=by
 have b:=fU L ⟨r,12,none⟩ x;have d:∀(f:Nat),f≠1->∀(N:Nat),some r=some N->u N≠f:=λf g N e=>by cases e;rw[h.dN];exact hO g
 have i:w.dF≠r:=λe=>by have:=h.fG;rw[e,h.dN]at this;cases this
 exact⟨(by have:=h.ax.j 12 x;simpa[cp]using this),h.dN,h.aT.kept b (.inr (by simp[ap,i])),h.fG,dK 2 h.b9 h.ef b (d 2 ak),h.ef,dK 3 h.b6 h.kn b (d 3 ak),h.kn,dK 4 h.cc h.jO b (d 4 ak),h.jO,dK 5 h.aC h.jP b (d 5 ak),h.jP,dK 6 h.aj h.cj b (d 6 ak),h.cj,λj k=>(h.br j k).dj b (d 7 ak),h.gt,h.ia,h.cY,h.ej⟩
theorem Ni(h:ph b)(c:∀q,(a:q<M b.b9)->b.b6.getD q 0<=(b.b9[q].n:Int)/\(b.b9[q].n:Int)<=b.cc.getD q 0):eo b=none:=by
 unfold eo;rw[Option.map_eq_none_iff,Gh];intro j d;obtain⟨q,a,rfl⟩:=qQ.1 d;simp only[jT]at a;have:=c q T;simp only[n7,jF,not_or,vl];have e:b.b6.getD q 0=b.b6[q]'(by have:=h.1;omega):=by simp[fj,dz (show q<M b.b6 by have:=h.1;omega)]
 have f:b.cc.getD q 0=b.cc[q]'(by have:=h.2;omega):=by simp[fj,dz (show q<M b.cc by have:=h.2;omega)]
 rw[e,f]at this;exact this
theorem RE(h:ph b)(k:a<M b.b9)(g:∀q,(e:q<M b.b9)->q<a->b.b6.getD q 0<=(b.b9[q].n:Int)/\(b.b9[q].n:Int)<=b.cc.getD q 0)(f:(b.b9[a].n:Int)<b.b6.getD a 0\/b.cc.getD a 0<(b.b9[a].n:Int)):eo b=some b.b9[a].a1:=by
 have i:a<M (b.b9.zip (b.b6.zip b.cc)):=by simp only[jT];have:=h.1;have:=h.2;omega
 have ba:(b.b9.zip (b.b6.zip b.cc)).find? (λj=>decide ((j.1.n:Int)<j.2.1\/j.2.2<(j.1.n:Int)))=some (b.b9.zip (b.b6.zip b.cc))[a]:=by
  rw[Lx];refine⟨?_,a,i,rfl,λq e=>?_⟩
  ·simp only[n7,jF];have c:b.b6.getD a 0=b.b6[a]'(by have:=h.1;omega):=by simp[fj,dz (show a<M b.b6 by have:=h.1;omega)]
   have d:b.cc.getD a 0=b.cc[a]'(by have:=h.2;omega):=by simp[fj,dz (show a<M b.cc by have:=h.2;omega)]
   rw[c,d]at f;exact f
  ·have:=g q T e;have c:b.b6.getD q 0=b.b6[q]'(by have:=h.1;omega):=by simp[fj,dz (show q<M b.b6 by have:=h.1;omega)]
   have d:b.cc.getD q 0=b.cc[q]'(by have:=h.2;omega):=by simp[fj,dz (show q<M b.cc by have:=h.2;omega)]
   rw[c,d]at this;simp only[n7,y_,tU,not_or,vl];exact this
 unfold eo;rw[ba];simp
theorem zK{f:ByteArray}{c:Nat}{d:List bN}(h:k2 f c d)(s:c<=f.size)(x:f.size<=600):c2 d/\0<M d/\M d<=f.size-c+1:=by
 have o:∀c e a,eR f c=(e,a)->e.a8.size<=1000:=by
  intro c e a b;have j:∀p r,(f.extract p r).size<=1000:=λp r=>by rw[ByteArray.size_extract];omega
  have m:(⟨#[]⟩:ByteArray).size<=1000:=by show 0<=1000;omega
  unfold eR at b;simp only at b;split at b
  ·cases b;exact m
  split at b
  ·cases b;exact j _ _
  split at b
  ·split at b
   ·cases b;exact m
   ·cases b;exact j _ _
  split at b
  ·cases b;exact j _ _
  split at b
  ·cases b;exact j _ _
  ·cases b;exact m
 have t:∀c e,eR f c=(e,none)->2<e.ao:=by
  intro c e b;unfold eR at b;simp only at b;split at b
  ·cases b;simp
  split at b
  ·cases b
  split at b
  ·split at b
   ·cases b;simp
   ·cases b
  split at b
  ·cases b
  split at b
  ·cases b
  ·cases b;simp
 induction h with
 |@oF c e b=>
  refine⟨⟨λk l i=>?_,λq g=>?_⟩,av,av⟩
  ·simp at l;subst l;have:=t _ _ b;simp at i;omega
  ·simp at g;subst g;exact o _ _ _ b
 |@f9 c a e d b _ u=>
  have i:=Ao b s;obtain⟨⟨v,w⟩,y,z⟩:=u i.2;refine⟨⟨λk l i=>?_,λq g=>?_⟩,av,by simp only[dT];omega⟩
  ·cases k with
   |zero=>simp only[dT];omega
   |succ k=>simp only[dT]at l⊢;have:=v k T (by simpa using i);omega
  ·rcases ek.1 g with rfl|g
   ·exact o _ _ _ b
   ·exact w q g
theorem OZ(a:ByteArray)(L:aq)(b:600<a.size):
 Calls prog 57 #[az a] L λe y=>e=aM (b2 #[aD none,O Q 600,O Q 1])/\Below (R L).size L y:=by
 have c:(600:Int)<(a.size:Int):=T;clear b;go_enter func57,ntmps57;go_wp2;exact dG (v:=b2 #[aD none,O Q 600,O Q 1]) (by simp[eS,results57,go_sem]) rfl ⟨rfl,ca _ _⟩
structure sC (pS:aq) (X bi:Nat) (ab:Nat->Nat) (cO:eU) (ae:au) (ew:List Nat) (wr:aq):Prop where
 aV:bQ ab wr X cO ae
 nj:cZ ab wr cO.g_ ew
 bo:aU (h6 pS.heap.size) pS ab wr
theorem bQ.bd(h:bQ u L r w c)(x:Int):bQ u (ay L ⟨r,10,none⟩ (O Q x)) r w {c with bd:=x}:=
 h.gE 10 (O Q x) oM rfl rfl rfl rfl rfl rfl h.cY h.ej
theorem bQ.aZ(h:bQ u L r w c)(x:Int):bQ u (ay L ⟨r,11,none⟩ (O Q x)) r w {c with aZ:=x}:=
 h.gE 11 (O Q x) oM rfl rfl rfl rfl rfl rfl h.cY h.ej
theorem BK{e:TypeId}{f:Nat}{b:List an}(h:aY L 0 e f x k b):∃c d,x=U c k d/\(0<k->∃N,c=some ⟨N,0,none⟩/\∀a j,b[a]?=some j->aK L ⟨N,a,none⟩=some j):=by
 have i:=λ(N:Nat) (e:ap x=some N)=>h.cells (g:=N) e
 rcases h.2 with⟨rfl,l⟩|⟨N,d,q,rfl,_⟩
 ·subst l;exact⟨none,0,rfl,λm=>absurd m ak⟩
 ·refine⟨_,_,rfl,λ_=>⟨N,rfl,λa j o=>?_⟩⟩;have:=i N rfl a j o;have p:(⟨N,0,none⟩:Addr).add a=⟨N,a,none⟩:=l0;rw[p]at this;exact this
theorem r5(h:aU (h6 k) L u y):Below (R L).size L y:=h.xk (λ_=>Ir k _)
theorem sC.E{a:aq}{c:List Nat}{wr:aq}(h:sC a r D u w b c wr)(k:Nat):sC a r D u w b c (wr.drewN k):=⟨h.aV.E k,h.nj.dj (r4 wr k none) (λ_ e=>by cases e),h.bo.E k⟩
theorem TI(K:ByteArray)(vE:K.size<=600)(d:List bN)(wz:E7 K d)(wB:0<M d)(xf:M d<=601)(g:List Nat)(b hV E mO hZ F mR mY:au)(P gf:Int)(xk:ag (pq d=hV))(xr:ag (hV.c5 ⟨#[119,105,116,104,105,110]⟩=E))(ys:ag (E.bp 1 1000000=mO))(yC:ag (E.k=P))(y2:ag ({mO with bd:=P}=hZ))(y5:ag (hZ.c5 ⟨#[114,97,116,101]⟩=F))(zc:ag (F.bp 1 12=mR))(zS:ag (F.k=gf))(z_:ag ({mR with aZ:=gf}=mY))(Ai:c2 hV.aT)(Ak:c2 E.aT)(Aq:c2 hZ.aT)(Az:c2 F.aT)(AE:zF g mY b)(i:lj b)(ih:E.ih)(iR:F.ih)(L:aq):
 Calls prog 57 #[az K] L λe y=>∃x,e=aM x/\Bm L b g x y:=by
 have F2:(K.size:Int)<=600:=T;clear vE;go_enter func57,ntmps57;go_wp2_with fail;refine(wz L).mono ?_;rintro e iU ⟨x,rfl,m5,ne,nB⟩;obtain⟨N,AV,rfl,gg⟩:=bQ.jt ne m5 wB xf rfl;have iZ:aU (h6 (R L).size) L (aO (h6 (R L).size) (R iU).size 1) (ar iU (aw #[U (some ⟨N,0,none⟩) (M d) AV,O Q 0,O Q (-1),O Q 0,O Q (-1),ja,ja,ja,ja,ja,O Q 0,O Q 0,ja] 123)):=(aU.h6 nB).o6 _ 1;clear m5 ne nB;unfold ja at gg iZ;rw[xk.out]at gg;go_wp2_with fail;refine(oA gg Ai.b8 _).mono ?_;rintro e F4 ⟨rfl,gj,gC⟩;replace gC:=iZ.trans gC;rw[xr.out]at gj;clear gg iZ;generalize(R iU).size=r at*;generalize aO (h6 (R L).size) r 1=Ga at*;have i0:=gj.ax.am;go_wp2_with fail;refine(oK gj Ak 1 1000000 ih.b9 ih.b6 ih.cc).mono ?_;rintro e Gl ⟨rfl,Gx,Hp,o,gE⟩;replace gE:=gC.trans gE;rw[ys.out]at o;rw[yC.out];clear gj gC i0;have G:=o.ax.am;have f:=o.aa 10;have H:=o.ax.b 10;simp[cp]at f;go_wp2_with fail;have i1:=o.bd P;rw[y2.out]at i1;have nG:=gE.v (ai:=⟨r,10,none⟩) (by rw[o.dN];decide) (O Q P);clear o gE f H G;refine(oA i1 Aq.b8 _).mono ?_;rintro e HY ⟨rfl,gF,gL⟩;replace gL:=nG.trans gL;rw[y5.out]at gF;clear i1 nG;have i0:=gF.ax.am;go_wp2_with fail;refine(oK gF Az 1 12 iR.b9 iR.b6 iR.cc).mono ?_;rintro e H_ ⟨rfl,J3,Ko,p,g1⟩;replace g1:=gL.trans g1;rw[zc.out]at p;rw[zS.out];clear gF gL i0;have G:=p.ax.am;have f:=p.aa 11;have H:=p.ax.b 11;simp[cp]at f;go_wp2_with fail;have i2:=p.aZ gf;rw[z_.out]at i2;have oa:=g1.v (ai:=⟨r,11,none⟩) (by rw[p.dN];decide) (O Q gf);clear p g1 f H G;refine(AE _ _ _ _ i2).mono ?_;rintro e ob ⟨x,rfl,B,AW,s,hu,jt⟩;replace hu:=oa.trans hu;clear i2 oa;have G:=s.ax.am;have f:=s.aa 12;have H:=s.ax.b 12;simp[cp]at f;obtain⟨t,z,A,rfl⟩:=jt.cV;go_wp2_with fail;have j:=s.P1 (U t z A);have I:=hu.v (ai:=⟨r,12,none⟩) (by rw[s.dN];decide) (U t z A);have oH:cZ B (ay ob ⟨r,12,none⟩ (U t z A)) (U t z A) g:=jt.dj (fU _ _ _) (λN e=>by cases e;rw[s.dN];decide);clear s hu jt f H G;obtain⟨k,jW⟩:∃k,k=({AW with g_:=U t z A}:eU):=⟨_,rfl⟩;have Bg:ag (k.g_=U t z A):=by show _=_;rw[jW]
 rw[<-jW]at j;clear jW;generalize(ay ob) ⟨r,12,none⟩ (U t z A)=j4 at*;refine(fJ j).mono ?_;rintro e Kp ⟨rfl,Bo,rfl⟩;have Bt:=j.ax.am;have BE:r<(R j4).size+1:=T;have BH:r<(R j4).size+1+1:=T;have oS:=j.aa 2;have o6:=j.aa 4;simp[cp]at oS o6;by_cases C:b.af.ao=3
 ·have BN:((b.af.ao:Int)!=3)=false:=by simp[C]
  have J:ag (b.hu=b):=by show _=_;unfold au.hu;rw[aP C]
  clear C;by_cases pa:0<=b.bk
  ·go_wp2
   go_region
   go_wp2;refine dG (v:=b2 #[aD none,O Q b.bk,O Q 1]) (by simp[eS,results57,go_sem]) rfl ⟨_,rfl,r5 (((I.a _).a _).e.e),?_⟩;rw[J.out,aP pa]
  ·have Kz:b.bk<0:=by omega
   by_cases py:0<=b.bU
   ·go_wp2
    go_region
    go_wp2;refine dG (v:=b2 #[aD none,O Q b.bU,O Q 2]) (by simp[eS,results57,go_sem]) rfl ⟨_,rfl,r5 (((I.a _).a _).e.e),?_⟩;rw[J.out,aH (show¬0<=b.bk by omega),aP py]
   ·have KJ:b.bU<0:=by omega
    have j9:ag (∀(x:an) (y:aq),Below (R L).size L y->(match eo b with
     |some BP=>x=b2 #[aD none,O Q (BP:Nat),O Q 3]
     |none=>∃r u w,x=b2 #[aD (some ⟨r,0,none⟩),O Q 0,O Q 0]/\bQ u y r w b/\cZ u y w.g_ g/\aU (h6 (R L).size) L u y)->Bm L b g x y):=by
     intro x y BV h;refine⟨BV,?_⟩;rw[J.out,aH pa,aH py];exact h
    have pF:sC L r 0 B k b g (ar (ar j4 Bo) (aw #[O Q b.af.ao,az b.af.a8,O Q b.af.a1,O Q b.af.n] 150)):=⟨(j.a _).a _,by rw[Bg.out];exact(oH.dj (fv _ _ none) (λ_ e=>by cases e)).dj (fv _ _ none) (λ_ e=>by cases e),(I.a _).a _⟩;have pR:ph b:=⟨i.b6,i.cc⟩;have K4:M b.b9<=601:=by have:=i.b9;have:=i.cY;have:=i.aT;omega
    go_wp2_with fail
    go_loopw [7] (λkp wr=>∃a:Nat,a<=M b.b9/\kp=O Q a/\sC L r 0 B k b g wr/\∀q,(l:q<M b.b9)->q<a->b.b6.getD q 0<=(b.b9[q].n:Int)/\(b.b9[q].n:Int)<=b.cc.getD q 0) (λkp _=>M b.b9-(bm kp).toNat)
    case atStart=>exact⟨0,bL _,rfl,pF.E 1,λq _ l=>absurd l T⟩
    case round=>
     obtain⟨a,C,rfl,c,D⟩:=hrel;clear pF I oH j oS o6 Bt BE BH;obtain⟨K8,Lp,pU,kr⟩:=BK c.aV.b9;obtain⟨Ls,LB,pX,kx⟩:=BK c.aV.b6;obtain⟨LI,LL,pZ,k1⟩:=BK c.aV.cc;have qp:=c.aV.aa 5;have qt:=c.aV.aa 6;have qP:=c.aV.aa 7;have LQ:=c.aV.ax.am;simp[cp]at qp qt qP;rw[pU]at qp;rw[pX]at qt;rw[pZ]at qP;by_cases k7:a<M b.b9
     ·obtain⟨qW,rfl,lo⟩:=kr T;obtain⟨Cs,rfl,ra⟩:=kx (by have:=i.b6;omega);obtain⟨Cz,rfl,rA⟩:=k1 (by have:=i.cc;omega);have LU:aK wr ⟨qW,a*4+3,none⟩=some (O Q b.b9[a].n):=lo _ _ ((i5 bN.h 4 (λ_=>rfl) b.b9 a 3 k7 ak).trans rfl);have Mc:aK wr ⟨qW,a*4+2,none⟩=some (O Q b.b9[a].a1):=lo _ _ ((i5 bN.h 4 (λ_=>rfl) b.b9 a 2 k7 ak).trans rfl);have l8:a<M b.b6:=by have:=i.b6;omega
      have me:a<M b.cc:=by have:=i.cc;omega
      have rR:b.b6.getD a 0=b.b6[a]:=by simp[fj,dz l8]
      have sY:b.cc.getD a 0=b.cc[a]:=by simp[fj,dz me]
      have Mj:aK wr ⟨Cs,a,none⟩=some (O Q (b.b6.getD a 0)):=ra _ _ (by rw[rR];simp[l8]);have Mk:aK wr ⟨Cz,a,none⟩=some (O Q (b.cc.getD a 0)):=rA _ _ (by rw[sY];simp[me]);have hE:ag (∀tB:(b.b9[a].n:Int)<b.b6.getD a 0\/b.cc.getD a 0<(b.b9[a].n:Int),eo b=some b.b9[a].a1):=λtB=>RE pR k7 D tB
      have My:ag (∀q,(l:q<M b.b9)->q<a->b.b6.getD q 0<=(b.b9[q].n:Int)/\(b.b9[q].n:Int)<=b.cc.getD q 0):=D;have m:ag (sC L r 0 B k b g wr):=c;have MA:(a:Int)<(M b.b9:Int):=T;have MC:(a:Int)<(M b.b6:Int):=T;have MD:(a:Int)<(M b.cc:Int):=T;have MT:(0:Int)<=(a:Int):=T;have CS:ag (∀tI:b.b6.getD a 0<=(b.b9[a].n:Int)/\(b.b9[a].n:Int)<=b.cc.getD a 0,∀q,(l:q<M b.b9)->q<a+1->b.b6.getD q 0<=(b.b9[q].n:Int)/\(b.b9[q].n:Int)<=b.cc.getD q 0):=λtI q l M1=>by
       by_cases e:q=a
       ·subst e;exact tI
       ·exact D q l T
      clear D c lo ra rA kr kx k1 rR sY l8 me pU pX pZ;generalize b.b9[a].n=hS at*;generalize b.b6.getD a 0=t8 at*;generalize b.cc.getD a 0=ub at*;generalize b.b9[a].a1=ug at*;by_cases DM:(hS:Int)<t8
      ·go_wp2;go_quiet(fail);go_wp2
       go_region
       go_wp2;refine dG (v:=b2 #[aD none,O Q ug,O Q 3]) (by simp[eS,results57,go_sem]) rfl ⟨_,rfl,j9.out _ _ (r5 (m.out.bo.E _)) ?_⟩;rw[hE.out (.inl DM)]
      ·have D7:t8<=(hS:Int):=by omega
       by_cases f:ub<(hS:Int)
       ·go_wp2;go_quiet(fail);go_wp2
        go_region
        go_wp2;refine dG (v:=b2 #[aD none,O Q ug,O Q 3]) (by simp[eS,results57,go_sem]) rfl ⟨_,rfl,j9.out _ _ (r5 (m.out.bo.E _)) ?_⟩;rw[hE.out (.inr f)]
       ·have D9:(hS:Int)<=ub:=by omega
        go_wp2;go_quiet(fail);go_wp2;go_roundw
        case rel=>exact⟨a+1,T,bE,m.out.E _,CS.out ⟨D7,D9⟩⟩
        case measure=>simp[bm];omega
     ·have e:a=M b.b9:=by omega
      have hE:ag (eo b=none):=Ni pR (λq l=>D q l T);have m:ag (sC L r 0 B k b g wr):=c;clear D c kr kx k1;subst e;go_wp2;refine dG (v:=b2 #[aD (some ⟨r,0,none⟩),O Q 0,O Q 0]) (by simp[eS,results57,go_sem]) rfl ⟨_,rfl,j9.out _ _ (r5 m.out.bo) ?_⟩;rw[hE.out];exact⟨r,B,k,rfl,m.out.aV,m.out.nj,m.out.bo⟩
 ·have BN:((b.af.ao:Int)!=3)=true:=by simp;omega
  have J:ag (b.hu=b.c8):=by show _=_;unfold au.hu;rw[aH C]
  have uY:ag (0<=b.c8.bk):=by
   show _<=_;unfold au.c8;split
   ·show(0:Int)<=(b.af.a1:Int);omega
   ·omega
  clear C;generalize El:b.c8=ET at*;go_wp2_with(first|(go_at_call 97;refine(lb (((j.a _).a _).e)).mono ?_;rintro e M9 ⟨rfl,mn,Fi⟩;rw[El]at mn;have Nt:=mn.ax.am;have FM:=mn.aa 2;simp[cp]at FM;have NF:=uY.out))
  go_region
  go_wp2;refine dG (v:=b2 #[aD none,O Q ET.bk,O Q 1]) (by simp[eS,results57,go_sem]) rfl ⟨_,rfl,r5 (((((I.a _).a _).e).trans Fi).e),?_⟩;rw[J.out,aP uY.out]
theorem FR(c:ByteArray)(j:c.size<=600)(d:List bN)(o:k2 c 0 d)(p:E7 c d)(f:List Nat)(b:au)(q:eF (.mU [] f) (kW d) b)(s:lj b)(t:(mx d).ih)(v:(l2 d).ih)(L:aq):
 Calls prog 57 #[az c] L λe y=>∃x,e=aM x/\Bm L b f x y:=by
 obtain⟨a,z,C⟩:=zK o (bL _) j;have l:(mx d).aT=d:=tv _ _;obtain⟨_,g,_⟩:=D5 d;rw[uI,l]at g;have m:(l2 d).aT=d:=(tv _ _).trans g;obtain⟨_,i,_⟩:=He d;rw[uI,m]at i;obtain⟨k,A⟩:=eF.y5 (λB a=>e9.y5 B a) q (by rw[i];exact a);refine TI c j d p z T f b (pq d) (mx d) ((mx d).bp 1 1000000) (pD d) (l2 d) ((l2 d).bp 1 12) (kW d) (mx d).k (l2 d).k rfl rfl rfl rfl ?_ rfl rfl rfl ?_ a (by rw[l];exact a) (by rw[g];exact a) (by rw[m];exact a) ?_ s t v L
 ·show _=_;unfold pD;rfl
 ·show _=_;unfold kW;rfl
 ·intro u L r w h;exact AQ (by rw[i];exact a) A u L r w h
