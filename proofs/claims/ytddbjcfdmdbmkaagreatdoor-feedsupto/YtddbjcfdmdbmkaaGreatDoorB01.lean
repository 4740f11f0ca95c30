import Derived.Test.YtddbjcfdmdbmkaaGreatDoorB00
set_option linter.all false
set_option maxRecDepth 100000
namespace Go.Proofs.YtddbjcfdmdbmkaaGreatDoor
open Go.Proofs.Tryz
open List renaming length->M
variable{a k x D r E:Nat}{c:List Nat}{d:Nat×List Nat}{j w A:Int}{z B:List (Nat×List Nat)}
structure be where
 aS:Int
 ao:Int
 bj:Int
 X:Int
 aE:Int
variable{b:List be}
instance:Inhabited be:=⟨⟨0,0,0,0,0⟩⟩
structure dg where
 hn:List be->be->Bool
 iT:List be->be->Bool
variable{o:dg}
variable{y:List dg}
variable{u:List (List dg)}
def cu(e:List be)(f:Nat):be:=e.getD f default
def cM(e:List be)(f:List Nat):List be:=f.map (cu e)
def hg(f:List be)(h:dg)(g:List Nat)(i:Nat):Prop:=∀e,g.getLastD 0<e->e<i->h.iT (cM f g) (cu f e)=false
instance (ad:List be) (aV:dg) (aG:List Nat) (cc:Nat):Decidable (hg ad aV aG cc):=decidable_of_iff (∀al,al<cc->aG.getLastD 0<al->aV.iT (cM ad aG) (cu ad al)=false) ⟨λh al bj X=>h al X bj,λh al bj X=>h al X bj⟩
def ii(e:List Nat):Nat:=if e=[]then 0 else e.getLastD 0+1
def oW(e:List be)(h:dg)(f:List Nat)(g:Nat):Prop:=ii f<=g/\g<M e/\h.hn (cM e f) (cu e g)=true/\(f=[]\/hg e h f g)
def hL(e:List be):List Nat->List dg->List Nat->Prop
 |_,_,[]=>True
 |_,[],_::_=>False
 |pre,g::rest,f::h=>oW e g pre f/\hL e (pre++[f]) rest h
theorem oX{e:be}(h:a<M b):cu (b++[e]) a=cu b a:=by unfold cu;rw[fj,fj,ms h]
theorem nk(b:List be)(e:be):cu (b++[e]) (M b)=e:=by unfold cu;rw[fj,qs (aN _)];simp
theorem rp{e:be}(h:∀a∈c,a<M b):cM (b++[e]) c=cM b c:=
 sa λa d=>oX (h a d)
theorem tj{e:be}{d:Nat}(h:∀a∈c,a<M b)(j:d<=M b):hg (b++[e]) o c d↔hg b o c d:=by
 unfold hg;rw[rp h];constructor
 ·intro f a g i;rw[<-oX (e:=e) T];exact f a g i
 ·intro f a g i;rw[oX T];exact f a g i
theorem Jw{e:be}(h:∀i∈c,i<M b)(g:a<M b):oW (b++[e]) o c a↔oW b o c a:=by
 unfold oW;rw[rp h,oX g,tj h T,bV];constructor
 ·rintro⟨d,_,f⟩;exact⟨d,g,f⟩
 ·rintro⟨d,_,f⟩;exact⟨d,T,f⟩
theorem pG:∀{c pre:List Nat} {rest:List dg},hL b pre rest c->(∀d∈pre,d<M b)->∀d∈pre++c,d<M b:=by
 intro c
 induction c with
 |nil=>intro pre rest _ h;simpa using h
 |cons a c f=>
  intro pre rest h g;cases rest with
  |nil=>exact h.elim
  |cons o rest=>
   have:=f h.2 (λd e=>by
    rcases dm.1 e with e|e
    ·exact g d e
    ·rw[dB.1 e];exact h.1.2.1)
   simpa using this
theorem qc:∀{c pre:List Nat} {rest:List dg} {a:Nat},hL b pre rest (c++[a])↔hL b pre rest c/\∃o,rest[M c]?=some o/\oW b o (pre++c) a:=by
 intro c
 induction c with
 |nil=>
  intro pre rest a;cases rest with
  |nil=>simp[hL]
  |cons o rest=>simp[hL]
 |cons g c h=>
  intro pre rest a;cases rest with
  |nil=>simp[hL]
  |cons o rest=>show oW b o pre g/\hL b (pre++[g]) rest (c++[a])↔_;rw[h];simp only[hL,dT,SB,ke,Tx];exact⟨λ⟨d,e,f⟩=>⟨⟨d,e⟩,f⟩,λ⟨⟨d,e⟩,f⟩=>⟨d,e,f⟩⟩
theorem sW{e:be}:∀{f pre:List Nat} {rest:List dg},(∀c∈pre,c<M b)->(∀c∈f,c<M b)->(hL (b++[e]) pre rest f↔hL b pre rest f):=by
 intro f
 induction f with
 |nil=>intros;simp[hL]
 |cons a f j=>
  intro pre rest g h;cases rest with
  |nil=>simp[hL]
  |cons o rest=>
   have i:=h a av;show oW _ _ _ _/\_↔oW _ _ _ _/\_;rw[Jw g i,j (λc d=>by
    rcases dm.1 d with d|d
    ·exact g c d
    ·rw[dB.1 d];exact i) (λc d=>h c (by simp[d]))]
def ox(f:List be)(g:List dg)(e:List Nat):Prop:=e≠[]/\hL f [] g e/\∃h,g[M e]?=some h/\hg f h e (M f)
def Ek(f:List be)(g:List dg)(e:List Nat):Prop:=e≠[]/\hL f [] g e/\M e=M g/\e.getLastD 0+1=M f
theorem sq(c:List Nat)(a:Nat):(c++[a]).getLastD 0=a:=by simp[l7]
theorem BB(h:hL b [] y (c++[a])):c=[]\/c.getLastD 0<a:=by
 obtain⟨_,o,_,d⟩:=qc.1 h;have:=d.1;unfold ii at this;rw[fa]at this;split at this
 ·left;assumption
 ·right;omega
theorem RO{e:be}:ox (b++[e]) y c↔
 (ox b y c/\∃o,y[M c]?=some o/\o.iT (cM b c) e=false)\/
 (∃d,c=d++[M b]/\(d=[]\/ox b y d)/\M c<M y/\∃o,y[M d]?=some o/\o.hn (cM b d) e=true):=by
 have H:c=[]\/∃d a,c=d++[a]:=by
  rcases r7 c with h|⟨d,a,h⟩
  ·exact .inl h
  ·exact .inr ⟨d,a,by simpa using h⟩
 rcases H with rfl|⟨d,a,rfl⟩
 ·simp[ox]
 have D:∀o,(∀i∈d++[a],i<M b)->(hg (b++[e]) o (d++[a]) (M (b++[e]))↔hg b o (d++[a]) (M b)/\o.iT (cM b (d++[a])) e=false):=by
  intro o f;have w:a<M b:=f a av;rw[<-tj (e:=e) f (aN _)];unfold hg;rw[bV,sq];constructor
  ·intro h;refine⟨λp l m=>h p l b7,?_⟩;have:=h (M b) w av;rw[nk,rp f]at this;exact this
  ·rintro⟨l,m⟩ p I J;simp only[dT,d5]at J;by_cases K:p<M b
   ·exact l p I K
   ·rw[show p=M b by omega,nk,rp f];exact m
 constructor
 ·rintro⟨_,r,o,q,x⟩
  have f:=pG r av;simp only[fa,bV,dT,d5]at f;have s:∀i∈d,i<M b:=by
   intro i g;have hS:=f a av;have P:∀{d:List Nat} {a:Nat},hL (b++[e]) [] y (d++[a])->∀i∈d,i<a:=by
    intro d
    induction t:M d generalizing d with
    |zero=>intro a _ i g;rw[nx.1 t]at g;simp at g
    |succ k gf=>
     intro a h i g;rcases r7 d with j|⟨z,p,j⟩
     ·rw[j]at t;simp at t
     ·have gg:d=z++[p]:=by simpa using j
      subst gg;have gj:p<a:=by
       rcases BB h with l|l
       ·simp at l
       ·rwa [sq]at l
      rcases dm.1 g with g|g
      ·have:=gf (d:=z) (by simpa using t) (qc.1 h).1 i g;omega
      ·rw[dB.1 g];exact gj
   have:=P r i g;omega
  by_cases w:a<M b
  ·left
   have E:∀i∈d++[a],i<M b:=λi g=>by
    rcases dm.1 g with g|g
    ·exact s i g
    ·rw[dB.1 g];exact w
   obtain⟨gC,gE⟩:=(D o E).1 x;exact⟨⟨av,(sW av E).1 r,o,q,gC⟩,o,q,gE⟩
  ·right;have gF:a=M b:=by have:=f a av;omega
   subst gF;obtain⟨l,A,m,B⟩:=qc.1 r;rw[fa]at B;have C:M (d++[M b])<M y:=by rcases jX.1 q with⟨h,_⟩;exact h
   refine⟨d,rfl,?_,C,A,m,?_⟩
   ·by_cases j:d=[]
    ·exact .inl j
    ·right;refine⟨j,(sW av s).1 l,A,m,?_⟩;rcases B.2.2.2 with h|h
     ·exact absurd h j
     ·exact(tj s (aN _)).1 h
   ·have:=B.2.2.1;rw[nk,rp s]at this;exact this
 ·rintro(⟨⟨j,r,o,q,x⟩,A,F,gL⟩|⟨z,g1,s,C,o,q,hu⟩)
  ·have f:=pG r av;rw[fa]at f;rw[q]at F;cases F;exact⟨j,(sW av f).2 r,o,q,(D o f).2 ⟨x,gL⟩⟩
  ·obtain⟨rfl,m⟩:=List.append_inj' g1 rfl;have m:a=M b:=by simpa using m
   subst m;have G:hL b [] y d:=by rcases s with rfl|h;exact trivial;exact h.2.1
   have f:=pG G av;rw[fa]at f;refine⟨av,qc.2 ⟨(sW av f).2 G,o,q,?_⟩,?_⟩
   ·rw[fa];refine⟨?_,av,by rw[nk,rp f];exact hu,?_⟩
    ·unfold ii;split
     ·omega
     ·rename_i j;have:d.getLastD 0∈d:=by rw[l7,CY j];exact List.getLast_mem j
      have:=f _ this;omega
    ·rcases s with h|h
     ·exact .inl h
     ·right;obtain⟨_,_,u,v,hE⟩:=h;rw[q]at v;cases v;exact(tj f (aN _)).2 hE
   ·obtain⟨u,v⟩:∃u,y[M (d++[M b])]?=some u:=⟨_,dz C⟩;refine⟨u,v,?_⟩;intro p l m;rw[sq]at l;simp at m;omega
theorem G3{e:be}:Ek (b++[e]) y c↔
 ∃d,c=d++[M b]/\(d=[]\/ox b y d)/\M c=M y/\∃o,y[M d]?=some o/\o.hn (cM b d) e=true:=by
 constructor
 ·rintro⟨g,t,q,u⟩;rcases r7 c with h|⟨d,a,h⟩
  ·exact absurd h g
  have D:c=d++[a]:=by simpa using h
  subst D;rw[sq]at u;have E:a=M b:=by simpa using u
  subst E;obtain⟨j,v,w,r⟩:=qc.1 t;rw[fa]at r;have l:∀i∈d,i<M b:=by
   have m:=pG j av;intro i f;have F:∀{d:List Nat} {a:Nat},hL (b++[e]) [] y (d++[a])->∀i∈d,i<a:=by
    intro d
    induction p:M d generalizing d with
    |zero=>intro a _ i f;rw[nx.1 p]at f;simp at f
    |succ k G=>
     intro a h i f;rcases r7 d with g|⟨x,z,g⟩
     ·rw[g]at p;simp at p
     ·have H:d=x++[z]:=by simpa using g
      subst H;have I:z<a:=by
       rcases BB h with j|j
       ·simp at j
       ·rwa [sq]at j
      rcases dm.1 f with f|f
      ·have:=G (d:=x) (by simpa using p) (qc.1 h).1 i f;omega
      ·rw[dB.1 f];exact I
   exact F t i f
  refine⟨d,rfl,?_,q,v,w,?_⟩
  ·by_cases s:d=[]
   ·exact .inl s
   ·right;refine⟨s,(sW av l).1 j,v,w,?_⟩;rcases r.2.2.2 with h|h
    ·exact absurd h s
    ·exact(tj l (aN _)).1 h
  ·have:=r.2.2.1;rw[nk,rp l]at this;exact this
 ·rintro⟨d,rfl,l,q,o,A,J⟩;have B:hL b [] y d:=by rcases l with rfl|h;exact trivial;exact h.2.1
  have m:=pG B av;rw[fa]at m;refine⟨av,qc.2 ⟨(sW av m).2 B,o,A,?_⟩,q,by rw[sq];simp⟩;rw[fa];refine⟨?_,av,by rw[nk,rp m];exact J,?_⟩
  ·unfold ii;split
   ·omega
   ·rename_i g;have:d.getLastD 0∈d:=by rw[l7,CY g];exact List.getLast_mem g
    have:=m _ this;omega
  ·rcases l with h|h
   ·exact .inl h
   ·right;obtain⟨_,_,P,C,K⟩:=h;rw[A]at C;cases C;exact(tj m (aN _)).2 K
section
variable {bD:Type} [Inhabited bD] (ba:bD->Int)
def dl(e:List bD)(f:Nat):Int:=ba (e.getD f default)
def eL(e:List bD)(f g:Nat):List bD:=(e.set f (e.getD g default)).set g (e.getD f default)
theorem qC(b:List bD)(a c:Nat):M (eL b a c)=M b:=by unfold eL;simp
theorem q_{a:Prop}(h:a:=by rw[qC];omega):a:=h
theorem xh{a:Prop}(h:a:=by rw[qC];exact b.out):a:=h
theorem BG(c:List bD)(a d b:Nat)(i:a<M c)(j:d<M c):(eL c a d).getD b default=if b=d then c.getD a default else if b=a then c.getD d default else c.getD b default:=by
 unfold eL;simp only[fj,List.getElem?_set,qJ];by_cases f:d=b
 ·subst f;simp[j]
 ·have h:¬b=d:=λe=>f e.symm
  by_cases g:a=b
  ·subst g;simp[f,h,i]
  ·have k:¬b=a:=λe=>g e.symm
   simp[f,h,g,k]
theorem vg(b:List bD)(a c:Nat)(d:a<M b)(e:c<M b):(eL b a c).Perm b:=by
 unfold eL;have f:b.getD c default=b[c]:=by simp[List.getD,e]
 have g:b.getD a default=b[a]:=by simp[List.getD,d]
 rw[f,g];exact List.set_set_perm d e
theorem o_(b:List bD)(a c d:Nat)(e:a<M b)(f:c<M b):dl ba (eL b a c) d=if d=c then dl ba b a else if d=a then dl ba b c else dl ba b d:=by
 unfold dl;rw[BG b a c d e f];split
 ·rfl
 ·split<;>rfl
def j2(f:List bD)(e g:Nat):Nat:=if 2*e+2<g/\dl ba f (2*e+2)<dl ba f (2*e+1)then 2*e+2 else 2*e+1
def e_:Nat->List bD->Nat->Nat->List bD
 |0,e,_,_=>e
 |ah+1,e,f,g=>if g<=2*f+1 then e else if dl ba e (j2 ba e f g)<dl ba e f then e_ ah (eL e f (j2 ba e f g)) (j2 ba e f g) g else e
theorem w4(b:List bD)(a k:Nat)(h:2*a+1<k):(j2 ba b a k=2*a+1\/j2 ba b a k=2*a+2)/\j2 ba b a k<k/\∀c,c<k->(c=2*a+1\/c=2*a+2)->dl ba b (j2 ba b a k)<=dl ba b c:=by
 unfold j2;split
 ·rename_i d;refine⟨.inr rfl,d.1,λc _ h=>?_⟩;rcases h with rfl|rfl
  ·exact Int.le_of_lt d.2
  ·exact zG _
 ·rename_i d;refine⟨.inl rfl,h,λc f h=>?_⟩;rcases h with rfl|rfl
  ·exact zG _
  ·have:¬dl ba b (2*a+2)<dl ba b (2*a+1):=λe=>d ⟨f,e⟩
   omega
theorem wi:∀ah b a k,k<=M b->(e_ ba ah b a k).Perm b:=by
 intro ah
 induction ah with
 |zero=>intro b a k _;exact pc _
 |succ ah c=>
  intro b a k d;unfold e_;split
  ·exact pc _
  ·split
   ·obtain⟨_,e,_⟩:=w4 ba b a k T;exact(c _ _ _ (by rw[qC];exact d)).trans (vg b a _ T T)
   ·exact pc _
theorem vD(ah:Nat)(b:List bD)(a k:Nat)(c:k<=M b):M (e_ ba ah b a k)=M b:=(wi ba ah b a k c).length_eq
theorem SJ:∀ah b a k c,k<=M b->k<=c->(e_ ba ah b a k).getD c default=b.getD c default:=by
 intro ah
 induction ah with
 |zero=>intro b a k c _ _;rfl
 |succ ah d=>
  intro b a k c e f;unfold e_;split
  ·rfl
  ·split
   ·obtain⟨_,g,_⟩:=w4 ba b a k T;rw[d _ _ _ _ (by rw[qC];exact e) f,BG b a _ c T T,aH T,aH T]
   ·rfl
def KO(g:List bD)(h i f:Nat):Prop:=(∀e,0<e->e<h->i<=(e-1)/2->(e-1)/2≠f->dl ba g ((e-1)/2)<=dl ba g e)/\(∀e,0<e->e<h->(e-1)/2=f->0<f->i<=(f-1)/2->dl ba g ((f-1)/2)<=dl ba g e)
def ls(f:List bD)(g h:Nat):Prop:=∀e,0<e->e<g->h<=(e-1)/2->dl ba f ((e-1)/2)<=dl ba f e
theorem CG:∀ah c a k r,k<=M c->r<=a->k<=a+ah->KO ba c k r a->ls ba (e_ ba ah c a k) k r:=by
 intro ah
 induction ah with
 |zero=>intro c a k r p t u h b f d g;exact h.1 b f d g T
 |succ ah v=>
  intro c a k r p t u h;unfold e_;split
  ·rename_i w;intro b f d g;exact h.1 b f d g T
  ·rename_i w;obtain⟨B,x,q⟩:=w4 ba c a k T;generalize C:j2 ba c a k=e at*;split
   ·rename_i y;have j:a<M c:=T;have l:e<M c:=T;refine v (eL c a e) e k r (by rw[qC];exact p) T T ⟨λb f d g s=>?_,λb f d z D E=>?_⟩
    ·rw[o_ ba c a e _ j l,o_ ba c a e b j l];by_cases i:(b-1)/2=a
     ·rw[aH s,aP i];by_cases m:b=e
      ·rw[aP m];omega
      ·rw[aH m,aH T];exact q b d T
     ·rw[aH s,aH i];by_cases m:b=e
      ·exfalso;omega
      ·rw[aH m];by_cases o:b=a
       ·rw[aP o,o];have:=h.2 e T x T T (by rw[<-o];exact g);exact this
       ·rw[aH o];exact h.1 b f d g i
    ·have A:(e-1)/2=a:=by omega
     rw[A,o_ ba c a e _ j l,o_ ba c a e b j l,aH T,aP rfl,aH T,aH T];have:=h.1 b f d T T;rw[z]at this;exact this
   ·rename_i y;intro b f d g;by_cases i:(b-1)/2=a
    ·have:=q b d T;rw[i];omega
    ·exact h.1 b f d g i
theorem HO{b:List bD}(h:ls ba b k 0):∀a,a<k->dl ba b 0<=dl ba b a:=by
 intro a
 induction a using Nat.strongRecOn with
 |_ a c=>
  intro d;by_cases e:a=0
  ·rw[e];exact zG _
  ·have f:=h a T d (bL _);have g:=c ((a-1)/2) T T;omega
def kD(e:Nat):Nat->List bD->List bD
 |0,f=>f
 |g+1,f=>kD e g (e_ ba e f g e)
theorem MQ(k:Nat):∀a b,k<=M b->(kD ba k a b).Perm b:=by
 intro a
 induction a with
 |zero=>intro b _;exact pc _
 |succ a d=>intro b c;unfold kD;exact(d _ (by rw[vD ba k b a k c];exact c)).trans (wi ba k b a k c)
theorem NI(k:Nat):∀a b,k<=M b->ls ba b k a->ls ba (kD ba k a b) k 0:=by
 intro a
 induction a with
 |zero=>intro b _ h;exact h
 |succ a g=>intro b c h;unfold kD;refine g _ (by rw[vD ba k b a k c];exact c) (CG ba k b a k a c (aN _) T ⟨λd e f i j=>h d e f T,λd e f l m o=>T⟩)
def jB:Nat->List bD->Nat->List bD
 |0,e,_=>e
 |ah+1,e,f=>if f=0 then e else if dl ba e f<dl ba e ((f-1)/2)then jB ah (eL e ((f-1)/2) f) ((f-1)/2)else e
theorem KX:∀ah a b,b<M a->(jB ba ah a b).Perm a:=by
 intro ah
 induction ah with
 |zero=>intro a b _;exact pc _
 |succ ah c=>
  intro a b d;unfold jB;split
  ·exact pc _
  ·split
   ·exact(c _ _ q_).trans (vg a _ b T d)
   ·exact pc _
def Rb(f:List bD)(h g:Nat):Prop:=(∀e,0<e->e<h->e≠g->dl ba f ((e-1)/2)<=dl ba f e)/\(∀e,0<e->e<h->(e-1)/2=g->0<g->dl ba f ((g-1)/2)<=dl ba f e)
theorem Mw:∀ah c a k,k<=M c->a<k->a<ah->Rb ba c k a->ls ba (jB ba ah c a) k 0:=by
 intro ah
 induction ah with
 |zero=>intro c a k _ _ h;omega
 |succ ah p=>
  intro c a k q w x h;unfold jB;split
  ·rename_i r;intro b e f _;exact h.1 b e f T
  ·rename_i r;have j:a<M c:=T;have l:(a-1)/2<M c:=T;split
   ·rename_i s;generalize o:(a-1)/2=g at*;refine p (eL c g a) g k (by rw[qC];exact q) T T ⟨λb e f t=>?_,λb e f u v=>?_⟩
    ·rw[o_ ba c g a _ l j,o_ ba c g a b l j];by_cases d:b=a
     ·rw[aP d,d,o,aH T,aP rfl];omega
     ·rw[aH d,aH t];by_cases m:(b-1)/2=a
      ·rw[aP m];have:=h.2 b e f m T;rw[o]at this;exact this
      ·rw[aH m];by_cases i:(b-1)/2=g
       ·rw[aP i];have:=h.1 b e f d;rw[i]at this;omega
       ·rw[aH i];exact h.1 b e f d
    ·rw[o_ ba c g a _ l j,o_ ba c g a b l j,aH T,aH T];have i:=h.1 g v T T;by_cases d:b=a
     ·rw[aP d];exact i
     ·rw[aH d,aH T];have:=h.1 b e f d;rw[u]at this;omega
   ·rename_i s;intro b e f _;by_cases d:b=a
    ·rw[d];omega
    ·exact h.1 b e f d
end
def d8(e:List be):Int:=(cu e (M e-1)).aS
def eq(e:List be)(f:List Nat):Int:=(cu e (f.headD 0)).aS
def hx(e:List (List dg))(f:Nat):List dg:=e.getD f []
def mv(f:List (List dg))(i:Int)(e:List be)(g:List Nat):Prop:=∃h,h<M f/\Ek e (hx f h) g/\d8 e-eq e g<i
def nD(g:List (List dg))(h:List be)(e:be)(f:Nat×List Nat):Bool:=match(hx g f.1)[M f.2]? with|some i=>i.hn (cM h f.2) e|none=>false
def jr(g:List (List dg))(h:List be)(e:be)(f:Nat×List Nat):Bool:=match(hx g f.1)[M f.2]? with|some i=>i.iT (cM h f.2) e|none=>false
def pj(e:Int)(f:List be)(g:Int)(h:Nat×List Nat):Bool:=decide (g-eq f h.2<e)
def gi(e:List (List dg)):List (Nat×List Nat):=(List.range (M e)).map λf=>(f,[])
def pJ(f:Nat)(e:Nat×List Nat):Nat×List Nat:=(e.1,e.2++[f])
def o0(f:List (List dg))(g:List be)(e:be)(h:List (Nat×List Nat)):List (Nat×List Nat):=((gi f++h).filter (nD f g e)).map (pJ (M g))
def ou(f:List (List dg))(e:Nat×List Nat):Bool:=M e.2==M (hx f e.1)
def qr(f:List (List dg))(h:List be)(e:be)(i:List (Nat×List Nat)):List (Nat×List Nat):=(i.filter λg=>!jr f h e g)++(o0 f h e i).filter λg=>!ou f g
def sG(f:List (List dg))(g:List be)(e:be)(h:List (Nat×List Nat)):List (List Nat):=((o0 f g e h).filter (ou f)).map (·.2)
theorem r3{e:be}(d:c≠[])(h:∀a∈c,a<M b):eq (b++[e]) c=eq b c:=by
 unfold eq;cases c with
 |nil=>exact absurd rfl d
 |cons a c=>rw[Dw,oX (h a av)]
theorem AS(b:List be)(e:be):d8 (b++[e])=e.aS:=by unfold d8;rw[bV,show(M b)+M [e]-1=M b by simp,nk]
theorem pw(h:ox b y c):∀a∈c,a<M b:=by have:=pG h.2.1 av;simpa using this
theorem AM(h:ox b y c):M c<M y:=by obtain⟨_,_,o,a,_⟩:=h;exact(jX.1 a).1
theorem Fl(h:ox [] y c):False:=by
 cases c with
 |nil=>exact h.1 rfl
 |cons a c=>have:=pw h a av;simp at this
theorem Ae{e:be}:nD u b e d=true↔∃o,(hx u d.1)[M d.2]?=some o/\o.hn (cM b d.2) e=true:=by
 unfold nD;constructor
 ·intro h;split at h
  ·rename_i o a;exact⟨o,a,h⟩
  ·exact absurd h av
 ·rintro⟨o,a,h⟩;rw[a];exact h
theorem Hy{e:be}(a:M d.2<M (hx u d.1)):jr u b e d=false↔∃o,(hx u d.1)[M d.2]?=some o/\o.iT (cM b d.2) e=false:=by unfold jr;rw[dz a];simp
theorem zl:d∈gi u↔d.1<M u/\d.2=[]:=by
 unfold gi;simp only[eG,m8];constructor
 ·rintro⟨a,b,rfl⟩;exact⟨b,rfl⟩
 ·rintro⟨c,e⟩;exact⟨d.1,c,by rw[<-e]⟩
theorem OT(u:List (List dg)):(gi u).Nodup:=by unfold gi;exact GZ _ (λa b h e=>h (by simpa using e)) C1
structure g5 (cm:List (List dg)) (bF:Int) (ad:List be) (af:Int) (rz:List (Nat×List Nat)):Prop where
 ry:rz.Nodup
 ld:∀aQ,aQ∈rz↔aQ.1<cm.length/\ox ad (hx cm aQ.1) aQ.2/\af-eq ad aQ.2<bF
theorem g5.vF(h:g5 u j b w z)(e:b=[]\/w<=A):g5 u j b A (z.filter (pj j b A)):=by
 refine⟨wv _ h.ry,λd=>?_⟩;rw[kG,h.ld];unfold pj;simp only[jF];constructor
 ·rintro⟨⟨c,a,f⟩,g⟩;exact⟨c,a,g⟩
 ·rintro⟨c,a,f⟩;rcases e with rfl|e
  ·exact(Fl a).elim
  ·exact⟨⟨c,a,T⟩,f⟩
theorem yl{e:be}(h:g5 u j b e.aS z)(d:Nat×List Nat):d∈o0 u b e z↔d.1<M u/\∃c,d.2=c++[M b]/\(c=[]\/(ox b (hx u d.1) c/\e.aS-eq b c<j))/\∃o,(hx u d.1)[M c]?=some o/\o.hn (cM b c) e=true:=by
 unfold o0;simp only[eG,kG,dm];constructor
 ·rintro⟨⟨a,c⟩,⟨g,q⟩,rfl⟩;obtain⟨o,k,l⟩:=Ae.1 q;rcases g with g|g
  ·obtain⟨f,i⟩:=zl.1 g;exact⟨f,c,rfl,.inl i,o,k,l⟩
  ·obtain⟨f,i,m⟩:=(h.ld _).1 g;exact⟨f,c,rfl,.inr ⟨i,m⟩,o,k,l⟩
 ·rintro⟨f,c,r,p,o,k,l⟩;refine⟨(d.1,c),⟨?_,Ae.2 ⟨o,k,l⟩⟩,by unfold pJ;rw[<-r]⟩;rcases p with p|⟨i,m⟩
  ·exact .inl (zl.2 ⟨f,p⟩)
  ·exact .inr ((h.ld _).2 ⟨f,i,m⟩)
theorem JX{a b:Nat×List Nat}(h:pJ k a=pJ k b):a=b:=by unfold pJ at h;rw[B6]at h;exact yG h.1 (List.append_cancel_right h.2)
theorem Jn{e:be}(h:g5 u j b e.aS z):(o0 u b e z).Nodup:=by
 unfold o0;have ba:((gi u++z).filter (nD u b e)).Nodup:=by refine wv _ ?_;show List.Nodup _;rw[z7];refine⟨OT u,h.ry,λa d c f e=>?_⟩;subst e;obtain⟨_,g⟩:=zl.1 d;exact((h.ld _).1 f).2.1.1 g
 exact GZ _ (λ(a c:Nat×List Nat) (i:a≠c) k=>i (JX k)) ba
theorem g5.q{e:be}(h:g5 u j b e.aS z)(x:0<j):g5 u j (b++[e]) e.aS (qr u b e z):=by
 have p:∀c:List Nat,(c++[M b]).headD 0=if c=[]then(M b)else c.headD 0:=by intro c;cases c<;>simp
 refine⟨?_,λd=>?_⟩
 ·unfold qr;rw[z7];refine⟨wv _ h.ry,wv _ (Jn h),λr s y t e=>?_⟩;subst e;obtain⟨_,c,g,_⟩:=(yl h r).1 (kG.1 t).1;have:=pw ((h.ld r).1 (kG.1 s).1).2.1 (M b) (by rw[g];simp);omega
 ·unfold qr;rw[dm,kG,kG,h.ld,yl h,RO];constructor
  ·rintro(⟨⟨i,f,k⟩,l⟩|⟨⟨i,c,g,a,m⟩,l⟩)
   ·refine⟨i,.inl ⟨f,?_⟩,?_⟩
    ·exact(Hy (AM f)).1 (by simpa using l)
    ·rw[r3 f.1 (pw f)];exact k
   ·refine⟨i,.inr ⟨c,g,?_,?_,m⟩,?_⟩
    ·rcases a with a|a
     ·exact .inl a
     ·exact .inr a.1
    ·obtain⟨o,v,_⟩:=m;have:=(jX.1 v).1;have A:¬(M d.2)=M (hx u d.1):=by simpa[ou]using l
     rw[g,bV]at*;simp only[dT,d5]at*;omega
    ·rw[g];rcases a with rfl|⟨a,w⟩
     ·have:eq (b++[e]) ([]++[M b])=e.aS:=by unfold eq;simp[nk]
      rw[this];omega
     ·have:eq (b++[e]) (c++[M b])=eq b c:=by
       rw[<-r3 (e:=e) a.1 (pw a)];unfold eq;rw[p,aH a.1]
      rw[this];exact w
  ·rintro⟨i,(⟨f,l⟩|⟨c,g,a,B,m⟩),k⟩
   ·left;rw[r3 f.1 (pw f)]at k;refine⟨⟨i,f,k⟩,?_⟩;rw[(Hy (AM f)).2 l];rfl
   ·right;refine⟨⟨i,c,g,?_,m⟩,?_⟩
    ·rcases a with a|a
     ·exact .inl a
     ·right;refine⟨a,?_⟩;have:eq (b++[e]) (c++[M b])=eq b c:=by rw[<-r3 (e:=e) a.1 (pw a)];unfold eq;rw[p,aH a.1]
      rw[g,this]at k;exact k
    ·have:¬(M d.2)=M (hx u d.1):=by omega
     simp[ou,this]
theorem g5.K4{e:be}(h:g5 u j b e.aS z)(w:0<j)(c:List Nat):c∈sG u b e z↔mv u j (b++[e]) c:=by
 have o:∀g:List Nat,(g++[M b]).headD 0=if g=[]then(M b)else g.headD 0:=by intro g;cases g<;>simp
 unfold sG mv;simp only[eG,kG,AS];constructor
 ·rintro⟨d,⟨l,p⟩,rfl⟩;obtain⟨r,g,i,f,m⟩:=(yl h d).1 l;have s:M d.2=M (hx u d.1):=by simpa[ou]using p
  refine⟨d.1,r,G3.2 ⟨g,i,?_,s,m⟩,?_⟩
  ·rcases f with f|f
   ·exact .inl f
   ·exact .inr f.1
  ·rw[i];rcases f with rfl|⟨f,k⟩
   ·have:eq (b++[e]) ([]++[M b])=e.aS:=by unfold eq;simp[nk]
    rw[this];omega
   ·have:eq (b++[e]) (g++[M b])=eq b g:=by
     rw[<-r3 (e:=e) f.1 (pw f)];unfold eq;rw[o,aH f.1]
    rw[this];exact k
 ·rintro⟨a,t,l,k⟩;obtain⟨g,i,f,v,m⟩:=G3.1 l;refine⟨(a,c),⟨(yl h _).2 ⟨t,g,i,?_,m⟩,by simp[ou,v]⟩,rfl⟩;rcases f with f|f
  ·exact .inl f
  ·right;refine⟨f,?_⟩;have:eq (b++[e]) (g++[M b])=eq b g:=by rw[<-r3 (e:=e) f.1 (pw f)];unfold eq;rw[o,aH f.1]
   rw[i,this]at k;exact k
theorem g5.p4(h:g5 u j b w z)(a:B.Perm z):g5 u j b w B:=
 ⟨a.symm.nodup h.ry,λd=>(a.mem_iff).trans (h.ld d)⟩
theorem g5.jt(u:List (List dg))(j w:Int):g5 u j [] w []:=
 ⟨List.nodup_nil,λd=>⟨λh=>by simp at h,λh=>(Fl h.2.1).elim⟩⟩
def gs:Nat->Nat->Nat
 |_,0=>1
 |0,_+1=>0
 |e+1,f+1=>gs e f+gs e (f+1)
def fO(e:Nat):Nat->Nat
 |0=>0
 |f+1=>fO e f+gs e (f+1)
def mm:Nat->Nat->Nat->List (List Nat)
 |_,_,0=>[[]]
 |_,0,_+1=>[]
 |e,f+1,g+1=>(mm (e+1) f g).map (e::·)++mm (e+1) f (g+1)
theorem Hh:∀x r a,M (mm r x a)=gs x a:=by
 intro x
 induction x with
 |zero=>intro r a;cases a<;>simp[mm,gs]
 |succ x b=>intro r a;cases a<;>simp[mm,gs,b]
theorem C4:∀x r (c:List Nat),c.Pairwise (·<·)->(∀a∈c,r<=a/\a<r+x)->c∈mm r x (M c):=by
 intro x
 induction x with
 |zero=>
  intro r c _ h;cases c with
  |nil=>simp[mm]
  |cons a c=>have:=h a av;omega
 |succ x f=>
  intro r c g h;cases c with
  |nil=>simp[mm]
  |cons a c=>
   obtain⟨i,j⟩:=sJ.1 g;show a::c∈(mm (r+1) x (M c)).map (r::·)++mm (r+1) x (M c+1);rw[dm];have k:=h a av;by_cases e:a=r
   ·left;subst e;refine eG.2 ⟨c,f (a+1) c j (λd b=>?_),rfl⟩;have:=i d b;have:=h d (by simp[b]);omega
   ·right;refine f (r+1) (a::c) g (λd b=>?_);have:=h d b;rcases ek.1 b with rfl|b
    ·omega
    ·have:=i d b;omega
theorem tS{bD:Type} [DecidableEq bD]:∀(a x:List bD),a.Nodup->(∀b∈a,b∈x)->M a<=M x:=by
 intro a
 induction a with
 |nil=>intro x _ _;exact bL _
 |cons b a g=>
  intro x i h;obtain⟨j,k⟩:=List.nodup_cons.1 i;have c:b∈x:=h b av;have:=g (x.erase b) k (λd f=>by
   have l:d≠b:=λe=>j (by rw[<-e];exact f)
   rw[List.mem_erase_of_ne l]
   exact h d (by simp[f]))
  rw[List.length_erase_of_mem c]at this;have:0<M x:=List.length_pos_of_mem c;simp;omega
theorem If(h:x<=D)(a:Nat):gs x a<=gs D a:=by
 induction h with
 |refl=>exact aN _
 |step h b=>
  refine bS b ?_;cases a with
  |zero=>simp[gs]
  |succ a=>simp[gs]
theorem Kl(h:x<=D):∀a,fO x a<=fO D a:=by
 intro a
 induction a with
 |zero=>exact aN _
 |succ a b=>exact C8 b (If h _)
theorem xF:∀{c:List Nat},hL b [] y c->c.Pairwise (·<·):=by
 intro c
 induction e:M c generalizing c with
 |zero=>intro _;rw[nx.1 e];exact List.Pairwise.nil
 |succ k m=>
  intro h;rcases r7 c with g|⟨d,o,g⟩
  ·rw[g]at e;simp at e
  ·have p:c=d++[o]:=by simpa using g
   subst p;have j:=m (c:=d) (by simpa using e) (qc.1 h).1;rw[ut];refine⟨j,A3 _ _,λq a u r=>?_⟩;rw[dB.1 r];rcases BB h with f|f
   ·rw[f]at a;simp at a
   ·rcases r7 d with i|⟨s,l,i⟩
    ·rw[i]at a;simp at a
    ·have t:d=s++[l]:=by simpa using i
     subst t;rw[sq]at f;rcases dm.1 a with a|a
     ·have:=(ut.1 j).2.2 q a l av;omega
     ·rw[dB.1 a];exact f
def kb(e:List be):Prop:=∀g f,g<=f->f<M e->(cu e g).aS<=(cu e f).aS
theorem CH(h:c.Pairwise (·<·)):∀a∈c,c.headD 0<=a:=by
 intro a b;cases c with
 |nil=>simp at b
 |cons d c=>
  rw[Dw];rcases ek.1 b with rfl|b
  ·exact aN _
  ·exact k3 ((sJ.1 h).1 a b)
theorem Rn(h:ox b y c)(e:kb b)(f:w-eq b c<j):∀a∈c,w-(cu b a).aS<j:=by intro a d;have g:=CH (xF h.2.1) a d;have i:=e _ _ g (pw h a d);unfold eq at f;omega
def wW(e:List (List dg))(g h:Nat):List (Nat×List Nat):=(List.range (M e)).flatMap λf=>(List.range (M (hx e f)-1)).flatMap λi=>(mm g h (i+1)).map λl=>(f,l)
theorem NX(x a:Nat):((List.range a).map λb=>gs x (b+1)).sum=fO x a:=by
 induction a with
 |zero=>rfl
 |succ a c=>rw[List.range_succ,dv,qO,c];simp[fO]
theorem Tw(u:List (List dg))(r x:Nat):M (wW u r x)=(u.map λe=>fO x (M e-1)).sum:=by
 unfold wW;rw[EN];have h:∀a,M ((List.range (M (hx u a)-1)).flatMap λb=>(mm r x (b+1)).map λc=>(a,c))=fO x (M (hx u a)-1):=by intro a;rw[EN,<-NX];congr 1;exact sa λb _=>by rw[c_,Hh]
 rw[sa (λa _=>h a)];congr 1;apply xm
 ·simp
 ·intro a d f;simp at d f;simp[hx,d]
def o2(e:Nat)(f:List (List dg)):Nat:=(f.map λg=>fO e (M g-1)).sum
theorem Jm{bD:Type}{ah N:bD->Nat}:∀(a:List bD),(∀b∈a,ah b<=N b)->(a.map ah).sum<=(a.map N).sum:=by
 intro a
 induction a with
 |nil=>intro _;exact aN _
 |cons b a c=>intro h;simp only[hB,qx];exact C8 (h b av) (c λd e=>h d (by simp[e]))
theorem g5.rW(h:g5 u j b w z)(i:kb b)(k:∀a,a<M b->w-(cu b a).aS<j->r<=a)(e:M b-r<=E):M z<=o2 E u:=by
 have f:M z<=M (wW u r (M b-r)):=by
  refine tS _ _ h.ry (λd e=>?_);obtain⟨l,c,m⟩:=(h.ld d).1 e;unfold wW;rw[ky];refine⟨d.1,m8.2 l,ky.2 ⟨M d.2-1,m8.2 ?_,eG.2 ⟨d.2,?_,rfl⟩⟩⟩
  ·have:=AM c;have:0<M d.2:=lw.2 c.1;omega
  ·have o:0<M d.2:=lw.2 c.1;rw[show(M d.2)-1+1=M d.2 by omega];refine C4 _ _ _ (xF c.2.1) (λa g=>?_);have:=pw c a g;have:=k a this (Rn c i m a g);omega
 rw[Tw]at f;exact bS f (Jm _ λp _=>Kl e _)
def pu(e:List be)(i:Int)(h:dg)(f:List Nat):List Nat:=(List.range (M e)).filter λg=>decide (ii f<=g)&&decide (d8 e-(cu e g).aS<i)&&h.hn (cM e f) (cu e g)&&decide (f=[]\/hg e h f g)
theorem wY:a∈pu b j o c↔oW b o c a/\d8 b-(cu b a).aS<j:=by unfold pu oW;rw[kG,m8];simp only[hh,jF];exact⟨λ⟨d,⟨⟨f,g⟩,h⟩,e⟩=>⟨⟨f,d,h,e⟩,g⟩,λ⟨⟨f,d,h,e⟩,g⟩=>⟨d,⟨⟨f,g⟩,h⟩,e⟩⟩
theorem Ho(b:List be)(j:Int)(o:dg)(c:List Nat):(pu b j o c).Nodup:=wv _ C1
def gc(f:List be)(g:Int):List dg->List Nat->List (List Nat)
 |[],_=>[]
 |h::rest,e=>(if e≠[]/\hg f h e (M f)then [e]else [])++(pu f g h e).flatMap λi=>gc f g rest (e++[i])
def ge(f:List be)(g:Int):List dg->List Nat->List (List Nat)
 |[],e=>if e.getLastD 0+1=M f then [e]else []
 |h::rest,e=>(pu f g h e).flatMap λi=>ge f g rest (e++[i])
def AZ(e:List be)(f:Int)(g:List Nat):Prop:=∀h∈g,d8 e-(cu e h).aS<f
theorem wa:∀(rest:List dg) (pre c:List Nat),c∈gc b j rest pre↔∃d,c=pre++d/\c≠[]/\hL b pre rest d/\AZ b j d/\∃o,rest[M d]?=some o/\hg b o c (M b):=by
 intro rest
 induction rest with
 |nil=>intro pre c;simp[gc]
 |cons o rest r=>
  intro pre c;unfold gc;rw[dm,ky];constructor
  ·rintro(h|⟨a,m,h⟩)
   ·split at h
    ·rename_i s;rw[dB.1 h];exact⟨[],av,s.1,trivial,λa m=>by simp at m,o,rfl,s.2⟩
    ·simp at h
   ·obtain⟨d,rfl,g,i,k,p,e,l⟩:=(r _ _).1 h;obtain⟨t,u⟩:=wY.1 m;refine⟨a::d,av,g,⟨t,i⟩,λq f=>?_,p,by simpa using e,l⟩;rcases ek.1 f with rfl|f
    ·exact u
    ·exact k q f
  ·rintro⟨d,rfl,g,i,k,p,e,l⟩;cases d with
   |nil=>left;simp only[jN]at*;simp at e;subst e;rw[aP ⟨g,l⟩];simp
   |cons a d=>right;refine⟨a,wY.2 ⟨i.1,k a av⟩,(r _ _).2 ⟨d,av,g,i.2,λq f=>k q (by simp[f]),p,by simpa using e,by simpa using l⟩⟩
theorem tg:∀(rest:List dg) (pre c:List Nat),c∈ge b j rest pre↔∃d,c=pre++d/\hL b pre rest d/\AZ b j d/\M d=M rest/\c.getLastD 0+1=M b:=by
 intro rest
 induction rest with
 |nil=>
  intro pre c;unfold ge;constructor
  ·intro h;split at h
   ·rw[dB.1 h];exact⟨[],av,trivial,λa k=>by simp at k,rfl,up⟩
   ·simp at h
  ·rintro⟨d,rfl,_,_,e,f⟩;have:d=[]:=nx.1 e;subst this;simp only[jN]at*;rw[aP f];simp
 |cons o rest p=>
  intro pre c;unfold ge;rw[ky];constructor
  ·rintro⟨a,k,h⟩;obtain⟨d,rfl,e,f,i,l⟩:=(p _ _).1 h;obtain⟨q,r⟩:=wY.1 k;refine⟨a::d,av,⟨q,e⟩,λm g=>?_,by simp[i],l⟩;rcases ek.1 g with rfl|g
   ·exact r
   ·exact f m g
  ·rintro⟨d,rfl,e,f,i,l⟩;cases d with
   |nil=>simp at i
   |cons a d=>exact⟨a,wY.2 ⟨e.1,f a av⟩,(p _ _).2 ⟨d,av,e.2,λm g=>f m (by simp[g]),by simpa using i,by simpa using l⟩⟩
theorem B2{bD i:Type}{ah:bD->List i}:∀{a:List bD},a.Nodup->(∀c∈a,(ah c).Nodup)->(∀c∈a,∀b∈a,∀f,f∈ah c->f∈ah b->c=b)->(a.flatMap ah).Nodup:=by
 intro a
 induction a with
 |nil=>intros;simp
 |cons c a j=>intro k g h;obtain⟨l,m⟩:=List.nodup_cons.1 k;rw[ni,z7];refine⟨g c av,j m (λb d=>g b (by simp[d])) (λb d o p=>h b (by simp[d]) o (by simp[p])),λf q t r e=>?_⟩;subst e;obtain⟨b,d,s⟩:=ky.1 r;have:=h c av b (by simp[d]) f q s;exact l (this▸d)
theorem Jq:∀(rest:List dg) (pre:List Nat),(gc b j rest pre).Nodup:=by
 intro rest
 induction rest with
 |nil=>intro pre;simp[gc]
 |cons o rest i=>
  intro pre;unfold gc;rw[z7];refine⟨by split<;>simp,B2 (Ho _ _ _ _) (λa _=>i _) (λa _ m _ k c f=>?_),λk c p f e=>?_⟩
  ·obtain⟨l,d,_⟩:=(wa _ _ _).1 c;obtain⟨q,g,_⟩:=(wa _ _ _).1 f;rw[d]at g;simp at g;exact g.1
  ·subst e;obtain⟨a,_,h⟩:=ky.1 f;obtain⟨l,d,_⟩:=(wa _ _ _).1 h;split at c
   ·rw[dB.1 c]at d;have:=congrArg M d;simp at this
   ·simp at c
theorem x7(h:hL b [] y c)(g:c≠[])(i:kb b):AZ b j c↔d8 b-eq b c<j:=by
 have e:=pG h av;rw[fa]at e;constructor
 ·intro d;cases c with
  |nil=>exact absurd rfl g
  |cons a c=>exact d a av
 ·intro d a f;have k:=i _ _ (CH (xF h) a f) (e a f);unfold eq at d;omega
def qL(e:List (List dg))(g:Int)(h:List be):List (Nat×List Nat):=(List.range (M e)).flatMap λf=>(gc h g (hx e f) []).map λi=>(f,i)
theorem OA(u:List (List dg))(j:Int)(b:List be):M (qL u j b)=(u.map λd=>M (gc b j d [])).sum:=by
 unfold qL;rw[EN];congr 1;apply xm
 ·simp
 ·intro a c e;simp at c e;simp[hx,c]
theorem CK(l:kb b):g5 u j b (d8 b) (qL u j b):=by
 refine⟨?_,λd=>?_⟩
 ·unfold qL;refine B2 C1 (λa _=>?_) (λa _ w _ x m o=>?_)
  ·exact GZ _ (λ(p q:List Nat) (r:p≠q) s=>r (by simpa using s)) (Jq _ _)
  ·obtain⟨_,_,rfl⟩:=eG.1 m;obtain⟨_,_,h⟩:=eG.1 o;simpa using(congrArg Prod.fst h).symm
 ·unfold qL;rw[ky];constructor
  ·rintro⟨a,t,h⟩;obtain⟨c,v,rfl⟩:=eG.1 h;obtain⟨y,g,e,f,i,k⟩:=(wa _ _ _).1 v;rw[fa]at g;subst g;exact⟨m8.1 t,⟨e,f,k⟩,(x7 f e l).1 i⟩
  ·rintro⟨g,⟨e,f,k⟩,i⟩;exact⟨d.1,m8.2 g,eG.2 ⟨d.2,(wa _ _ _).2 ⟨d.2,av,e,f,(x7 f e l).2 i,k⟩,rfl⟩⟩
def sX(e:List (List dg))(f:Int)(g:List be):List (List Nat):=e.flatMap λh=>ge g f h []
theorem M_(o:kb b)(s:∀p∈u,p≠[])(c:List Nat):c∈sX u j b↔mv u j b c:=by
 unfold sX mv;rw[ky];constructor
 ·rintro⟨p,q,h⟩;obtain⟨a,g,rfl⟩:=iW q;obtain⟨t,r,d,k,f,l⟩:=(tg _ _ _).1 h;rw[fa]at r;subst r;have i:c≠[]:=by intro e;rw[e]at f;exact s _ q (nx.1 f.symm)
  have m:hx u a=u[a]:=by simp[hx,g]
  exact⟨a,g,by rw[m];exact⟨i,d,f,l⟩,(x7 d i o).1 k⟩
 ·rintro⟨a,g,⟨i,d,f,l⟩,k⟩;have m:hx u a=u[a]:=by simp[hx,g]
  rw[m]at d f;exact⟨u[a],b4 g,(tg _ _ _).2 ⟨c,av,d,(x7 d i o).2 k,f,l⟩⟩
theorem g5.FM(h:g5 u j b w z)(a:g5 u j b w B):M z=M B:=
 Nat.le_antisymm (tS _ _ h.ry λd c=>(a.ld d).2 ((h.ld d).1 c)) (tS _ _ a.ry λd c=>(h.ld d).2 ((a.ld d).1 c))
def dX:List Nat->List Nat->Int
 |[],[]=>0
 |[],_::_=> -1
 |_::_,[]=>1
 |e::g,f::h=>if e<f then -1 else if f<e then 1 else dX g h
theorem RD(a:List Nat):dX a a=0:=by
 induction a with
 |nil=>rfl
 |cons c a b=>simp[dX,b]
theorem Tv:∀{b a:List Nat},dX b a=0->b=a:=by
 intro b
 induction b with
 |nil=>intro a h;cases a with
  |nil=>rfl
  |cons c a=>simp[dX]at h
 |cons d b e=>
  intro a h;cases a with
  |nil=>simp[dX]at h
  |cons c a=>
   unfold dX at h;split at h
   ·simp at h
   ·split at h
    ·simp at h
    ·rw[e h,show d=c by omega]
theorem Fs:∀(b a:List Nat),dX a b=-dX b a:=by
 intro b
 induction b with
 |nil=>intro a;cases a<;>simp[dX]
 |cons e b g=>
  intro a;cases a with
  |nil=>simp[dX]
  |cons f a=>
   unfold dX;by_cases c:e<f
   ·rw[aP c,aH T,aP c];rfl
   ·by_cases d:f<e
    ·rw[aP d,aH c,aP d]
    ·rw[aH d,aH c,aH c,aH d,g]
theorem Rs:∀(b a:List Nat),dX b a= -1\/dX b a=0\/dX b a=1:=by
 intro b
 induction b with
 |nil=>intro a;cases a<;>simp[dX]
 |cons d b c=>
  intro a;cases a with
  |nil=>simp[dX]
  |cons e a=>
   unfold dX;split
   ·exact .inl rfl
   ·split
    ·exact .inr (.inr rfl)
    ·exact c a
def gm(e f:List Nat):Prop:=dX e f<0
instance (bj X:List Nat):Decidable (gm bj X):=inferInstanceAs (Decidable (dX bj X<0))
theorem q3(a:List Nat):¬gm a a:=by unfold gm;rw[RD];omega
theorem tV:∀{e b c:List Nat},gm e b->gm b c->gm e c:=by
 unfold gm;intro e
 induction e with
 |nil=>
  intro b c d a;cases b with
  |nil=>simp[dX]at d
  |cons f b=>
   cases c with
   |nil=>simp[dX]at a
   |cons g c=>simp[dX]
 |cons i e h=>
  intro b c d a;cases b with
  |nil=>simp[dX]at d
  |cons f b=>
   cases c with
   |nil=>simp[dX]at a
   |cons g c=>
    unfold dX at d a⊢;split at d
    ·split at a
     ·rw[aP T];omega
     ·split at a
      ·omega
      ·rw[aP T];omega
    ·split at d
     ·omega
     ·split at a
      ·rw[aP T];omega
      ·split at a
       ·omega
       ·rw[aH T,aH T];exact h d a
theorem Fp(a b:List Nat):gm a b\/a=b\/gm b a:=by
 unfold gm;rcases Rs a b with h|h|h
 ·left;omega
 ·right;left;exact Tv h
 ·right;right;rw[Fs,h];omega
theorem EW{b c:List Nat}(h:¬gm b c)(d:b≠c):gm c b:=by
 rcases Fp b c with a|a|a
 ·exact absurd a h
 ·exact absurd a d
 ·exact a
def h8(e:List (List Nat)):Prop:=e.Pairwise gm
theorem PZ:∀{b x:List (List Nat)},h8 b->h8 x->(∀a,a∈b↔a∈x)->b=x:=by
 intro b
 induction b with
 |nil=>
  intro x _ _ h;cases x with
  |nil=>rfl
  |cons c x=>have:=(h c).2 av;simp at this
 |cons a b k=>
  intro x l m h;cases x with
  |nil=>have:=(h a).1 av;simp at this
  |cons c x=>
   obtain⟨i,o⟩:=sJ.1 l;obtain⟨j,p⟩:=sJ.1 m;have q:a=c:=by
    rcases ek.1 ((h a).1 av)with e|e
    ·exact e
    ·rcases ek.1 ((h c).2 av)with g|g
     ·exact g.symm
     ·exact absurd (tV (i c g) (j a e)) (q3 _)
   subst q;rw[k o p (λf=>?_)];constructor
   ·intro d;rcases ek.1 ((h f).1 (by simp[d]))with e|e
    ·exact absurd (i f d) (e▸q3 _)
    ·exact e
   ·intro d;rcases ek.1 ((h f).2 (by simp[d]))with e|e
    ·exact absurd (j f d) (e▸q3 _)
    ·exact e
def lx(g:List Nat):List (List Nat)->List (List Nat)
 |[]=>[]
 |e::f=>if e=g then lx e f else e::lx e f
def kw:List (List Nat)->List (List Nat)
 |[]=>[]
 |e::f=>e::lx e f
theorem K9:∀(c:List (List Nat)) (a b:List Nat),(b=a\/b∈c)↔(b=a\/b∈lx a c):=by
 intro c
 induction c with
 |nil=>intro a b;simp[lx]
 |cons f c d=>
  intro a b;unfold lx;by_cases e:f=a
  ·subst e;rw[aP rfl,<-d];simp
  ·rw[aH e,ek,ek,d]
theorem Iy(a:List (List Nat))(b:List Nat):b∈kw a↔b∈a:=by
 cases a with
 |nil=>rfl
 |cons c a=>unfold kw;rw[ek,ek];exact(K9 a c b).symm
theorem KF:∀(b:List (List Nat)) (a:List Nat),(a::b).Pairwise (λk l=>¬gm l k)->(a::lx a b).Pairwise gm:=by
 intro b
 induction b with
 |nil=>intro a _;simp[lx]
 |cons c b g=>
  intro a h;obtain⟨m,d⟩:=sJ.1 h;obtain⟨q,r⟩:=sJ.1 d;unfold lx;by_cases e:c=a
  ·subst e;rw[aP rfl];exact g c d
  ·rw[aH e];have i:gm a c:=EW (m c av) e;have j:=g c d;obtain⟨o,s⟩:=sJ.1 j;rw[sJ];refine⟨λp f=>?_,j⟩;rcases ek.1 f with rfl|f
   ·exact i
   ·exact tV i (o p f)
theorem M7(a:List (List Nat))(h:a.Pairwise (λb c=>¬gm c b)):h8 (kw a):=by
 cases a with
 |nil=>exact List.Pairwise.nil
 |cons d a=>exact KF a d h
def DF(e:Option (List Nat))(f:List Nat):Prop:=match e with|none=>True|some g=>gm g f
instance (kj:Option (List Nat)) (bb:List Nat):Decidable (DF kj bb):=by unfold DF;cases kj<;>infer_instance
structure kV (bF:Int) (ad:List be) (af:Int) (b6:Nat):Prop where
 b0:b6<=ad.length
 f3:∀al,al<b6->¬af-(cu ad al).aS<bF
 vF:∀al,b6<=al->al<ad.length->af-(cu ad al).aS<bF
def nh(f:Int)(g:List be)(h:Int):Nat:=g.countP λe=>decide (h-e.aS<f)
theorem jR(h:a<M b):cu b a=b[a]:=by simp[cu,List.getD,h]
theorem kV.fk(h:kV j b w r):nh j b w=M b-r:=by
 unfold nh
 conv=>lhs;rw[<-vi r b]
 rw[List.countP_append];have f:(b.take r).countP (λe=>decide (w-e.aS<j))=0:=by rw[List.countP_eq_zero];intro e c;obtain⟨a,d,rfl⟩:=iW c;simp only[hT]at d;have:=h.f3 a T;rw[jR T]at this;simpa using this
 have g:(b.drop r).countP (λe=>decide (w-e.aS<j))=M (b.drop r):=by rw[List.countP_eq_length];intro e c;obtain⟨a,d,rfl⟩:=iW c;simp only[la]at d;have:=h.vF (r+a) T T;rw[jR T]at this;simpa using this
 rw[f,g,la];omega
def ex(e:Int)(f:Int):List Int->Nat
 |[]=>0
 |g::h=>if f-g<e then 0 else ex e f h+1
theorem tP(j w:Int)(a:List Int):ex j w a<=M a:=by
 induction a with
 |nil=>exact aN _
 |cons c a b=>unfold ex;split<;>simp;omega
theorem Ha(j w:Int):∀(b:List Int) (a:Nat),(h:a<M b)->a<ex j w b->¬w-b[a]<j:=by
 intro b
 induction b with
 |nil=>intro a h;simp at h
 |cons c b e=>
  intro a h d;unfold ex at d;split at d
  ·omega
  ·cases a with
   |zero=>assumption
   |succ a=>exact e a (by simpa using h) T
theorem Bh(j w:Int):∀(a:List Int),(h:ex j w a<M a)->w-a[ex j w a]<j:=by
 intro a
 induction a with
 |nil=>intro h;simp at h
 |cons c a d=>
  intro h;by_cases b:w-c<j
  ·have e:ex j w (c::a)=0:=by unfold ex;rw[aP b]
   simp only[e,pv];exact b
  ·have e:ex j w (c::a)=ex j w a+1:=by
    show(if w-c<j then 0 else ex j w a+1)=_;rw[aH b]
   simp only[e,List.getElem_cons_succ];exact d (by rw[e]at h;simpa using h)
theorem QH(j w:Int)(b:List Int)(k:Nat)(c:k<M b)(d:∀a,(h:a<k)->¬w-b[a]'T<j)(e:w-b[k]<j):ex j w b=k:=by
 have f:¬ex j w b<k:=λh=>d _ h (Bh j w b T)
 have g:¬k<ex j w b:=λh=>Ha j w b k c h e
 omega
theorem Sa(j w:Int)(b:List Int)(c:∀a,(h:a<M b)->¬w-b[a]<j):ex j w b=M b:=by
 have d:¬ex j w b<M b:=λh=>c _ h (Bh j w b h)
 have:=tP j w b;omega
def de(e:List be)(f:Nat):List Int:=(e.drop f).map (·.aS)
theorem pi(b:List be)(r:Nat):M (de b r)=M b-r:=by simp[de]
theorem tc{a:Prop}(h:a:=by rw[pi];omega):a:=h
theorem vp(h:a<M (de b r)):(de b r)[a]=(cu b (r+a)).aS:=by
 have c:r+a<M b:=by rw[pi]at h;omega
 simp[de,jR c]
theorem Ou(b:List be)(r a:Nat):(de b r).drop a=de b (r+a):=by simp[de,<-List.map_drop]
theorem kV.Mk(h:kV j b w r)(c:kb b)(i:w<=A):kV j b A (r+ex j A (de b r)):=by
 have d:=tP j A (de b r);rw[pi]at d;have k:=h.b0;refine⟨T,λa l=>?_,λa e f=>?_⟩
 ·by_cases g:a<r
  ·have:=h.f3 a g;omega
  ·have:=Ha j A (de b r) (a-r) tc T;rw[vp,show r+(a-r)=a by omega]at this;exact this
 ·have:=Bh j A (de b r) tc;rw[vp]at this;have:=c _ _ e f;omega
theorem kV.kp{e:be}(h:kV j b e.aS r)(g:0<j):kV j (b++[e]) e.aS r:=by
 refine⟨by have:=h.b0;simp;omega,λa c=>?_,λa d f=>?_⟩
 ·rw[oX (by have:=h.b0;omega)];exact h.f3 a c
 ·by_cases c:a<M b
  ·rw[oX c];exact h.vF a d c
  ·have:a=M b:=by simp at f;omega
   subst this;rw[nk];omega
theorem kV.jt(j w:Int):kV j [] w 0:=⟨aN _,λa h=>T,λa _ h=>by simp at h⟩
theorem MN(b:List be)(e:be)(r:Nat)(h:r<=M b):de (b++[e]) r=de b r++[e.aS]:=by unfold de;rw[List.drop_append_of_le_length h,dv];rfl
theorem kb.kp{e:be}(h:kb b)(c:b=[]\/d8 b<=e.aS):kb (b++[e]):=by
 intro a d i j;simp only[bV,dT,d5]at j;by_cases f:d<M b
 ·rw[oX f,oX T];exact h a d i f
 ·have:d=M b:=by omega
  subst this;rw[nk];by_cases g:a<M b
  ·rw[oX g];rcases c with rfl|c
   ·simp at g
   ·have:=h a (M b-1) T T;unfold d8 at c;omega
  ·rw[show a=M b by omega,nk];exact zG _
def ff(g:Int)(h:Nat)(e:List be)(f:Int):Nat:=if e≠[]/\f<d8 e then 7 else if h<nh g e f+1 then 8 else 0
theorem B8(h:ff j E b w=0):(b=[]\/d8 b<=w)/\nh j b w+1<=E:=by
 unfold ff at h;split at h
 ·simp at h
 ·rename_i a;split at h
  ·simp at h
  ·refine⟨?_,T⟩;by_cases e:b=[]
   ·exact .inl e
   ·exact .inr (by
     have:¬w<d8 b:=λc=>a ⟨e,c⟩
     omega)
