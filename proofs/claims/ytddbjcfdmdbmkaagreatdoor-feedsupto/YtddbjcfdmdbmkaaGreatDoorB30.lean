import Derived.Test.YtddbjcfdmdbmkaaGreatDoorB28
import Derived.Test.YtddbjcfdmdbmkaaGreatDoorB14
import Derived.Deep.CutRange
set_option linter.all false
set_option maxRecDepth 100000
set_option maxHeartbeats 3200000
namespace Go.Proofs.YtddbjcfdmdbmkaaGreatDoor
open Go.RowKit Go.Proofs.Tryz
open Go.IntKind renaming i64->Q
open Go.Obj renaming cells->aw
open Go.RowKit renaming Hid->ag,intOf->bm
open Go renaming Value->an,World->aq
open Go.Value renaming int->O,slice->U,ownBlock->ap
open _root_.Array renaming size->S
open _root_.ByteArray renaming toList->aJ
open Go.World renaming alloc->ar,cell?->aK,grownBy->b_,heap->R,ownsRow->aY
open List renaming length->M
variable{Z I:List Nat}{B:List aB}{D:eU}{d q:Int×Nat}{j c E N W b1 k a x gf:Nat}{ah:List Nat->Nat×Nat}{r:List cA}{aC:List eV}{b:cA}{o:aB}{L G:aq}{A u:Nat->Nat}{H:an}{K:cH}{z F:au}{gj:List (List Nat)}{gg:List an}{J:List (Nat×List Nat)}
inductive cP {bD yw:Type} (aQ:bD->yw->Prop):List bD->List yw->Prop
 |cL:cP aQ [] []
 |d7 {bj:bD} {X:yw} {Z:List bD} {cO:List yw}:aQ bj X->cP aQ Z cO->cP aQ (bj::Z) (X::cO)
theorem cP.lo{bD a:Type}{q:bD->a->Prop}{Z:List bD}{D:List a}(h:cP q Z D):M Z=M D:=by
 induction h with
 |cL=>rfl
 |d7 _ _ b=>simp[b]
theorem cP.me{bD a:Type}{q sH:bD->a->Prop}{Z:List bD}{D:List a}(h:cP q Z D)(b:∀d j,d∈Z->j∈D->q d j->sH d j):cP sH Z D:=by
 induction h with
 |cL=>exact .cL
 |d7 c _ e=>exact .d7 (b _ _ av av c) (e λd j f g=>b d j (by simp[f]) (by simp[g]))
theorem cP.C{bD a:Type}{q:bD->a->Prop}{Z b:List bD}{D c:List a}(h:cP q Z D)(d:cP q b c):cP q (Z++b) (D++c):=by
 induction h with
 |cL=>exact d
 |d7 e _ f=>exact .d7 e f
theorem cP.Hp{bD a b c:Type}{q:bD->a->Prop}{sH:b->c->Prop}{ah:bD->b}{N:a->c}{Z:List bD}{D:List a}(h:cP q Z D)(e:∀d j,q d j->sH (ah d) (N j)):cP sH (Z.map ah) (D.map N):=by
 induction h with
 |cL=>exact .cL
 |d7 f _ g=>exact .d7 (e _ _ f) g
theorem cP.Gx{bD a b c:Type}{q:bD->a->Prop}{e:b->c->Prop}{ah:bD->List b}{N:a->List c}{Z:List bD}{D:List a}(h:cP q Z D)(f:∀d j,q d j->cP e (ah d) (N j)):cP e (Z.flatMap ah) (D.flatMap N):=by
 induction h with
 |cL=>exact .cL
 |d7 g _ i=>rw[ni,ni];exact(f _ _ g).C i
theorem h7.ob{q:Nat->aB->Prop}(h:h7 q Z B):cP q Z B:=by
 induction Z generalizing B with
 |nil=>
  cases B with
  |nil=>exact .cL
  |cons _ _=>have:=h.1;simp at this
 |cons k Z a=>
  cases B with
  |nil=>have:=h.1;simp at this
  |cons o B=>refine .d7 (h.2 0 k o rfl rfl) (a ⟨by have:=h.1;simpa using this,λb c d e f=>h.2 (b+1) c d (by simpa using e) (by simpa using f)⟩)
theorem kN.ob{q:Nat->aB->Prop}{Z:List (List Nat)}{B:List (List aB)}(h:kN q Z B):cP (cP q) Z B:=by
 induction Z generalizing B with
 |nil=>
  cases B with
  |nil=>exact .cL
  |cons _ _=>have:=h.1;simp at this
 |cons k Z a=>
  cases B with
  |nil=>have:=h.1;simp at this
  |cons o B=>refine .d7 (h.2 0 k o rfl rfl).ob (a ⟨by have:=h.1;simpa using this,λb c d e f=>h.2 (b+1) c d (by simpa using e) (by simpa using f)⟩)
def iv(e f g:Nat):Prop:=f=g\/(e<f/\e<g)
theorem iv.ki{D d:Nat}(h:iv D d j)(a:iv D c E):iv D (d+c) (j+E):=by unfold iv at*;omega
theorem iv.TH{D d:Nat}(h:iv D d j)(a:iv D c E)(b:1<=d)(e:1<=j)(f:1<=c)(g:1<=E):iv D (d*c) (j*E):=by
 have i:d<=d*c:=w_ _ f;have k:j<=j*E:=w_ _ g;have l:c<=d*c:=vR _ b;have m:E<=j*E:=vR _ e;rcases h with h|h
 ·rcases a with a|a
  ·left;rw[h,a]
  ·right;omega
 ·right;omega
def sR(e f:Nat×Nat):Prop:=iv 16 e.1 f.1/\iv 8 e.2 f.2/\1<=e.1/\1<=f.1
theorem O5{N:List aB->Nat×Nat}{q:Nat->aB->Prop}{a:List (List Nat)}{b:List (List aB)}(h:cP (cP q) a b)(g:∀Z c,Z∈a->c∈b->cP q Z c->sR (ah Z) (N c)):
 ∀d j:Nat×Nat,iv 16 d.1 j.1->iv 8 d.2 j.2->iv 16 (a.foldl (fp ah) d).1 (b.foldl (λd c=>(d.1+(N c).1,max d.2 (N c).2)) j).1/\iv 8 (a.foldl (fp ah) d).2 (b.foldl (λd c=>(d.1+(N c).1,max d.2 (N c).2)) j).2/\
  d.1<=(a.foldl (fp ah) d).1/\j.1<=(b.foldl (λd c=>(d.1+(N c).1,max d.2 (N c).2)) j).1/\(a≠[]->d.1+1<=(a.foldl (fp ah) d).1/\j.1+1<=(b.foldl (λd c=>(d.1+(N c).1,max d.2 (N c).2)) j).1):=by
 induction h with
 |cL=>intro d j f i;exact⟨f,i,aN _,aN _,λe=>absurd rfl e⟩
 |@d7 Z c a b f _ k=>
  intro d j l z;rw[hc,hc];obtain⟨m,A,B,C⟩:=g Z c av av f;have o:iv 16 (fp ah d Z).1 (j.1+(N c).1):=l.ki m;have p:iv 8 (fp ah d Z).2 (max j.2 (N c).2):=by unfold fp;simp only;unfold iv at*;split<;>omega
  obtain⟨r,s,t,u,_⟩:=k (λZ c v w=>g Z c (by simp[v]) (by simp[w])) (fp ah d Z) (j.1+(N c).1,max j.2 (N c).2) o p;have x:(fp ah d Z).1=d.1+(ah Z).1:=rfl;have y:(j.1+(N c).1,max j.2 (N c).2).1=j.1+(N c).1:=rfl;rw[x]at t;rw[y]at u;exact⟨r,s,T,T,λ_=>⟨T,T⟩⟩
theorem JZ{N:List aB->Nat×Nat}{q:Nat->aB->Prop}(t:∀k o,q k o->∃b,r[k]?=some b/\((b.br=[]/\o.cv=[]/\((b.en=true/\o.bG=0)\/(b.en=false/\b.bG=o.bG)))\/
 (b.br≠[]/\∃f,cP (cP f) b.br o.cv/\∀Z c,Z∈b.br->c∈o.cv->cP f Z c->sR (ah Z) (N c)))) {Z:List Nat} {B:List aB} (h:cP q Z B):
 ∀d j:Nat×Nat,sR d j->sR (Z.foldl (iL r ah) d) (B.foldl (n0 N) j):=by
 induction h with
 |cL=>intro d j h;exact h
 |@d7 k o Z B u _ v=>
  intro d j w;rw[hc,hc];apply v;obtain⟨b,m,x⟩:=t k o u;obtain⟨y,g,p,z⟩:=w;rcases x with⟨a,A,e⟩|⟨a,f,s,C⟩
  ·rw[F8 m (by rw[a];rfl)];have i:eP N o=(1,o.bG):=by unfold eP;rw[aP (by rw[A];rfl)]
   unfold n0;rw[i];simp only[Nat.mul_one];refine⟨?_,?_,p,by show 1<=min j.1 17;omega⟩
   ·unfold iv at*;show _\/_;omega
   ·rcases e with⟨e,l⟩|⟨e,l⟩
    ·rw[e,l];simpa using g
    ·rw[e,l];simp only[rc,lh,GY];exact g.ki (.inl rfl)
  ·have D:¬(M b.br)=0:=by simpa using a
   rw[Fj m D];have E:o.cv.isEmpty=false:=by
    have:=s.lo;cases F:o.cv with
    |nil=>rw[F]at this;simp at this;exact absurd this a
    |cons _ _=>rfl
   have i:eP N o=o.cv.foldl (λd c=>(d.1+(N c).1,max d.2 (N c).2)) (0,0):=by unfold eP;rw[aH (by rw[E];decide)]
   unfold n0;rw[i];obtain⟨G,H,_,_,I⟩:=O5 s C (0,0) (0,0) (.inl rfl) (.inl rfl);obtain⟨P,gf⟩:=I a;generalize b.br.foldl (fp ah) (0,0)=J at*;generalize o.cv.foldl (λd c=>(d.1+(N c).1,max d.2 (N c).2)) (0,0)=K at*;have gg:=y.TH G p z T T;have gj:1<=d.1*J.1:=Nat.mul_pos T T;have gC:1<=j.1*K.1:=Nat.mul_pos T T;have gE:=g.ki H;refine⟨?_,?_,?_,?_⟩
   ·simp only;unfold iv at*;split<;>omega
   ·simp only;unfold iv at*;split<;>omega
   ·simp only;split<;>omega
   ·simp only;omega
theorem Sk(q:∀(i:Nat) (b:cA),r[i]?=some b->∀Z∈b.br,∀k∈Z,k<i):∀(W f:Nat) (Z:List Nat) (B:List aB),cP (fB aC r W) Z B->(∀k∈Z,k<f)->sR (dy r f Z) (ce (W+1) B):=by
 intro W
 induction W with
 |zero=>
  intro f Z B h _;cases h with
  |cL=>cases f<;>exact⟨.inl rfl,.inl rfl,by simp[dy],by simp[ce]⟩
  |d7 h _=>exact h.elim
 |succ W s=>
  intro f Z B h l;cases f with
  |zero=>
   cases h with
   |cL=>exact⟨.inl rfl,.inl rfl,by simp[dy],by simp[ce]⟩
   |@d7 k _ _ _ _ _=>have:=l k av;omega
  |succ f=>
   show sR (Z.foldl (iL r (dy r f)) (1,0)) (B.foldl (n0 (ce (W+1))) (1,0));have t:cP (λk o=>fB aC r (W+1) k o/\k<f+1) Z B:=h.me (λk o u _ v=>⟨v,l k u⟩);refine JZ ?_ t _ _ ⟨.inl rfl,.inl rfl,av,av⟩;rintro k o ⟨⟨b,m,w⟩,C⟩;refine⟨b,m,?_⟩;rcases w with g|⟨_,_,p,x⟩
   ·refine .inl ⟨g.br,g.cv,?_⟩;rcases g.hC with⟨d,_,j,_⟩|⟨d,_,j⟩
    ·exact .inl ⟨d,j⟩
    ·exact .inr ⟨d,j⟩
   ·refine .inr ⟨λe=>by rw[e]at p;simp at p,_,x.ob,λZ c y _ z=>s f Z c z (λa A=>?_)⟩;have:=q k b m Z y a A;omega
theorem GN(d:∀(c:Nat) (b:cA),r[c]?=some b->∀Z∈b.br,∀k∈Z,k<c){a:Nat}(h:h7 (fB aC r W) Z B)(e:∀k∈Z,k<a):
 jE (W+1) B=(decide (16<(dy r a Z).1)||decide (8<(dy r a Z).2)):=by
 obtain⟨f,g,_⟩:=Sk d W a Z B h.ob e;unfold jE;unfold iv at f g;congr 1<;>(simp only[wM];omega)
def lp(e f:List (List Nat)):List (List Nat):=e.flatMap λg=>f.map λh=>g++h
def hD(g:List Nat->List (List Nat))(h:List cA)(e:Nat):List (List Nat):=
 match h[e]? with
 |none=>[[e]]
 |some f=>if(M f.br)=0 then [[e]]else f.br.flatMap g
def dD(e:List cA):Nat->List Nat->List (List Nat)
 |0,_=>[[]]
 |f+1,g=>g.foldl (λh i=>lp h (hD (dD e f) e i)) [[]]
def p9(e:aB):List aB:=if cW e then List.replicate e.bG e else [e]
def ko(f:List eV)(g:List cA)(h:Nat)(i:aB):Prop:=∃e,g[h]?=some e/\sF f e i
def k6(f:List eV)(g:List cA)(h:List Nat)(i:List aB):Prop:=∃e,cP (ko f g) h e/\i=e.flatMap p9
theorem KM{a b:List (List Nat)}{c e:List (List aB)}(h:cP (k6 aC r) a c)(f:cP (k6 aC r) b e):cP (k6 aC r) (lp a b) (hW c e):=by unfold lp hW;refine h.Gx (λd o g=>f.Hp (λj p i=>?_));obtain⟨B,k,rfl⟩:=g;obtain⟨l,m,rfl⟩:=i;exact⟨B++l,k.C m,by rw[nV]⟩
theorem SM(c:sF aC b o)(d:List aB->List (List aB)):fd d o=[p9 o]:=by
 unfold fd p9;by_cases a:cW o=true
 ·rw[aP a,aP a]
 ·rw[aH a,aH a,aP (by rw[c.cv];rfl)]
theorem uu(u:∀(p:Nat) (b:cA),r[p]?=some b->∀Z∈b.br,∀k∈Z,k<p):∀(W e:Nat) (Z:List Nat) (B:List aB),cP (fB aC r W) Z B->(∀k∈Z,k<e)->cP (k6 aC r) (dD r e Z) (c3 (W+1) B):=by
 have f:cP (k6 aC r) [[]] [[]]:=.d7 ⟨[],.cL,rfl⟩ .cL;intro W
 induction W with
 |zero=>
  intro e Z B h _;cases h with
  |cL=>cases e<;>exact f
  |d7 h _=>exact h.elim
 |succ W v=>
  intro e Z B h g;cases e with
  |zero=>
   cases h with
   |cL=>exact f
   |@d7 k _ _ _ _ _=>have:=g k av;omega
  |succ e=>
   show cP (k6 aC r) (Z.foldl (λi k=>lp i (hD (dD r e) r k)) [[]]) (B.foldl (λall o=>hW all (fd (c3 (W+1)) o)) [[]]);have w:cP (λk o=>fB aC r (W+1) k o/\k<e+1) Z B:=h.me (λk o q _ x=>⟨x,g k q⟩);clear h g
   suffices y:∀d j,cP (k6 aC r) d j->cP (k6 aC r) (Z.foldl (λi k=>lp i (hD (dD r e) r k)) d) (B.foldl (λall o=>hW all (fd (c3 (W+1)) o)) j)from y _ _ f
   induction w with
   |cL=>intro d j h;exact h
   |@d7 k o Z B z _ A=>
    intro d j C;rw[hc,hc];refine A _ _ (KM C ?_);obtain⟨⟨b,l,D⟩,q⟩:=z;unfold hD;rw[l];simp only;rcases D with m|⟨_,E,s,t⟩
    ·rw[aP (by rw[m.br];rfl),SM m];exact .d7 ⟨[o],.d7 ⟨b,l,m⟩ .cL,av⟩ .cL
    ·rw[aH T];have F:cW o=false:=by unfold cW;rw[E];rfl
     have G:o.cv.isEmpty=false:=by
      have:=t.1;cases H:o.cv with
      |nil=>rw[H]at this;simp at this;rw[this]at s;simp at s
      |cons _ _=>rfl
     unfold fd;rw[aH (by rw[F];decide),aH (by rw[G];decide)];have I:cP (λZ c=>cP (fB aC r W) Z c/\∀a∈Z,a<e) b.br o.cv:=t.ob.me (λZ c J _ K=>⟨K,λa P=>by have:=u k b l Z J a P;omega⟩);exact I.Gx (λZ c h=>v e Z c h.1 h.2)
def cx(e:Int×Nat)(f:Int×Nat):Int×Nat:=if 0<=f.1/\(e.1<0\/f.1<e.1)then f else e
def hv(g:Int×Nat->Prop)(f:Int×Nat):Prop:=(f.1<0/\∀e,g e->e.1<0)\/(0<=f.1/\g f/\∀e,g e->0<=e.1->f.1<=e.1)
theorem w5{i:Int×Nat->Prop}(h:hv i d)(c:Int×Nat):hv (λb=>i b\/b=c) (cx d c):=by
 unfold cx;split
 ·rename_i j;refine .inr ⟨j.1,.inr rfl,λb a e=>?_⟩;rcases a with a|rfl
  ·rcases h with⟨_,h⟩|⟨_,_,h⟩
   ·have:=h b a;omega
   ·have:=h b a e;omega
  ·omega
 ·rename_i j;rcases h with⟨f,g⟩|⟨f,g,k⟩
  ·refine .inl ⟨f,λb a=>?_⟩;rcases a with a|rfl
   ·exact g b a
   ·omega
  ·refine .inr ⟨f,.inl g,λb a e=>?_⟩;rcases a with a|rfl
   ·exact k b a e
   ·omega
theorem hv.kr{f g:Int×Nat->Prop}(h:hv f q)(a:∀b,f b↔g b):hv g q:=by
 rcases h with⟨c,d⟩|⟨c,d,i⟩
 ·exact .inl ⟨c,λb e=>d b ((a b).2 e)⟩
 ·exact .inr ⟨c,(a q).1 d,λb e=>i b ((a b).2 e)⟩
theorem QI{a:Int×Nat->Prop}(h:hv a d)(Z:List (Int×Nat)):hv (λb=>a b\/b∈Z) (Z.foldl cx d):=by
 induction Z generalizing a d with
 |nil=>exact h.kr av
 |cons c Z e=>rw[hc];exact(e (w5 h c)).kr (by intro b;simp[or_assoc])
theorem BA:hv (λ_=>False) ((-1:Int),0):=.inl ⟨av,λ_ h=>h.elim⟩
theorem Dg(Z:List (Int×Nat)):hv (λb=>b∈Z) (Z.foldl cx (-1,0)):=(QI BA Z).kr av
theorem H5{k l:Int×Nat->Prop}{c:Int×Nat}(h:hv k d)(i:hv l c):hv (λb=>k b\/l b) (cx d c):=by
 have p:=w5 h c;rcases p with⟨g,e⟩|⟨g,e,m⟩
 ·refine .inl ⟨g,λb a=>?_⟩;rcases a with a|a
  ·exact e b (.inl a)
  ·rcases i with⟨_,f⟩|⟨j,_,_⟩
   ·exact f b a
   ·have:=e c (.inr rfl);omega
 ·refine .inr ⟨g,?_,λb a o=>?_⟩
  ·rcases e with e|e
   ·exact .inl e
   ·rcases i with⟨j,_⟩|⟨_,f,_⟩
    ·rw[e]at g;omega
    ·rw[e];exact .inr f
  ·rcases a with a|a
   ·exact m b (.inl a) o
   ·rcases i with⟨_,f⟩|⟨j,_,q⟩
    ·have:=f b a;omega
    ·have:=m c (.inr rfl) j;have:=q b a o;omega
def oe(g:Nat×Nat->Prop)(f:Nat×Nat):Prop:=(f=(0,0)/\∀e,g e->e.2=0)\/(f.2≠0/\g f/\∀e,g e->e.2≠0->f.1<=e.1)
theorem RA{j:Nat×Nat->Prop}{d:Nat×Nat}(h:oe j d)(c:Nat×Nat):oe (λb=>j b\/b=c) (lV d c):=by
 unfold lV;split
 ·rename_i f;refine .inr ⟨f.1,.inr rfl,λb a g=>?_⟩;rcases a with a|rfl
  ·rcases h with⟨e,h⟩|⟨e,_,h⟩
   ·exact absurd (h b a) g
   ·have:=h b a g;omega
  ·omega
 ·rename_i f;rcases h with⟨e,i⟩|⟨e,i,l⟩
  ·refine .inl ⟨e,λb a=>?_⟩;rcases a with a|rfl
   ·exact i b a
   ·rw[e]at f;apply vd;intro k;exact f ⟨k,.inl rfl⟩
  ·refine .inr ⟨e,.inl i,λb a g=>?_⟩;rcases a with a|rfl
   ·exact l b a g
   ·apply vd;intro k;exact f ⟨g,.inr T⟩
theorem oe.kr{f g:Nat×Nat->Prop}{q:Nat×Nat}(h:oe f q)(a:∀b,f b↔g b):oe g q:=by
 rcases h with⟨c,d⟩|⟨c,d,i⟩
 ·exact .inl ⟨c,λb e=>d b ((a b).2 e)⟩
 ·exact .inr ⟨c,(a q).1 d,λb e=>i b ((a b).2 e)⟩
theorem KT(ah:List aB->Nat->Nat×Nat)(Z:List aB){g:Nat×Nat->Prop}{d:Nat×Nat}(h:oe g d):∀a,oe (λb=>g b\/∃f,f<a/\b=ah Z f) (nl ah Z d a):=by
 intro a
 induction a with
 |zero=>exact h.kr av
 |succ a i=>
  refine(RA i (ah Z a)).kr (λb=>?_);constructor
  ·rintro((c|⟨f,x,c⟩)|c)
   ·exact .inl c
   ·exact .inr ⟨f,T,c⟩
   ·exact .inr ⟨a,T,c⟩
  ·rintro(c|⟨f,x,c⟩)
   ·exact .inl (.inl c)
   ·by_cases e:f=a
    ·subst e;exact .inr c
    ·exact .inl (.inr ⟨f,T,c⟩)
theorem yq(ah:List aB->Nat->Nat×Nat)(B:List (List aB)):oe (λb=>∃Z∈B,∃a,a<M Z/\b=ah Z a) (f_ ah B):=by
 unfold f_ nv;rw[eQ];have e:∀(B:List (List aB)) (c:Nat×Nat->Prop) (d:Nat×Nat),oe c d->oe (λb=>c b\/∃Z∈B,∃a,a<M Z/\b=ah Z a) (B.foldl (λd Z=>nl ah Z d (M Z)) d):=by
  intro B
  induction B with
  |nil=>intro c d h;exact h.kr av
  |cons Z B f=>intro c d h;rw[hc];refine(f _ _ (KT ah Z h (M Z))).kr (λb=>?_);simp only[ek,exists_eq_or_imp,or_assoc]
 exact(e B (λ_=>False) (0,0) (.inl ⟨rfl,λ_ h=>h.elim⟩)).kr av
theorem Gd{i:Int×Nat->Prop}{m:Nat×Nat->Prop}{b:Nat×Nat}(h:hv i q)(a:oe m b)(o:∀E,m E->E.2≠0->i ((E.1:Int),E.2))(t:∀c,i c->0<=c.1->∃E,m E/\E.2≠0/\(E.1:Int)<=c.1)
 (u:∀c p,i c->i p->0<=c.1->c.1=p.1->c.2=p.2):(q.1<0/\b.2=0)\/(0<=q.1/\b.2≠0/\q=((b.1:Int),b.2)):=by
 rcases h with⟨k,l⟩|⟨k,l,v⟩
 ·left;refine⟨k,?_⟩;rcases a with⟨f,_⟩|⟨f,g,_⟩
  ·rw[f]
  ·have:=l _ (o b g f);simp at this;omega
 ·right;obtain⟨E,r,s,y⟩:=t q l k;rcases a with⟨f,g⟩|⟨f,g,w⟩
  ·exact absurd (g E r) s
  ·refine⟨k,f,?_⟩;have d:=w E r s;have j:=v _ (o b g f) av;simp only at j;have e:q.1=(b.1:Int):=T;have x:=u q _ l (o b g f) k e;exact yG e x
def eT(g:Nat->Nat)(L:aq)(h:Nat->Nat)(f:aq):Prop:=S (R L)<=S (R f)/\∀e,e<S (R L)->g e=7->h e=7/\(R f)[e]?=(R L)[e]?
theorem eT.l(A:Nat->Nat)(L:aq):eT A L A L:=⟨aN _,λ_ _ h=>⟨h,rfl⟩⟩
theorem eT.trans{d j c:Nat->Nat}{f:aq}(h:eT d L j G)(a:eT j G c f):eT d L c f:=
 ⟨bS h.1 a.1,λb x e=>⟨(a.2 b (cI x h.1) (h.2 b x e).1).1,((a.2 b (cI x h.1) (h.2 b x e).1).2).trans (h.2 b x e).2⟩⟩
theorem aU.w(h:aU A L u G):eT A L u G:=⟨h.b5,λa b c=>⟨(h.ci a b).trans c,h.db.iA a ⟨b,by rw[c];exact aN _⟩⟩⟩
theorem cZ.w(h:cZ A L H Z)(a:eT A L u G):cZ u G H Z:=by obtain⟨⟨W,h⟩,c⟩:=h;exact⟨⟨W,cw h λN b=>(a.2 N (h.lt N b).2 (c N b)).2⟩,λN b=>(a.2 N (h.lt N b).2 (c N b)).1⟩
theorem dZ.w{Z:List (List Nat)}(h:dZ A L H Z)(a:eT A L u G):dZ u G H Z:=by obtain⟨gg,h,c,d,x⟩:=h;exact⟨gg,cw h λN b=>(a.2 N (h.lt N b).2 (c N b)).2,λN b=>(a.2 N (h.lt N b).2 (c N b)).1,d,λe f g=>(x e f g).w a⟩
theorem aL.w{c:Array an}{K:TypeId}(h:aL L j c K)(f:A j=7)(a:eT A L u G):aL G j c K/\u j=7:=⟨h.d (a.2 j h.am f).2,(a.2 j h.am f).1⟩
structure ei (ab:Nat->Nat) (L:aq) (X:Nat) (cO:eU) (V:au) (bl:Nat->Nat) (wr:aq):Prop where
 aV:bQ bl wr X cO V
 bo:aU ab L bl wr
theorem ei.bT{wr:aq}(h:ei A L j D z u wr)(d:b_ wr G none)(k:S (R wr)<=N)(c:Nat):ei A L j D z (aO u N c) G/\eT u wr (aO u N c) G:=by
 have f:∀a,a<S (R wr)->aO u N c a=u a:=λa b=>cR _ _ _ _ T
 have g:∀a,a<S (R wr)->(R G)[a]?=(R wr)[a]?:=λa b=>d.block a b av
 refine⟨⟨(h.aV.kx f).g1 d,⟨λa b=>(f a (cI b h.bo.b5)).trans (h.bo.ci a b),?_⟩⟩,d.size,λa b i=>⟨(f a b).trans i,g a b⟩⟩;exact h.bo.db.dj d (λa b=>cI b.1 h.bo.b5) (λa e=>by cases e)
theorem ei.y{wr:aq}(h:ei A L j D z u wr)(b:b_ wr G none):ei A L j D z u G/\eT u wr u G:=
 ⟨⟨h.aV.g1 b,⟨h.bo.ci,h.bo.db.dj b (λa c=>cI c.1 h.bo.b5) (λa e=>by cases e)⟩⟩,b.size,λa c d=>⟨d,b.block a c av⟩⟩
theorem ei.C{wr:aq}(h:ei A L j D z u wr)(F:aY wr 0 48 1 H (M gj) gg)(g:∀N,ap H=some N->u N=9/\S (R L)<=N)(o:M gg=M gj)(p:∀b,(h:b<M gg)->(q:b<M gj)->cZ u wr gg[b] gj[b]){jL:List an}{ct:List (List Nat)}(r:M jL=M ct)(s:∀b,(h:b<M jL)->(q:b<M ct)->cZ u wr jL[b] ct[b])(t:aY G 0 48 1 (U (some ⟨N,0,none⟩) (M gj+M ct) b1) (M gj+M ct) (gg++jL))(d:b_ wr G (ap H))(f:ap H=some N\/N=S (R wr)):
 ei A L j D z (aO u N 9) G/\eT u wr (aO u N 9) G/\jA (aO u N 9) G (U (some ⟨N,0,none⟩) (M gj+M ct) b1) (gj++ct) (S (R L)):=by
 have i:∀a,ap H=some a->u a=9:=λa c=>(g a c).1
 have v:S (R L)<=N:=by
  rcases f with e|e
  ·exact(g N e).2
  ·have:=h.bo.b5;omega
 have c:eT u wr (aO u N 9) G:=by
  refine⟨d.size,λa c k=>?_⟩;have w:a≠N:=λe=>by
   rcases f with l|l
   ·have:=i N l;rw[<-e,k]at this;cases this
   ·omega
  refine⟨(cR _ _ _ _ w).trans k,d.block a c (λe=>?_)⟩;have:=i a e.symm;rw[k]at this;cases this
 refine⟨⟨h.aV.nG 9 ak i d f,h.bo.nG 9 d (λa c=>(g a c).2) f⟩,c,gg++jL,by simpa using t,λa e=>by cases e;exact⟨cy _ _ _,v⟩,by simp[o,r],?_⟩;intro b B E;by_cases x:b<M gg
 ·have m:b<M gj:=by omega
  rw[iz x,iz m];exact(p b x m).w c
 ·simp only[bV]at B E;rw[iV T,iV T];have e:b-(M gg)=b-(M gj):=T;simp only[e];exact(s (b-(M gj)) T T).w c
theorem ei.mO{wr:aq}(h:ei A L j D z u wr){Z:List (List Nat)}(i:jA u wr H Z (S (R L))):∃c,ei A L j D z c wr/\eT u wr c wr/\dZ c wr H Z:=by
 obtain⟨gg,f,k,g,x⟩:=i;cases d:ap H with
 |none=>exact⟨u,h,eT.l _ _,gg,f,(λN e=>by rw[d]at e;cases e),g,x⟩
 |some N=>
  obtain⟨q,r⟩:=k N d;have b:eT u wr (aO u N 7) wr:=⟨aN _,λa _ l=>⟨by
   by_cases e:a=N
   ·subst e;exact cy _ _ _
   ·rw[cR _ _ _ _ e];exact l,rfl⟩⟩
  refine⟨aO u N 7,⟨h.aV.mR 7 T,⟨λa b=>(cR _ _ _ _ T).trans (h.bo.ci a b),h.bo.db⟩⟩,b,gg,f,(λs e=>by rw[d]at e;cases e;exact cy _ _ _),g,λm o p=>(x m o p).w b⟩
theorem O0{d e:aq}(b:b_ L d none)(c:b_ d e (some N))(g:S (R L)<=N):b_ L e none:=
 ⟨c.os.trans b.os,c.tape.trans b.tape,c.output.trans b.output,bS b.size c.size,λa f _=>(c.block a (cI f b.size) b7).trans (b.block a f av)⟩
theorem ei.nj{wr:aq}(h:ei A L j D z u wr)(b:b_ wr G none)(c:S (R wr)<=N)(f:aY G 0 3 1 (U (some ⟨N,0,none⟩) W b1) W (Z.map λW:Nat=>O Q (W:Int))):
 ei A L j D z (aO u N 7) G/\eT u wr (aO u N 7) G/\cZ (aO u N 7) G (U (some ⟨N,0,none⟩) W b1) Z:=by
 obtain⟨d,a⟩:=h.bT b c 7;exact⟨d,a,⟨W,f⟩,λa e=>by cases e;exact cy _ _ _⟩
theorem cZ.pR(h:cZ A L H Z)(b:Z≠[]):∃N c,H=U (some ⟨N,0,none⟩) (M Z) c/\N<S (R L)/\∀k a,(Z.map λW:Nat=>O Q (W:Int))[k]?=some a->aK L ((⟨N,0,none⟩:Addr).add k)=some a:=by
 obtain⟨⟨W,h⟩,_⟩:=h;have d:W=M Z:=by have:=h.1;simp at this;exact this.symm
 subst d;obtain⟨N,c,rfl,_,e⟩:=h.form (lw.2 b);exact⟨N,c,rfl,e,λk a f=>h.cells (g:=N) rfl k a f⟩
theorem dZ.pR{Z:List (List Nat)}(h:dZ A L H Z)(e:0<M Z):∃N c,∃gg:List an,H=U (some ⟨N,0,none⟩) (M Z) c/\N<S (R L)/\M gg=M Z/\(∀k a,gg[k]?=some a->aK L ((⟨N,0,none⟩:Addr).add k)=some a)/\(∀a∈gg,a.oneCell'=true)/\∀b,(h:b<M gg)->(l:b<M Z)->cZ A L gg[b] Z[b]:=by obtain⟨gg,h,m,f,x⟩:=h;obtain⟨N,c,rfl,_,i⟩:=h.form e;refine⟨N,c,gg,rfl,i,f,λk a d=>h.cells (g:=N) rfl k a d,λa d=>?_,x⟩;obtain⟨b,j,rfl⟩:=qQ.1 d;exact(x b j T).kS
theorem ei.bg{f g:Nat->Nat}{wr e i:aq}(x:ei A L j D z g e)(t:eT f wr g e)(B:∀a,a<S (R wr)->g a=f a)(E:aY wr 0 48 1 H (M gj) gg)(F:aY e 0 48 1 H (M gj) gg)(u:∀N,ap H=some N->f N=9/\S (R L)<=N)(G:M gg=M gj)(I:∀b,(h:b<M gg)->(gF:b<M gj)->cZ f wr gg[b] gj[b]){m:an}{q:List Nat}(J:cZ g e m q){o:Obj}{k v:Nat}(K:aY i 0 48 1 (U (some ⟨k,0,none⟩) (M gj+1) v) (M gj+1) (gg++[m]))(P:b_ (ar e o) i (ap H))(gf:ap H=some k\/k=S (R e)+1):
 ∃p,ei A L j D z p i/\eT f wr p i/\jA p i (U (some ⟨k,0,none⟩) (M gj+1) v) (gj++[q]) (S (R L)):=by
 obtain⟨gC,r⟩:=x.y (fv e o none);have gE:∀N,ap H=some N->g N=9/\S (R L)<=N:=λN s=>⟨(B N (E.lt N s).2).trans (u N s).1,(u N s).2⟩
 obtain⟨d,a,c⟩:=gC.C (F.alloc o) gE G (λb l w=>((I b l w).w t).w r) (jL:=[m]) (ct:=[q]) rfl (λb l w=>by
  have:b=0:=by simp at l;exact l
  subst this;exact J.w r) K P (by rw[hQ];exact gf)
 exact⟨_,d,(t.trans r).trans a,c⟩
def jl(L e:Int):Int:=if L<0\/e<L then e else L
theorem Cp(L o:Int)(a:0<=o):jl L o=(cx (L,0) (o,0)).1:=by unfold jl cx;simp only[a,true_and];split<;>rfl
def g0(f:Nat):Nat->List (Nat×List Nat)×List Nat->List (Nat×List Nat)×List Nat
 |0,e=>e
 |g+1,e=>((g0 f g e).1++[(f,(g0 f g e).2)],[])
def gK(h:List cA)(e:List (Nat×List Nat)×List Nat×Int)(f:Nat):List (Nat×List Nat)×List Nat×Int:=
 match h[f]? with
 |none=>e
 |some g=>if g.en then(e.1,e.2.1++[f],if(M e.1)=0 then jl e.2.2 g.a1 else e.2.2)
  else((g0 f g.bG.toNat (e.1,e.2.1)).1,(g0 f g.bG.toNat (e.1,e.2.1)).2,e.2.2)
def nU(e:List cA)(L:Int)(N:Nat):Int:=match e[N]? with|none=>L|some f=>jl L f.a1
def dI(e:List cA)(f:List Nat):List (Nat×List Nat)×Int:=
 ((f.foldl (gK e) ([],[], -1)).1,(f.foldl (gK e) ([],[], -1)).2.1.foldl (nU e) (f.foldl (gK e) ([],[], -1)).2.2)
def iM(e:List (aB×List aB)×List aB)(f:aB):List (aB×List aB)×List aB:=if cW f then(e.1++[(f,e.2)],[])else(e.1,e.2++[f])
def dM(e:List aB):List (aB×List aB)×List aB:=e.foldl iM ([],[])
def m4(f:List eV)(g:List cA)(h:Nat×List Nat)(e:aB×List aB):Prop:=ko f g h.1 e.1/\cP (ko f g) h.2 e.2
def kq(f:List (aB×List aB)×List aB):List aB:=match f.1 with|[]=>f.2|e::_=>e.2
structure tF (aC:List eV) (aj:List cA) (zz:List (Nat×List Nat)×List Nat×Int) (a8:List (aB×List aB)×List aB):Prop where
 cz:cP (m4 aC aj) zz.1 a8.1
 iw:cP (ko aC aj) zz.2.1 a8.2
 c8:hv (λaE=>aE.2=0/\∃N∈kq a8,aE.1=(N.aX:Int)) (zz.2.2,0)
theorem KD(J:List (aB×List aB))(o:aB)(left dt:List aB):kq (J++[(o,left)],dt)=kq (J,left):=by cases J<;>rfl
theorem QV(e:ko aC r k o)(f:cW o=true){b:List (Nat×List Nat)×List Nat×Int}{c:List (aB×List aB)×List aB}(h:tF aC r b c):
 ∀a,tF aC r ((g0 k a (b.1,b.2.1)).1,(g0 k a (b.1,b.2.1)).2,b.2.2) ((List.replicate a o).foldl iM c):=by
 intro a
 induction a with
 |zero=>exact h
 |succ a d=>rw[x8,h_];show tF aC r _ (iM ((List.replicate a o).foldl iM c) o);generalize(List.replicate a o).foldl iM c=K at*;unfold iM;rw[aP f];refine⟨d.cz.C (.d7 ⟨e,d.iw⟩ .cL),.cL,?_⟩;rw[KD];exact d.c8
theorem IZ(h:cP (ko aC r) I B):∀f a,tF aC r f a->tF aC r (I.foldl (gK r) f) ((B.flatMap p9).foldl iM a):=by
 induction h with
 |cL=>intro f a h;exact h
 |@d7 k o I B g _ z=>
  intro f a i;rw[hc,ni,h_];apply z;obtain⟨b,q,j⟩:=g;unfold gK;rw[q];simp only;rcases j.hC with⟨d,s,_,_⟩|⟨d,s,A⟩
  ·rw[aP d];have l:cW o=false:=by unfold cW;rw[s];rfl
   have t:p9 o=[o]:=by unfold p9;rw[aH (by rw[l];decide)]
   rw[t];have C:iM a o=(a.1,a.2++[o]):=by unfold iM;rw[aH (by rw[l];decide)]
   show tF aC r _ (iM a o);rw[C];refine⟨i.cz,i.iw.C (.d7 ⟨b,q,j⟩ .cL),?_⟩;have u:=i.cz.lo;by_cases m:M f.1=0
   ·have w:a.1=[]:=sD T;simp only[m,iC];have x:=i.c8;have v:kq a=a.2:=by unfold kq;rw[w]
    have D:kq (a.1,a.2++[o])=a.2++[o]:=by unfold kq;rw[w]
    rw[v]at x;rw[D,Cp _ _ (by rw[j.a1];omega)];have y:=w5 x (b.a1,0);have E:cx (f.2.2,0) (b.a1,0)=((cx (f.2.2,0) (b.a1,0)).1,0):=by unfold cx;split<;>rfl
    rw[E]at y;refine y.kr (λc=>?_);rw[j.a1];constructor
    ·rintro(⟨g,N,d,p⟩|e)
     ·exact⟨g,N,oq _ d,p⟩
     ·rw[e];exact⟨rfl,o,av,rfl⟩
    ·rintro⟨g,N,d,p⟩;rcases dm.1 d with d|d
     ·exact .inl ⟨g,N,d,p⟩
     ·simp at d;subst d;exact .inr (yG p g)
   ·simp only[m,lh]
    have v:kq (a.1,a.2++[o])=kq a:=by
     unfold kq;cases F:a.1 with
     |nil=>rw[F]at u;simp at u;rw[u]at m;simp at m
     |cons _ _=>rfl
    rw[v];exact i.c8
  ·rw[aH (by rw[d];decide)];have l:cW o=true:=by unfold cW;have:(o.name.toList==[])=false:=di.2 s;rw[this];rfl
   have t:p9 o=List.replicate o.bG o:=by unfold p9;rw[aP l]
   rw[t,A,GY];exact QV ⟨b,q,j⟩ l i o.bG
theorem Ph{j:List Nat}{l:List aB}(h:cP (ko aC r) j l):∀(d:Int×Nat->Prop) (L:Int),hv d (L,0)->(∀c,d c->c.2=0)->hv (λc=>d c\/(c.2=0/\∃N∈l,c.1=(N.aX:Int))) (j.foldl (nU r) L,0):=by
 induction h with
 |cL=>intro d L h _;exact h.kr av
 |@d7 k o j l a _ q=>
  intro d L s t;rw[hc];obtain⟨b,u,m⟩:=a;have v:nU r L k=(cx (L,0) (b.a1,0)).1:=by unfold nU;rw[u];exact Cp _ _ (by rw[m.a1];omega)
  rw[v];have p:=w5 s (b.a1,0);have w:cx (L,0) (b.a1,0)=((cx (L,0) (b.a1,0)).1,0):=by unfold cx;split<;>rfl
  rw[w]at p;refine(q _ _ p (λc f=>by rcases f with f|f;exact t c f;rw[f])).kr (λc=>?_);rw[m.a1];constructor
  ·rintro((a|e)|⟨a,N,g,i⟩)
   ·exact .inl a
   ·rw[e];exact .inr ⟨rfl,o,av,rfl⟩
   ·exact .inr ⟨a,N,by simp[g],i⟩
  ·rintro(a|⟨a,N,g,i⟩)
   ·exact .inl (.inl a)
   ·rcases ek.1 g with rfl|g
    ·exact .inl (.inr (yG i a))
    ·exact .inr ⟨a,N,g,i⟩
theorem vr{e:List aB}(h:k6 aC r I e):cP (m4 aC r) (dI r I).1 (dM e).1/\
 hv (λc=>c.2=0/\∃N∈kq (dM e)++(dM e).2,c.1=(N.aX:Int)) ((dI r I).2,0):=by
 obtain⟨B,b,rfl⟩:=h;have f:=IZ b ([],[], -1) ([],[]) ⟨.cL,.cL,.inl ⟨av,λc g=>by obtain⟨_,N,a,_⟩:=g;simp[kq]at a⟩⟩;refine⟨f.cz,?_⟩;have:=Ph f.iw _ _ f.c8 (λc g=>g.1);refine this.kr (λc=>?_);unfold dM;constructor
 ·rintro(⟨b,N,a,d⟩|⟨b,N,a,d⟩)
  ·exact⟨b,N,oq _ a,d⟩
  ·exact⟨b,N,n8 _ a,d⟩
 ·rintro⟨b,N,a,d⟩;rcases dm.1 a with a|a
  ·exact .inl ⟨b,N,a,d⟩
  ·exact .inr ⟨b,N,a,d⟩
structure zo (Z:List aB) (a8:List (aB×List aB)×List aB):Prop where
 nF:Z=a8.1.flatMap (λe=>e.2++[e.1])++a8.2
 cz:∀e∈a8.1,cW e.1=true/\∀N∈e.2,cW N=false
 iw:∀N∈a8.2,cW N=false
theorem sy(Z:List aB):zo Z (dM Z):=by
 have f:∀(Z mw:List aB) c,zo mw c->zo (mw++Z) (Z.foldl iM c):=by
  intro Z
  induction Z with
  |nil=>intro mw c h;rw[jN];exact h
  |cons o Z g=>
   intro mw c h;rw[hc,show mw++o::Z=(mw++[o])++Z by simp];apply g;unfold iM;split
   ·rename_i d;refine⟨by rw[h.nF];simp,λe a=>?_,av⟩;rcases dm.1 a with a|a
    ·exact h.cz e a
    ·simp at a;subst a;exact⟨d,h.iw⟩
   ·rename_i d;refine⟨by rw[h.nF];simp,h.cz,λN b=>?_⟩;rcases dm.1 b with b|b
    ·exact h.iw N b
    ·simp at b;subst b;simpa using d
 have:=f Z [] ([],[]) ⟨rfl,av,av⟩;simpa[dM]using this
theorem x2(a:List aB)(h:∀N∈a,cW N=false):a.filter cW=[]:=zV.2 (λN b=>by rw[h N b];decide)
theorem yx(Z:List aB):Z.filter cW=(dM Z).1.map (·.1):=by
 have h:=sy Z;generalize dM Z=b at h;rw[h.nF,lE,x2 _ h.iw,jN];have a:=h.cz;clear h;generalize b.1=J at a⊢
 induction J with
 |nil=>rfl
 |cons e J c=>rw[ni,lE,c (λe d=>a e (by simp[d])),lE,x2 _ (a e av).2];simp[(a e av).1]
theorem yu{Z:List aB}:c7 Z=0↔∀o∈Z,cW o=false:=by
 unfold c7;rw[nx,zV];constructor
 ·intro h o a;have:=h o a;simpa using this
 ·intro h o a;rw[h o a];decide
theorem wK(Z:List aB)(E:Nat×Nat)(r:E.2≠0):(∃b,b<M Z/\E=fR Z b)↔(E.2=1/\∃N∈kq (dM Z)++(dM Z).2,E.1=N.aX):=by
 have h:=sy Z;generalize dM Z=F at h;obtain⟨J,left⟩:=F;have c:=h.nF;have l:=h.cz;have t:=h.iw;simp only at c l t;constructor
 ·rintro⟨b,x,rfl⟩;unfold fR at r⊢;have u:Z.getD b default=Z[b]:=by rw[fj,dz x];rfl
  rw[u]at r⊢;split at r
  ·exact absurd rfl r
  ·rename_i m;rw[aH m];refine⟨rfl,Z[b],?_,rfl⟩;simp only[tC,hh,jF,not_or,not_and]at m;obtain⟨k,m⟩:=m;by_cases G:0<c7 (Z.take b)
   ·have i:c7 (Z.drop (b+1))=0:=by have:=m G;omega
    rw[yu]at i;apply n8;simp only;rcases r7 J with e|⟨A,e,H⟩
    ·subst e;simp at c;subst c;exact b4 _
    ·rw[H]at c l;have d:Z=(A.flatMap (λe=>e.2++[e.1])++e.2)++e.1::left:=by rw[c];simp
     generalize A.flatMap (λe=>e.2++[e.1])++e.2=f at d;have j:=(l e av).1;have B:M f<b:=by
      apply vd;intro I;have K:M f<M Z:=by rw[d];simp
      have p:Z[M f]=e.1:=by simp[d]
      by_cases v:b=M f
      ·subst v;rw[p]at k;exact k j
      ·have g:e.1∈Z.drop (b+1):=by
        rw[qQ];refine⟨M f-(b+1),by rw[la];omega,?_⟩;rw[GC];have:b+1+(M f-(b+1))=M f:=T;simp only[this];exact p
       rw[i _ g]at j;cases j
     have:Z[b]=left[b-(M f)-1]'(by rw[d]at x;simp at x;omega):=by simp only[d];rw[iV T,List.getElem_cons];rw[dif_neg T]
     rw[this];exact b4 _
   ·have i:c7 (Z.take b)=0:=by omega
    rw[yu]at i;apply oq;cases J with
    |nil=>simp at c;subst c;exact b4 _
    |cons e J=>
     show Z[b]∈e.2;have d:Z=e.2++e.1::(J.flatMap (λe=>e.2++[e.1])++left):=by rw[c];simp
     have j:=(l e av).1;have B:b<M e.2:=by
      apply vd;intro I;have K:M e.2<M Z:=by rw[d];simp
      have p:Z[M e.2]=e.1:=by simp[d]
      by_cases v:b=M e.2
      ·subst v;rw[p]at k;exact k j
      ·have g:e.1∈Z.take b:=by
        rw[qQ];refine⟨M e.2,by rw[hT];omega,?_⟩;rw[List.getElem_take];exact p
       rw[i _ g]at j;cases j
     have:Z[b]=e.2[b]:=by simp only[d];rw[iz B]
     rw[this];exact b4 _
 ·rintro⟨i,N,k,P⟩
  have ba:∃b,∃x:b<M Z,Z[b]=N/\cW N=false/\(c7 (Z.take b)=0\/c7 (Z.drop (b+1))=0):=by
   have C:N∈left->∃b,∃x:b<M Z,Z[b]=N/\cW N=false/\(c7 (Z.take b)=0\/c7 (Z.drop (b+1))=0):=by
    intro g;obtain⟨a,w,y⟩:=qQ.1 g;generalize J.flatMap (λe=>e.2++[e.1])=f at c;refine⟨M f+a,by rw[c];simp;exact w,?_,t N g,.inr ?_⟩
    ·simp[c,y]
    ·rw[yu];intro o q;have:Z.drop (M f+a+1)=left.drop (a+1):=by rw[c,hr,List.drop_length_add_append]
     rw[this]at q;exact t o (List.mem_of_mem_drop q)
   rcases dm.1 k with g|g
   ·cases J with
    |nil=>exact C g
    |cons e J=>
     have D:N∈e.2:=g;obtain⟨a,w,y⟩:=qQ.1 D;have d:Z=e.2++e.1::(J.flatMap (λe=>e.2++[e.1])++left):=by rw[c];simp
     have s:=(l e av).2;refine⟨a,by rw[d];simp;omega,?_,s N D,.inl ?_⟩
     ·simp only[d];rw[iz w];exact y
     ·rw[yu];intro o q;rw[d,GM T]at q;exact s o (pp q)
   ·exact C g
  obtain⟨b,x,gf,s,z⟩:=ba;refine⟨b,x,?_⟩;unfold fR;have u:Z.getD b default=N:=by rw[fj,dz x,<-gf];rfl
  rw[u,s];have:(decide (0<c7 (Z.take b))&&decide (0<c7 (Z.drop (b+1))))=false:=by
   rw[J1];rcases z with z|z
   ·left;simp;omega
   ·right;simp;omega
  rw[this];exact yG P i
def iO(f:List aB)(e:aB):Nat×Nat:=
 if cW e&&f.any (jp e)then(e.aX,4)else match e.bB.find? (hY e f)with|some g=>(g.aX,5)|none=>(0,0)
theorem Co(Z:List aB)(a:Nat):gl Z a=iO (Z.take a) (Z.getD a default):=rfl
theorem DV{Z:List aB}{ah:aB->Bool}(h:∀b,ah b=true->cW b=true):(Z.filter cW).any ah=Z.any ah:=by
 apply nM.2;rw[jf,jf];constructor
 ·rintro⟨b,c,a⟩;exact⟨b,(kG.1 c).1,a⟩
 ·rintro⟨b,c,a⟩;exact⟨b,kG.2 ⟨c,h b a⟩,a⟩
theorem D4(d:List aB)(a:aB):iO d a=iO (d.filter cW) a:=by
 unfold iO;have g:(cW a&&(d.filter cW).any (jp a))=(cW a&&d.any (jp a)):=by
  cases f:cW a with
  |false=>rfl
  |true=>rw[DV];intro b c;unfold jp at c;rw[hh,gT]at c;unfold cW at f⊢;rw[c.1];exact f
 have h:hY a (d.filter cW)=hY a d:=by
  funext b;unfold hY;cases c:(b.name.toList==[])with
  |true=>rfl
  |false=>rw[DV];intro i e;unfold lD at e;rw[gT]at e;unfold cW;rw[e,c];rfl
 rw[g,h]
def np:List aB->List aB->List (Nat×Nat)
 |_,[]=>[]
 |e,f::g=>iO e f::np (e++[f]) g
theorem CT(d Z:List aB)(a:Nat)(x:a<M Z):(np d Z)[a]?=some (iO (d++Z.take a) Z[a]):=by
 induction Z generalizing d a with
 |nil=>simp at x
 |cons o q b=>
  cases a with
  |zero=>simp[np]
  |succ a=>simp only[np,SB];rw[b (d++[o]) a (by simpa using x)];simp
theorem Du(d Z:List aB):M (np d Z)=M Z:=by
 induction Z generalizing d with
 |nil=>rfl
 |cons o q a=>simp[np,a]
theorem Rj(Z:List aB)(E:Nat×Nat):(∃a,a<M Z/\E=gl Z a)↔E∈np [] Z:=by
 constructor
 ·rintro⟨a,x,rfl⟩;have:=CT [] Z a x;rw[Co,fj,dz x];exact m1 this
 ·intro h;obtain⟨a,x,b⟩:=qQ.1 h;rw[Du]at x;refine⟨a,x,?_⟩;have:=CT [] Z a x;rw[Co,fj,dz x,<-b];rw[dz (by rw[Du];exact x)]at this;simpa using this
theorem Mh(d a q:List aB)(e:∀N∈a,cW N=false):np d (a++q)=a.map (iO (d.filter cW))++np (d++a) q:=by
 induction a generalizing d with
 |nil=>simp
 |cons N a f=>rw[nH];simp only[np];rw[f (d++[N]) (λb c=>e b (by simp[c])),D4 d N,lE];have:List.filter cW [N]=[]:=x2 [N] (by intro b c;simp at c;subst c;exact e _ av);rw[this];simp
def qF:List aB->List (aB×List aB)->List (Nat×Nat)
 |_,[]=>[]
 |f,e::g=>e.2.map (iO f)++iO f e.1::qF (f++[e.1]) g
theorem Jj(J:List (aB×List aB))(h:∀e∈J,cW e.1=true/\∀N∈e.2,cW N=false)(d:List aB):np d (J.flatMap λe=>e.2++[e.1])=qF (d.filter cW) J:=by
 induction J generalizing d with
 |nil=>rfl
 |cons e J a=>
  rw[ni,ke,Mh _ _ _ (h e av).2];have b:List.filter cW e.2=[]:=x2 _ (h e av).2;show _++(iO (d++e.2) e.1::np (d++e.2++[e.1]) (J.flatMap λe=>e.2++[e.1]))=_;rw[D4 (d++e.2),a (λe c=>h e (by simp[c]))];simp only[lE,b,jN];have:List.filter cW [e.1]=[e.1]:=by simp[(h e av).1]
  rw[this];rfl
theorem fl.Az{f:cH}(h:fl aC a K)(g:fl aC a f):K=f:=by
 induction h generalizing f with
 |bp d e=>
  cases g with
  |bp b c=>rw[d]at b;cases b;rfl
  |f2 b c _=>rw[d]at b;cases b;rw[e]at c;cases c
  |eH b c _ _ _ _ _=>rw[d]at b;cases b;exact absurd e c
 |f2 d e i=>
  cases g with
  |bp b c=>rw[d]at b;cases b;rw[e]at c;cases c
  |f2 b c _=>rw[d]at b;cases b;rfl
  |eH b c j _ _ _ _=>rw[d]at b;cases b;exact absurd e j
 |eH d e i k l _ _ m o=>
  cases g with
  |bp b c=>rw[d]at b;cases b;exact absurd c e
  |f2 b c _=>rw[d]at b;cases b;exact absurd c i
  |eH b _ _ p q r s=>rw[d]at b;cases b;have t:=k.symm.trans p;have u:=l.symm.trans q;have v:=C0 t;have w:=C0 u;subst v;subst w;rw[m r,o s]
noncomputable def zt (e:List eV) (f:Int):cH:=open Classical in if h:∃g,fl e f.toNat g then h.choose else .bp 0
theorem Hm(h:fl aC a K):zt aC a=K:=by unfold zt;have b:∃K,fl aC ((a:Nat):Int).toNat K:=⟨K,h⟩;rw[dif_pos b];exact(b.choose_spec).Az h
theorem I0(g:List ByteArray){j:Bool}{Z:List c0}(h:fu j K Z):∀{gf x:Nat},eM gf x Z->K.F g=(match Z.find? (λc=>!(c.name.toList==[])&&!(g.any λa=>aJ a==c.name.toList))with|some c=>(c.aX:Int)|none=> -1)/\
 (∀c,Z.find? (λc=>!(c.name.toList==[])&&!(g.any λa=>aJ a==c.name.toList))=some c->gf<=c.aX/\c.aX<x):=by
 generalize t:(λc:c0=>!(c.name.toList==[])&&!(g.any λa=>aJ a==c.name.toList))=d1;have s_:∀(d:ByteArray) (W o:Nat),d1 ⟨d,W,⟨#[]⟩,o⟩=false:=by intro d W o;subst t;simp[qI]
 have u:∀{q:ByteArray} {d j:cH} {k i:List c0} {gf x:Nat},(∀{gf x:Nat},eM gf x k->d.F g=(match k.find? d1 with|some c=>(c.aX:Int)|none=> -1)/\∀c,k.find? d1=some c->gf<=c.aX/\c.aX<x)->(∀{gf x:Nat},eM gf x i->j.F g=(match i.find? d1 with|some c=>(c.aX:Int)|none=> -1)/\∀c,i.find? d1=some c->gf<=c.aX/\c.aX<x)->eM gf x (k++i++[⟨q,0,⟨#[]⟩,0⟩])->
  (cH.eH q d j).F g=(match(k++i++[(⟨q,0,⟨#[]⟩,0⟩:c0)]).find? d1 with|some c=>(c.aX:Int)|none=> -1)/\∀c,(k++i++[(⟨q,0,⟨#[]⟩,0⟩:c0)]).find? d1=some c->gf<=c.aX/\c.aX<x:=by
  intro q d j k i gf x l m f;obtain⟨D,v,s⟩:=f.tI;obtain⟨hu,E,F⟩:=v.tI;have I:=s.b0;have hE:=E.b0;have hS:=F.b0;obtain⟨w,y⟩:=l E;obtain⟨J,G⟩:=m F;rw[xq,xq];have z:List.find? d1 [⟨q,0,⟨#[]⟩,0⟩]=none:=by simp[uC,s_]
  rw[z];unfold cH.F;rw[w,J];cases P:k.find? d1 with
  |some c=>
   have hV:=y c P;cases A:i.find? d1 with
   |some B=>have gg:=G B A;simp only[Ei];rw[aH T];exact⟨rfl,λb p=>by cases p;omega⟩
   |none=>simp only[Ei];rw[aH T];exact⟨rfl,λb p=>by cases p;omega⟩
  |none=>
   cases A:i.find? d1 with
   |some B=>have gg:=G B A;simp only[G5,Ei];rw[aP T];exact⟨rfl,λb p=>by cases p;omega⟩
   |none=>simp only[G5];rw[aP T];exact⟨rfl,λb p=>by cases p⟩
 induction h with
 |bp W=>intro gf x _;simp[cH.F,uC,s_]
 |@f2 name H hZ C ih gj=>
  intro gf x f;unfold eM at f;unfold cH.F;simp only[uC,List.find?_nil];by_cases r:name.toList=[]
  ·have:d1 ⟨H,0,name,C⟩=false:=by subst t;simp[r]
   rw[this];simp[r]
  ·simp only at f;rw[aH r]at f;have s:C+1<=x:=f.2;have e:=gj r;have gC:d1 ⟨H,0,name,C⟩=!(g.any λa=>aJ a==name.toList):=by subst t;have:(name.toList==[])=false:=di.2 r;simp only[this];rfl
   rw[gC];have gE:name.toList.isEmpty=false:=by cases gF:name.toList with|nil=>exact absurd gF r|cons _ _=>rfl
   rw[gE];cases iR:g.any λa=>aJ a==name.toList with
   |true=>simp
   |false=>simp;omega
 |@s4 K Z h gL=>
  intro gf x f;obtain⟨D,v,s⟩:=f.tI;have I:=s.b0;obtain⟨w,y⟩:=gL v;rw[xq];have z:List.find? d1 [⟨nS,0,⟨#[]⟩,0⟩]=none:=by simp[uC,s_]
  rw[z,Option.or_none];have g1:(cH.eH gM (.bp 0) K).F g=K.F g:=by simp[cH.F]
  rw[g1];exact⟨w,λc h=>by have:=y c h;omega⟩
 |r9 _ _ _ l m=>intro gf x f;exact u l m f
 |rq _ _ _ l m=>intro gf x f;exact u l m f
 |qG _ _ _ l m=>intro gf x f;exact u l m f
theorem IH(b:List ByteArray)(K:cH)(h:0<=K.F b):K.F b∈K.jW:=by
 induction K with
 |bp W=>simp[cH.F]at h
 |f2 name g i=>
  unfold cH.F at h⊢;unfold cH.jW;by_cases c:name.toList=[]
  ·simp[c]at h
  ·rw[aH c];split at h
   ·omega
   ·rename_i a;rw[aH a];simp
 |eH k d j e f=>
  unfold cH.F at h⊢;unfold cH.jW;split at h
  ·rename_i a;rw[aP a];exact n8 _ (f h)
  ·rename_i a;rw[aH a];exact oq _ (e h)
def o7(e:List cA)(f:Nat):cA:=e[f]?.getD ⟨0,false,cD,0,0, -1,[]⟩
noncomputable def lm (f:List eV) (e:Int) (g:List ByteArray):Int:=if e<0 then -1 else(zt f e).F g
def ll(e:List cA)(f:List Nat):List ByteArray:=f.map λg=>(o7 e g).name
noncomputable def jG (f:List eV) (e:List cA) (g:List Nat) (N:Nat):Int×Nat:=(lm f (o7 e N).bB (ll e g),5)
def jM(e:List cA)(f g:Nat):Int×Nat:=(if((o7 e g).name.toList==(o7 e f).name.toList&&!(g==f))=true then(o7 e f).a1 else -1,4)
noncomputable def ow (h:List eV) (f:List cA) (g:List Nat) (e:Nat×List Nat):List (Int×Nat):=e.2.map (jG h f g)++(g.map (jM f e.1)++[jG h f (g++[e.1]) e.1])
noncomputable def nP (f:List eV) (g:List cA):List Nat->List (Nat×List Nat)->List (Int×Nat)
 |_,[]=>[]
 |h,e::i=>ow f g h e++nP f g (h++[e.1]) i
noncomputable def io (e:List eV) (f:List cA) (g:List (Nat×List Nat)):Int×Nat:=(nP e f [] g).foldl cx (-1,0)
theorem o1(h:r[k]?=some b):o7 r k=b:=by unfold o7;rw[h];rfl
theorem EQ{a:List Nat}{c:List aB}(h:cP (ko aC r) a c):ll r a=c.map aB.name:=by
 induction h with
 |cL=>rfl
 |d7 d _ e=>obtain⟨b,f,g⟩:=d;unfold ll at*;rw[hB,hB,e,o1 f,g.name]
theorem Cb(i:sF aC b o)(d:List ByteArray):lm aC b.bB d=(match o.bB.find? (λc=>!(c.name.toList==[])&&!(d.any λa=>aJ a==c.name.toList))with|some c=>(c.aX:Int)|none=> -1)/\(∀c,o.bB.find? (λc=>!(c.name.toList==[])&&!(d.any λa=>aJ a==c.name.toList))=some c->o.aX<c.aX)/\
 (0<=lm aC b.bB d->∃(a:Nat) (K:cH),b.bB=a/\fl aC a K/\lm aC b.bB d∈K.jW):=by
 rcases i.bB with⟨f,g⟩|⟨a,K,f,g,j⟩
 ·rw[f,g];unfold lm;simp
 ·obtain⟨x,k⟩:=i.cU;obtain⟨l,m⟩:=I0 d j k;have e:lm aC b.bB d=K.F d:=by unfold lm;rw[f,aH T,Hm g]
  rw[e];refine⟨l,λc h=>?_,λh=>⟨a,K,f,g,IH d K h⟩⟩;have:=m c h;omega
theorem FZ(b:List aB)(c:ByteArray):b.any (lD c)=(b.map aB.name).any (λa=>aJ a==aJ c):=by rw[Ej];rfl
theorem SK(d:o.name.toList=[])(c:List aB):hY o c=λb=>!(b.name.toList==[])&&!((c.map aB.name).any λa=>aJ a==b.name.toList):=by funext b;unfold hY;rw[FZ,d];cases(b.name.toList==[])<;>simp
theorem Ry(o:aB)(c:List aB):hY o c=λb=>!(b.name.toList==[])&&!(((c++[o]).map aB.name).any λa=>aJ a==b.name.toList):=by funext b;unfold hY;rw[FZ,dv,Gv];simp only[hB,pB,oo,qh,oZ];rw[qa o.name.toList b.name.toList];cases(b.name.toList==[])<;>cases(b.name.toList==o.name.toList)<;>simp
def Dr(g:List cA):Prop:=∀(h i:Nat) (e f:cA),g[h]?=some e->g[i]?=some f->e.br=[]->f.br=[]->h<i->e.a1<f.a1
theorem Cw(l:Dr r){i:aB}(p:ko aC r k o)(q:ko aC r a i):jM r k a=(if jp o i then(o.aX:Int)else -1,4):=by
 obtain⟨b,g,c⟩:=p;obtain⟨m,f,bh⟩:=q;unfold jM;rw[o1 g,o1 f,bh.name,c.name,c.a1];have:(a==k)=(i.aX==o.aX):=by
  apply nM.2;rw[gT,gT];constructor
  ·rintro rfl;rw[g]at f;cases f;have d:=c.a1;have j:=bh.a1;omega
  ·intro e;have d:=c.a1;have j:=bh.a1;rcases Nat.lt_trichotomy a k with h|h|h
   ·have:=l a k m b f g bh.br c.br h;omega
   ·exact h
   ·have:=l k a b m g f c.br bh.br h;omega
 rw[this];rfl
def yK(m:List eV)(h:List cA)(f:Int×Nat):Prop:=
 (f.2=4/\∃(g:Nat) (e:cA),h[g]?=some e/\e.br=[]/\f.1=e.a1)\/(f.2=5/\∃(g:Nat) (e:cA) (i:Nat) (l:cH),h[g]?=some e/\e.br=[]/\e.bB=i/\fl m i l/\f.1∈l.jW)
theorem IQ(g1:Dr r){y:List (Nat×List Nat)}{J:List (aB×List aB)}(h:cP (m4 aC r) y J):∀(k:List Nat) (g:List aB),cP (ko aC r) k g->(∀e∈J,cW e.1=true/\∀N∈e.2,cW N=false)->
 (∀E∈qF g J,E.2≠0->((E.1:Int),E.2)∈nP aC r k y)/\(∀c∈nP aC r k y,0<=c.1->(∃E∈qF g J,E.2≠0/\(E.1:Int)<=c.1)/\yK aC r c):=by
 induction h with
 |cL=>intro _ _ _ _;exact⟨by simp[qF],by simp[nP]⟩
 |@d7 o e y J z _ F=>
  intro k g A hu;obtain⟨ih,iR⟩:=hu e av;obtain⟨B,P⟩:=z;obtain⟨G,H⟩:=F (k++[o.1]) (g++[e.1]) (A.C (.d7 B .cL)) (λb p=>hu b (by simp[p]));have gf:=EQ A;have gg:=EQ (A.C (.d7 B .cL));have I:(∀E∈e.2.map (iO g),E.2≠0->((E.1:Int),E.2)∈o.2.map (jG aC r k))/\(∀c∈o.2.map (jG aC r k),0<=c.1->(∃E∈e.2.map (iO g),E.2≠0/\(E.1:Int)<=c.1)/\yK aC r c):=by
   have gj:=iR;clear G H F;generalize o.2=iU at P;generalize e.2=iZ at P gj
   induction P with
   |cL=>exact⟨av,av⟩
   |@d7 hE N iU iZ i0 _ i1=>
    obtain⟨i2,jt⟩:=i1 (λb p=>gj b (by simp[p]));obtain⟨b,p,w⟩:=i0;have gC:cW N=false:=gj N av;have jW:N.name.toList=[]:=by unfold cW at gC;simpa using gC
    obtain⟨C,hS,gE⟩:=Cb w (g.map aB.name);have D:jG aC r k hE=(lm aC b.bB (g.map aB.name),5):=by unfold jG;rw[o1 p,gf]
    have x:iO g N=(match N.bB.find? (λi=>!(i.name.toList==[])&&!((g.map aB.name).any λa=>aJ a==i.name.toList))with|some b=>(b.aX,5)|none=>(0,0)):=by unfold iO;rw[gC,SK jW];rfl
    simp only[hB,ek];constructor
    ·rintro E (rfl|l) f
     ·left;rw[D,C];rw[x]at f⊢;cases u:N.bB.find? (λi=>!(i.name.toList==[])&&!((g.map aB.name).any λa=>aJ a==i.name.toList))with
      |none=>rw[u]at f;simp at f
      |some i=>simp
     ·right;exact i2 E l f
    ·rintro c (rfl|v) f
     ·rw[D]at f⊢;refine⟨⟨iO g N,.inl rfl,?_⟩,.inr ⟨rfl,?_⟩⟩
      ·rw[x];simp only at f;rw[C]at f⊢;cases u:N.bB.find? (λi=>!(i.name.toList==[])&&!((g.map aB.name).any λa=>aJ a==i.name.toList))with
       |none=>rw[u]at f;simp at f
       |some i=>simp
      ·obtain⟨a,K,z,s,t⟩:=gE f;exact⟨hE,b,a,K,p,w.br,z,s,t⟩
     ·obtain⟨⟨E,l,s⟩,t⟩:=jt c v f;exact⟨⟨E,.inr l,s⟩,t⟩
  have hV:∀c∈k.map (jM r o.1),0<=c.1->(g.any (jp e.1)=true/\c=((e.1.aX:Int),4)):=by
   clear G H F gf gg I
   induction A with
   |cL=>simp
   |@d7 a hZ k g gF _ gL=>
    intro c v f;rw[hB,ek]at v;rw[oo];rcases v with rfl|v
    ·rw[Cw g1 B gF]at f⊢;cases q:jp e.1 hZ with
     |true=>simp
     |false=>rw[q]at f;simp at f
    ·obtain⟨d,j⟩:=gL c v f;exact⟨by rw[d];simp,j⟩
  have j4:g.any (jp e.1)=true->((e.1.aX:Int),4)∈k.map (jM r o.1):=by
   clear G H F gf gg I hV
   induction A with
   |cL=>simp
   |@d7 a hZ k g gF _ gL=>
    rw[oo,tC,hB,ek];rintro(h|h)
    ·left;rw[Cw g1 B gF,h];rfl
    ·right;exact gL h
  obtain⟨b,p,w⟩:=B;obtain⟨C,hS,gE⟩:=Cb w ((g++[e.1]).map aB.name);have D:jG aC r (k++[o.1]) o.1=(lm aC b.bB ((g++[e.1]).map aB.name),5):=by unfold jG;rw[o1 p,gg]
  have x:iO g e.1=if g.any (jp e.1)=true then(e.1.aX,4)else(match e.1.bB.find? (λi=>!(i.name.toList==[])&&!(((g++[e.1]).map aB.name).any λa=>aJ a==i.name.toList))with|some b=>(b.aX,5)|none=>(0,0)):=by
   unfold iO;rw[ih,Ry,A7]
   all_goals rfl
  constructor
  ·intro E l f;show _∈ow aC r k o++_;unfold qF at l;unfold ow;rcases dm.1 l with l|l
   ·exact oq _ (oq _ (I.1 E l f))
   ·rcases ek.1 l with rfl|l
    ·apply oq;apply n8;rw[x]at f⊢;by_cases q:g.any (jp e.1)=true
     ·rw[aP q];exact oq _ (j4 q)
     ·rw[aH q]at f⊢;apply n8;rw[dB,D,C];cases u:e.1.bB.find? (λi=>!(i.name.toList==[])&&!(((g++[e.1]).map aB.name).any λa=>aJ a==i.name.toList))with
      |none=>rw[u]at f;simp at f
      |some i=>simp
    ·exact n8 _ (G E l f)
  ·intro c v f;have m:c∈ow aC r k o++nP aC r (k++[o.1]) y:=v;show(∃E∈e.2.map (iO g)++iO g e.1::qF (g++[e.1]) J,_)/\_;unfold ow at m;rcases dm.1 m with m|m
   ·rcases dm.1 m with m|m
    ·obtain⟨⟨E,l,s⟩,t⟩:=I.2 c m f;exact⟨⟨E,oq _ l,s⟩,t⟩
    ·rcases dm.1 m with m|m
     ·obtain⟨q,rfl⟩:=hV c m f;refine⟨⟨iO g e.1,n8 _ av,?_⟩,.inl ⟨rfl,o.1,b,p,w.br,w.a1.symm⟩⟩;rw[x,aP q];simp
     ·rw[dB,D]at m;subst m;refine⟨⟨iO g e.1,n8 _ av,?_⟩,.inr ⟨rfl,?_⟩⟩
      ·rw[x];simp only at f;rw[C]at f⊢;cases u:e.1.bB.find? (λi=>!(i.name.toList==[])&&!(((g++[e.1]).map aB.name).any λa=>aJ a==i.name.toList))with
       |none=>rw[u]at f;simp at f
       |some i=>
        have:=hS i u;by_cases q:g.any (jp e.1)=true
        ·rw[aP q];refine⟨av,?_⟩;simp only;omega
        ·rw[aH q];simp
      ·obtain⟨a,K,z,s,t⟩:=gE f;exact⟨o.1,b,a,K,p,w.br,z,s,t⟩
   ·obtain⟨⟨E,l,s⟩,t⟩:=H c m f;exact⟨⟨E,n8 _ (uo _ l),s⟩,t⟩
theorem It(y:fe F x){c o:Int×Nat}(h:yK F.aC F.aj c)(z:yK F.aC F.aj o)(e:c.1=o.1):c.2=o.2:=by
 have ba:∀(k:Nat) (b:cA) (l:Nat) (g:cA) (a:Nat) (K:cH) (p:Int),F.aj[k]?=some b->b.br=[]->F.aj[l]?=some g->g.br=[]->g.bB=a->fl F.aC a K->p∈K.jW->b.a1≠p:=by
  intro k b l g a K p f A q B C r D;rcases y.yZ l g q B with e|⟨gF,gL,i,E,G⟩
  ·rw[C]at e;omega
  ·rw[C]at i;have:=C0 i;subst this;have:=r.Az E;subst this;obtain⟨d,_,j⟩:=G p D;rcases Nat.lt_trichotomy l k with h|h|h
   ·have:=j k b h f A;omega
   ·subst h;rw[f]at q;cases q;omega
   ·have:=y.yk k l b g f q A B h;omega
 rcases h with⟨i,k,b,f,s,H⟩|⟨i,k,b,a,K,f,s,I,r,J⟩
 ·rcases z with⟨m,_⟩|⟨m,t,u,P,gf,v,w,gg,gj,gC⟩
  ·rw[i,m]
  ·exact absurd (H.symm.trans e) (ba k b t u P gf o.1 f s v w gg gj gC)
 ·rcases z with⟨m,t,u,v,w,gE⟩|⟨m,_⟩
  ·exact absurd (gE.symm.trans e.symm) (ba t u k b a K c.1 v w f s I r J)
  ·rw[i,m]
noncomputable def lQ (e:au) (g:List Nat):(Nat×List (List (Nat×List Nat)))⊕(Int×Nat):=if 16<(dy e.aj (M e.aj) g).1\/8<(dy e.aj (M e.aj) g).2 then .inr (0,6)
 else if 0<=((dD e.aj (M e.aj) g).foldl (λh f=>cx h ((dI e.aj f).2,1)) (-1,0)).1 then .inr (((dD e.aj (M e.aj) g).foldl (λh f=>cx h ((dI e.aj f).2,1)) (-1,0)).1,1)
 else if 0<=((dD e.aj (M e.aj) g).foldl (λh f=>cx h (io e.aC e.aj (dI e.aj f).1)) (-1,0)).1 then .inr ((dD e.aj (M e.aj) g).foldl (λh f=>cx h (io e.aC e.aj (dI e.aj f).1)) (-1,0))
 else if 4000<((dD e.aj (M e.aj) g).map λf=>fO e.aZ.toNat (M (dI e.aj f).1-1)).sum then .inr (0,6)
 else .inl (((dD e.aj (M e.aj) g).map λf=>fO e.aZ.toNat (M (dI e.aj f).1-1)).sum,(dD e.aj (M e.aj) g).map λf=>(dI e.aj f).1)
theorem hv.ao{e6:Int->Prop}{L:Int}(a:Nat)(h:hv (λc=>c.2=0/\e6 c.1) (L,0)):hv (λc=>c.2=a/\e6 c.1) (L,a):=by
 rcases h with⟨b,d⟩|⟨b,⟨_,d⟩,f⟩
 ·exact .inl ⟨b,λc e=>d (c.1,0) ⟨rfl,e.2⟩⟩
 ·exact .inr ⟨b,⟨rfl,d⟩,λc e g=>f (c.1,0) ⟨rfl,e.2⟩ g⟩
theorem Hb{bD e:Type}{q:bD->e->Prop}{Z:List bD}{D:List e}(h:cP q Z D)(ah:bD->Int×Nat)(f:e->Int×Nat->Prop)(g:∀d j,q d j->hv (f j) (ah d)):∀(a:Int×Nat->Prop) (b:Int×Nat),hv a b->hv (λc=>a c\/∃j∈D,f j c) (Z.foldl (λd q=>cx d (ah q)) b):=by
 induction h with
 |cL=>intro a b h;exact h.kr av
 |@d7 d j Z D i _ k=>intro a b l;rw[hc];refine(k _ _ (H5 l (g d j i))).kr (λc=>?_);simp only[ek,exists_eq_or_imp,or_assoc]
theorem Ib{bD a:Type}{q:bD->a->Prop}{Z:List bD}{D:List a}(h:cP q Z D)(ah:bD->Nat)(N:a->Nat)(b:∀d j,d∈Z->j∈D->q d j->ah d=N j):(Z.map ah).sum=(D.map N).sum:=by
 induction h with
 |cL=>rfl
 |d7 c _ e=>rw[hB,hB,qx,qx,b _ _ av av c,e (λd j f g=>b d j (by simp[f]) (by simp[g]))]
theorem yX{m:List Nat}{f:it}(D:fe F x)(iU:h7 (fB F.aC F.aj W) m f.cJ)(iZ:∀k∈m,k<M F.aj)(k1:F.aZ=f.aZ)(k7:f.aZ<=12)(lo:mQ (W+1) f.cJ)(l8:c9 (W+1) f.cJ<=100000):match fF (W+1) f with
 |.inr (o,e)=>lQ F m=.inr ((o:Int),e)
 |.inl (me,B)=>∃i0,lQ F m=.inl (me,i0)/\cP (λw a=>cP (m4 F.aC F.aj) w (dM a).1) i0 B/\∀a∈B,(dM a).2=[]:=by
 have G:=GN D.am iU iZ;unfold fF lQ;by_cases H:jE (W+1) f.cJ=true
 ·rw[aP H];rw[H]at G;rw[aP (by have:=G.symm;simpa using this)];rfl
 ·rw[aH H];have gF:jE (W+1) f.cJ=false:=j3.2 H;rw[gF]at G;have mn:¬(16<(dy F.aj (M F.aj) m).1\/8<(dy F.aj (M F.aj) m).2):=by have:=G.symm;simp only[xv,tU]at this;omega
  rw[aH mn];have mO:(ce (W+1) f.cJ).1<=16/\(ce (W+1) f.cJ).2<=8:=by unfold jE at gF;simp only[xv,tU]at gF;omega
  have mR:=AL (W+1) f.cJ lo mO.1 l8;have J:=Bw (W+1) f.cJ mR;have p:=uu D.am W (M F.aj) m f.cJ iU.ob iZ;generalize dD F.aj (M F.aj) m=g at p;generalize c3 (W+1) f.cJ=B at p J;have K:=Hb p (λq=>((dI F.aj q).2,1)) (λa c=>c.2=1/\∃N∈kq (dM a)++(dM a).2,c.1=(N.aX:Int)) (λI a h=>(vr h).2.ao (e6:=λmY=>∃N∈kq (dM a)++(dM a).2,mY=(N.aX:Int)) 1) (λ_=>False) (-1,0) BA;have P:=yq fR B;have i1:=Gd K P (λE s r=>by
   obtain⟨Z,y,x⟩:=s
   obtain⟨l,N,gL,gf⟩:=(wK Z E r).1 x
   exact .inr ⟨Z,y,l,N,gL,by simp only;rw[gf]⟩)
   (λc i r=>by
     rcases i with i|⟨Z,y,l,N,gL,gf⟩
     ·exact i.elim
     ·exact⟨(N.aX,1),⟨Z,y,(wK Z (N.aX,1) av).2 ⟨rfl,N,gL,rfl⟩⟩,av,by simp only;omega⟩)
   (λc i2 i t _ _=>by
     rcases i with i|⟨_,_,l,_⟩
     ·exact i.elim
     ·rcases t with t|⟨_,_,m5,_⟩
      ·exact t.elim
      ·rw[l,m5])
  generalize g.foldl (λd q=>cx d ((dI F.aj q).2,1)) (-1,0)=ne at i1;rcases i1 with⟨jt,u⟩|⟨jt,u,nB⟩
  ·rw[aH (show¬(f_ fR B).2≠0 by omega),aH (show¬0<=ne.1 by omega)]
   have g1:∀a∈B,kq (dM a)++(dM a).2=[]:=by
    intro a b;cases hu:kq (dM a)++(dM a).2 with
    |nil=>rfl
    |cons N pF=>exfalso;obtain⟨gg,x,s⟩:=(wK a (N.aX,1) av).2 ⟨rfl,N,by rw[hu];simp,rfl⟩;have:=Hf u a b gg x;rw[<-s]at this;simp at this
   have gj:∀a∈B,(dM a).2=[]:=λa b=>(E1.1 (g1 a b)).2
   have gC:∀a∈B,∀E,(∃gg,gg<M a/\E=gl a gg)↔E∈qF [] (dM a).1:=by
    intro a b E;rw[Rj];have jW:=sy a;have e:a=(dM a).1.flatMap (λe=>e.2++[e.1]):=by have:=jW.nF;rw[gj a b,jN]at this;exact this
    have:=Jj (dM a).1 jW.cz [];rw[<-e]at this;rw[this];rfl
   have hE:∀I a,k6 F.aC F.aj I a->hv (λc=>∃w,w=(dI F.aj I).1/\c∈nP F.aC F.aj [] w) (io F.aC F.aj (dI F.aj I).1):=λI a _=>(Dg _).kr av
   have hS:hv (λc=>∃I∈g,c∈nP F.aC F.aj [] (dI F.aj I).1) (g.foldl (λd q=>cx d (io F.aC F.aj (dI F.aj q).1)) (-1,0)):=by
    have nG:cP (λd j:List Nat=>d=j) g g:=by
     clear p K hE
     induction g with
     |nil=>exact .cL
     |cons d Z v=>exact .d7 rfl v
    exact(Hb nG (λq=>io F.aC F.aj (dI F.aj q).1) (λI c=>c∈nP F.aC F.aj [] (dI F.aj I).1) (λd j e=>by rw[e];exact Dg _) (λ_=>False) (-1,0) BA).kr av
   have hV:=yq gl B;have z:∀I a,k6 F.aC F.aj I a->_:=λI a h=>IQ D.yk (vr h).1 [] [] .cL (sy a).cz
   have j4:∀a∈B,∃I∈g,k6 F.aC F.aj I a:=by
    clear z hS hV hE gC gj g1 P K J u
    induction p with
    |cL=>simp
    |d7 l _ v=>
     intro a b;rcases ek.1 b with rfl|b
     ·exact⟨_,av,l⟩
     ·obtain⟨I,h,hZ⟩:=v a b;exact⟨I,by simp[h],hZ⟩
   have ih:∀I∈g,∃a∈B,k6 F.aC F.aj I a:=by
    clear z hS hV hE gC gj g1 P K J u j4
    induction p with
    |cL=>simp
    |d7 l _ v=>
     intro a b;rcases ek.1 b with rfl|b
     ·exact⟨_,av,l⟩
     ·obtain⟨I,h,hZ⟩:=v a b;exact⟨I,by simp[h],hZ⟩
   have j9:=Gd hS hV (λE s r=>by
    obtain⟨a,b,x⟩:=s
    obtain⟨I,A,C⟩:=j4 a b
    exact⟨I,A,(z I a C).1 E ((gC a b E).1 x) r⟩)
    (λc i r=>by
      obtain⟨I,A,i⟩:=i
      obtain⟨a,b,C⟩:=ih I A
      obtain⟨⟨E,s,l,gf⟩,_⟩:=(z I a C).2 c i r
      exact⟨E,⟨a,b,(gC a b E).2 s⟩,l,gf⟩)
    (λc i2 i t r hu=>by
      obtain⟨I,A,i⟩:=i
      obtain⟨a,b,C⟩:=ih I A
      obtain⟨kp,oa,t⟩:=t
      obtain⟨ob,pR,oH⟩:=ih kp oa
      exact It D ((z I a C).2 c i r).2 ((z kp ob oH).2 i2 t T).2 hu)
   generalize g.foldl (λd q=>cx d (io F.aC F.aj (dI F.aj q).1)) (-1,0)=oS at j9;rcases j9 with⟨kr,kx⟩|⟨kr,kx,o6⟩
   ·rw[aH (show¬(f_ gl B).2≠0 by omega),aH (show¬0<=oS.1 by omega)]
    have pa:(g.map λq=>fO F.aZ.toNat (M (dI F.aj q).1-1)).sum=hR f.aZ B:=by
     unfold hR;refine Ib p _ _ (λI a _ b h=>?_);have y:=(vr h).1.lo;have e:c7 a=M (dM a).1:=by unfold c7;rw[yx,c_]
     have:=J a b;rw[y,<-e,k1,GY];unfold n1;exact Hj k7 T
    rw[pa];by_cases gE:4000<hR f.aZ B
    ·rw[aP gE,aP gE];rfl
    ·rw[aH gE,aH gE]
     refine⟨_,rfl,?_,gj⟩;have:cP (λI a=>cP (m4 F.aC F.aj) (dI F.aj I).1 (dM a).1) g B:=p.me (λI a _ _ h=>(vr h).1);have ba:∀{g:List (List Nat)} {B:List (List aB)},cP (λI a=>cP (m4 F.aC F.aj) (dI F.aj I).1 (dM a).1) g B->cP (λw a=>cP (m4 F.aC F.aj) w (dM a).1) (g.map λq=>(dI F.aj q).1) B:=by
      intro g B h
      induction h with
      |cL=>exact .cL
      |d7 l _ v=>exact .d7 l v
     exact ba this
   ·rw[aP kx,aP kr,o6]
  ·rw[aP u,aP jt]
   have py:(f_ fR B).2=1:=by
    rcases P with⟨iR,_⟩|⟨iR,⟨Z,y,x⟩,_⟩
    ·rw[iR]at u;exact absurd rfl u
    ·exact((wK Z _ iR).1 x).1
   rw[nB];show Sum.inr (_,1)=Sum.inr (_,(f_ fR B).2);rw[py];rfl
def iH(e:List cA)(f:Nat)(g:List Nat)(h:Nat):List (List Nat):=(g.take h).foldl (λi l=>lp i (hD (dD e f) e l)) [[]]
theorem S8(r:List cA)(W:Nat)(Z:List Nat)(a:Nat)(h:a<M Z):iH r W Z (a+1)=lp (iH r W Z a) (hD (dD r W) r Z[a]):=by unfold iH;rw[ev h,h_];rfl
theorem Ix(r:List cA)(W:Nat)(Z:List Nat):iH r W Z (M Z)=dD r (W+1) Z:=by unfold iH;rw[eQ];rfl
def vZ(e:List cA):Nat->List Nat->Prop
 |0,f=>f=[]
 |g+1,f=>M f<=1000/\(∀h,h<=M f->M (iH e g f h)<=16/\1<=M (iH e g f h)/\∀i∈iH e g f h,M i<=100000/\(0<h->i≠[]))/\∀l∈f,∃m,e[l]?=some m/\M m.br<=1000/\M (hD (dD e g) e l)<=16/\(∀i∈hD (dD e g) e l,M i<=100000/\i≠[])/\∀p∈m.br,vZ e g p/\1<=M (dD e g p)
def vv(p:Nat)(f:au):Prop:=∀(g:List Nat),vZ f.aj p g->∀(h:Nat->Nat) (L:aq) (i:Nat) (s:eU) (t:an),bQ h L i s f->cZ h L t g->Calls prog 59 #[.pointer (some ⟨i,0,none⟩),t] L λe l=>∃v m,e=.returned v/\bQ m l i s f/\aU h L m l/\dZ m l v (dD f.aj p g)
def PE(L:aq)(g:an)(f:List (List Nat)):Prop:=∀N i l,g=U (some ⟨N,0,none⟩) i l->∀e,(h:e<M f)->f[e]=[]->aK L ⟨N,e,none⟩=some (U none 0 0)
def r6(g:Nat->Nat)(L:aq)(e:an)(f:List (List Nat)):Prop:=dZ g L e f/\PE L e f
theorem r6.w{Z:List (List Nat)}(h:r6 A L H Z)(a:eT A L u G):r6 u G H Z:=by
 refine⟨h.1.w a,λN W c e d x f=>?_⟩;obtain⟨gg,g,i,_,_⟩:=h.1;have b:ap H=some N:=by rw[e];rfl
 exact(dn (a.2 N (g.lt N b).2 (i N b)).2 _).trans (h.2 N W c e d x f)
def Do(f:Nat->Nat)(L:aq)(g:Nat)(h:eU)(i:au)(l:an)(m:List Nat)(p:an)(s:List (List Nat))(wr:aq):Prop:=∃e,ei f L g h i e wr/\cZ e wr l m/\r6 e wr p s
def Rm(i:Nat->Nat)(L:aq)(l:Nat)(m:eU)(p:au)(s:an)(t:List Nat)(v:an)(w:List (List Nat))(f:Nat)(g:cA)(h y:an)(C:List (List Nat))(wr:aq):Prop:=
 ∃e,ei i L l m p e wr/\cZ e wr s t/\r6 e wr v w/\dZ e wr h g.br/\aL wr f (h1 g h) 202/\e f=7/\jA e wr y C (S (R L))
def Bb(f:Nat->Nat)(L:aq)(g:Nat)(h:eU)(i:au)(l:an)(m:List Nat)(p:an)(s:List (List Nat))(t:an)(v:List (List Nat))(w:an)(y:List (List Nat))(wr:aq):Prop:=
 ∃e,ei f L g h i e wr/\cZ e wr l m/\r6 e wr p s/\dZ e wr t v/\jA e wr w y (S (R L))
theorem BO(A:Nat->Nat)(L:aq)(N:Nat)(H:an)(q:List Nat)(c:aL L N #[H] 48)(d:A N=7)(f:cZ A L H q):dZ A L (U (some ⟨N,0,none⟩) 1 1) [q]:=
 ⟨[H],⟨rfl,.inr ⟨N,1,#[H],rfl,bL _,c,aN _,cN,rfl,rfl⟩⟩,λa e=>by cases e;exact d,rfl,λg b h=>by
  have:g=0:=by simp at b;exact b
  subst this;exact f⟩
theorem Ln(A:Nat->Nat)(L:aq)(N k:Nat)(b:aL L N #[O Q (k:Nat)] 3)(c:A N=7):cZ A L (U (some ⟨N,0,none⟩) 1 1) [k]:=
 ⟨⟨1,rfl,.inr ⟨N,1,#[O Q (k:Nat)],rfl,bL _,b,aN _,cN,rfl,rfl⟩⟩,λa e=>by cases e;exact c⟩
theorem cZ.cL(A:Nat->Nat)(L:aq):cZ A L (U none 0 0) []:=⟨⟨0,eE _ _ _ _⟩,λN a=>by simp[ap]at a⟩
theorem Db{bD b:Type}(ah:bD->List b)(Z:List bD)(a:Nat)(h:a<M Z):(Z.take (a+1)).flatMap ah=(Z.take a).flatMap ah++ah Z[a]:=by rw[ev h,nV];simp
theorem Qb{a:List Nat->List (List Nat)}(c:r[k]?=some b)(d:M b.br=0):hD a r k=[[k]]:=by unfold hD;rw[c];simp[d]
theorem MR{a:List Nat->List (List Nat)}(c:r[k]?=some b)(d:¬(M b.br)=0):hD a r k=b.br.flatMap a:=by unfold hD;rw[c];simp[d]
theorem Ns(U1:M z.aj<=1000)(W:Nat)(wB:vv W z):vv (W+1) z:=by
 intro Z T3 A L j D U2 h I;obtain⟨U3,iZ,xf⟩:=T3;obtain⟨d,U4,c,rfl,T4,KJ⟩:=I.o;subst T4;have T5:0<M Z->∃N,d=some ⟨N,0,none⟩:=λT6=>by obtain⟨N,e,_⟩:=KJ T6;exact⟨N,e⟩
 clear KJ;go_enter func59,ntmps59;have K4:Do A L j D z (U d (M Z) c) Z (U (some ⟨S (R L),0,none⟩) 1 1) (iH z.aj W Z 0) (ar L (aw #[U none 0 0] 48)):=by
  have i0:=fv L (aw #[U none 0 0] 48) none;obtain⟨J,gg⟩:=(ei.mk h (aU.l _ _):ei A L j D z A L).bT i0 (aN _) 7;refine⟨_,J,I.w gg,BO _ _ _ _ _ (aL.bT _ _ _) (cy _ _ _) (cZ.cL _ _),?_⟩;intro N W c e o x _;simp only[mi,j0,xU]at e;obtain⟨⟨rfl,_⟩,_⟩:=e;have:o=0:=by simp[iH]at x;exact x
  subst this;exact((aL.bT L #[U none 0 0] 48).aa 0).trans rfl
 clear h I;go_wp2_with fail
 go_loopw [5,6] (λH o wr=>∃a:Nat,a<=M Z/\o=O Q a/\Do A L j D z (U d (M Z) c) Z H (iH z.aj W Z a) wr) (λ_ o _=>M Z-(bm o).toNat)
 case atStart=>exact⟨0,bL _,rfl,K4⟩
 case round=>
  obtain⟨a,xk,rfl,u,J,I,mO⟩:=hrel;clear K4;obtain⟨U5,U6,xr⟩:=iZ a xk;obtain⟨gC,hu,U7,rfl,U8,K8,Lp,Ls,LB⟩:=mO.1.pR T;by_cases mR:a<M Z
  ·obtain⟨gE,rfl⟩:=T5 T;have LI:=I.pF a mR;obtain⟨b,mY,U9,ys,yC,y2⟩:=xf Z[a] (b4 _);have y5:ag (iH z.aj W Z (a+1)=lp (iH z.aj W Z a) (hD (dD z.aj W) z.aj Z[a])):=S8 _ _ _ _ mR;have LL:ag (M (iH z.aj W Z (a+1))<=16):=(iZ (a+1) T).1;have LQ:ag (∀q∈iH z.aj W Z (a+1),q≠[]):=λq i1=>((iZ (a+1) T).2.2 q i1).2 T
   obtain⟨m5,LU⟩:∃m5,ag (iH z.aj W Z (a+1)=m5):=⟨_,rfl⟩;rw[LU.out]at y5 LL LQ;generalize iH z.aj W Z a=i at*;clear iZ xf;generalize Z[a]=k at*;have U_:k<M z.aj:=by obtain⟨T7,_⟩:=jX.1 mY;exact T7
   obtain⟨N,b1,Va,Mc,_,zc,T8,T9,T_,Ua,hE,zS,Ub⟩:=J.aV.oa mY;obtain⟨gF,Vb,wc,rfl,Uc,Ud⟩:=zc.o;subst Uc;have z_:=J.aV.aa 9;simp[cp]at z_;rw[Mc]at z_;have Vc:(0:Int)<=(k:Int):=T;have Vd:(k:Int)<(M z.aj:Int):=T;have Ve:(0:Int)<=(a:Int):=T;have Vf:(a:Int)<(M Z:Int):=T;have Mj:ag (z.aj[k]?=some b):=mY;clear mY Mc Ud;go_upto_region 5 with fail;go_region_held3 (λG=>aK G ⟨j,9,none⟩=some (U (some ⟨N,0,none⟩) (M z.aj) b1)/\aK G ⟨gE,a,none⟩=some (O Q k)/\aK G ⟨N,k*7,none⟩=some (O Q b.a1)/\aK G ⟨N,k*7+1,none⟩=some (.bool b.en)/\aK G ⟨N,k*7+2,none⟩=some (.string b.name)/\aK G ⟨N,k*7+3,none⟩=some (O Q b.ao)/\aK G ⟨N,k*7+4,none⟩=some (O Q b.bG)/\aK G ⟨N,k*7+5,none⟩=some (O Q b.bB)/\aK G ⟨N,k*7+6,none⟩=some (U gF (M b.br) wc)) (go_keep) (fail);have Mk:b_ wr (ar wr (aw (h1 b (U gF (M b.br) wc)) 202)).drew none:=⟨rfl,rfl,rfl,av,λo x _=>fY _ _ _ x⟩;obtain⟨ne,nB⟩:=J.bT Mk (aN _) 7;have hS:aL (ar wr (aw (h1 b (U gF (M b.br) wc)) 202)).drew (S (R wr)) (h1 b (U gF (M b.br) wc)) 202:=(aL.bT wr _ _).e;have Ai:=cy u (S (R wr)) 7;have i2:=I.w nB;have nG:=mO.w nB;have oa:=zc.w nB;have Ak:aK (ar wr (aw (h1 b (U gF (M b.br) wc)) 202)).drew ⟨gE,a,none⟩=some (O Q k):=LI▸(by
    have:=i2.pF a mR
    have Aq:=I.pF a mR
    rw[this,Aq])
   clear J I mO zc Mk nB T8 T9 T_ Ua hE zS Ub z_ LI Lp Ls LB K8;unfold h1 at ne hS i2 nG oa Ak;generalize(ar wr (aw #[O Q b.a1,.bool b.en,.string b.name,O Q b.ao,O Q b.bG,O Q b.bB,U gF (M b.br) wc] 202)).drew=s at*;generalize(S (R wr))=ob at*;generalize aO u ob 7=My at*;have jt:=hS.aa 6;simp at jt;have Az:=hS.am;have MA:ob<S (R s)+1:=T;have MC:ob<S (R s)+1+1:=T;go_upto_if 41 with fail;have MD:b_ s (ar (ar s (aw #[O Q k] 3)) (aw #[U (some ⟨S (R s),0,none⟩) 1 1] 48)) none:=⟨rfl,rfl,rfl,b7,λo x _=>(fY _ _ _ b7).trans (fY _ _ _ x)⟩
   go_cut [8]from 16 to 87 (λAE wc=>∃hV,ei A L j D z hV wc/\cZ hV wc (U (some ⟨gE,0,none⟩) (M Z) c) Z/\r6 hV wc (U (some ⟨gC,0,none⟩) (M i) hu) i/\dZ hV wc AE (hD (dD z.aj W) z.aj k))
   case first=>
    have MT:=fv s (aw #[O Q k] 3) none;obtain⟨jW,M1⟩:=ne.bT MT (aN _) 7;have M9:=Ln (aO My (S (R s)) 7) (ar s (aw #[O Q k] 3)) (S (R s)) k (aL.bT _ _ _) (cy _ _ _);have Nt:=fv (ar s (aw #[O Q k] 3)) (aw #[U (some ⟨S (R s),0,none⟩) 1 1] 48) none;obtain⟨B,AV⟩:=jW.bT Nt (aN _) 7;have AW:=BO _ _ _ _ _ (aL.bT (ar s (aw #[O Q k] 3)) #[U (some ⟨S (R s),0,none⟩) 1 1] 48) (cy _ _ _) (M9.w AV);have gg:=M1.trans AV;have C:=i2.w gg;have K:=nG.w gg;have Bg:=oa.w gg;obtain⟨Bo,Bt⟩:=hS.w Ai gg;clear jW M1 AV MT Nt M9 gg ne i2 nG oa hS Ai MD;rw[hQ]at B AW C K Bg Bt;generalize aO (aO My (S (R s)) 7) (S (R s)+1) 7=hZ at*;by_cases oH:M b.br=0
    ·have Ue:(M b.br:Int)<=0:=by omega
     have oS:ag (hD (dD z.aj W) z.aj k=[[k]]):=Qb Mj.out oH;clear oH;go_wp2
     go_meet
     case rel=>exact⟨hZ,B,C,K,by rw[oS.out];exact AW⟩
    ·have Ue:(0:Int)<(M b.br:Int):=by omega
     have oS:ag (hD (dD z.aj W) z.aj k=b.br.flatMap (dD z.aj W)):=MR Mj.out oH;rw[oS.out]at ys;have NF:decide (0<M b.br)=true:=by simp only[jF];omega
     rw[NF];clear oH AW Ak NF;have Uf:∀l,M ((b.br.take l).flatMap (dD z.aj W))<=16:=λl=>by
      have e:b.br.flatMap (dD z.aj W)=(b.br.take l).flatMap (dD z.aj W)++(b.br.drop l).flatMap (dD z.aj W):=by rw[<-nV,vi]
      rw[e,bV]at ys;omega
     have Ug:ag (∀NR∈b.br,vZ z.aj W NR/\1<=M (dD z.aj W NR)):=y2;have Uh:ag (vv W z):=wB;clear y2 wB yC xr ys;have OD:=Bo.aa 6;simp at OD;go_wp2_with fail
     go_loopw [8,9] (λAE o Ui=>∃l:Nat,l<=M b.br/\o=O Q l/\Rm A L j D z (U (some ⟨gE,0,none⟩) (M Z) c) Z (U (some ⟨gC,0,none⟩) (M i) hu) i ob b (U gF (M b.br) wc) AE ((b.br.take l).flatMap (dD z.aj W)) Ui) (λ_ o _=>M b.br-(bm o).toNat)
     case atStart=>exact⟨0,bL _,rfl,hZ,B,C,K,Bg,Bo,Bt,jA.cL _ _ _⟩
     case round=>
      obtain⟨l,Vg,rfl,o6,v,P,w,BE,pa,j4,E⟩:=hrel;clear B C K Bg Bo Bt jt OD Az MA MC;have jt:=pa.aa 6;simp[h1]at jt;have Az:=pa.am;by_cases BH:l<M b.br
      ·obtain⟨Vh,Vi,Uj,OF,Vj,Vk,OG,Uk,OW⟩:=BE.pR T;simp only[mi]at OF;obtain⟨rfl,_,rfl⟩:=OF;have py:=OG l (Uj[l]'T) av;rw[ez,du]at py;have BN:=OW l T BH;obtain⟨Vl,Vm,Vn,Ul⟩:=BN.cV;rw[Ul]at py BN;have Pn:=b4 BH;obtain⟨P1,Rp⟩:=Ug.out _ Pn;have RR:ag ((b.br.take (l+1)).flatMap (dD z.aj W)=(b.br.take l).flatMap (dD z.aj W)++dD z.aj W b.br[l]):=Db _ _ _ BH;have Um:=Uf (l+1);rw[RR.out,bV]at Um;have Un:=Uh.out b.br[l] P1 o6 wr j D _ v.aV BN;have Vo:(0:Int)<=(l:Int):=T;have Vp:(l:Int)<(M b.br:Int):=T;generalize dD z.aj W b.br[l]=RU at*;generalize(b.br.take l).flatMap (dD z.aj W)=gj at*;clear OG Uk OW P1 Pn;go_wp2_with(first|(go_at_call 59;refine Un.mono ?_;rintro e gf ⟨Vq,j9,rfl,Uo,BP,Up⟩;obtain⟨Uq,Ur,Sc,rfl,Vr,Sn,Us,Ut,Uu⟩:=Up.pR Rp;have kp:ei A L j D z j9 gf:=⟨Uo,v.bo.trans BP⟩;obtain⟨ih,F,pF,pR,pU⟩:=E.bo BP;obtain⟨pX,pZ,qp,qt,qP⟩:=dY Tryz.zS)|(at_builtin;refine dq _ rfl _ _ 40 rfl 0 48 pX _ 1 24 underlying40 pZ qp qt qP rfl ak _ (M gj) ih bf F ⟨Uq,0,none⟩ (M RU) Ur Sc bf (by rw[Sn];simp) Us Ut Rp cN T (bL _) (S (R gf)) rfl ?_;intro Sy SV y kr kx k1 Vs))
       obtain⟨k7,lo,Uv⟩:=kp.C F pF pR pU (jL:=Sc) (ct:=RU) Sn Uu kr kx k1;have qW:=BP.w.trans lo;obtain⟨Uw,Ux⟩:=pa.w j4 qW;go_roundw
       case rel=>exact⟨l+1,T,bE,_,k7,P.w qW,w.w qW,BE.w qW,Uw,Ux,by rw[RR.out];exact Uv⟩
       case measure=>simp[bm];omega
      ·have e:l=M b.br:=by omega
       subst e;rw[eQ]at E;obtain⟨j9,kp,iR,BV⟩:=v.mO E;have Cs:=P.w iR;have Uy:=w.w iR;clear v P w BE pa j4 E iR;go_wp2_with fail
       go_meet
       case rel=>exact⟨j9,kp,Cs,Uy,by rw[oS.out];exact BV⟩
   case rest=>
    obtain⟨hV,jW,SY,S1,Cz⟩:=hcut;clear ne i2 nG oa hS Ai jt Az MA MC MD Ak wB y2;generalize hD (dD z.aj W) z.aj k=f at*;have Th:ag (m5=i.flatMap λq=>f.map λg=>q++g):=y5.out;clear y5;have Uz:ag (∀q∈f,M q<=100000/\q≠[]):=yC;have UA:ag (∀q∈i,M q<=100000):=λq i1=>(xr q i1).1
    have UB:ag (∀ra,M ((i.take ra).flatMap λq=>f.map λg=>q++g)<=16):=λra=>by
     have e:m5=((i.take ra).flatMap λq=>f.map λg=>q++g)++((i.drop ra).flatMap λq=>f.map λg=>q++g):=by rw[Th.out,<-nV,vi]
     have:=LL.out;rw[e,bV]at this;omega
    obtain⟨CS,Vt,DM,rfl,UC,_⟩:=Cz.o;subst UC;clear yC xr;go_wp2_with fail
    go_loopw [11,12] (λD7 o UD=>∃p:Nat,p<=M i/\o=O Q p/\Bb A L j D z (U (some ⟨gE,0,none⟩) (M Z) c) Z (U (some ⟨gC,0,none⟩) (M i) hu) i (U CS (M f) DM) f D7 ((i.take p).flatMap λq=>f.map λg=>q++g) UD) (λ_ o _=>M i-(bm o).toNat)
    case atStart=>exact⟨0,bL _,rfl,hV,jW,SY,S1,Cz,jA.cL _ _ _⟩
    case round=>
     obtain⟨p,Vu,rfl,hZ,B,C,K,D9,l8⟩:=hrel;clear jW SY S1 Cz;by_cases El:p<M i
     ·have Vv:(0:Int)<=(p:Int):=by omega
      have Vw:(p:Int)<(M i:Int):=T;have Tj:ag (((i.take (p+1)).flatMap λq=>f.map λg=>q++g)=((i.take p).flatMap λq=>f.map λg=>q++g)++f.map λg=>i[p]++g):=Db _ _ _ El;have UE:=UB.out (p+1);rw[Tj.out,bV,c_]at UE;have UF:ag (M i[p]<=100000):=UA.out _ (b4 _);generalize TH:i[p]=r at*;generalize((i.take p).flatMap λq=>f.map λg=>q++g)=gj at*;go_wp2_with fail
      go_loopw [11,13] (λD7 o UG=>∃m:Nat,m<=M f/\o=O Q m/\Bb A L j D z (U (some ⟨gE,0,none⟩) (M Z) c) Z (U (some ⟨gC,0,none⟩) (M i) hu) i (U CS (M f) DM) f D7 (gj++(f.take m).map λg=>r++g) UG) (λ_ o _=>M f-(bm o).toNat)
      case atStart=>exact⟨0,bL _,rfl,hZ,B,C,K,D9,by simpa using l8⟩
      case round=>
       obtain⟨m,Vx,rfl,o6,v,P,w,me,E⟩:=hrel;clear B C K D9 l8;by_cases ET:m<M f
       ·obtain⟨TJ,Vy,UH,TK,UI,Vz,TP,UJ,TQ⟩:=me.pR T;simp only[mi]at TK;obtain⟨rfl,_,rfl⟩:=TK;have Fi:=TP m (UH[m]'T) av;rw[ez,du]at Fi;have FM:=TQ m T ET;have rA:=Uz.out _ (b4 ET);obtain⟨iU,hE,F2,UK,j4⟩:=FM.pR rA.2;rw[F2]at Fi;obtain⟨VA,VB,UL,TR,VC,VD,TS,UM,TT⟩:=w.1.pR T;simp only[mi,j0,xU]at TR;obtain⟨⟨rfl,_⟩,_,rfl⟩:=TR;have rR:=TS p (UL[p]'T) av;rw[ez,du]at rR;have sY:=TT p T El;rw[TH]at sY;have TU:ag ((f.take (m+1)).map (λg=>r++g)=(f.take m).map (λg=>r++g)++[r++f[m]]):=by show _=_;rw[ev ET,dv];rfl
        have VE:(0:Int)<=(m:Int):=T;have VF:(m:Int)<(M f:Int):=T;have VG:=rA.1;have TV:0<M f[m]:=lw.2 rA.2;have VH:ag (cZ o6 wr (U (some ⟨iU,0,none⟩) (M f[m]) hE) f[m]):=by show cZ _ _ _ _;rw[<-F2];exact FM
        clear TP UJ TQ TS UM TT FM rA F2;obtain⟨pX,pZ,qp,qt,qP⟩:=dY Tryz.zS;obtain⟨F4,Ga,Gl,Gx,Hp⟩:=dY Tryz.ys;obtain⟨ih,F,pF,pR,pU⟩:=E;have VI:M (gj++(f.take m).map λg=>r++g)<=15:=by simp only[bV,c_,hT];omega
        generalize VJ:f[m]=t at*;generalize TW:(gj++(f.take m).map λg=>r++g)=tB at*;have VK:=UF.out;have VL:=v.bo.b5;by_cases tI:r=[]
        ·have t8:=w.2 gC _ _ rfl p El (by rw[TH];exact tI);rw[rR]at t8;simp only[j0]at t8;rw[t8]at rR;clear t8 sY;go_wp2_with(first|(at_builtin;refine dq _ rfl _ _ 40 rfl 0 48 pX _ 1 24 underlying40 pZ qp qt qP rfl ak _ (M tB) ih bf (mn.alloc _) ⟨S (R y),0,none⟩ 1 1 [U (some ⟨S (R wr),0,none⟩) (M t) ub] bf rfl (c4 (cB _ _ _ av)) ey ak cN T (bL _) (S (R y)+1) av ?_;intro Sy SV UN kr kx k1 UO)|(at_builtin;refine dq _ rfl _ _ 48 rfl 0 3 F4 _ 1 8 underlying48 Ga Gl Gx Hp rfl ak _ 0 [] bf (eE _ _ _ _) ⟨iU,0,none⟩ (M t) hE (t.map λW:Nat=>O Q (W:Int)) bf av j4 ey TV cN T (bL _) (S (R wr)) rfl ?_;intro HY ub y ug uY vE UP;have gL:b_ wr y none:=uY;obtain rfl:HY=S (R wr):=(by rcases vE with e|e;exact absurd e (by simp[ap]);exact e);obtain⟨k7,lo,H_⟩:=v.nj gL (N:=S (R wr)) (aN _) (W:=M t) (b1:=ub) (Z:=t) (by simpa using ug);have mn:aY y 0 48 1 u11 (M tB) ih:=cw F (λN i0=>gL.block N (F.lt N i0).2 av)))
         obtain⟨J3,Ko,g1,Kp⟩:=k7.bg lo (λa xk=>cR _ _ _ _ T) F mn pF pR pU H_ kr kx k1;refine⟨⟨m+1,T,bE,J3,Ko,P.w g1,w.w g1,me.w g1,?_⟩,by simp[bm];omega⟩;rw[TU.out,<-ke,TW,tI];exact Kp
        ·obtain⟨UQ,zS,TX,VM,UR⟩:=sY.pR tI;rw[TX]at rR;have US:0<M r:=lw.2 tI;clear sY TX;go_wp2_with(first|(at_builtin;refine dq _ rfl _ _ 40 rfl 0 48 pX _ 1 24 underlying40 pZ qp qt qP rfl ak _ (M tB) ih bf (mn.alloc _) ⟨S (R y),0,none⟩ 1 1 [U (some ⟨Kz,0,none⟩) (M r+M t) TY] bf rfl (c4 (cB _ _ _ av)) ey ak cN T (bL _) (S (R y)+1) av ?_;intro Sy SV UN kr kx k1 UO)|(at_builtin;refine dq _ rfl _ _ 48 rfl 0 3 F4 _ 1 8 underlying48 Ga Gl Gx Hp rfl ak _ (M r) (r.map λW:Nat=>O Q (W:Int)) bf UT ⟨iU,0,none⟩ (M t) hE (t.map λW:Nat=>O Q (W:Int)) bf av UU ey TV cN T (bL _) (S (R gf)) rfl ?_;intro Kz TY y TZ T0 T1 VN;have T2:b_ wr y none:=O0 gL T0 (aN _);have UV:S (R wr)<=Kz:=(by rcases T1 with e|e;(simp[ap]at e;omega);(have:=gL.size;omega));obtain⟨k7,lo,H_⟩:=v.nj T2 (N:=Kz) UV (W:=M r+M t) (b1:=TY) (Z:=r++t) (by rw[dv];exact TZ);have mn:aY y 0 48 1 u11 (M tB) ih:=cw F (λN i0=>T2.block N (F.lt N i0).2 av);clear T0 T1 TZ)|(at_builtin;refine dq _ rfl _ _ 48 rfl 0 3 F4 _ 1 8 underlying48 Ga Gl Gx Hp rfl ak _ 0 [] bf (eE _ _ _ _) ⟨UQ,0,none⟩ (M r) zS (r.map λW:Nat=>O Q (W:Int)) bf av UR ey US cN T (bL _) (S (R wr)) rfl ?_;intro HY ub gf ug uY vE UP;have gL:b_ wr gf none:=uY;obtain rfl:HY=S (R wr):=(by rcases vE with e|e;exact absurd e (by simp[ap]);exact e);have UT:aY gf 0 3 1 (U (some ⟨S (R wr),0,none⟩) (M r) ub) (M r) (r.map λW:Nat=>O Q (W:Int)):=(by simpa using ug);have VO:aK gf ⟨TJ,m,none⟩=some (U (some ⟨iU,0,none⟩) (M t) hE):=(dn (gL.block TJ UI av) _).trans Fi;have UU:∀k wz,(t.map λW:Nat=>O Q (W:Int))[k]?=some wz->aK gf ((⟨iU,0,none⟩:Addr).add k)=some wz:=(λk wz py=>by have:=j4 k wz py;rw[ez,du]at this⊢;exact(dn (gL.block iU UK av) _).trans this);clear uY vE ug))
         obtain⟨J3,Ko,g1,Kp⟩:=k7.bg lo (λa xk=>cR _ _ _ _ T) F mn pF pR pU H_ kr kx k1;refine⟨⟨m+1,T,bE,J3,Ko,P.w g1,w.w g1,me.w g1,?_⟩,by simp[bm];omega⟩;rw[TU.out,<-ke,TW];exact Kp
       ·have e:m=M f:=by omega
        subst e;rw[eQ]at E;have UW:Bb A L j D z (U (some ⟨gE,0,none⟩) (M Z) c) Z (U (some ⟨gC,0,none⟩) (M i) hu) i (U CS (M f) DM) f u11 (gj++f.map λg=>r++g) wr:=⟨o6,v,P,w,me,E⟩;clear v P w me E;go_wp2_with fail;go_roundw
        case rel=>exact⟨p+1,T,bE,by rw[Tj.out];exact UW⟩
        case measure=>simp[bm];omega
     ·have e:p=M i:=by omega
      subst e;rw[eQ,<-Th.out]at l8;obtain⟨j9,kp,iR,BV⟩:=B.mO l8;have Cs:=C.w iR;clear B C K D9 l8 iR;go_wp2_with fail;go_roundw
      case rel=>exact⟨a+1,T,bE,j9,kp,Cs,by rw[LU.out];exact⟨BV,λN W c e o x i1=>absurd i1 (LQ.out _ (b4 _))⟩⟩
      case measure=>simp[bm];omega
  ·have e:a=M Z:=by omega
   subst e;have UX:ag (dD z.aj (W+1) Z=iH z.aj W Z (M Z)):=(Ix _ _ _).symm;have UY:ag (∃u,bQ u wr j D z/\aU A L u wr/\dZ u wr (U (some ⟨gC,0,none⟩) (M (iH z.aj W Z (M Z))) hu) (iH z.aj W Z (M Z))):=⟨u,J.aV,J.bo,mO.1⟩;clear Lp Ls LB K8 iZ xf;go_wp2_with fail;go_ret;obtain⟨hZ,UZ,Aq,U0⟩:=UY.out;exact⟨_,hZ,rfl,UZ,Aq,by rw[UX.out];exact U0⟩
theorem MY:vv 0 z:=by
 intro Z l A L j D t h b;have e:Z=[]:=l;subst e;obtain⟨d,v,c,rfl,f,_⟩:=b.o;simp at f;subst f;have g:=fv L (aw #[U none 0 0] 48) none;obtain⟨a,m⟩:=(ei.mk h (aU.l _ _):ei A L j D z A L).bT g (aN _) 7;have i:=BO (aO A (S (R L)) 7) _ (S (R L)) _ [] (aL.bT L #[U none 0 0] 48) (cy _ _ _) (cZ.cL _ _);have o:ag (∃u,bQ u (ar L (aw #[U none 0 0] 48)) j D z/\aU A L u (ar L (aw #[U none 0 0] 48))/\dZ u (ar L (aw #[U none 0 0] 48)) (U (some ⟨S (R L),0,none⟩) 1 1) [[]]):=⟨_,a.aV,a.bo,i⟩;clear h b g a m i;go_enter func59,ntmps59;go_wp2_with fail
 go_loopw [5,6] (λH k wr=>H=U (some ⟨S (R L),0,none⟩) 1 1/\k=O Q 0/\wr=ar L (aw #[U none 0 0] 48)) (λ_ k _=>0)
 case atStart=>exact⟨rfl,rfl,rfl⟩
 case round=>obtain⟨rfl,rfl,rfl⟩:=hrel;go_wp2_with fail;go_ret;obtain⟨p,q,r,s⟩:=o.out;exact⟨_,p,rfl,q,r,s⟩
theorem Ol(a:M z.aj<=1000)(W:Nat):vv W z:=by
 induction W with
 |zero=>exact MY
 |succ W b=>exact Ns a W b
theorem ei.mY(c:Nat)(m:7<c){wr:aq}(h:ei A L j D z u wr)(g:∀N,ap H=some N->u N=c/\S (R L)<=N)(d:b_ wr G (ap H))(f:ap H=some N\/N=S (R wr)):
 ei A L j D z (aO u N c) G/\eT u wr (aO u N c) G/\S (R L)<=N:=by
 have i:∀a,ap H=some a->u a=c:=λa b=>(g a b).1
 have o:S (R L)<=N:=by
  rcases f with e|e
  ·exact(g N e).2
  ·have:=h.bo.b5;omega
 refine⟨⟨h.aV.nG c m i d f,h.bo.nG c d (λa b=>(g a b).2) f⟩,⟨d.size,λa b k=>?_⟩,o⟩;have p:a≠N:=λe=>by
  rcases f with l|l
  ·have:=i N l;rw[<-e,k]at this;omega
  ·omega
 refine⟨(cR _ _ _ _ p).trans k,d.block a b (λe=>?_)⟩;have:=i a e.symm;omega
def js(g:Nat->Nat)(L:aq)(e:an)(f:List Nat)(h:Nat):Prop:=aY L 0 3 1 e (M f) (f.map λi:Nat=>O Q (i:Int))/\∀N,ap e=some N->g N=10/\h<=N
theorem js.cL(A:Nat->Nat)(L:aq)(gf:Nat):js A L (U none 0 0) [] gf:=⟨eE _ _ _ _,λN a=>by simp[ap]at a⟩
def l3(e:(Nat×List Nat)×an):List an:=[O Q (e.1.1:Nat),e.2]
def eN(m:Nat)(i:Nat->Nat)(L:aq)(l:an)(e:List (Nat×List Nat))(p:Nat):Prop:=
 ∃f:List an,M f=M e/\aY L 0 204 2 l (M e) (bC l3 (e.zip f))/\(∀N,ap l=some N->i N=m/\p<=N)/\∀g,(h:g<M f)->(s:g<M e)->cZ i L f[g] e[g].2
theorem eN.cL(c:Nat)(A:Nat->Nat)(L:aq)(gf:Nat):eN c A L (U none 0 0) [] gf:=⟨[],rfl,eE _ _ _ _,λN a=>by simp[ap]at a,λb h=>by simp at h⟩
theorem eN.f3{I:Option Nat}(h:eN 9 A L H J gf)(g:eT A L (aO A N c) G)(i:b_ L G I)(k:∀a,I=some a->A a=c)(l:9≠c)(m:I=some N\/N=S (R L)):eN 9 (aO A N c) G H J gf:=by obtain⟨p,q,r,f,s⟩:=h;obtain⟨d,j⟩:=fH (N:=N) 9 c r (λa e=>(f a e).1) i k l m;exact⟨p,q,d,λa e=>⟨j a e,(f a e).2⟩,λt b u=>(s t b u).w g⟩
theorem js.y(h:js A L H Z gf)(c:∀a,a<S (R L)->u a=A a/\(R G)[a]?=(R L)[a]?):js u G H Z gf:=
 ⟨cw h.1 λN b=>(c N (h.1.lt N b).2).2,λN b=>⟨((c N (h.1.lt N b).2).1).trans (h.2 N b).1,(h.2 N b).2⟩⟩
theorem eN.y(h:eN c A L H J gf)(i:eT A L u G)(f:∀a,a<S (R L)->u a=A a/\(R G)[a]?=(R L)[a]?):eN c u G H J gf:=by obtain⟨j,k,e,g,l⟩:=h;exact⟨j,k,cw e λN d=>(f N (e.lt N d).2).2,λN d=>⟨((f N (e.lt N d).2).1).trans (g N d).1,(g N d).2⟩,λm b p=>(l m b p).w i⟩
theorem js.mO{wr:aq}(b:ei A L j D z u wr)(h:js u wr H Z (S (R L))):∃c,ei A L j D z c wr/\eT u wr c wr/\cZ c wr H Z/\∀a,u a=9->c a=9:=by
 obtain⟨f,g⟩:=h;cases d:ap H with
 |none=>exact⟨u,b,eT.l _ _,⟨⟨_,f⟩,λN e=>by rw[d]at e;cases e⟩,λ_ e=>e⟩
 |some N=>
  obtain⟨m,o⟩:=g N d;refine⟨aO u N 7,⟨b.aV.mR 7 T,⟨λa i=>(cR _ _ _ _ T).trans (b.bo.ci a i),b.bo.db⟩⟩,⟨aN _,λa _ k=>⟨?_,rfl⟩⟩,⟨⟨_,f⟩,λp e=>by rw[d]at e;cases e;exact cy _ _ _⟩,λa e=>?_⟩
  ·by_cases e:a=N
   ·subst e;exact cy _ _ _
   ·rw[cR _ _ _ _ e];exact k
  ·rw[cR];exact e;intro l;subst l;omega
theorem eN.C{wr:aq}(q:ei A L j D z u wr){f:List an}(m:M f=M J)(r:∀N,ap H=some N->u N=9/\S (R L)<=N)(s:∀g,(h:g<M f)->(K:g<M J)->cZ u wr f[g] J[g].2){l:List Nat}{i:an}(t:cZ u wr i l)(v:aY G 0 204 2 (U (some ⟨N,0,none⟩) (M J+1) b1) (M J+1) (bC l3 (J.zip f)++[O Q (k:Nat),i]))(B:b_ wr G (ap H))(E:ap H=some N\/N=S (R wr)):
 ei A L j D z (aO u N 9) G/\eT u wr (aO u N 9) G/\eN 9 (aO u N 9) G (U (some ⟨N,0,none⟩) (M J+1) b1) (J++[(k,l)]) (S (R L)):=by
 obtain⟨d,a,c⟩:=q.mY 9 ak r B E;refine⟨d,a,f++[i],by simp[m],?_,λa e=>by cases e;exact⟨cy _ _ _,c⟩,?_⟩
 ·have e:(J++[(k,l)]).zip (f++[i])=J.zip f++[((k,l),i)]:=v_ _ _ _ _ m;rw[e,jc];simpa[l3]using v
 ·intro g b F;by_cases x:g<M f
  ·have p:g<M J:=by omega
   rw[iz x];have:=(s g x p).w a;rw[iz p];exact this
  ·simp only[bV,dT,d5]at b F;have I:g=M f:=T;have P:g=M J:=T;rw[iV T,iV T];simp only[I,rM,pv];have:M f-(M J)=0:=T;simp only[this,pv];exact t.w a
theorem eN.mO{wr:aq}(c:ei A L j D z u wr)(h:eN 9 u wr H J (S (R L))):∃f,ei A L j D z f wr/\eT u wr f wr/\eN 7 f wr H J (S (R L)):=by
 obtain⟨i,k,l,p,m⟩:=h;cases g:ap H with
 |none=>exact⟨u,c,eT.l _ _,i,k,l,(λN e=>by rw[g]at e;cases e),m⟩
 |some N=>
  obtain⟨v,q⟩:=p N g;have d:eT u wr (aO u N 7) wr:=⟨aN _,λa _ r=>⟨by
   by_cases e:a=N
   ·subst e;exact cy _ _ _
   ·rw[cR _ _ _ _ e];exact r,rfl⟩⟩
  refine⟨aO u N 7,⟨c.aV.mR 7 T,⟨λa d=>(cR _ _ _ _ T).trans (c.bo.ci a d),c.bo.db⟩⟩,d,i,k,l,(λx e=>by rw[g]at e;cases e;exact⟨cy _ _ _,q⟩),λs b t=>(m s b t).w d⟩
theorem Tryz.Nt:(prog.info? 204).map (λa=>(a.zero,a.size,a.bytes))=some (some (.agg #[O Q 0,U none 0 0]),2,32):=by kernel_rfl
theorem K2(r:List cA)(e:∀b∈r,0<=b.bG/\b.bG<=4)(I:List Nat)(a:Nat)(j:a<=M I):M ((I.take a).foldl (gK r) ([],[], -1)).1<=4*a/\M ((I.take a).foldl (gK r) ([],[], -1)).2.1<=a:=by
 have f:∀(k W:Nat) (c:List (Nat×List Nat)×List Nat),M (g0 k W c).1=M c.1+W/\M (g0 k W c).2<=M c.2:=by
  intro k W c
  induction W with
  |zero=>exact⟨rfl,aN _⟩
  |succ W d=>exact⟨by simp only[g0,bV,dT,d5];omega,by simp[g0]⟩
 induction a with
 |zero=>simp
 |succ a d=>
  rw[pI _ _ _ _ T];have h:=d T;generalize(I.take a).foldl (gK r) ([],[], -1)=c at*;unfold gK;cases g:r[I[a]]? with
  |none=>simp only;omega
  |some b=>
   simp only;have:=e b (m1 g);split
   ·simp only[bV,dT,d5];omega
   ·have i:=f I[a] b.bG.toNat (c.1,c.2.1);simp only at i⊢;omega
