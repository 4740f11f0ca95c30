import Derived.Test.YtddbjcfdmdbmkaaGreatDoorB24
set_option linter.all false
set_option maxRecDepth 100000
namespace Go.Proofs.YtddbjcfdmdbmkaaGreatDoor
open Go.Proofs.Tryz
variable{b a:List (List Nat)}{X c:Nat}
def mB(d:List (List Nat))(e:List Nat):Prop:=d=[]\/gm (d.getLastD []) e
structure po (Z ew:List (List Nat)):Prop where
 qk:h8 ew
 y4:∀bb∈ew,bb∈Z
 eC:∀bb∈Z,bb∈ew\/mB ew bb
theorem po.jt(a:List (List Nat)):po a []:=⟨List.Pairwise.nil,λb h=>by simp at h,λb _=>.inr (.inl rfl)⟩
def j_(e f:List (List Nat))(g:Nat)(i:Option Nat):Prop:=match i with
 |none=>∀d,d<g->¬mB f (e.getD d [])
 |some h=>h<g/\mB f (e.getD h [])/\∀d,d<g->mB f (e.getD d [])->¬gm (e.getD d []) (e.getD h [])
theorem NN(h:h8 b){d:List Nat}(g:d∈b):d=b.getLastD []\/gm d (b.getLastD []):=by
 have i:b≠[]:=by rintro rfl;simp at g
 obtain⟨c,a,e⟩:∃c a,b=c++[a]:=by
  rcases r7 b with h|⟨c,a,h⟩
  ·exact absurd h i
  ·exact⟨c,a,by simpa using h⟩
 subst e;have j:(c++[a]).getLastD []=a:=by simp[l7]
 rw[j];rcases dm.1 g with f|f
 ·right;exact(ut.1 h).2.2 d f a av
 ·left;simpa using f
theorem po.q(h:po a b)(m:j_ a b a.length (some X)):po a (b++[a.getD X []]):=by
 obtain⟨o,g,p⟩:=m;have r:a.getD X []∈a:=by simp[List.getD,o]
 have s:(b++[a.getD X []]).getLastD []=a.getD X []:=by simp[l7]
 have t:∀f∈b,gm f (a.getD X []):=by
  intro f c;rcases g with e|g
  ·subst e;simp at c
  ·rcases NN h.qk c with e|d
   ·rw[e];exact g
   ·exact tV d g
 refine⟨?_,λf c=>?_,λf c=>?_⟩
 ·unfold h8;rw[ut];exact⟨h.qk,A3 _ _,λf c v u=>by rw[dB.1 u];exact t f c⟩
 ·rcases dm.1 c with d|d
  ·exact h.y4 f d
  ·rw[dB.1 d];exact r
 ·rcases h.eC f c with d|d
  ·exact .inl (dm.2 (.inl d))
  ·obtain⟨i,j,rfl⟩:=qQ.1 c;have e:a.getD i []=a[i]:=by simp[List.getD,j]
   have k:=p i j (by rw[e];exact d);rw[e]at k;by_cases l:a[i]=a.getD X []
   ·exact .inl (by rw[l];simp)
   ·right;right;rw[s];exact EW k l
theorem po.mc{a b:List (List Nat)}(h:po a b)(j:j_ a b a.length none):∀c,c∈b↔c∈a:=by
 intro c;refine⟨h.y4 c,λg=>?_⟩;rcases h.eC c g with d|d
 ·exact d
 ·obtain⟨f,i,rfl⟩:=qQ.1 g;have e:a.getD f []=a[f]:=by simp[List.getD,i]
  exact absurd (by rw[e];exact d) (j f i)
theorem Oh{f:Option Nat}(h:j_ a b c f)(i:¬mB b (a.getD c [])):j_ a b (c+1) f:=by
 cases f with
 |none=>
  intro d j;by_cases e:d=c
  ·rw[e];exact i
  ·exact h d T
 |some X=>
  obtain⟨m,k,l⟩:=h;refine⟨T,k,λd j g=>?_⟩;by_cases e:d=c
  ·rw[e]at g;exact absurd g i
  ·exact l d T g
theorem Ks(h:j_ a b c none)(f:mB b (a.getD c [])):j_ a b (c+1) (some c):=by
 refine⟨T,f,λd i g=>?_⟩;by_cases e:d=c
 ·rw[e];exact q3 _
 ·exact absurd g (h d T)
theorem Q_(h:j_ a b c (some X))(f:¬gm (a.getD c []) (a.getD X [])):j_ a b (c+1) (some X):=by
 obtain⟨k,g,i⟩:=h;refine⟨T,g,λd l j=>?_⟩;by_cases e:d=c
 ·rw[e];exact f
 ·exact i d T j
theorem SI(h:j_ a b c (some X))(g:mB b (a.getD c []))(i:gm (a.getD c []) (a.getD X [])):j_ a b (c+1) (some c):=by
 obtain⟨l,m,j⟩:=h;refine⟨T,g,λf o k d=>?_⟩;by_cases e:f=c
 ·rw[e]at d;exact q3 _ d
 ·exact j f T k (tV d i)
theorem eK{L:World}{c e d a:Nat}{b:Value}{f:List Value}(h:L.ownsRow c e d b a f):∃g i,b=.slice g a i:=by
 rcases h.2 with⟨e,j⟩|⟨N,k,l,e,_⟩
 ·exact⟨none,0,by rw[e,j]⟩
 ·exact⟨_,_,e⟩
