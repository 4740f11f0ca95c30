import Derived.Test.YtddbjcfdmdbmkaaGreatDoorB22
set_option linter.all false
set_option maxRecDepth 100000
set_option maxHeartbeats 800000
namespace Go.Proofs.YtddbjcfdmdbmkaaGreatDoor
open Go.RowKit Go.Sort Go.Proofs.Tryz
open Go.IntKind renaming i64->Q
open Go renaming Value->an,World->aq
open Go.Value renaming int->O,slice->U,ownBlock->ap
open Go.World renaming grownBy->b_,ownsRow->aY
open List renaming length->M
variable{L:aq}{N c b:Nat}{a:List Int}
theorem Fc{bD:Type} [Inhabited bD](c:bD->an)(L:aq)(b d:Nat)(f:Array bD)(a:Nat)(h:a≠b):(putRow c L b d f).heap[a]?=L.heap[a]?:=by unfold putRow mapBlock;rw[we,aH (λe=>h e.symm)]
theorem P4{bD:Type} [Inhabited bD](b:bD->an)(L:aq)(a c:Nat)(d:Array bD){f:Array an}{e:TypeId}{g:Nat×Nat}(h:L.heap[a]?=some (.cells f e g)):(putRow b L a c d).heap[a]?=some (.cells (putCells b c d f) e g):=by unfold putRow mapBlock;rw[we,aP rfl,h];rfl
theorem JF{bD:Type} [Inhabited bD](b:bD->an)(L:aq)(c a d:Nat)(f:Array bD):b_ L (putRow b (Sort.ahead L c) a d f) (some a):=
 ⟨rfl,rfl,rfl,av,λg _ h=>(Fc b (Sort.ahead L c) a d f g (λe=>h (by rw[e])))⟩
theorem F1{bD:Type} [Inhabited bD]{ti:bD->an}{f e b cO bu:Nat}{j:List an}(h:aY L f e 1 (U (some ⟨N,0,none⟩) b c) b j)(a:Array bD)(t:a.size<=b)(u:cO<=a.size):aY (putRow ti (Sort.ahead L bu) N 0 a) f e 1 (U (some ⟨N,0,none⟩) cO c) cO ((a.toList.take cO).map ti):=by
 obtain⟨v,k⟩:=h;rcases k with⟨h,_⟩|⟨w,x,g,l,m,o,y,p,q,z⟩
 ·cases h
 ·cases l;refine⟨b7,.inr ⟨N,c,putCells ti 0 a g,rfl,m,P4 ti (Sort.ahead L bu) N 0 a o,T,p,by simp[putCells,q],?_⟩⟩;apply List.ext_getElem?;intro d;rw[Nat.mul_one];by_cases i:d<cO
  ·have r:d<g.size:=by omega
   have s:d<a.size:=T;rw[AA i,gq,AA i];simp[putCells,r,s]
  ·rw[Ra b7,Ra b7]
theorem RP(h:aY L 0 3 1 (U (some ⟨N,0,none⟩) (M a) c) (M a) (a.map (O Q)))(m:b<=M a):
 Calls prog 106 #[U (some ⟨N,0,none⟩) (M a) c,O Q 0,O Q b] L λe i=>e=.returned (U (some ⟨N,0,none⟩) (M a-b) c)/\aY i 0 3 1 (U (some ⟨N,0,none⟩) (M a-b) c) (M (a.drop b)) ((a.drop b).map (O Q))/\b_ L i (some N):=by
 obtain⟨d,o,k,p,j⟩:∃d,aL L N d 3/\d.size=c*1/\M a<=c/\c<=9223372036854775807:=by
  rcases h.2 with⟨e,_⟩|⟨y,z,d,q,_,r,s,j,k,_⟩
  ·cases e
  ·cases q;exact⟨d,r,k,s,j⟩
 have t:Holds (O Q) L N 0 a.toArray:=by
  intro f u;have l:f<M a:=by simpa using u
  refine⟨?_,by rw[du];exact o.b f⟩;have:=h.cells (g:=N) rfl f (O Q a[f]) (by rw[gq,dz l];rfl);rw[ez]at this;rw[this];simp[l]
 have v:=Any.slices_Delete_int Tryz.delInt N 0 c 0 b a L t p j (bL _) m;refine Ay (show Calls prog 106 #[U (some ⟨N,0,none⟩) (M a) c,O Q 0,O Q b] L _ from v) ?_;rintro e i ⟨rfl,w,rfl⟩;refine⟨av,?_,JF _ _ _ _ _ _⟩;have:=F1 (ti:=O Q) (bu:=w) (cO:=M a-b) h (a.take 0++a.drop b++List.replicate (b-0) 0).toArray (by simp<;>omega) (by simp<;>omega);rw[la];have x:(a.take 0++a.drop b++List.replicate (b-0) 0).toArray.toList.take (M a-b)=a.drop b:=by simp only[List.take_zero,fa];rw[GM av];exact qA av
 rw[x]at this;exact this
theorem RN(L:aq):Calls prog 106 #[U none 0 0,O Q 0,O Q 0] L λe a=>e=.returned (U none 0 0)/\a=L:=by go_enter func106,ntmps106;go_wp2;go_ret;exact⟨rfl,rfl⟩
theorem I5{d:an}(h:aY L 0 3 1 d (M a) (a.map (O Q)))(k:b<=M a):
 Calls prog 106 #[d,O Q 0,O Q b] L λe f=>∃g i j,e=.returned (U g i j)/\aY f 0 3 1 (U g i j) (M (a.drop b)) ((a.drop b).map (O Q))/\b_ L f (ap d)/\ap (U g i j)=ap d:=by
 rcases h.2 with⟨rfl,l⟩|⟨N,c,q,rfl,_⟩
 ·have e:a=[]:=nx.1 l;subst e;have m:b=0:=by simpa using k
  subst m;refine(RN L).mono ?_;rintro e f ⟨rfl,rfl⟩;exact⟨none,0,0,rfl,eE _ _ _ _,⟨rfl,rfl,rfl,aN _,λ_ _ _=>rfl⟩,rfl⟩
 ·refine(RP h k).mono ?_;rintro e f ⟨rfl,o,p⟩;exact⟨_,_,_,rfl,o,p,rfl⟩
