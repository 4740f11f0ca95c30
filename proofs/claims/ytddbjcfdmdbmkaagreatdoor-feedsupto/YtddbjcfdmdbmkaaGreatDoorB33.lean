import Derived.Test.YtddbjcfdmdbmkaaGreatDoorB24
import Derived.Shelf.SlSortCmp.NoneTotal
set_option linter.all false
set_option maxRecDepth 100000
set_option maxHeartbeats 3200000
namespace Go.Proofs.YtddbjcfdmdbmkaaGreatDoor
open Go.RowKit Go.Sort Go.Proofs.Tryz
open Go.Ending renaming returned->aM
open Go renaming Value->an,World->aq
open Go.Value renaming slice->U,ownBlock->ap
open _root_.Array renaming size->S
open Go.World renaming cell?->aK,drewN->bY,heap->R,ownsRow->aY
open List renaming length->M
variable{o q d:Nat}{L aI:aq}{k:an}
structure et (dH:Nat) (L:aq) (a6:an) (bR:List (an×List Nat)):Prop where
 bg:L.ownsRow dH 48 1 a6 bR.length (bR.map (·.1))
 fP:∀bb∈bR,L.ownsRow dH 3 1 bb.1 bb.2.length (bb.2.map λn=>Value.int .i64 (n:Nat))
 oO:bR.Pairwise λbb nK=>∀N,bb.1.ownBlock=some N->nK.1.ownBlock≠some N
theorem et.cL(o:Nat)(L:aq):et o L (U none 0 0) []:=⟨eE _ _ _ _,λb a=>by simp at a,List.Pairwise.nil⟩
theorem et.gV{a:List (an×List Nat)}(h:et o L k a):∀b∈a,∀N,ap k=some N->ap b.1≠some N:=λb c=>i4 h.bg (h.fP b c) ak
theorem et.i{a:List (an×List Nat)}(h:et o L k a)(e:∀c,(ap k=some c\/∃b∈a,ap b.1=some c)->(R aI)[c]?=(R L)[c]?):et o aI k a:=
 ⟨cw h.bg λN d=>e N (.inl d),λb f=>cw (h.fP b f) λN d=>e N (.inr ⟨b,f,d⟩),h.oO⟩
def lX(L:aq)(e:Nat)(c:an×List Nat):Prop:=fb L c.1 c.2/\M c.2<=1000000/\∀N,ap c.1=some N->N≠e
instance (L:aq) (J9:Nat):Inhabited {bb:an×List Nat//lX L J9 bb}:=⟨⟨(U none 0 0,[]),⟨none,0,rfl,λh=>by simp at h⟩,av,λN No=>by simp[ap]at No⟩⟩
theorem fb.i{b:List Nat}(h:fb L k b)(p:S (R L)<=S (R aI))(d:∀a,ap k=some a->a<S (R L)->(R aI)[a]?=(R L)[a]?):fb aI k b:=by obtain⟨e,f,rfl,g⟩:=h;refine⟨e,f,rfl,λj=>?_⟩;obtain⟨N,rfl,l,m⟩:=g j;exact⟨N,rfl,T,λc o=>(dn (d N rfl l) c).trans (m c o)⟩
theorem OU{d:Nat}:SWO (ltOf λb a:{b:an×List Nat//lX L d b}=>dX b.1.2 a.1.2):=by
 have ba:∀b a:{b:an×List Nat//lX L d b},ltOf (λb a:{b:an×List Nat//lX L d b}=>dX b.1.2 a.1.2) b a=decide (gm b.1.2 a.1.2):=λb a=>rfl
 refine⟨λb=>?_,λb a i e f=>?_,λb a i e f=>?_⟩
 ·rw[ba];exact kt (q3 _)
 ·rw[ba]at*;exact lW (tV (t1 e) (t1 f))
 ·rw[ba]at*;have j:=Hq e;have h:=Hq f;refine kt (λg=>?_);rcases Fp b.1.2 a.1.2 with c|c|c
  ·exact j c
  ·rw[c]at g;exact h g
  ·exact h (tV c g)
theorem xR{bD:Type} [Inhabited bD](b:bD->an)(L:aq)(N c:Nat)(d:Array bD)(e:Array Obj)(a:Nat)(f:a<S (R L))(g:a≠N):(R (sortWorld b L N 0 c d e))[a]?=(R L)[a]?:=by unfold sortWorld;rw[Sort.heap_grow_old _ _ (by simp;exact f),Fc _ _ _ _ _ _ g];rfl
theorem zb{bD:Type} [Inhabited bD](b:bD->an)(L:aq)(N c:Nat)(d:Array bD)(e:Array Obj):bv (λa=>a=N) L (sortWorld b L N 0 c d e):=
 ⟨rfl,rfl,rfl,by unfold sortWorld;simp,λa f=>xR b L N c d e a f.1 f.2⟩
theorem NO{a:List (an×List Nat)}(h:et o L k a)(v:M a<=1000000)(gf:∀b∈a,M b.2<=1000000):
 Calls prog 120 #[k,.func (.func 121) #[] #[]] L λe aI=>e=aM (.tuple #[])/\∃y,y.Perm a/\y.Pairwise (λF j=>¬gm j.2 F.2)/\et o aI k y/\bv (λj=>ap k=some j) L aI:=by
 have G:=h.bg;rcases h.bg.2 with⟨rfl,gg⟩|⟨N,H,gj,rfl,_,gC,kx,k1,k7,_⟩
 ·have e:a=[]:=nx.1 gg;subst e;refine Ay (show Calls prog 120 #[U none 0 0,.func (.func 121) #[] #[]] L _ from AnyF.slices_SortFunc_none {Tryz.sortF with} none 0 (.func (.func 121) #[] #[]) L) ?_;rintro e aI ⟨rfl,rfl⟩;exact⟨rfl,[],pc _,List.Pairwise.nil,h,bv.l _ _⟩
 ·have I:aL L N gj 48:=gC;have gE:N<S (R L):=I.am;have J:∀b∈a,lX L N b:=λb m=>⟨fb.pU (h.fP b m),gf b m,λlo gF e=>h.gV b m N rfl (e▸gF)⟩
  let f:Array {b:an×List Nat//lX L N b}:=(a.attach.map λb=>⟨b.1,J b.1 b.2⟩).toArray
  have z:f.toList.map (·.1)=a:=by show(a.attach.map λb=>(⟨b.1,J b.1 b.2⟩:{b:an×List Nat//lX L N b})).toArray.toList.map (·.1)=a;rw[List.toList_toArray,sj];show a.attach.map Subtype.val=a;exact List.attach_map_subtype_val a
  have A:S f=M a:=by rw[<-z];simp
  have gL:∀c,(u:c<M a)->f[c]!.1=a[c]:=λc u=>by have p:c<S f:=T;rw[FW f c p];have:=congrArg (λg1=>g1[c]?) z;simp[u,p]at this;exact this
  have hu:Holds (λb:{b:an×List Nat//lX L N b}=>b.1.1) L N 0 f:=by intro c u;have p:c<M a:=T;refine⟨?_,I.b _⟩;have:=G.cells (g:=N) rfl c a[c].1 (by rw[gq,dz p];rfl);rw[ez]at this;rw[this];show some a[c].1=some f[c]!.1.1;rw[gL c p]
  have hE:OneCell (λb:{b:an×List Nat//lX L N b}=>b.1.1):=λb=>by obtain⟨F,l8,e,_⟩:=b.2.1;show b.1.1.oneCell'=true;rw[e];rfl
  have hS:CmpLays1 prog 121 #[] (λb:{b:an×List Nat//lX L N b}=>b.1.1) (λb i=>dX b.1.2 i.1.2) N 0 (S f) L:=by intro q l r me b i;have m:fb (sortWorld (λb:{b:an×List Nat//lX L N b}=>b.1.1) L N 0 q r l) b.1.1 b.1.2:=b.2.1.i (zb _ L N q r l).b5 (λj B v=>xR _ L N q r l j v (b.2.2.2 j B));have hV:fb (sortWorld (λb:{b:an×List Nat//lX L N b}=>b.1.1) L N 0 q r l) i.1.1 i.1.2:=i.2.1.i (zb _ L N q r l).b5 (λj B v=>xR _ L N q r l j v (i.2.2.2 j B));refine Ay (show Calls prog 121 (#[b.1.1,i.1.1]++#[]) _ _ from PR m hV b.2.2.1 i.2.2.1) ?_;rintro e aI ⟨hZ,ih⟩;exact⟨hZ,0,#[],by rw[ih];simp[bY]⟩
  have K:=Any.slices_SortFunc Tryz.sortF (λb:{b:an×List Nat//lX L N b}=>b.1.1) hE (λb i=>dX b.1.2 i.1.2) OU 121 #[] N 0 H f L (Go.Proofs.enters_of func121 (by kernel_rfl) rfl) hS hu gE T;rw[A]at K;refine Ay (show Calls prog 120 #[U (some ⟨N,0,none⟩) (M a) H,.func (.func 121) #[] #[]] L _ from K) ?_;rintro e aI ⟨rfl,d,C,l,⟨iR,_,P⟩,iU,rfl⟩;have iZ:(d.extract 0 (M a)).toList=d.toList:=by rw[<-A,<-iR];simp
  have i0:(f.extract 0 (M a)).toList=f.toList:=by rw[<-A];simp
  rw[iZ,i0]at P;have w:(d.toList.map (·.1)).Perm a:=by have:=P.map (·.1);rwa [z]at this
  have i1:M (d.toList.map (·.1))=M a:=w.length_eq;refine⟨rfl,d.toList.map (·.1),w,?_,?_,(zb _ L N C d l).cE (λj _ e=>by rw[e];rfl)⟩
  ·rw[List.pairwise_map,OC];intro x c i2 u jt;have jW:x<S d:=by simpa using i2
   have p:c<S d:=by simpa using u
   have:=iU x c (bL _) jt T;rw[FW d x jW,FW d c p]at this;have j4:¬gm (d[c]).1.2 (d[x]).1.2:=Hq this;simpa using j4
  ·refine⟨?_,λb m=>?_,?_⟩
   ·have j9:S d<=M a:=by omega
    have D:=F1 (ti:=λb:{b:an×List Nat//lX L N b}=>b.1.1) (bu:=C) (cO:=M a) G d j9 T;rw[qA b7]at D;rw[i1,sj];refine cw D (λs t=>?_);unfold sortWorld;exact Sort.heap_grow_old _ _ (D.lt s t).2
   ·have E:=w.mem_iff.1 m;exact cw (h.fP b E) (λs t=>xR _ L N C d l s ((h.fP b E).lt s t).2 (λe=>h.gV b E N rfl (e▸t)))
   ·exact(w.symm.pairwise_iff (λ{b i} kp s t kr=>kp s kr t)).1 h.oO
abbrev es:=an×List Nat
variable{a j:List es}
variable{b:es}
def lG(e:List es)(c:Nat):Bool:=c==0||decide (¬(e.getD c default).2=(e.getD (c-1) default).2)
def mA(c:List es):Nat->List es
 |0=>[]
 |e+1=>if lG c e then mA c e++[c.getD e default]else mA c e
theorem s5(a:List es)(d:Nat):mA a (d+1)=if lG a d then mA a d++[a.getD d default]else mA a d:=rfl
theorem Rq(a:List es):∀d,d<=M a->(mA a d).Sublist (a.take d):=by
 intro d
 induction d with
 |zero=>intro _;simp[mA]
 |succ d b=>
  intro h;have c:d<M a:=T;rw[ev c,s5];split
  ·refine(b T).append ?_;simp[List.getD,c]
  ·exact(b T).trans (List.sublist_append_left _ _)
theorem CL:∀d,d<=M a->(∀b,b<d->lG a b=true)->mA a d=a.take d:=by
 intro d
 induction d with
 |zero=>intro _ _;simp[mA]
 |succ d f=>intro h c;have e:d<M a:=T;rw[s5,aP (c d T),f T (λb g=>c b T),ev e];simp[List.getD,e]
theorem H1:∀(a:List (List Nat)) (c b:List Nat),lx c (a++[b])=lx c a++(if b=a.getLastD c then []else [b]):=by
 intro a
 induction a with
 |nil=>intro c b;simp[lx]
 |cons d a f=>
  intro c b;rw[nH];unfold lx;rw[f];have e:(d::a).getLastD c=a.getLastD d:=by cases a<;>simp[List.getLastD]
  rw[e];split<;>simp
theorem Nb(a:List (List Nat))(b:List Nat):kw (a++[b])=if a≠[]/\b=a.getLastD []then kw a else kw a++[b]:=by
 cases a with
 |nil=>simp[kw,lx]
 |cons c a=>
  show c::lx c (a++[b])=_;rw[H1];have e:(c::a).getLastD []=a.getLastD c:=by cases a<;>simp[List.getLastD]
  rw[e];by_cases h:b=a.getLastD c
  ·rw[aP h,aP ⟨av,h⟩,jN];rfl
  ·rw[aH h,aH (λd=>h d.2)];rfl
theorem FK(a:List es):∀d,d<=M a->(mA a d).map (·.2)=kw ((a.take d).map (·.2)):=by
 intro d
 induction d with
 |zero=>intro _;simp[mA,kw]
 |succ d g=>
  intro h;have b:d<M a:=T;rw[ev b,dv];show _=kw ((a.take d).map (·.2)++[a[d].2]);rw[Nb,<-g T];have i:a.getD d default=a[d]:=by simp[List.getD,b]
  rw[s5];cases d with
  |zero=>simp[lG,b,mA]
  |succ d=>
   have f:d<M a:=T;have j:((a.take (d+1)).map (·.2)).getLastD []=a[d].2:=by rw[ev f,dv,l7];simp
   have k:(a.take (d+1)).map (·.2)≠[]:=by intro e;have:=congrArg M e;rw[c_,hT,d5]at this;omega
   have l:lG a (d+1)=decide (¬a[d+1].2=a[d].2):=by unfold lG;simp[List.getD,b,f]
   rw[l,j];by_cases c:a[d+1].2=a[d].2
   ·rw[aH (by simp[c]),aP ⟨k,c⟩]
   ·rw[aP (by simp[c]),aH (λm=>c m.2),dv,i];rfl
structure mT (bR ct:List es) (cO aG:Nat):Prop where
 bX:ct.length=bR.length
 am:cO+1<=aG
 lJ:ct.take cO=mA bR aG
 ju:ct.drop (aG-1)=bR.drop (aG-1)
theorem mT.MC{b:Nat}(h:mT a j q d)(i:d-1<=b)(e:b<M a):j[b]'(by rw[h.bX];exact e)=a[b]:=by have f:=congrArg (λg=>g[b-(d-1)]?) h.ju;simp only[List.getElem?_drop]at f;rw[show d-1+(b-(d-1))=b by omega,dz (by rw[h.bX];exact e),dz e]at f;simpa using f
theorem mT.c(h:mT a j q d)(b:lG a d=false):mT a j q (d+1):=by
 have e:=h.am;refine⟨h.bX,T,?_,?_⟩
 ·rw[h.lJ,s5,aH (by simp[b])]
 ·have:j.drop (d+1-1)=(j.drop (d-1)).drop 1:=by rw[rF];congr 1;omega
  rw[this,h.ju,rF];congr 1;omega
theorem mT.y(h:mT a j q d)(b:d<M a)(e:lG a d=true):mT a (j.set q a[d]) (q+1) (d+1):=by
 have g:=h.am;have f:=h.bX;refine⟨by simpa using f,T,?_,?_⟩
 ·rw[ev (by rw[qJ];omega),wt (aN _),h.lJ,s5,aP e];simp[List.getD,b]
 ·rw[List.drop_set_of_lt T];have:j.drop (d+1-1)=(j.drop (d-1)).drop 1:=by rw[rF];congr 1;omega
  rw[this,h.ju,rF];congr 1;omega
theorem Q6(L:aq):(zeroValue 48).run prog L=.ok (U none 0 0) L:=by kernel_rfl
theorem bv.E{bh:Nat->Prop}(h:bv bh L aI)(b:Nat):bv bh L (bY aI b):=ea.trans h ⟨rfl,rfl,rfl,aN _,λ_ _=>rfl⟩
theorem HN{f8:aq}(h:et o L k a)(i:∀b∈a,M b.2<=1000000)(p:S (R L)<=S (R f8))(r:∀c,c<S (R L)->ap k≠some c->(R f8)[c]?=(R L)[c]?){d:es}(j:b∈a)(l:d∈a)(g:Nat):
 Calls prog 123 #[b.1,d.1] (bY f8 g) λe aI=>e=aM (.bool (decide (b.2=d.2)))/\∃q,aI=bY f8 q:=by
 have ba:∀f∈a,fb (bY f8 g) f.1 f.2:=λf m=>(fb.pU (h.fP f m)).i p (λc s t=>r c t (λe=>h.gV f m c e s))
 refine(KL (ba b j) (ba d l) (i b j) (i d l)).mono ?_;rintro e aI ⟨u,v,w⟩;exact⟨u,g+v,by rw[w];simp⟩
theorem yI(h:et o L k a)(c:b∈a):∃d e f,b.1=U d e f:=dr (h.fP b c)
theorem M2(h:et o L k a)(Ai:M a<=1000000)(hE:∀b∈a,M b.2<=1000000):
 Calls prog 122 #[k,.func (.func 123) #[] #[]] L λe aI=>∃s i t w,e=aM (U s i t)/\w.map (·.2)=kw (a.map (·.2))/\et o aI (U s i t) w/\bv (λl=>ap k=some l) L aI/\ap (U s i t)=ap k:=by
 have r:=h.bg;have hS:M a<2->kw (a.map (·.2))=a.map (·.2):=λhV=>by
  rcases a with _|⟨b,_|⟨Ak,a⟩⟩
  ·rfl
  ·rfl
  ·simp at hV;omega
 obtain⟨pF,j4,pR,z⟩:=dr r;have j9:j4=M a:=by
  rcases r.2 with⟨e,kp⟩|⟨N,p,E,e,_⟩
  ·rw[e]at z;cases z;exact kp.symm
  ·rw[e]at z;cases z;rfl
 by_cases hV:M a<2
 ·have pU:(M a:Int)<2:=by omega
  have K:∃s i t w,aM k=aM (U s i t)/\w.map (·.2)=kw (a.map (·.2))/\et o L (U s i t) w/\bv (λl=>ap k=some l) L L/\ap (U s i t)=ap k:=⟨pF,j4,pR,a,by rw[z],(hS hV).symm,by rw[<-z];exact h,bv.l _ _,by rw[z]⟩;subst z;subst j9;clear r h hE hS;go_enter func122,ntmps122;go_wp2;go_ret;exact K
 ·rcases r.2 with⟨_,kp⟩|⟨N,p,Aq,pX,Az,pZ,AE,AV,gC,_⟩
  ·omega
  subst pX;have kr:∀m,(C:m<M a)->aK L ⟨N,m,none⟩=some a[m].1:=λm C=>by have:=r.cells (g:=N) rfl m a[m].1 (by rw[gq,dz C];rfl);rw[ez,du]at this;exact this
  have qp:N<S (R L):=(r.lt N rfl).2;have gE:Hid (∀F,R F=R L->F.os=L.os->F.tape=L.tape->F.output=L.output->(∀d,d<M a->lG a d=true)->∃s i t w,aM (U (some ⟨N,0,none⟩) (M a) p)=aM (U s i t)/\w.map (·.2)=kw (a.map (·.2))/\et o F (U s i t) w/\bv (λl=>ap (U (some ⟨N,0,none⟩) (M a) p)=some l) L F/\ap (U s i t)=ap (U (some ⟨N,0,none⟩) (M a) p)):=λF hZ qt qP qW ra=>by refine⟨_,_,_,a,rfl,?_,h.i (λl _=>by rw[hZ]),⟨qt,qP,qW,by rw[hZ];exact aN _,λl _=>by rw[hZ]⟩,rfl⟩;have gF:=FK a (M a) (aN _);rw[CL (M a) (aN _) ra,eQ]at gF;exact gF
  have pU:(2:Int)<=(M a:Int):=T;have y:Hid (et o L (U (some ⟨N,0,none⟩) (M a) p) a):=h;have kx:Hid (∀b∈a,M b.2<=1000000):=hE;have rA:Hid _:=r;have k1:Hid (∀m,(C:m<M a)->aK L ⟨N,m,none⟩=some a[m].1):=kr;clear h hE r kr z j9 hS pZ gC;go_enter func122,ntmps122;go_wp2
  go_loopw [5] (λm wr=>∃c:Nat,c+1<=M a/\m=.int .i64 ((c:Int)+1)/\(∃P,wr=bY L P)/\Hid (∀d,d<c+1->lG a d=true)) (λm _=>M a-(intOf m).toNat)
  case atStart=>exact⟨0,T,rfl,⟨0,rfl⟩,λd ih=>by have:d=0:=by omega
                                                subst this;rfl⟩
  case round=>
   obtain⟨c,AW,rfl,⟨P,G⟩,H⟩:=hrel;have A:R wr=R L:=by rw[G];rfl
   have k7:wr.os=L.os:=by rw[G];rfl
   have lo:wr.tape=L.tape:=by rw[G];rfl
   have l8:wr.output=L.output:=by rw[G];rfl
   have rR:Hid (∀i,∃P,bY wr i=bY L P):=λi=>⟨P+i,by rw[G];simp⟩
   clear G;by_cases gL:c+1<M a
   ·have me:aK wr ⟨N,c+1,none⟩=some a[c+1].1:=(dn (by rw[A]) _).trans (k1.out (c+1) gL);have mn:aK wr ⟨N,c,none⟩=some a[c].1:=(dn (by rw[A]) _).trans (k1.out c T);have mO:N<S (R wr):=by rw[A];exact qp
    have u:=λi=>HN (f8:=wr) y.out kx.out (by rw[A];exact aN _) (λl _ _=>by rw[A]) (b4 gL) (b4 (show c<M a by omega)) i
    obtain⟨Bg,Bo,Bt,sY⟩:=yI y.out (b4 gL);obtain⟨BE,BH,BN,tB⟩:=yI y.out (b4 (show c<M a by omega));rw[sY]at me u;rw[tB]at mn u;have BP:(c:Int)+1<(M a:Int):=T;have BV:(0:Int)<=(c:Int):=T;have Cs:(0:Int)<=(c:Int)+1:=T;have Cz:(c:Int)<(M a:Int):=T;have B:lG a (c+1)=decide (¬a[c+1].2=a[c].2):=by unfold lG;simp[List.getD,gL,show c<M a by omega]
    by_cases v:a[c+1].2=a[c].2
    ·rw[lW v]at u;have mR:Hid (mT a a (c+1) (c+2)):=by refine(⟨rfl,T,?_,rfl⟩:mT a a (c+1) (c+2));rw[show c+2=(c+1)+1 from rfl,s5,aH (by rw[B];simp[v])];exact(CL (c+1) T H.out).symm
     have mY:¬p=c+1:=T;have CS:(c:Int)+1<=(p:Int):=T;have DM:(M a:Int)<=(p:Int):=T;clear v B H gE;go_upto_region 6 with fail;go_quiet(first|(go_at_call 123;exact u _));have m5:aY (bY wr nq) o 48 1 (U (some ⟨N,0,none⟩) (M a) p) (M a) (a.map (·.1)):=cw rA.out (λg1 _=>by show(R wr)[g1]?=_;rw[A]);have ne:bv (λl=>l=N) L (bY wr nq):=⟨k7,lo,l8,by show _<=S (R wr);rw[A];exact aN _,λl _=>by show(R wr)[l]?=_;rw[A]⟩;go_wp2;obtain⟨D7,rfl⟩:∃b,b=wr:=⟨_,rfl⟩
     go_loopw [5,7] (λq iR wr=>∃(f d:Nat) (j:List es),q=.int .i64 f/\iR=.int .i64 ((d:Int)+1)/\d+1<=M a-(c+1)/\mT a j f (c+1+(d+1))/\(∀b∈j,b∈a)/\aY wr o 48 1 (U (some ⟨N,0,none⟩) (M a) p) (M a) (j.map (·.1))/\bv (λl=>l=N) L wr) (λ_ iR _=>M a-(intOf iR).toNat)
     case atStart=>exact⟨c+1,0,a,bE,rfl,T,mR.out,λb iU=>iU,m5,ne⟩
     case round=>
      obtain⟨f,d,j,rfl,rfl,ih,x,gf,r,D⟩:=hrel;clear mR m5 ne me mn u mO;have iZ:=x.bX;have i0:=x.am;have mO:N<S (R wr):=(r.lt N rfl).2;obtain⟨E,I,gC⟩:∃E,aL wr N E 48/\M a<=S E:=by
       rcases r.2 with⟨e,_⟩|⟨D9,El,E,tI,_,t8,ET,_,gC,_⟩
       ·cases e
       ·cases tI;exact⟨E,t8,by rw[gC];omega⟩
      have gg:∀m,c+1+(d+1)-1<=m->(C:m<M a)->aK wr ⟨N,m,none⟩=some a[m].1:=λm ub C=>by have:=r.cells (g:=N) rfl m a[m].1 (by rw[gq,dz T,Ab,x.MC ub C]);rw[ez,du]at this;exact this
      have ug:Hid (∀l,l<S (R L)->ap (U (some ⟨N,0,none⟩) (M a) p)≠some l->(R wr)[l]?=(R L)[l]?):=λl uY mY=>D.o l uY (λe=>mY (by rw[e];rfl))
      by_cases Fi:d+1<M a-(c+1)
      ·have J:c+1+(d+1)<M a:=by omega
       have hu:c+1+d<M a:=T;have gF:=gg (c+1+(d+1)) T J;have vE:=gg (c+1+d) T hu;have u:=λi=>HN (f8:=wr) y.out kx.out D.b5 ug.out (b4 J) (b4 hu) i
       obtain⟨nB,nG,oa,ob⟩:=yI y.out (b4 J);obtain⟨FM,F2,F4,wz⟩:=yI y.out (b4 hu);rw[ob]at gF u;rw[wz]at vE u;have wB:(d:Int)+1<((M a-(c+1):Nat):Int):=T;have Ga:(d:Int)<((M a-(c+1):Nat):Int):=T;have Gl:(0:Int)<=(d:Int):=T;have Gx:(0:Int)<=(d:Int)+1:=T;have B:lG a (c+1+(d+1))=decide (¬a[c+1+(d+1)].2=a[c+1+d].2):=by unfold lG;rw[show c+1+(d+1)-1=c+1+d by omega];simp only[fj,dz J,dz hu,mD];rw[show(c+1+(d+1)==0)=false by simp];simp
       by_cases v:a[c+1+(d+1)].2=a[c+1+d].2
       ·rw[lW v]at u;have i1:Hid (mT a j f (c+1+(d+2))):=x.c (by rw[B];simp[v]);have i2:Hid (∀i,aY (bY wr i) o 48 1 (U (some ⟨N,0,none⟩) (M a) p) (M a) (j.map (·.1))/\bv (λl=>l=N) L (bY wr i)):=λi=>⟨cw r (λ_ _=>rfl),ea.trans D ⟨rfl,rfl,rfl,aN _,λ_ _=>rfl⟩⟩
        clear v B x r D gg iZ i0 I;go_upto_region 11 with fail;go_quiet(first|(go_at_call 123;exact u _));go_wp2;go_roundw
        case rel=>exact⟨f,d+1,j,rfl,bE,T,i1.out,gf,i2.out _⟩
        case measure=>simp[intOf];omega
       ·rw[kt v]at u
        have i1:Hid (mT a (j.set f a[c+1+(d+1)]) (f+1) (c+1+(d+2))):=x.y J (by rw[B];simpa using v);have xf:Hid (∀b∈j.set f a[c+1+(d+1)],b∈a):=λxk gj=>by
         rcases GL gj with gj|gj
         ·exact gf xk gj
         ·rw[gj];exact b4 J
        have i2:Hid (∀i,aY ((bY wr i).setCell ⟨N,f,none⟩ (U nB nG oa)) o 48 1 (U (some ⟨N,0,none⟩) (M a) p) (M a) ((j.set f a[c+1+(d+1)]).map (·.1))/\bv (λl=>l=N) L ((bY wr i).setCell ⟨N,f,none⟩ (U nB nG oa))):=λi=>by have xr:aY (bY wr i) o 48 1 (U (some ⟨N,0,none⟩) (M a) p) (M a) (j.map (·.1)):=cw r (λ_ _=>rfl);refine⟨?_,bv.v (D.E i) (ai:=⟨N,f,none⟩) (.inl rfl) _⟩;rw[List.map_set,ob];exact oj xr (by rw[c_];omega)
        have ys:(f:Int)<(M a:Int):=T;have yC:(0:Int)<=(f:Int):=T;have y2:f<S E:=T;have y5:=I.aa f;have Hp:=I.b f;rw[tz y2]at y5;clear v B x r D gg iZ i0 gf;generalize j.set f a[c+1+(d+1)]=zc at*;go_upto_region 11 with fail;go_quiet(first|(go_at_call 123;exact u _));go_wp2;go_roundw
        case rel=>exact⟨f+1,d+1,zc,bE,bE,T,i1.out,xf.out,i2.out _⟩
        case measure=>simp[intOf];omega
      ·have zS:c+1+(d+1)=M a:=by omega
       rw[zS]at x;have HY:f<M a:=T;have H_:∀jt,(Builtin.clear_ #[40] jt #[U (some ⟨N,f,none⟩) (M a-f) (p-f)]).run prog wr=.ok (.tuple #[]) (wr.setCells N f (List.replicate (M a-f) (U none 0 0))):=λjt=>Lib.run_clear_slice wr 40 48 jt (U none 0 0) underlying40 Q6 rfl rfl N f (M a-f) (p-f) T (λm C=>by rw[I.aa (f+m),tz T];rfl) (λm C=>I.b _)
       have K:∃s i t w,aM (U (some ⟨N,0,none⟩) f p)=aM (U s i t)/\w.map (·.2)=kw (a.map (·.2))/\et o (wr.setCells N f (List.replicate (M a-f) (U none 0 0))) (U s i t) w/\bv (λl=>ap (U (some ⟨N,0,none⟩) (M a) p)=some l) L (wr.setCells N f (List.replicate (M a-f) (U none 0 0)))/\ap (U s i t)=ap (U (some ⟨N,0,none⟩) (M a) p):=by
        have oH:=EU (bh:=λl=>l=N) (N:=N) rfl (List.replicate (M a-f) (U none 0 0)) f D;have oS:=(Rq a (M a) (aN _));rw[eQ]at oS;have o6:M (j.take f)=f:=by rw[hT];omega
        refine⟨_,_,_,j.take f,rfl,?_,⟨?_,λb iU=>?_,?_⟩,oH.cE (λl _ e=>by rw[e];rfl),rfl⟩
        ·rw[x.lJ,FK a (M a) (aN _),eQ]
        ·have pa:=AF (cO:=f) r T;rw[Nat.mul_one,<-FQ]at pa;rw[o6];exact Dd _ _ pa (by rw[c_,o6];exact aN _)
        ·have jW:b∈a:=gf b (pp iU);exact cw (y.out.fP b jW) (λg1 py=>oH.o g1 ((y.out.fP b jW).lt g1 py).2 (λe=>y.out.gV b jW N rfl (e▸py)))
        ·rw[x.lJ];exact y.out.oO.sublist oS
       have wB:((M a-(c+1):Nat):Int)<=(d:Int)+1:=T;have yC:(0:Int)<=(f:Int):=T;have ys:(f:Int)<=(M a:Int):=T;have J3:(f:Int)<=(p:Int):=T;have Ko:¬p=f:=T;clear x r D gg iZ i0 I gf;go_wp2;go_ret;exact K
    ·rw[kt v]at u
     have z_:Hid (∀d,d<c+2->lG a d=true):=λd ih=>by
      by_cases e:d=c+1
      ·subst e;rw[B];simpa using v
      ·exact H.out d T
     clear v B H gE;go_upto_region 6 with fail;go_quiet(first|(go_at_call 123;exact u _));go_wp2;go_roundw
     case rel=>exact⟨c+1,T,bE,rR.out _,z_⟩
     case measure=>simp[intOf];omega
   ·have Kp:c+1=M a:=by omega
    have K:=gE.out wr A k7 lo l8 (λd ih=>H.out d T);have Kz:(M a:Int)<=(c:Int)+1:=T;clear gE H;go_wp2;go_ret;exact K
