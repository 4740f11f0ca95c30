import Derived.Test.YtddbjcfdmdbmkaaGreatDoorB13
import Derived.Test.YtddbjcfdmdbmkaaGreatDoorB08
set_option linter.all false
set_option maxRecDepth 100000
set_option maxHeartbeats 3200000
namespace Go.Proofs.YtddbjcfdmdbmkaaGreatDoor
open Go.RowKit Go.Proofs.Tryz
open Go renaming Calls->aR,Value->an,World->aq
open Go.Ending renaming returned->aM
open Go.IntKind renaming i64->Q
open Go.Obj renaming cells->aw
open Go.RowKit renaming Below->aF,intOf->bm
open Go.Value renaming int->O,slice->U,string->az,ownBlock->ap
open _root_.Array renaming size->S
open Go.World renaming alloc->ar,cell?->aK,drew->cb,grownBy->b_,heap->R,ownsRow->aY
open List renaming length->M
variable{ab u G:Nat->Nat}{L o J H:aq}{N B W dH F D E I y:Nat}{Z:List aB}{a6 cC K b a c d j k dc:an}{bR:List (an×an)}{z A r w:List (List aB)}{x:List an}{ai:aB}
theorem iY.h(h:iY ab L N B Z):∃bR:List (an×an),M bR=M Z/\(∀ai∈Z.zip bR,hb ab L ai.2.1 ai.1.bB/\∃g i j,ai.2.2=U g i j)/\
 ∀a d,(bC e5 (Z.zip bR))[a]?=some d->aK L ⟨N,B*6+a,none⟩=some d:=by
 induction Z generalizing B with
 |nil=>exact⟨[],rfl,λai c=>by simp at c,λa d b=>by simp[bC]at b⟩
 |cons f Z k=>
  have l:iY ab L N (B+1) Z:=by have:=h.ET 1;simpa using this
  obtain⟨bR,m,o,p⟩:=k l;obtain⟨dc,cC,q,r,s,t,u,v,w,x⟩:=h.ep 0 av;refine⟨(dc,cC)::bR,by simp[m],λai c=>?_,λa d b=>?_⟩
  ·simp only[tM,ek]at c;rcases c with rfl|c
   ·exact⟨q,r⟩
   ·exact o ai c
  ·have e:bC e5 ((f::Z).zip ((dc,cC)::bR))=e5 (f,(dc,cC))++bC e5 (Z.zip bR):=rfl;rw[e]at b;simp only[pC,pv]at s t u v w x;by_cases y:a<6
   ·rw[ms (by exact y)]at b;rcases(by omega:a=0\/a=1\/a=2\/a=3\/a=4\/a=5)with rfl|rfl|rfl|rfl|rfl|rfl<;>(simp[e5]at b;subst b;assumption)
   ·have z:M (e5 (f,(dc,cC)))=6:=rfl;rw[qs T,z]at b;have:=p (a-6) d b;rw[show(B+1)*6+(a-6)=B*6+a by omega]at this;exact this
theorem PH{h:Nat}(u:M bR=M Z)(e:aY L h 189 6 a6 (M Z) (bC e5 (Z.zip bR)))(i:∀N,ap a6=some N->ab N=7)
 (j:∀ai∈Z.zip bR,hb ab L ai.2.1 ai.1.bB/\∃k l m,ai.2.2=U k l m):hA ab L a6 Z:=by
 rcases e.2 with⟨rfl,o⟩|⟨N,y,v,rfl,_,p,q,_⟩
 ·exact .inl ⟨sD o,_,_,rfl⟩
 ·refine .inr ⟨N,0,y,rfl,q,⟨(i7.1 p).1,i N rfl,λa w=>?_⟩⟩;have f:a<M (Z.zip bR):=by rw[jT];omega
  have d:=j _ (b4 f);have ba:∀b,b<6->∀c,(e5 (Z[a],bR[a]'T))[b]?=some c->aK L ⟨N,(0+a)*6+b,none⟩=some c:=by intro b r c s;have:=e.cells (g:=N) rfl (a*6+b) c (by rw[i5 e5 6 (λ_=>rfl) _ _ _ f r];simpa using s);have t:(⟨N,0,none⟩:Addr).add (a*6+b)=⟨N,a*6+b,none⟩:=l0;rw[t]at this;rw[du];exact this
  simp only[n7]at d;exact⟨_,_,d.1,d.2,ba 0 ak _ rfl,ba 1 ak _ rfl,ba 2 ak _ rfl,ba 3 ak _ rfl,ba 4 ak _ rfl,ba 5 ak _ rfl⟩
theorem Fb(Z:List (aB×(an×an))):M (bC e5 Z)=M Z*6:=by
 induction Z with
 |nil=>rfl
 |cons a Z b=>have e:bC e5 (a::Z)=e5 a++bC e5 Z:=rfl;rw[e,bV,b];show 6+_=_;simp;omega
theorem GF(i:0<W)(j:W<=1000000)(L:aq):
 aR prog 203 #[U none 0 0,O Q W] L λe o=>∃y,e=aM (U (some ⟨S (R L),0,none⟩) 0 y)/\aY o (S (R L)) 189 6 (U (some ⟨S (R L),0,none⟩) 0 y) 0 []/\aF (S (R L)) L o:=by
 obtain⟨a,b,c,d,f⟩:=dY Tryz.uY;have h:=Any8.slices_Grow_grow Tryz.growPart a _ b c (by rw[d];decide) none 0 0 W [] L (aN _) T (by rw[f];omega) T av (λ_=>rfl) (λk e=>by cases e);have g:Tryz.growPart_ren.t 25=189:=rfl;rw[g]at h;refine h.mono ?_;rintro e o ⟨rfl,rfl⟩;refine⟨_,rfl,⟨rfl,.inr ⟨S (R L),_,_,rfl,aN _,mW (cb L) _,bL _,grownCap_le_maxLen _ _ _ _ cN,?_,av⟩⟩,?_⟩
 ·have l:=grownCap_ge L (0+W) 0 189;simp only[Array.size_append,size_zeroCells,List.size_toArray,d5];show 0+(0+W-0)*6+(_-(0+W))*6=_*6;generalize grownCap L (0+W) 0 189=m at*;omega
 ·exact eY (eY (ca _ _) (jm L none) (λN e=>by cases e)) (fv _ _ none) (λN e=>by cases e)
theorem ez(N B a:Nat):(⟨N,B,none⟩:Addr).add a=⟨N,B+a,none⟩:=l0
theorem Ah{c:List an}(d:aF dH L o)(e:N<dH)(f:∀a b,c[a]?=some b->aK L ⟨N,B+a,none⟩=some b):∀a b,c[a]?=some b->aK o ((⟨N,B,none⟩:Addr).add a)=some b:=λa b g=>by rw[ez];exact(d.cell (p:=⟨N,B+a,none⟩) e).trans (f a b g)
theorem Kj(g:F<S (R L))(l:aK L ⟨F,0,none⟩=some (U none 0 0))(m:aK L ⟨F,1,none⟩=some (U (some ⟨D,E,none⟩) W I))(h:0<W)(q:W<=1000000)(b:List an)(r:M b=W*6)(s:∀i d,b[i]?=some d->aK L ⟨D,E+i,none⟩=some d)(t:∀d∈b,d.oneCell'=true)(u:D<S (R L)):
 aR prog 170 #[U (some ⟨F,0,none⟩) 2 2] L λe o=>∃a6,e=aM a6/\aY o (S (R L)) 189 6 a6 W b/\aF (S (R L)) L o:=by
 obtain⟨v,w,x,z,A⟩:=dY Tryz.uY;go_enter func170,ntmps170;go_wp2
 go_loop [3,11] (λf a=>(a=O Q 0/\f=O Q 0)\/(a=O Q 1/\f=O Q 0)\/(a=O Q 2/\f=O Q W)) (λ_ a=>2-(bm a).toNat)
 case atStart=>exact .inl ⟨rfl,rfl⟩
 case round=>
  rcases hrel with⟨rfl,rfl⟩|⟨rfl,rfl⟩|⟨rfl,rfl⟩
  ·go_wp2
   go_round
   case rel=>exact .inr (.inl ⟨rfl,rfl⟩)
   case measure=>simp[bm]
  ·go_wp2
   go_round
   case rel=>exact .inr (.inr ⟨rfl,av⟩)
   case measure=>simp[bm]
  ·go_wp2_with(go_at_call 203;refine(GF h q _).mono ?_;rintro e j ⟨y,rfl,B,c⟩)
   go_loopw [6,27] (λa6 a wr=>(a=O Q 0/\a6=U (some ⟨S (R L),0,none⟩) 0 y/\wr=j)\/(a=O Q 1/\a6=U (some ⟨S (R L),0,none⟩) 0 y/\wr=j)\/(a=O Q 2/\aY wr (S (R L)) 189 6 a6 W b/\aF (S (R L)) L wr)) (λ_ a _=>2-(bm a).toNat)
   case atStart=>exact .inl ⟨rfl,rfl,rfl⟩
   case round=>
    have P:=(c.cell (p:=⟨F,0,none⟩) g).trans l;have gf:=(c.cell (p:=⟨F,1,none⟩) g).trans m;rcases hrel with⟨rfl,rfl,rfl⟩|⟨rfl,rfl,rfl⟩|⟨rfl,k,C⟩
    ·go_wp2;go_roundw
     case rel=>exact .inr (.inl ⟨rfl,rfl,trivial⟩)
     case measure=>simp[bm]
    ·go_wp2_with(at_builtin;refine dq _ rfl (.tmp 31) (.tmp 32) 111 rfl (S (R L)) 189 v _ 6 88 underlying111 w x z A rfl ak _ 0 [] bf B ⟨D,E,none⟩ W I b bf r (Ah c u s) t h cN T (by have:=(c).size;omega) (S (R wr)) rfl ?_;intro N gg J G H gj gC);go_roundw
     case rel=>exact .inr (.inr ⟨rfl,by simpa using G,eY c H (λgE K=>by cases K;exact aN _)⟩)
     case measure=>simp[bm]
    ·obtain⟨f,gF,gL,rfl⟩:=dr k;go_wp2;go_ret;exact⟨_,rfl,k,C⟩
theorem PS{i l t a:Nat}(u:F<S (R L))(G:aK L ⟨F,0,none⟩=some (U (some ⟨i,l,none⟩) a t))(H:aK L ⟨F,1,none⟩=some (U (some ⟨D,E,none⟩) W I))(K:0<a)(P:0<W)(gf:a+W<=1000000)(f:List an)(gg:M f=W*6)(gj:∀g c,f[g]?=some c->aK L ⟨D,E+g,none⟩=some c)(gC:∀c∈f,c.oneCell'=true)(gE:D<S (R L))(d:List an)(gF:M d=a*6)(gL:∀g c,d[g]?=some c->aK L ⟨i,l+g,none⟩=some c)(g1:∀c∈d,c.oneCell'=true)(hu:i<S (R L)):
 aR prog 170 #[U (some ⟨F,0,none⟩) 2 2] L λe o=>∃a6,e=aM a6/\aY o (S (R L)) 189 6 a6 (a+W) (d++f)/\aF (S (R L)) L o:=by
 obtain⟨v,w,x,z,A⟩:=dY Tryz.uY;go_enter func170,ntmps170;go_wp2
 go_loop [3,11] (λh b=>(b=O Q 0/\h=O Q 0)\/(b=O Q 1/\h=O Q a)\/(b=O Q 2/\h=O Q ((a+W:Nat):Int))) (λ_ b=>2-(bm b).toNat)
 case atStart=>exact .inl ⟨rfl,rfl⟩
 case round=>
  rcases hrel with⟨rfl,rfl⟩|⟨rfl,rfl⟩|⟨rfl,rfl⟩
  ·go_wp2
   go_round
   case rel=>exact .inr (.inl ⟨rfl,rfl⟩)
   case measure=>simp[bm]
  ·go_wp2
   go_round
   case rel=>exact .inr (.inr ⟨rfl,av⟩)
   case measure=>simp[bm]
  ·go_wp2_with(go_at_call 203;refine(GF (W:=a+W) T gf _).mono ?_;rintro e hE ⟨y,rfl,hS,j⟩)
   go_loopw [6,27] (λa6 b wr=>(b=O Q 0/\a6=U (some ⟨S (R L),0,none⟩) 0 y/\wr=hE)\/(b=O Q 1/\aY wr (S (R L)) 189 6 a6 a d/\aF (S (R L)) L wr)\/(b=O Q 2/\aY wr (S (R L)) 189 6 a6 (a+W) (d++f)/\aF (S (R L)) L wr)) (λ_ b _=>2-(bm b).toNat)
   case atStart=>exact .inl ⟨rfl,rfl,rfl⟩
   case round=>
    rcases hrel with⟨rfl,rfl,rfl⟩|⟨rfl,m,k⟩|⟨rfl,B,hV⟩
    ·have i1:=(j.cell (p:=⟨F,0,none⟩) u).trans G;go_wp2_with(at_builtin;refine dq _ rfl (.tmp 31) (.tmp 32) 111 rfl (S (R L)) 189 v _ 6 88 underlying111 w x z A rfl ak _ 0 [] bf hS ⟨i,l,none⟩ a t d bf gF (Ah j hu gL) g1 K cN T (by have:=(j).size;omega) (S (R wr)) rfl ?_;intro N hZ J q r ih iR);go_roundw
     case rel=>exact .inr (.inl ⟨rfl,by simpa using q,eY j r (λC s=>by cases s;exact aN _)⟩)
     case measure=>simp[bm]
    ·have i2:=(k.cell (p:=⟨F,1,none⟩) u).trans H;have iU:=m.lt;obtain⟨h,iZ,i0,rfl⟩:=dr m;go_wp2_with(at_builtin;refine dq _ rfl (.tmp 31) (.tmp 32) 111 rfl (S (R L)) 189 v _ 6 88 underlying111 w x z A rfl ak _ a d bf m ⟨D,E,none⟩ W I f bf gg (Ah k gE gj) gC P cN T (by have:=(k).size;omega) (S (R wr)) rfl ?_;intro N hZ J q r ih iR);go_roundw
     case rel=>exact .inr (.inr ⟨rfl,q,eY k r (λC s=>(iU C s).1)⟩)
     case measure=>simp[bm]
    ·obtain⟨h,iZ,i0,rfl⟩:=dr B;go_wp2;go_ret;exact⟨_,rfl,B,hV⟩
theorem iY.py(b:∀a,a<S (R L)->ab a=7->u a=7)(h:iY ab L N B Z):iY u L N B Z:=
 ⟨h.am,b N h.am h.cG,λa c=>by obtain⟨dc,cC,d,e⟩:=h.ep a c;exact⟨dc,cC,d.cG b,e⟩⟩
theorem hA.py(b:∀a,a<S (R L)->ab a=7->u a=7)(h:hA ab L a6 Z):hA u L a6 Z:=by
 rcases h with h|⟨N,B,y,c,d,e⟩
 ·exact .inl h
 ·exact .inr ⟨N,B,y,c,d,e.py b⟩
theorem wQ{c:Option Nat}(f:b_ L o c)(g:∀a,c=some a->ab a=8)(d:∀a,a<S (R L)->ab a≠8->u a=ab a)(h:hA ab L a6 Z):hA u o a6 Z:=by
 have i:hA (kA ab) L a6 Z:=h.py (λa _ e=>by simp[kA,e]);have j:=i.bo (ul f g d);refine j.py (λa _ e=>?_);by_cases b:a<S (R L)
 ·simp only[b,iC]at e;unfold kA at e;split at e
  ·omega
  ·rename_i k;rw[d a b k];exact e
 ·simp only[b,lh]at e;exact e
def jk(g:Nat->Nat)(L:aq)(e:an)(f:List aB):Prop:=hA g L e f/\(f=[]->e=U none 0 0)
def ga(g:Nat->Nat)(L:aq)(h:an)(e:List (List aB)):Prop:=
 ∃f:List an,M f=M e/\aY L 0 111 1 h (M e) f/\(∀N,ap h=some N->g N=7)/\∀i∈e.zip f,jk g L i.2 i.1
theorem ga.bo(h:ga ab L a6 z)(a:aU ab L u o):ga u o a6 z:=by obtain⟨x,e,f,g,b⟩:=h;obtain⟨i,j⟩:=s3 f g a;exact⟨x,e,i,j,λc d=>⟨(b c d).1.bo a,(b c d).2⟩⟩
theorem ga.gj(h:ga ab L a6 z)(k:0<M z):∃N y,a6=U (some ⟨N,0,none⟩) (M z) y/\N<S (R L)/\ab N=7/\∀a,(d:a<M z)->∃b,aK L ⟨N,a,none⟩=some b/\jk ab L b z[a]:=by
 obtain⟨x,l,c,e,f⟩:=h;rcases c.2 with⟨_,m⟩|⟨N,y,p,rfl,_,i,_⟩
 ·omega
 ·refine⟨N,y,rfl,(i7.1 i).1,e N rfl,λa d=>⟨x[a]'T,?_,?_⟩⟩
  ·have:=c.cells (g:=N) rfl a (x[a]'T) (by simp[show a<M x by omega]);rw[ez,du]at this;exact this
  ·have j:a<M (z.zip x):=by rw[jT];omega
   have:=f _ (b4 j);simpa using this
structure h5 (ab:Nat->Nat) (L:aq) (a6:an) (bl:Nat->Nat) (eI:List (List aB)) (oi:List an) (wr:aq):Prop where
 bo:aU ab L bl wr
 bX:oi.length=eI.length
 bg:wr.ownsRow 0 111 1 a6 eI.length oi
 cG:∀N,a6.ownBlock=some N->bl N=8/\L.heap.size<=N
 nb:∀bu∈eI.zip oi,jk bl wr bu.2 bu.1
theorem h5.jt(ab:Nat->Nat)(L:aq):h5 ab L (U none 0 0) ab [] [] L:=
 ⟨aU.l _ _,rfl,eE _ _ _ _,λN e=>by simp[ap]at e,λb a=>by simp at a⟩
theorem h5.q{wr:aq}(h:h5 ab L a6 u A x wr)(b:aU u wr G J):h5 ab L a6 G A x J:=
 ⟨h.bo.trans b,h.bX,uF h.bg (λN a=>by rw[(h.cG N a).1];decide) b,λN a=>⟨(b.ci N (h.bg.lt N a).2).trans (h.cG N a).1,(h.cG N a).2⟩,λc d=>⟨(h.nb c d).1.bo b,(h.nb c d).2⟩⟩
theorem h5.C{wr:aq}{f:an}{d:Obj}(h:h5 ab L a6 u A x wr)(m:jk u wr f Z)(o:aY H 0 111 1 (U (some ⟨N,0,none⟩) (M A+1) y) (M A+1) (x++[f]))(i:b_ (ar wr d) H (ap a6))(g:ap a6=some N\/N=S (R wr)+1):
 h5 ab L (U (some ⟨N,0,none⟩) (M A+1) y) (aO u N 8) (A++[Z]) (x++[f]) H:=by
 have j:∀a,ap a6=some a->u a=8:=λa c=>(h.cG a c).1
 have p:ap a6=some N\/N=S (R (ar wr d)):=by simpa using g
 have r:S (R L)<=N:=by
  rcases g with e|e
  ·exact(h.cG N e).2
  ·have:=h.bo.b5;omega
 have k:∀a6 l,jk u wr a6 l->jk (aO u N 8) H a6 l:=λv w b=>
  ⟨wQ i j (λa c s=>by
   by_cases e:a=N
   ·subst e
    rcases g with e|e
    ·exact absurd (j a e) s
    ·have:a<S (R wr)+1:=by simpa using c
     omega
   ·exact cR _ _ _ _ e) (wQ (fv wr d none) (λa e=>by cases e) (λ_ _ _=>rfl) b.1),b.2⟩
 refine⟨(h.bo.a d).mY i (λa c=>(h.cG a c).2) p,by simp[h.bX],by rw[bV];exact o,λa e=>by cases e;exact⟨cy _ _ _,r⟩,?_⟩;intro t b;rw[x6 _ _ _ _ h.bX]at b;rcases dm.1 b with b|b
 ·exact k _ _ (h.nb t b)
 ·simp at b;subst b;exact k _ _ m
theorem h5.mO(h:h5 ab L a6 G A x J):∃u,aU ab L u J/\ga u J a6 A:=by
 cases cC:ap a6 with
 |none=>exact⟨G,h.bo,x,h.bX,h.bg,λN c=>(by rw[cC]at c;cases c),h.nb⟩
 |some N=>obtain⟨g,j⟩:=h.cG N cC;refine⟨aO G N 7,⟨λb a=>by rw[cR _ _ _ _ T];exact h.bo.ci b a,h.bo.db⟩,x,h.bX,h.bg,λb a=>by rw[cC]at a;cases a;exact cy _ _ _,λd f=>⟨(h.nb d f).1.py (λb _ e=>?_),(h.nb d f).2⟩⟩;rw[cR _ _ _ _ (λi=>by rw[i,g]at e;cases e)];exact e
theorem yA{a:aq}(i:M bR=M Z)(b:Z≠[])(c:aY a dH 189 6 a6 (M Z) (bC e5 (Z.zip bR)))(q:S (R L)<=dH)(j:aF (S (R L)) L a)
 (d:∀ai∈Z.zip bR,hb ab L ai.2.1 ai.1.bB/\∃k l m,ai.2.2=U k l m):∃u,aU ab L u a/\jk u a a6 Z:=by
 rcases c.2 with⟨_,o⟩|⟨N,y,r,rfl,s,t,_⟩
 ·exact absurd (sD o) b
 ·have f:aU ab L (aO ab N 7) a:=⟨λp g=>cR _ _ _ _ T,(ea.sY j).cE (λ_ g=>g.1)⟩;refine⟨aO ab N 7,f,PH i c (λp e=>by cases e;exact cy _ _ _) (λai h=>⟨(d ai h).1.bo f,(d ai h).2⟩),λe=>absurd e b⟩
theorem Tryz.Ga:(prog.info? 111).map (λa=>(a.zero,a.size,a.bytes))=some (some (U none 0 0),1,24):=by kernel_rfl
theorem Jf(a b:List (aB×(an×an))):bC e5 (a++b)=bC e5 a++bC e5 b:=by simp[bC]
theorem yY(h:∀ai∈Z.zip bR,hb ab L ai.2.1 ai.1.bB/\∃b c d,ai.2.2=U b c d):∀f∈bC e5 (Z.zip bR),f.oneCell'=true:=by
 intro f a;simp only[bC,List.mem_flatten,eG]at a;obtain⟨k,⟨ai,g,rfl⟩,a⟩:=a;obtain⟨i,b,c,d,e⟩:=h ai g;obtain⟨l,m,o,j⟩:=dr i.1;simp only[e5,ek,nE,oz]at a;rcases a with rfl|rfl|rfl|rfl|rfl|rfl
 ·rfl
 ·rfl
 ·rfl
 ·rfl
 ·rw[j];rfl
 ·rw[e];rfl
theorem R6{h a:List aB}(z:jk ab L cC h)(gC:jk ab L K a)(m:a≠[])(A:M h+M a<=1000000):
 aR prog 170 #[U (some ⟨S (R L),0,none⟩) 2 2] (ar L (aw #[cC,K] 111)) λe o=>∃a6,e=aM a6/\∃u,aU ab L u o/\jk u o a6 (h++a):=by
 have i:aF (S (R L)) L (ar L (aw #[cC,K] 111)):=(ca _ _).alloc (aN _) _;have B:S (R L)<S (R (ar L (aw #[cC,K] 111))):=av;have C:=(aL.bT L #[cC,K] 111).aa 0;have F:=(aL.bT L #[cC,K] 111).aa 1;rcases gC.1 with⟨e,_⟩|⟨D,E,I,rfl,_,q⟩
 ·exact absurd e m
 obtain⟨d,r,j,gE⟩:=q.h;have G:0<M a:=by cases a with|nil=>exact absurd rfl m|cons _ _=>simp
 have H:∀b c,(bC e5 (a.zip d))[b]?=some c->aK (ar L (aw #[cC,U (some ⟨D,E*6,none⟩) (M a) I] 111)) ⟨D,E*6+b,none⟩=some c:=λb c s=>(i.cell (p:=⟨D,E*6+b,none⟩) q.am).trans (gE b c s)
 have J:M (bC e5 (a.zip d))=M a*6:=by rw[Fb,jT,r,Fk]
 have P:D<S (R (ar L (aw #[cC,U (some ⟨D,E*6,none⟩) (M a) I] 111))):=by rw[hQ];have:=q.am;omega
 by_cases k:h=[]
 ·subst k;have e:=z.2 rfl;subst e;refine(Kj B C F G (by simp at A;omega) _ J H (yY j) P).mono ?_;rintro e o ⟨a6,rfl,t,v⟩;have w:=i.trans (v.mono wJ);exact⟨a6,rfl,yA (bR:=d) r m t wJ w j⟩
 ·rcases z.1 with⟨e,_⟩|⟨g,l,gf,rfl,_,x⟩
  ·exact absurd e k
  obtain⟨bR,y,gg,gF⟩:=x.h;have gL:0<M h:=by cases h with|nil=>exact absurd rfl k|cons _ _=>simp
  have g1:∀b c,(bC e5 (h.zip bR))[b]?=some c->aK (ar L (aw #[U (some ⟨g,l*6,none⟩) (M h) gf,U (some ⟨D,E*6,none⟩) (M a) I] 111)) ⟨g,l*6+b,none⟩=some c:=λb c s=>(i.cell (p:=⟨g,l*6+b,none⟩) x.am).trans (gF b c s)
  have hu:M (bC e5 (h.zip bR))=M h*6:=by rw[Fb,jT,y,Fk]
  have hE:g<S (R (ar L (aw #[U (some ⟨g,l*6,none⟩) (M h) gf,U (some ⟨D,E*6,none⟩) (M a) I] 111))):=by rw[hQ];have:=x.am;omega
  refine(PS B C F gL G A _ J H (yY j) P _ hu g1 (yY gg) hE).mono ?_;rintro e o ⟨a6,rfl,t,v⟩;have w:=i.trans (v.mono wJ);have gj:(h++a).zip (bR++d)=h.zip bR++a.zip d:=sn y.symm;refine⟨a6,rfl,yA (Z:=h++a) (bR:=bR++d) (by simp[y,r]) (by simp[k]) (by rw[gj,Jf,bV];exact t) wJ w ?_⟩;intro ai f;rw[gj]at f;rcases dm.1 f with f|f
  ·exact gg ai f
  ·exact j ai f
def hW(e f:List (List aB)):List (List aB):=e.flatMap λh=>f.map (h++·)
theorem ue(r w:List (List aB)):M (hW r w)=M r*M w:=by
 unfold hW
 induction r with
 |nil=>simp
 |cons h r a=>rw[ni,bV,a,c_,dT,AC,Nat.add_comm]
theorem HZ(r w:List (List aB))(a:Nat)(h:a<M r):hW (r.take (a+1)) w=hW (r.take a) w++w.map (r[a]++·):=by unfold hW;rw[ev h,nV];simp
theorem JH(b:List aB)(w:List (List aB))(a:Nat)(h:a<M w):(w.take (a+1)).map (b++·)=(w.take a).map (b++·)++[b++w[a]]:=by rw[ev h,dv];rfl
theorem Ti(s:ga ab L cC r)(t:ga ab L K w)(v:0<M r)(z:0<M w)(P:∀l∈w,l≠[])(m:M r*M w<=1000000)(gf:∀h∈r,M h<=100000)(gg:∀l∈w,M l<=100000):
 aR prog 134 #[cC,K] L λe o=>∃a6,e=aM a6/\∃u,aU ab L u o/\ga u o a6 (hW r w):=by
 obtain⟨gj,ne,rfl,gC,gE,gF⟩:=s.gj v;obtain⟨gL,nB,rfl,g1,hu,hE⟩:=t.gj z;have nG:M r<=1000000:=bS (w_ _ z) m;have oa:M w<=1000000:=bS (vR _ v) m;obtain⟨hS,hV,hZ,ih,iR⟩:=dY Tryz.Ga;clear s t;go_enter func134,ntmps134;go_wp2
 go_loopw [5,12] (λa6 c wr=>∃(a:Nat) (u:Nat->Nat) (x:List an),a<=M r/\c=O Q a/\h5 ab L a6 u (hW (r.take a) w) x wr) (λ_ c _=>M r-(bm c).toNat)
 case atStart=>exact⟨0,ab,[],bL _,rfl,h5.jt ab L⟩
 case round=>
  obtain⟨a,u,x,iU,rfl,f⟩:=hrel;obtain⟨iZ,i0,i1,rfl⟩:=dr f.bg;obtain⟨i2,rfl⟩:∃jt,jt=wr:=⟨_,rfl⟩;by_cases i:a<M r
  ·obtain⟨ob,B,p⟩:=gF a i;have jW:=f.bo.db.iA gj ⟨gC,by rw[gE];decide⟩;have oH:=(dn jW a).trans B;have oS:=gf _ (b4 i);have j4:Hid (hW (r.take (a+1)) w=hW (r.take a) w++w.map (r[a]++·)):=HZ r w a i;have j9:Hid (M (hW (r.take a) w)+M w<=1000000):=by show _<=_;rw[ue,hT,qn iU,<-AC];exact bS (qj _ i) m
   obtain⟨o6,pa,py,rfl⟩:=p.1.cV;have pF:(a:Int)<(M r:Int):=T;have pR:(0:Int)<=(a:Int):=T;have C:h5 ab L (U iZ i0 i1) u (hW (r.take a) w++(w.take 0).map (r[a]++·)) x i2:=by simpa using f
   clear f B;generalize r[a]=d at*;generalize hW (r.take a) w=pre at*;go_wp2
   go_loopw [5,18] (λa6 c wr=>∃(b:Nat) (G:Nat->Nat) (k:List an),b<=M w/\c=O Q b/\h5 ab L a6 G (pre++(w.take b).map (d++·)) k wr) (λ_ c _=>M w-(bm c).toNat)
   case atStart=>exact⟨0,u,x,bL _,rfl,C⟩
   case round=>
    obtain⟨b,G,k,pU,rfl,g⟩:=hrel;clear C;obtain⟨pX,pZ,qp,rfl⟩:=dr g.bg;by_cases j:b<M w
    ·obtain⟨qt,D,q⟩:=hE b j;have E:=g.bo.db.iA gL ⟨g1,by rw[hu];decide⟩;have qP:=(dn E b).trans D;have kp:=R6 ⟨p.1.bo g.bo,p.2⟩ ⟨q.1.bo g.bo,q.2⟩ (P _ (b4 j)) (by have:=gg _ (b4 j);omega);have kr:Hid (pre++(w.take (b+1)).map (d++·)=(pre++(w.take b).map (d++·))++[d++w[b]]):=by show _=_;rw[JH d w b j,ke]
     have qW:M (pre++(w.take b).map (d++·))<=1000000:=by have:=j9.out;simp;omega
     obtain⟨ra,rA,rR,rfl⟩:=q.1.cV;have sY:(b:Int)<(M w:Int):=T;have tB:(0:Int)<=(b:Int):=T;clear D E;generalize w[b]=tI at*;generalize pre++(w.take b).map (d++·)=A at*;go_wp2_with(first|(go_at_call 170;refine kp.mono ?_;rintro e F ⟨t8,rfl,ub,kx,I⟩;obtain⟨k1,k7,lo,rfl⟩:=I.1.cV;have J:=g.q kx)|(at_builtin;refine dq _ rfl (.tmp 22) (.tmp 27) 65 rfl 0 111 hS _ 1 24 underlying65 hV hZ ih iR rfl ak _ (M A) k bf (J.bg.alloc _) ⟨S (R F),0,none⟩ 1 1 [U k1 k7 lo] bf rfl (c4 (cB _ _ _ av)) ey ak cN T (bL _) (S (R F)+1) av ?_;intro N y H l8 me mn ug))
     have mO:=J.C I l8 me (by simpa using mn);go_roundw
     case rel=>exact⟨b+1,_,_,j,bE,by rw[kr.out];exact mO⟩
     case measure=>simp[bm];omega
    ·have mR:b=M w:=by omega
     subst mR;go_wp2;go_roundw
     case rel=>exact⟨a+1,G,k,i,bE,by rw[j4.out];simpa using g⟩
     case measure=>simp[bm];omega
  ·have mY:a=M r:=by omega
   subst mY;have m5:Hid (r.take (M r)=r):=eQ;rw[m5.out]at f;go_wp2;go_ret;exact⟨_,rfl,f.mO⟩
theorem H8(L:aq):aR prog 204 #[O .u64 1,O .u64 1] L λe o=>e=aM (.tuple #[O .u64 0,O .u64 1])/\o=L:=by
 go_enter func204,ntmps204;go_wp2
 go_ret2
 exact⟨by kernel_rfl,rfl⟩
theorem Kd(L:aq):aR prog 204 #[O .u64 1,O .u64 2] L λe o=>e=aM (.tuple #[O .u64 0,O .u64 2])/\o=L:=by
 go_enter func204,ntmps204;go_wp2
 go_ret2
 exact⟨by kernel_rfl,rfl⟩
theorem Pu(L:aq):aR prog 204 #[O .u64 1,O .u64 3] L λe o=>e=aM (.tuple #[O .u64 0,O .u64 3])/\o=L:=by
 go_enter func204,ntmps204;go_wp2
 go_ret2
 exact⟨by kernel_rfl,rfl⟩
theorem P3(L:aq):aR prog 204 #[O .u64 1,O .u64 4] L λe o=>e=aM (.tuple #[O .u64 0,O .u64 4])/\o=L:=by
 go_enter func204,ntmps204;go_wp2
 go_ret2
 exact⟨by kernel_rfl,rfl⟩
theorem Kq(L:aq):(Instr.makeSlice 111 (O Q 1) (O Q 1)).run prog L=.ok (U (some ⟨S (R L),0,none⟩) 1 1) (ar L (aw #[az ⟨#[]⟩,O Q 0,O Q 0,O Q 0,U none 0 0,U none 0 0] 189)):=by kernel_rfl
theorem Qx(L:aq):(Instr.makeSlice 111 (O Q 2) (O Q 2)).run prog L=.ok (U (some ⟨S (R L),0,none⟩) 2 2) (ar L (aw #[az ⟨#[]⟩,O Q 0,O Q 0,O Q 0,U none 0 0,U none 0 0,az ⟨#[]⟩,O Q 0,O Q 0,O Q 0,U none 0 0,U none 0 0] 189)):=by kernel_rfl
theorem SR(L:aq):(Instr.makeSlice 111 (O Q 3) (O Q 3)).run prog L=.ok (U (some ⟨S (R L),0,none⟩) 3 3) (ar L (aw #[az ⟨#[]⟩,O Q 0,O Q 0,O Q 0,U none 0 0,U none 0 0,az ⟨#[]⟩,O Q 0,O Q 0,O Q 0,U none 0 0,U none 0 0,az ⟨#[]⟩,O Q 0,O Q 0,O Q 0,U none 0 0,U none 0 0] 189)):=by kernel_rfl
theorem Kk(L:aq):(Instr.makeSlice 111 (O Q 4) (O Q 4)).run prog L=.ok (U (some ⟨S (R L),0,none⟩) 4 4) (ar L (aw #[az ⟨#[]⟩,O Q 0,O Q 0,O Q 0,U none 0 0,U none 0 0,az ⟨#[]⟩,O Q 0,O Q 0,O Q 0,U none 0 0,U none 0 0,az ⟨#[]⟩,O Q 0,O Q 0,O Q 0,U none 0 0,U none 0 0,az ⟨#[]⟩,O Q 0,O Q 0,O Q 0,U none 0 0,U none 0 0] 189)):=by kernel_rfl
theorem IE(L:aq)(N b f k:Nat)(d:Addr)(g l e:Nat)(c:Array an)(h:TypeId)(a:List an)(m:(R L)[N]?=some (aw c h (0,0)))(o:e=Nat.min g f)(p:M a=e*6)(q:∀i a6,a[i]?=some a6->aK L (d.add i)=some a6)(r:b+M a<=S c)(s:∀a6∈a,a6.oneCell'=true):
 (Builtin.copy_ #[111,111] 3 #[U (some ⟨N,b,none⟩) f k,U (some d) g l]).run prog L=
   .ok (goInt e) (L.setRow N (c.toList.take b++a++c.toList.drop (b+M a)).toArray):=by
 have j:=run_loadCells_list (P:=prog) L d a q;have t:=run_storeCells_at prog N b h a 0 c L m (by simpa using r) s;obtain⟨w,u,x,v,y⟩:=dY Tryz.uY;rw[p]at j;simp[Builtin.copy_,run_underlying underlying111,Builtin.lenOf,Builtin.firstCells,sizeOf,typeInfo,u,v,<-o,j,t]
theorem Px(L:aq)(d a:Array an)(b:TypeId):(ar L (aw d b)).setRow (S (R L)) a=ar L (aw a b):=by
 unfold aq.setRow ar;simp only[World.mk.injEq,true_and,and_true];apply Array.ext
 ·simp
 ·intro c g f;simp only[Array.getElem_modify,Array.getElem_push];by_cases e:S (R L)=c
  ·subst e;simp
  ·have:c<S (R L):=by simp at f;omega
   simp[e,this]
theorem pW(L:aq)(b:Array an)(c g k:Nat)(e:Addr)(f h d:Nat)(a:List an)(i:Array an)(l:d=Nat.min f g)(m:M a=d*6)(o:∀j a6,a[j]?=some a6->aK (ar L (aw b 189)) (e.add j)=some a6)(p:c+M a<=S b)(q:∀a6∈a,a6.oneCell'=true)(r:(b.toList.take c++a++b.toList.drop (c+M a)).toArray=i):
 (Builtin.copy_ #[111,111] 3 #[U (some ⟨S (R L),c,none⟩) g k,U (some e) f h]).run prog (ar L (aw b 189))=.ok (goInt d) (ar L (aw i 189)):=by
 rw[IE _ _ _ _ _ e f h d b 189 a (mW L _) l m o p q,r,Px]
theorem R8(h:aL L dH #[b,a,c,d,j,k] 189)(i:∀f∈[b,a,c,d,j,k],f.oneCell'=true):
 aR prog 171 #[U (some ⟨dH,0,none⟩) 1 1,O Q 1] L λe o=>∃a6,e=aM a6/\aY o (S (R L)) 189 6 a6 1 [b,a,c,d,j,k]/\aF (S (R L)) L o:=by
 have m:=Kq;have p:=pW L #[az ⟨#[]⟩,O Q 0,O Q 0,O Q 0,U none 0 0,U none 0 0] 0 1 1 ⟨dH,0,none⟩ 1 1 1 [b,a,c,d,j,k] #[b,a,c,d,j,k] rfl rfl (λq f l=>by rw[ez,du,(h.a _).aa];simpa using l) av i rfl;go_enter func171,ntmps171;go_wp2_with(go_at_call 204;refine(H8 _).mono ?_;rintro e r ⟨rfl,g⟩;rw[g];clear g)
 go_loopw [8] (λW wr=>W=O Q 1/\wr=ar L (aw #[b,a,c,d,j,k] 189)) (λ_ _=>0)
 case atStart=>exact⟨rfl,rfl⟩
 case round=>obtain⟨rfl,rfl⟩:=hrel;go_wp2;go_ret;exact⟨_,rfl,⟨rfl,.inr ⟨S (R L),1,_,rfl,aN _,mW L _,aN _,rL,rfl,rfl⟩⟩,(ca _ _).alloc (aN _) _⟩
theorem vQ{a d:List an}{b:Nat}{c:an}(h:a[b]?=some c):((a++d).toArray)[b]?=some c:=by have e:b<M a:=(jX.1 h).1;simp[ms e,h]
theorem GQ(L:aq)(a:Obj):aF (S (R L)) L (cb (ar L a)):=eY ((ca _ _).alloc (aN _) _) (jm _ none) (λN e=>by cases e)
theorem G4(L:aq)(a:Obj):aF (S (R L)) L (cb (cb (ar L a))):=eY (GQ L a) (jm _ none) (λN e=>by cases e)
theorem Pr(m:aL L dH #[b,a,c,d,j,k] 189)(h:∀f∈[b,a,c,d,j,k],f.oneCell'=true):
 aR prog 171 #[U (some ⟨dH,0,none⟩) 1 1,O Q 2] L λe o=>∃a6,e=aM a6/\aY o (S (R L)) 189 6 a6 2 [b,a,c,d,j,k,b,a,c,d,j,k]/\aF (S (R L)) L o:=by
 have p:=Qx;have q:=pW L #[az ⟨#[]⟩,O Q 0,O Q 0,O Q 0,U none 0 0,U none 0 0,az ⟨#[]⟩,O Q 0,O Q 0,O Q 0,U none 0 0,U none 0 0] 0 2 2 ⟨dH,0,none⟩ 1 1 1 [b,a,c,d,j,k] #[b,a,c,d,j,k,az ⟨#[]⟩,O Q 0,O Q 0,O Q 0,U none 0 0,U none 0 0] rfl rfl (λi f g=>by rw[ez,du,(m.a _).aa];simpa using g) av h rfl;have r:(Builtin.copy_ #[111,111] 3 #[U (some ⟨S (R L),6,none⟩) 1 1,U (some ⟨S (R L),0,none⟩) 1 2]).run prog (cb (ar L (aw #[b,a,c,d,j,k,az ⟨#[]⟩,O Q 0,O Q 0,O Q 0,U none 0 0,U none 0 0] 189)))=.ok (goInt 1) (cb (ar L (aw #[b,a,c,d,j,k,b,a,c,d,j,k] 189))):=pW (cb L) #[b,a,c,d,j,k,az ⟨#[]⟩,O Q 0,O Q 0,O Q 0,U none 0 0,U none 0 0] 6 1 1 ⟨S (R L),0,none⟩ 1 2 1 [b,a,c,d,j,k] #[b,a,c,d,j,k,b,a,c,d,j,k] rfl rfl (λi f g=>by rw[ez,du];refine((aL.bT (cb L) #[b,a,c,d,j,k,az ⟨#[]⟩,O Q 0,O Q 0,O Q 0,U none 0 0,U none 0 0] 189).aa i).trans ?_;exact vQ g) av h rfl
 go_enter func171,ntmps171;go_wp2_with(go_at_call 204;refine(Kd _).mono ?_;rintro e s ⟨rfl,l⟩;rw[l];clear l)
 go_loopw [8] (λW wr=>(W=O Q 1/\wr=(ar L (aw #[b,a,c,d,j,k,az ⟨#[]⟩,O Q 0,O Q 0,O Q 0,U none 0 0,U none 0 0] 189)))\/(W=O Q 2/\wr=cb (ar L (aw #[b,a,c,d,j,k,b,a,c,d,j,k] 189)))) (λW _=>2-(bm W).toNat)
 case atStart=>exact .inl ⟨rfl,rfl⟩
 case round=>
  rcases hrel with⟨rfl,rfl⟩|⟨rfl,rfl⟩
  ·go_wp2
   go_region
   go_wp2;go_roundw
   case rel=>exact .inr (⟨rfl,trivial⟩)
   case measure=>simp[bm]
  ·go_wp2;go_ret;exact⟨_,rfl,⟨rfl,.inr ⟨S (R L),2,_,rfl,aN _,mW (cb L) _,aN _,rL,rfl,rfl⟩⟩,GQ L _⟩
theorem Q2(m:aL L dH #[b,a,c,d,j,k] 189)(i:∀g∈[b,a,c,d,j,k],g.oneCell'=true):
 aR prog 171 #[U (some ⟨dH,0,none⟩) 1 1,O Q 3] L λe o=>∃a6,e=aM a6/\aY o (S (R L)) 189 6 a6 3 [b,a,c,d,j,k,b,a,c,d,j,k,b,a,c,d,j,k]/\aF (S (R L)) L o:=by
 have p:=SR;have q:=pW L #[az ⟨#[]⟩,O Q 0,O Q 0,O Q 0,U none 0 0,U none 0 0,az ⟨#[]⟩,O Q 0,O Q 0,O Q 0,U none 0 0,U none 0 0,az ⟨#[]⟩,O Q 0,O Q 0,O Q 0,U none 0 0,U none 0 0] 0 3 3 ⟨dH,0,none⟩ 1 1 1 [b,a,c,d,j,k] #[b,a,c,d,j,k,az ⟨#[]⟩,O Q 0,O Q 0,O Q 0,U none 0 0,U none 0 0,az ⟨#[]⟩,O Q 0,O Q 0,O Q 0,U none 0 0,U none 0 0] rfl rfl (λh g f=>by rw[ez,du,(m.a _).aa];simpa using f) av i rfl;have r:(Builtin.copy_ #[111,111] 3 #[U (some ⟨S (R L),6,none⟩) 2 2,U (some ⟨S (R L),0,none⟩) 1 3]).run prog (cb (ar L (aw #[b,a,c,d,j,k,az ⟨#[]⟩,O Q 0,O Q 0,O Q 0,U none 0 0,U none 0 0,az ⟨#[]⟩,O Q 0,O Q 0,O Q 0,U none 0 0,U none 0 0] 189)))=.ok (goInt 1) (cb (ar L (aw #[b,a,c,d,j,k,b,a,c,d,j,k,az ⟨#[]⟩,O Q 0,O Q 0,O Q 0,U none 0 0,U none 0 0] 189))):=pW (cb L) #[b,a,c,d,j,k,az ⟨#[]⟩,O Q 0,O Q 0,O Q 0,U none 0 0,U none 0 0,az ⟨#[]⟩,O Q 0,O Q 0,O Q 0,U none 0 0,U none 0 0] 6 2 2 ⟨S (R L),0,none⟩ 1 3 1 [b,a,c,d,j,k] #[b,a,c,d,j,k,b,a,c,d,j,k,az ⟨#[]⟩,O Q 0,O Q 0,O Q 0,U none 0 0,U none 0 0] rfl rfl (λh g f=>by rw[ez,du];refine((aL.bT (cb L) #[b,a,c,d,j,k,az ⟨#[]⟩,O Q 0,O Q 0,O Q 0,U none 0 0,U none 0 0,az ⟨#[]⟩,O Q 0,O Q 0,O Q 0,U none 0 0,U none 0 0] 189).aa h).trans ?_;exact vQ f) av i rfl
 have s:(Builtin.copy_ #[111,111] 3 #[U (some ⟨S (R L),12,none⟩) 1 1,U (some ⟨S (R L),0,none⟩) 2 3]).run prog (cb (cb (ar L (aw #[b,a,c,d,j,k,b,a,c,d,j,k,az ⟨#[]⟩,O Q 0,O Q 0,O Q 0,U none 0 0,U none 0 0] 189))))=.ok (goInt 1) (cb (cb (ar L (aw #[b,a,c,d,j,k,b,a,c,d,j,k,b,a,c,d,j,k] 189)))):=pW (cb (cb L)) #[b,a,c,d,j,k,b,a,c,d,j,k,az ⟨#[]⟩,O Q 0,O Q 0,O Q 0,U none 0 0,U none 0 0] 12 1 1 ⟨S (R L),0,none⟩ 2 3 1 [b,a,c,d,j,k] #[b,a,c,d,j,k,b,a,c,d,j,k,b,a,c,d,j,k] rfl rfl (λh g f=>by rw[ez,du];refine((aL.bT (cb (cb L)) #[b,a,c,d,j,k,b,a,c,d,j,k,az ⟨#[]⟩,O Q 0,O Q 0,O Q 0,U none 0 0,U none 0 0] 189).aa h).trans ?_;exact vQ f) av i rfl
 go_enter func171,ntmps171;go_wp2_with(go_at_call 204;refine(Pu _).mono ?_;rintro e t ⟨rfl,l⟩;rw[l];clear l)
 go_loopw [8] (λW wr=>(W=O Q 1/\wr=(ar L (aw #[b,a,c,d,j,k,az ⟨#[]⟩,O Q 0,O Q 0,O Q 0,U none 0 0,U none 0 0,az ⟨#[]⟩,O Q 0,O Q 0,O Q 0,U none 0 0,U none 0 0] 189)))\/(W=O Q 2/\wr=cb (ar L (aw #[b,a,c,d,j,k,b,a,c,d,j,k,az ⟨#[]⟩,O Q 0,O Q 0,O Q 0,U none 0 0,U none 0 0] 189)))\/(W=O Q 3/\wr=cb (cb (ar L (aw #[b,a,c,d,j,k,b,a,c,d,j,k,b,a,c,d,j,k] 189))))) (λW _=>3-(bm W).toNat)
 case atStart=>exact .inl ⟨rfl,rfl⟩
 case round=>
  rcases hrel with⟨rfl,rfl⟩|⟨rfl,rfl⟩|⟨rfl,rfl⟩
  ·go_wp2
   go_region
   go_wp2;go_roundw
   case rel=>exact .inr (.inl ⟨rfl,trivial⟩)
   case measure=>simp[bm]
  ·go_wp2
   go_region
   go_wp2;go_roundw
   case rel=>exact .inr (.inr (⟨rfl,trivial⟩))
   case measure=>simp[bm]
  ·go_wp2;go_ret;exact⟨_,rfl,⟨rfl,.inr ⟨S (R L),3,_,rfl,aN _,mW (cb (cb L)) _,aN _,rL,rfl,rfl⟩⟩,G4 L _⟩
theorem QL(p:aL L dH #[b,a,c,d,j,k] 189)(l:∀f∈[b,a,c,d,j,k],f.oneCell'=true):
 aR prog 171 #[U (some ⟨dH,0,none⟩) 1 1,O Q 4] L λe o=>∃a6,e=aM a6/\aY o (S (R L)) 189 6 a6 4 [b,a,c,d,j,k,b,a,c,d,j,k,b,a,c,d,j,k,b,a,c,d,j,k]/\aF (S (R L)) L o:=by
 have r:=Kk;have q:∀f∈[b,a,c,d,j,k,b,a,c,d,j,k],f.oneCell'=true:=λf g=>by rcases dm.1 (show f∈[b,a,c,d,j,k]++[b,a,c,d,j,k]from g)with h|h<;>exact l f h
 have s:=pW L #[az ⟨#[]⟩,O Q 0,O Q 0,O Q 0,U none 0 0,U none 0 0,az ⟨#[]⟩,O Q 0,O Q 0,O Q 0,U none 0 0,U none 0 0,az ⟨#[]⟩,O Q 0,O Q 0,O Q 0,U none 0 0,U none 0 0,az ⟨#[]⟩,O Q 0,O Q 0,O Q 0,U none 0 0,U none 0 0] 0 4 4 ⟨dH,0,none⟩ 1 1 1 [b,a,c,d,j,k] #[b,a,c,d,j,k,az ⟨#[]⟩,O Q 0,O Q 0,O Q 0,U none 0 0,U none 0 0,az ⟨#[]⟩,O Q 0,O Q 0,O Q 0,U none 0 0,U none 0 0,az ⟨#[]⟩,O Q 0,O Q 0,O Q 0,U none 0 0,U none 0 0] rfl rfl (λi f g=>by rw[ez,du,(p.a _).aa];simpa using g) av l rfl;have t:(Builtin.copy_ #[111,111] 3 #[U (some ⟨S (R L),6,none⟩) 3 3,U (some ⟨S (R L),0,none⟩) 1 4]).run prog (cb (ar L (aw #[b,a,c,d,j,k,az ⟨#[]⟩,O Q 0,O Q 0,O Q 0,U none 0 0,U none 0 0,az ⟨#[]⟩,O Q 0,O Q 0,O Q 0,U none 0 0,U none 0 0,az ⟨#[]⟩,O Q 0,O Q 0,O Q 0,U none 0 0,U none 0 0] 189)))=.ok (goInt 1) (cb (ar L (aw #[b,a,c,d,j,k,b,a,c,d,j,k,az ⟨#[]⟩,O Q 0,O Q 0,O Q 0,U none 0 0,U none 0 0,az ⟨#[]⟩,O Q 0,O Q 0,O Q 0,U none 0 0,U none 0 0] 189))):=pW (cb L) #[b,a,c,d,j,k,az ⟨#[]⟩,O Q 0,O Q 0,O Q 0,U none 0 0,U none 0 0,az ⟨#[]⟩,O Q 0,O Q 0,O Q 0,U none 0 0,U none 0 0,az ⟨#[]⟩,O Q 0,O Q 0,O Q 0,U none 0 0,U none 0 0] 6 3 3 ⟨S (R L),0,none⟩ 1 4 1 [b,a,c,d,j,k] #[b,a,c,d,j,k,b,a,c,d,j,k,az ⟨#[]⟩,O Q 0,O Q 0,O Q 0,U none 0 0,U none 0 0,az ⟨#[]⟩,O Q 0,O Q 0,O Q 0,U none 0 0,U none 0 0] rfl rfl (λi f g=>by rw[ez,du];refine((aL.bT (cb L) #[b,a,c,d,j,k,az ⟨#[]⟩,O Q 0,O Q 0,O Q 0,U none 0 0,U none 0 0,az ⟨#[]⟩,O Q 0,O Q 0,O Q 0,U none 0 0,U none 0 0,az ⟨#[]⟩,O Q 0,O Q 0,O Q 0,U none 0 0,U none 0 0] 189).aa i).trans ?_;exact vQ g) av l rfl
 have u:(Builtin.copy_ #[111,111] 3 #[U (some ⟨S (R L),12,none⟩) 2 2,U (some ⟨S (R L),0,none⟩) 2 4]).run prog (cb (cb (ar L (aw #[b,a,c,d,j,k,b,a,c,d,j,k,az ⟨#[]⟩,O Q 0,O Q 0,O Q 0,U none 0 0,U none 0 0,az ⟨#[]⟩,O Q 0,O Q 0,O Q 0,U none 0 0,U none 0 0] 189))))=.ok (goInt 2) (cb (cb (ar L (aw #[b,a,c,d,j,k,b,a,c,d,j,k,b,a,c,d,j,k,b,a,c,d,j,k] 189)))):=pW (cb (cb L)) #[b,a,c,d,j,k,b,a,c,d,j,k,az ⟨#[]⟩,O Q 0,O Q 0,O Q 0,U none 0 0,U none 0 0,az ⟨#[]⟩,O Q 0,O Q 0,O Q 0,U none 0 0,U none 0 0] 12 2 2 ⟨S (R L),0,none⟩ 2 4 2 [b,a,c,d,j,k,b,a,c,d,j,k] #[b,a,c,d,j,k,b,a,c,d,j,k,b,a,c,d,j,k,b,a,c,d,j,k] rfl rfl (λi f g=>by rw[ez,du];refine((aL.bT (cb (cb L)) #[b,a,c,d,j,k,b,a,c,d,j,k,az ⟨#[]⟩,O Q 0,O Q 0,O Q 0,U none 0 0,U none 0 0,az ⟨#[]⟩,O Q 0,O Q 0,O Q 0,U none 0 0,U none 0 0] 189).aa i).trans ?_;exact vQ g) av q rfl
 go_enter func171,ntmps171;go_wp2_with(go_at_call 204;refine(P3 _).mono ?_;rintro e v ⟨rfl,m⟩;rw[m];clear m)
 go_loopw [8] (λW wr=>(W=O Q 1/\wr=(ar L (aw #[b,a,c,d,j,k,az ⟨#[]⟩,O Q 0,O Q 0,O Q 0,U none 0 0,U none 0 0,az ⟨#[]⟩,O Q 0,O Q 0,O Q 0,U none 0 0,U none 0 0,az ⟨#[]⟩,O Q 0,O Q 0,O Q 0,U none 0 0,U none 0 0] 189)))\/(W=O Q 2/\wr=cb (ar L (aw #[b,a,c,d,j,k,b,a,c,d,j,k,az ⟨#[]⟩,O Q 0,O Q 0,O Q 0,U none 0 0,U none 0 0,az ⟨#[]⟩,O Q 0,O Q 0,O Q 0,U none 0 0,U none 0 0] 189)))\/(W=O Q 4/\wr=cb (cb (ar L (aw #[b,a,c,d,j,k,b,a,c,d,j,k,b,a,c,d,j,k,b,a,c,d,j,k] 189))))) (λW _=>4-(bm W).toNat)
 case atStart=>exact .inl ⟨rfl,rfl⟩
 case round=>
  rcases hrel with⟨rfl,rfl⟩|⟨rfl,rfl⟩|⟨rfl,rfl⟩
  ·go_wp2
   go_region
   go_wp2;go_roundw
   case rel=>exact .inr (.inl ⟨rfl,trivial⟩)
   case measure=>simp[bm]
  ·go_wp2
   go_region
   go_wp2;go_roundw
   case rel=>exact .inr (.inr (⟨rfl,trivial⟩))
   case measure=>simp[bm]
  ·go_wp2;go_ret;exact⟨_,rfl,⟨rfl,.inr ⟨S (R L),4,_,rfl,aN _,mW (cb (cb L)) _,aN _,rL,rfl,rfl⟩⟩,G4 L _⟩
def fd(f:List aB->List (List aB))(e:aB):List (List aB):=
 if cW e then [List.replicate e.bG e]else if e.cv.isEmpty then [[e]]else e.cv.flatMap f
def c3:Nat->List aB->List (List aB)
 |0,_=>[[]]
 |e+1,f=>f.foldl (λall g=>hW all (fd (c3 e) g)) [[]]
def h3(e:Nat)(f:List aB)(g:Nat):List (List aB):=(f.take g).foldl (λall h=>hW all (fd (c3 e) h)) [[]]
theorem un(W:Nat)(Z:List aB)(a:Nat)(h:a<M Z):h3 W Z (a+1)=hW (h3 W Z a) (fd (c3 W) Z[a]):=by unfold h3;rw[ev h,h_];rfl
theorem xc(W:Nat)(Z:List aB):h3 W Z (M Z)=c3 (W+1) Z:=by unfold h3;rw[eQ];rfl
def n2:Nat->List aB->Prop
 |0,_=>False
 |g+1,f=>f≠[]/\(ce (g+1) f).1<=16/\c9 (g+1) f<=100000/\∀e∈f,(cW e=true->1<=e.bG/\e.bG<=4/\e.cv=[])/\∀h∈e.cv,n2 g h
theorem Fz{c:List aB}(h:c∈hW r w):∃a∈r,∃b∈w,c=a++b:=by unfold hW at h;obtain⟨a,d,e⟩:=ky.1 h;obtain⟨b,f,rfl⟩:=eG.1 e;exact⟨a,d,b,f,rfl⟩
structure sN (bP:List (List aB)) (fk bX:Nat):Prop where
 gV:∀bb∈bP,bb≠[]
 bX:∀bb∈bP,bb.length<=bX
 fk:bP.length=fk
 a1:0<bP.length
theorem xg(a:List (List aB))(b:List aB->List (List aB)):M (a.flatMap b)=(a.map λc=>M (b c)).sum:=by
 induction a with
 |nil=>rfl
 |cons e a d=>simp[d]
theorem C9(a:List (List aB))(ah:List aB->Nat×Nat)(b:Nat×Nat):(a.foldl (λb a=>(b.1+(ah a).1,max b.2 (ah a).2)) b).1=b.1+(a.map λc=>(ah c).1).sum:=by
 induction a generalizing b with
 |nil=>simp
 |cons c a d=>rw[hc,d];simp;omega
theorem Ba(h:(cW ai=true->1<=ai.bG/\ai.bG<=4/\ai.cv=[]))(f:∀a∈ai.cv,sN (c3 W a) (ce W a).1 (c9 W a)):
 sN (fd (c3 W) ai) (eP (ce W) ai).1 (ai.bG+1+(ai.cv.map λa=>c9 W a+1).sum):=by
 unfold fd eP;by_cases r:cW ai=true
 ·obtain⟨j,k,c⟩:=h r;rw[aP r,c];refine⟨λd b e=>?_,λd b=>?_,rfl,av⟩
  ·simp only[dB]at b;rw[b]at e;have:=congrArg M e;simp at this;omega
  ·simp only[dB]at b;subst b;simp
   try omega
 ·rw[aH r];by_cases c:ai.cv.isEmpty=true
  ·rw[aP c,aP c];refine⟨λd b e=>?_,λd b=>?_,rfl,av⟩
   ·simp only[dB]at b;rw[b]at e;cases e
   ·simp only[dB]at b;subst b;simp
    try omega
  ·rw[aH c,aH c];have i:ai.cv≠[]:=by simpa using c
   refine⟨λd b=>?_,λd b=>?_,?_,?_⟩
   ·obtain⟨a,c,b⟩:=ky.1 b;exact(f a c).gV d b
   ·obtain⟨a,c,b⟩:=ky.1 b;have:=(f a c).bX d b;have l:c9 W a+1<=(ai.cv.map λa=>c9 W a+1).sum:=pf (eG.2 ⟨a,c,rfl⟩);omega
   ·rw[xg,C9];simp only[du];congr 1;exact sa (λa c=>(f a c).fk)
   ·obtain⟨a,rest,e⟩:=uJ i;have g:a∈ai.cv:=by rw[e];simp
    have:=(f a g).a1;rw[xg];exact cI this (pf (eG.2 ⟨a,g,rfl⟩))
theorem vG(m:∀ai∈Z,sN (fd (c3 W) ai) (eP (ce W) ai).1 (ai.bG+1+(ai.cv.map λf=>c9 W f+1).sum)):∀a,a<=M Z->(e7 (ce W) Z a).1<=16->
 (M (h3 W Z a))=(e7 (ce W) Z a).1/\0<M (h3 W Z a)/\(∀d∈h3 W Z a,(0<a->d≠[])/\M d<=((Z.map λai=>ai.bG+1+(ai.cv.map λf=>c9 W f+1).sum).take a).sum)/\∀b,b<=a->(e7 (ce W) Z b).1<=16:=by
 intro a
 induction a with
 |zero=>
  intro _ h;refine⟨rfl,by show 0<1;omega,λd g=>?_,λb o=>by rw[show b=0 by omega];exact h⟩;have e:d=[]:=by simpa[h3]using g
  exact⟨λh=>absurd h T,by rw[e];simp⟩
 |succ a p=>
  intro z h;have r:=uN (ce W) Z a T;have c:=m _ (b4 (show a<M Z by omega));rw[r]at h;have A:min ((e7 (ce W) Z a).1*(eP (ce W) Z[a]).1) 17<=16:=h;have q:1<=(eP (ce W) Z[a]).1:=by have:=c.a1;have:=c.fk;omega
  have i:(e7 (ce W) Z a).1*(eP (ce W) Z[a]).1<=16:=T;have s:(e7 (ce W) Z a).1<=16:=bS (w_ _ q) i;obtain⟨t,u,v,w⟩:=p T s;have j:(e7 (ce W) Z (a+1)).1=(e7 (ce W) Z a).1*(eP (ce W) Z[a]).1:=by rw[r];show min _ 17=_;omega
  rw[un W Z a T];refine⟨by rw[ue,t,c.fk,j],by rw[ue];exact Nat.mul_pos u c.a1,λd g=>?_,λb o=>?_⟩
  ·obtain⟨x,y,k,l,rfl⟩:=Fz g;refine⟨λ_ e=>c.gV k l (E1.1 e).2,?_⟩;have B:=(v x y).2;have C:=c.bX k l;rw[ev (by rw[c_];omega),qO,bV];simp only[yz,qx,GI];omega
  ·by_cases e:b=a+1
   ·rw[e,j];exact i
   ·exact w b T
theorem qT:∀W Z,n2 W Z->sN (c3 W Z) (ce W Z).1 (c9 W Z):=by
 intro W
 induction W with
 |zero=>intro Z h;exact h.elim
 |succ W k=>rintro Z ⟨l,m,_,d⟩;have e:e7 (ce W) Z (M Z)=ce (W+1) Z:=s7;obtain⟨f,g,a,_⟩:=vG (W:=W) (Z:=Z) (λai i=>Ba (d ai i).1 (λj o=>k j ((d ai i).2 j o))) (M Z) (aN _) (by rw[e];exact m);rw[e,xc]at f;rw[xc]at g a;have p:0<M Z:=lw.2 l;exact⟨λb c=>(a b c).1 p,λb c=>bS (a b c).2 (tD _ _),f,g⟩
theorem At(h:jk ab L a6 Z):∃u,aU ab L u (ar L (aw #[a6] 111))/\ga u (ar L (aw #[a6] 111)) (U (some ⟨S (R L),0,none⟩) 1 1) [Z]:=by
 have d:∀a,a<S (R L)->aO ab (S (R L)) 7 a=ab a:=λa b=>cR _ _ _ _ T
 refine⟨aO ab (S (R L)) 7,(aU.l ab L).o6 _ 7,[a6],rfl,⟨rfl,.inr ⟨S (R L),1,_,rfl,bL _,mW L _,aN _,rL,rfl,rfl⟩⟩,λN e=>by cases e;exact cy _ _ _,λf c=>?_⟩;simp only[tM,B5,dB]at c;subst c;exact⟨wQ (fv L _ none) (λa e=>by cases e) (λa b _=>d a b) h.1,h.2⟩
def uW(g:Nat->Nat)(L:aq)(h:List (List aB))(i:an)(e:aq):Prop:=∃f,aU g L f e/\ga f e i h
theorem Ki(h:gH ab L W ai dc cC):∀a∈e5 (ai,(dc,cC)),a.oneCell'=true:=by obtain⟨c,d,e,rfl⟩:=dr h.1.1;obtain⟨f,g,i,rfl⟩:=h.2.cV;intro a b;simp only[e5,ek,nE,oz]at b;rcases b with rfl|rfl|rfl|rfl|rfl|rfl<;>rfl
theorem Pj(ai:aB)(dc cC:an)(a:Nat):bC e5 ((List.replicate a ai).zip (List.replicate a (dc,cC)))=(List.replicate a (e5 (ai,(dc,cC)))).flatten:=by
 induction a with
 |zero=>rfl
 |succ a b=>have e:bC e5 ((List.replicate (a+1) ai).zip (List.replicate (a+1) (dc,cC)))=e5 (ai,(dc,cC))++bC e5 ((List.replicate a ai).zip (List.replicate a (dc,cC))):=rfl;rw[e,b,List.replicate_succ,List.flatten_cons]
theorem Mo{aE:Nat}(c:aL L dH #[az ai.name,O Q ai.aX,O Q ai.bG,O Q ai.ao,dc,cC] 189)(h:gH ab L W ai dc cC)(g:1<=aE)(i:aE<=4):
 aR prog 171 #[U (some ⟨dH,0,none⟩) 1 1,O Q aE] L λe o=>∃a6,e=aM a6/\∃u,aU ab L u o/\jk u o a6 (List.replicate aE ai):=by
 have d:=Ki h;have ba:∀o a6,aY o (S (R L)) 189 6 a6 aE (List.replicate aE (e5 (ai,(dc,cC)))).flatten->aF (S (R L)) L o->∃u,aU ab L u o/\jk u o a6 (List.replicate aE ai):=λo a6 a b=>by refine yA (bR:=List.replicate aE (dc,cC)) av (λe=>by have:=congrArg M e;simp at this;omega) (by rw[Pj,qf];exact a) (aN _) b ?_;intro j f;rw[List.zip_replicate,Fk]at f;have e:=Dp f;subst e;exact⟨h.1,h.2.cV⟩
 rcases(by omega:aE=1\/aE=2\/aE=3\/aE=4)with rfl|rfl|rfl|rfl
 ·refine(R8 c d).mono ?_;rintro e o ⟨a6,rfl,a,b⟩;exact⟨a6,rfl,ba o a6 a b⟩
 ·refine(Pr c d).mono ?_;rintro e o ⟨a6,rfl,a,b⟩;exact⟨a6,rfl,ba o a6 a b⟩
 ·refine(Q2 c d).mono ?_;rintro e o ⟨a6,rfl,a,b⟩;exact⟨a6,rfl,ba o a6 a b⟩
 ·refine(QL c d).mono ?_;rintro e o ⟨a6,rfl,a,b⟩;exact⟨a6,rfl,ba o a6 a b⟩
theorem Qk(h:gH ab L W ai dc cC)(r:cW ai=true)(f:1<=ai.bG)(g:ai.bG<=4):
 aR prog 135 #[eu ai dc cC] L λe o=>∃a6,e=aM a6/\uW ab L (fd (c3 W) ai) a6 o:=by
 have i:Hid (fd (c3 W) ai=[List.replicate ai.bG ai]):=by show _=_;unfold fd;rw[aP r]
 have b:=λL=>sz ai dc cC (dr h.1.1) h.2.cV L
 rw[r]at b;have j:=λ(o:aq) (dH:Nat) (c:aF (S (R L)) L o) k=>Mo (ab:=ab) (L:=o) (W:=W) (dH:=dH) (aE:=ai.bG) (ai:=ai) (dc:=dc) (cC:=cC) k (h.bo (aU.H c)) f g
 obtain⟨u,v,w,rfl⟩:=dr h.1.1;obtain⟨x,c,y,rfl⟩:=h.2.cV;simp only[eu]at b⊢;clear r h;go_enter func135,ntmps135;go_wp2_with(first|(go_at_call 91;refine(b _).mono ?_;rintro e z ⟨rfl,A,rfl⟩)|(go_at_call 171;refine(j _ (S (R L)+1+1) ((((ca _ L).alloc (aN _) _).alloc av _).alloc b7 _) (cB _ _ _ av)).mono ?_;rintro e J ⟨a,rfl,G,l,d⟩;obtain⟨B,C,D,rfl⟩:=d.1.cV))
 go_ret;obtain⟨m,p,q⟩:=At d;have s:=(λt=>aU.trans (aU.H (ab:=ab) (L:=L) t) l) ((((ca _ L).alloc (aN _) _).alloc av _).alloc b7 _);rw[i.out];exact⟨_,rfl,m,s.trans p,q⟩
theorem KE(h:gH ab L W ai dc cC)(r:cW ai=false)(f:ai.cv=[]):
 aR prog 135 #[eu ai dc cC] L λe o=>∃a6,e=aM a6/\uW ab L (fd (c3 W) ai) a6 o:=by
 have j:Hid (fd (c3 W) ai=[[ai]]):=by show _=_;unfold fd;rw[aH (by simp[r]),aP (by simp[f])]
 have a:=λL=>sz ai dc cC (dr h.1.1) h.2.cV L
 rw[r]at a;have k:cC=U none 0 0:=by
  rcases h.2 with⟨_,e⟩|⟨e,_⟩
  ·exact e
  ·exact absurd f e
 subst k;have v:=CJ;have l:Hid (gH ab L W ai dc (U none 0 0)):=h;obtain⟨b,c,d,rfl⟩:=dr h.1.1;simp only[eu]at a⊢;clear r h;go_enter func135,ntmps135;go_wp2_with(go_at_call 91;refine(a _).mono ?_;rintro e w ⟨rfl,m,rfl⟩);go_ret;rw[j.out];refine⟨_,rfl,?_⟩;have p:aF (S (R L)) L (ar (ar (ar L (aw #[az ai.name,O Q ai.aX,O Q ai.bG,O Q ai.ao,U b c d,U none 0 0] 189)) m) (aw #[az ai.name,O Q ai.aX,O Q ai.bG,O Q ai.ao,U b c d,U none 0 0] 189)):=(((ca _ L).alloc (aN _) _).alloc av _).alloc b7 _;obtain⟨G,q,s⟩:=yA (ab:=ab) (L:=L) (Z:=[ai]) (bR:=[(U b c d,U none 0 0)]) (a6:=U (some ⟨S (R L)+1+1,0,none⟩) 1 1) (dH:=S (R L)) rfl av ⟨rfl,.inr ⟨S (R L)+1+1,1,_,rfl,T,cB _ _ _ av,aN _,rL,rfl,rfl⟩⟩ (aN _) p (λx g=>by simp only[tM,B5,dB]at g;subst g;exact⟨l.out.1,_,_,_,rfl⟩);obtain⟨t,u,i⟩:=At s;simp only[hQ]at i;exact⟨t,q.trans u,i⟩
theorem h5.vE{wr:aq}{d:List an}(h:h5 ab L a6 u A x wr)(m:M d=M z)(o:∀c∈z.zip d,jk u wr c.2 c.1)(p:aY H 0 111 1 (U (some ⟨N,0,none⟩) (M A+M z) y) (M A+M z) (x++d))(i:b_ wr H (ap a6))(g:ap a6=some N\/N=S (R wr)):
 h5 ab L (U (some ⟨N,0,none⟩) (M A+M z) y) (aO u N 8) (A++z) (x++d) H:=by
 have j:∀a,ap a6=some a->u a=8:=λa f=>(h.cG a f).1
 have r:S (R L)<=N:=by
  rcases g with e|e
  ·exact(h.cG N e).2
  ·have:=h.bo.b5;omega
 have k:∀a6 l,jk u wr a6 l->jk (aO u N 8) H a6 l:=λt v b=>
  ⟨wQ i j (λa f s=>by
   by_cases e:a=N
   ·subst e
    rcases g with e|e
    ·exact absurd (j a e) s
    ·omega
   ·exact cR _ _ _ _ e) b.1,b.2⟩
 refine⟨h.bo.mY i (λa f=>(h.cG a f).2) g,by simp[h.bX,m],by rw[bV];exact p,λa e=>by cases e;exact⟨cy _ _ _,r⟩,?_⟩;intro c b;rw[sn h.bX.symm]at b;rcases dm.1 b with b|b
 ·exact k _ _ (h.nb c b)
 ·exact k _ _ (o c b)
theorem ga.bg(h:ga ab L a6 z)(m:0<M z):∃N y x,a6=U (some ⟨N,0,none⟩) (M z) y/\M x=M z/\(∀b a,x[b]?=some a->aK L ((⟨N,0,none⟩:Addr).add b)=some a)/\(∀a∈x,a.oneCell'=true)/\∀d∈z.zip x,jk ab L d.2 d.1:=by
 obtain⟨x,j,f,p,i⟩:=h;rcases f.2 with⟨_,q⟩|⟨N,y,r,rfl,_,s,_⟩
 ·omega
 ·refine⟨N,y,x,rfl,j,λb a c=>f.cells (g:=N) rfl b a c,λa c=>?_,i⟩;obtain⟨k,t,rfl⟩:=iW c;have l:k<M (z.zip x):=by rw[jT];omega
  have:=i _ (b4 l);simp only[n7]at this;obtain⟨u,v,w,e⟩:=this.1.cV;rw[e];rfl
def A0(f:Nat):Prop:=∀(h:Nat->Nat) (L:aq) (i:an) (g:List aB),d3 h L f i g->n2 f g->aR prog 85 #[i] L λe m=>∃l,e=aM l/\uW h L (c3 f g) l m
theorem LA(c:List aB->List (List aB))(a:List (List aB))(b:Nat)(h:b<M a):(a.take (b+1)).flatMap c=(a.take b).flatMap c++c a[b]:=by rw[ev h,nV];simp
theorem IV(D:A0 W)(h:gH ab L W ai dc cC)(r:cW ai=false)(j:ai.cv≠[])(k:∀b∈ai.cv,n2 W b)(l:M (ai.cv.flatMap (c3 W))<=1000)(jW:M ai.cv<=100000):
 aR prog 135 #[eu ai dc cC] L λe o=>∃a6,e=aM a6/\uW ab L (fd (c3 W) ai) a6 o:=by
 have E:Hid (fd (c3 W) ai=ai.cv.flatMap (c3 W)):=by show _=_;unfold fd;rw[aH (by simp[r]),aH (by simpa using j)]
 have f:=λL=>sz ai dc cC (dr h.1.1) h.2.cV L
 rw[r]at f;obtain⟨N,y,rfl,F,m⟩:=h.2.gj j;have j4:=Gn;have G:ab N=7:=by
  rcases h.2 with⟨_,e⟩|⟨_,_,_,_,I,_⟩
  ·cases e
  ·exact I N rfl
 obtain⟨J,K,P,gf,gg⟩:=dY Tryz.Ga;obtain⟨j9,kp,kr,rfl⟩:=dr h.1.1;have p:∀a,a<=M ai.cv->M ((ai.cv.take a).flatMap (c3 W))<=1000:=λa gj=>by refine bS ?_ l;rw[xg,xg,FQ];exact tD _ _
 simp only[eu]at f⊢;generalize ai.cv=b at*;clear r h l;go_enter func135,ntmps135;go_wp2_with(go_at_call 91;refine(f _).mono ?_;rintro e kx ⟨rfl,k1,rfl⟩)
 go_loopw [3,25] (λa6 g wr=>∃(a:Nat) (u:Nat->Nat) (x:List an),a<=M b/\g=O Q a/\h5 ab L a6 u ((b.take a).flatMap (c3 W)) x wr) (λ_ g _=>M b-(bm g).toNat)
 case atStart=>exact⟨0,ab,[],bL _,rfl,(h5.jt ab L).q (aU.H (((ca _ L).alloc (aN _) _).alloc av _))⟩
 case round=>
  obtain⟨a,u,x,gj,rfl,c⟩:=hrel;obtain⟨k7,lo,l8,rfl⟩:=dr c.bg;by_cases d:a<M b
  ·obtain⟨gC,i,q⟩:=m a d;have s:=c.bo.db.iA N ⟨F,by rw[G];decide⟩;have me:=(dn s a).trans q;have t:=d3.bo c.bo W _ _ i;have gE:=D u wr gC b[a] t (k _ (b4 d));have v:=(qT W b[a] (k _ (b4 d))).a1;obtain⟨mn,mO,mR,rfl⟩:=i.cV;have w:Hid ((b.take (a+1)).flatMap (c3 W)=(b.take a).flatMap (c3 W)++c3 W b[a]):=LA _ b a d;have gF:=p (a+1) d;rw[w.out,bV]at gF;have mY:(a:Int)<(M b:Int):=T;have m5:(0:Int)<=(a:Int):=T;generalize c3 W b[a]=z at*;generalize(b.take a).flatMap (c3 W)=A at*;clear m p s q i t;go_wp2_with(first|(go_at_call 85;refine gE.mono ?_;rintro e gL ⟨ne,rfl,nB,g1,hu⟩;obtain⟨hE,hS,hV,rfl,B,hZ,ih,iR⟩:=hu.bg v;have C:=c.q g1)|(at_builtin;refine dq _ rfl (.tmp 29) (.tmp 31) 65 rfl 0 111 J _ 1 24 underlying65 K P gf gg rfl ak _ (M A) x bf C.bg ⟨hE,0,none⟩ (M z) hS hV bf (by rw[B];simp) hZ ih v cN T (bL _) (S (R gL)) rfl ?_;intro nG oa H iU iZ i0 ob))
   have i1:=C.vE B iR iU iZ i0;go_roundw
   case rel=>exact⟨a+1,_,_,d,bE,by rw[w.out];exact i1⟩
   case measure=>simp[bm];omega
  ·have i2:a=M b:=by omega
   subst i2;have jt:Hid (b.take (M b)=b):=eQ;rw[jt.out]at c;go_wp2;go_ret;rw[E.out];exact⟨_,rfl,c.mO⟩
