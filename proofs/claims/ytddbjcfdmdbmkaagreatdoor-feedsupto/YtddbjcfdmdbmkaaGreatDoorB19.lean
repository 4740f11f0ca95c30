import Derived.Test.YtddbjcfdmdbmkaaGreatDoorB18
import Derived.Test.YtddbjcfdmdbmkaaGreatDoorB17
import Derived.ArgAppend
import Derived.Deep.CutRange
set_option linter.all false
set_option maxRecDepth 100000
set_option maxHeartbeats 3200000
namespace Go.Proofs.YtddbjcfdmdbmkaaGreatDoor
open Go.RowKit Go.Proofs.Tryz
open Go renaming Calls->aR,TypeId->q2,Value->an,World->aq
open Go.Ending renaming returned->aM
open Go.IntKind renaming i64->Q
open Go.Obj renaming cells->aw
open Go.RowKit renaming Below->aF,Hid->ag,intOf->bm
open Go.Value renaming int->O,slice->U,string->az,ownBlock->ap
open _root_.Array renaming size->S
open _root_.ByteArray renaming size->aW,toList->aJ
open Go.World renaming alloc->ar,cell?->aK,grownBy->b_,heap->R,ownsRow->aY,setCell->ay
open List renaming length->M
variable{Z:List aB}{c gf gg:q2}{u:List co}{L o D F d6 w:aq}{b1 k hZ iZ ih i0 iR i1 b N q hu r A:Nat}{y:ByteArray}{z:List (List aB)}{I:List (ByteArray×Nat)}{hS hE x g1 gC E K H:an}{iU hV B J:List an}{gj:Array an}{gL:Nat->Nat}{G:List (an×an)}{gE gF:Obj}
def co.gX(a:co):an:=.agg #[O Q a.ao,O Q a.aX,az a.bn]
theorem Lg{Z:List UInt8}:(Z.isEmpty=true/\Z=[])\/(Z.isEmpty=false/\Z≠[]):=by cases Z<;>simp
theorem TM(c:co)(L:aq):aR prog 66 #[c.gX] L λe o=>e=aM (az ⟨(gQ c).toArray⟩)/\o=ar L (aw #[O Q c.ao,O Q c.aX,az c.bn] 141):=by
 unfold co.gX;by_cases a:c.ao=2
 ·have d:=λL=>Tryz.TrimLeft_one c.bn 48 ak L
  have b:ag (gQ c=if(c.bn.data.toList.dropWhile (·==48)).isEmpty then [48]else c.bn.data.toList.dropWhile (·==48)):=by show _=_;unfold gQ pm;rw[aP a]
  unfold Lib.trimLeftB at d;generalize c.bn.data.toList.dropWhile (·==48)=g at*;have h:(c.ao:Int)=2:=T;generalize(c.ao:Int)=hu at*;subst h;clear a;rcases Lg (Z:=g)with⟨f,rfl⟩|⟨f,j⟩
  ·go_enter func66,ntmps66;go_wp2_with(go_at_call 101;refine(d _).mono ?_;rintro e i ⟨rfl,rfl⟩);go_ret;rw[b.out];exact⟨rfl,rfl⟩
  ·have k:(aJ ⟨g.toArray⟩).isEmpty=false:=by rw[fW];simpa using f
   go_enter func66,ntmps66;go_wp2_with(go_at_call 101;refine(d _).mono ?_;rintro e i ⟨rfl,rfl⟩);go_ret;rw[b.out,aH (by rw[f];decide)];exact⟨rfl,rfl⟩
 ·have b:ag (gQ c=c.bn.data.toList):=by show _=_;unfold gQ;rw[aH a]
  have h:¬(c.ao:Int)=2:=T;clear a;go_enter func66,ntmps66;go_wp2;go_ret;rw[b.out];exact⟨av,rfl⟩
theorem Nl(L:aq)(a:Obj):(R (ar L a))[S (R L)]?=some a:=mW L a
theorem NL(c:co):((aJ c.bn==[58])=true/\nI c=true)\/((aJ c.bn==[58])=false/\(aJ c.bn==[46])=true/\nI c=true)\/((aJ c.bn==[58])=false/\(aJ c.bn==[46])=false/\nI c=false):=by
 have gf:c.bH dp=(aJ c.bn==[58]):=by unfold co.bH;rw[fW dp];rfl
 have gg:c.bH g6=(aJ c.bn==[46]):=by unfold co.bH;rw[fW g6];rfl
 unfold nI;rw[gf,gg];cases(aJ c.bn==[58])<;>cases(aJ c.bn==[46])<;>simp
theorem Qn{c:co}{a:Bool}(b:¬c.ao=1):iK a (c::u)=kl a c++(gQ c++iK (nI c) u):=by
 conv=>lhs;unfold iK
 rw[aH b]
theorem Nx{v:Nat}(H:mP L v 0 u)(hZ:M (iK true u)<=100000000)(ih:M u<=1000000)(iR:M u<=b1):
 aR prog 42 #[U (some ⟨v,0,none⟩) (M u) b1] L λe o=>e=aM (az ⟨(iK true u).toArray⟩)/\aF (S (R L)) L o:=by
 have P:=H.am;go_enter func42,ntmps42;go_wp2
 go_loopw [4,10] (λgj B wr=>∃(a:Nat) (w:Bool) (g:List UInt8),a<=M u/\B=O Q a/\gj=.bool w/\xi wr (S (R L)) g/\aF (S (R L)) L wr/\g++iK w (u.drop a)=iK true u) (λ_ B _=>M u-(bm B).toNat)
 case atStart=>exact⟨0,true,[],bL _,rfl,rfl,Lib.IsBuilderF.of (Lib.fresh_isBuilder _ _ L),(ca _ L).alloc (aN _) _,rfl⟩
 case round=>
  obtain⟨a,w,g,iU,rfl,rfl,y,m,b⟩:=hrel;have gC:S (R L)<S (R wr):=by rcases y with h|h<;>exact h.lt
  have z:=Tryz.Builder_String_any_k (S (R L)) (S (R L)) g wr y T;by_cases A:a<M u
  ·have x:mP wr v 0 u:=H.d (m.block v P) (k3 gC|>λ_=>m.size);have gE:=x.rI a A;have gF:=x.st a A;have gL:=x.ru a A;rw[du]at gE gF gL;have I:u.drop a=u[a]::u.drop (a+1):=ku A;rw[I]at b;generalize u[a]=c at*;have iZ:(a:Int)<(M u:Int):=T;have i0:(0:Int)<=(a:Int):=T;have i1:v<S (R wr):=x.am;clear I x;by_cases C:c.ao=1
   ·have D:ag (g=iK true u):=by show _=_;rw[<-b];unfold iK;rw[aP C];simp
    have J:(c.ao:Int)=1:=T;generalize(c.ao:Int)=hu at*;subst J;clear b C;have q:=y.alloc (aw #[O Q 1,O Q c.aX,az c.bn] 141);have z:=Tryz.Builder_String_any_k (S (R L)) (S (R L)) g _ q b7;go_wp2_with(go_at_call 67;refine z.mono ?_;rintro e r ⟨rfl,_,E,_⟩);go_ret;rw[<-D.out];exact⟨rfl,(m.alloc T _).trans E⟩
   ·rw[Qn C]at b;have J:¬(c.ao:Int)=1:=T;have s:=λL=>TM c L
    unfold co.gX at s;have i:M g+(M (kl w c)+M (gQ c))<=100000000:=by have:=congrArg M b;simp only[bV]at this;omega
    have t:aW (⟨(gQ c).toArray⟩:ByteArray)=M (gQ c):=by show(S (List.toArray _))=_;simp
    have K:=NL c;have q:=y.alloc (aw #[O Q c.ao,O Q c.aX,az c.bn] 141);clear z;cases w with
    |false=>
     rcases K with⟨gf,d⟩|⟨gf,gg,d⟩|⟨gf,gg,d⟩
     ·have f:kl false c=[]:=by unfold kl;simp[d]
      rw[f,fa,d]at b;rw[f]at i;simp only[d5,du]at i;have j:=tm (q.alloc (aw #[O Q c.ao,O Q c.aX,az c.bn] 141)) ⟨(gQ c).toArray⟩ (by rw[t];omega);go_wp2_with(first|(go_at_call 66;refine(s _).mono ?_;rintro e p ⟨rfl,rfl⟩)|(go_at_call 65;refine j.mono ?_;rintro e r ⟨rfl,k,l⟩));go_roundw
      case rel=>exact⟨a+1,true,g++gQ c,T,bE,rfl,.inr (by simpa using k),((m.alloc T _).alloc b7 _).trans l.bI,by rw[<-b];simp⟩
      case measure=>simp[bm];omega
     ·have f:kl false c=[]:=by unfold kl;simp[d]
      rw[f,fa,d]at b;rw[f]at i;simp only[d5,du]at i;have j:=tm (q.alloc (aw #[O Q c.ao,O Q c.aX,az c.bn] 141)) ⟨(gQ c).toArray⟩ (by rw[t];omega);go_wp2_with(first|(go_at_call 66;refine(s _).mono ?_;rintro e p ⟨rfl,rfl⟩)|(go_at_call 65;refine j.mono ?_;rintro e r ⟨rfl,k,l⟩));go_roundw
      case rel=>exact⟨a+1,true,g++gQ c,T,bE,rfl,.inr (by simpa using k),((m.alloc T _).alloc b7 _).trans l.bI,by rw[<-b];simp⟩
      case measure=>simp[bm];omega
     ·have f:kl false c=[32]:=by unfold kl;simp[d]
      rw[f,d]at b;rw[f]at i;simp only[dT,d5,du]at i;have g1:=HP q T;go_wp2_with(go_at_call 64;refine g1.mono ?_);rintro e p ⟨rfl,hE,F⟩;have G:(R p)[S (R wr)]?=some (aw #[O Q c.ao,O Q c.aX,az c.bn] 141):=F.Au _ _ (Nl wr _) b7 (λi2 jt h=>by injection h with _ h _;exact absurd h ak);have jW:aK p ⟨S (R wr),0,none⟩=some (O Q c.ao):=by rw[pt G];rfl
      have j4:aK p ⟨S (R wr),1,none⟩=some (O Q c.aX):=by rw[pt G];rfl
      have j9:aK p ⟨S (R wr),2,none⟩=some (az c.bn):=by rw[pt G];rfl
      have hS:=F.bI.size;simp at hS;have hV:aF (S (R L)) L p:=(m.alloc T _).trans F.bI;have j:=tm (Z:=g++[32]) (Lib.IsBuilderF.alloc (.inr hE) (aw #[O Q c.ao,O Q c.aX,az c.bn] 141)) ⟨(gQ c).toArray⟩ (by rw[t];simp;omega);generalize(S (R wr))=kp at*;go_wp2_with(first|(go_at_call 66;refine(s _).mono ?_;rintro e r ⟨rfl,rfl⟩)|(go_at_call 65;refine j.mono ?_;rintro e kr ⟨rfl,k,l⟩));go_roundw
      case rel=>exact⟨a+1,false,g++[32]++gQ c,T,bE,rfl,.inr (by simpa using k),(hV.alloc T _).trans l.bI,by rw[<-b];simp⟩
      case measure=>simp[bm];omega
    |true=>
     rcases K with⟨gf,d⟩|⟨gf,gg,d⟩|⟨gf,gg,d⟩
     ·have f:kl true c=[]:=by unfold kl;simp[d]
      rw[f,fa,d]at b;rw[f]at i;simp only[d5,du]at i;have j:=tm (q.alloc (aw #[O Q c.ao,O Q c.aX,az c.bn] 141)) ⟨(gQ c).toArray⟩ (by rw[t];omega);go_wp2_with(first|(go_at_call 66;refine(s _).mono ?_;rintro e p ⟨rfl,rfl⟩)|(go_at_call 65;refine j.mono ?_;rintro e r ⟨rfl,k,l⟩));go_roundw
      case rel=>exact⟨a+1,true,g++gQ c,T,bE,rfl,.inr (by simpa using k),((m.alloc T _).alloc b7 _).trans l.bI,by rw[<-b];simp⟩
      case measure=>simp[bm];omega
     ·have f:kl true c=[]:=by unfold kl;simp[d]
      rw[f,fa,d]at b;rw[f]at i;simp only[d5,du]at i;have j:=tm (q.alloc (aw #[O Q c.ao,O Q c.aX,az c.bn] 141)) ⟨(gQ c).toArray⟩ (by rw[t];omega);go_wp2_with(first|(go_at_call 66;refine(s _).mono ?_;rintro e p ⟨rfl,rfl⟩)|(go_at_call 65;refine j.mono ?_;rintro e r ⟨rfl,k,l⟩));go_roundw
      case rel=>exact⟨a+1,true,g++gQ c,T,bE,rfl,.inr (by simpa using k),((m.alloc T _).alloc b7 _).trans l.bI,by rw[<-b];simp⟩
      case measure=>simp[bm];omega
     ·have f:kl true c=[]:=by unfold kl;simp[d]
      rw[f,fa,d]at b;rw[f]at i;simp only[d5,du]at i;have j:=tm (q.alloc (aw #[O Q c.ao,O Q c.aX,az c.bn] 141)) ⟨(gQ c).toArray⟩ (by rw[t];omega);go_wp2_with(first|(go_at_call 66;refine(s _).mono ?_;rintro e p ⟨rfl,rfl⟩)|(go_at_call 65;refine j.mono ?_;rintro e r ⟨rfl,k,l⟩));go_roundw
      case rel=>exact⟨a+1,false,g++gQ c,T,bE,rfl,.inr (by simpa using k),((m.alloc T _).alloc b7 _).trans l.bI,by rw[<-b];simp⟩
      case measure=>simp[bm];omega
  ·have e:a=M u:=by omega
   subst e;have D:ag (g=iK true u):=by show _=_;rw[<-b,vm];unfold iK;simp
   clear b;go_wp2_with(go_at_call 67;refine z.mono ?_;rintro e r ⟨rfl,_,E,_⟩);go_ret;rw[<-D.out];exact⟨rfl,m.trans E⟩
theorem Ok(L:List UInt8):M (pm L)<=M L+1:=by
 rcases Bd L with⟨h,_⟩|⟨b,Z,h,_,c,a,_⟩
 ·rw[h];simp
 ·rw[h];have:=congrArg M a;rw[bV]at this;omega
theorem RS(c:co):M (gQ c)<=aW c.bn+1:=by
 have a:M c.bn.data.toList=aW c.bn:=av;unfold gQ;split
 ·have:=Ok c.bn.data.toList;omega
 ·omega
theorem Ov{b:Nat}:∀(u:List co) (a:Bool),(∀c∈u,aW c.bn<=b)->M (iK a u)<=M u*(b+2):=by
 intro u
 induction u with
 |nil=>intro a _;unfold iK;simp
 |cons c u d=>
  intro a h;unfold iK;split
  ·simp
  ·have g:=RS c;have i:=h c av;have j:=d (nI c) (λe f=>h e (by simp[f]));have k:M (kl a c)<=1:=by unfold kl;split<;>simp
   simp only[bV,dT,Nat.add_mul];omega
theorem QP(y:ByteArray):∀k b,b<=aW y->∀c∈fw y k b,aW c.bn<=aW y:=by
 intro k
 induction k with
 |zero=>intro b _ c a;simp[fw]at a
 |succ k e=>
  intro b h c a;obtain⟨f,d,_⟩:=qq y b h;unfold fw at a;split at a
  ·rw[dB.1 a];exact bS (Gy _ _) d
  ·rcases ek.1 a with rfl|a
   ·exact bS (Gy _ _) d
   ·exact e _ d c a
theorem ES(g:k=aW y+1)(e:fw y k 0=u)(b:aW y<=600):M (iK true u)<=1000000/\M u<=601:=by have a:=QP y k 0 (bL _);have d:=(En y k 0 (bL _) T).2;rw[e]at a d;have h:=Ov u true (λc f=>bS (a c f) b);have i:M u*(600+2)<=601*602:=tx T T;exact⟨T,T⟩
def lZ(a:ByteArray):ByteArray×Nat×Nat:=match ec a with
 |.inr (f,e)=>(⟨#[]⟩,f,e)
 |.inl _=>(wH (fh a),0,0)
theorem Ds{a e:Nat}(h:ec y=.inr (a,e)):lZ y=(⟨#[]⟩,a,e):=by unfold lZ;rw[h]
theorem EF{a:it×Nat×List (List aB)}(b:fh y=u)(h:ec y=.inl a):lZ y=(wH u,0,0):=by unfold lZ;rw[h,b]
theorem JW{a:it}{c:Nat}(b:ec y=.inl (a,c,z))(L:aq):
 aR prog 18 #[az y] L λe o=>e=aM (.tuple #[az (lZ y).1,O Q (lZ y).2.1,O Q (lZ y).2.2])/\aF (S (R L)) L o:=by
 have l:=wl y L;obtain⟨u,f⟩:∃u,fh y=u:=⟨_,rfl⟩;have g:aW y<=600:=by
  by_cases g:600<aW y
  ·unfold ec at b;rw[aP g]at b;cases b
  ·omega
 have gf:0<M u:=by
  obtain⟨Z,m⟩:=Dx y (aW y) 0;have gg:u=eb y 0::Z:=by rw[<-f];exact m
  rw[gg];simp
 obtain⟨gj,m⟩:=ES rfl f g;have D:ag (ec y=.inl (a,c,z)):=b;rw[EF f b];clear b g;go_enter func18,ntmps18;go_wp2_with fail;refine l.mono ?_;rintro e p ⟨x,rfl,q,r⟩;rw[D.out]at r;obtain⟨F,E,rfl,s,i⟩:=r;obtain⟨t,w,A,G⟩:∃d k H,E=U d k H:=by obtain⟨gC,_,h,_⟩:=s;exact dr h
 subst G;clear s;rw[f]at i;obtain⟨j,b1,rfl⟩:∃j b1,F=U (some ⟨j,0,none⟩) (M u) b1:=by
  rcases i.2 with⟨_,gE⟩|⟨N,b1,gF,h,_⟩
  ·omega
  ·exact⟨N,b1,h⟩
 obtain⟨B,_,I⟩:=Dy i;have C:=q.alloc q.size (aw #[O Q a.bd,O Q a.aZ,O Q c,U t w A] 67);have J:mP (ar p (aw #[O Q a.bd,O Q a.aZ,O Q c,U t w A] 67)) j 0 u:=B.d (Lib.alloc_old p _ j B.am) av;have K:=Nx J T T I;clear i l;go_wp2_with(go_at_call 42;refine K.mono ?_;rintro e gL ⟨rfl,P⟩);exact dG (v:=.tuple #[az (wH u),O Q 0,O Q 0]) (by simp[results,results18,go_sem,wH]) rfl ⟨rfl,C.trans (P.mono C.size)⟩
section
variable {d1:Program} (L:aq)
theorem JT(c r:q2)(m:Nat)(e:q2)(f:TypeInfo)(s:an)(a t:Nat)(C:d1.underlying c=some (.slice e))(D:d1.info? e=some f)(I:f.zero=some s)(u:f.size=a)(J:f.bytes=t)(K:S s.cells=a)(gj:0<a)(x:an)(k:Nat)(B:List an)(h:aY L m e a x k B)(p:Addr)(b v:Nat)(i:List an)(E:M i=b*a)(F:∀d w,i[d]?=some w->aK L (p.add d)=some w)(gC:∀w∈i,w.oneCell'=true)(hZ:0<b)(gE:k+b<=maxLen)(gF:(k+b)*t<=140737488355328)(ih:m<=S (R L))(q:Nat)(iR:S (R L)=q):
 ∃N b1 o,(Builtin.append_ #[c,c] r #[x,U (some p) b v]).run d1 L=.ok (U (some ⟨N,0,none⟩) (k+b) b1) o/\
  (aY o) m e a (U (some ⟨N,0,none⟩) (k+b) b1) (k+b) (B++i)/\b_ L o (ap x)/\(ap x=some N\/N=q)/\N<S (R o)/\aY o m e a x k B:=by
 obtain⟨N,b1,o,j,gL,iU,iZ,i0⟩:=run_append_lies (P:=d1) L c r m e f s a t C D I u J K gj x k B h p b v i E F gC hZ gE gF ih q iR;refine⟨N,b1,o,j,gL,iU,iZ,i0,?_⟩;rcases h.2 with⟨rfl,rfl⟩|⟨l,y,g1,rfl,i1,i2,jt,jW,j4,k7⟩
 ·exact⟨h.1,.inl ⟨rfl,rfl⟩⟩
 ·by_cases hu:k+b<=y
  ·have hS:∀d,d<M i->(aK L ⟨l,0+k*f.size+d,none⟩).isSome=true/\L.frozen? ⟨l,0+k*f.size+d,none⟩=false:=by
    intro d z;have hV:aL L l g1 e:=i2;have j9:0+k*f.size+d<S g1:=by rw[j4,u];have:(k+b)*a<=y*a:=qj _ hu;rw[Nat.add_mul]at this;omega
    refine⟨?_,hV.b _⟩;rw[hV.aa,tz j9];rfl
   have G:=run_append_room_cells (P:=d1) L c r e f C D l 0 k y p b v i (by rw[u];exact E) F gC hu (λd z=>(hS d z).1) (λd z=>(hS d z).2);rw[G]at j;simp only[Result.ok.injEq,mi,j0,xU,true_and,and_true]at j;obtain⟨⟨rfl,rfl⟩,_⟩:=j;rcases gL.2 with⟨A,_⟩|⟨lo,l8,H,A,_,kp,me,mn,kr,kx⟩
   ·cases A
   ·simp only[mi,j0,xU,true_and,and_true]at A;obtain⟨rfl,rfl⟩:=A;refine⟨h.1,.inr ⟨_,_,H,rfl,i1,kp,jt,jW,kr,?_⟩⟩;have gf:k*a<=(k+b)*a:=qj _ T;have gg:H.toList.take (k*a)=(H.toList.take ((k+b)*a)).take (k*a):=by rw[qy,qn gf]
    rw[gg,kx,<-h.1,Cr]
  ·obtain⟨hE,mO,G,_,k1⟩:=run_append_arg_grows (P:=d1) L c r e f s a t C D I u J K gj ⟨l,0,none⟩ k y B h.1 (h.cells (g:=l) rfl) p b v i E F T gE gF;rw[G]at j;simp only[Result.ok.injEq]at j;obtain⟨_,rfl⟩:=j;exact h.kept k1 (.inr (by simp[ap]))
theorem BY{I:Array Oper}{rest:List Oper}{f:Oper}{d:Act}{eF:Exit->Act->aq->Prop}(v:f.guard=none)(y s:Operand)(c:q2)(w:f.op=.call {callee:=.builtin .append,args:=#[y,s],argTypes:=#[c,c]})(g:Nat)(e:q2)(i:TypeInfo)(m:an)(b p:Nat)(z:d1.underlying c=some (.slice e))(A:d1.info? e=some i)(C:i.zero=some m)(D:i.size=b)(E:i.bytes=p)(F:S m.cells=b)(G:0<b)(x:an)(k:Nat)(B:List an)(H:d.eval y=x)(J:aY L g e b x k B)(r:Addr)(a t:Nat)(j:List an)(K:d.eval s=U (some r) a t)(P:M j=a*b)(gf:∀u l,j[u]?=some l->aK L (r.add u)=some l)(gg:∀l∈j,l.oneCell'=true)(gj:0<a)(gC:k+a<=maxLen)(gE:(k+a)*p<=140737488355328)(gF:g<=S (R L))(q:Nat)(gL:S (R L)=q)
 (h:∀N b1 o,aY o g e b (U (some ⟨N,0,none⟩) (k+a) b1) (k+a) (B++j)->b_ L o (ap x)->(ap x=some N\/N=q)->N<S (R o)->aY o g e b x k B->wpList d1 I eF rest (d.put f.dst (U (some ⟨N,0,none⟩) (k+a) b1)) o):wpList d1 I eF (f::rest) d L:=by
 obtain⟨N,b1,o,g1,hu,hE,hS,hV,hZ⟩:=JT (d1:=d1) L c f.type g e i m b p z A C D E F G x k B J r a t j P gf gg gj gC gE gF q gL;refine wpList_plain v λ_ ih=>?_
 unfold Oper.wp execOp;simp only[w,resolve,invoke,builtin,Sem.run_bind,Sem.run_pure,Result.andThen_ok,List.map_toArray,hB,pB,H,K,g1];exact ih _ _ (h N b1 o hu hE hS hV hZ)
end
theorem i4(d:aY L hZ gf ih hS iR iU)(e:aY L iZ gg i0 hE i1 hV)(f:gf≠gg):∀N,ap hS=some N->ap hE≠some N:=by
 intro N a b;rcases d.2 with⟨rfl,_⟩|⟨h,i,j,rfl,_,g,_⟩
 ·cases a
 ·rcases e.2 with⟨rfl,_⟩|⟨k,l,m,rfl,_,c,_⟩
  ·cases b
  ·simp only[ap,j0]at a b;subst a;subst b;rw[g]at c;simp only[j0,Obj.cells.injEq]at c;exact f c.2.1
theorem tX(a:aY L hZ gf ih hS iR iU)(c:aY L iZ gg i0 hE i1 hV)(d:gf≠gg)(f:b_ L o (ap hE)):aY o hZ gf ih hS iR iU:=
 cw a λN b=>f.block N (a.lt N b).2 (λe=>i4 a c d N b e.symm)
theorem Tryz.LB:(prog.info? 194).map (λa=>(a.zero,a.size,a.bytes))=some (some (.agg #[O Q 0,U none 0 0]),2,32):=by kernel_rfl
theorem Tryz.OW:(prog.info? 196).map (λa=>(a.zero,a.size,a.bytes))=some (some (.agg #[O Q 0,U none 0 0,U none 0 0]),3,56):=by kernel_rfl
theorem Tryz.S1:(prog.info? 9).map (λa=>(a.zero,a.size,a.bytes))=some (some (az ⟨#[]⟩),1,16):=by kernel_rfl
theorem OV(h:aF (S (R (ar D (aw gj c)))) (ar D (aw gj c)) F):aL F (S (R D)) gj c:=(aL.bT D gj c).d (h.block _ av)
theorem Mu(h:aF (S (R ((ar D (aw gj c)).drewN k))) ((ar D (aw gj c)).drewN k) F):aL F (S (R D)) gj c:=(aL.bT D gj c).d (h.block _ (by show(S (R D))<S (R (ar D _));simp))
theorem PI(h:aF (S (R ((ar D (aw gj c)).drew))) ((ar D (aw gj c)).drew) F):aL F (S (R D)) gj c:=(aL.bT D gj c).d (h.block _ (by show(S (R D))<S (R (ar D _));simp))
def sO(a e:Int)(f:an):Array an:=#[O Q a,O Q e,f,O Q 0,U none 0 0,U none 0 0]
theorem Tryz.Kz:(prog.info? 112).map (λa=>(a.zero,a.size,a.bytes))=some (some (U none 0 0),1,24):=by kernel_rfl
theorem ed{f:Nat}{e y:Nat}(g:aL L f gj c)(h:aY L b e y x k B)(i:c≠e):ap x≠some f:=by
 intro a;rcases h.2 with⟨rfl,_⟩|⟨N,l,m,rfl,_,d,_⟩
 ·cases a
 ·simp only[ap,j0]at a;subst a;have j:(R L)[N]?=some (aw gj c (0,0)):=g;rw[j]at d;simp only[j0,Obj.cells.injEq]at d;exact i d.2.1
structure jD where
 ao:Nat
 bB:List (ByteArray×Nat)
instance:Inhabited jD:=⟨⟨0,[]⟩⟩
structure gI where
 c5:jD
 dh:List jD
instance:Inhabited gI:=⟨⟨default,[]⟩⟩
structure tH where
 cz:List gI
 bs:List ByteArray
 dh:List jD
variable{d:tH}
def jn(e:List ByteArray)(a:aB):jD:=⟨a.ao,a.bB.map (d2 (e++[a.name]))⟩
def mM(a:tH)(e:aB):tH:=
 if cW e then⟨a.cz++[⟨jn a.bs e,a.dh⟩],a.bs++[e.name],[]⟩else⟨a.cz,a.bs,a.dh++[jn a.bs e]⟩
def ka(a:List aB)(e:Nat):tH:=(a.take e).foldl mM ⟨[],[],[]⟩
def er(a:List aB):List gI:=(ka a (M a)).cz
theorem CD(Z:List aB)(a:Nat)(h:a<M Z):ka Z (a+1)=mM (ka Z a) Z[a]:=by unfold ka;rw[ev h,h_];rfl
theorem O6(d:tH)(b:aB)(a:Nat)(c:M d.cz<=a)(e:M d.bs<=a)(f:M d.dh<=a):M (mM d b).cz<=a+1/\M (mM d b).bs<=a+1/\M (mM d b).dh<=a+1:=by unfold mM;split<;>simp<;>omega
theorem QR(Z:List aB):∀a,a<=M Z->M (ka Z a).cz<=a/\M (ka Z a).bs<=a/\M (ka Z a).dh<=a:=by
 intro a
 induction a with
 |zero=>intro _;simp[ka]
 |succ a c=>intro h;rw[CD Z a T];obtain⟨d,b,e⟩:=c T;exact O6 _ _ a d b e
def eX(f:Nat->Prop)(L:aq)(a:an)(e:List (ByteArray×Nat)):Prop:=aY L 0 245 2 a (M e) (bC kM e)/\∀N,ap a=some N->f N
def nA(a:jD×an):List an:=[O Q a.1.ao,a.2]
def JM(g:Nat->Prop)(L:aq)(i:an)(a:List jD):Prop:=∃e:List an,M e=M a/\aY L 0 194 2 i (M a) (bC nA (a.zip e))/\∀f,(h:f<M a)->(j:f<M e)->eX g L e[f] a[f].bB
def lu(a:Nat->Prop)(L:aq)(e:an)(f:List jD):Prop:=JM a L e f/\∀N,ap e=some N->a N
def oQ(a:gI×an×an):List an:=[O Q a.1.c5.ao,a.2.1,a.2.2]
def Ny(g:Nat->Prop)(L:aq)(i:an)(a:List gI):Prop:=∃f:List (an×an),M f=M a/\aY L 0 196 3 i (M a) (bC oQ (a.zip f))/\∀e,(h:e<M a)->(j:e<M f)->eX g L f[e].1 a[e].c5.bB/\lu g L f[e].2 a[e].dh
def iG(a:Nat->Prop)(L:aq)(e:an)(f:List gI):Prop:=Ny a L e f/\∀N,ap e=some N->a N
def fL(e:Nat->Prop)(L:aq)(f:Nat->Prop)(g:aq):Prop:=∀a,e a->a<S (R L)->f a/\(R g)[a]?=(R L)[a]?
theorem fL.trans{a c f:Nat->Prop}{g:aq}(h:fL a L c o)(i:fL c o f g)(q:S (R L)<=S (R o)):fL a L f g:=λb j k=>by obtain⟨d,e⟩:=h b j k;obtain⟨m,p⟩:=i b d T;exact⟨m,p.trans e⟩
theorem eX.i{c d:Nat->Prop}(h:eX c L x I)(e:fL c L d o):eX d o x I:=
 ⟨cw h.1 λN b=>(e N (h.2 N b) (h.1.lt N b).2).2,λN b=>(e N (h.2 N b) (h.1.lt N b).2).1⟩
theorem lu.i{f g:Nat->Prop}{j:List jD}(h:lu f L x j)(c:fL f L g o):lu g o x j:=by obtain⟨⟨J,l,e,m⟩,k⟩:=h;exact⟨⟨J,l,cw e λN a=>(c N (k N a) (e.lt N a).2).2,λp d b=>(m p d b).i c⟩,λN a=>(c N (k N a) (e.lt N a).2).1⟩
theorem iG.i{f g:Nat->Prop}{j:List gI}(h:iG f L x j)(c:fL f L g o):iG g o x j:=by obtain⟨⟨G,p,e,k⟩,l⟩:=h;exact⟨⟨G,p,cw e λN a=>(c N (l N a) (e.lt N a).2).2,λm d b=>⟨(k m d b).1.i c,(k m d b).2.i c⟩⟩,λN a=>(c N (l N a) (e.lt N a).2).1⟩
theorem eX.cL(b:Nat->Prop)(L:aq):eX b L (U none 0 0) []:=⟨eE _ _ _ _,λN h=>by simp[ap]at h⟩
theorem uE{e:q2}{y:Nat}(h:aY L b e y x k B):aY L 0 e y x k B:=by
 refine⟨h.1,?_⟩;rcases h.2 with h|⟨N,b1,a,c,_,d⟩
 ·exact .inl h
 ·exact .inr ⟨N,b1,a,c,bL _,d⟩
theorem SA{d:Option Addr}{a:Nat}:
 aR prog 90 #[U d 0 a,g1] L λe o=>e=aM (U none 0 0)/\o=L:=by
 go_enter func90,ntmps90;go_wp2
 go_loopw [5,11] (λx b wr=>x=U none 0 0/\b=O Q 0/\wr=L) (λ_ _ _=>0)
 case atStart=>exact⟨rfl,rfl,rfl⟩
 case round=>obtain⟨rfl,rfl,rfl⟩:=hrel;go_wp2;go_ret;exact⟨rfl,rfl⟩
theorem Tp{I:List c0}(i:hb gL L gC I)(j:M I<=1000000){bs:List ByteArray}(l:N<S (R L))(m:∀a,(h:a<M bs)->aK L ⟨N,a,none⟩=some (az bs[a]))(p:1<=M bs)(q:M bs<=1000000):
 aR prog 90 #[gC,U (some ⟨N,0,none⟩) (M bs) b1] L λe o=>∃f k c,e=aM (U f k c)/\aF (S (R L)) L o/\eX (λb=>S (R L)<=b) o (U f k c) (I.map (d2 bs)):=by
 rcases i.gj with⟨rfl,f,c,rfl⟩|⟨u,v,rfl,r,s⟩
 ·refine SA.mono ?_;rintro e o ⟨rfl,rfl⟩;exact⟨_,_,_,rfl,ca _ _,eX.cL _ _⟩
 ·refine(QT r s j l m p q).mono ?_;rintro e o ⟨x,rfl,g,t⟩;obtain⟨d,b,c,rfl⟩:=dr g;exact⟨d,b,c,rfl,t,by rw[c_];exact uE g,λa h=>(g.lt a h).1⟩
def k4(e:Nat)(f g h:an):Nat->Prop:=λa=>e<=a/\ap f≠some a/\ap g≠some a/\ap h≠some a
structure kL (lr:Nat) (wr:aq) (dJ ns sb:an) (bj:tH):Prop where
 a8:∃vu:List (an×an),vu.length=bj.cz.length/\wr.ownsRow lr 196 3 dJ bj.cz.length (bC oQ (bj.cz.zip vu))/\∀al,(h:al<bj.cz.length)->(yE:al<vu.length)->eX (k4 lr dJ ns sb) wr vu[al].1 bj.cz[al].c5.bB/\lu (k4 lr dJ ns sb) wr vu[al].2 bj.cz[al].dh
 n:wr.ownsRow lr 9 1 ns bj.bs.length (bj.bs.map az)
 N:∃wV:List an,wV.length=bj.dh.length/\wr.ownsRow lr 194 2 sb bj.dh.length (bC nA (bj.dh.zip wV))/\∀al,(h:al<bj.dh.length)->(yE:al<wV.length)->eX (k4 lr dJ ns sb) wr wV[al] bj.dh[al].bB
theorem kL.jt(q:Nat)(L:aq):kL q L (U none 0 0) (U none 0 0) (U none 0 0) ⟨[],[],[]⟩:=
 ⟨⟨[],rfl,eE _ _ _ _,λa h=>by simp at h⟩,eE _ _ _ _,⟨[],rfl,eE _ _ _ _,λa h=>by simp at h⟩⟩
theorem eX.cE{c d:Nat->Prop}(h:eX c L x I)(e:∀b,c b->d b):eX d L x I:=⟨h.1,λN f=>e N (h.2 N f)⟩
theorem eX.a{c:Nat->Prop}(h:eX c L x I)(d:Obj):eX c (ar L d) x I:=h.i λb e f=>⟨e,fY L d b f⟩
theorem eX.j{c:Nat->Prop}(h:eX c L x I){d:Addr}(g:¬c d.block)(k:an):eX c (ay L d k) x I:=h.i λb f l=>⟨f,gw _ _ _ _ (λe=>g (by rw[<-e];exact f))⟩
theorem kL.en{wr wc:aq}(y:M G=M d.cz)(l:∀a,(h:a<M d.cz)->(c:a<M G)->eX (k4 q E K H) wr G[a].1 d.cz[a].c5.bB/\lu (k4 q E K H) wr G[a].2 d.cz[a].dh)(f:M J=M d.dh)(z:∀a,(h:a<M d.dh)->(c:a<M J)->eX (k4 q E K H) wr J[a] d.dh[a].bB)(hV:q<=S (R d6))(hZ:S (R wr)<=S (R d6))(ih:S (R d6)<=S (R wc))(B:∀b,b<S (R wr)->ap K≠some b->(R wc)[b]?=(R wr)[b]?)(C:aY wc q 196 3 E (M d.cz) (bC oQ (d.cz.zip G)))(D:∀b,ap E=some b->b<S (R d6))(F:aY wc q 9 1 K (M d.bs) (d.bs.map az))(P:∀b,ap K=some b->b<S (R d6))(m:aY wc q 194 2 H (M d.dh) (bC nA (d.dh.zip J)))(o:∀b,ap H=some b->b<S (R d6))(gf:eX (λb=>S (R d6)<=b) wc gC I)(g:b_ (ar (ar wc gE) gF) w (ap H))(p:ap H=some r\/r=S (R wc)+1+1)(gg:aY w q 194 2 (U (some ⟨r,0,none⟩) (M d.dh+1) A) (M d.dh+1) (bC nA (d.dh.zip J)++[O Q hu,gC])):
 kL q w E K (U (some ⟨r,0,none⟩) (M d.dh+1) A) ⟨d.cz,d.bs,d.dh++[⟨hu,I⟩]⟩:=by
 have gj:∀b,b<S (R wc)->(R (ar (ar wc gE) gF))[b]?=(R wc)[b]?:=λb i=>(fY _ _ _ b7).trans (fY _ _ _ i)
 have s:∀b,b<S (R wc)->ap H≠some b->(R w)[b]?=(R wc)[b]?:=λb i gL=>(g.block b b7 (λe=>gL e.symm)).trans (gj b i)
 have j:fL (k4 q E K H) wr (k4 q E K (U (some ⟨r,0,none⟩) (M d.dh+1) A)) w:=by
  rintro b ⟨t,g1,u,v⟩ k;refine⟨⟨t,g1,u,λe=>?_⟩,(s b T v).trans (B b k u)⟩;simp only[ap,j0]at e;rcases p with h|h
  ·rw[e]at h;exact v h
  ·omega
 have hE:fL (λb=>S (R d6)<=b) wc (k4 q E K (U (some ⟨r,0,none⟩) (M d.dh+1) A)) w:=by
  intro b t k;refine⟨⟨T,λe=>by have:=D b e;omega,λe=>by have:=P b e;omega,λe=>?_⟩,s b k (λe=>by have:=o b e;omega)⟩;simp only[ap,j0]at e;rcases p with h|h
  ·have:=o r h;omega
  ·omega
 refine⟨⟨G,y,tX ((C.alloc _).alloc _) ((m.alloc _).alloc _) ak g,λa h c=>⟨(l a h c).1.i j,(l a h c).2.i j⟩⟩,tX ((F.alloc _).alloc _) ((m.alloc _).alloc _) ak g,?_⟩;refine⟨J++[gC],by simp[f],?_,λa h c=>?_⟩
 ·rw[v_ _ _ _ _ f,jc,bV];exact gg
 ·by_cases x:a<M d.dh
  ·rw[iz T,iz x];exact(z a x T).i j
  ·have hS:a=M d.dh:=by simp at h;omega
   subst hS;rw[iV T,iV T];simp only[f,rM,pv];exact gf.i hE
theorem kL.hi{wr wc:aq}{p:ByteArray}{vh:Nat}(g:M G=M d.cz)(s:∀a,(h:a<M d.cz)->(f:a<M G)->eX (k4 q E K H) wr G[a].1 d.cz[a].c5.bB/\lu (k4 q E K H) wr G[a].2 d.cz[a].dh)(gf:M J=M d.dh)(gg:∀a,(h:a<M d.dh)->(f:a<M J)->eX (k4 q E K H) wr J[a] d.dh[a].bB)(iU:q<=S (R d6))(iZ:S (R wr)<=S (R d6))(i0:S (R d6)<=S (R wc))(gj:∀b,b<S (R wr)->ap K≠some b->(R wc)[b]?=(R wr)[b]?)(t:aY wc q 196 3 E (M d.cz) (bC oQ (d.cz.zip G)))(u:∀b,ap E=some b->b<S (R d6))(v:aY wc q 9 1 g1 (M d.bs+1) ((d.bs++[p]).map az))(x:ap g1=some vh)(i1:vh<S (R d6))(gL:ap K=some vh\/S (R wr)<=vh)(i:aY wc q 194 2 H (M d.dh) (bC nA (d.dh.zip J)))(hE:eX (λb=>S (R d6)<=b) wc gC I)(j:b_ (ar (ar wc gE) gF) w (ap E))(y:ap E=some r\/r=S (R wc)+1+1)(z:aY w q 196 3 (U (some ⟨r,0,none⟩) (M d.cz+1) A) (M d.cz+1) (bC oQ (d.cz.zip G)++[O Q hu,gC,H])):
 kL q w (U (some ⟨r,0,none⟩) (M d.cz+1) A) g1 (U none 0 0) ⟨d.cz++[⟨⟨hu,I⟩,d.dh⟩],d.bs++[p],[]⟩:=by
 have hS:∀b,b<S (R wc)->(R (ar (ar wc gE) gF))[b]?=(R wc)[b]?:=λb c=>(fY _ _ _ b7).trans (fY _ _ _ c)
 have B:∀b,b<S (R wc)->ap E≠some b->(R w)[b]?=(R wc)[b]?:=λb c hV=>(j.block b b7 (λe=>hV e.symm)).trans (hS b c)
 have k:∀b:Nat,ap (U none 0 0)≠some b:=λb e=>by simp[ap]at e
 have l:fL (k4 q E K H) wr (k4 q (U (some ⟨r,0,none⟩) (M d.cz+1) A) g1 (U none 0 0)) w:=by
  rintro b ⟨C,D,F,i2⟩ m;refine⟨⟨C,λe=>?_,λe=>?_,k b⟩,(B b T D).trans (gj b m F)⟩
  ·simp only[ap,j0]at e;rcases y with h|h
   ·rw[e]at h;exact D h
   ·omega
  ·rw[x]at e;simp only[j0]at e;rcases gL with h|h
   ·rw[e]at h;exact F h
   ·omega
 have hZ:fL (λb=>S (R d6)<=b) wc (k4 q (U (some ⟨r,0,none⟩) (M d.cz+1) A) g1 (U none 0 0)) w:=by
  intro b C m;refine⟨⟨T,λe=>?_,λe=>?_,k b⟩,B b m (λe=>by have:=u b e;omega)⟩
  ·simp only[ap,j0]at e;rcases y with h|h
   ·have:=u r h;omega
   ·omega
  ·rw[x]at e;simp only[j0]at e;omega
 have P:aY w q 194 2 H (M d.dh) (bC nA (d.dh.zip J)):=tX ((i.alloc _).alloc _) ((t.alloc _).alloc _) ak j;have ih:lu (k4 q (U (some ⟨r,0,none⟩) (M d.cz+1) A) g1 (U none 0 0)) w H d.dh:=by
  refine⟨⟨J,gf,uE P,λa h f=>(gg a h f).i l⟩,λb c=>⟨(i.lt b c).1,λe=>?_,λe=>?_,k b⟩⟩
  ·exact i4 P z ak b c e
  ·exact i4 i v ak b c e
 refine⟨⟨G++[(gC,H)],by simp[g],?_,λa h f=>?_⟩,?_,⟨[],rfl,eE _ _ _ _,λa h=>by simp at h⟩⟩
 ·rw[v_ _ _ _ _ g,jc,bV];exact z
 ·by_cases o:a<M d.cz
  ·rw[iz T,iz o];exact⟨(s a o T).1.i l,(s a o T).2.i l⟩
  ·have iR:a=M d.cz:=by simp at h;omega
   subst iR;rw[iV T,iV T];simp only[g,rM,pv];exact⟨hE.i hZ,ih⟩
 ·rw[bV];exact tX ((v.alloc _).alloc _) ((t.alloc _).alloc _) ak j
theorem Pb{x:Nat}(ug:iY gL L N x Z)(RR:M Z<=b1)(RU:M Z<=100000)(BP:∀f∈Z,M f.bB<=1000000):
 aR prog 56 #[U (some ⟨N,x*6,none⟩) (M Z) b1] L λe o=>∃d k t,e=aM (U d k t)/\aF (S (R L)) L o/\iG (λb=>S (R L)<=b) o (U d k t) (er Z):=by
 obtain⟨BV,Cs,Cz,CS,DM⟩:=dY Tryz.S1;obtain⟨D7,D9,El,ET,Fi⟩:=dY Tryz.LB;obtain⟨FM,F2,F4,Ga,Gl⟩:=dY Tryz.OW;go_enter func56,ntmps56;go_wp2_with fail
 go_loopw [3,4,5,12] (λE K H hS wr=>∃j:Nat,j<=M Z/\hS=O Q j/\kL (S (R L)) wr E K H (ka Z j)/\aF (S (R L)) L wr) (λ_ _ _ hS _=>M Z-(bm hS).toNat)
 case atStart=>exact⟨0,bL _,rfl,kL.jt _ _,ca _ _⟩
 case round=>
  obtain⟨j,Sc,rfl,hV,y⟩:=hrel;have Sn:=y.size;by_cases uY:j<M Z
  ·obtain⟨gC,Sy,z,Gx,vE,wz,wB,xf,xk,mO⟩:=ug.ep j uY;have Hp:=BP Z[j] (b4 _);have HY:=z.bo (aU.H (ab:=gL) y);have B:∀hZ pR,aK L ⟨N,(x+j)*6+hZ,none⟩=some pR->aK wr ⟨N,x*6+j*6+hZ,none⟩=some pR:=λhZ pR e=>by have H_:(x+j)*6+hZ=x*6+j*6+hZ:=T;rw[<-H_];exact(y.cell (p:=⟨N,(x+j)*6+hZ,none⟩) ug.am).trans e
   have xr:=B 0 _ vE;have J3:=B 1 _ wz;have Ko:=B 2 _ wB;have Kp:=B 3 _ xf;have Kz:=B 4 _ xk;have KJ:=B 5 _ mO;rw[pC]at xr;obtain⟨i1,i2,jt,K4⟩:∃d b t,gC=U d b t:=by rcases z.gj with⟨_,f,t,e⟩|⟨SV,SY,e,_⟩<;>exact⟨_,_,_,e⟩
   obtain⟨mR,l,mY,rfl⟩:=Gx;subst K4;have ys:ag (ka Z (j+1)=mM (ka Z j) Z[j]):=CD Z j uY;obtain⟨S1,Th,Tj⟩:=QR Z j T;generalize TH:Z[j]=f at*;generalize ka Z j=c at*;obtain⟨G,m5,s,C⟩:=hV.a8;have I:=hV.n;obtain⟨J,yC,ih,pU⟩:=hV.N;obtain⟨P,gf,gg,pX⟩:=dr s;obtain⟨ne,nB,nG,K8⟩:=dr I;obtain⟨jW,j4,j9,Lp⟩:=dr ih;subst pX;subst K8;subst Lp;have TJ:(j:Int)<(M Z:Int):=T;have TK:(0:Int)<=(j:Int):=T;have y2:=aL.bT wr #[az f.name,O Q f.aX,O Q f.bG,O Q f.ao,U i1 i2 jt,U mR l mY] 189;clear B vE wz wB xf xk mO;go_upto_region 8 with(first|(at_builtin;refine BY _ rfl _ _ 91 rfl (S (R L)) 9 BV _ 1 16 underlying91 Cs Cz CS DM rfl ak _ (M c.bs) (c.bs.map az) bf ((I.alloc _).alloc _) ⟨S (R wr)+1,0,none⟩ 1 1 [az f.name] bf rfl (c4 (cB _ _ _ av)) ey ak cN T b7 (S (R wr)+1+1) av ?_;intro m iR d6 oa gj y5 pZ ob))
   have oH:aF (S (R L)) L d6:=eY ((y.alloc y.size _).alloc b7 _) gj (λa e=>(I.lt a e).1);have q:=tX ((s.alloc _).alloc _) ((I.alloc _).alloc _) ak gj;have g1:=tX ((ih.alloc _).alloc _) ((I.alloc _).alloc _) ak gj;have kp:aL d6 (S (R wr)) #[az f.name,O Q f.aX,O Q f.bG,O Q f.ao,U i1 i2 jt,U mR l mY] 189:=(y2.a _).d (gj.block _ b7 (λe=>by have:=(I.lt _ e.symm).2;omega));have zc:ag (aY d6 (S (R L)) 196 3 (U P gf gg) (M c.cz) (bC oQ (c.cz.zip G))/\aY d6 (S (R L)) 194 2 (U jW j4 j9) (M c.dh) (bC nA (c.dh.zip J))):=⟨q,g1⟩;have qp:S (R wr)<=S (R d6):=by have:=gj.size;simp at this;omega
   have zS:S (R L)<=S (R d6):=T;have qt:∀b,b<S (R wr)->ap (U ne nB nG)≠some b->(R d6)[b]?=(R wr)[b]?:=λb l kr=>(gj.block b b7 (λe=>kr e.symm)).trans ((fY _ _ _ b7).trans (fY _ _ _ l))
   have z_:ap (U ne nB nG)=some m\/S (R wr)<=m:=y5.imp id (λe=>T);have qP:aY d6 (S (R L)) 9 1 (U (some ⟨m,0,none⟩) (M c.bs+1) iR) (M c.bs+1) ((c.bs++[f.name]).map az):=by rw[dv];exact oa
   have Ls:ag (∀(wc w:aq) (u:an) (r A:Nat) (gE gF:Obj),aF (S (R d6)) d6 wc->eX (λb=>S (R d6)<=b) wc u (jn c.bs f).bB->b_ (ar (ar wc gE) gF) w (ap (U jW j4 j9))->(ap (U jW j4 j9)=some r\/r=S (R wc)+1+1)->aY w (S (R L)) 194 2 (U (some ⟨r,0,none⟩) (M c.dh+1) A) (M c.dh+1) ((bC nA (c.dh.zip J))++[O Q f.ao,u])->kL (S (R L)) w (U P gf gg) (U ne nB nG) (U (some ⟨r,0,none⟩) (M c.dh+1) A) ⟨c.cz,c.bs,c.dh++[jn c.bs f]⟩):=λwc w u r A gE gF l qW ra v z=>kL.en (wr:=wr) (d6:=d6) (wc:=wc) m5 C yC pU zS qp l.size (λb rA kr=>(l.block b T).trans (qt b rA kr)) (cw q λa i=>l.block a (q.lt a i).2) (λa i=>(q.lt a i).2) (cw ob λa i=>l.block a (ob.lt a i).2) (λa i=>(ob.lt a i).2) (cw g1 λa i=>l.block a (g1.lt a i).2) (λa i=>(g1.lt a i).2) qW ra v z
   have LB:ag (∀(wc w:aq) (u:an) (r A:Nat) (gE gF:Obj),aF (S (R d6)) d6 wc->eX (λb=>S (R d6)<=b) wc u (jn c.bs f).bB->b_ (ar (ar wc gE) gF) w (ap (U P gf gg))->(ap (U P gf gg)=some r\/r=S (R wc)+1+1)->aY w (S (R L)) 196 3 (U (some ⟨r,0,none⟩) (M c.cz+1) A) (M c.cz+1) ((bC oQ (c.cz.zip G))++[O Q f.ao,u,U jW j4 j9])->kL (S (R L)) w (U (some ⟨r,0,none⟩) (M c.cz+1) A) (U (some ⟨m,0,none⟩) (M c.bs+1) iR) (U none 0 0) ⟨c.cz++[⟨jn c.bs f,c.dh⟩],c.bs++[f.name],[]⟩):=λwc w u r A gE gF l qW ra v z=>kL.hi (wr:=wr) (d6:=d6) (wc:=wc) (vh:=m) m5 C yC pU zS qp l.size (λb rA kr=>(l.block b T).trans (qt b rA kr)) (cw q λa i=>l.block a (q.lt a i).2) (λa i=>(q.lt a i).2) (cw qP λa i=>l.block a (qP.lt a i).2) rfl pZ z_ (cw g1 λa i=>l.block a (g1.lt a i).2) qW ra v z
   have Ai:=z.bo (aU.H (ab:=gL) oH);have Ak:∀a,(i:a<M (c.bs++[f.name]))->aK d6 ⟨m,a,none⟩=some (az (c.bs++[f.name])[a]):=λa i=>by
    have kx:=oa.cells (g:=m) rfl a (az (c.bs++[f.name])[a]) (by rw[show(c.bs.map az++[az f.name])=(c.bs++[f.name]).map az by simp,gq,dz i];rfl)
    rw[ez,du]at kx;exact kx
   have Aq:∀D,aF (S (R d6)) d6 D->aR prog 90 #[U i1 i2 jt,U (some ⟨m,0,none⟩) (M c.bs+1) iR] D λe o=>∃oS k t,e=aM (U oS k t)/\aF (S (R D)) D o/\aF (S (R d6)) d6 o/\eX (λb=>S (R D)<=b) o (U oS k t) (jn c.bs f).bB:=λD k1=>by have kx:=Tp (Ai.bo (aU.H (ab:=gL) k1)) Hp (N:=m) (b1:=iR) (bs:=c.bs++[f.name]) (cI pZ k1.size) (λa i=>(k1.cell (p:=⟨m,a,none⟩) pZ).trans (Ak a i)) av b7;rw[bV]at kx;refine kx.mono ?_;rintro e o ⟨d,b,t,LI,Az,LL⟩;exact⟨d,b,t,LI,Az,k1.trans (Az.mono k1.size),LL⟩
   have rR:=kp.aa 3;have sY:=kp.aa 4;have o6:=kp.am;simp at rR sY;have AE:ag (aL d6 (S (R wr)) #[az f.name,O Q f.aX,O Q f.bG,O Q f.ao,U i1 i2 jt,U mR l mY] 189):=kp;have LQ:ag (aY d6 (S (R L)) 9 1 (U (some ⟨m,0,none⟩) (M c.bs+1) iR) (M c.bs+1) ((c.bs++[f.name]).map az)):=by show aY _ _ _ _ _ _ _;rw[dv];exact oa
   generalize TP:S (R wr)=pa at*;clear oa gj y5 ob q g1 kp Ai Ak y2 hV C pU qt z_ qP qp s I ih y HY xr J3 Ko Kp Kz KJ
   go_cut [9]from 13 to 42 (λLU tB=>∃py u AV a,LU=.pointer (some ⟨py,0,none⟩)/\aL tB py #[O Q f.ao,U u AV a] 194/\aF (S (R d6)) d6 tB/\eX (λb=>S (R d6)<=b) tB (U u AV a) (jn c.bs f).bB)
   case first=>
    go_region_with (first|(go_at_call 90;refine(Aq _ (by first|exact(ca _ _)|exact⟨rfl,rfl,rfl,aN _,λ_ _=>rfl⟩|exact(aF.alloc (ca _ _) (aN _) _)|exact⟨rfl,rfl,rfl,av,λa i=>fY _ _ _ i⟩)).mono ?_;rintro e F ⟨oS,Mc,mO,rfl,tI,iU,AW⟩;have TQ:=(iU.cell (p:=⟨pa,3,none⟩) o6).trans rR;have TR:=(iU.cell (p:=⟨pa,4,none⟩) o6).trans sY;have TS:pa<S (R F):=cI o6 iU.size;first|(have iZ:=(by first|exact OV tI|exact Mu tI|exact PI tI:aL F d6.heap.size #[.int .i64 0,.slice none 0 0] 194);have Mj:=iZ.aa 0;have Mk:=iZ.aa 1;have My:=iZ.b 0;have MA:=iZ.b 1;have MC:=iZ.am;simp at Mj Mk My MA MC)|skip))
    all_goals
     go_wp2_with fail
     go_meet
     first
     |exact⟨_,_,_,_,rfl,aL.bT _ _ _,iU.alloc iU.size _,(AW.cE (λb l=>bS (by first|exact aN _|simp) l)).a _⟩
     |exact⟨_,_,_,_,rfl,by simpa using(iZ.j 0 (O Q f.ao)).j 1 (U oS Mc mO),eY (eY iU (fU _ _ _) (λN e=>by cases e;exact aN _)) (fU _ _ _) (λN e=>by cases e;exact aN _),((AW.j av _).j av _).cE (λb l=>by simp at l;omega)⟩
   case rest=>
    obtain⟨py,Bg,Bo,Bt,rfl,t8,i0,BE⟩:=hcut;have hu:=AE.out.d (i0.block pa o6);obtain⟨q,ub⟩:=zc.out;have s:=cw q (aI:=wc) λa i=>i0.block a (q.lt a i).2
    have ih:=cw ub (aI:=wc) λa i=>i0.block a (ub.lt a i).2
    have BH:ag (aF (S (R d6)) d6 wc):=i0;clear q ub zc;have k7:aF (S (R L)) L wc:=oH.trans (i0.mono oH.size);have lo:=sz f (U i1 i2 jt) (U mR l mY) ⟨_,_,_,rfl⟩ ⟨_,_,_,rfl⟩ wc;unfold eu at lo;have MD:=hu.aa 0;have MT:=hu.aa 1;have M1:=hu.aa 2;have M9:=hu.aa 3;have Nt:=hu.aa 4;have NF:=hu.aa 5;have NR:=t8.aa 0;have OD:=t8.aa 1;have TT:=t8.am;have TU:=hu.am;simp at MD MT M1 M9 Nt NF NR OD;have TV:=k7.size;clear Aq AE LQ i0 rR sY oH;have TW:py<S (R wc)+1:=T;cases pF:cW f with
    |false=>
     rw[pF]at lo;go_wp2_with(first|(go_at_call 91;refine lo.mono ?_;rintro e OF ⟨rfl,OG,rfl⟩)|(at_builtin;refine dq _ rfl _ _ 186 rfl (S (R L)) 194 D7 _ 2 32 underlying186 D9 El ET Fi rfl ak _ (M c.dh) (bC nA (c.dh.zip J)) bf ((ih.alloc _).alloc _) ⟨S (R wc)+1,0,none⟩ 1 1 [O Q f.ao,U Bg Bo Bt] bf rfl (c4 (cB _ _ _ av)) ey ak cN T b7 (S (R wc)+1+1) av ?_;intro r A w l8 hE v OW))
     have me:aF (S (R L)) L w:=eY ((k7.alloc k7.size _).alloc b7 _) hE (λa e=>(ih.lt a e).1);have mn:ag (kL (S (R L)) w (U P gf gg) (U ne nB nG) (U (some ⟨r,0,none⟩) (M c.dh+1) A) (ka Z (j+1))):=by show kL _ _ _ _ _ _;rw[ys.out];unfold mM;rw[pF];exact Ls.out wc w _ r A _ _ BH.out BE hE v l8
     clear l8 hE v
     first
     |(go_roundw
       case rel=>exact⟨j+1,T,bE,mn.out,me⟩
       case measure=>simp[bm];omega)
     |(refine⟨⟨j+1,T,bE,mn.out,me⟩,by simp[Pn];omega⟩)
    |true=>
     rw[pF]at lo;go_wp2_with(first|(go_at_call 91;refine lo.mono ?_;rintro e OF ⟨rfl,OG,rfl⟩)|(at_builtin;refine dq _ rfl _ _ 112 rfl (S (R L)) 196 FM _ 3 56 underlying112 F2 F4 Ga Gl rfl ak _ (M c.cz) (bC oQ (c.cz.zip G)) bf ((s.alloc _).alloc _) ⟨S (R wc)+1,0,none⟩ 1 1 [O Q f.ao,U Bg Bo Bt,U jW j4 j9] bf rfl (c4 (cB _ _ _ av)) ey ak cN T b7 (S (R wc)+1+1) av ?_;intro r A w l8 hE v OW))
     have me:aF (S (R L)) L w:=eY ((k7.alloc k7.size _).alloc b7 _) hE (λa e=>(s.lt a e).1);have mn:ag (kL (S (R L)) w (U (some ⟨r,0,none⟩) (M c.cz+1) A) (U (some ⟨m,0,none⟩) (M c.bs+1) iR) (U none 0 0) (ka Z (j+1))):=by show kL _ _ _ _ _ _;rw[ys.out];unfold mM;rw[pF];exact LB.out wc w _ r A _ _ BH.out BE hE v l8
     clear l8 hE v
     first
     |(go_roundw
       case rel=>exact⟨j+1,T,bE,mn.out,me⟩
       case measure=>simp[bm];omega)
     |(refine⟨⟨j+1,T,bE,mn.out,me⟩,by simp[Pn];omega⟩)
  ·have e:j=M Z:=by omega
   subst e;have P1:ag (er Z=(ka Z (M Z)).cz):=rfl;generalize ka Z (M Z)=c at*;obtain⟨G,m5,s,C⟩:=hV.a8;obtain⟨P,gf,gg,pX⟩:=dr s;subst pX;have Rp:ag (iG (λb=>S (R L)<=b) wr (U P gf gg) c.cz):=⟨⟨G,m5,uE s,λhS h BN=>⟨(C hS h BN).1.cE (λb l=>l.1),(C hS h BN).2.i (λb l _=>⟨l.1,rfl⟩)⟩⟩,λa i=>(s.lt a i).1⟩;clear hV s C;go_wp2;go_ret;rw[P1.out];exact⟨_,_,_,rfl,y,Rp.out⟩
def su(g:Nat->Prop)(L:aq)(i:an)(a:List (List gI)):Prop:=∃e:List an,M e=M a/\aY L 0 112 1 i (M a) e/\(∀N,ap i=some N->g N)/\∀f,(h:f<M e)->(j:f<M a)->iG g L e[f] a[f]
theorem su.i{f g:Nat->Prop}{z:List (List gI)}(h:su f L x z)(c:fL f L g o):su g o x z:=by obtain⟨k,l,e,j,m⟩:=h;exact⟨k,l,cw e λN a=>(c N (j N a) (e.lt N a).2).2,λN a=>(c N (j N a) (e.lt N a).2).1,λp d b=>(m p d b).i c⟩
def rn(e:Nat)(f:an):Nat->Prop:=λa=>e<=a/\a≠e+1/\ap f≠some a
theorem P8{wr:aq}{c:an}{d:List an}{g:List (List gI)}{m i:an}{o:List gI}{C:Obj}(j:M d=M g)(D:∀a,(h:a<M d)->(s:a<M g)->iG (rn q c) wr d[a] g[a])(t:aF (S (R wr)) wr F)(K:q+1<S (R wr))(E:∀b,ap c=some b->b<S (R wr))(p:iG (λb=>S (R wr)<=b) F m o)(G:b_ (ar F C) w (ap c))(H:ap c=some r\/r=S (R F)+1):
 ∀a,(h:a<M (d++[m]))->(s:a<M (g++[o]))->iG (rn q (U (some ⟨r,0,none⟩) k A)) (ay w ⟨q+1,2,none⟩ i) (d++[m])[a] (g++[o])[a]:=by
 have P:=t.size;have u:∀b,b<S (R F)->b≠q+1->ap c≠some b->(R (ay w ⟨q+1,2,none⟩ i))[b]?=(R F)[b]?:=λb j p f=>(gw _ _ _ _ (λe=>p (by simp at e;omega))).trans ((G.block b b7 (λe=>f e.symm)).trans (fY _ _ _ j))
 have v:∀b,b<S (R F)->ap c≠some b->ap (U (some ⟨r,0,none⟩) k A)≠some b:=λb j f e=>by
  simp only[ap,j0]at e;rcases H with h|h
  ·rw[e]at h;exact f h
  ·omega
 have I:fL (rn q c) wr (rn q (U (some ⟨r,0,none⟩) k A)) (ay w ⟨q+1,2,none⟩ i):=by rintro b ⟨x,y,z⟩ l;exact⟨⟨x,y,v b T z⟩,(u b T y z).trans (t.block b l)⟩
 have J:fL (λb=>S (R wr)<=b) F (rn q (U (some ⟨r,0,none⟩) k A)) (ay w ⟨q+1,2,none⟩ i):=by
  intro b x l;have f:ap c≠some b:=λe=>by have:=E b e;omega
  exact⟨⟨T,T,v b l f⟩,u b l T f⟩
 intro a h s;by_cases B:a<M d
 ·rw[iz B,iz T];exact(D a B T).i I
 ·have e:a=M d:=by simp at h;omega
  subst e;rw[iV T,iV T];simp only[j,rM,pv];exact p.i J
theorem NE(h:jk gL L x Z)(c:M Z<=100000)(f:∀g∈Z,M g.bB<=1000000)(i:Z≠[]):
 aR prog 56 #[x] L λe o=>∃d k a,e=aM (U d k a)/\aF (S (R L)) L o/\iG (λb=>S (R L)<=b) o (U d k a) (er Z):=by
 rcases h.1 with⟨e,_⟩|⟨N,m,b1,rfl,j,l⟩
 ·exact absurd e i
 ·exact Pb l j c f
theorem Q1{hE:an}(hS:ga gL L hE z)(g i H:Int)(rR:M z<=1000)(m5:∀Z∈z,M Z<=100000/\Z≠[]/\∀jt∈Z,M jt.bB<=1000000):
 aR prog 36 #[.agg #[O Q g,O Q i,O Q H,hE]] L λe o=>∃I,e=aM (.pointer (some ⟨I,0,none⟩))/\aF (S (R L)) L o/\S (R L)<=I/\∃d k f,aL o I (sO g i (U d k f)) 110/\su (λb=>S (R L)<=b/\b≠I) o (U d k f) (z.map er):=by
 obtain⟨ne,nB,nG,oa,ob⟩:=dY Tryz.Kz;obtain⟨hZ,oH,ih,J⟩:∃d k f,hE=U d k f:=by obtain⟨oS,_,h,_⟩:=hS;exact dr h
 subst J;have o6:oH=M z:=by
  obtain⟨oS,_,h,_⟩:=hS;rcases h.2 with⟨e,pa⟩|⟨N,f,sY,e,_⟩<;>cases e
  ·exact pa.symm
  ·rfl
 subst o6;have K:=aL.bT L #[O Q g,O Q i,O Q H,U hZ (M z) ih] 67;have jW:=K.aa 0;have j4:=K.aa 1;have j9:=K.aa 3;simp at jW j4 j9;have P:=aL.bT (ar L (aw #[O Q g,O Q i,O Q H,U hZ (M z) ih] 67)) (sO g i (U none 0 0)) 110;have iR:aF (S (R L)) L (ar (ar L (aw #[O Q g,O Q i,O Q H,U hZ (M z) ih] 67)) (aw (sO g i (U none 0 0)) 110)):=((ca _ L).alloc (aN _) _).alloc av _;rw[hQ]at P;unfold sO at P iR;go_enter func36,ntmps36;go_wp2_with fail
 go_loopw [15] (λc wr=>∃a:Nat,a<=M z/\c=O Q a/\aF (S (R L)) L wr/\∃d b f B,aL wr (S (R L)+1) #[O Q g,O Q i,U d b f,O Q 0,U none 0 0,U none 0 0] 110/\aY wr (S (R L)) 112 1 (U d b f) a B/\M B=M ((z.take a).map er)/\∀c,(h:c<M B)->(gf:c<M ((z.take a).map er))->iG (rn (S (R L)) (U d b f)) wr B[c] ((z.take a).map er)[c]) (λc _=>M z-(bm c).toNat)
 case atStart=>exact⟨0,bL _,rfl,iR,none,0,0,[],P,eE _ _ _ _,rfl,λc h=>by simp at h⟩
 case round=>
  obtain⟨a,tB,rfl,l,iU,iZ,i0,B,m,q,t,u⟩:=hrel;clear P iR K jW j4 j9;have tI:=l.size;have kp:=m.am;have hV:=m.aa 2;have t8:=m.b 2;simp at hV;by_cases kr:a<M z
  ·obtain⟨N,b1,J,gg,ub,kx⟩:=hS.gj T;simp only[mi]at J;obtain⟨rfl,_,rfl⟩:=J;obtain⟨x,k1,gj⟩:=kx a kr;have ug:=(l.cell (p:=⟨N,a,none⟩) gg).trans k1;obtain⟨py,pF,pR⟩:=m5 z[a] (b4 _);have pU:∀D,aF (S (R wr)) wr D->aR prog 56 #[x] D λe o=>∃d k f,e=aM (U d k f)/\aF (S (R wr)) wr o/\iG (λb=>S (R wr)<=b) o (U d k f) (er z[a]):=λD gC=>by refine(NE ⟨gj.1.bo (aU.H (ab:=gL) (l.trans (gC.mono l.size))),gj.2⟩ py pR pF).mono ?_;rintro e o ⟨d,k,f,pX,pZ,qp⟩;exact⟨d,k,f,pX,gC.trans (pZ.mono gC.size),qp.i (λb s _=>⟨bS gC.size s,rfl⟩)⟩
   obtain⟨uY,vE,wz,qt⟩:∃d b f,x=U d b f:=by rcases gj.1 with⟨_,jt,f,e⟩|⟨N,wB,b1,e,_⟩<;>exact⟨_,_,_,e⟩
   subst qt;have xf:(a:Int)<(M z:Int):=T;have xk:(0:Int)<=(a:Int):=T;have k7:ag ((z.take (a+1)).map er=(z.take a).map er++[er z[a]]):=by show _=_;rw[ev kr,dv];rfl
   have qP:ag (∀c,(h:c<M B)->(gf:c<M ((z.take a).map er))->iG (rn (S (R L)) (U iU iZ i0)) wr B[c] ((z.take a).map er)[c]):=u;have lo:ag (M B=M ((z.take a).map er)):=t;clear kx k1 gj u t;generalize er z[a]=xr at*;generalize(z.take a).map er=ys at*;go_upto_region 5 with fail;go_region_law (first|(refine kc _ bf _ _ 106 bf (S (R L)) 112 ne _ 1 24 underlying106 nB nG oa ob rfl ak _ a B bf (i1.alloc _) ⟨S (R F),0,none⟩ 1 1 [U v y C] bf rfl (c4 (cB _ _ _ av)) ey ak cN T b7 (S (R F)+1) av ?_;intro r A w gE gF l8 yC;have E:=(G.a (aw #[U v y C] 112)).d (gF.block (S (R L)+1) b7 (λe=>ed G i1 ak e.symm));have u2:=E.aa 2;have y2:=E.b 2;have y5:=E.am;simp at u2)|(go_simp;refine(pU _ (by first|exact ca _ _|exact⟨rfl,rfl,rfl,aN _,λ_ _=>rfl⟩)).mono ?_;rintro e F ⟨v,y,C,rfl,g1,qW⟩;have G:=m.d (g1.block (S (R L)+1) kp);have ra:=G.aa 2;have zc:=G.b 2;have zS:=G.am;simp at ra;have i1:=cw q (aI:=F) (λj hu=>g1.block j (q.lt j hu).2);have i2:aF (S (R L)) L F:=l.trans (g1.mono l.size);have z_:=i2.size;show _;dsimp only))
   all_goals
    have me:aL (ay w ⟨S (R L)+1,2,none⟩ (U (some ⟨r,0,none⟩) (a+1) A)) (S (R L)+1) #[O Q g,O Q i,U (some ⟨r,0,none⟩) (a+1) A,O Q 0,U none 0 0,U none 0 0] 110:=by simpa using E.j 2 (U (some ⟨r,0,none⟩) (a+1) A)
    have mn:aF (S (R L)) L (ay w ⟨S (R L)+1,2,none⟩ (U (some ⟨r,0,none⟩) (a+1) A)):=eY (eY (i2.alloc i2.size _) gF (λj e=>(i1.lt j e).1)) (fU _ _ _) (λj e=>by cases e;exact lv _);have mO:=cw gE (aI:=ay w ⟨S (R L)+1,2,none⟩ (U (some ⟨r,0,none⟩) (a+1) A)) (λj hu=>(fU w ⟨S (R L)+1,2,none⟩ _).block j (gE.lt j hu).2 (λe=>by simp at e;subst e;exact ed E gE ak hu));have mR:ag (∀c,(h:c<M (B++[U v y C]))->(gf:c<M ((z.take (a+1)).map er))->iG (rn (S (R L)) (U (some ⟨r,0,none⟩) (a+1) A)) (ay w ⟨S (R L)+1,2,none⟩ (U (some ⟨r,0,none⟩) (a+1) A)) (B++[U v y C])[c] ((z.take (a+1)).map er)[c]):=by show∀c,_;rw[k7.out];exact P8 lo.out qP.out g1 kp (λb s=>(q.lt b s).2) qW gF l8
    have mY:ag (M (B++[U v y C])=M ((z.take (a+1)).map er)):=by show _=_;rw[k7.out,bV,bV,lo.out];rfl
    clear gE gF l8;go_wp2_with fail
    first
    |(go_roundw
      case rel=>exact⟨a+1,T,bE,mn,_,_,_,_,me,mO,mY.out,mR.out⟩
      case measure=>simp[bm];omega)
    |(refine⟨⟨a+1,T,bE,mn,_,_,_,_,me,mO,mY.out,mR.out⟩,by simp[Ai];omega⟩)
  ·have e:a=M z:=by omega
   subst e;rw[eQ]at t u;have rA:ag (su (λb=>S (R L)<=b/\b≠S (R L)+1) wr (U iU iZ i0) (z.map er)):=⟨B,t,by rw[c_];exact uE q,λN gg=>⟨(q.lt N gg).1,λe=>by subst e;exact ed m q ak gg⟩,λc h gf=>(u c h gf).i (λb s _=>⟨⟨s.1,s.2.1⟩,rfl⟩)⟩;clear u t;go_wp2;go_ret;exact⟨_,rfl,l,T,iU,iZ,i0,m,rA.out⟩
