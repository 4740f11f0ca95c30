import Derived.Test.YtddbjcfdmdbmkaaGreatDoorB02
import Derived.Deep.Cut
import Derived.Deep.CutRange
set_option linter.all false
set_option maxRecDepth 100000
set_option maxHeartbeats 40000000
namespace Go.Proofs.YtddbjcfdmdbmkaaGreatDoor
open Go.RowKit Go.Proofs.Tryz
open Go.IntKind renaming i64->Q
open Go.RowKit renaming Hid->ag,intOf->bm
open Go renaming Value->an,World->aq
open Go.Value renaming int->O,slice->U,string->az,ownBlock->ap
open _root_.Array renaming size->S
open _root_.ByteArray renaming size->aW
open Go.World renaming alloc->ar,drewN->bY,heap->R,ownsRow->aY
open List renaming length->M
open _root_.UInt8 renaming toNat->dk
variable{L u k:aq}{d:an}{b:ByteArray}{q c:List bN}{j a N o:Nat}{r:bN}
structure us (a8:ByteArray) (ew:List bN) (L:aq) (eI:List bN) (my:Nat) (a6:an) (wr:aq):Prop where
 vn:∃rest,k2 a8 my rest/\ew=eI++rest
 b0:my<=a8.size
 bg:wr.ownsRow 0 150 4 a6 eI.length (bC bN.h eI)
 ab:∀N,a6.ownBlock=some N->L.heap.size<=N
 lk:Below L.heap.size L wr
 bX:eI.length<=my
def AP(f:ByteArray)(g:List bN)(L:aq)(h i:an)(wr:aq):Prop:=∃l e,i=O Q (e:Nat)/\us f g L l e h wr
def DK(L:aq)(e:List bN)(f:an)(g:aq):Prop:=
 (aY g) 0 150 4 f (M e) (bC bN.h e)/\(∀N,ap f=some N->S (R L)<=N)/\Below (S (R L)) L g
theorem tK{a:Nat}{e:TypeId}{b:Nat}{c:Nat}{f:List an}(h:aY L a e b d c f)(g:Nat):aY (bY L g) a e b d c f:=h
theorem TN{a:Nat}{b:aq}(h:Below a L b)(c:Nat):Below a L (bY b c):=⟨h.os,h.tape,h.output,h.size,h.block⟩
theorem Mq(L:aq)(a:Nat)(b:Addr)(d:an):(bY L a).setCell b d=bY (L.setCell b d) a:=rfl
theorem Jp(L:aq)(a:Nat)(b:Obj):ar (bY L a) b=bY (ar L b) a:=rfl
attribute [local go_sem] Mq Jp
theorem Ji{wr:aq}(e:us b q L c j d wr)(h:eR b j=(r,none)):q=c++[r]:=by
 obtain⟨rest,f,g⟩:=e.vn;cases f with
 |oF a=>rw[h]at a;cases a;exact g
 |f9 a _=>rw[h]at a;cases a
theorem MB{wr:aq}(f:us b q L c j d wr)(h:eR b j=(r,some a)):∃rest,k2 b a rest/\q=(c++[r])++rest:=by
 obtain⟨rest,g,i⟩:=f.vn;cases g with
 |oF e=>rw[h]at e;cases e
 |@f9 _ m _ k e l=>rw[h]at e;cases e;exact⟨k,l,by rw[i];simp⟩
theorem uT{wr:aq}(f:us b q L c j d wr)(h:eR b j=(r,none))(g:Below (S (R L)) L u)(i:S (R L)<=S (R u))
 (l:aY k 0 150 4 (U (some ⟨N,0,none⟩) (M c+1) o) (M c+1) (bC bN.h c++bN.h r))(m:u.grownBy k (ap d))(p:ap d=some N\/N=S (R u)):DK L q (U (some ⟨N,0,none⟩) (M c+1) o) k:=by
 rw[Ji f h];refine⟨by simpa[jc]using l,λa e=>?_,g.grown m i (λa e=>f.ab a e)⟩;cases e;rcases p with e|e
 ·exact f.ab N e
 ·show(S (R L))<=N;omega
theorem q4{wr:aq}(f:us b q L c j d wr)(h:eR b j=(r,some a))(g:Below (S (R L)) L u)(i:S (R L)<=S (R u))
 (l:aY k 0 150 4 (U (some ⟨N,0,none⟩) (M c+1) o) (M c+1) (bC bN.h c++bN.h r))(m:u.grownBy k (ap d))(p:ap d=some N\/N=S (R u)):AP b q L (U (some ⟨N,0,none⟩) (M c+1) o) (O Q (a:Nat)) k:=by
 have s:=Ao h f.b0;refine⟨c++[r],a,rfl,⟨MB f h,s.2,by simpa[jc]using l,λt e=>?_,g.grown m i (λa e=>f.ab a e),by have:=f.bX;simp;omega⟩⟩;cases e;rcases p with e|e
 ·exact f.ab N e
 ·show(S (R L))<=N;omega
theorem DQ(b:ByteArray)(rR:aW b<=600)(q:List bN)(nG:k2 b 0 q)(L:aq):
 Calls prog 92 #[az b] L λe i=>∃d,e=.returned d/\DK L q d i:=by
 have oa:AP b q L (U none 0 0) (O Q 0) L:=⟨[],0,rfl,⟨⟨q,nG,rfl⟩,bL _,eE _ _ _ _,λN pR=>by simp[ap]at pR,ca _ _,aN _⟩⟩;clear nG;go_enter func92,ntmps92;go_wp2_with fail
 go_loopw [3,4] (λd w wr=>AP b q L d w wr) (λ_ w _=>aW b-(bm w).toNat)
 case atStart=>exact oa
 case round=>
  obtain⟨c,j,rfl,l⟩:=hrel;clear oa;have pU:=l.b0;have sY:=l.bX;obtain⟨B,C,D,E,F⟩:=dY Tryz.F4;generalize ob:da fs b j=gE;have gf:ag (da fs b j=gE):=ob;clear ob;go_wp2_with fail
  go_loop [4] (λw=>∃a:Nat,a<=aW b/\j<=a/\w=O Q a/\da fs b a=gE) (λw=>aW b-(bm w).toNat)
  case atStart=>exact⟨j,pU,aN _,rfl,gf.out⟩
  case round=>
   obtain⟨a,oH,tB,rfl,oS⟩:=hrel;have jt:ag (da fs b a=gE):=oS;clear oS;by_cases x:a<aW b
   ·by_cases K:b[a]=32
    ·have pX:((dk b[a]:Int)==32)=true:=by simp[K]
     have j9:ag (da fs b (a+1)=gE):=(oC fs b a x (by simp[fs,K])).trans jt.out;clear K;go_wp2_with fail
     go_round
     case rel=>exact⟨a+1,T,T,bE,j9.out⟩
     case measure=>simp[bm];omega
    ·have pX:((dk b[a]:Int)==32)=false:=by rw[di];intro h;exact K (qV.1 (by exact_mod_cast h))
     by_cases gg:b[a]=10
     ·have pZ:((dk b[a]:Int)==10)=true:=by simp[gg]
      have j9:ag (da fs b (a+1)=gE):=(oC fs b a x (by simp[fs,gg])).trans jt.out;clear K gg;go_wp2_with fail
      go_round
      case rel=>exact⟨a+1,T,T,bE,j9.out⟩
      case measure=>simp[bm];omega
     ·have pZ:((dk b[a]:Int)==10)=false:=by rw[di];intro h;exact gg (qV.1 (by exact_mod_cast h))
      have jW:a=gE:=by rw[<-jt.out];exact(xX fs b a x (by simp[fs,K,gg])).symm
      subst jW;have tI:(0:Int)<=(dk b[a]:Int):=T;have gj:(dk b[a]:Int)<256:=by have:=UInt8.toNat_lt b[a];omega
      have t8:((a:Int)==(aW b:Int))=false:=by rw[di];omega
      have y:=l.bg;have z:=l.lk.size;by_cases hE:97<=(dk b[a]:Int)/\(dk b[a]:Int)<=122
      ·have t:ag (eR b j=(⟨0,b.extract a (da ch b a),a,0⟩,some (da ch b a))):=by
        show _=_;unfold eR;simp only;rw[gf.out,aH T,k0 b a x,aP w8]
       have qp:a<da ch b a:=by have kp:=oB ch b (a+1);rw[oC ch b a x w8]at kp;omega
       obtain⟨kr,kx⟩:=hE;have hS:decide ((97:Int)<=(dk b[a]:Int))=true:=by simpa using kr
       have o6:decide ((dk b[a]:Int)<=122)=true:=by simpa using kx
       have qt:decide ((48:Int)<=(dk b[a]:Int))=true:=b7;have qP:decide ((dk b[a]:Int)<=57)=false:=b7
       as_aux_lemma=>
        clear K gg;go_upto_region 12 with(first|(go_at_call_of 141 (az ⟨#[40,41,124,58,46,43,45,42,47,61,60,62]⟩);refine(fc b[a] ⟨#[40,41,124,58,46,43,45,42,47,61,60,62]⟩ _ ak).mono ?_;rintro e i ⟨rfl,f⟩;rw[f];clear f)|(go_at_call_of 141 (Value.string ⟨#[33,60,62]⟩);refine(fc b[a] ⟨#[33,60,62]⟩ _ ak).mono ?_;rintro e i ⟨rfl,f⟩;rw[f];clear f))
        go_cut [10]from 11 to 88 (λd J=>(∃k1,d=.bool k1)/\J=ar wr (.cells #[O Q 0,az ⟨#[]⟩,O Q (a:Nat),O Q 0] 150))
        case first=>
         by_cases gF:a+1<aW b
         ·have hV:decide ((a:Int)+1<(aW b:Int))=true:=by simp;omega
          have pa:(a:Int)+1<(aW b:Int):=T;by_cases u:b[a+1]=61
          ·have hZ:((dk b[a+1]:Int)==61)=true:=by simp[u]
           clear u;go_wp2_with(first|(go_at_call_of 141 (az ⟨#[40,41,124,58,46,43,45,42,47,61,60,62]⟩);refine(fc b[a] ⟨#[40,41,124,58,46,43,45,42,47,61,60,62]⟩ _ ak).mono ?_;rintro e i ⟨rfl,f⟩;rw[f];clear f)|(go_at_call_of 141 (az ⟨#[33,60,62]⟩);refine(fc b[a] ⟨#[33,60,62]⟩ _ ak).mono ?_;rintro e i ⟨rfl,f⟩;rw[f];clear f))
           go_meet
           case rel=>exact⟨⟨_,rfl⟩,rfl⟩
          ·have hZ:((dk b[a+1]:Int)==61)=false:=by rw[di];intro h;exact u (qV.1 (by exact_mod_cast h))
           clear u;go_wp2_with(first|(go_at_call_of 141 (Value.string ⟨#[40,41,124,58,46,43,45,42,47,61,60,62]⟩);refine(fc b[a] ⟨#[40,41,124,58,46,43,45,42,47,61,60,62]⟩ _ ak).mono ?_;rintro e i ⟨rfl,f⟩;rw[f];clear f)|(go_at_call_of 141 (Value.string ⟨#[33,60,62]⟩);refine(fc b[a] ⟨#[33,60,62]⟩ _ ak).mono ?_;rintro e i ⟨rfl,f⟩;rw[f];clear f))
           go_meet
           case rel=>exact⟨⟨_,rfl⟩,rfl⟩
         ·have hV:decide ((a:Int)+1<(aW b:Int))=false:=by simp;omega
          go_wp2_with(first|(go_at_call_of 141 (Value.string ⟨#[40,41,124,58,46,43,45,42,47,61,60,62]⟩);refine(fc b[a] ⟨#[40,41,124,58,46,43,45,42,47,61,60,62]⟩ _ ak).mono ?_;rintro e i ⟨rfl,f⟩;rw[f];clear f)|(go_at_call_of 141 (Value.string ⟨#[33,60,62]⟩);refine(fc b[a] ⟨#[33,60,62]⟩ _ ak).mono ?_;rintro e i ⟨rfl,f⟩;rw[f];clear f))
          go_meet
          case rel=>exact⟨⟨_,rfl⟩,rfl⟩
        case rest=>
         obtain⟨⟨qW,rfl⟩,A⟩:=hcut;rw[A];clear A;go_upto_region 15 with fail;generalize ih:da ch b a=G at*;have k7:ag (da ch b a=G):=ih;clear ih;go_wp2_with fail
         go_loop [4] (λw=>∃g:Nat,g<=aW b/\a<=g/\w=O Q g/\da ch b g=G) (λw=>aW b-(bm w).toNat)
         case atStart=>exact⟨a,oH,aN _,rfl,k7.out⟩
         case round=>
          obtain⟨g,ra,lo,rfl,iR⟩:=hrel;have H:ag (da ch b g=G):=iR;clear iR;by_cases gL:g<aW b
          ·by_cases g1:97<=(dk b[g]:Int)/\(dk b[g]:Int)<=122
           ·obtain⟨gj,l8⟩:=g1;have iU:decide ((97:Int)<=(dk b[g]:Int))=true:=by simpa using gj
            have me:decide ((dk b[g]:Int)<=122)=true:=by simpa using l8
            have j4:ag (da ch b (g+1)=G):=(oC ch b g gL w8).trans H.out;go_wp2_with fail
            go_round
            case rel=>exact⟨g+1,T,T,bE,j4.out⟩
            case measure=>simp[bm];omega
           ·have P:g=G:=by rw[<-H.out];exact(xX ch b g gL w8).symm
            by_cases gj:97<=(dk b[g]:Int)
            ·have iU:decide ((97:Int)<=(dk b[g]:Int))=true:=by simpa using gj
             have me:decide ((dk b[g]:Int)<=122)=false:=b7;clear g1
             first|(exfalso;omega)|skip
             all_goals(subst P)
             all_goals(clear H)
             all_goals go_wp2_with(at_builtin;refine dq _ rfl _ _ 119 rfl 0 150 B _ 4 40 underlying119 C D E F rfl ak _ (M c) (bC bN.h c) bf ((y.alloc _).alloc _) ⟨(S (R wr)+1),0,none⟩ 1 1 (bN.h ⟨0,b.extract a g,a,0⟩) bf rfl (c4 (cB _ _ _ gx)) lU ak cN T (bL _) ((S (R wr)+1)+1) gx ?_;intro N o k m p r I)
             all_goals go_roundw
             all_goals first|exact q4 l t.out ((l.lk.alloc z _).alloc b7 _) b7 m p (by simpa using r)|(simp[bm];omega)
            ·have iU:decide ((97:Int)<=(dk b[g]:Int))=false:=by simp;omega
             clear g1
             first|(exfalso;omega)|skip
             all_goals(subst P)
             all_goals(clear H)
             all_goals go_wp2_with(at_builtin;refine dq _ rfl _ _ 119 rfl 0 150 B _ 4 40 underlying119 C D E F rfl ak _ (M c) (bC bN.h c) bf ((y.alloc _).alloc _) ⟨(S (R wr)+1),0,none⟩ 1 1 (bN.h ⟨0,b.extract a g,a,0⟩) bf rfl (c4 (cB _ _ _ gx)) lU ak cN T (bL _) ((S (R wr)+1)+1) gx ?_;intro N o k m p r I)
             all_goals go_roundw
             all_goals first|exact q4 l t.out ((l.lk.alloc z _).alloc b7 _) b7 m p (by simpa using r)|(simp[bm];omega)
          ·have P:g=G:=by rw[<-H.out];exact(xS ch b g T).symm
           first|(exfalso;omega)|skip
           all_goals(subst P)
           all_goals(clear H)
           all_goals go_wp2_with(at_builtin;refine dq _ rfl _ _ 119 rfl 0 150 B _ 4 40 underlying119 C D E F rfl ak _ (M c) (bC bN.h c) bf ((y.alloc _).alloc _) ⟨(S (R wr)+1),0,none⟩ 1 1 (bN.h ⟨0,b.extract a g,a,0⟩) bf rfl (c4 (cB _ _ _ gx)) lU ak cN T (bL _) ((S (R wr)+1)+1) gx ?_;intro N o k m p r I)
           all_goals go_roundw
           all_goals first|exact q4 l t.out ((l.lk.alloc z _).alloc b7 _) b7 m p (by simpa using r)|(simp[bm];omega)
      ·have iZ:ag (ch b[a]=false):=by show _=_;simp[ch];omega
       by_cases i0:48<=(dk b[a]:Int)/\(dk b[a]:Int)<=57
       ·have mn:ag (cQ b[a]=true):=by show _=_;simp[cQ];omega
        have mO:ag (9<da cQ b a-a->eR b j=(⟨4,⟨#[]⟩,a,fS b a (da cQ b a-a)⟩,none)):=by intro s;unfold eR;simp only;rw[gf.out,aH T,k0 b a x,aH (by rw[iZ.out];decide),aP mn.out,aP s]
        have mR:ag (¬9<da cQ b a-a->eR b j=(⟨1,b.extract a (da cQ b a),a,fS b a (da cQ b a-a)⟩,some (da cQ b a))):=by intro s;unfold eR;simp only;rw[gf.out,aH T,k0 b a x,aH (by rw[iZ.out];decide),aP mn.out,aH s]
        have qp:a<da cQ b a:=by have kp:=oB cQ b (a+1);rw[oC cQ b a x mn.out]at kp;omega
        obtain⟨kr,kx⟩:=i0;have hS:decide ((97:Int)<=(dk b[a]:Int))=false:=b7;have qt:decide ((48:Int)<=(dk b[a]:Int))=true:=by simpa using kr
        have qP:decide ((dk b[a]:Int)<=57)=true:=by simpa using kx
        clear hE
        as_aux_lemma=>
         clear K gg;go_upto_region 12 with(first|(go_at_call_of 141 (az ⟨#[40,41,124,58,46,43,45,42,47,61,60,62]⟩);refine(fc b[a] ⟨#[40,41,124,58,46,43,45,42,47,61,60,62]⟩ _ ak).mono ?_;rintro e i ⟨rfl,f⟩;rw[f];clear f)|(go_at_call_of 141 (Value.string ⟨#[33,60,62]⟩);refine(fc b[a] ⟨#[33,60,62]⟩ _ ak).mono ?_;rintro e i ⟨rfl,f⟩;rw[f];clear f))
         go_cut [10]from 11 to 88 (λd J=>(∃k1,d=.bool k1)/\J=ar wr (.cells #[O Q 0,az ⟨#[]⟩,O Q (a:Nat),O Q 0] 150))
         case first=>
          by_cases gF:a+1<aW b
          ·have hV:decide ((a:Int)+1<(aW b:Int))=true:=by simp;omega
           have pa:(a:Int)+1<(aW b:Int):=T;by_cases u:b[a+1]=61
           ·have hZ:((dk b[a+1]:Int)==61)=true:=by simp[u]
            clear u;go_wp2_with(first|(go_at_call_of 141 (az ⟨#[40,41,124,58,46,43,45,42,47,61,60,62]⟩);refine(fc b[a] ⟨#[40,41,124,58,46,43,45,42,47,61,60,62]⟩ _ ak).mono ?_;rintro e i ⟨rfl,f⟩;rw[f];clear f)|(go_at_call_of 141 (az ⟨#[33,60,62]⟩);refine(fc b[a] ⟨#[33,60,62]⟩ _ ak).mono ?_;rintro e i ⟨rfl,f⟩;rw[f];clear f))
            go_meet
            case rel=>exact⟨⟨_,rfl⟩,rfl⟩
           ·have hZ:((dk b[a+1]:Int)==61)=false:=by rw[di];intro h;exact u (qV.1 (by exact_mod_cast h))
            clear u;go_wp2_with(first|(go_at_call_of 141 (Value.string ⟨#[40,41,124,58,46,43,45,42,47,61,60,62]⟩);refine(fc b[a] ⟨#[40,41,124,58,46,43,45,42,47,61,60,62]⟩ _ ak).mono ?_;rintro e i ⟨rfl,f⟩;rw[f];clear f)|(go_at_call_of 141 (Value.string ⟨#[33,60,62]⟩);refine(fc b[a] ⟨#[33,60,62]⟩ _ ak).mono ?_;rintro e i ⟨rfl,f⟩;rw[f];clear f))
            go_meet
            case rel=>exact⟨⟨_,rfl⟩,rfl⟩
          ·have hV:decide ((a:Int)+1<(aW b:Int))=false:=by simp;omega
           go_wp2_with(first|(go_at_call_of 141 (Value.string ⟨#[40,41,124,58,46,43,45,42,47,61,60,62]⟩);refine(fc b[a] ⟨#[40,41,124,58,46,43,45,42,47,61,60,62]⟩ _ ak).mono ?_;rintro e i ⟨rfl,f⟩;rw[f];clear f)|(go_at_call_of 141 (Value.string ⟨#[33,60,62]⟩);refine(fc b[a] ⟨#[33,60,62]⟩ _ ak).mono ?_;rintro e i ⟨rfl,f⟩;rw[f];clear f))
           go_meet
           case rel=>exact⟨⟨_,rfl⟩,rfl⟩
         case rest=>
          obtain⟨⟨qW,rfl⟩,A⟩:=hcut;rw[A];clear A;go_upto_region 18 with fail;generalize ih:da cQ b a=G at*;have k7:ag (da cQ b a=G):=ih;clear ih;go_wp2_with fail
          go_loopw [4] (λw J=>∃g v:Nat,g<=aW b/\a<=g/\w=O Q (g:Nat)/\da cQ b g=G/\kk (fS b a (g-a)) (g-a)/\J=bY (ar wr (.cells #[O Q 1,az ⟨#[]⟩,O Q (a:Nat),O Q (fS b a (g-a):Nat)] 150)) v) (λw _=>aW b-(bm w).toNat)
          case atStart=>exact⟨a,0,oH,aN _,rfl,k7.out,by simp[E5,kk.pe],by simp[E5];rfl⟩
          case round=>
           obtain⟨g,v,ra,lo,rfl,iR,mY,rfl⟩:=hrel;have H:ag (da cQ b g=G):=iR;have py:ag (kk (fS b a (g-a)) (g-a)):=mY;have ub:=mY.b0;clear iR mY;by_cases gL:g<aW b
           ·by_cases g1:48<=(dk b[g]:Int)/\(dk b[g]:Int)<=57
            ·obtain⟨gj,l8⟩:=g1;have iU:decide ((48:Int)<=(dk b[g]:Int))=true:=by simpa using gj
             have me:decide ((dk b[g]:Int)<=57)=true:=by simpa using l8
             have j4:ag (da cQ b (g+1)=G):=(oC cQ b g gL (by simp[cQ];omega)).trans H.out;by_cases s:g-a<9
             ·have hu:(g:Int)-(a:Int)<9:=by omega
              go_wp2_with fail
              go_region
              all_goals go_wp2_with fail
              go_roundw
              case rel=>exact⟨g+1,v+1,T,T,bE,j4.out,by rw[Gc _ _ _ lo gL s,show g+1-a=(g-a)+1 by omega];exact py.out.am s T,by rw[Gc _ _ _ lo gL s,show((10*fS b a (g-a)+(dk b[g]-48):Nat):Int)=10*(fS b a (g-a):Int)+((dk b[g]:Int)-48) by omega]⟩
              case measure=>simp[bm];omega
             ·have hu:¬(g:Int)-(a:Int)<9:=by omega
              go_wp2_with fail;go_roundw
              case rel=>exact⟨g+1,v,T,T,bE,j4.out,by rw[show g+1-a=(g-a)+1 by omega,D2 _ _ _ T];exact py.out.KJ T,by rw[show g+1-a=(g-a)+1 by omega,D2 _ _ _ T]⟩
              case measure=>simp[bm];omega
            ·have P:g=G:=by rw[<-H.out];exact(xX cQ b g gL (by simp[cQ];omega)).symm
             by_cases gj:48<=(dk b[g]:Int)
             ·have iU:decide ((48:Int)<=(dk b[g]:Int))=true:=by simpa using gj
              have me:decide ((dk b[g]:Int)<=57)=false:=b7;clear g1
              first|(exfalso;omega)|skip
              all_goals(subst P)
              all_goals(clear H)
              all_goals(rcases vC 9 (g-a)with s|s)
              all_goals first|(exfalso;omega)|skip
              all_goals first
               |(have i1:9<g-a:=s
                 have hu:(9:Int)<(g:Int)-(a:Int):=T
                 have t:ag (eR b j=(⟨4,⟨#[]⟩,a,fS b a (g-a)⟩,none)):=mO.out s
                 go_wp2_with(at_builtin;refine dq _ rfl _ _ 119 rfl 0 150 B _ 4 40 underlying119 C D E F rfl ak _ (M c) (bC bN.h c) bf (tK ((y.alloc _).alloc _) v) ⟨(S (R wr)+1),0,none⟩ 1 1 (bN.h ⟨4,⟨#[]⟩,a,fS b a (g-a)⟩) bf rfl (c4 (cB _ _ _ gx)) lU ak cN T (bL _) ((S (R wr)+1)+1) gx ?_;intro N o k m p r I)
                 go_ret
                 exact⟨_,rfl,uT l t.out (vL ((l.lk.alloc z _).alloc b7 _) v) b7 m p (by simpa using r)⟩)
               |(have i1:g-a<=9:=s
                 have hu:(g:Int)-(a:Int)<=9:=T
                 have t:ag (eR b j=(⟨1,b.extract a g,a,fS b a (g-a)⟩,some g)):=mR.out (zR.2 s)
                 go_wp2_with(at_builtin;refine dq _ rfl _ _ 119 rfl 0 150 B _ 4 40 underlying119 C D E F rfl ak _ (M c) (bC bN.h c) bf (tK ((y.alloc _).alloc _) v) ⟨(S (R wr)+1),0,none⟩ 1 1 (bN.h ⟨1,b.extract a g,a,fS b a (g-a)⟩) bf rfl (c4 (cB _ _ _ gx)) lU ak cN T (bL _) ((S (R wr)+1)+1) gx ?_;intro N o k m p r I)
                 go_roundw
                 ·exact q4 l t.out (vL ((l.lk.alloc z _).alloc b7 _) v) b7 m p (by simpa using r)
                 ·simp[bm];omega)
             ·have iU:decide ((48:Int)<=(dk b[g]:Int))=false:=by simp;omega
              clear g1
              first|(exfalso;omega)|skip
              all_goals(subst P)
              all_goals(clear H)
              all_goals(rcases vC 9 (g-a)with s|s)
              all_goals first|(exfalso;omega)|skip
              all_goals first
               |(have i1:9<g-a:=s
                 have hu:(9:Int)<(g:Int)-(a:Int):=T
                 have t:ag (eR b j=(⟨4,⟨#[]⟩,a,fS b a (g-a)⟩,none)):=mO.out s
                 go_wp2_with(at_builtin;refine dq _ rfl _ _ 119 rfl 0 150 B _ 4 40 underlying119 C D E F rfl ak _ (M c) (bC bN.h c) bf (tK ((y.alloc _).alloc _) v) ⟨(S (R wr)+1),0,none⟩ 1 1 (bN.h ⟨4,⟨#[]⟩,a,fS b a (g-a)⟩) bf rfl (c4 (cB _ _ _ gx)) lU ak cN T (bL _) ((S (R wr)+1)+1) gx ?_;intro N o k m p r I)
                 go_ret
                 exact⟨_,rfl,uT l t.out (vL ((l.lk.alloc z _).alloc b7 _) v) b7 m p (by simpa using r)⟩)
               |(have i1:g-a<=9:=s
                 have hu:(g:Int)-(a:Int)<=9:=T
                 have t:ag (eR b j=(⟨1,b.extract a g,a,fS b a (g-a)⟩,some g)):=mR.out (zR.2 s)
                 go_wp2_with(at_builtin;refine dq _ rfl _ _ 119 rfl 0 150 B _ 4 40 underlying119 C D E F rfl ak _ (M c) (bC bN.h c) bf (tK ((y.alloc _).alloc _) v) ⟨(S (R wr)+1),0,none⟩ 1 1 (bN.h ⟨1,b.extract a g,a,fS b a (g-a)⟩) bf rfl (c4 (cB _ _ _ gx)) lU ak cN T (bL _) ((S (R wr)+1)+1) gx ?_;intro N o k m p r I)
                 go_roundw
                 ·exact q4 l t.out (vL ((l.lk.alloc z _).alloc b7 _) v) b7 m p (by simpa using r)
                 ·simp[bm];omega)
           ·have P:g=G:=by rw[<-H.out];exact(xS cQ b g T).symm
            first|(exfalso;omega)|skip
            all_goals(subst P)
            all_goals(clear H)
            all_goals(rcases vC 9 (g-a)with s|s)
            all_goals first|(exfalso;omega)|skip
            all_goals first
             |(have i1:9<g-a:=s
               have hu:(9:Int)<(g:Int)-(a:Int):=T
               have t:ag (eR b j=(⟨4,⟨#[]⟩,a,fS b a (g-a)⟩,none)):=mO.out s
               go_wp2_with(at_builtin;refine dq _ rfl _ _ 119 rfl 0 150 B _ 4 40 underlying119 C D E F rfl ak _ (M c) (bC bN.h c) bf (tK ((y.alloc _).alloc _) v) ⟨(S (R wr)+1),0,none⟩ 1 1 (bN.h ⟨4,⟨#[]⟩,a,fS b a (g-a)⟩) bf rfl (c4 (cB _ _ _ gx)) lU ak cN T (bL _) ((S (R wr)+1)+1) gx ?_;intro N o k m p r I)
               go_ret
               exact⟨_,rfl,uT l t.out (vL ((l.lk.alloc z _).alloc b7 _) v) b7 m p (by simpa using r)⟩)
             |(have i1:g-a<=9:=s
               have hu:(g:Int)-(a:Int)<=9:=T
               have t:ag (eR b j=(⟨1,b.extract a g,a,fS b a (g-a)⟩,some g)):=mR.out (zR.2 s)
               go_wp2_with(at_builtin;refine dq _ rfl _ _ 119 rfl 0 150 B _ 4 40 underlying119 C D E F rfl ak _ (M c) (bC bN.h c) bf (tK ((y.alloc _).alloc _) v) ⟨(S (R wr)+1),0,none⟩ 1 1 (bN.h ⟨1,b.extract a g,a,fS b a (g-a)⟩) bf rfl (c4 (cB _ _ _ gx)) lU ak cN T (bL _) ((S (R wr)+1)+1) gx ?_;intro N o k m p r I)
               go_roundw
               ·exact q4 l t.out (vL ((l.lk.alloc z _).alloc b7 _) v) b7 m p (by simpa using r)
               ·simp[bm];omega)
       ·have m5:ag (cQ b[a]=false):=by show _=_;simp[cQ];omega
        as_aux_lemma=>
         go_upto_region 9 with fail
         go_cut [7]from 11 to 88 (λd J=>d=.bool false/\J=ar wr (.cells #[O Q 0,az ⟨#[]⟩,O Q (a:Nat),O Q 0] 150))
         case first=>
          by_cases ne:97<=(dk b[a]:Int)
          ·have hS:decide ((97:Int)<=(dk b[a]:Int))=true:=by simpa using ne
           have o6:decide ((dk b[a]:Int)<=122)=false:=b7;clear hE i0;go_wp2_with(first|(go_at_call_of 141 (Value.string ⟨#[40,41,124,58,46,43,45,42,47,61,60,62]⟩);refine(fc b[a] ⟨#[40,41,124,58,46,43,45,42,47,61,60,62]⟩ _ ak).mono ?_;rintro e i ⟨rfl,f⟩;rw[f];clear f)|(go_at_call_of 141 (Value.string ⟨#[33,60,62]⟩);refine(fc b[a] ⟨#[33,60,62]⟩ _ ak).mono ?_;rintro e i ⟨rfl,f⟩;rw[f];clear f))
           go_meet
           case rel=>exact⟨rfl,rfl⟩
          ·have hS:decide ((97:Int)<=(dk b[a]:Int))=false:=by simp;omega
           clear hE i0;go_wp2_with(first|(go_at_call_of 141 (Value.string ⟨#[40,41,124,58,46,43,45,42,47,61,60,62]⟩);refine(fc b[a] ⟨#[40,41,124,58,46,43,45,42,47,61,60,62]⟩ _ ak).mono ?_;rintro e i ⟨rfl,f⟩;rw[f];clear f)|(go_at_call_of 141 (Value.string ⟨#[33,60,62]⟩);refine(fc b[a] ⟨#[33,60,62]⟩ _ ak).mono ?_;rintro e i ⟨rfl,f⟩;rw[f];clear f))
           go_meet
           case rel=>exact⟨rfl,rfl⟩
         case rest=>
          obtain⟨rfl,A⟩:=hcut;rw[A];clear A;go_upto_region 10 with fail
          go_cut [8]from 11 to 88 (λd J=>d=.bool false/\J=ar wr (.cells #[O Q 0,az ⟨#[]⟩,O Q (a:Nat),O Q 0] 150))
          case first=>
           by_cases ne:48<=(dk b[a]:Int)
           ·have hS:decide ((48:Int)<=(dk b[a]:Int))=true:=by simpa using ne
            have o6:decide ((dk b[a]:Int)<=57)=false:=b7;clear hE i0;go_wp2_with(first|(go_at_call_of 141 (Value.string ⟨#[40,41,124,58,46,43,45,42,47,61,60,62]⟩);refine(fc b[a] ⟨#[40,41,124,58,46,43,45,42,47,61,60,62]⟩ _ ak).mono ?_;rintro e i ⟨rfl,f⟩;rw[f];clear f)|(go_at_call_of 141 (Value.string ⟨#[33,60,62]⟩);refine(fc b[a] ⟨#[33,60,62]⟩ _ ak).mono ?_;rintro e i ⟨rfl,f⟩;rw[f];clear f))
            go_meet
            case rel=>exact⟨rfl,rfl⟩
           ·have hS:decide ((48:Int)<=(dk b[a]:Int))=false:=by simp;omega
            clear hE i0;go_wp2_with(first|(go_at_call_of 141 (Value.string ⟨#[40,41,124,58,46,43,45,42,47,61,60,62]⟩);refine(fc b[a] ⟨#[40,41,124,58,46,43,45,42,47,61,60,62]⟩ _ ak).mono ?_;rintro e i ⟨rfl,f⟩;rw[f];clear f)|(go_at_call_of 141 (Value.string ⟨#[33,60,62]⟩);refine(fc b[a] ⟨#[33,60,62]⟩ _ ak).mono ?_;rintro e i ⟨rfl,f⟩;rw[f];clear f))
            go_meet
            case rel=>exact⟨rfl,rfl⟩
          case rest=>
           obtain⟨rfl,A⟩:=hcut;rw[A];clear A;go_upto_region 12 with(first|(go_at_call_of 141 (az ⟨#[40,41,124,58,46,43,45,42,47,61,60,62]⟩);refine(fc b[a] ⟨#[40,41,124,58,46,43,45,42,47,61,60,62]⟩ _ ak).mono ?_;rintro e i ⟨rfl,f⟩;rw[f];clear f)|(go_at_call_of 141 (Value.string ⟨#[33,60,62]⟩);refine(fc b[a] ⟨#[33,60,62]⟩ _ ak).mono ?_;rintro e i ⟨rfl,f⟩;rw[f];clear f))
           go_cut [10]from 11 to 88 (λd J=>d=.bool (j5 b a)/\J=ar wr (.cells #[O Q 0,az ⟨#[]⟩,O Q (a:Nat),O Q 0] 150))
           case first=>
            by_cases gF:a+1<aW b
            ·have hV:decide ((a:Int)+1<(aW b:Int))=true:=by simp;omega
             have pa:(a:Int)+1<(aW b:Int):=T;by_cases u:b[a+1]=61
             ·have hZ:((dk b[a+1]:Int)==61)=true:=by simp[u]
              have gC:ag (j5 b a=fI b[a] [33,60,62]):=by show _=_;unfold j5;rw[k0 b a x,k0 b (a+1) gF];simp[gF,u]
              clear u;go_wp2_with(first|(go_at_call_of 141 (az ⟨#[40,41,124,58,46,43,45,42,47,61,60,62]⟩);refine(fc b[a] ⟨#[40,41,124,58,46,43,45,42,47,61,60,62]⟩ _ ak).mono ?_;rintro e i ⟨rfl,f⟩;rw[f];clear f)|(go_at_call_of 141 (az ⟨#[33,60,62]⟩);refine(fc b[a] ⟨#[33,60,62]⟩ _ ak).mono ?_;rintro e i ⟨rfl,f⟩;rw[f];clear f))
              go_meet
              case rel=>exact⟨by rw[gC.out],rfl⟩
             ·have hZ:((dk b[a+1]:Int)==61)=false:=by rw[di];intro h;exact u (qV.1 (by exact_mod_cast h))
              have gC:ag (j5 b a=false):=by show _=_;unfold j5;rw[k0 b (a+1) gF];simp[u]
              clear u;go_wp2_with(first|(go_at_call_of 141 (Value.string ⟨#[40,41,124,58,46,43,45,42,47,61,60,62]⟩);refine(fc b[a] ⟨#[40,41,124,58,46,43,45,42,47,61,60,62]⟩ _ ak).mono ?_;rintro e i ⟨rfl,f⟩;rw[f];clear f)|(go_at_call_of 141 (Value.string ⟨#[33,60,62]⟩);refine(fc b[a] ⟨#[33,60,62]⟩ _ ak).mono ?_;rintro e i ⟨rfl,f⟩;rw[f];clear f))
              go_meet
              case rel=>exact⟨by rw[gC.out],rfl⟩
            ·have hV:decide ((a:Int)+1<(aW b:Int))=false:=by simp;omega
             have gC:ag (j5 b a=false):=by show _=_;unfold j5;simp[gF]
             go_wp2_with(first|(go_at_call_of 141 (Value.string ⟨#[40,41,124,58,46,43,45,42,47,61,60,62]⟩);refine(fc b[a] ⟨#[40,41,124,58,46,43,45,42,47,61,60,62]⟩ _ ak).mono ?_;rintro e i ⟨rfl,f⟩;rw[f];clear f)|(go_at_call_of 141 (Value.string ⟨#[33,60,62]⟩);refine(fc b[a] ⟨#[33,60,62]⟩ _ ak).mono ?_;rintro e i ⟨rfl,f⟩;rw[f];clear f))
             go_meet
             case rel=>exact⟨by rw[gC.out],rfl⟩
           case rest=>
            obtain⟨rfl,A⟩:=hcut;rw[A];clear A K gg;cases i2:j5 b a with
            |true=>
             have gF:a+1<aW b:=by unfold j5 at i2;simp only[hh,jF]at i2;exact i2.1.1
             have t:ag (eR b j=(⟨2,b.extract a (a+2),a,0⟩,some (a+2))):=by show _=_;unfold eR;simp only;rw[gf.out,aH T,k0 b a x,aH (by rw[iZ.out];decide),aH (by rw[m5.out];decide),aP i2]
             go_wp2_with(first|(first|(go_at_call_of 141 (Value.string ⟨#[40,41,124,58,46,43,45,42,47,61,60,62]⟩);refine(fc b[a] ⟨#[40,41,124,58,46,43,45,42,47,61,60,62]⟩ _ ak).mono ?_;rintro e i ⟨rfl,f⟩;rw[f];clear f)|(go_at_call_of 141 (Value.string ⟨#[33,60,62]⟩);refine(fc b[a] ⟨#[33,60,62]⟩ _ ak).mono ?_;rintro e i ⟨rfl,f⟩;rw[f];clear f))|(at_builtin;refine dq _ rfl _ _ 119 rfl 0 150 B _ 4 40 underlying119 C D E F rfl ak _ (M c) (bC bN.h c) bf ((y.alloc _).alloc _) ⟨(S (R wr)+1),0,none⟩ 1 1 (bN.h ⟨2,b.extract a (a+2),a,0⟩) bf rfl (c4 (cB _ _ _ gx)) lU ak cN T (bL _) ((S (R wr)+1)+1) gx ?_;intro N o k m p r I));go_roundw
             case rel=>exact q4 l t.out ((l.lk.alloc z _).alloc b7 _) b7 m p (by simpa using r)
             case measure=>simp[bm];omega
            |false=>
             have gC:ag (j5 b a=false):=i2;cases pF:fI b[a] [40,41,124,58,46,43,45,42,47,61,60,62]with
             |true=>
              have nB:ag (nX b a=true):=by show _=_;unfold nX;rw[k0 b a x];exact pF
              have t:ag (eR b j=(⟨2,b.extract a (a+1),a,0⟩,some (a+1))):=by show _=_;unfold eR;simp only;rw[gf.out,aH T,k0 b a x,aH (by rw[iZ.out];decide),aH (by rw[m5.out];decide),aH (by rw[gC.out];decide),aP nB.out]
              go_wp2_with(first|(first|(go_at_call_of 141 (Value.string ⟨#[40,41,124,58,46,43,45,42,47,61,60,62]⟩);refine(fc b[a] ⟨#[40,41,124,58,46,43,45,42,47,61,60,62]⟩ _ ak).mono ?_;rintro e i ⟨rfl,f⟩;rw[f];clear f)|(go_at_call_of 141 (Value.string ⟨#[33,60,62]⟩);refine(fc b[a] ⟨#[33,60,62]⟩ _ ak).mono ?_;rintro e i ⟨rfl,f⟩;rw[f];clear f))|(at_builtin;refine dq _ rfl _ _ 119 rfl 0 150 B _ 4 40 underlying119 C D E F rfl ak _ (M c) (bC bN.h c) bf ((y.alloc _).alloc _) ⟨(S (R wr)+1),0,none⟩ 1 1 (bN.h ⟨2,b.extract a (a+1),a,0⟩) bf rfl (c4 (cB _ _ _ gx)) lU ak cN T (bL _) ((S (R wr)+1)+1) gx ?_;intro N o k m p r I));go_roundw
              case rel=>exact q4 l t.out ((l.lk.alloc z _).alloc b7 _) b7 m p (by simpa using r)
              case measure=>simp[bm];omega
             |false=>
              have nB:ag (nX b a=false):=by show _=_;unfold nX;rw[k0 b a x];exact pF
              have t:ag (eR b j=(⟨4,⟨#[]⟩,a,0⟩,none)):=by show _=_;unfold eR;simp only;rw[gf.out,aH T,k0 b a x,aH (by rw[iZ.out];decide),aH (by rw[m5.out];decide),aH (by rw[gC.out];decide),aH (by rw[nB.out];decide)]
              go_wp2_with(first|(first|(go_at_call_of 141 (Value.string ⟨#[40,41,124,58,46,43,45,42,47,61,60,62]⟩);refine(fc b[a] ⟨#[40,41,124,58,46,43,45,42,47,61,60,62]⟩ _ ak).mono ?_;rintro e i ⟨rfl,f⟩;rw[f];clear f)|(go_at_call_of 141 (Value.string ⟨#[33,60,62]⟩);refine(fc b[a] ⟨#[33,60,62]⟩ _ ak).mono ?_;rintro e i ⟨rfl,f⟩;rw[f];clear f))|(at_builtin;refine dq _ rfl _ _ 119 rfl 0 150 B _ 4 40 underlying119 C D E F rfl ak _ (M c) (bC bN.h c) bf ((y.alloc _).alloc _) ⟨(S (R wr)+1),0,none⟩ 1 1 (bN.h ⟨4,⟨#[]⟩,a,0⟩) bf rfl (c4 (cB _ _ _ gx)) lU ak cN T (bL _) ((S (R wr)+1)+1) gx ?_;intro N o k m p r I));go_ret;exact⟨_,rfl,uT l t.out ((l.lk.alloc z _).alloc b7 _) b7 m p (by simpa using r)⟩
   ·have rA:a=aW b:=by omega
    subst rA;have jW:aW b=gE:=by rw[<-jt.out];exact(xS fs b (aW b) (aN _)).symm
    have t:ag (eR b j=(⟨3,⟨#[]⟩,aW b,0⟩,none)):=by show _=_;unfold eR;simp only;rw[gf.out,<-jW,aP (aN _)]
    subst jW;have y:=l.bg;have z:=l.lk.size;go_wp2_with(at_builtin;refine dq _ rfl _ _ 119 rfl 0 150 B _ 4 40 underlying119 C D E F rfl ak _ (M c) (bC bN.h c) bf (y.alloc _) ⟨S (R wr),0,none⟩ 1 1 (bN.h ⟨3,⟨#[]⟩,aW b,0⟩) bf rfl (c4 (cB _ _ _ gx)) lU ak cN T (bL _) (S (R wr)+1) gx ?_;intro N o k m p r I);go_ret;exact⟨_,rfl,uT l t.out (l.lk.alloc z _) b7 m p (by simpa using r)⟩
