import Derived.Test.YtddbjcfdmdbmkaaGreatDoorB40
set_option linter.all false
set_option maxRecDepth 100000
set_option maxHeartbeats 6400000
namespace Go.Proofs.YtddbjcfdmdbmkaaGreatDoor
open Go.RowKit Go.Proofs.Tryz
open Go renaming Calls->aR,World->aq
open Go.Ending renaming returned->aM
open Go.IntKind renaming i64->Q
open Go.RowKit renaming Below->aF,intOf->bm
open Go.Value renaming int->O,string->az,tuple->b2
open _root_.ByteArray renaming size->aW,toList->aJ
open Go.World renaming cell?->aK
open List renaming length->M
variable{b:ByteArray}{r a k o:Nat}{d:bN}{c:List bN}{j:Nat->Nat}{L:aq}{q:List kB}
theorem KA(b:ByteArray)(L:aq):
 aR prog 18 #[az b] L λe i=>e=aM (b2 #[az (lZ b).1,O Q (lZ b).2.1,O Q (lZ b).2.2])/\aF L.heap.size L i:=by
 have j:=wl b L;cases a:ec b with
 |inr d=>obtain⟨f,c⟩:=d;have k:=(wd b).2 f c a;have m:((c:Int)!=0)=true:=b7;have l:Hid (ec b=.inr (f,c)):=a;rw[Ds a];clear k a;go_enter func18,ntmps18;go_wp2_with fail;refine j.mono ?_;rintro e o ⟨p,rfl,g,h⟩;rw[l.out]at h;obtain⟨q,rfl⟩:=h;unfold d4;go_wp2;exact dG (v:=b2 #[az ⟨#[]⟩,O Q f,O Q c]) (by simp[results,results18,go_sem]) rfl ⟨rfl,g.alloc g.size _⟩
 |inl d=>obtain⟨r,s,t⟩:=d;exact JW a L
theorem I9:∀(c:List UInt8) (a:Nat),c.foldl (λd b=>10*d+(b.toNat-48)) a+23<=(a+23)*10^(M c):=by
 intro c
 induction c with
 |nil=>intro a;simp
 |cons b c e=>intro a;rw[hc];refine bS (e _) ?_;have f:b.toNat<256:=b.toNat_lt;rw[dT,vy,Gf (10^(M c)) 10,<-Nat.mul_assoc];exact qj _ T
theorem LW(c:List UInt8):rJ c<=100000000000:=by unfold rJ;have h:=I9 (c.take 9) 0;have a:10^(M (c.take 9))<=10^9:=sc ak (by rw[hT];omega);have b:(0+23)*10^(M (c.take 9))<=23*10^9:=zk _ a;omega
theorem CQ{a:Option Nat}(h:eR b r=(d,a)):d.n<=100000000000:=by
 unfold eR at h;simp only at h;generalize da fs b r=e at*
 repeat' split at h
 all_goals(injection h with c f;rw[<-c])
 all_goals first
  |exact bL _
  |exact LW _
theorem N0(h:k2 b r c):∀d∈c,d.n<=100000000000:=by
 induction h with
 |oF h=>intro d a;rw[dB.1 a];exact CQ h
 |f9 h _ e=>
  intro d a;rcases ek.1 a with rfl|a
  ·exact CQ h
  ·exact e d a
theorem Pq{f:Nat}{b:eU}{c:au}(h:bQ j L f b c)(a:Nat)(i:a<M c.aT):
 (aK L) ⟨b.dF,a*4,none⟩=some (O Q c.aT[a].ao)/\aK L ⟨b.dF,a*4+1,none⟩=some (az c.aT[a].a8)/\aK L ⟨b.dF,a*4+2,none⟩=some (O Q c.aT[a].a1)/\aK L ⟨b.dF,a*4+3,none⟩=some (O Q c.aT[a].n):=by
 have ba:∀d,d<4->∀e,(bN.h c.aT[a])[d]?=some e->aK L ⟨b.dF,a*4+d,none⟩=some e:=by intro d k e l;have:=h.aT.cells (g:=b.dF) rfl (a*4+d) e (by rw[i5 bN.h 4 (λ_=>rfl) _ _ _ i k];exact l);have m:(⟨b.dF,0,none⟩:Addr).add (a*4+d)=⟨b.dF,a*4+d,none⟩:=l0;rw[m]at this;exact this
 exact⟨ba 0 ak _ rfl,ba 1 ak _ rfl,ba 2 ak _ rfl,ba 3 ak _ rfl⟩
def p2(e:ByteArray):Bool:=(aJ e==[58])||(aJ e==[46])
theorem xe(a:ByteArray):((aJ a==[58])=true/\p2 a=true)\/((aJ a==[58])=false/\(aJ a==[46])=true/\p2 a=true)\/((aJ a==[58])=false/\(aJ a==[46])=false/\p2 a=false):=by unfold p2;cases(aJ a==[58])<;>cases(aJ a==[46])<;>simp
theorem E9{a:ByteArray}(h:a.data.toList=hG d):qv d=p2 a:=by unfold qv p2;rw[fW,h]
theorem OY(h:a+1<M c)(b:Bool):qU b (c.drop a)=(if b||qv c[a]then []else [32])++(hG c[a]++qU (qv c[a]) (c.drop (a+1))):=by rw[ku (show a<M c by omega),ku h];rfl
theorem N3(h:¬a+1<M c)(d:Bool):qU d (c.drop a)=[]:=by
 have b:M (c.drop a)<=1:=by rw[la];omega
 match e:c.drop a with
 |[]=>rfl
 |[_]=>rfl
 |_::_::_=>rw[e]at b;simp at b
theorem O1:p2 ⟨#[58]⟩=true:=by unfold p2;rw[fW];rfl
theorem JB{tG:List UInt8}{i2:it}{jt:Nat}{jW:List (List aB)}(gE:∀L,aR prog 39 #[az b] L λe J=>∃K,e=aM K/\Bf b L i2 jt jW K J)(gF:∀c:List bN,k2 b 0 c->(∀gL,fh b=gL->fg gL c)->qU true c=tG/\M tG<=1000000/\M c<=601)(L:aq):
 aR prog 43 #[az b] L λe J=>e=aM (b2 #[az ⟨tG.toArray⟩,O Q 0,O Q 0])/\aF L.heap.size L J:=by
 have g1:=gE L;go_enter func43,ntmps43;go_wp2_with fail;refine g1.mono ?_;rintro e F ⟨K,rfl,hu,j4,j9,mn,mO,j,x,mR,o,mY,rfl,m5,P,z,_,_,_,G⟩;obtain⟨hE,ne,nB⟩:=gF o.aT G.vn G.g2;have gf:=N0 G.vn;have kp:=P.am;have kr:=z.ax.am;have A:=(z.aT.lt x.dF rfl).2;have hS:=O1;clear gE gF g1 G;go_wp2_with fail
 go_loopw [8,9,10] (λB kx gg wr=>∃(a:Nat) (C:ByteArray) (f:List UInt8),a<M o.aT+1/\gg=O Q a/\kx=az C/\B=az ⟨f.toArray⟩/\f++qU (p2 C) (o.aT.drop a)=tG/\aF F.heap.size F wr) (λ_ _ gg _=>M o.aT-(bm gg).toNat)
 case atStart=>exact⟨0,_,[],T,rfl,rfl,rfl,by rw[hS];exact hE,ca _ _⟩
 case round=>
  obtain⟨a,C,f,nG,rfl,rfl,rfl,h,q⟩:=hrel;clear hE hS;have hV:=P.d (q.block j4 kp);have hZ:=z.ax.d (q.block j9 kr);have k1:=hV.aa 0;have k7:=hZ.aa 0;have oa:=hV.am;have ob:=hZ.am;simp[ik]at k1;simp[cp]at k7;by_cases ih:a+1<M o.aT
  ·obtain⟨iR,iU,iZ,i0⟩:=Pq z a T;have oH:=(q.cell (p:=⟨x.dF,a*4,none⟩) A).trans iR;have lo:=(q.cell (p:=⟨x.dF,a*4+1,none⟩) A).trans iU;have oS:=(q.cell (p:=⟨x.dF,a*4+2,none⟩) A).trans iZ;have o6:=(q.cell (p:=⟨x.dF,a*4+3,none⟩) A).trans i0;have pa:x.dF<wr.heap.size:=cI A q.size;rw[OY ih]at h;have py:=gf o.aT[a] (b4 _);generalize o.aT[a]=d at*;have l8:(a:Int)+1<(M o.aT:Int):=T;have pF:(a:Int)<(M o.aT:Int):=T;have pR:(0:Int)<=(a:Int):=T;have pU:M f+1+M (hG d)<=2000000:=by have:=congrArg M h;simp only[bV]at this;omega
   clear iR iU iZ i0 gf P z;have r:∀B,aF F.heap.size F (wr.alloc B):=λB=>q.alloc q.size B
   by_cases H:d.ao=1
   ·have i1:(d.ao:Int)=1:=by omega
    obtain⟨g,w⟩:∃g:ByteArray,g=⟨(lR d.n).toArray⟩:=⟨_,rfl⟩;have l:g.data.toList=hG d:=by rw[w];unfold hG;rw[aP H]
    have y:=λL=>Np d.n T L
    rw[<-w]at y;have i:=E9 l;have me:aW g=M (hG d):=by rw[<-l];simp
    generalize(d.ao:Int)=pX at*;subst i1;clear w H;rcases xe C with⟨D,m⟩|⟨D,gj,m⟩|⟨D,gj,m⟩
    ·rw[m,zr,aP rfl,fa]at h;have s:¬9223372036854775807<M f+aW g:=T;have t:¬9223372036854775807<M f+1:=T;have u:¬9223372036854775807<M f+1+aW g:=T;go_wp2_with(go_at_call 68;refine(y _).mono ?_;rintro e I ⟨rfl,rfl⟩);go_roundw
     case rel=>exact⟨a+1,g,f++hG d,T,bE,rfl,by congr 1;apply k_;simp[<-l],by rw[<-h,i];simp,r _⟩
     case measure=>simp[bm];omega
    ·rw[m,zr,aP rfl,fa]at h;have s:¬9223372036854775807<M f+aW g:=T;have t:¬9223372036854775807<M f+1:=T;have u:¬9223372036854775807<M f+1+aW g:=T;go_wp2_with(go_at_call 68;refine(y _).mono ?_;rintro e I ⟨rfl,rfl⟩);go_roundw
     case rel=>exact⟨a+1,g,f++hG d,T,bE,rfl,by congr 1;apply k_;simp[<-l],by rw[<-h,i];simp,r _⟩
     case measure=>simp[bm];omega
    ·rcases xe g with⟨E,k⟩|⟨E,gC,k⟩|⟨E,gC,k⟩
     ·rw[m,i,k,za,aP rfl,fa]at h;have s:¬9223372036854775807<M f+aW g:=T;have t:¬9223372036854775807<M f+1:=T;have u:¬9223372036854775807<M f+1+aW g:=T;go_wp2_with(go_at_call 68;refine(y _).mono ?_;rintro e I ⟨rfl,rfl⟩);go_roundw
      case rel=>exact⟨a+1,g,f++hG d,T,bE,rfl,by congr 1;apply k_;simp[<-l],by rw[<-h];simp[i,k],r _⟩
      case measure=>simp[bm];omega
     ·rw[m,i,k,za,aP rfl,fa]at h;have s:¬9223372036854775807<M f+aW g:=T;have t:¬9223372036854775807<M f+1:=T;have u:¬9223372036854775807<M f+1+aW g:=T;go_wp2_with(go_at_call 68;refine(y _).mono ?_;rintro e I ⟨rfl,rfl⟩);go_roundw
      case rel=>exact⟨a+1,g,f++hG d,T,bE,rfl,by congr 1;apply k_;simp[<-l],by rw[<-h];simp[i,k],r _⟩
      case measure=>simp[bm];omega
     ·rw[m,i,k,oZ,aH ak]at h;have s:¬9223372036854775807<M f+aW g:=T;have t:¬9223372036854775807<M f+1:=T;have u:¬9223372036854775807<M f+1+aW g:=T;go_wp2_with(go_at_call 68;refine(y _).mono ?_;rintro e I ⟨rfl,rfl⟩);go_roundw
      case rel=>exact⟨a+1,g,f++[32]++hG d,T,bE,rfl,by congr 1;apply k_;simp[<-l],by rw[<-h];simp[i,k],r _⟩
      case measure=>simp[bm];omega
   ·have i1:¬(d.ao:Int)=1:=by omega
    obtain⟨g,w⟩:∃g:ByteArray,g=d.a8:=⟨_,rfl⟩;have l:g.data.toList=hG d:=by rw[w];unfold hG;rw[aH H]
    have i:=E9 l;have me:aW g=M (hG d):=by rw[<-l];simp
    rw[<-w]at lo;clear w H;rcases xe C with⟨D,m⟩|⟨D,gj,m⟩|⟨D,gj,m⟩
    ·rw[m,zr,aP rfl,fa]at h;have s:¬9223372036854775807<M f+aW g:=T;have t:¬9223372036854775807<M f+1:=T;have u:¬9223372036854775807<M f+1+aW g:=T;go_wp2_with fail;go_roundw
     case rel=>exact⟨a+1,g,f++hG d,T,bE,rfl,by congr 1;apply k_;simp[<-l],by rw[<-h,i];simp,r _⟩
     case measure=>simp[bm];omega
    ·rw[m,zr,aP rfl,fa]at h;have s:¬9223372036854775807<M f+aW g:=T;have t:¬9223372036854775807<M f+1:=T;have u:¬9223372036854775807<M f+1+aW g:=T;go_wp2_with fail;go_roundw
     case rel=>exact⟨a+1,g,f++hG d,T,bE,rfl,by congr 1;apply k_;simp[<-l],by rw[<-h,i];simp,r _⟩
     case measure=>simp[bm];omega
    ·rcases xe g with⟨E,k⟩|⟨E,gC,k⟩|⟨E,gC,k⟩
     ·rw[m,i,k,za,aP rfl,fa]at h;have s:¬9223372036854775807<M f+aW g:=T;have t:¬9223372036854775807<M f+1:=T;have u:¬9223372036854775807<M f+1+aW g:=T;go_wp2_with fail;go_roundw
      case rel=>exact⟨a+1,g,f++hG d,T,bE,rfl,by congr 1;apply k_;simp[<-l],by rw[<-h];simp[i,k],r _⟩
      case measure=>simp[bm];omega
     ·rw[m,i,k,za,aP rfl,fa]at h;have s:¬9223372036854775807<M f+aW g:=T;have t:¬9223372036854775807<M f+1:=T;have u:¬9223372036854775807<M f+1+aW g:=T;go_wp2_with fail;go_roundw
      case rel=>exact⟨a+1,g,f++hG d,T,bE,rfl,by congr 1;apply k_;simp[<-l],by rw[<-h];simp[i,k],r _⟩
      case measure=>simp[bm];omega
     ·rw[m,i,k,oZ,aH ak]at h;have s:¬9223372036854775807<M f+aW g:=T;have t:¬9223372036854775807<M f+1:=T;have u:¬9223372036854775807<M f+1+aW g:=T;go_wp2_with fail;go_roundw
      case rel=>exact⟨a+1,g,f++[32]++hG d,T,bE,rfl,by congr 1;apply k_;simp[<-l],by rw[<-h];simp[i,k],r _⟩
      case measure=>simp[bm];omega
  ·rw[N3 ih,jN]at h;have l8:(M o.aT:Int)<=(a:Int)+1:=T;clear gf;go_wp2_with fail;exact dG (v:=b2 #[az ⟨tG.toArray⟩,O Q 0,O Q 0]) (by simp[results,results43,go_sem,h]) rfl ⟨rfl,hu.trans (q.mono hu.size)⟩
theorem L0(a:Int)(L:aq):aR prog 40 #[O Q a] L λe b=>e=aM (O Q a)/\b=L:=by go_enter func40,ntmps40;go_wp2;go_ret;exact⟨rfl,rfl⟩
theorem Rl(b:ByteArray)(L:aq):
 aR prog 43 #[az b] L λe l=>e=aM (b2 #[az (lZ b).1,O Q (lZ b).2.1,O Q (lZ b).2.2])/\aF L.heap.size L l:=by
 cases a:ec b with
 |inr g=>obtain⟨j,h⟩:=g;have m:=(wd b).2 j h a;have u:((h:Int)!=0)=true:=b7;have k:=C_ b L;rw[a]at k;rw[Ds a];clear m a;go_enter func43,ntmps43;go_wp2_with fail;refine k.mono ?_;rintro e w ⟨x,rfl,o,rfl⟩;go_wp2;exact dG (v:=b2 #[az ⟨#[]⟩,O Q j,O Q h]) (by simp[results,results43,go_sem]) rfl ⟨rfl,o⟩
 |inl g=>
  obtain⟨y,z,A⟩:=g;obtain⟨d,f⟩:∃d,fh b=d:=⟨_,rfl⟩;have i:aW b<=600:=by
   by_cases i:600<aW b
   ·rw[ym f,aP i]at a;cases a
   ·omega
  obtain⟨p,B⟩:=ES rfl f i;have q:=Tk f a;rw[EF f a];refine JB (tG:=iK true d) (λL=>Fm a L) (λc r s=>?_) L;obtain⟨t,C⟩:=HQ d c 0 true (s d f) q r;exact⟨t,p,T⟩
theorem Lt(b:ByteArray)(L:aq):aR prog 19 #[az b] L λe h=>e=aM (.bool true)/\aF L.heap.size L h:=by
 have c:=KA b L;have d:=λa=>Rl b a
 generalize lZ b=i at*;obtain⟨m,o,j⟩:=i;simp only at c d;have k:=λa=>L0 (j:Nat) a
 go_enter func19,ntmps19;go_wp2_with(first|(go_at_call 18;refine c.mono ?_;rintro f a ⟨rfl,g⟩)|(go_at_call 43;refine(d _).mono ?_;rintro f p ⟨rfl,l⟩)|(go_at_call 40;refine(k _).mono ?_;rintro f q ⟨rfl,rfl⟩))
 go_ret;exact⟨rfl,g.trans (l.mono g.size)⟩
theorem SU(h:dx j L k q o)(l:o+1<=2000000)(a:ip)(d:a.ao=5):
 aR prog 45 #[.pointer (some ⟨k,0,none⟩),hH a] L λm g=>m=aM (.bool true)/\dx j g k q (o+1)/\bt (λe=>e≠0) j L j g:=by
 have i:aF L.heap.size L (L.alloc (.cells (fK a) 89)):=(ca _ L).alloc (aN _) _;have f:=aL.bT L (fK a) 89;have p:Hid (∀b,aF L.heap.size L b->dx j b k q (o+1)/\bt (λe=>e≠0) j L j b):=λb c=>⟨h.bI c T l,bt.bI c⟩
 have r:Hid (a.ao=5):=d;clear h d;unfold hH;unfold fK at*;go_enter func45,ntmps45;go_upto_region 1 with fail;generalize(L.alloc (.cells #[O Q a.ao,O Q a.ef,az a.a8,O Q a.a6.aS,O Q a.a6.ao,O Q a.a6.bj,O Q a.a6.X,O Q a.a6.aE] 89))=s at*;have d:=r.out;have t:=f.aa 0;have u:=f.aa 2;have w:=f.am;simp at t u;have v:=Lt a.a8 s;go_wp2_with(first|(go_at_call 19;refine v.mono ?_;rintro x y ⟨rfl,c⟩))
 go_ret;exact⟨rfl,p.out _ (i.trans (c.mono i.size))⟩
theorem MW(h:dx j L k q o)(d:o+1<=2000000)(b:ip)(i:c1 b.ef)(l:c1 b.a6.aS):
 aR prog 45 #[.pointer (some ⟨k,0,none⟩),hH b] L λe c=>e=aM (.bool true)/\∃f m,dx f c k m (o+1)/\bt (λp=>p≠0) j L f c:=by
 by_cases g:b.ao=5
 ·exact(SU h d b g).mono λe c a=>⟨a.1,j,q,a.2⟩
 ·exact Ew h d b g i l
theorem LF{a:Value}{b:List ip}(d:x_ L a b)(e:M b<=900000):aR prog 6 #[a] L λc f=>c=aM (.bool true)/\aF L.heap.size L f:=by have h:=FO d e 5 (λh g i _ j k=>MW h g i j k);go_enter func6,ntmps6;go_wp2_with(go_at_call 20;refine h.mono ?_;rintro c m ⟨rfl,l⟩);go_ret;exact⟨rfl,l⟩
