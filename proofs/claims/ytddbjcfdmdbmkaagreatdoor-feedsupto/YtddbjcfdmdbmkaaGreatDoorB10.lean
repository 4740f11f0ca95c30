import Derived.Test.YtddbjcfdmdbmkaaGreatDoorB06
import Derived.Test.YtddbjcfdmdbmkaaGreatDoorB07
import Derived.Deep.RegionWith
import Derived.Lib.SmallJoins
set_option linter.all false
set_option maxRecDepth 100000
set_option maxHeartbeats 8000000
namespace Go.Proofs.YtddbjcfdmdbmkaaGreatDoor
open Go.RowKit Go.Proofs.Tryz
open Go renaming Calls->aR,World->aq
open Go.Ending renaming returned->aM
open Go.IntKind renaming i64->Q
open Go.Obj renaming cells->aw
open Go.RowKit renaming Below->aF,Hid->ag
open Go.Value renaming agg->dA,bool->cK,int->O,pointer->aD,slice->U,string->az,tuple->b2
open _root_.Array renaming size->S
open _root_.ByteArray renaming size->aW,toList->aJ
open Go.World renaming alloc->ar,heap->R,setCell->ay
open List renaming length->M
open _root_.UInt8 renaming toNat->dk
variable{k a q:ByteArray}{u x j N w:Nat}{L cn b:aq}{o:Nat->Nat}{r:lP}{V:aA}{y:TypeId}{d:List ByteArray}
theorem Jz(a:ByteArray)(L:aq)(d:aW a<=1000000):
 aR prog 128 #[az a] L λe b=>e=aM (b2 #[O Q (lA a).1,O Q (lA a).2])/\b=L:=by
 have h:=vY cQ a;by_cases f:9<cT cQ a
 ·have c:ag (lA a=(0,cT cQ a)):=by show _=_;unfold lA;rw[aP f]
  have g:(9:Int)<(cT cQ a:Int):=T;go_enter func128,ntmps128;go_wp2_with(go_at_call 79;refine(xb Eu a _ d).mono ?_;rintro e b ⟨rfl,rfl⟩)
  go_ret2
  rw[c.out];exact⟨rfl,rfl⟩
 ·have c:ag (lA a=(2,cT cQ a)):=by show _=_;unfold lA;rw[aH f]
  have g:¬(9:Int)<(cT cQ a:Int):=T;go_enter func128,ntmps128;go_wp2_with(go_at_call 79;refine(xb Eu a _ d).mono ?_;rintro e b ⟨rfl,rfl⟩)
  go_ret2
  rw[c.out];exact⟨rfl,rfl⟩
theorem pA(k:ByteArray):i6 k=(aJ k==[119,105,116,104,105,110]||aJ k==[114,97,116,101]||aJ k==[116,104,101,110]||aJ k==[110,111,116]||aJ k==[105,102]||aJ k==[116,105,109,101,115]||aJ k==[97,110,100]||aJ k==[111,114]||aJ k==[105,116]):=by simp only[i6,lH,fW,oo,qh,oZ,zL]
theorem Iw(h:(aJ k==[119,105,116,104,105,110])=true):i6 k=true:=by rw[pA,h];simp
theorem Ku(h:(aJ k==[114,97,116,101])=true):i6 k=true:=by rw[pA,h];simp
theorem Lr(h:(aJ k==[116,104,101,110])=true):i6 k=true:=by rw[pA,h];simp
theorem Iz(h:(aJ k==[110,111,116])=true):i6 k=true:=by rw[pA,h];simp
theorem LP(h:(aJ k==[105,102])=true):i6 k=true:=by rw[pA,h];simp
theorem PP(h:(aJ k==[116,105,109,101,115])=true):i6 k=true:=by rw[pA,h];simp
theorem Sq(h:(aJ k==[97,110,100])=true):i6 k=true:=by rw[pA,h];simp
theorem KH(h:(aJ k==[111,114])=true):i6 k=true:=by rw[pA,h];simp
theorem IR(h:(aJ k==[105,116])=true):i6 k=true:=by rw[pA,h];simp
theorem EB(a:(aJ k==[119,105,116,104,105,110])=false)(b:(aJ k==[114,97,116,101])=false)(c:(aJ k==[116,104,101,110])=false)(d:(aJ k==[110,111,116])=false)(e:(aJ k==[105,102])=false)(f:(aJ k==[116,105,109,101,115])=false)(g:(aJ k==[97,110,100])=false)(h:(aJ k==[111,114])=false)(i:(aJ k==[105,116])=false):¬i6 k=true:=by rw[pA,a,b,c,d,e,f,g,h,i];decide
theorem IB(a:ByteArray)(L:aq)(d:aW a<=1000000):
 aR prog 126 #[az a] L λe b=>e=aM (b2 #[O Q (nf a).1,O Q (nf a).2])/\b=L:=by
 have g:=vY ch a;have c:ag (nf a=if i6 (a.extract 0 (cT ch a))then(4,cT ch a)else if 8<cT ch a then(0,cT ch a)else(3,cT ch a)):=rfl;go_enter func126,ntmps126;go_wp2_with(go_at_call 79;refine(xb N7 a _ d).mono ?_;rintro e b ⟨rfl,rfl⟩)
 all_goals
  go_ret2
  refine⟨?_,rfl⟩
  first
   |exact absurd (‹((a.extract 0 (cT ch a)).toList==[119,105,116,104,105,110])=true›.symm.trans ‹((a.extract 0 (cT ch a)).toList==[119,105,116,104,105,110])=false›) ak
   |exact absurd (‹((a.extract 0 (cT ch a)).toList==[114,97,116,101])=true›.symm.trans ‹((a.extract 0 (cT ch a)).toList==[114,97,116,101])=false›) ak
   |exact absurd (‹((a.extract 0 (cT ch a)).toList==[116,104,101,110])=true›.symm.trans ‹((a.extract 0 (cT ch a)).toList==[116,104,101,110])=false›) ak
   |exact absurd (‹((a.extract 0 (cT ch a)).toList==[110,111,116])=true›.symm.trans ‹((a.extract 0 (cT ch a)).toList==[110,111,116])=false›) ak
   |exact absurd (‹((a.extract 0 (cT ch a)).toList==[105,102])=true›.symm.trans ‹((a.extract 0 (cT ch a)).toList==[105,102])=false›) ak
   |exact absurd (‹((a.extract 0 (cT ch a)).toList==[116,105,109,101,115])=true›.symm.trans ‹((a.extract 0 (cT ch a)).toList==[116,105,109,101,115])=false›) ak
   |exact absurd (‹((a.extract 0 (cT ch a)).toList==[97,110,100])=true›.symm.trans ‹((a.extract 0 (cT ch a)).toList==[97,110,100])=false›) ak
   |exact absurd (‹((a.extract 0 (cT ch a)).toList==[111,114])=true›.symm.trans ‹((a.extract 0 (cT ch a)).toList==[111,114])=false›) ak
   |exact absurd (‹((a.extract 0 (cT ch a)).toList==[105,116])=true›.symm.trans ‹((a.extract 0 (cT ch a)).toList==[105,116])=false›) ak
   |(rw[c.out,aP (Iw ‹((a.extract 0 (cT ch a)).toList==[119,105,116,104,105,110])=true›)];rfl)
   |(rw[c.out,aP (Ku ‹((a.extract 0 (cT ch a)).toList==[114,97,116,101])=true›)];rfl)
   |(rw[c.out,aP (Lr ‹((a.extract 0 (cT ch a)).toList==[116,104,101,110])=true›)];rfl)
   |(rw[c.out,aP (Iz ‹((a.extract 0 (cT ch a)).toList==[110,111,116])=true›)];rfl)
   |(rw[c.out,aP (LP ‹((a.extract 0 (cT ch a)).toList==[105,102])=true›)];rfl)
   |(rw[c.out,aP (PP ‹((a.extract 0 (cT ch a)).toList==[116,105,109,101,115])=true›)];rfl)
   |(rw[c.out,aP (Sq ‹((a.extract 0 (cT ch a)).toList==[97,110,100])=true›)];rfl)
   |(rw[c.out,aP (KH ‹((a.extract 0 (cT ch a)).toList==[111,114])=true›)];rfl)
   |(rw[c.out,aP (IR ‹((a.extract 0 (cT ch a)).toList==[105,116])=true›)];rfl)
   |(have f:(8:Int)<(cT ch a:Int):=by assumption
     rw[c.out,aH (EB ‹((a.extract 0 (cT ch a)).toList==[119,105,116,104,105,110])=false› ‹((a.extract 0 (cT ch a)).toList==[114,97,116,101])=false› ‹((a.extract 0 (cT ch a)).toList==[116,104,101,110])=false› ‹((a.extract 0 (cT ch a)).toList==[110,111,116])=false› ‹((a.extract 0 (cT ch a)).toList==[105,102])=false› ‹((a.extract 0 (cT ch a)).toList==[116,105,109,101,115])=false› ‹((a.extract 0 (cT ch a)).toList==[97,110,100])=false› ‹((a.extract 0 (cT ch a)).toList==[111,114])=false› ‹((a.extract 0 (cT ch a)).toList==[105,116])=false›),aP T];rfl)
   |(have f:(cT ch a:Int)<=8:=by assumption
     rw[c.out,aH (EB ‹((a.extract 0 (cT ch a)).toList==[119,105,116,104,105,110])=false› ‹((a.extract 0 (cT ch a)).toList==[114,97,116,101])=false› ‹((a.extract 0 (cT ch a)).toList==[116,104,101,110])=false› ‹((a.extract 0 (cT ch a)).toList==[110,111,116])=false› ‹((a.extract 0 (cT ch a)).toList==[105,102])=false› ‹((a.extract 0 (cT ch a)).toList==[116,105,109,101,115])=false› ‹((a.extract 0 (cT ch a)).toList==[97,110,100])=false› ‹((a.extract 0 (cT ch a)).toList==[111,114])=false› ‹((a.extract 0 (cT ch a)).toList==[105,116])=false›),aH T];rfl)
theorem KW(q a:ByteArray)(L:aq):aR prog 124 #[az q,az a] L λe b=>e=aM (cK (Lib.hasPrefix q.data.toList a.data.toList))/\b=L:=
 Any.strings_HasPrefix Tryz.lays99 q a L
theorem Jg(a:List UInt8)(b:UInt8):decide ((0:Int)<=Lib.indexByte a b)=fI b a:=by
 induction a with
 |nil=>rfl
 |cons j a d=>
  have e:=Lib.indexByte_ge a b;unfold Lib.indexByte fI;rw[oo];by_cases h:(j==b)=true
  ·rw[aP h,h];rfl
  ·rw[aH h,Bool.not_eq_true]at*;rw[h,Bool.false_or];unfold fI at d;rw[<-d];split
   ·rename_i c;have:Lib.indexByte a b= -1:=by simpa using c
    rw[this]
   ·rename_i c;have:Lib.indexByte a b≠ -1:=by simpa using c
    rw[wM];omega
def xH(c:UInt8):Int:=Lib.indexByte mq c
theorem I8(a:UInt8):decide ((0:Int)<=xH a)=fI a mq:=Jg _ _
theorem Sb(a:UInt8)(L:aq):aR prog 129 #[az ⟨#[40,41,124,58,46,43,45,42,47,61]⟩,O .u8 (dk a)] L λe b=>e=aM (O Q (xH a))/\b=L:=by have h:=Any.strings_IndexByte Tryz.lays137 ⟨#[40,41,124,58,46,43,45,42,47,61]⟩ (dk a) L;have e:((dk a:Int)).toNat.toUInt8=a:=av;rw[e]at h;exact h
theorem xs(a:ByteArray):M (aJ a)=aW a:=by rw[fW];simp
theorem Kg(h:aW a=0):(aJ a==[])=true:=by rw[sD ((xs a).trans h)];rfl
theorem Ss(h:¬(aW a)=0):(aJ a==[])=false:=by rw[di];intro e;have:=xs a;rw[e]at this;exact h this.symm
theorem Mz(a:ByteArray)(h:0<aW a):Lib.hasPrefix (a.extract 1 (aW a)).data.toList [61]=jv a:=by
 rw[mL];unfold jv Lib.hasPrefix;by_cases b:1<aW a
 ·rw[yV a 1 b,k0 a 1 b];have:aW a-1=(aW a-2)+1:=T;rw[this,List.take_succ_cons];simp only[List.isPrefixOf,b,decide_true,A7,B0];rw[nM,gT,gT];exact eq_comm
 ·have:a.data.toList.drop 1=[]:=wS b7;rw[this];simp[List.isPrefixOf,b]
theorem S7(a:ByteArray)(L:aq)(A:aW a<=1000000):
 aR prog 81 #[az a] L λe b=>e=aM (b2 #[O Q (fC a).1,O Q (fC a).2])/\b=L:=by
 by_cases v:aW a=0
 ·have r:ag (fC a=(1,0)):=by show _=_;unfold fC;rw[aP v]
  have K:(aJ a==[])=true:=Kg v;go_enter func81,ntmps81;go_wp2
  go_ret2
  rw[r.out];exact⟨rfl,rfl⟩
 ·have B:0<aW a:=by omega
  have K:(aJ a==[])=false:=Ss v;have C:=Mz a B;have D:=k0 a 0 B;have r:ag (fC a=gu a):=by show _=_;unfold fC;rw[aH v]
  have w:ag (gu a=if ch a[0]then nf a else if cQ a[0]then lA a else if a[0]==33 then(if jv a then(5,2)else(0,1))else if a[0]==60||a[0]==62 then(if jv a then(5,2)else(5,1))else if fI a[0] mq then(5,1)else(0,1)):=by show _=_;unfold gu;rw[D]
  have f:=λL=>KW (a.extract 1 (aW a)) ⟨#[61]⟩ L
  rw[show(ByteArray.mk #[61]).data.toList=[61]from rfl,C]at f;clear C D v;cases m:ch a[0]with
  |true=>
   have d:ag (fC a=nf a):=by show _=_;rw[r.out,w.out,m];rfl
   have E:=y0 a[0];rw[m]at E;clear m;go_enter func81,ntmps81;go_wp2_with(first|(go_at_call 124;refine(f _).mono ?_;rintro e b ⟨rfl,rfl⟩)|(go_at_call 125;refine(E _).mono ?_;rintro e b ⟨rfl,rfl⟩)|(go_at_call 126;refine(IB a _ A).mono ?_;rintro e b ⟨rfl,rfl⟩))
   go_ret2
   rw[d.out];exact⟨rfl,rfl⟩
  |false=>
   have l:=y0 a[0];rw[m]at l;cases s:cQ a[0]with
   |true=>
    have d:ag (fC a=lA a):=by show _=_;rw[r.out,w.out,m,s];rfl
    have i:=BC a[0];rw[s]at i;clear m s;go_enter func81,ntmps81;go_wp2_with(first|(go_at_call 124;refine(f _).mono ?_;rintro e b ⟨rfl,rfl⟩)|(go_at_call 125;refine(l _).mono ?_;rintro e b ⟨rfl,rfl⟩)|(go_at_call 127;refine(i _).mono ?_;rintro e b ⟨rfl,rfl⟩)|(go_at_call 128;refine(Jz a _ A).mono ?_;rintro e b ⟨rfl,rfl⟩))
    go_ret2
    rw[d.out];exact⟨rfl,rfl⟩
   |false=>
    have t:ag (fC a=if a[0]==33 then(if jv a then(5,2)else(0,1))else if a[0]==60||a[0]==62 then(if jv a then(5,2)else(5,1))else if fI a[0] mq then(5,1)else(0,1)):=by show _=_;rw[r.out,w.out,m,s];rfl
    have i:=BC a[0];rw[s]at i;have F:ag (decide ((0:Int)<=xH a[0])=fI a[0] mq):=I8 _;have G:=Sb a[0];clear m s r w;have j:∀p:UInt8,a[0]=p->((dk a[0]:Int)==(dk p:Int))=true:=λp e=>by rw[e];simp
    have k:∀p:UInt8,¬a[0]=p->((dk a[0]:Int)==(dk p:Int))=false:=λp e=>by rw[di];intro h;exact e (qV.1 (by exact_mod_cast h))
    by_cases o:a[0]=33
    ·have P:((dk a[0]:Int)==33)=true:=j 33 o;clear j k;cases g:jv a with
     |true=>
      have d:ag (fC a=(5,2)):=by show _=_;rw[t.out,o,g];rfl
      rw[g]at f;clear o g;go_enter func81,ntmps81;go_wp2_with(first|(go_at_call 124;refine(f _).mono ?_;rintro e b ⟨rfl,rfl⟩)|(go_at_call 125;refine(l _).mono ?_;rintro e b ⟨rfl,rfl⟩)|(go_at_call 127;refine(i _).mono ?_;rintro e b ⟨rfl,rfl⟩))
      go_ret2
      rw[d.out];exact⟨rfl,rfl⟩
     |false=>
      have d:ag (fC a=(0,1)):=by show _=_;rw[t.out,o,g];rfl
      rw[g]at f;clear o g;go_enter func81,ntmps81;go_wp2_with(first|(go_at_call 124;refine(f _).mono ?_;rintro e b ⟨rfl,rfl⟩)|(go_at_call 125;refine(l _).mono ?_;rintro e b ⟨rfl,rfl⟩)|(go_at_call 127;refine(i _).mono ?_;rintro e b ⟨rfl,rfl⟩))
      go_ret2
      rw[d.out];exact⟨rfl,rfl⟩
    ·have P:((dk a[0]:Int)==33)=false:=k 33 o;have u:(a[0]==33)=false:=by simpa using o
     clear o;by_cases c:a[0]=60\/a[0]=62
     ·have q:(a[0]==60||a[0]==62)=true:=by rcases c with e|e<;>rw[e]<;>rfl
      cases g:jv a with
      |true=>
       have d:ag (fC a=(5,2)):=by show _=_;rw[t.out,u,q,g];rfl
       rw[g]at f;clear u q g;rcases c with c|c
       ·have x:((dk a[0]:Int)==60)=true:=j 60 c;clear j k c;go_enter func81,ntmps81;go_wp2_with(first|(go_at_call 124;refine(f _).mono ?_;rintro e b ⟨rfl,rfl⟩)|(go_at_call 125;refine(l _).mono ?_;rintro e b ⟨rfl,rfl⟩)|(go_at_call 127;refine(i _).mono ?_;rintro e b ⟨rfl,rfl⟩))
        go_ret2
        rw[d.out];exact⟨rfl,rfl⟩
       ·have x:((dk a[0]:Int)==60)=false:=k 60 (by rw[c];decide);have H:((dk a[0]:Int)==62)=true:=j 62 c;clear j k c;go_enter func81,ntmps81;go_wp2_with(first|(go_at_call 124;refine(f _).mono ?_;rintro e b ⟨rfl,rfl⟩)|(go_at_call 125;refine(l _).mono ?_;rintro e b ⟨rfl,rfl⟩)|(go_at_call 127;refine(i _).mono ?_;rintro e b ⟨rfl,rfl⟩))
        go_ret2
        rw[d.out];exact⟨rfl,rfl⟩
      |false=>
       have d:ag (fC a=(5,1)):=by show _=_;rw[t.out,u,q,g];rfl
       rw[g]at f;clear u q g;rcases c with c|c
       ·have x:((dk a[0]:Int)==60)=true:=j 60 c;clear j k c;go_enter func81,ntmps81;go_wp2_with(first|(go_at_call 124;refine(f _).mono ?_;rintro e b ⟨rfl,rfl⟩)|(go_at_call 125;refine(l _).mono ?_;rintro e b ⟨rfl,rfl⟩)|(go_at_call 127;refine(i _).mono ?_;rintro e b ⟨rfl,rfl⟩))
        go_ret2
        rw[d.out];exact⟨rfl,rfl⟩
       ·have x:((dk a[0]:Int)==60)=false:=k 60 (by rw[c];decide);have H:((dk a[0]:Int)==62)=true:=j 62 c;clear j k c;go_enter func81,ntmps81;go_wp2_with(first|(go_at_call 124;refine(f _).mono ?_;rintro e b ⟨rfl,rfl⟩)|(go_at_call 125;refine(l _).mono ?_;rintro e b ⟨rfl,rfl⟩)|(go_at_call 127;refine(i _).mono ?_;rintro e b ⟨rfl,rfl⟩))
        go_ret2
        rw[d.out];exact⟨rfl,rfl⟩
     ·have y:¬a[0]=60:=λe=>c (.inl e)
      have z:¬a[0]=62:=λe=>c (.inr e)
      have q:(a[0]==60||a[0]==62)=false:=by simp[y,z]
      have x:((dk a[0]:Int)==60)=false:=k 60 y;have H:((dk a[0]:Int)==62)=false:=k 62 z;have I:ag (fC a=if fI a[0] mq then(5,1)else(0,1)):=by show _=_;rw[t.out,u,q];rfl
      clear j k c y z q u t;by_cases J:(0:Int)<=xH a[0]
      ·have d:ag (fC a=(5,1)):=by show _=_;rw[I.out,<-F.out];simp[J]
       go_enter func81,ntmps81;go_wp2_with(first|(go_at_call 124;refine(f _).mono ?_;rintro e b ⟨rfl,rfl⟩)|(go_at_call 125;refine(l _).mono ?_;rintro e b ⟨rfl,rfl⟩)|(go_at_call 127;refine(i _).mono ?_;rintro e b ⟨rfl,rfl⟩)|(go_at_call 129;refine(G _).mono ?_;rintro e b ⟨rfl,rfl⟩))
       go_ret2
       rw[d.out];exact⟨rfl,rfl⟩
      ·have d:ag (fC a=(0,1)):=by show _=_;rw[I.out,<-F.out];simp[J]
       go_enter func81,ntmps81;go_wp2_with(first|(go_at_call 124;refine(f _).mono ?_;rintro e b ⟨rfl,rfl⟩)|(go_at_call 125;refine(l _).mono ?_;rintro e b ⟨rfl,rfl⟩)|(go_at_call 127;refine(i _).mono ?_;rintro e b ⟨rfl,rfl⟩)|(go_at_call 129;refine(G _).mono ?_;rintro e b ⟨rfl,rfl⟩))
       go_ret2
       rw[d.out];exact⟨rfl,rfl⟩
theorem Tryz.HY:(prog.info? 141).map (λx=>(x.zero,x.size,x.bytes))=some (some (dA #[O Q 0,O Q 0,az ⟨#[]⟩]),3,32):=by kernel_rfl
theorem Tg(a:UInt8->Bool)(q:ByteArray)(x:Nat):da a q x=x+cT a (q.extract x (aW q)):=by rw[tu,mL];unfold da;rw[qA av]
theorem I2(q:ByteArray):fh q=fw q (aW q+1) 0:=rfl
theorem RL{k:co}(a:eb q x=k)(h:k.ao<=1):fw q (u+1) x=[k]:=by subst a;rw[fw,aP h]
theorem NU{k:co}(a:eb q x=k)(h:¬k.ao<=1):fw q (u+1) x=k::fw q u (k.aX+aW k.bn):=by subst a;rw[fw,aH h]
structure yv (L:aq) (a6:Value) (Z:List co) (aI:aq):Prop where
 bg:aI.ownsRow L.heap.size 141 3 a6 Z.length (bC co.h Z)
 bI:aF L.heap.size L aI
def DB(e:ByteArray)(h:List co)(L:aq)(f:Nat)(i l:Value)(wr:aq):Prop:=
 ∃(g:List co) (c:Nat),c<=aW e/\l=O Q c/\aW e-c<f/\ag (g++fw e f c=h)/\yv L i g wr
theorem eY{b:aq}{c:Option Nat}(h:aF (S (R L)) L cn)(a:cn.grownBy b c)(f:∀N,c=some N->S (R L)<=N):aF (S (R L)) L b:=
 ⟨a.os.trans h.os,a.tape.trans h.tape,a.output.trans h.output,bS h.size a.size,λu d=>(a.block u (cI d h.size) (λe=>by have:=f u e.symm;omega)).trans (h.block u d)⟩
theorem Gw(q:ByteArray)(L:aq)(iZ:aW q<=1000):
 aR prog 53 #[az q] L λe b=>∃v,e=aM v/\yv L v (fh q) b:=by
 obtain⟨i,w⟩:∃i,ag (fh q=i):=⟨_,rfl⟩;have gC:ag (M i<=aW q+1):=by show _<=_;rw[<-w.out];exact(HF q).2
 rw[w.out];have gE:DB q i L (aW q+1) (U none 0 0) (O Q 0) L:=⟨[],0,bL _,rfl,T,(fa _).trans ((I2 q).symm.trans w.out),eE _ _ _ _,ca _ _⟩;clear w;go_enter func53,ntmps53;go_wp2_with fail
 go_loopw [3,4,5,6] (λv D _ _ wr=>∃gk,DB q i L gk v D wr) (λ_ D _ _ _=>aW q+1-(intOf D).toNat)
 case atStart=>exact⟨_,gE⟩
 case round=>
  obtain⟨gk,f,x,gF,rfl,j,E,k,h⟩:=hrel;clear gE;obtain⟨u,rfl⟩:∃u,gk=u+1:=⟨gk-1,T⟩;have o:aW (q.extract x (aW q))<=1000000:=qB;have y:=λL=>xb MI (q.extract x (aW q)) L o
  have z:ag (da fs q x=x+cT fs (q.extract x (aW q))):=Tg _ _ _;have F:x+cT fs (q.extract x (aW q))<=aW q:=by rw[<-z.out];exact pr _ _ _ gF
  clear o;obtain⟨p,gL⟩:∃p,ag (cT fs (q.extract x (aW q))=p):=⟨_,rfl⟩;rw[gL.out]at y F z;obtain⟨c,G⟩:∃c,c=x+p:=⟨_,rfl⟩;rw[<-G]at F z;have i0:(x:Int)+(p:Int)=(c:Int):=T;have o:aW (q.extract c (aW q))<=1000000:=qB;have r:=λL=>S7 (q.extract c (aW q)) L o
  have l:ag (eb q x=⟨(fC (q.extract c (aW q))).1,c,q.extract c (c+(fC (q.extract c (aW q))).2)⟩):=by show _=_;unfold eb;simp only;rw[z.out]
  have H:ag (c+(fC (q.extract c (aW q))).2<=aW q):=by
   show _<=_;unfold fC;split
   ·exact F
   ·rename_i A;have:=(yJ (aQ:=q.extract c (aW q)) T).2;rw[tN]at this;omega
  clear o gL;obtain⟨⟨g,m⟩,g1⟩:∃ih,ag (fC (q.extract c (aW q))=ih):=⟨_,rfl⟩;rw[g1.out]at r l H;have hu:c+m<=aW q:=H.out;clear H g1;simp only at r l;obtain⟨a,I⟩:∃a,a=c+m:=⟨_,rfl⟩;rw[<-I]at hu l;have i1:(c:Int)+(m:Int)=(a:Int):=T;have i2:c<=a:=T;have iR:ag (M f+M (fw q (u+1) x)<=aW q+1):=by show _<=_;have:=gC.out;rw[<-E.out,bV]at this;exact this
  have jt:M f<=1001:=by have:=iR.out;omega
  obtain⟨J,K,P,gf,gg⟩:=dY Tryz.HY;have B:ag (c=x+p/\a=c+m):=⟨G,I⟩;clear G I gC;by_cases A:g<=1
  ·have C:ag (f++[⟨g,c,q.extract c a⟩]=i):=by
    show _=_;rw[<-E.out,RL l.out A]
   have iU:=h.size;rcases(by omega:g=0\/g=1)with rfl|rfl
   ·go_wp2_with(first
     |(go_at_call 79;refine(y _).mono ?_;rintro e b ⟨rfl,d⟩;rw[d];clear d)
     |(go_at_call 81;refine(r _).mono ?_;rintro e b ⟨rfl,d⟩;rw[d];clear d)
     |(at_builtin;refine dq _ rfl (.tmp 20) (.tmp 30) 64 rfl (S (R L)) 141 J _ 3 32 underlying64 K P gf gg rfl ak u3 (M f) (bC co.h f) bf (k.alloc _) ⟨S (R wr),0,none⟩ 1 1 (co.h ⟨0,c,q.extract c a⟩) bf rfl (c4 (cB _ _ _ av)) zn ak cN T b7 (S (R wr)+1) av ?_;intro N hE cn s t hS hV))
    go_ret;refine⟨_,rfl,?_,eY (h.alloc (by exact h.size) _) t (λu j=>(k.lt u j).1)⟩;rw[<-C.out,jc,bV];exact s
   ·go_wp2_with(first
     |(go_at_call 79;refine(y _).mono ?_;rintro e b ⟨rfl,d⟩;rw[d];clear d)
     |(go_at_call 81;refine(r _).mono ?_;rintro e b ⟨rfl,d⟩;rw[d];clear d)
     |(at_builtin;refine dq _ rfl (.tmp 20) (.tmp 30) 64 rfl (S (R L)) 141 J _ 3 32 underlying64 K P gf gg rfl ak u3 (M f) (bC co.h f) bf (k.alloc _) ⟨S (R wr),0,none⟩ 1 1 (co.h ⟨1,c,q.extract c a⟩) bf rfl (c4 (cB _ _ _ av)) zn ak cN T b7 (S (R wr)+1) av ?_;intro N hE cn s t hS hV))
    go_ret;refine⟨_,rfl,?_,eY (h.alloc (by exact h.size) _) t (λu j=>(k.lt u j).1)⟩;rw[<-C.out,jc,bV];exact s
  ·have iU:=h.size;have jW:((g:Int)==0)=false:=by rw[di];omega
   have j4:((g:Int)==1)=false:=by rw[di];omega
   have C:ag ((f++[⟨g,c,q.extract c a⟩])++fw q u (c+aW (q.extract c a))=i):=by show _=_;rw[<-E.out,NU l.out A,ke];rfl
   have gj:ag (aW (q.extract c a)=m/\1<=m):=by have e:aW (q.extract c a)=a-c:=qB;have:=B.out;refine⟨T,?_⟩;have hZ:=(qq q x gF).2.2.2;rw[l.out]at hZ;have:=(hZ (by show 2<=g;omega)).2;simp only at this;omega
   clear A;go_wp2_with(first|(go_at_call 79;refine(y _).mono ?_;rintro e b ⟨rfl,d⟩;rw[d];clear d)|(go_at_call 81;refine(r _).mono ?_;rintro e b ⟨rfl,d⟩;rw[d];clear d)|(at_builtin;refine dq _ rfl (.tmp 20) (.tmp 30) 64 rfl (S (R L)) 141 J _ 3 32 underlying64 K P gf gg rfl ak u3 (M f) (bC co.h f) bf (k.alloc _) ⟨S (R wr),0,none⟩ 1 1 (co.h ⟨g,c,q.extract c a⟩) bf rfl (c4 (cB _ _ _ av)) zn ak cN T b7 (S (R wr)+1) av ?_;intro N hE cn s t hS hV))
   go_roundw
   case rel=>
    refine⟨u,f++[⟨g,c,q.extract c a⟩],a,hu,rfl,?_,?_,?_,eY (h.alloc (by exact h.size) _) t (λu j=>(k.lt u j).1)⟩
    ·have:=gj.out;have:=B.out;omega
    ·have e:c+aW (q.extract c a)=a:=by have:=gj.out;have:=B.out;omega
     have:=C.out;rw[e]at this;exact this
    ·rw[jc,bV];exact s
   case measure=>have:=gj.out;have:=B.out;simp[intOf];omega
theorem Bz(u a:Int)(k:ByteArray)(L:aq):(Instr.field 141 (dA #[O Q u,O Q a,az k]) 1).run prog L=.ok (O Q a) L:=by kernel_rfl
theorem Kx(u a:Int)(k:ByteArray)(L:aq):(Instr.field 141 (dA #[O Q u,O Q a,az k]) 2).run prog L=.ok (az k) L:=by kernel_rfl
theorem hw(h:bZ o L j r V)(a:0<M V.a7):
 aR prog 83 #[aD (some ⟨j,0,none⟩)] L λe b=>e=aM (dA #[O Q V.af.ao,O Q V.af.aX,az V.af.bn])/\∃c,b=ar L c:=by
 obtain⟨g,i,l⟩:=h.xr a;have d:=h.aa 0;simp[fN]at d;have m:(0:Int)<(M V.a7:Int):=T;have p:=h.ax.am;have q:=h.aT.am;generalize V.af.ao=u at*;generalize V.af.aX=f at*;generalize V.af.bn=k at*;generalize(M V.a7)=s at*;generalize r.je=t at*;generalize r.iJ*3=w at*;generalize r.dF=x at*;clear h;go_enter func83,ntmps83;go_wp2;exact dG (v:=dA #[O Q u,O Q f,az k]) (by simp[results,results83,go_sem]) rfl ⟨rfl,_,rfl⟩
theorem og(h:bZ o L j r V)(f:2<=M V.a7):
 aR prog 164 #[aD (some ⟨j,0,none⟩)] L λe b=>e=aM (b2 #[])/\bZ o b j {r with iJ:=r.iJ+1,je:=r.je-1} V.c/\aU o L o b:=by
 have a:=h.aa 0;simp[fN]at a;have g:=h.ax.b 0;have i:=h.b1;have c:ag (bZ o (ay L ⟨j,0,none⟩ (U (some ⟨r.dF,r.iJ*3+3,none⟩) (M V.a7-1) (r.je-1))) j {r with iJ:=r.iJ+1,je:=r.je-1} V.c):=by refine h.gE (j1:={r with iJ:=r.iJ+1,je:=r.je-1}) (bW:=V.c) 0 _ ?_ h.aT.mn h.fG (by rw[hm];show _<=r.je-1;omega) h.cF;simp[fN,aA.c,Nat.add_mul]
 have d:ag (aU o L o (ay L ⟨j,0,none⟩ (U (some ⟨r.dF,r.iJ*3+3,none⟩) (M V.a7-1) (r.je-1)))):=(aU.l o L).v (ai:=⟨j,0,none⟩) h.K _;have k:(1:Int)<=(M V.a7:Int):=T;have l:(1:Int)<=(r.je:Int):=T;generalize r.iJ*3=m at*;go_enter func164,ntmps164;go_wp2
 go_end0
 exact⟨rfl,c.out,d.out⟩
theorem NT{c:Nat}(h:aL L N #[O Q u,O Q c,az k] y):mP L N 0 [⟨u,c,k⟩]:=by
 refine⟨h.am,λa b=>?_,λa b=>?_,λa b=>?_⟩<;>(have e:a=0:=by simpa using b)<;>subst e
 ·rw[show(0+0)*3=0 from rfl,h.aa];rfl
 ·rw[show(0+0)*3+1=1 from rfl,h.aa];rfl
 ·rw[show(0+0)*3+2=2 from rfl,h.aa];rfl
theorem yD(h:bZ o L j r V)(g:0<M V.a7):
 aR prog 163 #[aD (some ⟨j,0,none⟩)] L λe b=>e=aM (b2 #[])/\hz o L j V.P b:=by
 have q:=Bz;have i:=h.ax.am;have s:=h.ax.b 0;have k:=h.aa 0;simp[fN]at k;have l:∀a,ag (hz o L j V.P (ay (ar (ar L a) (aw #[O Q 0,O Q V.af.aX,az ⟨#[]⟩] 141)) ⟨j,0,none⟩ (U (some ⟨S (R L)+1,0,none⟩) 1 1))):=by
  intro a;have c:aL (ar (ar L a) (aw #[O Q 0,O Q V.af.aX,az ⟨#[]⟩] 141)) (S (R L)+1) #[O Q (0:Nat),O Q V.af.aX,az ⟨#[]⟩] 141:=cB _ _ _ av;have m:=NT c;have d:bZ (aO o (S (R L)+1) 7) (ar (ar L a) (aw #[O Q 0,O Q V.af.aX,az ⟨#[]⟩] 141)) j r V:=((h.kx (bl:=aO o (S (R L)+1) 7) (λu c=>cR _ _ _ _ T)).a a).a _
  refine⟨aO o (S (R L)+1) 7,{r with dF:=S (R L)+1,iJ:=0,je:=1},d.gE 0 _ ?_ m (cy _ _ _) (by simp[aA.P]) d.cF,?_⟩
  ·simp[fN,aA.P]
  ·have p:aU o L (aO o (S (R L)+1) 7) (ar (ar L a) (aw #[O Q 0,O Q V.af.aX,az ⟨#[]⟩] 141)):=⟨λu c=>cR _ _ _ _ T,(((aU.l o L).a a).a _).db⟩
   exact p.v (ai:=⟨j,0,none⟩) d.K _
 go_enter func163,ntmps163;go_wp2_with(go_at_call 83;refine(hw h g).mono ?_;rintro e b ⟨rfl,a,rfl⟩)
 go_end0
 have f:=(l a).out;rw[CW _ _ _ _ b7,CW _ _ _ _ i]at f;exact⟨rfl,f⟩
def mh(c:List ByteArray):Array Value:=(c.map az).toArray
theorem yW(d:List ByteArray)(a:Nat)(h:a<M d):(mh d)[a]?=some (az (d.getD a ByteArray.empty)):=by simp[mh,h,List.getD]
theorem Sp{a:Nat->Prop}(h:∃w,a w):∃w,a w/\∀r,r<w->¬a r:=by
 obtain⟨w,e⟩:=h
 induction w using Nat.strongRecOn with
 |_ w f=>
  by_cases d:∃r,r<w/\a r
  ·obtain⟨r,b,c⟩:=d;exact f r b c
  ·exact⟨w,e,λr b c=>d ⟨r,b,c⟩⟩
theorem LC{a j:ByteArray}(h:aJ a=aJ j):a=j:=by rw[fW,fW]at h;exact k_ (rK.1 h)
theorem Ly(d:List ByteArray)(a:ByteArray):
 ((d.any λk=>aJ k==aJ a)=false/\Lib.idxOfS d a= -1)\/((d.any λk=>aJ k==aJ a)=true/\∃u:Nat,u<M d/\Lib.idxOfS d a=(u:Int)/\d.getD u ByteArray.empty=a):=by
 by_cases h:∃b,b<M d/\d.getD b ByteArray.empty=a
 ·obtain⟨u,⟨f,g⟩,i⟩:=Sp h;right;refine⟨?_,u,f,?_,g⟩
  ·rw[jf];refine⟨a,?_,av⟩;rw[<-g,fj,dz f];exact b4 f
  ·have:=Lib.idxOfS_hit d (M d) u a f (aN _) g (λb c e=>i b c ⟨T,e⟩);rw[eQ]at this;exact this
 ·left;refine⟨?_,?_⟩
  ·rw[xp];intro k j e;obtain⟨b,c,l⟩:=iW j;refine h ⟨b,c,?_⟩;rw[fj,dz c];show d[b]=a;rw[l];exact LC (by simpa using e)
  ·have:=Lib.idxOfS_miss d (M d) a (λb c e=>h ⟨b,c,e⟩);rw[eQ]at this;exact this
theorem Eg(N w f:Nat)(d:List ByteArray)(a:ByteArray)(L:aq)(g:w=M d)(j:w<=1000)(i:∀c,c<M d->L.cell? ⟨N,0+c,none⟩=some (az (d.getD c ByteArray.empty))):
 aR prog 197 #[U (some ⟨N,0,none⟩) w f,az a] L λe b=>e=aM (O Q (Lib.idxOfS d a))/\b=L:=by
 have h:=Any.slices_Index_string Tryz.lays109 N 0 w f d a L T T i;rw[g,eQ]at h;rw[g];exact h
theorem vz(h:bZ o L j r V)(l:dw V.a7)(x:∀k∈d,k∈dd)(H:M d<=10)(z:w=M d)(i:aL L N (mh d) y)(A:o N=8):
 aR prog 162 #[aD (some ⟨j,0,none⟩),U (some ⟨N,0,none⟩) w w] L λe b=>e=aM (az (V.I d))/\hz o L j (V.dE d) b:=by
 subst z;have I:=Kx;have J:=h.ax.am;have K:=i.am;rcases Ly d V.af.bn with⟨s,c⟩|⟨m,u,B,c,t⟩
 ·have f:ag (V.I d=⟨#[]⟩/\V.dE d=V):=by
   have:V.m d=false:=s;exact⟨by simp[aA.I,this],by simp[aA.dE,this]⟩
  have C:∀a,ag (hz o L j V (ar L a)):=λa=>⟨o,r,h.a a,(aU.l o L).a a⟩
  have g:=λa=>Eg N (M d) (M d) d V.af.bn (ar L a) rfl T (λp q=>((i.a a).aa _).trans (by rw[du];exact yW d p q))
  rw[c]at g;clear s c;go_enter func162,ntmps162;go_wp2_with(first|(go_at_call 83;refine(hw h l.a1).mono ?_;rintro e b ⟨rfl,a,rfl⟩)|(go_at_call 197;refine(g a).mono ?_;rintro e b ⟨rfl,rfl⟩))
  go_ret;rw[f.out.1,f.out.2];exact⟨rfl,(C a).out⟩
 ·have D:2<=M V.a7:=l.m x m;have f:ag (V.I d=V.af.bn/\V.dE d=V.c):=by have:V.m d=true:=m;exact⟨by simp[aA.I,this],by simp[aA.dE,this]⟩
  have g:=λa=>Eg N (M d) (M d) d V.af.bn (ar L a) rfl T (λp q=>((i.a a).aa _).trans (by rw[du];exact yW d p q))
  rw[c]at g;have E:=λa=>og (h.a a) D
  have P:(u:Int)<(M d:Int):=T;have F:ag ((mh d)[u]?=some (az V.af.bn)):=by show _=_;rw[yW d u B,t]
  clear m c t;go_enter func162,ntmps162;go_wp2_with(first|(go_at_call 83;refine(hw h l.a1).mono ?_;rintro e b ⟨rfl,a,rfl⟩)|(go_at_call 197;refine(g a).mono ?_;rintro e b ⟨rfl,rfl⟩)|(go_at_call 164;refine(E a).mono ?_;rintro e cn ⟨rfl,G,v⟩;have gf:=((v.z A (i.a a)).aa u).trans F.out))
  go_ret;rw[f.out.1,f.out.2];exact⟨rfl,_,_,G,((aU.l o L).a a).trans v⟩
theorem AX(b:∀k∈d,k∈dd):(aJ (V.I d)==[])=!V.m d:=by
 unfold aA.I;cases a:V.m d with
 |false=>simp[fW]
 |true=>
  simp only[Bool.not_true,iC];simp only[aA.m,jf]at a;obtain⟨k,c,e⟩:=a;have f:aJ k=aJ V.af.bn:=by simpa using e
  rw[<-f];have:=lq.1 wI k (b k c);simpa[fW]using this
theorem IP(h:bZ o L j r V)(f:dw V.a7)(c:∀k∈d,k∈dd)(g:M d<=10)(i:w=M d)(l:aL L N (mh d) y)(m:o N=8):
 aR prog 168 #[aD (some ⟨j,0,none⟩),U (some ⟨N,0,none⟩) w w] L λe b=>e=aM (cK (V.m d))/\hz o L j (V.dE d) b:=by
 subst i;have p:ag ((aJ (V.I d)==[])=!V.m d):=AX c;go_enter func168,ntmps168;go_wp2_with(go_at_call 162;refine(vz h f c g rfl l m).mono ?_;rintro e b ⟨rfl,q⟩);go_ret;refine⟨kC ?_,q⟩;have e:∀a:List UInt8,a.isEmpty=(a==[]):=λa=>by cases a<;>rfl
 rw[e,p.out];simp
theorem Lj(h:bZ o L j r V)(g:dw V.a7)(i:∀k∈d,k∈dd)(l:M d<=10)(s:w=M d)(m:aL L N (mh d) y)(p:o N=8):
 aR prog 130 #[aD (some ⟨j,0,none⟩),U (some ⟨N,0,none⟩) w w] L λe b=>e=aM (az (V.I d))/\hz o L j (V.bx d) b:=by
 subst s;have c:=AX (V:=V) i;cases a:V.m d with
 |true=>
  rw[a]at c;simp only[Bool.not_true]at c;have f:ag (V.bx d=V.dE d):=by show _=_;simp[aA.bx,aA.dE,a]
  clear a;go_enter func130,ntmps130;go_wp2_with(go_at_call 162;refine(vz h g i l rfl m p).mono ?_;rintro e b ⟨rfl,t⟩);go_ret;rw[f.out];exact⟨rfl,t⟩
 |false=>
  rw[a]at c;simp only[Bool.not_false]at c;have f:ag (V.bx d=V.P/\V.dE d=V):=⟨by simp[aA.bx,a],by simp[aA.dE,a]⟩;clear a;go_enter func130,ntmps130;go_wp2_with(first|(go_at_call 162;refine(vz h g i l rfl m p).mono ?_;rintro e b ⟨rfl,B,C,q,u⟩;rw[f.out.2]at q)|(go_at_call 163;refine(yD q g.a1).mono ?_;rintro e D ⟨rfl,v,x,z,A⟩))
  go_ret;rw[f.out.1];exact⟨rfl,v,x,z,u.trans A⟩
theorem bZ.ug(h:bZ o L j r V)(b:Obj):bZ (aO o (S (R L)) 8) (ar L b) j r V/\aU o L (aO o (S (R L)) 8) (ar L b):=
 ⟨(h.kx (λu c=>cR _ _ _ _ T)).a b,(aU.l o L).o6 b 8⟩
theorem q5(h:bZ o L j r V)(a:dw V.a7)(d:List ByteArray)(c:∀k∈d,k∈dd)(f:M d<=10)(w:Nat)(g:w=M d):
 aR prog 168 #[aD (some ⟨j,0,none⟩),U (some ⟨S (R L),0,none⟩) w w] (ar L (aw (mh d) 9)) λe b=>e=aM (cK (V.m d))/\hz o L j (V.dE d) b:=by
 obtain⟨i,l⟩:=h.ug (aw (mh d) 9);refine(IP i a c f g (aL.bT L _ _) (cy _ _ _)).mono ?_;rintro e b ⟨rfl,m,p,q,s⟩;exact⟨rfl,m,p,q,l.trans s⟩
theorem na(h:bZ o L j r V)(a:dw V.a7)(d:List ByteArray)(c:∀k∈d,k∈dd)(f:M d<=10)(w:Nat)(g:w=M d):
 aR prog 130 #[aD (some ⟨j,0,none⟩),U (some ⟨S (R L),0,none⟩) w w] (ar L (aw (mh d) 9)) λe b=>e=aM (az (V.I d))/\hz o L j (V.bx d) b:=by
 obtain⟨i,l⟩:=h.ug (aw (mh d) 9);refine(Lj i a c f g (aL.bT L _ _) (cy _ _ _)).mono ?_;rintro e b ⟨rfl,m,p,q,s⟩;exact⟨rfl,m,p,q,l.trans s⟩
section
attribute [local go_sem↓] Go.wp_at_zero Go.wp_at_succ
theorem Bn(h:bZ o L j r V)(f:1<=V.bU)(g:V.bU<=1000000):
 aR prog 226 #[aD (some ⟨j,0,none⟩)] L λe b=>e=aM (b2 #[])/\hz o L j V.J b:=by
 have a:=h.aa 1;simp[fN]at a;have i:=h.ax.b 1;have c:ag (bZ o (ay L ⟨j,1,none⟩ (O Q ((V.bU:Int)-1))) j r V.J):=by refine h.rR 1 _ ?_ rfl rfl;have:((V.bU:Int)-1)=((V.bU-1:Nat):Int):=T;simp[fN,aA.J,this]
 have d:ag (aU o L o (ay L ⟨j,1,none⟩ (O Q ((V.bU:Int)-1)))):=(aU.l o L).v (ai:=⟨j,1,none⟩) h.K _;go_enter func226,ntmps226;go_wp2
 go_end0
 exact⟨rfl,o,r,c.out,d.out⟩
theorem RM(h:bZ o L j r V)(c:Nat):
 aR prog 166 #[aD (some ⟨j,2,none⟩),O Q c] L λe b=>e=aM (b2 #[])/\hz o L j {V with fZ:=kR V.fZ c} b:=by
 have d:=h.aa 2;have f:=h.aa 3;simp[fN]at d f;have m:=h.ax.b 2;have p:=h.ax.b 3;cases a:V.fZ with
 |none=>
  rw[a]at d f;have g:ag (bZ o (ay (ay L ⟨j,2,none⟩ (cK true)) ⟨j,3,none⟩ (O Q c)) j r {V with fZ:=some c}):=by have i:bZ o (ay L ⟨j,2,none⟩ (cK true)) j r {V with fZ:=some 0}:=h.rR 2 _ (by simp[fN,a]) rfl rfl;exact i.rR 3 _ (by simp[fN]) rfl rfl
  have k:ag (aU o L o (ay (ay L ⟨j,2,none⟩ (cK true)) ⟨j,3,none⟩ (O Q c))):=((aU.l o L).v (ai:=⟨j,2,none⟩) h.K _).v (ai:=⟨j,3,none⟩) h.K _;clear a;simp at d f;go_enter func166,ntmps166;go_wp2
  go_end0
  exact⟨rfl,o,r,g.out,k.out⟩
 |some l=>
  rw[a]at d f;have g:ag (bZ o L j r {V with fZ:=some l}):=by show bZ _ _ _ _ _;rw[<-a];exact h
  clear a;simp at d f;go_enter func166,ntmps166;go_wp2
  go_end0
  exact⟨rfl,o,r,g.out,aU.l _ _⟩
theorem Da(h:bZ o L j r V)(c:Nat):
 aR prog 166 #[aD (some ⟨j,4,none⟩),O Q c] L λe b=>e=aM (b2 #[])/\hz o L j {V with e1:=kR V.e1 c} b:=by
 have d:=h.aa 4;have f:=h.aa 5;simp[fN]at d f;have m:=h.ax.b 4;have p:=h.ax.b 5;cases a:V.e1 with
 |none=>
  rw[a]at d f;have g:ag (bZ o (ay (ay L ⟨j,4,none⟩ (cK true)) ⟨j,5,none⟩ (O Q c)) j r {V with e1:=some c}):=by have i:bZ o (ay L ⟨j,4,none⟩ (cK true)) j r {V with e1:=some 0}:=h.rR 4 _ (by simp[fN,a]) rfl rfl;exact i.rR 5 _ (by simp[fN]) rfl rfl
  have k:ag (aU o L o (ay (ay L ⟨j,4,none⟩ (cK true)) ⟨j,5,none⟩ (O Q c))):=((aU.l o L).v (ai:=⟨j,4,none⟩) h.K _).v (ai:=⟨j,5,none⟩) h.K _;clear a;simp at d f;go_enter func166,ntmps166;go_wp2
  go_end0
  exact⟨rfl,o,r,g.out,k.out⟩
 |some l=>
  rw[a]at d f;have g:ag (bZ o L j r {V with e1:=some l}):=by show bZ _ _ _ _ _;rw[<-a];exact h
  clear a;simp at d f;go_enter func166,ntmps166;go_wp2
  go_end0
  exact⟨rfl,o,r,g.out,aU.l _ _⟩
end
section
attribute [local go_sem↓] Go.wp_at_zero Go.wp_at_succ
theorem Hn(h:aF (S (R L)) L b):L.grownBy b none:=⟨h.os,h.tape,h.output,h.size,λu a _=>h.block u a⟩
theorem bZ.bI(h:bZ o L j r V)(c:aF (S (R L)) L b):bZ o b j r V:=h.g1 (Hn c)
theorem aU.bI{c:Nat->Nat}(h:aU o L c cn)(d:aF (S (R cn)) cn b):aU o L c b:=
 h.trans ⟨λ_ _=>rfl,(ea.sY d).cE (λ_ f=>f.1)⟩
theorem Tryz.OG:(prog.info? 241).map (λx=>(x.zero,x.size,x.bytes))=some (some (dA #[az ⟨#[]⟩,O Q 0,az ⟨#[]⟩,O Q 0]),4,48):=by kernel_rfl
theorem xd(h:bZ o L j r V){a:List c0}(d:V.cU=some a)(B:M a<=100000)(c:c0):
 aR prog 245 #[aD (some ⟨j,0,none⟩),dA #[az c.g8,O Q c.lM,az c.name,O Q c.aX]] L λe b=>e=aM (b2 #[])/\hz o L j (V.aO c) b:=by
 have C:=h.ax.am;have s:=h.aa 6;simp[fN]at s;have D:=h.ax.b 6;obtain⟨t,u,v,w,x⟩:=dY Tryz.OG;obtain⟨i,k,name,l⟩:=c;simp only;go_enter func245,ntmps245;go_wp2;go_region_law ((refine kc _ bf _ _ 175 bf 0 241 t _ 4 48 underlying175 u v w x rfl ak r.f1 (M a) (bC c0.h a) bf (((h.a _).a _).e.cF a d).1 ⟨S (R L)+1,0,none⟩ 1 1 (c0.h ⟨i,k,name,l⟩) bf rfl (c4 (cB _ _ _ av)) (by simp[c0.h,Value.oneCell']) ak cN T (bL _) (S (R L)+2) av ?_;intro N E cn m f p F;have g:=((h.a _).a _).e.f3 f (h.cF a d).2 ak;have y:=g.aa 6;have G:=g.b 6;simp[fN]at y))
 all_goals
  obtain⟨z,q⟩:=((h.a _).a _).e.C d ⟨i,k,name,l⟩ m f (by simpa using p);have A:=((((aU.l o L).a _).a _).e).trans q;clear q m f p g;go_wp2
  go_end0
  exact⟨rfl,_,_,z,A⟩
theorem z1(h:bZ o L j r V)(k:2<=M V.a7)(z:V.bU<=1000000):
 aR prog 225 #[aD (some ⟨j,0,none⟩)] L λe b=>e=aM (b2 #[])/\hz o L j V.p b:=by
 have t:=h.aa 1;simp[fN]at t;have A:=h.ax.b 1;have B:=h.ax.am;have C:=Bz;have u:0<M V.a7:=T;by_cases l:8<=V.bU
 ·have v:(8:Int)<=(V.bU:Int):=by omega
  have c:ag (V.p={V.c with bU:=V.bU+1,fZ:=kR V.fZ V.af.aX}):=by show _=_;unfold aA.p;rw[aP l]
  go_enter func225,ntmps225;go_wp2;go_region_with (first|(go_at_call 83;refine(hw (h.E _) u).mono ?_;rintro e b ⟨rfl,m,rfl⟩)|(go_at_call 166;refine(RM ((h.E _).a m) _).mono ?_;rintro e cn ⟨rfl,p,w,a,q⟩))
  all_goals
   have x:=a.aa 1;have D:=a.ax.b 1;simp[fN]at x;have s:=(((aU.l o L).E 1).a m).trans q;have d:bZ p (ay cn ⟨j,1,none⟩ (O Q (V.bU+1))) j w {V with bU:=V.bU+1,fZ:=kR V.fZ V.af.aX}:=a.rR 1 _ (by simp[fN]) rfl rfl;have f:=s.v (ai:=⟨j,1,none⟩) a.K (O Q (V.bU+1));clear a q s;go_wp2_with(go_at_call 164;refine(og d k).mono ?_;rintro e y ⟨rfl,g,i⟩)
   go_end0
   rw[c.out];exact⟨rfl,p,_,g,f.trans i⟩
 ·have v:¬(8:Int)<=(V.bU:Int):=by omega
  have c:ag (V.p={V.c with bU:=V.bU+1}):=by show _=_;unfold aA.p;rw[aH l];rfl
  have d:bZ o (ay L ⟨j,1,none⟩ (O Q (V.bU+1))) j r {V with bU:=V.bU+1}:=h.rR 1 _ (by simp[fN]) rfl rfl;have f:=(aU.l o L).v (ai:=⟨j,1,none⟩) h.K (O Q (V.bU+1));go_enter func225,ntmps225;go_wp2_with(go_at_call 164;refine(og d k).mono ?_;rintro e y ⟨rfl,g,i⟩)
  go_end0
  rw[c.out];exact⟨rfl,o,_,g,f.trans i⟩
theorem Q3(a:List UInt8):∀b,(∀c∈a,cQ c=true)->Lib.decFrom b a=some (a.foldl (λw c=>10*w+(dk c-48)) b):=by
 induction a with
 |nil=>intro b _;rfl
 |cons c a e=>intro b h;have d:=h c (um ..);simp only[cQ,hh,jF]at d;rw[Lib.decFrom,Lib.digitVal,aP d,hc];simp only;rw[e _ (λf g=>h f (uo _ g)),Gf b 10]
theorem PB(h:mF k):Lib.atoi k.data.toList=some (fx k:Int):=by
 have b:=h.2.2;have j:=h.1;have f:k.data.toList≠[]:=λe=>by have:=xs k;rw[fW,e]at this;simp at this;omega
 cases c:k.data.toList with
 |nil=>exact absurd c f
 |cons d l=>
  rw[c]at b;have a:=b d (um ..);simp only[cQ,hh,jF]at a;have g:(d==45)=false:=by rw[di];intro e;rw[e]at a;exact absurd a.1 ak
  have i:(d==43)=false:=by rw[di];intro e;rw[e]at a;exact absurd a.1 ak
  rw[Lib.atoi,g,i];simp only[Lib.decNat,List.isEmpty_cons,lh,rc];rw[Q3 _ _ b];simp only[fx,c,Ab]
theorem HS(a:List UInt8):∀c,(∀b∈a,cQ b=true)->a.foldl (λw b=>10*w+(dk b-48)) c<(c+1)*10^(M a):=by
 induction a with
 |nil=>intro c _;simp
 |cons b a d=>intro c h;have e:=h b (um ..);simp only[cQ,hh,jF]at e;rw[hc];refine cI (d _ (λf g=>h f (uo _ g))) ?_;rw[dT,vy,Gf (10^(M a)) 10,<-Nat.mul_assoc];exact qj _ T
theorem MM(h:mF k):fx k<1000000000:=by
 have:=HS k.data.toList 0 h.2.2;have a:M k.data.toList<=9:=by have:=xs k;rw[fW]at this;have:=h.2.1;omega
 have:10^(M k.data.toList)<=10^9:=sc ak a;unfold fx;omega
theorem Tn(h:mF k)(L:aq):aR prog 165 #[az k] L λe b=>e=aM (b2 #[O Q (fx k),.nilIface])/\aF (S (R L)) L b:=by refine(Any.strconv_Atoi Tryz.lays172 k (fx k) (by have:=h.2.1;omega) (PB h) L).mono ?_;rintro e b ⟨rfl,q,rfl⟩;exact⟨rfl,Go.Joins.below_bytesWorld _ L _ q (aN _)⟩
end
section
attribute [local go_sem↓] Go.wp_at_zero Go.wp_at_succ
def h0(c:co):Array Value:=#[O Q c.ao,O Q c.aX,az c.bn]
theorem bZ.zc(h:bZ o L j r V)(b c:Obj):bZ (aO o (S (R L)+1) 8) (ar (ar L b) c) j r V/\aU o L (aO o (S (R L)+1) 8) (ar (ar L b) c):=
 ⟨((h.kx (λu d=>cR _ _ _ _ T)).a b).a c,⟨λu d=>cR _ _ _ _ T,(((aU.l o L).a b).a c).db⟩⟩
theorem r1(h:bZ o L j r V)(z:dw V.a7)(a i:Nat)(gE:i<=1000000000)(gF:a<=1000000000):
 aR prog 131 #[aD (some ⟨j,0,none⟩),O Q a,O Q i] L λe b=>e=aM (O Q V.k)/\hz o L j (V.bp a i) b:=by
 have t:=z.a1;by_cases f:V.af.ao=2
 ·have x:mF V.af.bn:=z.RU f;have A:2<=M V.a7:=z.f9 (by show 2<=V.af.ao;omega);have gL:=MM x;have s:ag (V.k=fx V.af.bn):=by show _=_;unfold aA.k;rw[aP f]
  have J:((V.af.ao:Int)!=2)=false:=by simp[f]
  have B:=Tn x;by_cases u:fx V.af.bn<a\/i<fx V.af.bn
  ·have y:ag (V.bp a i={V.c with e1:=kR V.e1 V.af.aX}):=by show _=_;unfold aA.bp;rw[aP f,aP u]
   clear f x;by_cases g1:fx V.af.bn<a
   ·have v:(fx V.af.bn:Int)<(a:Int):=by omega
    have I:decide ((fx V.af.bn:Int)<(a:Int))=true:=by simpa using v
    clear u;go_enter func131,ntmps131;go_wp2_with(first|(go_at_call 83;refine(hw h t).mono ?_;rintro e b ⟨rfl,k,rfl⟩)|(go_at_call 164;obtain⟨l,m⟩:=h.zc k (aw (h0 V.af) 141);refine(og l A).mono ?_;rintro e cn ⟨rfl,q,g⟩;have c:=g.z (X:=S (R L)+1) (cy _ _ _) (cB _ _ _ av);have fo:=c.aa 1;have dt:=c.aa 2;simp only[h0]at fo dt;simp at fo dt)|(go_at_call 165;refine(B _).mono ?_;rintro e C ⟨rfl,d⟩;have K:=(d.cell (p:=⟨S (R L)+1,1,none⟩) c.am).trans fo;have w:=q.bI d;have D:=(m.trans g).bI d;clear q g m l c fo dt d))
    go_region_with (first|(go_at_call 166;refine(Da (w.E _) _).mono ?_;rintro e P ⟨rfl,E,F,G,H⟩))
    all_goals
     go_wp2;go_ret;rw[s.out,y.out];exact⟨rfl,E,F,G,(D.E _).trans H⟩
   ·have v:¬(fx V.af.bn:Int)<(a:Int):=by omega
    have gf:(i:Int)<(fx V.af.bn:Int):=T;have I:decide ((fx V.af.bn:Int)<(a:Int))=false:=by simpa using v
    clear u;go_enter func131,ntmps131;go_wp2_with(first|(go_at_call 83;refine(hw h t).mono ?_;rintro e b ⟨rfl,k,rfl⟩)|(go_at_call 164;obtain⟨l,m⟩:=h.zc k (aw (h0 V.af) 141);refine(og l A).mono ?_;rintro e cn ⟨rfl,q,g⟩;have c:=g.z (X:=S (R L)+1) (cy _ _ _) (cB _ _ _ av);have fo:=c.aa 1;have dt:=c.aa 2;simp only[h0]at fo dt;simp at fo dt)|(go_at_call 165;refine(B _).mono ?_;rintro e C ⟨rfl,d⟩;have K:=(d.cell (p:=⟨S (R L)+1,1,none⟩) c.am).trans fo;have w:=q.bI d;have D:=(m.trans g).bI d;clear q g m l c fo dt d))
    go_region_with (first|(go_at_call 166;refine(Da (w.E _) _).mono ?_;rintro e P ⟨rfl,E,F,G,H⟩))
    all_goals
     go_wp2;go_ret;rw[s.out,y.out];exact⟨rfl,E,F,G,(D.E _).trans H⟩
  ·have y:ag (V.bp a i=V.c):=by show _=_;unfold aA.bp;rw[aP f,aH u];rfl
   have v:¬(fx V.af.bn:Int)<(a:Int):=T;have gf:¬(i:Int)<(fx V.af.bn:Int):=T;have I:decide ((fx V.af.bn:Int)<(a:Int))=false:=by simpa using v
   clear f u x;go_enter func131,ntmps131;go_wp2_with(first|(go_at_call 83;refine(hw h t).mono ?_;rintro e b ⟨rfl,k,rfl⟩)|(go_at_call 164;obtain⟨l,m⟩:=h.zc k (aw (h0 V.af) 141);refine(og l A).mono ?_;rintro e cn ⟨rfl,q,g⟩;have c:=g.z (X:=S (R L)+1) (cy _ _ _) (cB _ _ _ av);have fo:=c.aa 1;have dt:=c.aa 2;simp only[h0]at fo dt;simp at fo dt)|(go_at_call 165;refine(B _).mono ?_;rintro e C ⟨rfl,d⟩))
   go_ret;rw[s.out,y.out];exact⟨rfl,_,_,q.bI d,(m.trans g).bI d⟩
 ·have J:((V.af.ao:Int)!=2)=true:=by simp;omega
  have s:ag (V.k=0/\V.bp a i=V.P):=⟨by unfold aA.k;rw[aH f],by unfold aA.bp;rw[aH f]⟩;clear f;go_enter func131,ntmps131;go_wp2_with(first|(go_at_call 83;refine(hw h t).mono ?_;rintro e b ⟨rfl,k,rfl⟩)|(go_at_call 163;refine(yD ((h.a k).a _) t).mono ?_;rintro e C ⟨rfl,gg,gj,w,gC⟩))
  go_ret;rw[s.out.1,s.out.2];exact⟨rfl,gg,gj,w,(((aU.l o L).a k).a _).trans gC⟩
end
structure jz (n:Nat) (V:aA):Prop where
 bq:dw V.a7
 b0:V.a7.length<=n
 dL:V.dL<=4000
 cF:V.cU.isSome=true
 bU:V.bU+V.a7.length<=2000
theorem jz.eD{w:Nat}{V a:aA}(h:jz w V)(u:ig 0 V a):jz w a:=
 ⟨u.bq,bS u.b0 h.b0,by have:=u.dL;have:=h.dL;omega,u.cF h.cF,by have:=u.b0;have:=u.bU;have:=h.bU;omega⟩
theorem jz.c(b:dw V.a7)(e:M V.a7<=w)(f:V.dL<=4002)(d:V.cU.isSome=true)(g:V.bU+M V.a7<=2000)(a:2<=M V.a7):jz w V.c:=
 ⟨b.mn a,by rw[hm];omega,by have:=rN a;omega,d,by rw[hm];show V.bU+_<=_;omega⟩
theorem aA.wz(V:aA):M V.gg<=V.dL:=by unfold aA.dL;omega
def l_(c h:Nat)(i:aA->aA)(N:Nat):Prop:=∀(g:Nat->Nat) (L:aq) (l:lP) (f:aA),bZ g L c l f->jz h f->aR prog N #[aD (some ⟨c,0,none⟩)] L λe m=>e=aM (b2 #[])/\hz g L c (i f) m
theorem BQ(h:bZ o L j r V)(a:V.cU.isSome=true)(c:V.dL<=10000)(q:ByteArray):
 aR prog 245 #[aD (some ⟨j,0,none⟩),dA #[az q,O Q 0,az ⟨#[]⟩,O Q 0]] L λe b=>e=aM (b2 #[])/\hz o L j (V.aO ⟨q,0,⟨#[]⟩,0⟩) b:=by
 obtain⟨d,e⟩:=wP.1 a;exact xd h e (by have:=V.wz;simp only[aA.gg,e,mD]at this;omega) ⟨q,0,⟨#[]⟩,0⟩
structure RT (ep:aA->aA) (bK:List ByteArray) (n:Nat) (ew:aA) (ab:Nat->Nat) (L:aq) (X:Nat) (Y:Nat) (bl:Nat->Nat) (j1:lP) (bW:aA) (wr:aq):Prop where
 aV:bZ bl wr X j1 bW
 bo:aU ab L bl wr
 nF:ag (jw ep bK Y bW=ew)
 HB:bW.a7.length<=Y
 bq:dw bW.a7
 b0:bW.a7.length<=n
 dL:bW.dL<=4001
 cF:bW.cU.isSome=true
 bU:bW.bU+bW.a7.length<=2000
def D8(c:aA->aA)(e:List ByteArray)(f:Nat)(g:aA)(h:Nat->Nat)(L:aq)(i:Nat)(l:Nat)(wr:aq):Prop:=∃m p s,RT c e f g h L i l m p s wr
theorem OL{a:aA->aA}(h:V.m d=false):jw a d u V=V:=by
 cases u with
 |zero=>rfl
 |succ u=>rw[jw,aH (by simp[h])]
theorem K0{a:aA->aA}(h:V.m d=true):jw a d (u+1) V=jw a d u ((a V.c).aO ⟨V.af.bn,0,⟨#[]⟩,0⟩):=by rw[jw,aP h]
theorem S2{J:Nat}{c:aA->aA}(K:jU w J c)(mY:J<=1)(P:l_ j w c N)(m5:∀args L,(callFunc N args).run prog L=.ok (.enter N args) L)(t:∀k∈d,k∈dd)(gf:M d<=10)(h:bZ o L j r V)(f:jz w V){p A:Nat}(iR:A=M d)(gg:aL L p (mh d) y)(gj:o p=8):
 aR prog 239 #[aD (some ⟨j,0,none⟩),.func (.func N) #[aD (some ⟨j,0,none⟩)] #[],U (some ⟨p,0,none⟩) A A] L λe b=>e=aM (b2 #[])/\hz o L j (jS c d V) b:=by
 subst iR;obtain⟨m,B⟩:∃m,ag (jS c d V=m):=⟨_,rfl⟩;rw[B.out];have g:=K V f.bq f.b0;have gC:=P o L r V h f;have C:∀cn,hz o L j (c V) cn->D8 c d w m o L j (M (c V).a7) cn:=by rintro cn ⟨iU,iZ,i0,i1⟩;exact⟨iU,iZ,c V,i0,i1,B,aN _,g.bq,bS g.b0 f.b0,by have:=g.dL;have:=f.dL;omega,g.cF f.cF,by have:=g.b0;have:=g.bU;have:=f.bU;omega⟩
 obtain⟨D,gE⟩:∃D,ag (M (c V).a7=D):=⟨_,rfl⟩;rw[gE.out]at C;clear B gE g f h;go_enter func239,ntmps239;go_wp2_with(go_at_fn N;refine gC.mono ?_;rintro e cn ⟨rfl,gF⟩);have gL:=C cn gF;clear C gF gC
 go_loopg [6] D (λu _ wr=>D8 c d w m o L j u wr)
 case atStart=>exact gL
 case round=>
  obtain⟨i2,ne,a,g1,x,hu,nB,z,jt,nG,jW,j4⟩:=hrel;clear gL;have hE:=x.z gj gg;have hS:i2 p=8:=(x.ci p gg.am).trans gj;cases i:a.m d with
  |false=>have l:ag (a.I d=⟨#[]⟩/\a.dE d=a/\a=m):=⟨by simp[aA.I,i],by simp[aA.dE,i],(OL i).symm.trans hu.out⟩;have q:=vz g1 z t gf rfl hE hS;rw[l.out.1,l.out.2.1]at q;go_wp2_with(go_at_call 162;refine q.mono ?_;rintro e hV ⟨rfl,E,F,G,H⟩);exact dG (v:=b2 #[]) (results_none bf _ _ _) rfl ⟨rfl,E,F,by rw[<-l.out.2.2];exact G,x.trans H⟩
  |true=>
   have hZ:=z.m t i;obtain⟨u,rfl⟩:∃u,gk=u+1:=⟨gk-1,T⟩;have f:=jz.c z jt T jW j4 hZ;have g:=K _ f.bq f.b0;have s:=sZ g.bq ⟨a.af.bn,0,⟨#[]⟩,0⟩;have j9:(aJ (a.I d)==[])=false:=by rw[AX t,i];rfl
   have l:ag (a.I d=a.af.bn/\a.dE d=a.c/\jw c d u ((c a.c).aO ⟨a.af.bn,0,⟨#[]⟩,0⟩)=m):=⟨by simp[aA.I,i],by simp[aA.dE,i],(K0 i).symm.trans hu.out⟩;have q:=vz g1 z t gf rfl hE hS;rw[l.out.1]at j9;rw[l.out.1,l.out.2.1]at q;have ih:ag (((c a.c).aO ⟨a.af.bn,0,⟨#[]⟩,0⟩).dL<=4001/\(c a.c).dL<=10000):=by have kp:=rN hZ;have kr:=g.dL;have kx:=s.dL;exact⟨T,T⟩
   have I:ag (M ((c a.c).aO ⟨a.af.bn,0,⟨#[]⟩,0⟩).a7+1<=M a.a7):=by have kp:=hm a;have kr:=g.b0;have kx:=s.b0;show _<=_;omega
   have k1:ag (((c a.c).aO ⟨a.af.bn,0,⟨#[]⟩,0⟩).bU=a.bU):=s.bU.trans g.bU;generalize a.af.bn=k7 at*;clear i;go_wp2_with(first|(go_at_call 162;refine q.mono ?_;rintro e hV ⟨rfl,E,F,G,H⟩)|(go_at_fn N;refine(P E hV F _ G f).mono ?_;rintro e oa ⟨rfl,ob,oH,lo,l8⟩)|(go_at_call 245;refine(BQ lo (g.cF f.cF) ih.out.2 k7).mono ?_;rintro e oS ⟨rfl,me,mn,mO,mR⟩))
   go_roundg u
   case measure=>omega
   case rel=>exact⟨me,mn,_,mO,((x.trans H).trans l8).trans mR,l.out.2.2,by have:=I.out;omega,s.bq,by have:=I.out;omega,ih.out.1,s.cF (g.cF f.cF),by have:=I.out;have:=k1.out;omega⟩
