import Derived.Test.YtddbjcfdmdbmkaaGreatDoorB16
set_option linter.all false
set_option maxRecDepth 100000
set_option maxHeartbeats 1600000
namespace Go.Proofs.YtddbjcfdmdbmkaaGreatDoor
open Go.RowKit Go.Proofs.Tryz
open Go.Value renaming int->O,string->az
open _root_.ByteArray renaming size->aW,toList->aJ
open Go.World renaming cell?->aK,heap->R
open List renaming length->M
variable{L b k:List UInt8}{bK:List ByteArray}{aG:co}{o:aA->aA×List aB}{d a j:Nat}{c:ByteArray}
theorem Tryz.My:(prog.info? 245).map (λa=>(a.zero,a.size,a.bytes))=some (some (.agg #[az ⟨#[]⟩,O .i64 0]),2,24):=by kernel_rfl
def mV(e:ByteArray):Bool:=aJ e==[97]||aJ e==[98]||aJ e==[99]||aJ e==[116]
def d2(f:List ByteArray)(e:c0):ByteArray×Nat:=(e.g8,if mV e.g8 then ma e.name f else e.lM)
def kM(e:ByteArray×Nat):List Value:=[az e.1,O .i64 e.2]
theorem vc{a:Prop}(h:a:=by simp[kM,Value.oneCell']):a:=h
theorem Kc(ah:c0->ByteArray×Nat)(b:List c0)(d:Nat)(h:d<M b):(b.take (d+1)).map ah=(b.take d).map ah++[ah b[d]]:=by rw[ev h,dv];rfl
theorem QT{L:World}{N gf l hV:Nat}{c:List c0}{b:List ByteArray}(hZ:l<(R L).size)(gg:∀d,(i:d<M c)->aK L ⟨l,d*4,none⟩=some (az c[d].g8)/\aK L ⟨l,d*4+1,none⟩=some (O .i64 c[d].lM)/\aK L ⟨l,d*4+2,none⟩=some (az c[d].name)/\aK L ⟨l,d*4+3,none⟩=some (O .i64 c[d].aX))(jt:M c<=1000000)(ih:N<(R L).size)(gj:∀d,(i:d<M b)->aK L ⟨N,d,none⟩=some (az b[d]))(iR:1<=M b)(iU:M b<=1000000):
 Calls prog 90 #[.slice (some ⟨l,0,none⟩) (M c) hV,.slice (some ⟨N,0,none⟩) (M b) gf] L λe gC=>∃j,e=.returned j/\gC.ownsRow (R L).size 245 2 j (M c) (bC kM (c.map (d2 b)))/\Below (R L).size L gC:=by
 obtain⟨u,v,w,x,y⟩:=dY Tryz.My;go_enter func90,ntmps90;go_wp2
 go_loopw [5,11] (λj r wr=>∃(d:Nat) (f:List (ByteArray×Nat)),d<=M c/\r=O .i64 d/\f=(c.take d).map (d2 b)/\wr.ownsRow (R L).size 245 2 j (M f) (bC kM f)/\Below (R L).size L wr) (λ_ r _=>M c-(intOf r).toNat)
 case atStart=>exact⟨0,[],bL _,rfl,rfl,eE _ _ _ _,ca _ _⟩
 case round=>
  obtain⟨d,f,i,rfl,t,h,g⟩:=hrel;have gE:M f=d:=by rw[t,c_,hT];omega
  obtain⟨jW,j4,j9,rfl⟩:=dr h;have kp:=g.size;by_cases s:d<M c
  ·obtain⟨gF,gL,g1,hu⟩:=gg d s;have z:∀r J,aK L ⟨l,d*4+r,none⟩=some J->aK wr ⟨l,d*4+r,none⟩=some J:=λr J e=>(g.cell (p:=⟨l,d*4+r,none⟩) hZ).trans e
   have iZ:=z 0 _ gF;have kr:=z 1 _ gL;have kx:=z 2 _ g1;have k1:=z 3 _ hu;rw[pC]at iZ;have A:Hid ((c.take (d+1)).map (d2 b)=f++[d2 b c[d]]):=by show _=_;rw[Kc _ _ _ s,t]
   have k7:(d:Int)<(M c:Int):=T;have lo:(0:Int)<=(d:Int):=T;have C:=JL (L:=wr.alloc (.cells #[az c[d].g8,O .i64 c[d].lM,az c[d].name,O .i64 c[d].aX] 241)) (name:=c[d].name) (N:=N) (b1:=gf) (bs:=b) (λhE i0=>((g.alloc g.size _).cell (p:=⟨N,hE,none⟩) ih).trans (gj hE i0)) iR iU;generalize c[d]=a at*;clear gg gj z gF gL g1 hu t;have l8:M f<=1000000:=T;clear gE;cases B:aJ a.g8==[97]with
   |true=>
    have m:Hid (d2 b a=(a.g8,(ma a.name b))):=by show _=_;unfold d2 mV;simp[B]
    go_wp2_with(first|(go_at_call 140;refine C.mono ?_;rintro e K ⟨rfl,k⟩;rw[k];clear k)|(at_builtin;refine dq _ rfl (.tmp 28) (.tmp 33) 191 rfl (R L).size 245 u _ 2 24 underlying191 v w x y rfl ak _ (M f) (bC kM f) bf ((h.alloc _).alloc _) ⟨(R wr).size+1,0,none⟩ 1 1 (kM (a.g8,(ma a.name b))) bf rfl (c4 (cB _ _ _ av)) vc ak cN T b7 ((R wr).size+1+1) av ?_;intro D E F o q G H))
    go_roundw
    case rel=>exact⟨d+1,f++[d2 b a],s,bE,by rw[A.out],(by rw[m.out,jc,bV];exact o),eY ((g.alloc g.size _).alloc (by simp;have:=g.size;omega) _) q (λd i=>(h.lt d i).1)⟩
    case measure=>simp[intOf];omega
   |false=>
    cases I:aJ a.g8==[98]with
    |true=>
     have m:Hid (d2 b a=(a.g8,(ma a.name b))):=by show _=_;unfold d2 mV;simp[B,I]
     go_wp2_with(first|(go_at_call 140;refine C.mono ?_;rintro e K ⟨rfl,k⟩;rw[k];clear k)|(at_builtin;refine dq _ rfl (.tmp 28) (.tmp 33) 191 rfl (R L).size 245 u _ 2 24 underlying191 v w x y rfl ak _ (M f) (bC kM f) bf ((h.alloc _).alloc _) ⟨(R wr).size+1,0,none⟩ 1 1 (kM (a.g8,(ma a.name b))) bf rfl (c4 (cB _ _ _ av)) vc ak cN T b7 ((R wr).size+1+1) av ?_;intro D E F o q G H))
     go_roundw
     case rel=>exact⟨d+1,f++[d2 b a],s,bE,by rw[A.out],(by rw[m.out,jc,bV];exact o),eY ((g.alloc g.size _).alloc (by simp;have:=g.size;omega) _) q (λd i=>(h.lt d i).1)⟩
     case measure=>simp[intOf];omega
    |false=>
     cases P:aJ a.g8==[99]with
     |true=>
      have m:Hid (d2 b a=(a.g8,(ma a.name b))):=by show _=_;unfold d2 mV;simp[B,I,P]
      go_wp2_with(first|(go_at_call 140;refine C.mono ?_;rintro e K ⟨rfl,k⟩;rw[k];clear k)|(at_builtin;refine dq _ rfl (.tmp 28) (.tmp 33) 191 rfl (R L).size 245 u _ 2 24 underlying191 v w x y rfl ak _ (M f) (bC kM f) bf ((h.alloc _).alloc _) ⟨(R wr).size+1,0,none⟩ 1 1 (kM (a.g8,(ma a.name b))) bf rfl (c4 (cB _ _ _ av)) vc ak cN T b7 ((R wr).size+1+1) av ?_;intro D E F o q G H))
      go_roundw
      case rel=>exact⟨d+1,f++[d2 b a],s,bE,by rw[A.out],(by rw[m.out,jc,bV];exact o),eY ((g.alloc g.size _).alloc (by simp;have:=g.size;omega) _) q (λd i=>(h.lt d i).1)⟩
      case measure=>simp[intOf];omega
     |false=>
      cases hS:aJ a.g8==[116]with
      |true=>
       have m:Hid (d2 b a=(a.g8,(ma a.name b))):=by show _=_;unfold d2 mV;simp[B,I,P,hS]
       go_wp2_with(first|(go_at_call 140;refine C.mono ?_;rintro e K ⟨rfl,k⟩;rw[k];clear k)|(at_builtin;refine dq _ rfl (.tmp 28) (.tmp 33) 191 rfl (R L).size 245 u _ 2 24 underlying191 v w x y rfl ak _ (M f) (bC kM f) bf ((h.alloc _).alloc _) ⟨(R wr).size+1,0,none⟩ 1 1 (kM (a.g8,(ma a.name b))) bf rfl (c4 (cB _ _ _ av)) vc ak cN T b7 ((R wr).size+1+1) av ?_;intro D E F o q G H))
       go_roundw
       case rel=>exact⟨d+1,f++[d2 b a],s,bE,by rw[A.out],(by rw[m.out,jc,bV];exact o),eY ((g.alloc g.size _).alloc (by simp;have:=g.size;omega) _) q (λd i=>(h.lt d i).1)⟩
       case measure=>simp[intOf];omega
      |false=>
       have m:Hid (d2 b a=(a.g8,a.lM)):=by show _=_;unfold d2 mV;simp[B,I,P,hS]
       go_wp2_with(first|(at_builtin;refine dq _ rfl (.tmp 28) (.tmp 33) 191 rfl (R L).size 245 u _ 2 24 underlying191 v w x y rfl ak _ (M f) (bC kM f) bf ((h.alloc _).alloc _) ⟨(R wr).size+1,0,none⟩ 1 1 (kM (a.g8,a.lM)) bf rfl (c4 (cB _ _ _ av)) vc ak cN T b7 ((R wr).size+1+1) av ?_;intro D E F o q G H))
       go_roundw
       case rel=>exact⟨d+1,f++[d2 b a],s,bE,by rw[A.out],(by rw[m.out,jc,bV];exact o),eY ((g.alloc g.size _).alloc (by simp;have:=g.size;omega) _) q (λd i=>(h.lt d i).1)⟩
       case measure=>simp[intOf];omega
  ·have i1:d=M c:=by omega
   subst i1;rw[eQ]at t;have i2:Hid (f=c.map (d2 b)):=t;clear t;go_wp2;go_ret;rw[<-i2.out];rw[gE]at h;exact⟨_,rfl,h,g⟩
structure FX (ah:Nat->Nat) (N:co->co):Prop where
 pe:ah 0=0
 Nq:∀ai,N ⟨0,ai,⟨#[]⟩⟩=⟨0,ah ai,⟨#[]⟩⟩
 xE:∀aG,((N aG).ao=2)=(aG.ao=2)
 wN:∀aG,((N aG).ao=3)=(aG.ao=3)
 aX:∀aG,(N aG).aX=ah aG.aX
 bn:∀aG,aG.ao≠2->(N aG).bn=aG.bn
 zU:∀aG,∀Y∈dd,(Y.toList==(N aG).bn.toList)=(Y.toList==aG.bn.toList)
 gX:∀aG,fx (N aG).bn=fx aG.bn
def sA(ah:Nat->Nat)(e:c0):c0:={e with aX:=ah e.aX}
mutual
def jI(ah:Nat->Nat):aB->aB
 |.fA e f g h i l=>.fA e (ah f) g h (i.map (sA ah)) (uy ah l)
def vV(ah:Nat->Nat):List aB->List aB
 |[]=>[]
 |e::f=>jI ah e::vV ah f
def uy(ah:Nat->Nat):List (List aB)->List (List aB)
 |[]=>[]
 |e::f=>vV ah e::uy ah f
end
theorem N2(ah:Nat->Nat)(b:List aB):vV ah b=b.map (jI ah):=by
 induction b with
 |nil=>rw[vV];rfl
 |cons c b a=>rw[vV,a];rfl
theorem Rg(ah:Nat->Nat)(b:List (List aB)):uy ah b=b.map (List.map (jI ah)):=by
 induction b with
 |nil=>rw[uy];rfl
 |cons c b a=>rw[uy,a,N2];rfl
theorem uh(ah:Nat->Nat)(a:ByteArray)(b aG d:Nat)(c:List c0)(e:List (List aB)):jI ah (.fA a b aG d c e)=.fA a (ah b) aG d (c.map (sA ah)) (e.map (List.map (jI ah))):=by rw[jI,Rg]
def dU(ah:Nat->Nat)(N:co->co)(e:aA):aA:=⟨e.a7.map N,e.bU,e.fZ.map ah,e.e1.map ah,e.cU.map (·.map (sA ah))⟩
theorem Qc{a b:ByteArray}(h:aJ a=aJ b):a=b:=by rw[fW,fW]at h;cases a;cases b;simp only at h;congr 1;exact rK.1 h
section
variable {ah:Nat->Nat} {N:co->co}
theorem GW(bh:FX ah N)(a:Nat):N ⟨0,a,⟨#[]⟩⟩=⟨0,ah a,⟨#[]⟩⟩:=bh.Nq a
theorem mu(bh:FX ah N)(a:aA):(dU ah N a).af=N a.af:=by
 cases a with|mk b c aG d e=>
 cases b with
 |nil=>show default=N default;have:=GW bh 0;rw[bh.pe]at this;exact this.symm
 |cons _ _=>rfl
theorem nO(a:aA):(dU ah N a).c=dU ah N a.c:=by cases a with|mk b c aG d e=>cases b<;>rfl
theorem wu(bh:FX ah N)(a:aA):(dU ah N a).P=dU ah N a.P:=by unfold aA.P;rw[mu bh,bh.aX];unfold dU;simp only[hB,pB];rw[GW bh]
theorem ro(bh:FX ah N)(d:aA)(h:∀aG∈bK,aG∈dd):(dU ah N d).m bK=d.m bK:=by
 unfold aA.m;rw[mu bh];rw[nM,jf,jf];constructor
 ·rintro⟨a,b,c⟩;exact⟨a,b,by rw[<-bh.zU _ _ (h a b)];exact c⟩
 ·rintro⟨a,b,c⟩;exact⟨a,b,by rw[bh.zU _ _ (h a b)];exact c⟩
theorem HC(bh:FX ah N)(a:aA)(h:∀aG∈bK,aG∈dd)(b:a.m bK=true):(N a.af).bn=a.af.bn:=by unfold aA.m at b;rw[jf]at b;obtain⟨c,e,d⟩:=b;have:=bh.zU a.af c (h c e);rw[d]at this;exact Qc ((gT.1 this).symm.trans (gT.1 d))
theorem uS(bh:FX ah N)(a:aA){aG:ByteArray}(h:aG∈dd):(dU ah N a).af.bH aG=a.af.bH aG:=by have:=ro bh a (bK:=[aG]) (by simpa using h);unfold aA.m at this;simp only[oo,qh,oZ]at this;unfold co.bH;rw[nM]at this⊢;simp only[gT]at this⊢;exact⟨λe=>(this.1 e.symm).symm,λe=>(this.2 e.symm).symm⟩
theorem Q5(bh:FX ah N)(a:aA):((dU ah N a).af.ao=2)=(a.af.ao=2):=by rw[mu bh,bh.xE]
theorem E3(bh:FX ah N)(a:aA):((dU ah N a).af.ao=3)=(a.af.ao=3):=by rw[mu bh,bh.wN]
theorem G0(bh:FX ah N)(a:aA)(h:∀aG∈bK,aG∈dd):(dU ah N a).I bK=a.I bK:=by
 unfold aA.I;rw[ro bh a h];split
 ·rename_i b;rw[mu bh,HC bh a h b]
 ·rfl
theorem pY(bh:FX ah N)(a:aA)(h:∀aG∈bK,aG∈dd):(dU ah N a).bx bK=dU ah N (a.bx bK):=by
 unfold aA.bx;rw[ro bh a h];split
 ·exact nO a
 ·exact wu bh a
theorem DO(k:Option Nat)(a:Nat):kR (k.map ah) (ah a)=(kR k a).map ah:=by cases k<;>rfl
theorem tW(bh:FX ah N)(a:aA):(dU ah N a).k=a.k:=by unfold aA.k;simp only[mu bh,bh.xE,bh.gX]
theorem tf(bh:FX ah N)(a:aA)(b c:Nat):(dU ah N a).bp b c=dU ah N (a.bp b c):=by
 unfold aA.bp;simp only[mu bh,bh.xE,bh.gX,bh.aX,nO];split
 ·unfold dU;simp only;congr 1;show(if _ then kR (a.e1.map ah) (ah a.af.aX)else a.e1.map ah)=_;rw[DO];split<;>rfl
 ·exact wu bh a
theorem Ax(bh:FX ah N)(a:aA):(dU ah N a).p=dU ah N a.p:=by unfold aA.p;rw[mu bh,bh.aX,nO];unfold dU;simp only;congr 1;show(if _ then kR (a.fZ.map ah) (ah a.af.aX)else a.fZ.map ah)=_;rw[DO];split<;>rfl
theorem zD(a:aA):(dU ah N a).J=dU ah N a.J:=rfl
theorem EG(a:aA)(b:c0):(dU ah N a).aO (sA ah b)=dU ah N (a.aO b):=by unfold aA.aO dU;simp only;congr 1;cases a.cU<;>simp
theorem M5(bh:FX ah N)(b:ByteArray)(a:Nat)(c:ByteArray):sA ah ⟨b,a,c,0⟩=⟨b,a,c,0⟩:=by unfold sA;rw[bh.pe]
theorem yg(bh:FX ah N)(b:aA)(c:ByteArray)(a:Nat)(d:ByteArray):(dU ah N b).aO ⟨c,a,d,0⟩=dU ah N (b.aO ⟨c,a,d,0⟩):=by have:=EG (ah:=ah) (N:=N) b ⟨c,a,d,0⟩;rw[M5 bh]at this;exact this
theorem Bp(a:aA):M (dU ah N a).a7=M a.a7:=by unfold dU;simp
def pn(ah:Nat->Nat)(N:co->co)(e:aA->aA):Prop:=∀f,e (dU ah N f)=dU ah N (e f)
theorem QU(bh:FX ah N){c:aA->aA}(d:pn ah N c)(h:∀aG∈bK,aG∈dd):∀a,pn ah N (jw c bK a):=by
 intro a
 induction a with
 |zero=>intro b;rfl
 |succ a e=>
  intro b;unfold jw;rw[ro bh b h];split
  ·rename_i f;rw[mu bh,HC bh b h f,nO,d,yg bh,e]
  ·rfl
theorem yL(bh:FX ah N){a:aA->aA}(b:pn ah N a)(h:∀aG∈bK,aG∈dd):pn ah N (jS a bK):=by intro c;unfold jS;rw[b,Bp,QU bh b h]
theorem HH(bh:FX ah N)(b:aA)(name:ByteArray)(c:Nat):jy (dU ah N b) name (ah c)=dU ah N (jy b name c):=by unfold jy;rw[nO,pY bh _ bJ,pY bh _ (by intro aG a;simp only[dd,dm];exact .inr a),G0 bh _ (by intro aG a;simp only[dd,dm];exact .inr a)];rw[<-EG];rfl
theorem zi(bh:FX ah N){a:aA->aA}(b:pn ah N a):pn ah N (gU a):=
 yL bh (yL bh b bJ) bJ
theorem La(bh:FX ah N):∀a,pn ah N (dS a):=by
 intro a
 induction a with
 |zero=>intro b;rfl
 |succ a c=>
  intro b;unfold dS;simp only[Q5 bh,E3 bh];rw[uS bh b (aG:=gM) bJ,uS bh b (aG:=hk) bJ,uS bh b (aG:=pb) bJ];split
  ·rw[tf bh,tW bh,yg bh]
  ·split
   ·rw[Ax bh,c,zD,yg bh]
   ·split
    ·rw[Ax bh,zi bh c,pY bh _ bJ,zD]
    ·split
     ·rename_i d;rw[mu bh,bh.bn _ T,bh.aX,HH bh]
     ·split
      ·have:=HH bh b ⟨#[]⟩ 0;rw[bh.pe]at this;exact this
      ·exact wu bh b
theorem Pf(bh:FX ah N){a:aA->aA}(b:pn ah N a):pn ah N (oR a):=by
 intro e;have c:∀aG∈gz,aG∈dd:=by intro aG d;simp only[dd,dm];exact .inl (.inr d)
 unfold oR;rw[zi bh b,pY bh _ c,G0 bh _ c,zi bh b,yg bh]
theorem AJ(bh:FX ah N)(a:Nat):pn ah N (el a):=by
 intro b;unfold el;rw[ro bh b bJ];split
 ·have:=yL bh (yL bh (Pf bh (La bh a)) (bK:=[lT]) bJ) (bK:=[iI]) bJ {b.c with cU:=some []};show jS (nW (dS a)) [iI] _=_;unfold nW;rw[<-this];congr 1;rw[nO];rfl
 ·rfl
theorem zE(a:aA):(dU ah N a).gg=a.gg.map (sA ah):=by unfold aA.gg dU;simp only;cases a.cU<;>simp
theorem An(a:aA):(dU ah N a).hS=dU ah N a.hS:=rfl
def yj(ah:Nat->Nat)(N:co->co)(e:aA->aA×aB):Prop:=∀f,e (dU ah N f)=(dU ah N (e f).1,jI ah (e f).2)
def zJ(ah:Nat->Nat)(N:co->co)(e:aA->aA×List aB):Prop:=∀f,e (dU ah N f)=(dU ah N (e f).1,(e f).2.map (jI ah))
theorem NW(bh:FX ah N)(a:Nat)(b:aA)(c:b.af.ao=3):gS a (dU ah N b)=(dU ah N (gS a b).1,jI ah (gS a b).2):=by
 unfold gS;simp only;rw[mu bh,bh.bn _ T,bh.aX,nO,pY bh _ bJ,tf bh,tW bh,ro bh _ bJ];split
 ·rw[nO,tf bh,tW bh,AJ bh,zE,An,uh];rfl
 ·rw[AJ bh,zE,An,uh];rfl
theorem L3(bh:FX ah N)(a:Nat)(b:aA):iE a (dU ah N b)=(dU ah N (iE a b).1,jI ah (iE a b).2):=by unfold iE;simp only;rw[mu bh,bh.aX,nO,tf bh,tW bh,AJ bh,zE,An,uh];rfl
theorem QK(bh:FX ah N){d:aA->aA×aB}(e:yj ah N d):∀a c b,gn d a (dU ah N c) (b.map (jI ah))=(dU ah N (gn d a c b).1,(gn d a c b).2.map (jI ah)):=by
 intro a
 induction a with
 |zero=>intro c b;rfl
 |succ a f=>
  intro c b;unfold gn;rw[ro bh c bJ];split
  ·rw[nO,e];simp only;rw[<-f,dv];rfl
  ·rfl
theorem GD(bh:FX ah N){a:aA->aA×aB}(b:yj ah N a):zJ ah N (km a):=by intro c;unfold km;rw[b];simp only;rw[Bp];exact QK bh b _ _ [(a c).2]
theorem PO(bh:FX ah N)(d:zJ ah N o):∀a c b,fm o a (dU ah N c) (b.map (List.map (jI ah)))=(dU ah N (fm o a c b).1,(fm o a c b).2.map (List.map (jI ah))):=by
 intro a
 induction a with
 |zero=>intro c b;rfl
 |succ a e=>
  intro c b;unfold fm;rw[ro bh c bJ];split
  ·rw[nO,d];simp only;rw[<-e,dv];rfl
  ·rfl
theorem Oa(bh:FX ah N)(b:zJ ah N o):yj ah N (h9 o):=by intro a;unfold h9;simp only;rw[Ax bh,b];simp only;rw[pY bh _ bJ,b];simp only;rw[Bp];have:=PO bh b (M (o ((o a.p).1.bx [dO])).1.a7) (o ((o a.p).1.bx [dO])).1 [(o a.p).2,(o ((o a.p).1.bx [dO])).2];simp only[hB,pB]at this;rw[this];simp only;rw[pY bh _ bJ,zD,uh,bh.pe];rfl
theorem Cm(bh:FX ah N):jI ah default=default:=by show jI ah (.fA ⟨#[]⟩ 0 0 0 [] [])=_;rw[uh,bh.pe];rfl
theorem TB(bh:FX ah N):∀a,yj ah N (ha a):=by
 intro a
 induction a with
 |zero=>intro b;show(dU ah N b,default)=(dU ah N b,jI ah default);rw[Cm bh]
 |succ a c=>
  intro b;unfold ha;simp only[E3 bh];rw[uS bh b (aG:=kK) bJ,uS bh b (aG:=hk) bJ];split
  ·rename_i d;exact NW bh a b d
  ·split
   ·exact L3 bh a b
   ·split
    ·exact Oa bh (GD bh c) b
    ·rw[wu bh,Cm bh]
theorem Ke(bh:FX ah N)(a:Nat)(b:aA):l1 a (dU ah N b)=(dU ah N (l1 a b).1,⟨(l1 a b).2.bd,(l1 a b).2.aZ,(l1 a b).2.cJ.map (jI ah)⟩):=by unfold l1;simp only;rw[pY bh _ bJ,tf bh,pY bh _ bJ,tf bh,tW bh,tW bh,GD bh (TB bh a)]
end
theorem Ri{bK:List co}{i:it}{j:Nat}(h:go bK=.inl (i,j)):∃aG∈bK,aG.ao=1:=by
 by_cases b:∃aG∈bK,aG.ao=1
 ·exact b
 exfalso;have bh:FX id (λaG=>if aG.ao=1 then{aG with ao:=0}else aG):=by
  refine⟨rfl,λm=>rfl,λaG=>?_,λaG=>?_,λaG=>?_,λaG=>?_,λaG d _=>?_,λaG=>?_⟩
  ·split
   ·rename_i h;simp[h]
   ·rfl
  ·split
   ·rename_i h;simp[h]
   ·rfl
  all_goals first|(intro _;split<;>rfl)|(split<;>rfl)
 have e:bK.map (λaG=>if aG.ao=1 then{aG with ao:=0}else aG)=bK:=by refine(sa (g:=id) λaG k=>?_).trans (List.map_id _);rw[aH (λe=>b ⟨aG,k,e⟩)];rfl
 have:=Ke bh (M bK) (gD bK);have l:dU id (λaG=>if aG.ao=1 then{aG with ao:=0}else aG) (gD bK)=gD bK:=by show(⟨bK.map _,0,none,none,some []⟩:aA)=_;rw[e];rfl
 rw[l]at this;have a:=mu bh (l1 (M bK) (gD bK)).1;have c:=congrArg Prod.fst this;simp only at c;rw[<-c]at a;unfold go at h;simp only at h;split at h
 ·cases h
 ·rename_i f;have f:(l1 (M bK) (gD bK)).1.af.ao=1:=T;rw[aP f]at a;have:=congrArg co.ao a;simp only at this;omega
def xz:List (List UInt8):=mq.map ([·])++[[60],[62],[33,61],[60,61],[62,61]]
def sV(f:Nat)(L:List UInt8):Prop:=
 (f=2/\1<=M L/\M L<=9/\∀e∈L,cQ e=true)\/
 (f=3/\1<=M L/\M L<=8/\(∀e∈L,ch e=true)/\i6 ⟨L.toArray⟩=false)\/
 (f=4/\1<=M L/\(∀e∈L,ch e=true)/\i6 ⟨L.toArray⟩=true)\/
 (f=5/\L∈xz)
theorem Bk{d:UInt8->Bool}(b:List UInt8):∀c∈b.takeWhile d,d c=true:=by
 induction b with
 |nil=>intro c a;simp at a
 |cons h b f=>
  intro c a;rw[zC]at a;split at a
  ·rename_i g;rcases ek.1 a with e|a
   ·exact e▸g
   ·exact f c a
  ·simp at a
theorem Gs(b:UInt8->Bool)(a:ByteArray):a.data.toList.take (cT b a)=a.data.toList.takeWhile b:=by rw[tu];exact(Mr.1 (RV _)).symm
theorem Fw(b:ByteArray)(a:Nat):b.extract 0 a=⟨(b.data.toList.take a).toArray⟩:=by apply k_;apply rK.1;rw[mL];simp
theorem HJ(h:0<M b):b.take 1=[b.getD 0 0]:=by cases b with|nil=>simp at h|cons a b=>simp
theorem Rf(h:1<M b):b.take 2=[b.getD 0 0,b.getD 1 0]:=by
 match b,h with
 |a::c::b,_=>simp
theorem R_{a:ByteArray}(h:0<aW a)(c:2<=(gu a).1):sV (gu a).1 (a.data.toList.take (gu a).2):=by
 have t:M a.data.toList=aW a:=av
 revert c
 unfold gu nf lA;simp only;split
 ·rename_i k;have j:=uU ch a h k;have e:=Gs ch a;have f:M (a.data.toList.takeWhile ch)=cT ch a:=(tu _ _).symm;split
  ·rename_i g;intro _;refine .inr (.inr (.inl ⟨rfl,?_,?_,?_⟩))
   ·simp only;rw[e,f];exact j
   ·simp only;rw[e];exact Bk _
   ·simp only;rw[Fw]at g;exact g
  ·rename_i g;split
   ·intro c;simp at c
   ·rename_i u;intro _;refine .inr (.inl ⟨rfl,?_,?_,?_,?_⟩)
    ·simp only;rw[e,f];exact j
    ·simp only;rw[e,f];omega
    ·simp only;rw[e];exact Bk _
    ·simp only;rw[Fw]at g;exact j3.2 g
 split
 ·rename_i k;have j:=uU cQ a h k;have e:=Gs cQ a;have f:M (a.data.toList.takeWhile cQ)=cT cQ a:=(tu _ _).symm;split
  ·intro c;simp at c
  ·intro _;refine .inl ⟨rfl,?_,?_,?_⟩
   ·simp only;rw[e,f];exact j
   ·simp only;rw[e,f];omega
   ·simp only;rw[e];exact Bk _
 have l:∀m:UInt8,jv a=true->a.data.toList.getD 0 0=m->[m,61]∈xz->sV 5 (a.data.toList.take 2):=by intro m d q i;unfold jv at d;simp only[hh,jF,gT]at d;rw[Rf T,q,d.2];exact .inr (.inr (.inr ⟨rfl,i⟩))
 split
 ·rename_i o;rw[gT]at o;split
  ·rename_i d;intro _;exact l _ d o ak
  ·intro c;simp at c
 split
 ·rename_i b;simp only[tC,gT]at b;split
  ·rename_i d;intro _;rcases b with b|b
   ·exact l _ d b ak
   ·exact l _ d b ak
  ·intro _;simp only;rw[HJ T];refine .inr (.inr (.inr ⟨rfl,?_⟩));rcases b with b|b<;>(rw[b];decide)
 split
 ·rename_i i;intro _;simp only;rw[HJ T];refine .inr (.inr (.inr ⟨rfl,?_⟩));unfold fI at i;rw[jf]at i;obtain⟨r,s,p⟩:=i;rw[gT]at p;rw[<-p];unfold xz;exact oq _ (eG.2 ⟨r,s,rfl⟩)
 ·intro c;simp at c
def pm(L:List UInt8):List UInt8:=if(L.dropWhile (·==48)).isEmpty then [48]else L.dropWhile (·==48)
def gQ(e:co):List UInt8:=if e.ao=2 then pm e.bn.data.toList else e.bn.data.toList
def nI(e:co):Bool:=e.bH dp||e.bH g6
def kl(e:Bool)(f:co):List UInt8:=if e||nI f then []else [32]
def iK:Bool->List co->List UInt8
 |_,[]=>[]
 |f,e::g=>if e.ao=1 then []else kl f e++(gQ e++iK (nI e) g)
def wH(e:List co):ByteArray:=⟨(iK true e).toArray⟩
theorem Dx(c:ByteArray)(a d:Nat):∃b,fw c (a+1) d=eb c d::b:=by
 unfold fw;generalize eb c d=aG;split
 ·exact⟨_,rfl⟩
 ·exact⟨_,rfl⟩
theorem Bd(L:List UInt8):(pm L=[48]/\∀c∈L,c=48)\/(∃d b,pm L=d::b/\d≠48/\∃e,L=e++d::b/\∀c∈e,c=48):=by
 unfold pm
 induction L with
 |nil=>exact .inl ⟨rfl,av⟩
 |cons c L h=>
  by_cases a:c=48
  ·subst a;rw[List.dropWhile_cons_of_pos bf];rcases h with⟨f,g⟩|⟨d,b,f,g,e,i,j⟩
   ·refine .inl ⟨f,λc a=>?_⟩;rcases ek.1 a with rfl|a
    ·rfl
    ·exact g c a
   ·refine .inr ⟨d,b,f,g,48::e,by rw[i];rfl,λc a=>?_⟩;rcases ek.1 a with rfl|a
    ·rfl
    ·exact j c a
  ·rw[List.dropWhile_cons_of_neg (by simpa using a)];exact .inr ⟨c,L,rfl,a,[],rfl,av⟩
def p1:List co->Prop
 |[]=>False
 |[e]=>e.ao=1/\e.bn=⟨#[]⟩
 |e::f::g=>sV e.ao e.bn.data.toList/\e.aX<f.aX/\p1 (f::g)
theorem p1.LQ{c:co}{a:List co}(e:∃b,a=c::b)(d:sV aG.ao aG.bn.data.toList)(f:aG.aX<c.aX)(g:p1 a):p1 (aG::a):=by obtain⟨b,rfl⟩:=e;exact⟨d,f,g⟩
theorem TL(h:sV d L):2<=d/\1<=M L:=by
 rcases h with⟨rfl,h,_⟩|⟨rfl,h,_⟩|⟨rfl,h,_⟩|⟨rfl,h⟩
 ·exact⟨T,h⟩
 ·exact⟨T,h⟩
 ·exact⟨T,h⟩
 ·refine⟨T,?_⟩;have:∀L∈xz,1<=M L:=ak;exact this L h
theorem PU(c:ByteArray)(b:Nat)(h:b<=aW c):(2<=(eb c b).ao->sV (eb c b).ao (eb c b).bn.data.toList)/\((eb c b).ao=1->(eb c b).bn=⟨#[]⟩):=by
 have k:=pr fs c b h;unfold eb;simp only;generalize da fs c b=a at*;by_cases d:aW (c.extract a (aW c))=0
 ·have e:fC (c.extract a (aW c))=(1,0):=by unfold fC;rw[aP d]
  rw[e];refine⟨λi=>absurd i (by show¬2<=1;omega),λ_=>?_⟩;apply k_;apply rK.1;rw[mL];simp
 ·have f:0<aW (c.extract a (aW c)):=by omega
  have e:fC (c.extract a (aW c))=gu (c.extract a (aW c)):=by unfold fC;rw[aH d]
  rw[e];have l:=yJ f;have m:aW (c.extract a (aW c))=aW c-a:=qB;have j:=y7 c a (gu (c.extract a (aW c))).2 T;refine⟨λg=>?_,λg=>?_⟩
  ·have:=R_ f g;rw[<-j,mL,CN,C2];exact this
  ·rcases JI (c.extract a (aW c))with h|h<;>omega
theorem Ll(c:ByteArray):∀a b,b<=aW c->aW c-b<a->(∃aG∈fw c a b,aG.ao=1)->p1 (fw c a b):=by
 intro a
 induction a with
 |zero=>intro b _ h;omega
 |succ a i=>
  intro b h r;obtain⟨s,j,m,k⟩:=qq c b h;obtain⟨o,p⟩:=PU c b h;unfold fw;split
  ·rename_i l;rintro⟨aG,d,f⟩;rw[dB.1 d]at f;exact⟨f,p f⟩
  ·rename_i l
   rintro⟨aG,d,f⟩;obtain⟨t,u⟩:=k T;have g:aG∈fw c a ((eb c b).aX+aW (eb c b).bn):=by
    rcases ek.1 d with rfl|d
    ·omega
    ·exact d
   have q:=i ((eb c b).aX+aW (eb c b).bn) j T ⟨aG,g,f⟩;cases a with
   |zero=>simp[fw]at g
   |succ a=>have v:=(qq c _ j).1;have e:=Dx c a ((eb c b).aX+aW (eb c b).bn);clear g i m k;generalize fw c (a+1) ((eb c b).aX+aW (eb c b).bn)=w at*;generalize eb c ((eb c b).aX+aW (eb c b).bn)=x at*;generalize eb c b=y at*;exact p1.LQ e (o (Nat.lt_of_not_le l)) T q
def lN(L:List UInt8):Nat:=L.foldl (λe f=>10*e+(f.toNat-48)) 0
theorem CU(c b:List UInt8)(d:∀a∈c,a=48):lN (c++b)=lN b:=by
 induction c with
 |nil=>rfl
 |cons a c e=>rw[d a av];exact e (λa f=>d a (by simp[f]))
theorem RC(h:1<=M L/\M L<=9/\∀a∈L,cQ a=true):1<=M (pm L)/\M (pm L)<=9/\∀a∈pm L,cQ a=true:=by
 rcases Bd L with⟨c,_⟩|⟨g,b,c,i,j,e,_⟩
 ·rw[c];refine⟨ak,ak,λa d=>?_⟩;rw[dB.1 d];decide
 ·rw[c];have f:=congrArg M e;rw[bV]at f;refine⟨av,T,λa d=>h.2.2 a (by rw[e];exact n8 _ d)⟩
theorem DU:dp.data.toList=[58]/\g6.data.toList=[46]:=⟨rfl,rfl⟩
instance (aG:ByteArray):Decidable (mF aG):=by unfold mF;infer_instance
def sL(f:List co):(it×Nat×List (List aB))⊕(Nat×Nat):=match go f with
 |.inr e=>.inr e
 |.inl (g,_)=>match fF (M f+1) g with
  |.inr e=>.inr e
  |.inl (h,i)=>.inl (g,h,i)
theorem ym{bK:List co}(e:fh c=bK):ec c=if 600<aW c then .inr (600,1)else sL bK:=by unfold ec;rw[e];rfl
theorem OS{bK:List co}{f}(h:sL bK=.inl f):∃b c g i,go bK=.inl (b,c)/\fF (M bK+1) b=.inl (g,i):=by
 unfold sL at h;cases d:go bK with
 |inr a=>rw[d]at h;cases h
 |inl a=>
  obtain⟨b,c⟩:=a;rw[d]at h;simp only at h;cases e:fF (M bK+1) b with
  |inr a=>rw[e]at h;cases h
  |inl a=>exact⟨b,c,a.1,a.2,rfl,e⟩
theorem zT{bK:List co}(e:fh c=bK){a}(h:ec c=.inl a):sL bK=.inl a:=by
 rw[ym e]at h;split at h
 ·cases h
 ·exact h
theorem Pa{bK:List co}(f:a=aW c+1)(e:fw c a 0=bK){b}(h:sL bK=.inl b):p1 bK:=by obtain⟨g,i,_,_,d,_⟩:=OS h;have:=Ll c a 0 (bL _) T;rw[e]at this;exact this (Ri d)
theorem Tk{bK:List co}(e:fh c=bK){a}(h:ec c=.inl a):p1 bK:=Pa rfl e (zT e h)
def n_:Nat->Nat->List UInt8
 |0,_=>[]
 |ah+1,e=>if e<10 then [UInt8.ofNat (48+e)]else n_ ah (e/10)++[UInt8.ofNat (48+e%10)]
def lR(e:Nat):List UInt8:=n_ (e+1) e
theorem Sg:∀ah N a,a<ah->a<N->n_ ah a=n_ N a:=by
 intro ah
 induction ah with
 |zero=>intro N a h;omega
 |succ ah b=>
  intro N a c d;cases N with
  |zero=>omega
  |succ N=>
   unfold n_;split
   ·rfl
   ·rw[b N (a/10) T T]
theorem Ep(j a:Nat)(b:0<j)(c:a<10):lR (10*j+a)=lR j++[UInt8.ofNat (48+a)]:=by
 unfold lR
 conv=>lhs;unfold n_
 rw[aH T,show(10*j+a)/10=j by omega,show(10*j+a)%10=a by omega,Sg _ (j+1) j T T]
theorem Dk{a:UInt8}(h:cQ a=true):UInt8.ofNat (48+(a.toNat-48))=a/\a.toNat-48<10/\(a≠48->0<a.toNat-48):=by
 unfold cQ at h;simp only[hh,jF]at h;refine⟨by rw[show 48+(a.toNat-48)=a.toNat by omega];simp,T,λb=>?_⟩;have:a.toNat≠48:=λe=>b (by have:=congrArg UInt8.ofNat e;simpa using this)
 omega
theorem MV(L:List UInt8)(a:UInt8):lN (L++[a])=10*lN L+(a.toNat-48):=by unfold lN;rw[h_];rfl
theorem NC{a:UInt8}(f:a≠48)(g:cQ a=true):∀b:List UInt8,(∀c∈b,cQ c=true)->0<lN (a::b.reverse)/\lR (lN (a::b.reverse))=a::b.reverse:=by
 obtain⟨e,i,j⟩:=Dk g;intro b
 induction b with
 |nil=>
  intro _;have d:lN [a]=a.toNat-48:=by unfold lN;simp
  refine⟨by rw[List.reverse_nil,d];exact j f,?_⟩;rw[List.reverse_nil,d];unfold lR n_;rw[aP i,e]
 |cons c b k=>
  intro h;obtain⟨l,m⟩:=k (λo p=>h o (by simp[p]));obtain⟨q,r,_⟩:=Dk (h c av);have d:lN (a::(c::b).reverse)=10*lN (a::b.reverse)+(c.toNat-48):=by rw[List.reverse_cons,<-nH,MV]
  rw[d];refine⟨T,?_⟩;rw[Ep _ _ l r,m,q,List.reverse_cons,nH]
theorem K7(h:∀a∈L,cQ a=true):lR (lN L)=pm L:=by
 rcases Bd L with⟨d,e⟩|⟨f,b,d,e,j,g,k⟩
 ·have:=CU L [] e;rw[jN]at this;rw[this,d];rfl
 ·rw[d];have l:lN L=lN (f::b):=by rw[g];exact CU j _ k
  have i:∀a∈f::b,cQ a=true:=λa c=>h a (by rw[g];exact n8 _ c)
  have:=(NC e (i f av) b.reverse (λa c=>i a (by simp at c;simp[c]))).2;rw[List.reverse_reverse]at this;rw[l,this]
def hG(e:bN):List UInt8:=if e.ao=1 then lR e.n else e.a8.data.toList
def qv(e:bN):Bool:=hG e==[58]||hG e==[46]
def qU:Bool->List bN->List UInt8
 |_,[]=>[]
 |_,[_]=>[]
 |f,e::g::h=>(if f||qv e then []else [32])++(hG e++qU (qv e) (g::h))
theorem QM{e:bN}(h:tA aG e):hG e=gQ aG/\qv e=nI aG:=by
 have ba:hG e=gQ aG:=by
  unfold hG gQ;obtain⟨_,⟨a,d,c,b⟩|⟨a,d,c,_⟩|⟨a,d,c,_⟩|⟨a,d,c,_⟩⟩:=h
  ·rw[aP d,aP a,c];exact K7 b.2.2
  all_goals rw[aH T,aH T,c]
 refine⟨ba,?_⟩;unfold qv;rw[ba];unfold nI co.bH;rw[fW,fW,fW,DU.1,DU.2];unfold gQ;obtain⟨_,⟨a,d,c,b⟩|⟨a,_⟩|⟨a,_⟩|⟨a,_⟩⟩:=h
 ·rw[aP a];have i:M aG.bn.data.toList=aW aG.bn:=av;have N:=(RC (L:=aG.bn.data.toList) ⟨by rw[i];exact b.1,by rw[i];exact b.2.1,b.2.2⟩).2.2;have f:∀(L:List UInt8) (g:UInt8),(∀k∈L,cQ k=true)->cQ g=false->(L==[g])=false:=by intro L g l j;rw[di];rintro rfl;rw[l g av]at j;cases j
  rw[f _ 58 N ak,f _ 46 N ak,f _ 58 b.2.2 ak,f _ 46 b.2.2 ak]
 all_goals rw[aH T]
theorem Ii{a:Nat}{aG:bN}(h:eR c a=(aG,some d)):aG.ao≠3:=by
 unfold eR at h;simp only at h;generalize da fs c a=f at*
 repeat' split at h
 all_goals first|(injection h with b e;cases e;done)|(injection h with b e;rw[<-b];simp)
theorem HQ:∀(bK:List co) (b:List bN) (i:Nat) (a:Bool),fg bK b->p1 bK->k2 c i b->qU a b=iK a bK/\M b=M bK:=by
 intro bK
 induction bK with
 |nil=>intro _ _ _ h;exact h.elim
 |cons aG bK m=>
  intro b i a e j l;cases b with
  |nil=>exact absurd e (by cases bK<;>exact id)
  |cons o k=>
   cases bK with
   |nil=>
    obtain⟨f,_⟩:=j;have p:o.ao=3:=by
     obtain⟨_,h|h,_⟩:=e
     ·exact h.2
     ·omega
    have q:k=[]:=by
     cases l with
     |oF _=>rfl
     |f9 h _=>exact absurd p (Ii h)
    subst q;refine⟨?_,rfl⟩;unfold iK;rw[aP f];rfl
   |cons z bK=>
    obtain⟨r,_,g⟩:=e;obtain⟨s,_,t⟩:=j;have f:¬aG.ao=1:=by have:=(TL s).1;omega
    cases l with
    |oF _=>exact absurd g (by cases bK<;>exact id)
    |@f9 _ d _ _ h u=>
     obtain⟨v,w⟩:=m k d (nI aG) g t u;cases k with
     |nil=>exact absurd g (by cases bK<;>exact id)
     |cons A k=>obtain⟨x,y⟩:=QM r;unfold qU iK;rw[aH f,x,y,v];exact⟨rfl,by rw[dT,w];rfl⟩
def yM:ByteArray:=⟨#[48,49,50,51,52,53,54,55,56,57]⟩
theorem DX(a:Nat)(h:a<10):yM.extract a (a+1)=⟨[UInt8.ofNat (48+a)].toArray⟩:=by
 have ba:∀a:Fin 10,(yM.extract a.val (a.val+1)).data.toList=[UInt8.ofNat (48+a.val)]:=by decide+kernel
 apply k_;apply rK.1;have:=ba ⟨a,h⟩;simpa using this
def qg(g:Nat)(e:Nat)(f:List UInt8):Prop:=(if e=0 then f else lR e++f)=lR g
theorem Fs9(a:Nat):qg a (a/10) [UInt8.ofNat (48+a%10)]:=by
 unfold qg;split
 ·rename_i h;have b:a<10:=T;unfold lR n_;rw[aP b,Nat.mod_eq_of_lt b]
 ·rename_i h;have:=Ep (a/10) (a%10) T T;rw[show 10*(a/10)+a%10=a by omega]at this;exact this.symm
theorem Rk(h:qg a j k)(b:0<j):qg a (j/10) (UInt8.ofNat (48+j%10)::k):=by
 have:=Fs9 j;unfold qg at h this⊢;rw[aH T]at h;rw[<-h,<-this];split
 ·simp
 ·simp
theorem QE:∀ah a,M (n_ ah a)<=ah:=by
 intro ah
 induction ah with
 |zero=>intro a;simp[n_]
 |succ ah b=>
  intro a;unfold n_;split
  ·simp
  ·have:=b (a/10);simp;omega
theorem KP(h:qg a j k):M k<=a+1:=by
 have c:=QE (a+1) a;have b:=congrArg M h;unfold lR at b;split at b
 ·omega
 ·rw[bV]at b;omega
theorem Np(a:Nat)(o:a<=1000000000000)(L:World):Calls prog 68 #[O .i64 a] L λe h=>e=.returned (az ⟨(lR a).toArray⟩)/\h=L:=by
 have f:=Fs9 a;have b:=DX (a%10) T;unfold yM at b;have p:(0:Int)<=(a:Int):=T;go_enter func68,ntmps68;go_wp2
 go_loopw [0,4] (λd i wr=>∃(j:Nat) (k:List UInt8),j<=1000000000000/\d=O .i64 j/\i=az ⟨k.toArray⟩/\qg a j k/\wr=L) (λd _ _=>(intOf d).toNat)
 case atStart=>exact⟨a/10,_,T,av,by rw[b],f,rfl⟩
 case round=>
  obtain⟨j,k,q,rfl,rfl,c,rfl⟩:=hrel;clear f b;by_cases l:0<j
  ·have g:(0:Int)<(j:Int):=by omega
   have r:(0:Int)<=(j:Int):=T;have b:=DX (j%10) T;unfold yM at b;have m:=Rk c l;have s:¬9223372036854775807<1+M k:=by have:=KP c;omega
   go_wp2;go_roundw
   case rel=>exact⟨j/10,UInt8.ofNat (48+j%10)::k,T,av,by congr 1;apply k_;simp,m,trivial⟩
   case measure=>simp[intOf];omega
  ·have g:j=0:=by omega
   subst g;go_wp2;go_ret;have:lR a=k:=by unfold qg at c;rw[aP rfl]at c;exact c.symm
   rw[this];exact⟨rfl,rfl⟩
