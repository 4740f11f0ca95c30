import Derived.Test.YtddbjcfdmdbmkaaGreatDoorB19
set_option linter.all false
set_option maxRecDepth 100000
set_option maxHeartbeats 3200000
namespace Go.Proofs.YtddbjcfdmdbmkaaGreatDoor
open Go.RowKit Go.Proofs.Tryz
open Go renaming Calls->aR,Value->an,World->aq
open Go.Ending renaming returned->aM
open Go.IntKind renaming i64->Q
open Go.Obj renaming cells->aw
open Go.RowKit renaming Below->aF
open Go.Value renaming agg->dA,bool->cK,int->O,pointer->aD,slice->U,string->az
open _root_.Array renaming size->S
open _root_.ByteArray renaming toList->aJ
open Go.World renaming alloc->ar,cell?->aK,drewN->bY,heap->R,ownsRow->aY,setCell->ay
open List renaming length->M
variable{L j:aq}{k Y N W w aE cg ah gE:Nat}{z H G F gf gg J K gF:an}{d r:List Int}{u:Bool}{A:List Nat}{a_:List be}{bA:be}{c:List c0}{q:List (ByteArray×Nat)}{b:gI}{x:List jD}{cd:Option Addr}{D:jD->Bool}{I:Array an}{gj gC B:Int}{bs:List ByteArray}{E:cH}
theorem Tryz.Ak:(prog.info? 3).map (λa=>(a.zero,a.size,a.bytes))=some (some (O Q 0),1,8):=by kernel_rfl
def hJ(L:aq)(a:Nat)(g h:an)(e:List Int)(i:Bool):Prop:=∃f,aL L a #[g,h,f,cK i] 283/\aY L a 3 1 f (M e) (e.map (O Q))
theorem hJ.am(h:hJ L k z H d u):k<S (R L):=by obtain⟨b,h,_⟩:=h;exact h.am
theorem hJ.a(h:hJ L k z H d u)(b:Obj):hJ (ar L b) k z H d u:=by obtain⟨c,f,g⟩:=h;exact⟨c,f.a _,g.alloc _⟩
theorem hJ.pe(h:hJ L k z H d u)(b:Bool):hJ (ay L ⟨k,3,none⟩ (cK b)) k z H d b:=by obtain⟨i,f,c⟩:=h;exact⟨i,by simpa using f.j 3 (cK b),cw c λN g=>(fU L ⟨k,3,none⟩ (cK b)).block N (c.lt N g).2 (λe=>by simp at e;subst e;exact ed f c ak g)⟩
theorem ve(G:an):aF k L (ay L ⟨k,Y,none⟩ G):=(ca k L).setCell (p:=⟨k,Y,none⟩) (aN _) G
def mj(a:Int)(f:ByteArray)(e:Int):Bool:=
 if(aJ f)==[61]then a==e else if(aJ f)==[33,61]then a !=e else if(aJ f)==[60]then decide (a<e)else if(aJ f)==[60,61]then decide (a<=e)else if(aJ f)==[62]then decide (e<a)else decide (e<=a)
theorem Rv(c a:Int)(b:ByteArray)(L:aq):aR prog 241 #[O Q c,az b,O Q a] L λe j=>e=aM (cK (mj c b a))/\j=L:=by
 unfold mj;cases d:aJ b==[61]with
 |true=>go_enter func241,ntmps241;go_wp2;go_ret;exact⟨av,rfl⟩
 |false=>
 cases f:aJ b==[33,61]with
 |true=>go_enter func241,ntmps241;go_wp2;go_ret;exact⟨av,rfl⟩
 |false=>
 cases g:aJ b==[60]with
 |true=>go_enter func241,ntmps241;go_wp2;go_ret;exact⟨av,rfl⟩
 |false=>
 cases h:aJ b==[60,61]with
 |true=>go_enter func241,ntmps241;go_wp2;go_ret;exact⟨av,rfl⟩
 |false=>
 cases i:aJ b==[62]with
 |true=>go_enter func241,ntmps241;go_wp2;go_ret;exact⟨av,rfl⟩
 |false=>go_enter func241,ntmps241;go_wp2;go_ret;exact⟨av,rfl⟩
def rU(a:Bool)(e:Int)(f:ByteArray)(g:Int):Int:=if !a&&mj e f g then 1 else 0
theorem R5(h:hJ L k z H d u)(c a:Int)(b:ByteArray):
 aR prog 233 #[aD (some ⟨k,0,none⟩),O Q c,az b,O Q a] L λe j=>e=aM (O Q (rU u c b a))/\hJ j k z H d false/\aF k L j:=by
 have f:=h.pe false;obtain⟨o,g,p⟩:=h;have m:=g.aa 3;have q:=g.b 3;have r:=g.am;simp at m;have i:=λL=>Rv c a b L
 unfold rU;generalize mj c b a=aE at*;cases u with
 |true=>
  go_enter func233,ntmps233;go_wp2_with(first|(go_at_call 241;refine(i _).mono ?_;rintro e l ⟨rfl,rfl⟩))
  go_ret;exact⟨rfl,f,ve _⟩
 |false=>
  cases aE with
  |true=>
   go_enter func233,ntmps233;go_wp2_with(first|(go_at_call 241;refine(i _).mono ?_;rintro e l ⟨rfl,rfl⟩))
   go_ret;exact⟨rfl,f,ve _⟩
  |false=>
   go_enter func233,ntmps233;go_wp2_with(first|(go_at_call 241;refine(i _).mono ?_;rintro e l ⟨rfl,rfl⟩))
   go_ret;exact⟨rfl,f,ve _⟩
def fX(e:Bool)(f:Int)(g:ByteArray)(a:Int):Int×Bool:=
 if(aJ g)==[43]then(wrap64 (f+a),e)
 else if(aJ g)==[45]then(wrap64 (f-a),e)
 else if(aJ g)==[42]then(wrap64 (f*a),e)
 else if(aJ g)==[47]then(if a=0 then(0,true)else(wrap64 (f.tdiv a),e))
 else if(aJ g)==[97,110,100]then(bits BinOp.and Q f a,e)
 else if(aJ g)==[111,114]then(bits BinOp.or Q f a,e)
 else(rU e f g a,false)
def nQ(e:Bool)(f a:Int):Int×Bool:=if a=0 then(0,true)else(wrap64 (f.tdiv a),e)
theorem Ja(h:hJ L k z H d u)(c a:Int):
 aR prog 232 #[aD (some ⟨k,0,none⟩),O Q c,O Q a] L λe j=>e=aM (O Q (nQ u c a).1)/\hJ j k z H d (nQ u c a).2/\aF k L j:=by
 unfold nQ;by_cases b:a=0
 ·subst b;have g:=h.pe true;obtain⟨l,f,m⟩:=h;have i:=f.aa 3;have o:=f.b 3;have p:=f.am;simp at i;go_enter func232,ntmps232;go_wp2;go_ret;exact⟨rfl,g,ve _⟩
 ·have q:(a==0)=false:=by simpa using b
  rw[aH b];go_enter func232,ntmps232;go_wp2;go_ret;exact⟨rfl,h,ca _ _⟩
theorem Qt(h:hJ L k z H d u)(c a:Int)(b:ByteArray):
 aR prog 213 #[aD (some ⟨k,0,none⟩),O Q c,az b,O Q a] L λe j=>e=aM (O Q (fX u c b a).1)/\hJ j k z H d (fX u c b a).2/\aF k L j:=by
 have s:=R5 h c a b;have t:=Ja h c a;have i:=h;clear h;cases f:aJ b==[43]with
 |true=>rw[show fX u c b a=(wrap64 (c+a),u) by simp[fX,nQ,f]];go_enter func213,ntmps213;go_wp2;go_ret;exact⟨rfl,i,ca _ _⟩
 |false=>
 cases g:aJ b==[45]with
 |true=>rw[show fX u c b a=(wrap64 (c-a),u) by simp[fX,nQ,f,g]];go_enter func213,ntmps213;go_wp2;go_ret;exact⟨rfl,i,ca _ _⟩
 |false=>
 cases l:aJ b==[42]with
 |true=>rw[show fX u c b a=(wrap64 (c*a),u) by simp[fX,nQ,f,g,l]];go_enter func213,ntmps213;go_wp2;go_ret;exact⟨rfl,i,ca _ _⟩
 |false=>
 cases m:aJ b==[47]with
 |true=>rw[show fX u c b a=nQ u c a by simp[fX,nQ,f,g,l,m]];generalize nQ u c a=v at*;go_enter func213,ntmps213;go_wp2_with(go_at_call 232;refine t.mono ?_;rintro e w ⟨rfl,o,p⟩);go_ret;exact⟨rfl,o,p⟩
 |false=>
 cases q:aJ b==[97,110,100]with
 |true=>rw[show fX u c b a=(bits BinOp.and Q c a,u) by simp[fX,nQ,f,g,l,m,q]];go_enter func213,ntmps213;go_wp2;go_ret;exact⟨rfl,i,ca _ _⟩
 |false=>
 cases r:aJ b==[111,114]with
 |true=>rw[show fX u c b a=(bits BinOp.or Q c a,u) by simp[fX,nQ,f,g,l,m,q,r]];go_enter func213,ntmps213;go_wp2;go_ret;exact⟨rfl,i,ca _ _⟩
 |false=>rw[show fX u c b a=(rU u c b a,false) by simp[fX,f,g,l,m,q,r]];generalize rU u c b a=v at*;go_enter func213,ntmps213;go_wp2_with(go_at_call 233;refine s.mono ?_;rintro e w ⟨rfl,o,p⟩);go_ret;exact⟨rfl,o,p⟩
theorem Iv{c:Nat}{e:TypeId}{d:Nat}{a:List an}{i:an}(h:aY L c e 1 (U (some ⟨N,0,none⟩) (W+1) d) (W+1) (a++[i])):aY L c e 1 (U (some ⟨N,0,none⟩) W d) W a:=by
 obtain⟨f,j⟩:=h;have g:M a=W*1:=by rw[bV]at f;simp at f;omega
 refine⟨g,?_⟩;rcases j with⟨h,_⟩|⟨s,t,b,k,l,m,u,o,p,q⟩
 ·cases h
 ·cases k;refine .inr ⟨_,_,b,rfl,l,m,T,o,p,?_⟩;have r:b.toList.take (W*1)=(b.toList.take ((W+1)*1)).take (W*1):=by rw[qy,qn T]
  rw[r,q,<-g,Cr]
theorem yP{W:Int}(h:hJ L k z H (d++[W]) u)(x:M d<=1000000):
 aR prog 184 #[aD (some ⟨k,0,none⟩)] L λe j=>e=aM (O Q W)/\hJ j k z H d u/\aF k L j/\∀Y,Y≠k->(R j)[Y]?=(R L)[Y]?:=by
 obtain⟨m,c,b⟩:=h;rw[bV,dv]at b;obtain⟨N,a,rfl⟩:∃N a,m=U (some ⟨N,0,none⟩) (M d+1) a:=by
  rcases b.2 with⟨_,o⟩|⟨N,a,p,h,_⟩
  ·simp at o
  ·exact⟨N,a,h⟩
 have y:M d+1<=a:=by
  rcases b.2 with⟨h,_⟩|⟨A,B,p,h,_,_,q,_⟩
  ·cases h
  ·cases h;exact q
 have r:=b.cells (g:=N) rfl (M d) (O Q W) av;rw[ez,du]at r;have C:=(b.lt N rfl).2;have f:=Iv b;have s:(U (some ⟨N,0,none⟩) (M d+1) a).ownBlock≠some k:=ed c b ak;have t:=c.aa 2;have D:=c.b 2;have E:=c.am;simp at t;have v:hJ (ay L ⟨k,2,none⟩ (U (some ⟨N,0,none⟩) (M d) a)) k z H d u:=⟨_,by simpa using c.j 2 (U (some ⟨N,0,none⟩) (M d) a),cw f λi l=>(fU L ⟨k,2,none⟩ _).block i (f.lt i l).2 (λe=>by simp at e;subst e;exact s l)⟩;have F:((M d+1:Nat):Int)-1=(M d:Int):=T;have G:(0:Int)<=(M d:Int):=T;have I:(M d:Int)<(M d:Int)+1:=T;have J:(M d:Int)<=(a:Int):=T;clear b f;go_enter func184,ntmps184;go_wp2;go_ret;exact⟨rfl,v,ve _,λY w=>gw _ _ _ _ (λe=>w (by simp at e;omega))⟩
theorem AD(h:hJ L k z H d u)(B:M d<=1000000)(W:Int):
 aR prog 211 #[aD (some ⟨k,0,none⟩),O Q W] L λe j=>e=aM (.tuple #[])/\hJ j k z H (d++[W]) u/\aF k L j:=by
 obtain⟨t,v,w,x,y⟩:=dY Tryz.Ak;obtain⟨C,a,c⟩:=h;obtain⟨D,E,F,rfl⟩:=dr c;have A:=a.aa 2;have G:=a.b 2;have I:=a.am;simp at A;go_enter func211,ntmps211;go_wp2_with(at_builtin;refine dq _ rfl _ _ 48 rfl k 3 t _ 1 8 underlying48 v w x y rfl ak _ (M d) (d.map (O Q)) bf (c.alloc _) ⟨S (R L),0,none⟩ 1 1 [O Q W] bf rfl (c4 (cB _ _ _ av)) ey ak cN T b7 (S (R L)+1) av ?_;intro i l m o q J K;have b:=(a.a (aw #[O Q W] 3)).d (q.block k b7 (λe=>ed a c ak e.symm));have u2:=b.aa 2;have P:=b.b 2;have gf:=b.am;simp at u2);have r:hJ (ay m ⟨k,2,none⟩ (U (some ⟨i,0,none⟩) (M d+1) l)) k z H (d++[W]) u:=by refine⟨_,by simpa using b.j 2 (U (some ⟨i,0,none⟩) (M d+1) l),?_⟩;rw[bV,dv];exact cw o λf g=>(fU m ⟨k,2,none⟩ _).block f (o.lt f g).2 (λe=>by simp at e;subst e;exact ed b o ak g)
 have s:aF k L (ay m ⟨k,2,none⟩ (U (some ⟨i,0,none⟩) (M d+1) l)):=(((ca k L).alloc T _).grown q b7 (λf g=>(c.lt f g).1)).setCell (p:=⟨k,2,none⟩) (aN _) _
 first
 |(go_end0;exact⟨rfl,r,s⟩)
 |(go_wp2;go_end0;exact⟨rfl,r,s⟩)
def j8(L:aq)(a:Nat)(e:be)(f:Nat):Prop:=aL L a #[O Q e.aS,O Q e.ao,O Q e.bj,O Q e.X,O Q e.aE,O Q f] 158
structure kZ (L:aq) (dH:Nat) (g_:an) (bP:List Nat) (a_:List be) (kz:Nat) (bA:be):Prop where
 bX:bP.length=a_.length
 hU:bP.length<=1000000
 sT:∃bj aE,g_=U bj bP.length aE/\(0<bP.length->∃N,bj=some ⟨N,0,none⟩/\N<dH/\∀al,(h:al<bP.length)->L.cell? ⟨N,al,none⟩=some (aD (some ⟨bP[al],0,none⟩)))
 iX:∀al,(h:al<bP.length)->(yE:al<a_.length)->bP[al]<dH/\∃n,j8 L bP[al] a_[al] n
 bA:kz<dH/\∃n,j8 L kz bA n
theorem kZ.y(h:kZ L k z A a_ w bA)(c:aF k L j):kZ j k z A a_ w bA:=by
 refine⟨h.bX,h.hU,?_,λb d i=>?_,?_⟩
 ·obtain⟨d,aE,e,l⟩:=h.sT;refine⟨d,aE,e,λm=>?_⟩;obtain⟨N,q,g,r⟩:=l m;exact⟨N,q,g,λb s=>(c.cell (p:=⟨N,b,none⟩) g).trans (r b s)⟩
 ·obtain⟨a,W,f⟩:=h.iX b d i;exact⟨a,W,aL.d f (c.block _ a)⟩
 ·obtain⟨a,W,f⟩:=h.bA;exact⟨a,W,aL.d f (c.block _ a)⟩
def h4(a:List be)(f:be)(e:Nat):be:=if e<M a then a.getD e default else f
def p8(a:List Nat)(f:Nat)(e:Nat):Nat:=if e<M a then a.getD e 0 else f
theorem kZ.o(h:kZ L k z A a_ w bA)(Y:Nat):p8 A w Y<k/\∃W,j8 L (p8 A w Y) (h4 a_ bA Y) W:=by
 unfold p8 h4;have b:=h.bX;by_cases a:Y<M A
 ·rw[aP a,aP T];have:=h.iX Y a T;simpa[List.getD,a,show Y<M a_ by omega]using this
 ·rw[aH a,aH T];exact h.bA
theorem HW(h:hJ L k z (aD (some ⟨w,0,none⟩)) d u)(g:kZ L k z A a_ w bA)(Y:Nat):
 aR prog 212 #[aD (some ⟨k,0,none⟩),O Q Y] L λe j=>e=aM (aD (some ⟨p8 A w Y,0,none⟩))/\j=L:=by
 obtain⟨p,b,_⟩:=h;obtain⟨q,aE,rfl,c⟩:=g.sT;have i:=b.aa 0;have l:=b.aa 1;have r:=b.am;simp at i l;unfold p8;by_cases a:Y<M A
 ·obtain⟨N,rfl,s,f⟩:=c T;have t:=f Y a;clear f c;have m:A.getD Y 0=A[Y]:=by simp[List.getD,a]
  rw[aP a,m];generalize A[Y]=v at*;have x:(0:Int)<=(Y:Int):=T;have o:(Y:Int)<(M A:Int):=T;have y:N<S (R L):=T;go_enter func212,ntmps212;go_wp2;go_ret;exact⟨rfl,rfl⟩
 ·rw[aH a];have o:(M A:Int)<=(Y:Int):=T;clear c;go_enter func212,ntmps212;go_wp2;go_ret;exact⟨rfl,rfl⟩
def eZ(f:List be)(g:be)(a:List Int×Bool)(e:ByteArray×Nat):List Int×Bool:=
 if(aJ e.1)==[112,117,115,104]then(a.1++[(e.2:Int)],a.2)
 else if(aJ e.1)==[97]then(a.1++[(h4 f g e.2).bj],a.2)
 else if(aJ e.1)==[98]then(a.1++[(h4 f g e.2).X],a.2)
 else if(aJ e.1)==[99]then(a.1++[(h4 f g e.2).aE],a.2)
 else if(aJ e.1)==[116]then(a.1++[(h4 f g e.2).aS],a.2)
 else if(aJ e.1)==[111,112,112,111,115,105,116,101]then(a.1.dropLast++[wrap64 (-(a.1.getLastD 0))],a.2)
 else(a.1.dropLast.dropLast++[(fX a.2 (a.1.dropLast.getLastD 0) e.1 (a.1.getLastD 0)).1],(fX a.2 (a.1.dropLast.getLastD 0) e.1 (a.1.getLastD 0)).2)
def oE(a:ByteArray×Nat):Nat:=
 if(aJ a.1)==[112,117,115,104]||aJ a.1==[97]||aJ a.1==[98]||aJ a.1==[99]||aJ a.1==[116]then 0
 else if(aJ a.1)==[111,112,112,111,115,105,116,101]then 1 else 2
theorem yp{c:List Int}(h:1<=M c):c=c.dropLast++[c.getLastD 0]:=by
 have a:c≠[]:=by intro e;rw[e]at h;simp at h
 rw[l7,CY a];exact(List.dropLast_concat_getLast a).symm
theorem S0(h:hJ L k z (aD (some ⟨w,0,none⟩)) d u)(hu:kZ L k z A a_ w bA)(I:M d<=100000)(p:ByteArray×Nat)(t:oE p<=M d):
 aR prog 183 #[aD (some ⟨k,0,none⟩),dA #[az p.1,O Q p.2]] L λe j=>e=aM (.tuple #[])/\hJ j k z (aD (some ⟨w,0,none⟩)) (eZ a_ bA (d,u) p).1 (eZ a_ bA (d,u) p).2/\aF k L j:=by
 obtain⟨a,num⟩:=p;simp only at t⊢;have P:=h.am;have m:=h.a (aw #[az a,O Q num] 245);have gf:=hu.y ((ca k L).alloc (k3 P) (aw #[az a,O Q num] 245));have o:aF k L (ar L (aw #[az a,O Q num] 245)):=(ca k L).alloc (k3 P) _;have v:=HW m gf num;obtain⟨j9,kp,q⟩:=gf.o num;have gg:=q.aa 0;have gj:=q.aa 2;have gC:=q.aa 3;have gE:=q.aa 4;have hE:=q.am;simp at gg gj gC gE;have r:=λW=>AD m T W
 cases i:aJ a==[112,117,115,104]with
 |true=>
  rw[show eZ a_ bA (d,u) (a,num)=(d++[(num:Int)],u) by simp[eZ,i]];have l:=r (num:Int);go_enter func183,ntmps183;go_wp2_with(go_at_call 211;refine l.mono ?_;rintro e g ⟨rfl,b,f⟩)
  go_end0
  exact⟨rfl,b,o.trans f⟩
 |false=>
 cases J:aJ a==[97]with
 |true=>
  rw[show eZ a_ bA (d,u) (a,num)=(d++[(h4 a_ bA num).bj],u) by simp[eZ,i,J]];have l:=r (h4 a_ bA num).bj;generalize(h4 a_ bA num).bj=D at*;generalize p8 A w num=E at*;go_enter func183,ntmps183;go_wp2_with(first|(go_at_call 212;refine v.mono ?_;rintro e g ⟨rfl,rfl⟩)|(go_at_call 211;refine l.mono ?_;rintro e g ⟨rfl,b,f⟩))
  go_end0
  exact⟨rfl,b,o.trans f⟩
 |false=>
 cases K:aJ a==[98]with
 |true=>
  rw[show eZ a_ bA (d,u) (a,num)=(d++[(h4 a_ bA num).X],u) by simp[eZ,i,J,K]];have l:=r (h4 a_ bA num).X;generalize(h4 a_ bA num).X=D at*;generalize p8 A w num=E at*;go_enter func183,ntmps183;go_wp2_with(first|(go_at_call 212;refine v.mono ?_;rintro e g ⟨rfl,rfl⟩)|(go_at_call 211;refine l.mono ?_;rintro e g ⟨rfl,b,f⟩))
  go_end0
  exact⟨rfl,b,o.trans f⟩
 |false=>
 cases s:aJ a==[99]with
 |true=>
  rw[show eZ a_ bA (d,u) (a,num)=(d++[(h4 a_ bA num).aE],u) by simp[eZ,i,J,K,s]];have l:=r (h4 a_ bA num).aE;generalize(h4 a_ bA num).aE=D at*;generalize p8 A w num=E at*;go_enter func183,ntmps183;go_wp2_with(first|(go_at_call 212;refine v.mono ?_;rintro e g ⟨rfl,rfl⟩)|(go_at_call 211;refine l.mono ?_;rintro e g ⟨rfl,b,f⟩))
  go_end0
  exact⟨rfl,b,o.trans f⟩
 |false=>
 cases x:aJ a==[116]with
 |true=>
  rw[show eZ a_ bA (d,u) (a,num)=(d++[(h4 a_ bA num).aS],u) by simp[eZ,i,J,K,s,x]];have l:=r (h4 a_ bA num).aS;generalize(h4 a_ bA num).aS=D at*;generalize p8 A w num=E at*;go_enter func183,ntmps183;go_wp2_with(first|(go_at_call 212;refine v.mono ?_;rintro e g ⟨rfl,rfl⟩)|(go_at_call 211;refine l.mono ?_;rintro e g ⟨rfl,b,f⟩))
  go_end0
  exact⟨rfl,b,o.trans f⟩
 |false=>
 clear v q gg gj gC gE hE r;cases C:aJ a==[111,112,112,111,115,105,116,101]with
 |true=>
  rw[show eZ a_ bA (d,u) (a,num)=(d.dropLast++[wrap64 (-(d.getLastD 0))],u) by simp[eZ,i,J,K,s,x,C]];have gF:1<=M d:=by simpa[oE,i,J,K,s,x,C]using t
  have y:=yp gF;have hS:M d.dropLast<=100000:=by rw[uf];omega
  generalize d.dropLast=F at*;generalize d.getLastD 0=W at*;rw[y]at m;have B:=yP m T;clear m h y t I gF;go_enter func183,ntmps183;go_wp2_with(first|(go_at_call 184;refine B.mono ?_;rintro e g ⟨rfl,G,H,_⟩)|(go_at_call 211;refine(AD G T _).mono ?_;rintro e gL ⟨rfl,b,f⟩))
  go_end0
  exact⟨rfl,b,(o.trans H).trans f⟩
 |false=>
  rw[show eZ a_ bA (d,u) (a,num)=(d.dropLast.dropLast++[(fX u (d.dropLast.getLastD 0) a (d.getLastD 0)).1],(fX u (d.dropLast.getLastD 0) a (d.getLastD 0)).2) by simp[eZ,i,J,K,s,x,C]];have hV:2<=M d:=by simpa[oE,i,J,K,s,x,C]using t
  have y:=yp (show 1<=M d by omega);have hZ:=yp (show 1<=M d.dropLast by rw[uf];omega);have hS:M d.dropLast.dropLast<=100000:=by rw[uf,uf];omega
  have kr:M d.dropLast<=100000:=by rw[uf];omega
  generalize d.getLastD 0=ih at*;rw[y]at m;generalize d.dropLast=F at*;generalize F.getLastD 0=c at*;have B:=yP m T;generalize kx:F.dropLast=k1 at*;have iR:=aL.bT L #[az a,O Q num] 245;clear m h y t I hV;rw[hZ]at B;go_enter func183,ntmps183;go_wp2_with(first|(go_at_call 184;refine B.mono ?_;rintro e g ⟨rfl,G,H,iU⟩;clear B;have iZ:=yP G T)|(go_at_call 184;refine iZ.mono ?_;rintro e gL ⟨rfl,i0,i1,i2⟩;have g1:aL gL (S (R L)) #[az a,O Q num] 245:=(iR.d (iU _ T)).d (i2 _ T);have jt:=g1.aa 0;have k7:=g1.am;simp at jt)|(go_at_call 213;refine(Qt i0 c ih a).mono ?_;rintro e lo ⟨rfl,jW,j4⟩)|(go_at_call 211;refine(AD jW T _).mono ?_;rintro e l8 ⟨rfl,b,f⟩))
  go_end0
  exact⟨rfl,b,(((o.trans H).trans i1).trans j4).trans f⟩
def jh(a:List be)(e:be)(f:List (ByteArray×Nat))(g:Nat):List Int×Bool:=(f.take g).foldl (eZ a e) ([],false)
theorem DS(a_:List be)(bA:be)(q:List (ByteArray×Nat))(Y:Nat)(h:Y<M q):jh a_ bA q (Y+1)=eZ a_ bA (jh a_ bA q Y) q[Y]:=by unfold jh;rw[ev h,h_];rfl
theorem P9(a_:List be)(bA:be)(b:List Int×Bool)(a:ByteArray×Nat):M (eZ a_ bA b a).1<=M b.1+1:=by
 unfold eZ
 repeat' split
 all_goals simp
 all_goals try omega
theorem RX(a_:List be)(bA:be)(q:List (ByteArray×Nat)):∀Y,Y<=M q->M (jh a_ bA q Y).1<=Y:=by
 intro Y
 induction Y with
 |zero=>intro _;simp[jh]
 |succ Y a=>intro h;rw[DS a_ bA q Y T];have:=P9 a_ bA (jh a_ bA q Y) q[Y];have:=a T;omega
def oN(a:List (ByteArray×Nat))(e:List be)(f:be):Bool:=if(M a)=0 then true else(jh e f a (M a)).1.getLastD 0==1
structure nJ (cU:List (ByteArray×Nat)):Prop where
 hU:cU.length<=10000
 NH:∀a_ bA Y,(h:Y<cU.length)->oE cU[Y]<=(jh a_ bA cU Y).1.length
 kS:∀a_ bA,0<cU.length->1<=(jh a_ bA cU cU.length).1.length
theorem eX.o{k:Nat->Prop}(h:eX k L G q):∃d aE,G=U d (M q) aE/\(0<M q->∃N,d=some ⟨N,0,none⟩/\N<S (R L)/\∀Y,(e:Y<M q)->aK L ⟨N,Y*2,none⟩=some (az q[Y].1)/\aK L ⟨N,Y*2+1,none⟩=some (O Q q[Y].2)):=by
 obtain⟨f,_⟩:=h;rcases f.2 with⟨rfl,l⟩|⟨N,s,t,rfl,_,m,_⟩
 ·exact⟨none,0,by rw[l],λh=>T⟩
 ·refine⟨_,_,rfl,λ_=>⟨N,rfl,(i7.1 m).1,λY e=>?_⟩⟩;have ba:∀b,b<2->∀c,(kM q[Y])[b]?=some c->aK L ⟨N,Y*2+b,none⟩=some c:=by intro b p c r;have:=f.cells (g:=N) rfl (Y*2+b) c (by rw[i5 kM 2 (λ_=>rfl) _ _ _ e p];exact r);rw[ez,du]at this;exact this
  exact⟨ba 0 ak _ rfl,ba 1 ak _ rfl⟩
theorem Ig{e6:Nat->Prop}(u:eX e6 L F q)(f:nJ q)(v:kZ L (S (R L)) z A a_ w bA):
 aR prog 155 #[F,z,aD (some ⟨w,0,none⟩)] L λe j=>e=aM (cK (oN q a_ bA))/\aF (S (R L)) L j:=by
 obtain⟨hu,aE,rfl,x⟩:=u.o;obtain⟨g,ac,rfl,_⟩:=v.sT;have hE:=f.hU;unfold oN;by_cases h:M q=0
 ·rw[aP h];have H:((M q:Int)==0)=true:=by simp[h]
  go_enter func155,ntmps155;go_wp2;go_ret;exact⟨rfl,ca _ _⟩
 ·rw[aH h];have H:((M q:Int)==0)=false:=by rw[di];omega
  obtain⟨N,rfl,i,k⟩:=x T;have I:=f.kS a_ bA T;obtain⟨l,m⟩:∃l,(jh a_ bA q (M q)).1.getLastD 0=l:=⟨_,rfl⟩;rw[m];have J:Hid ((jh a_ bA q (M q)).1.getLastD 0=l):=m;clear m;have o:=RX a_ bA q;have y:=f.NH a_ bA;have B:hJ (ar L (aw #[U g (M A) ac,aD (some ⟨w,0,none⟩),U none 0 0,cK false] 283)) (S (R L)) (U g (M A) ac) (aD (some ⟨w,0,none⟩)) [] false:=⟨_,aL.bT L _ _,eE _ _ _ _⟩;clear x u;go_enter func155,ntmps155;go_wp2
  go_loopw [18] (λr wr=>∃Y:Nat,Y<=M q/\r=O Q Y/\hJ wr (S (R L)) (U g (M A) ac) (aD (some ⟨w,0,none⟩)) (jh a_ bA q Y).1 (jh a_ bA q Y).2/\aF (S (R L)) L wr) (λr _=>M q-(intOf r).toNat)
  case atStart=>exact⟨0,bL _,rfl,B,(ca _ L).alloc (aN _) _⟩
  case round=>
   obtain⟨Y,K,rfl,c,a⟩:=hrel;clear B;have P:=c.am;by_cases d:Y<M q
   ·obtain⟨C,D⟩:=k Y d;have hS:=(a.cell (p:=⟨N,Y*2,none⟩) i).trans C;have hV:=(a.cell (p:=⟨N,Y*2+1,none⟩) i).trans D;have gf:=y Y d;have gg:=o Y K;have gj:Hid (jh a_ bA q (Y+1)=eZ a_ bA (jh a_ bA q Y) q[Y]):=DS a_ bA q Y d;generalize q[Y]=b at*;have hZ:(Y:Int)<(M q:Int):=T;have ih:(0:Int)<=(Y:Int):=T;have iR:N<S (R wr):=cI i a.size;have E:=(v.y a).y ((ca (S (R L)) wr).alloc (k3 P) (aw #[az b.1,O Q b.2] 245));have gC:=S0 (c.a (aw #[az b.1,O Q b.2] 245)) E T b gf;obtain⟨iU,num⟩:=b;generalize jh a_ bA q Y=iZ at*;clear C D k E;go_wp2_with(go_at_call 183;refine gC.mono ?_;rintro e gE ⟨rfl,G,s⟩);go_roundw
    case rel=>exact⟨Y+1,d,bE,by rw[gj.out];exact G,(a.alloc a.size _).trans s⟩
    case measure=>simp[intOf];omega
   ·have e:Y=M q:=by omega
    subst e;have gg:=o (M q) (aN _);have t:=yp I;rw[J.out]at t;generalize jh a_ bA q (M q)=gF at*;have gL:M gF.1.dropLast<=1000000:=by rw[uf];omega
    rw[t]at c;have g1:=yP c gL;clear c t k y o;go_wp2_with(go_at_call 184;refine g1.mono ?_;rintro e gE ⟨rfl,G,s,_⟩);go_ret;exact⟨rfl,a.trans s⟩
theorem kZ.m7{b:Nat}(h:kZ L k z A a_ w bA)(a:k<=b):kZ L b z A a_ w bA:=by refine⟨h.bX,h.hU,?_,λc d e=>⟨cI (h.iX c d e).1 a,(h.iX c d e).2⟩,⟨cI h.bA.1 a,h.bA.2⟩⟩;obtain⟨D,f,g,i⟩:=h.sT;exact⟨D,f,g,λj=>by obtain⟨N,l,m,p⟩:=i j;exact⟨N,l,cI m a,p⟩⟩
theorem FE{e6:Nat->Prop}(i:eX e6 L F q)(l:nJ q)(g:kZ L (S (R L)) z A a_ w bA):
 aR prog 115 #[dA #[O Q Y,F],z,aD (some ⟨w,0,none⟩)] L λe j=>e=aM (cK (decide (bA.ao=Y)&&oN q a_ bA))/\aF (S (R L)) L j:=by
 obtain⟨b,aE,rfl,_⟩:=i.o;obtain⟨m,ac,rfl,_⟩:=g.sT;obtain⟨G,W,o⟩:=g.bA;have h:=aL.bT L #[O Q Y,U b (M q) aE] 194;have a:aF (S (R L)) L (ar L (aw #[O Q Y,U b (M q) aE] 194)):=(ca _ L).alloc (aN _) _;have k:j8 (ar L (aw #[O Q Y,U b (M q) aE] 194)) w bA W:=aL.a o _;have p:=k.aa 1;have H:=k.am;have r:=h.aa 0;have s:=h.aa 1;have I:=h.am;simp at p r s;have t:∀f,aF (S (R (ar L (aw #[O Q Y,U b (M q) aE] 194)))) (ar L (aw #[O Q Y,U b (M q) aE] 194)) f->aR prog 155 #[U b (M q) aE,U m (M A) ac,aD (some ⟨w,0,none⟩)] f λe j=>e=aM (cK (oN q a_ bA))/\aF (S (R L)) L j:=λf u=>by have c:aF (S (R L)) L f:=a.trans (u.mono av);refine(Ig (e6:=e6) (i.i (λv x y=>⟨x,c.block v y⟩)) l ((g.y c).m7 c.size)).mono ?_;rintro e j ⟨B,C⟩;exact⟨B,c.trans (C.mono c.size)⟩
 generalize oN q a_ bA=J at*;by_cases d:bA.ao=Y
 ·have D:(bA.ao==(Y:Int))=true:=by simpa using d
  rw[lW d,A7];go_enter func115,ntmps115;go_upto_region 1 with fail;go_region_with (first|(go_at_call 155;refine(t _ (by first|exact ca _ _|exact⟨rfl,rfl,rfl,aN _,λ_ _=>rfl⟩)).mono ?_;rintro e K ⟨rfl,E⟩))
  all_goals
   go_wp2;go_ret;exact⟨rfl,E⟩
 ·have D:(bA.ao==(Y:Int))=false:=by simpa using d
  have P:decide (bA.ao=(Y:Int))=false:=by simpa using d
  rw[kt d,zZ];go_enter func115,ntmps115;go_upto_region 1 with fail;go_quiet(fail)
  all_goals
   go_wp2;go_ret;exact⟨rfl,by first|exact a|exact⟨a.os,a.tape,a.output,a.size,a.block⟩⟩
def jZ(a:jD)(f:List be)(e:be):Bool:=decide (e.ao=a.ao)&&oN a.bB f e
def qw(f:gI):dg:=⟨λa e=>jZ f.c5 a e,λa e=>f.dh.any λN=>jZ N a e⟩
structure yU (a8:gI):Prop where
 c5:nJ a8.c5.bB
 dh:∀N∈a8.dh,nJ N.bB
 fV:a8.dh.length<=100000
structure qE (e6:Nat->Prop) (L:aq) (N Y:Nat) (a8:gI) (dc sb:an):Prop where
 am:N<L.heap.size
 rI:L.cell? ⟨N,Y*3,none⟩=some (O Q a8.c5.ao)
 st:L.cell? ⟨N,Y*3+1,none⟩=some dc
 ru:L.cell? ⟨N,Y*3+2,none⟩=some sb
 bB:eX e6 L dc a8.c5.bB
 dh:lu e6 L sb a8.dh
theorem iG.o{f:Nat->Prop}{a:List gI}(h:iG f L G a):∃j aE,G=U j (M a) aE/\∀Y,(c:Y<M a)->∃N F gf,j=some ⟨N,0,none⟩/\qE f L N Y a[Y] F gf:=by
 obtain⟨⟨d,t,k,l⟩,_⟩:=h;rcases k.2 with⟨rfl,m⟩|⟨N,u,v,rfl,_,p,_⟩
 ·exact⟨none,0,by rw[m],λY c=>T⟩
 ·refine⟨_,_,rfl,λY c=>⟨N,d[Y].1,d[Y].2,rfl,?_⟩⟩;have q:Y<M (a.zip d):=by rw[jT];omega
  have ba:∀b,b<3->∀e,(oQ (a.zip d)[Y])[b]?=some e->aK L ⟨N,Y*3+b,none⟩=some e:=by intro b r e s;have:=k.cells (g:=N) rfl (Y*3+b) e (by rw[i5 oQ 3 (λ_=>rfl) _ _ _ q r];exact s);rw[ez,du]at this;exact this
  rw[n7]at ba;exact⟨(i7.1 p).1,ba 0 ak _ rfl,ba 1 ak _ rfl,ba 2 ak _ rfl,(l Y c T).1,(l Y c T).2⟩
theorem qE.y{f:Nat->Prop}(h:qE f L N Y b F gf)(a:aF (S (R L)) L j):qE f j N Y b F gf:=
 ⟨cI h.am a.size,(a.cell (p:=⟨N,Y*3,none⟩) h.am).trans h.rI,(a.cell (p:=⟨N,Y*3+1,none⟩) h.am).trans h.st,(a.cell (p:=⟨N,Y*3+2,none⟩) h.am).trans h.ru,h.bB.i (λc d e=>⟨d,a.block c e⟩),h.dh.i (λc d e=>⟨d,a.block c e⟩)⟩
theorem eX.cV{b:Nat->Prop}(h:eX b L G q):∃c d aE,G=U c d aE:=dr h.1
theorem lu.cV{a:Nat->Prop}(h:lu a L G x):∃b c aE,G=U b c aE:=by obtain⟨⟨d,_,h,_⟩,_⟩:=h;exact dr h
theorem CC{e6:Nat->Prop}(h:qE e6 L N Y b F gf)(q:Y<W):
 aR prog 113 #[dA #[U (some ⟨N,0,none⟩) W aE,U cd Y cg]] L λe j=>e=aM (dA #[O Q b.c5.ao,F,gf])/\aF (S (R L)) L j:=by
 obtain⟨d,f,g,rfl⟩:=h.bB.cV;obtain⟨i,k,l,rfl⟩:=h.dh.cV;have r:=h.rI;have s:=h.st;have t:=h.ru;have u:=h.am;have w:(0:Int)<=(Y:Int):=T;have x:(Y:Int)<(W:Int):=T;have a:aF (S (R L)) L (ar L (aw #[U (some ⟨N,0,none⟩) W aE,U cd Y cg] 163)):=(ca _ L).alloc (aN _) _;go_enter func113,ntmps113;go_wp2;have c:=aL.bT (ar L (aw #[U (some ⟨N,0,none⟩) W aE,U cd Y cg] 163)) #[O Q b.c5.ao,U d f g,U i k l] 196;have m:=c.aa 0;have o:=c.aa 1;have p:=c.aa 2;simp at m o p;refine dG (v:=dA #[O Q b.c5.ao,U d f g,U i k l]) (by simp[results,results113,go_sem,m,o,p]) rfl ⟨rfl,?_⟩
 first
 |exact a.alloc a.size _
 |exact⟨(a.alloc a.size _).os,(a.alloc a.size _).tape,(a.alloc a.size _).output,(a.alloc a.size _).size,(a.alloc a.size _).block⟩
theorem Tb{a:Option Addr}:
 aR prog 117 #[dA #[U a W aE,U cd Y cg]] L λe j=>e=aM (cK (decide (Y=W)))/\aF (S (R L)) L j:=by
 have b:aF (S (R L)) L (ar L (aw #[U a W aE,U cd Y cg] 163)):=(ca _ L).alloc (aN _) _;have c:((Y:Int)==(W:Int))=decide (Y=W):=by rw[nM];simp;omega
 go_enter func117,ntmps117;go_wp2;go_ret;exact⟨by first|rfl|simp[c],b⟩
section
theorem Ea(a b aE:an)(L:aq):(Instr.field 196 (dA #[a,b,aE]) 0).run prog L=.ok (dA #[a,b]) L:=by kernel_rfl
theorem E8(a b aE:an)(L:aq):(Instr.field 196 (dA #[a,b,aE]) 1).run prog L=.ok aE L:=by kernel_rfl
attribute [local go_sem] Ea E8
theorem RY{l:Nat->Prop}(h:qE l L N Y b F gf)(q:Y<W)(r:nJ b.c5.bB)(s:kZ L (S (R L)) (U cd Y cg) A a_ w bA):
 aR prog 109 #[dA #[U (some ⟨N,0,none⟩) W aE,U cd Y cg],aD (some ⟨w,0,none⟩)] L λe j=>e=aM (cK (jZ b.c5 a_ bA))/\aF (S (R L)) L j:=by
 have g:=aL.bT L #[U (some ⟨N,0,none⟩) W aE,U cd Y cg] 163;have m:aF (S (R L)) L (ar L (aw #[U (some ⟨N,0,none⟩) W aE,U cd Y cg] 163)):=(ca _ L).alloc (aN _) _;have y:aK (ar L (aw #[U (some ⟨N,0,none⟩) W aE,U cd Y cg] 163)) ⟨S (R L),0,none⟩=some (U (some ⟨N,0,none⟩) W aE):=g.aa 0;have t:aK (ar L (aw #[U (some ⟨N,0,none⟩) W aE,U cd Y cg] 163)) ⟨S (R L),1,none⟩=some (U cd Y cg):=g.aa 1;have o:=g.am;have u:∀a,aF (S (R (ar L (aw #[U (some ⟨N,0,none⟩) W aE,U cd Y cg] 163)))) (ar L (aw #[U (some ⟨N,0,none⟩) W aE,U cd Y cg] 163)) a->aR prog 113 #[dA #[U (some ⟨N,0,none⟩) W aE,U cd Y cg]] a λe j=>e=aM (dA #[O Q b.c5.ao,F,gf])/\aF (S (R (ar L (aw #[U (some ⟨N,0,none⟩) W aE,U cd Y cg] 163)))) (ar L (aw #[U (some ⟨N,0,none⟩) W aE,U cd Y cg] 163)) j:=λa f=>by have d:aF (S (R L)) L a:=m.trans (f.mono av);refine(CC (h.y d) q).mono ?_;rintro e j ⟨i,k⟩;exact⟨i,f.trans (k.mono f.size)⟩
 have v:∀a,aF (S (R (ar L (aw #[U (some ⟨N,0,none⟩) W aE,U cd Y cg] 163)))) (ar L (aw #[U (some ⟨N,0,none⟩) W aE,U cd Y cg] 163)) a->aR prog 115 #[dA #[O Q b.c5.ao,F],U cd Y cg,aD (some ⟨w,0,none⟩)] a λe j=>e=aM (cK (jZ b.c5 a_ bA))/\aF (S (R L)) L j:=λa f=>by have d:aF (S (R L)) L a:=m.trans (f.mono av);refine(FE (e6:=l) (Y:=b.c5.ao) (h.y d).bB r ((s.y d).m7 d.size)).mono ?_;rintro e j ⟨i,k⟩;exact⟨i,d.trans (k.mono d.size)⟩
 obtain⟨z,B,C,rfl⟩:=h.bB.cV;obtain⟨D,E,G,rfl⟩:=h.dh.cV;generalize jZ b.c5 a_ bA=H at*;go_enter func109,ntmps109;go_upto_region 1 with fail;generalize I:ar L (aw #[U (some ⟨N,0,none⟩) W aE,U cd Y cg] 163)=J at*;go_region_with (first|(go_at_call 113;refine(u _ (by first|exact ca _ _|exact⟨rfl,rfl,rfl,aN _,λ_ _=>rfl⟩)).mono ?_;rintro e K ⟨rfl,c⟩;have P:=(c.cell (p:=⟨S (R L),1,none⟩) o).trans t;have gg:=cI o c.size)|(go_at_call 115;refine(v _ (by first|exact c|exact⟨c.os,c.tape,c.output,c.size,c.block⟩)).mono ?_;rintro e gj ⟨rfl,x⟩))
 all_goals
  go_wp2;go_ret;exact⟨rfl,x⟩
end
section
attribute [local go_sem] Ea E8
def Bc(ah:Nat)(h:Array an)(i:jD->Bool)(l:Nat->Prop)(L:aq)(m:List jD):Prop:=(∀args L,(callFunc ah args).run prog L=.ok (.enter ah args) L)/\∀(a:aq) (f:jD) (g:an),f∈m->aF (S (R L)) L a->eX l a g f.bB->aR prog ah (#[dA #[O Q f.ao,g]]++h) a λe o=>e=aM (cK (i f))/\aF (S (R a)) a o
def od(a:jD->Bool)(e:List jD):Int:=match e.findIdx? a with|some f=>(f:Int)|none=> -1
theorem Sj{c:List jD}(d:Y<M c)(h:D c[Y]=true)(e:∀a,(b:a<Y)->D (c[a]'T)=false):od D c=Y:=by have:c.findIdx? D=some Y:=uX.2 ⟨d,h,λa b=>by simp[e a b]⟩;unfold od;rw[this]
theorem Mf{c:List jD}(d:∀a,(b:a<M c)->D c[a]=false):od D c= -1:=by have:c.findIdx? D=none:=ui.2 (λf e=>by obtain⟨a,b,rfl⟩:=iW e;exact d a b);unfold od;rw[this]
theorem ML(D:jD->Bool)(c:List jD):decide ((0:Int)<=od D c)=c.any D:=by
 unfold od;cases h:c.findIdx? D with
 |none=>
  have:=ui.1 h;have e:c.any D=false:=by rw[xp];intro a b;simp[this a b]
  rw[e];rfl
 |some Y=>obtain⟨d,f,_⟩:=uX.1 h;have e:c.any D=true:=jf.2 ⟨_,b4 d,f⟩;rw[e];simp
theorem lu.o{d:Nat->Prop}(h:lu d L G x):∃e aE,G=U e (M x) aE/\(0<M x->∃N,e=some ⟨N,0,none⟩/\N<S (R L)/\∀Y,(f:Y<M x)->∃F,aK L ⟨N,Y*2,none⟩=some (O Q x[Y].ao)/\aK L ⟨N,Y*2+1,none⟩=some F/\eX d L F x[Y].bB):=by
 obtain⟨⟨c,s,j,k⟩,_⟩:=h;rcases j.2 with⟨rfl,l⟩|⟨N,t,u,rfl,_,m,_⟩
 ·exact⟨none,0,by rw[l],λh=>T⟩
 ·refine⟨_,_,rfl,λ_=>⟨N,rfl,(i7.1 m).1,λY f=>⟨c[Y],?_⟩⟩⟩;have p:Y<M (x.zip c):=by rw[jT];omega
  have ba:∀a,a<2->∀b,(nA (x.zip c)[Y])[a]?=some b->aK L ⟨N,Y*2+a,none⟩=some b:=by intro a q b r;have:=j.cells (g:=N) rfl (Y*2+a) b (by rw[i5 nA 2 (λ_=>rfl) _ _ _ p q];exact r);rw[ez,du]at this;exact this
  rw[n7]at ba;exact⟨ba 0 ak _ rfl,ba 1 ak _ rfl,k Y f T⟩
theorem R7{i:Nat->Prop}(h:lu i L G x)(K:M x<=1000000)(A:Bc ah I D i L x):
 aR prog 154 #[G,.func (.func ah) #[] I] L λe j=>e=aM (O Q (od D x))/\aF (S (R L)) L j:=by
 obtain⟨P,t⟩:=A;obtain⟨gf,aE,rfl,u⟩:=h.o;go_enter func154,ntmps154;go_wp2
 go_loopw [8] (λk wr=>∃Y:Nat,Y<=M x/\k=O Q Y/\aF (S (R L)) L wr/\Hid (∀a,(c:a<Y)->(l:a<M x)->D x[a]=false)) (λk _=>M x-(intOf k).toNat)
 case atStart=>exact⟨0,bL _,rfl,ca _ _,λa c=>absurd c (vT _)⟩
 case round=>
  obtain⟨Y,gg,rfl,b,m⟩:=hrel;by_cases f:Y<M x
  ·obtain⟨N,rfl,o,v⟩:=u T;obtain⟨F,w,y,q⟩:=v Y f;have z:eX i wr F x[Y].bB:=q.i (λB C d=>⟨C,b.block B d⟩);have g:=t wr x[Y] F (b4 f) b z;obtain⟨gj,gC,gE,rfl⟩:=q.cV;have gF:=(b.cell (p:=⟨N,Y*2,none⟩) o).trans w;have gL:=(b.cell (p:=⟨N,Y*2+1,none⟩) o).trans y;have g1:N<S (R wr):=cI o b.size;have hu:(Y:Int)<(M x:Int):=T;have hE:(0:Int)<=(Y:Int):=T;clear v u w y q z t h;cases d:D x[Y]with
   |true=>rw[d]at g;have r:Hid (od D x=(Y:Int)):=Sj f d (λa c=>m.out a c T);clear d;go_wp2_with(go_at_fn ah;refine g.mono ?_;rintro e E ⟨rfl,s⟩);go_ret;rw[r.out];exact⟨rfl,b.trans (s.mono b.size)⟩
   |false=>
    rw[d]at g;have H:Hid (∀a,(c:a<Y+1)->(l:a<M x)->D x[a]=false):=λa c l=>by
     by_cases e:a=Y
     ·subst e;exact d
     ·exact m.out a T l
    clear d;go_wp2_with(go_at_fn ah;refine g.mono ?_;rintro e E ⟨rfl,s⟩);go_roundw
    case rel=>exact⟨Y+1,f,bE,b.trans (s.mono b.size),H⟩
    case measure=>simp[intOf];omega
  ·have J:Y=M x:=by omega
   subst J;have r:Hid (od D x= -1):=Mf (λa c=>m.out a c c);go_wp2;go_ret;rw[r.out];exact⟨rfl,b⟩
theorem SS{e6:Nat->Prop}(h:lu e6 L G x)(a:M x<=1000000)(b:Bc ah I D e6 L x):
 aR prog 112 #[G,.func (.func ah) #[] I] L λe j=>e=aM (cK (x.any D))/\aF (S (R L)) L j:=by
 have c:=R7 h a b;obtain⟨g,i,k,rfl⟩:=h.cV;have d:Hid (decide ((0:Int)<=od D x)=x.any D):=ML D x;generalize od D x=l at*;go_enter func112,ntmps112;go_wp2_with(go_at_call 154;refine c.mono ?_;rintro e m ⟨rfl,f⟩);go_ret;exact⟨kC d.out,f⟩
theorem Mb{f:Nat->Prop}{c bh:Nat}{dJ gg:an}(m:aK L ⟨c,1,none⟩=some gg)(g:c<S (R L))(o:aK L ⟨bh,0,none⟩=some (aD (some ⟨w,0,none⟩)))(h:bh<S (R L))(i:kZ L (S (R L)) gg A a_ w bA)(q:∀a∈x,nJ a.bB):
 Bc 114 #[aD (some ⟨c,0,none⟩),aD (some ⟨bh,0,none⟩)] (λa=>jZ a a_ bA) f L x:=by
 refine⟨Go.Proofs.enters_of func114 (by kernel_rfl) rfl,λj a F r b k=>?_⟩;have E:=(b.cell (p:=⟨c,1,none⟩) g).trans m;have G:=(b.cell (p:=⟨bh,0,none⟩) h).trans o;have H:=cI g b.size;have I:=cI h b.size;have d:aF (S (R j)) j (ar j (aw #[O Q a.ao,F] 194)):=(ca _ j).alloc (aN _) _;have l:=FE (e6:=f) (Y:=a.ao) (k.i (λs t u=>⟨t,d.block s u⟩)) (q a r) (((i.y b).m7 b.size).y d|>.m7 d.size);obtain⟨J,ac,rfl,_⟩:=i.sT;obtain⟨v,y,z,rfl⟩:=k.cV;show aR prog 114 #[dA #[O Q a.ao,U v y z],aD (some ⟨c,0,none⟩),aD (some ⟨bh,0,none⟩)] j _;have B:(λa=>jZ a a_ bA) a=jZ a a_ bA:=rfl;rw[B];have C:(decide (bA.ao=a.ao)&&oN a.bB a_ bA)=jZ a a_ bA:=rfl;rw[C]at l;generalize jZ a a_ bA=K at*;go_enter func114,ntmps114;go_wp2_with(go_at_call 115;refine l.mono ?_;rintro e P ⟨rfl,D⟩);go_ret;exact⟨rfl,d.trans (D.mono d.size)⟩
theorem IA{g:Nat->Prop}(h:qE g L N Y b F gf)(p:Y<W)(q:∀a∈b.dh,nJ a.bB)(r:M b.dh<=1000000)(s:kZ L (S (R L)) (U cd Y cg) A a_ w bA):
 aR prog 76 #[dA #[U (some ⟨N,0,none⟩) W aE,U cd Y cg],aD (some ⟨w,0,none⟩)] L λe j=>e=aM (cK (b.dh.any λa=>jZ a a_ bA))/\aF (S (R L)) L j:=by
 have t:=aL.bT L #[U (some ⟨N,0,none⟩) W aE,U cd Y cg] 163;have k:=t.a (aw #[aD (some ⟨w,0,none⟩)] 156);have i:=aL.bT (ar L (aw #[U (some ⟨N,0,none⟩) W aE,U cd Y cg] 163)) #[aD (some ⟨w,0,none⟩)] 156;have c:aF (S (R L)) L (ar (ar L (aw #[U (some ⟨N,0,none⟩) W aE,U cd Y cg] 163)) (aw #[aD (some ⟨w,0,none⟩)] 156)):=((ca _ L).alloc (aN _) _).alloc av _;rw[hQ]at i;have u:=CC (e6:=g) (W:=W) (aE:=aE) (cd:=cd) (cg:=cg) (h.y c) p;have v:=(s.y c).m7 c.size;have x:=(h.y c).dh;have y:∀f,aF (S (R (ar (ar L (aw #[U (some ⟨N,0,none⟩) W aE,U cd Y cg] 163)) (aw #[aD (some ⟨w,0,none⟩)] 156)))) (ar (ar L (aw #[U (some ⟨N,0,none⟩) W aE,U cd Y cg] 163)) (aw #[aD (some ⟨w,0,none⟩)] 156)) f->aR prog 112 #[gf,.func (.func 114) #[] #[aD (some ⟨S (R L),0,none⟩),aD (some ⟨S (R L)+1,0,none⟩)]] f λe j=>e=aM (cK (b.dh.any λa=>jZ a a_ bA))/\aF (S (R L)) L j:=λf d=>by have l:aF (S (R L)) L f:=c.trans (d.mono c.size);have m:=k.d (d.block _ k.am);have o:=i.d (d.block _ i.am);refine(SS (e6:=g) (x.i (λz B C=>⟨B,d.block z C⟩)) r (Mb (dJ:=U (some ⟨N,0,none⟩) W aE) (m.aa 1) m.am (o.aa 0) o.am ((v.y d).m7 d.size) q)).mono ?_;rintro e j ⟨D,E⟩;exact⟨D,l.trans (E.mono l.size)⟩
 obtain⟨I,J,K,rfl⟩:=h.bB.cV;obtain⟨P,gg,gj,rfl⟩:=h.dh.cV;generalize(b.dh.any λa=>jZ a a_ bA)=gC at*;go_enter func76,ntmps76;go_wp2_with(first|(go_at_call 113;refine u.mono ?_;rintro e gE ⟨rfl,G⟩)|(go_at_call 112;refine(y _ G).mono ?_;rintro e gF ⟨rfl,H⟩))
 go_ret;exact⟨rfl,H⟩
end
def c1(a:Int):Prop:= -9223372036854775808<=a/\a<=9223372036854775807
theorem Qm(h:gj<=gC)(a:c1 gj)(b:c1 gC)(c:0<=B/\B<=1000000):((gC%18446744073709551616-gj%18446744073709551616)%18446744073709551616<B%18446744073709551616)↔gC-gj<B:=by unfold c1 at*;omega
theorem Cx(d:gE<S (R L))(f:aK L ⟨gE,0,none⟩=some (O Q B))(h:gj<=gC)(a:c1 gj)(b:c1 gC)(c:0<=B/\B<=1000000):
 aR prog 105 #[aD (some ⟨gE,0,none⟩),O Q gj,O Q gC] L λe j=>e=aM (cK (decide (gC-gj<B)))/\j=L:=by
 have g:=Qm h a b c;go_enter func105,ntmps105;go_wp2;go_ret;refine⟨?_,rfl⟩;simp[IntKind.wrap,IntKind.bits,IntKind.signed];unfold c1 at*;omega
theorem HI(h:aY L 0 3 1 gg (M r) (r.map (O Q))):∃a aE,gg=U a (M r) aE/\(0<M r->∃N,a=some ⟨N,0,none⟩/\N<S (R L)/\∀Y,(b:Y<M r)->aK L ⟨N,Y,none⟩=some (O Q r[Y])):=by
 rcases h.2 with⟨rfl,c⟩|⟨N,e,f,rfl,_,d,_⟩
 ·exact⟨none,0,by rw[c],λh=>T⟩
 ·refine⟨_,_,rfl,λ_=>⟨N,rfl,(i7.1 d).1,λY b=>?_⟩⟩;have:=h.cells (g:=N) rfl Y (O Q r[Y]) (by rw[gq,dz b];rfl);rw[ez,du]at this;exact this
theorem EZ{b:Int}{t:an}(f:aL L gE #[O Q B,t,J,K,gg,gF] 110)(m:aY L 0 3 1 gg (M r) (r.map (O Q)))(H:M r<=1000000)(o:∀E∈r,E<=b/\c1 E)(u:c1 b)(v:0<=B/\B<=1000000):
 aR prog 71 #[aD (some ⟨gE,0,none⟩),O Q b] L λe j=>e=aM (O Q (ex B b r))/\j=L:=by
 obtain⟨I,aE,rfl,p⟩:=HI m;have q:=f.aa 0;have w:=f.aa 4;have x:=f.am;simp at q w;clear m f;go_enter func71,ntmps71;go_wp2
 go_loopw [5] (λW wr=>∃Y:Nat,Y<=M r/\W=O Q Y/\wr=L/\Hid (∀a,(h:a<Y)->(y:a<M r)->B<=b-r[a])) (λW _=>M r-(intOf W).toNat)
 case atStart=>exact⟨0,bL _,rfl,rfl,λa h=>absurd h (vT _)⟩
 case round=>
  obtain⟨Y,P,rfl,rfl,k⟩:=hrel;by_cases g:Y<M r
  ·obtain⟨N,rfl,gf,s⟩:=p T;have gj:=s Y g;obtain⟨z,A⟩:=o r[Y] (b4 g);have i:=Cx x q z A u v;have gC:(Y:Int)<(M r:Int):=T;have gL:(0:Int)<=(Y:Int):=T;clear s p o;by_cases c:b-r[Y]<B
   ·rw[lW c]at i;have l:Hid (ex B b r=Y):=QH B b r Y g (λa d=>vl.2 (k.out a d T)) c;generalize r[Y]=C at*;clear c;go_wp2_with(go_at_call 105;refine i.mono ?_;rintro e D ⟨rfl,rfl⟩);go_ret;rw[l.out];exact⟨rfl,rfl⟩
   ·rw[kt c]at i
    have F:Hid (∀a,(h:a<Y+1)->(y:a<M r)->B<=b-r[a]):=λa d G=>by
     by_cases e:a=Y
     ·subst e;omega
     ·exact k.out a T G
    generalize r[Y]=C at*;clear c;go_wp2_with(go_at_call 105;refine i.mono ?_;rintro e D ⟨rfl,rfl⟩);go_roundw
    case rel=>exact⟨Y+1,g,bE,trivial,F⟩
    case measure=>simp[intOf];omega
  ·have e:Y=M r:=by omega
   subst e;have l:Hid (ex B b r=M r):=Sa B b r (λa d=>vl.2 (k.out a d d));go_wp2;go_ret;rw[l.out];exact⟨rfl,rfl⟩
def e4(e:be):an:=dA #[O Q e.aS,O Q e.ao,O Q e.bj,O Q e.X,O Q e.aE]
def yB(f:Int)(g:Nat)(a:List Int)(e:Int):Nat:=if 0<M a/\e<a.getLastD 0 then 7 else if g<=M a-ex f e a then 8 else 0
theorem Mi{c:Nat}(a:be)(C:aL L gE #[O Q B,O Q c,J,K,gg,gF] 110)(d:aY L 0 3 1 gg (M r) (r.map (O Q)))(D:M r<=1000000)(g1:c<=1000000)(i:∀E∈r,E<=r.getLastD 0/\c1 E)(F:c1 a.aS)(G:0<=B/\B<=1000000):
 aR prog 48 #[aD (some ⟨gE,0,none⟩),e4 a] L λe j=>e=aM (O Q (yB B c r a.aS))/\aF (S (R L)) L j:=by
 have w:=aL.bT L #[O Q a.aS,O Q a.ao,O Q a.bj,O Q a.X,O Q a.aE] 44;have k:aF (S (R L)) L (ar L (aw #[O Q a.aS,O Q a.ao,O Q a.bj,O Q a.X,O Q a.aE] 44)):=(ca _ L).alloc (aN _) _;have q:=C.a (aw #[O Q a.aS,O Q a.ao,O Q a.bj,O Q a.X,O Q a.aE] 44);have x:=d.alloc (aw #[O Q a.aS,O Q a.ao,O Q a.bj,O Q a.X,O Q a.aE] 44);unfold e4 yB;generalize hu:ar L (aw #[O Q a.aS,O Q a.ao,O Q a.bj,O Q a.X,O Q a.aE] 44)=s at*;have l:∀b W,(∀E∈r,E<=a.aS/\c1 E)->aR prog 71 #[aD (some ⟨gE,0,none⟩),O Q a.aS] (bY s (b+W)) λe j=>e=aM (O Q (ex B a.aS r))/\∃Y,j=bY s (b+Y):=λb W i=>by refine(EZ (L:=bY s (b+W)) q x D i F G).mono ?_;rintro e j ⟨m,g⟩;exact⟨m,W,g⟩
 obtain⟨hE,aE,rfl,u⟩:=HI x;have H:=w.aa 0;have hS:=w.am;have y:=q.aa 4;have I:=q.aa 1;have hV:=q.am;simp at H y I;have o:∀W,aF (S (R L)) L (bY s W):=λW=>⟨k.os,k.tape,k.output,k.size,k.block⟩
 have P:=tP B a.aS r;have hZ:Hid (ex B a.aS r=ex B a.aS r):=rfl;by_cases m:0<M r
 ·obtain⟨N,rfl,ih,z⟩:=u m;obtain⟨b,gf⟩:∃b,M r=b+1:=⟨M r-1,T⟩;have gj:r.getLastD 0=r[b]:=by rw[l7,ws];simp[gf]
  have iR:=z b T;rw[gj]at i⊢;have iU:(M r:Int)-1=(b:Int):=T;have iZ:(0:Int)<=(b:Int):=T;have i0:(b:Int)<(M r:Int):=T;clear z u;by_cases g:a.aS<r[b]
  ·rw[aP ⟨m,g⟩];generalize r[b]=gC at*;clear l;go_enter func48,ntmps48;go_upto_region 2 with fail;go_quiet(fail);go_wp2;go_ret;exact⟨rfl,o _⟩
  ·rw[aH (λh=>g h.2)];have f:=λb W=>l b W (λE d=>⟨Int.le_trans (i E d).1 (vl.1 g),(i E d).2⟩)
   have i1:decide (a.aS<r[b])=false:=kt g;clear l;generalize ex B a.aS r=v at*;generalize r[b]=gC at*;by_cases p:c<=M r-v
   ·rw[aP p];have t:(c:Int)<=(M r:Int)-(v:Int):=T;go_enter func48,ntmps48;go_upto_region 2 with fail;go_quiet(fail);go_upto_region 4 with fail;go_quiet(first|(go_at_call 71;refine f _ _));go_wp2;go_ret;exact⟨rfl,o _⟩
   ·rw[aH p];have t:(M r:Int)-(v:Int)<(c:Int):=T;go_enter func48,ntmps48;go_upto_region 2 with fail;go_quiet(fail);go_upto_region 4 with fail;go_quiet(first|(go_at_call 71;refine f _ _));go_wp2;go_ret;exact⟨rfl,o _⟩
 ·rw[aH (λh=>m h.1)];have A:M r=0:=T;have f:=λb W=>l b W (λE d=>by rw[nx.1 A]at d;simp at d)
  rw[nx.1 A]at f y P⊢;clear l u;have gL:ex B a.aS []=0:=rfl;rw[gL]at f⊢;by_cases p:c<=0
  ·rw[aP (by simpa using p)];have t:c=0:=T;subst t;go_enter func48,ntmps48;go_upto_region 2 with fail;go_quiet(fail);go_upto_region 4 with fail;go_quiet(first|(go_at_call 71;refine f _ _));go_wp2;go_ret;exact⟨rfl,o _⟩
  ·rw[aH (by simpa using p)];have t:(0:Int)<(c:Int):=T;go_enter func48,ntmps48;go_upto_region 2 with fail;go_quiet(fail);go_upto_region 4 with fail;go_quiet(first|(go_at_call 71;refine f _ _));go_wp2;go_ret;exact⟨rfl,o _⟩
def x4(e:be)(ah:ByteArray):Int:=if(aJ ah)==[97]then e.bj else if(aJ ah)==[98]then e.X else if(aJ ah)==[99]then e.aE else e.aS
def dW(f:ByteArray->be):cH->Option Int
 |.bp h=>some h
 |.f2 name i _=>some (x4 (f name) i)
 |.eH g l m=>match dW f l,dW f m with
  |some e,some a=>if(aJ g)==[43]then some (wrap64 (e+a))else if(aJ g)==[45]then some (wrap64 (e-a))else if(aJ g)==[42]then some (wrap64 (e*a))else if a=0 then none else some (wrap64 (e.tdiv a))
  |_,_=>none
def fE(a:ByteArray->be):cH->Bool
 |.bp _=>false
 |.f2 _ _ _=>false
 |.eH e f g=>if(aJ e)==[97,110,100]then fE a f&&fE a g else if(aJ e)==[111,114]then fE a f||fE a g else match dW a f,dW a g with
  |some h,some i=>mj h e i
  |_,_=>false
theorem fo(a:UInt8):aJ (⟨#[a]⟩:ByteArray)=[a]:=by kernel_rfl
theorem dt(a aE:UInt8):aJ (⟨#[a,aE]⟩:ByteArray)=[a,aE]:=by kernel_rfl
theorem G2:aJ pT=[112,117,115,104]:=by kernel_rfl
theorem Cy:aJ nS=[111,112,112,111,115,105,116,101]:=by kernel_rfl
theorem AN:aJ lT=[97,110,100]:=by kernel_rfl
theorem A_:aJ iI=[111,114]:=by kernel_rfl
theorem sv:aJ gM=[45]:=by kernel_rfl
theorem uB:aJ nc=[43]:=by kernel_rfl
theorem vj:aJ m9=[42]:=by kernel_rfl
theorem uq:aJ m3=[47]:=by kernel_rfl
def Iq(f:ByteArray->be):Bool->cH->List Int×Bool->List Int×Bool->Prop
 |false,e,a,g=>∃h,g=(a.1++[h],a.2||(dW f e).isNone)/\∀i,dW f e=some i->h=i
 |true,e,a,g=>a.2=false->g=(a.1++[if fE f e then 1 else 0],false)
def hy(a:List ByteArray)(e:List be)(f:be)(name:ByteArray):be:=h4 e f (ma name a)
theorem BD(b:List Int)(a c:Int):(b++[a]++[c]).getLastD 0=c/\(b++[a]++[c]).dropLast=b++[a]/\(b++[a]).getLastD 0=a/\(b++[a]).dropLast=b:=by
 refine⟨?_,?_,?_,?_⟩
 ·simp[l7]
 ·exact List.dropLast_concat
 ·simp[l7]
 ·exact List.dropLast_concat
theorem OX(a b:Bool):bits BinOp.and Q (if a then 1 else 0) (if b then 1 else 0)=(if(a&&b)then 1 else 0)/\bits BinOp.or Q (if a then 1 else 0) (if b then 1 else 0)=(if(a||b)then 1 else 0):=by cases a<;>cases b<;>exact⟨by kernel_rfl,by kernel_rfl⟩
theorem DZ{Y:Bool}(h:fu Y E c):∀b:List Int×Bool,Iq (hy bs a_ bA) Y E b ((c.map (d2 bs)).foldl (eZ a_ bA) b):=by
 induction h with
 |bp W=>intro b;refine⟨W,?_,λf i=>by simpa[dW]using i⟩;simp[d2,eZ,G2,mV,dW]
 |@f2 name gC hS hV gf _=>intro b;refine⟨x4 (hy bs a_ bA name) gC,?_,λf i=>by simpa[dW]using i⟩;simp only[fz,ek,nE,oz]at gf;rcases gf with rfl|rfl|rfl|rfl<;>simp[d2,eZ,fo,mV,dW,x4,hy]
 |@s4 E c _ gE=>
  intro b;obtain⟨G,s,D⟩:=gE b;rw[dv,h_,s];refine⟨wrap64 (-G),?_,λf i=>?_⟩
  ·have e:(dW (hy bs a_ bA) (.eH gM (.bp 0) E)).isNone=(dW (hy bs a_ bA) E).isNone:=by
    simp only[dW,sv];cases dW (hy bs a_ bA) E<;>simp
   rw[e];simp[d2,eZ,Cy,mV,l7]
  ·simp only[dW,sv]at i;cases J:dW (hy bs a_ bA) E with
   |none=>rw[J]at i;simp at i
   |some d=>rw[J]at i;simp at i;rw[D d J,<-i]
 |@r9 j l m t I a _ _ u v=>
  intro b;obtain⟨f,w,K⟩:=u b;obtain⟨d,x,F⟩:=v ((t.map (d2 bs)).foldl (eZ a_ bA) b);rw[w]at x;rw[dv,dv,h_,h_,w,x];simp only[hB,pB,hc,A8];obtain⟨y,z,A,B⟩:=BD b.1 f d;have H:∀p,eZ a_ bA (b.1++[f]++[d],p) (d2 bs ⟨j,0,⟨#[]⟩,0⟩)=(b.1++[(fX p f j d).1],(fX p f j d).2):=by intro p;simp only[ek,nE,oz]at a;unfold eZ;simp only[y,z,A,B];rcases a with rfl|rfl|rfl|rfl<;>simp[d2,mV,vj,uq,uB,sv]
  rw[H];clear H;refine⟨(fX (b.2||(dW (hy bs a_ bA) l).isNone||(dW (hy bs a_ bA) m).isNone) f j d).1,?_,λG g=>?_⟩
  ·congr 1;simp only[ek,nE,oz]at a;cases k:dW (hy bs a_ bA) l with
   |none=>
    rcases a with rfl|rfl|rfl|rfl<;>simp[fX,dW,k,vj,uq,uB,sv]
    split<;>rfl
   |some r=>
    cases o:dW (hy bs a_ bA) m with
    |none=>
     rcases a with rfl|rfl|rfl|rfl<;>simp[fX,dW,k,o,vj,uq,uB,sv]
     split<;>rfl
    |some q=>
     have:=F q o;subst this;rcases a with rfl|rfl|rfl|rfl<;>simp[fX,dW,k,o,vj,uq,uB,sv]
     by_cases C:d=0
     ·simp[C]
     ·simp[C]
  ·simp only[ek,nE,oz]at a;simp only[dW]at g;cases k:dW (hy bs a_ bA) l with
   |none=>rw[k]at g;simp at g
   |some r=>
    cases o:dW (hy bs a_ bA) m with
    |none=>rw[k,o]at g;simp at g
    |some q=>
     rw[k,o]at g;have gF:=K r k;have gL:=F q o;subst gF gL;rcases a with rfl|rfl|rfl|rfl
     ·simpa[fX,vj]using g
     ·simp only[fX,uq]at g⊢;by_cases C:d=0
      ·simp[C]at g
      ·simpa[C]using g
     ·simpa[fX,uB]using g
     ·simpa[fX,sv]using g
 |@rq j l m t I a _ _ u v=>
  intro b;obtain⟨f,w,K⟩:=u b;obtain⟨d,x,F⟩:=v ((t.map (d2 bs)).foldl (eZ a_ bA) b);rw[w]at x;rw[dv,dv,h_,h_,w,x];simp only[hB,pB,hc,A8];obtain⟨y,z,A,B⟩:=BD b.1 f d;intro P;have H:∀p,eZ a_ bA (b.1++[f]++[d],p) (d2 bs ⟨j,0,⟨#[]⟩,0⟩)=(b.1++[rU p f j d],false):=by intro p;simp only[gz,ek,nE,oz]at a;unfold eZ;simp only[y,z,A,B];rcases a with rfl|rfl|rfl|rfl|rfl|rfl<;>simp[d2,mV,fo,dt,fX]
  rw[H,P];congr 2;have g1:fE (hy bs a_ bA) (.eH j l m)=match dW (hy bs a_ bA) l,dW (hy bs a_ bA) m with|some f,some d=>mj f j d|_,_=>false:=by simp only[gz,ek,nE,oz]at a;rcases a with rfl|rfl|rfl|rfl|rfl|rfl<;>simp[fE,fo,dt]
  rw[g1];unfold rU;cases k:dW (hy bs a_ bA) l with
  |none=>simp
  |some r=>
   cases o:dW (hy bs a_ bA) m with
   |none=>simp
   |some q=>rw[K r k,F q o];simp
 |@qG j l m t I a _ _ u v=>
  intro b P;have s:=u b P;have D:=v ((t.map (d2 bs)).foldl (eZ a_ bA) b) (by rw[s]);rw[s]at D;rw[dv,dv,h_,h_,s,D];simp only[hB,pB,hc,A8];generalize gg:fE (hy bs a_ bA) l=r at*;generalize gj:fE (hy bs a_ bA) m=q at*;obtain⟨y,z,A,B⟩:=BD b.1 (if r=true then 1 else 0) (if q=true then 1 else 0);obtain⟨hu,hE⟩:=OX r q;simp only[ek,nE,oz]at a;unfold eZ;simp only[y,z,A,B];rcases a with rfl|rfl
  ·simp[d2,mV,AN,fX,fE,gg,gj,hu]
  ·simp[d2,mV,A_,fX,fE,gg,gj,hE]
theorem Lc(h:fu true E c)(a:c≠[]):oN (c.map (d2 bs)) a_ bA=fE (hy bs a_ bA) E:=by
 have b:jh a_ bA (c.map (d2 bs)) (M (c.map (d2 bs)))=([]++[if fE (hy bs a_ bA) E then 1 else 0],false):=by unfold jh;rw[eQ];exact DZ h ([],false) rfl
 unfold oN;rw[aH (by simpa using a),b];cases fE (hy bs a_ bA) E<;>rfl
def oy(a:List be)(e:be):List Int×Bool->List (ByteArray×Nat)->Prop
 |_,[]=>True
 |f,g::h=>oE g<=M f.1/\oy a e (eZ a e f g) h
theorem oy.C:∀{a c:List (ByteArray×Nat)} {b:List Int×Bool},oy a_ bA b a->oy a_ bA (a.foldl (eZ a_ bA) b) c->oy a_ bA b (a++c):=by
 intro a
 induction a with
 |nil=>intro c b _ h;exact h
 |cons g a e=>intro c b d f;exact⟨d.1,e d.2 f⟩
theorem oy.o:∀{c:List (ByteArray×Nat)} {b:List Int×Bool},oy a_ bA b c->∀Y,(h:Y<M c)->oE c[Y]<=M ((c.take Y).foldl (eZ a_ bA) b).1:=by
 intro c
 induction c with
 |nil=>intro b _ Y h;simp at h
 |cons e c a=>
  intro b h Y d;cases Y with
  |zero=>exact h.1
  |succ Y=>exact a h.2 Y (by simpa using d)
theorem yQ{Y:Bool}(h:fu Y E c)(b:List Int×Bool)(a:Y=true->b.2=false):M ((c.map (d2 bs)).foldl (eZ a_ bA) b).1=M b.1+1/\(Y=true->((c.map (d2 bs)).foldl (eZ a_ bA) b).2=false):=by
 have:=DZ (bs:=bs) (a_:=a_) (bA:=bA) h b;cases Y with
 |false=>obtain⟨G,d,_⟩:=this;rw[d];simp
 |true=>rw[this (a rfl)];simp
theorem SC{Y:Bool}(h:fu Y E c):∀b:List Int×Bool,(Y=true->b.2=false)->oy a_ bA b (c.map (d2 bs)):=by
 have l:∀{Y j:Bool} {p:ByteArray} {q r:cH} {i I:List c0},fu Y q i->fu Y r I->(∀b:List Int×Bool,(Y=true->b.2=false)->oy a_ bA b (i.map (d2 bs)))->(∀b:List Int×Bool,(Y=true->b.2=false)->oy a_ bA b (I.map (d2 bs)))->∀b:List Int×Bool,(Y=true->b.2=false)->oy a_ bA b ((i++I++[(⟨p,0,⟨#[]⟩,0⟩:c0)]).map (d2 bs)):=by
  intro Y j p q r i I a d f g b k;obtain⟨o,s⟩:=yQ (bs:=bs) (a_:=a_) (bA:=bA) a b k;obtain⟨u,w⟩:=yQ (bs:=bs) (a_:=a_) (bA:=bA) d ((i.map (d2 bs)).foldl (eZ a_ bA) b) s;rw[dv,dv];refine((f b k).C (g _ s)).C ⟨?_,trivial⟩;rw[h_,u,o];refine bS (m:=2) ?_ T;unfold oE;split
  ·omega
  ·split<;>omega
 induction h with
 |bp W=>intro b _;exact⟨by simp[oE,d2,G2],trivial⟩
 |@f2 name x y z t _=>intro b _;refine⟨?_,trivial⟩;simp only[fz,ek,nE,oz]at t;rcases t with rfl|rfl|rfl|rfl<;>simp[oE,d2,fo]
 |@s4 E c h v=>intro b k;rw[dv];refine(v b (λe=>by cases e)).C ⟨?_,trivial⟩;obtain⟨o,_⟩:=yQ (bs:=bs) (a_:=a_) (bA:=bA) h b (λe=>by cases e);rw[o];simp[oE,d2,Cy]
 |r9 _ a d f g=>exact l (j:=false) a d f g
 |rq _ a d f g=>exactλb k=>l (j:=true) a d f g b (λe=>by cases e)
 |qG _ a d f g=>exact l (j:=true) a d f g
theorem KG(bs:List ByteArray)(h:fu true E c)(a:M c<=10000):nJ (c.map (d2 bs)):=by
 refine⟨by simpa using a,λa_ bA Y b=>?_,λa_ bA _=>?_⟩
 ·exact(SC (bs:=bs) (a_:=a_) (bA:=bA) h ([],false) (λ_=>rfl)).o Y b
 ·have:=(yQ (bs:=bs) (a_:=a_) (bA:=bA) h ([],false) (λ_=>rfl)).1;unfold jh;rw[eQ,this];exact Gy _ _
theorem MH:nJ []:=⟨bL _,λ_ _ Y h=>by simp at h,λ_ _ h=>by simp at h⟩
