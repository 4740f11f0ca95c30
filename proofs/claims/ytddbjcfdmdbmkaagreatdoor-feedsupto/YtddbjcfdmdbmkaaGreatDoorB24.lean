import Derived.Test.YtddbjcfdmdbmkaaGreatDoorB23
set_option linter.all false
set_option maxRecDepth 100000
set_option maxHeartbeats 3200000
namespace Go.Proofs.YtddbjcfdmdbmkaaGreatDoor
open Go.RowKit Go.Proofs.Tryz
open Go renaming Calls->aR,Value->an,World->aq
open Go.Ending renaming returned->aM
open Go.IntKind renaming i64->Q
open Go.Obj renaming cells->aw
open Go.RowKit renaming Below->aF,Hid->ag,intOf->bm
open Go.Value renaming agg->dA,int->O,pointer->aD,slice->U,tuple->b2,ownBlock->ap
open _root_.Array renaming size->S
open Go.World renaming alloc->ar,cell?->aK,drewN->bY,heap->R,ownsRow->aY,setCell->ay
open List renaming length->M
variable{L q:aq}{E a N G ah iR iU u gL r x D g1 J:Nat}{iZ gj gE gF i0 gf gg hu ih hS hV:an}{bc F K H:List bO}{I:bO->Int}{z:bO->Bool}{hZ:Array an}{hE B:List an}{w:List be}{A i1 b j:List Nat}{gC:Option Addr}{k:List (List gI)}{d:bO}
theorem gd.i8{a:Nat->Prop}{e f g i j:an}{bh:Nat->Prop}(h:gd a L E iZ gj gE gF i0 gf bc I)(c:aL q E #[e,f,g,i,j,gf] 110)(d:bv bh L q)(l:∀b,bh b->¬a b)(m:∀N,ap gf=some N->¬bh N):gd a q E e f g i j gf bc I:=
 ⟨c,cw h.bg λN k=>d.o N (h.bg.lt N k).2 (m N k),λb c=>cI (h.m_ b c) d.b5,h.mJ,h.jJ,gd.BH h.kh d l,h.dJ⟩
def re(c:Nat)(L:aq):Nat:=match(aK L) ⟨c,5,none⟩with|some (U _ e _)=>e|_=>0
theorem gd.re{c:Nat->Prop}(h:gd c L E iZ gj gE gF i0 gf bc I):re E L=M bc:=by
 have a:=h.ee.aa 5;simp at a;unfold Go.Proofs.YtddbjcfdmdbmkaaGreatDoor.re;rcases h.gj with⟨b,d⟩|⟨N,G,b,_⟩
 ·rw[a,b,d];rfl
 ·rw[a,b]
theorem LJ{w:Nat->Prop}{c af:Int}{A:an}{f:List Int}(h:hK w L E (O Q c) gj gE gF A gf bc I)(P:aY L 0 3 1 A (M f) (f.map (O Q)))(mY:∀N,ap A=some N->¬w N)(tB:M f<=1000000)(Bo:M bc<=1000000)(m5:∀jt∈f,jt<=af/\c1 jt)(ne:∀d∈bc,I d<=af/\c1 (I d))(nB:c1 af)(nG:0<=c/\c<=1000000):
 aR prog 72 #[aD (some ⟨E,0,none⟩),O Q af] L λe q=>e=aM (b2 #[])/\∃j D l hE hS,hK w q E (O Q c) gj gE gF (U j D l) hE hS I/\aY q 0 3 1 (U j D l) (M (f.drop (ex c af f))) ((f.drop (ex c af f)).map (O Q))/\hS.Perm (bc.filter λd=>decide (af-I d<c))/\bv (λb=>b=E\/ap A=some b\/ap gf=some b) L q/\ap (U j D l)=ap A/\ap hE=ap gf:=by
 have gg:=h.ee;have tI:=tP c af f;have oa:∀v,R v=R L->aR prog 71 #[aD (some ⟨E,0,none⟩),O Q af] v λe q=>e=aM (O Q (ex c af f))/\q=v:=λv H=>by refine EZ (gg.d (by rw[H])) (cw P (λN _=>by rw[H])) tB m5 nB nG
 have ob:∀v,R v=R L->v.os=L.os->v.tape=L.tape->v.output=L.output->aR prog 106 #[A,O Q 0,O Q (ex c af f)] v λe q=>∃j D l,e=aM (U j D l)/\aY q 0 3 1 (U j D l) (M (f.drop (ex c af f))) ((f.drop (ex c af f)).map (O Q))/\L.grownBy q (ap A)/\ap (U j D l)=ap A:=λv H t8 ub ug=>by refine(I5 (cw P (aI:=v) (λN _=>by rw[H])) tI).mono ?_;rintro e q ⟨j,D,l,rfl,x,m,J⟩;exact⟨j,D,l,rfl,x,⟨m.os.trans t8,m.tape.trans ub,m.output.trans ug,by rw[<-H];exact m.size,λb t uY=>by rw[<-H];exact m.block b (by rw[H];exact t) uY⟩,J⟩
 have oH:ap A≠some E:=ed gg P ak;have oS:=i4 P h.bg ak;have vE:=h.mJ;obtain⟨gC,hV,gL,wz⟩:=dr P;subst wz;have o6:=gg.aa 4;have pa:=gg.am;simp at o6;generalize Bt:f.drop (ex c af f)=iZ at*;generalize ex c af f=BE at*;go_enter func72,ntmps72;go_upto_region 0 with fail;go_region_law (first|(go_simp;refine(ob _ bf bf bf bf).mono ?_;rintro e hZ ⟨o,p,s,rfl,jW,j4,i0⟩;have g1:=gg.d (j4.block E pa (λe=>oH e.symm));have u4:=g1.aa 4;have wB:=g1.b 4;have xf:=g1.am;simp at u4;show _;dsimp only)|(go_simp;refine(oa _ bf).mono ?_;rintro e BH ⟨rfl,rfl⟩;show _;dsimp only))
 all_goals
  have py:aL (ay hZ ⟨E,4,none⟩ (U o p s)) E #[O Q c,gj,gE,gF,U o p s,gf] 110:=by simpa using g1.j 4 (U o p s)
  have j9:bv (λb=>b=E\/ap (U gC hV gL)=some b) L (ay hZ ⟨E,4,none⟩ (U o p s)):=((bv.dj j4).cE (th:=λb=>b=E\/ap (U gC hV gL)=some b) (λb _ e=>.inr e)).v (ai:=⟨E,4,none⟩) (.inl (.inl rfl)) _;have pF:hK w (ay hZ ⟨E,4,none⟩ (U o p s)) E (O Q c) gj gE gF (U o p s) gf bc I:=⟨h.togd.i8 py j9 (λb t=>by rcases t with rfl|t;exact vE;exact mY b t) (λN C t=>by rcases t with rfl|t;exact h.togd.gV N C rfl;exact oS N t C),h.cq⟩;have kp:aY (ay hZ ⟨E,4,none⟩ (U o p s)) 0 3 1 (U o p s) (M iZ) (iZ.map (O Q)):=cw jW (λN C=>gw _ _ _ _ (λe=>by simp at e;subst e;exact ed g1 jW ak C));generalize(ay hZ) ⟨E,4,none⟩ (U o p s)=kr at*;clear g1 u4 wB xf jW j4 py;have pR:∀(q:aq) (i:an) (a k:List bO),hK w q E (O Q c) gj gE gF (U o p s) i a I->bc.Perm (k++a)->(∀d∈k,c<=af-I d)->(∀d∈a,af-I d<c)->bv (λb=>b=E\/ap gf=some b) kr q->ap i=ap gf->
   ∃j D l hE hS,hK w q E (O Q c) gj gE gF (U j D l) hE hS I/\aY q 0 3 1 (U j D l) (M iZ) (iZ.map (O Q))/\hS.Perm (bc.filter λd=>decide (af-I d<c))/\bv (λb=>b=E\/ap (U gC hV gL)=some b\/ap gf=some b) L q/\ap (U j D l)=ap (U gC hV gL)/\ap hE=ap gf:=by
   intro q i a k x m J ih pU xk;refine⟨o,p,s,i,a,x,cw kp (λN C=>pU.o N (kp.lt N C).2 (λkx=>?_)),?_,?_,i0,xk⟩
   ·rcases kx with rfl|kx
    ·exact oH (i0▸C)
    ·exact oS N (i0▸C) kx
   ·have pX:=m.filter (λd=>decide (af-I d<c));have xr:k.filter (λd=>decide (af-I d<c))=[]:=zV.2 (λd g=>by have:=J d g;simp;omega);have ys:a.filter (λd=>decide (af-I d<c))=a:=E2.2 (λd g=>by simpa using ih d g);rw[lE,xr,ys,fa]at pX;exact pX.symm
   ·exact(j9.cE (th:=λb=>b=E\/ap (U gC hV gL)=some b\/ap gf=some b) (λb _ e=>by rcases e with e|e;exact .inl e;exact .inr (.inl e))).trans pU (λb _ e=>by rcases e with e|e;exact .inl e;exact .inr (.inr e))
  have iR:ag _:=pR;have yC:ag (∀d∈bc,I d<=af/\c1 (I d)):=ne;clear pR j9 kp i0 gg o6 oa ob h m5 P mY pa ne;go_wp2
  go_loopw [] (λwr=>∃i a k,hK w wr E (O Q c) gj gE gF (U o p s) i a I/\bc.Perm (k++a)/\(∀d∈k,c<=af-I d)/\bv (λb=>b=E\/ap gf=some b) kr wr/\ap i=ap gf) (λwr=>re E wr)
  case atStart=>exact⟨gf,bc,[],pF,pc _,λd g=>by simp at g,bv.l _ _,rfl⟩
  case round=>
   obtain⟨i,a,k,u,k1,pZ,k7,qp⟩:=hrel;clear pF;have i1:ag (bc.Perm (k++a)):=k1;have lo:ag (∀d∈k,c<=af-I d):=pZ;have K:ag (ap i=ap gf):=qp;have y2:M a<=1000000:=by have:=k1.length_eq;rw[bV]at this;omega
   clear k1 pZ qp;have hu:=u.ee;have l8:=hu.aa 5;have qt:=hu.aa 0;have y5:=hu.am;simp at l8 qt;by_cases qP:M a=0
   ·obtain⟨BN,BP,me⟩:∃j l,i=U j 0 l:=by
     rcases u.togd.gj with⟨e,_⟩|⟨N,G,e,_⟩
     ·exact⟨_,_,e⟩
     ·rw[qP]at e;exact⟨_,_,e⟩
    have mn:=iR.out wr i a k u i1.out lo.out (λd g=>by rw[nx.1 qP]at g;simp at g) k7 K.out;rw[me]at l8;clear iR u K hu;go_wp2
    go_end0
    exact⟨rfl,mn⟩
   ·obtain⟨N,G,me⟩:=u.togd.Ko T;obtain⟨jt,z,zc,BV,Cs,Cz,CS,DM,D7,D9⟩:=u.kh a[0] (b4 T)
    have iU:=u.bg;rw[me]at iU l8;obtain⟨_,qW⟩:=pg iU 0 T;rw[zc]at qW;simp at qW;have El:=(iU.lt N rfl).2;obtain⟨zS,z_⟩:=yC.out a[0] (i1.out.mem_iff.2 (dm.2 (.inr (b4 _))));have i2:=Cx y5 qt zS z_ nB nG;have mO:∀d∈a,I a[0]<=I d:=by intro d g;obtain⟨r,ra,rfl⟩:=iW g;have:=HO I u.cq r ra;unfold dl at this;simpa[List.getD,ra,show 0<M a by omega]using this
    have ET:(0:Int)<(M a:Int):=T;have Fi:(0:Int)<(M a[0].bP:Int):=T;have Ai:ag (a.getD 0 default=a[0]):=by show _=_;simp[List.getD,show 0<M a by omega]
    by_cases t:af-I a[0]<c
    ·rw[lW t]at i2;have mn:=iR.out wr i a k u i1.out lo.out (λd g=>by have:=mO d g;omega) k7 K.out;clear iR u K hu iU t mO;generalize I a[0]=Ak at*;generalize(M a[0].bP)=Aq at*;generalize a[0].cg=Az at*;go_wp2_with(go_at_call 105;refine i2.mono ?_;rintro e AE ⟨rfl,mR⟩;rw[mR])
     go_end0
     exact⟨rfl,mn⟩
    ·rw[kt t]at i2;have AV:=LN u T y2;have rA:=u.togd.re;have rR:∀y F B,hK w y E (O Q c) gj gE gF (U o p s) F B I->a.Perm (a.getD 0 default::B)->re E y<re E wr:=λy F B x m=>by rw[rA,x.togd.re];have:=m.length_eq;simp at this;omega
     have sY:∀y F B,hK w y E (O Q c) gj gE gF (U o p s) F B I->a.Perm (a.getD 0 default::B)->bv (λb=>b=E\/ap i=some b) wr y->ap F=ap i->∃i a k,hK w y E (O Q c) gj gE gF (U o p s) i a I/\bc.Perm (k++a)/\(∀d∈k,c<=af-I d)/\bv (λb=>b=E\/ap gf=some b) kr y/\ap i=ap gf:=by
      intro y F B x m J ih;refine⟨F,B,k++[a[0]],x,?_,λd g=>?_,k7.trans J (λb _ e=>by rcases e with e|e;exact .inl e;exact .inr (K.out▸e)),ih.trans K.out⟩
      ·rw[Ai.out]at m;rw[ke];exact i1.out.trans (m.append_left k)
      ·rcases dm.1 g with g|g
       ·exact lo.out d g
       ·rw[dB.1 g];omega
     have AW:ag _:=sY;have Bg:ag _:=rR;clear iR u K hu iU mO sY rR rA t;generalize I a[0]=Ak at*;generalize(M a[0].bP)=Aq at*;generalize a[0].cg=Az at*;go_wp2_with(first|(go_at_call 107;refine AV.mono ?_;rintro e y ⟨⟨FM,rfl⟩,F,B,x,m,J,ih⟩)|(go_at_call 105;refine i2.mono ?_;rintro e AE ⟨rfl,mR⟩;rw[mR]))
     go_roundw
     case rel=>exact AW.out _ _ _ x m J ih
     case measure=>exact Bg.out _ _ _ x m
def Ar(ah:Nat)(g:Array an)(h:bO->Bool)(bh:Nat->Prop)(L:aq)(i:List bO):Prop:=(∀args L,(callFunc ah args).run prog L=.ok (.enter ah args) L)/\∀(c:aq) (f:bO),f∈i->bv bh L c->aR prog ah (#[f.gX]++g) c λe l=>e=aM (.bool (h f))/\aF (S (R c)) c l
def oL(c:bO->Bool)(e:List bO):Int:=match e.findIdx? c with|some f=>(f:Int)|none=> -1
theorem Ih(d:a<M F)(h:z F[a]=true)(e:∀b,(c:b<a)->z (F[b]'T)=false):oL z F=a:=by have:F.findIdx? z=some a:=uX.2 ⟨d,h,λb c=>by simp[e b c]⟩;unfold oL;rw[this]
theorem Kv(c:∀a,(b:a<M F)->z F[a]=false):oL z F= -1:=by have:F.findIdx? z=none:=ui.2 (λe d=>by obtain⟨a,b,rfl⟩:=iW d;exact c a b);unfold oL;rw[this]
theorem SF(z:bO->Bool)(F:List bO):(oL z F= -1/\∀d∈F,z d=false)\/∃a:Nat,oL z F=(a:Int)/\∃h:a<M F,z F[a]=true/\∀b,(c:b<a)->z (F[b]'T)=false:=by
 unfold oL;cases h:F.findIdx? z with
 |none=>exact .inl ⟨rfl,λd e=>by simpa using ui.1 h d e⟩
 |some a=>obtain⟨f,g,i⟩:=uX.1 h;exact .inr ⟨a,rfl,f,g,λb c=>by simpa using i b c⟩
theorem Po(h:aY L 0 163 2 (U (some ⟨N,0,none⟩) (M bc) G) (M bc) (bC bO.h bc))(J:M bc<=1000000)(w:∀d∈bc,∃j b B,d.dJ=U j b B){bh:Nat->Prop}(C:Ar ah hZ z bh L bc):
 aR prog 111 #[U (some ⟨N,0,none⟩) (M bc) G,.func (.func ah) #[] hZ] L λe q=>e=aM (O Q (oL z bc))/\aF (S (R L)) L q:=by
 obtain⟨K,x⟩:=C;have y:=λr D=>pg h r D
 have m:=(h.lt N rfl).2;go_enter func111,ntmps111;go_wp2
 go_loopw [8] (λr wr=>∃a:Nat,a<=M bc/\r=O Q a/\aF (S (R L)) L wr/\ag (∀c,(f:c<a)->(o:c<M bc)->z bc[c]=false)) (λr _=>M bc-(bm r).toNat)
 case atStart=>exact⟨0,bL _,rfl,ca _ _,λc f=>absurd f (vT _)⟩
 case round=>
  obtain⟨a,P,rfl,g,s⟩:=hrel;by_cases l:a<M bc
  ·obtain⟨t,A⟩:=y a l;have i:=x wr bc[a] (b4 l) (bv.bI bh g);obtain⟨gf,gg,gj,E⟩:=w bc[a] (b4 l);unfold bO.gX at i;rw[E]at i t;have gE:=(g.cell (p:=⟨N,a*2,none⟩) m).trans t;have gF:=(g.cell (p:=⟨N,a*2+1,none⟩) m).trans A;have g1:N<S (R wr):=cI m g.size;have hu:(a:Int)<(M bc:Int):=T;have hE:(0:Int)<=(a:Int):=T;clear y t A x h w;generalize bc[a].cd=gC at*;generalize(M bc[a].bP)=hS at*;generalize bc[a].cg=gL at*;cases k:z bc[a]with
   |true=>rw[k]at i;have u:ag (oL z bc=(a:Int)):=Ih l k (λc f=>s.out c f T);clear k;go_wp2_with(go_at_fn ah;refine i.mono ?_;rintro e F ⟨rfl,v⟩);go_ret;rw[u.out];exact⟨rfl,g.trans (v.mono g.size)⟩
   |false=>
    rw[k]at i;have H:ag (∀c,(f:c<a+1)->(o:c<M bc)->z bc[c]=false):=λc f o=>by
     by_cases e:c=a
     ·subst e;exact k
     ·exact s.out c T o
    clear k;go_wp2_with(go_at_fn ah;refine i.mono ?_;rintro e F ⟨rfl,v⟩);go_roundw
    case rel=>exact⟨a+1,l,bE,g.trans (v.mono g.size),H⟩
    case measure=>simp[bm];omega
  ·have I:a=M bc:=by omega
   subst I;have u:ag (oL z bc= -1):=Kv (λc f=>s.out c f f);go_wp2;go_ret;rw[u.out];exact⟨rfl,g⟩
theorem NB{e:TypeId}{b:an}(h:aY L iR e iU (U (some ⟨N,0,none⟩) u G) u hE)(q:M hE<=a):aY (ay L ⟨N,a,none⟩ b) iR e iU (U (some ⟨N,0,none⟩) u G) u hE:=by
 obtain⟨d,f⟩:=h;refine⟨d,?_⟩;rcases f with⟨h,_⟩|⟨r,s,c,g,i,j,k,l,m,o⟩
 ·cases h
 ·cases g;have p:aL L N c e:=j;refine .inr ⟨N,G,c.setIfInBounds a b,rfl,i,p.j a b,k,l,by simpa using m,?_⟩;rw[<-o,Ma,wt T]
theorem Dd{e:TypeId}:∀(b:List an) (a:Nat) {L:aq},aY L iR e iU (U (some ⟨N,0,none⟩) u G) u hE->M hE<=a->aY (L.setCells N a b) iR e iU (U (some ⟨N,0,none⟩) u G) u hE:=by
 intro b
 induction b with
 |nil=>intro a L h _;exact h
 |cons f b c=>intro a L h d;exact c (a+1) (NB h d) T
theorem EU{bh:Nat->Prop}{c:aq}(d:bh N):∀(b:List an) (a:Nat) {L:aq},bv bh c L->bv bh c (L.setCells N a b):=by
 intro b
 induction b with
 |nil=>intro a L h;exact h
 |cons e b f=>intro a L h;exact f (a+1) (h.v (ai:=⟨N,a,none⟩) (.inl d) e)
theorem Nj(L:aq):(zeroValue 163).run prog L=.ok (dA #[U none 0 0,U none 0 0]) L:=by kernel_rfl
theorem JV(L:aq)(f:TypeId)(b a D g:Nat)(m:0<D)(i:∀c,c<D*2->(aK L ⟨b,a+c,none⟩).isSome=true)(j:∀c,c<D*2->L.frozen? ⟨b,a+c,none⟩=false):
 (Builtin.clear_ #[108] f #[U (some ⟨b,a,none⟩) D g]).run prog L=.ok (b2 #[]) (L.setCells b a (List.replicate (D*2) (U none 0 0))):=by
 have k:(Builtin.zeroCells (dA #[U none 0 0,U none 0 0]).cells D).toList=List.replicate (D*2) (U none 0 0):=by
  have e:(dA #[U none 0 0,U none 0 0]).cells=#[U none 0 0,U none 0 0]:=by kernel_rfl
  rw[e];unfold Builtin.zeroCells;apply xm
  ·simp
  ·intro r o p;simp;rcases(by omega:r%2=0\/r%2=1)with h|h<;>simp[h]
 have d:=run_storeCells_cells (P:=prog) b a (List.replicate (D*2) (U none 0 0)) 0 L (by simpa using i) (by simpa using j) (by intro ih l;rw[Dp l];rfl);simp only[pC]at d;obtain⟨u,rfl⟩:∃u,D=u+1:=⟨D-1,T⟩;simp[Builtin.clear_,run_underlying underlying108,Nj,k,d]
structure l5 (ai:bO->Bool) (bc ct:List bO) (cO Y:Nat):Prop where
 bX:ct.length=bc.length
 b0:cO<=Y
 lJ:ct.take cO=(bc.take Y).filter λaQ=>!ai aQ
 ju:ct.drop Y=bc.drop Y
theorem l5.c(h:l5 z bc K u a)(b:a<M bc)(d:z bc[a]=true):l5 z bc K u (a+1):=by
 refine⟨h.bX,by have:=h.b0;omega,?_,?_⟩
 ·rw[h.lJ,ev b,lE];simp[d]
 ·rw[<-rF,h.ju,rF]
theorem l5.o(h:l5 z bc K u a)(b:a<M bc):K[a]'(by rw[h.bX];exact b)=bc[a]:=by have d:=h.ju;rw[ku (by rw[h.bX];exact b),ku b]at d;exact(List.cons.inj d).1
theorem l5.y(h:l5 z bc K u a)(b:a<M bc)(d:z bc[a]=false):l5 z bc (K.set u bc[a]) (u+1) (a+1):=by
 have f:=h.b0;have e:=h.bX;refine⟨by simpa using e,T,?_,?_⟩
 ·rw[ev (by rw[qJ];omega),wt (aN _),h.lJ,ev b,lE];simp[d]
 ·rw[List.drop_set_of_lt T,<-rF,h.ju,rF]
theorem l5.jt(g:a<M bc)(h:z bc[a]=true)(i:∀b,(f:b<a)->z (bc[b]'T)=false):l5 z bc bc a (a+1):=by
 refine⟨rfl,T,?_,rfl⟩;rw[ev g,lE];have e:(bc.take a).filter (λd=>!z d)=bc.take a:=E2.2 (λd j=>by
  obtain⟨b,f,rfl⟩:=iW j
  simp at f
  simp[i b T])
 rw[e];simp[h]
theorem PX(h:aY L 0 163 2 (U (some ⟨N,0,none⟩) (M bc) G) (M bc) (bC bO.h bc))(ne:M bc<=1000000)(F:∀d∈bc,∃j b nB,d.dJ=U j b nB)(gF:Ar ah hZ z (λb=>b=N) L bc):
 aR prog 74 #[U (some ⟨N,0,none⟩) (M bc) G,.func (.func ah) #[] hZ] L λe q=>e=aM (U (some ⟨N,0,none⟩) (M (bc.filter λd=>!z d)) G)/\aY q 0 163 2 (U (some ⟨N,0,none⟩) (M (bc.filter λd=>!z d)) G) (M (bc.filter λd=>!z d)) (bC bO.h (bc.filter λd=>!z d))/\bv (λb=>b=N) L q:=by
 have H:=Po h ne F gF;have ub:=(h.lt N rfl).2;have ug:M bc<=G:=by
  rcases h.2 with⟨e,_⟩|⟨nG,oa,w,g1,_,kp,hu,_⟩
  ·cases e
  ·cases g1;exact hu
 rcases SF z bc with⟨gf,ob⟩|⟨hE,gf,hS,kr,kx⟩
 ·rw[gf]at H;have e:bc.filter (λd=>!z d)=bc:=E2.2 (λd p=>by simp[ob d p]);rw[e];have oH:ag (∀q,aF (S (R L)) L q->aY q 0 163 2 (U (some ⟨N,0,none⟩) (M bc) G) (M bc) (bC bO.h bc)):=λq o=>cw h (λg x=>o.block g (h.lt g x).2)
  clear h gF;go_enter func74,ntmps74;go_wp2_with(go_at_call 111;refine H.mono ?_;rintro e k1 ⟨rfl,A⟩);go_ret;exact⟨rfl,oH.out _ A,bv.bI _ A⟩
 ·rw[gf]at H;have k7:=l5.jt hS kr kx;have lo:∀q,aF (S (R L)) L q->aY q 0 163 2 (U (some ⟨N,0,none⟩) (M bc) G) (M bc) (bC bO.h bc):=λq o=>cw h (λg x=>o.block g (h.lt g x).2)
  obtain⟨uY,gg⟩:=gF;clear h gf;have oS:((hE:Int)== -1)=false:=av;go_enter func74,ntmps74;go_wp2_with(go_at_call 111;refine H.mono ?_;rintro e k1 ⟨rfl,A⟩);have l8:=lo k1 A;have me:=bv.bI (λb=>b=N) A;clear lo H A
  go_loopw [5,6] (λr B wr=>∃(u a:Nat) (K:List bO),r=O Q u/\B=O Q a/\a<=M bc/\u<M bc/\l5 z bc K u a/\(∀d∈K,d∈bc)/\aY wr 0 163 2 (U (some ⟨N,0,none⟩) (M bc) G) (M bc) (bC bO.h K)/\bv (λb=>b=N) L wr/\u<a) (λ_ B _=>M bc-(bm B).toNat)
  case atStart=>exact⟨hE,hE+1,bc,rfl,bE,hS,hS,k7,λd p=>p,l8,me,T⟩
  case round=>
   obtain⟨u,a,K,rfl,rfl,vE,o6,s,gj,f,y,wz⟩:=hrel;clear k7 l8 me kr kx;have I:=s.bX;have gE:aY wr 0 163 2 (U (some ⟨N,0,none⟩) (M K) G) (M K) (bC bO.h K):=by rw[I];exact f
   have wB:=(f.lt N rfl).2;obtain⟨w,C,mn⟩:∃w,aL wr N w 163/\M bc*2<=S w:=by
    rcases f.2 with⟨e,_⟩|⟨nG,oa,w,g1,_,kp,hu,_,mn,_⟩
    ·cases e
    ·cases g1;exact⟨w,kp,by rw[mn];exact qj _ hu⟩
   have xf:ag (M K=M bc):=I;by_cases t:a<M bc
   ·have hV:=s.o t;obtain⟨mO,pa⟩:=pg gE a T;rw[hV]at mO pa;obtain⟨i,k,l,ih⟩:=F bc[a] (b4 t);have D:∀c,aF (S (R wr)) wr c->aR prog ah (#[dA #[U i k l,U bc[a].cd (M bc[a].bP) bc[a].cg]]++hZ) c λe py=>e=aM (.bool (z bc[a]))/\aF (S (R c)) c py:=λc J=>by have:=gg c bc[a] (b4 t) (y.trans (bv.bI (λb=>b=N) J) (λb _ h=>h));unfold bO.gX at this;rw[ih]at this;exact this
    rw[ih]at mO;have oS:(a:Int)<(M bc:Int):=T;have xk:(0:Int)<=(a:Int):=T;have iR:=aL.bT wr #[U i k l,U bc[a].cd (M bc[a].bP) bc[a].cg] 163;have v:aF (S (R wr)) wr (ar wr (aw #[U i k l,U bc[a].cd (M bc[a].bP) bc[a].cg] 163)):=(ca _ wr).alloc (aN _) _;cases o:z bc[a]with
    |true=>
     have iU:ag (l5 z bc K u (a+1)):=s.c t o;rw[o]at D;have iZ:=D _ v;have P:ag (∀c,aF (S (R (ar wr (aw #[U i k l,U bc[a].cd (M bc[a].bP) bc[a].cg] 163)))) (ar wr (aw #[U i k l,U bc[a].cd (M bc[a].bP) bc[a].cg] 163)) c->aY c 0 163 2 (U (some ⟨N,0,none⟩) (M bc) G) (M bc) (bC bO.h K)/\bv (λb=>b=N) L c):=λc J=>by have m:=v.trans (J.mono v.size);exact⟨cw f (λg x=>m.block g (f.lt g x).2),y.trans (bv.bI (λb=>b=N) m) (λb _ h=>h)⟩
     clear o s D f gE hV I F gg y C iR v;generalize bc[a].cd=gC at*;generalize(M bc[a].bP)=pF at*;generalize bc[a].cg=gL at*;go_wp2_with(go_at_fn ah;refine iZ.mono ?_;rintro e pR ⟨rfl,m⟩);go_roundw
     case rel=>obtain⟨i0,i1⟩:=P.out _ m;exact⟨u,a+1,K,rfl,bE,t,o6,iU.out,gj,i0,i1,T⟩
     case measure=>simp[bm];omega
    |false=>
     have iU:ag (l5 z bc (K.set u bc[a]) (u+1) (a+1)):=s.y t o;have pU:ag (∀d∈K.set u bc[a],d∈bc):=λd p=>by
      rcases GL p with p|p
      ·exact gj d p
      ·rw[p];exact b4 t
     rw[o]at D;have iZ:=D _ v;have mR:=C.a (aw #[U i k l,U bc[a].cd (M bc[a].bP) bc[a].cg] 163);have P:ag (∀c,aF (S (R (ar wr (aw #[U i k l,U bc[a].cd (M bc[a].bP) bc[a].cg] 163)))) (ar wr (aw #[U i k l,U bc[a].cd (M bc[a].bP) bc[a].cg] 163)) c->aY (ay (ay c ⟨N,u*2,none⟩ (U i k l)) ⟨N,u*2+1,none⟩ (U bc[a].cd (M bc[a].bP) bc[a].cg)) 0 163 2 (U (some ⟨N,0,none⟩) (M bc) G) (M bc) (bC bO.h (K.set u bc[a]))/\bv (λb=>b=N) L (ay (ay c ⟨N,u*2,none⟩ (U i k l)) ⟨N,u*2+1,none⟩ (U bc[a].cd (M bc[a].bP) bc[a].cg))):=λc J=>by have m:=v.trans (J.mono v.size);have pX:aY c 0 163 2 (U (some ⟨N,0,none⟩) (M bc) G) (M bc) (bC bO.h K):=cw f (λg x=>m.block g (f.lt g x).2);have xr:M (bC bO.h K)=M bc*2:=f.1;refine⟨?_,((y.trans (bv.bI (λb=>b=N) m) (λb _ h=>h)).v (ai:=⟨N,u*2,none⟩) (.inl rfl) _).v (ai:=⟨N,u*2+1,none⟩) (.inl rfl) _⟩;rw[zv (ah:=bO.h) (bj:=bO.dJ) (X:=λd=>U d.cd (M d.bP) d.cg) (λ_=>rfl),ih];exact oj (oj pX T) (by rw[qJ];omega)
     have pZ:(u:Int)<(M bc:Int):=T;have qp:(0:Int)<=(u:Int):=T;have ys:u*2+1<S w:=T;clear o s D f gE hV I F gg y C v gj;generalize K.set u bc[a]=mY at*;generalize bc[a].cd=gC at*;generalize(M bc[a].bP)=pF at*;generalize bc[a].cg=gL at*;go_wp2_with(go_at_fn ah;refine iZ.mono ?_;rintro e pR ⟨rfl,m⟩;have i2:=iR.d (m.block _ iR.am);have qt:=i2.aa 0;have qP:=i2.aa 1;have yC:=i2.am;have E:=mR.d (m.block _ mR.am);have qW:=E.aa (u*2);have ra:=E.aa (u*2+1);have y2:=E.b (u*2);have y5:=E.b (u*2+1);have zc:=E.am;have jt:=E.j (u*2) (U i k l);have rA:=jt.aa (u*2+1);have zS:=jt.b (u*2+1);have z_:=jt.am;rw[tz T]at qW ra;rw[tz b7]at rA;simp at qt qP);go_roundw
     case rel=>obtain⟨i0,i1⟩:=P.out _ m;exact⟨u+1,a+1,mY,bE,bE,t,T,iU.out,pU.out,i0,i1,T⟩
     case measure=>simp[bm];omega
   ·have rR:a=M bc:=by omega
    subst rR;have jW:K.take u=bc.filter λd=>!z d:=by have:=s.lJ;rwa [eQ]at this
    have m5:M (bc.filter λd=>!z d)=u:=by rw[<-jW,hT];omega
    have sY:ag (M (bc.filter λd=>!z d)=u):=m5;have tB:ag (K.take u=bc.filter λd=>!z d):=jW;have tI:0<M bc-u:=T;have Ai:∀j4,(Builtin.clear_ #[108] j4 #[U (some ⟨N,u*2,none⟩) (M bc-u) (G-u)]).run prog wr=.ok (b2 #[]) (wr.setCells N (u*2) (List.replicate ((M bc-u)*2) (U none 0 0))):=λj4=>JV wr j4 N (u*2) (M bc-u) (G-u) tI (λB t8=>by rw[C.aa (u*2+B),tz T];rfl) (λB t8=>C.b _)
    have P:ag (aY (wr.setCells N (u*2) (List.replicate ((M bc-u)*2) (U none 0 0))) 0 163 2 (U (some ⟨N,0,none⟩) u G) u (bC bO.h (K.take u))/\bv (λb=>b=N) L (wr.setCells N (u*2) (List.replicate ((M bc-u)*2) (U none 0 0)))):=by have j9:=AF (cO:=u) f T;rw[E6 (λ_=>rfl)]at j9;exact⟨Dd _ _ j9 (by rw[j9.1];exact aN _),EU (bh:=λb=>b=N) (N:=N) rfl _ _ y⟩
    have pZ:(u:Int)<=(M bc:Int):=T;have qp:(0:Int)<=(u:Int):=T;have Ak:(M bc:Int)<=(G:Int):=T;have Aq:(u:Int)<=(G:Int):=T;have Az:¬G=u:=T;clear s gj f gE y C gg F jW m5 I;generalize K.take u=mY at*;go_wp2;go_ret;rw[sY.out,<-tB.out];exact⟨rfl,P.out⟩
def cS(c:List (List gI)):List (List dg):=c.map λe=>e.map qw
theorem uP(k:List (List gI))(r:Nat):hx (cS k) r=(k.getD r []).map qw:=by unfold hx cS;simp[fj];cases k[r]?<;>rfl
def s1(c:List (List gI)):Prop:=∀e∈c,∀f∈e,yU f
structure jb (d_:Nat->Prop) (L:aq) (ad:List be) (jx:List Nat):Prop where
 bX:jx.length=ad.length
 iX:∀al,(h:al<ad.length)->(yE:al<jx.length)->j8 L jx[al] ad[al] al/\d_ jx[al]/\jx[al]<L.heap.size
structure fT (d_:Nat->Prop) (L:aq) (cm:List (List gI)) (iS:List an) (ad:List be) (jx:List Nat) (aQ:bO):Prop where
 eJ:aQ.bw.1<cm.length
 dJ:aQ.dJ=iS.getD aQ.bw.1 default
 cz:iG d_ L aQ.dJ (cm.getD aQ.bw.1 [])
 bP:aQ.bP=aQ.bw.2.map (jx.getD · 0)
 am:∀al∈aQ.bw.2,al<ad.length
 ck:lg L aQ.cd aQ.cg aQ.bP
 ud:∀aG,aQ.cd=some aG->d_ aG.block
theorem jb.i{a c:Nat->Prop}(h:jb a L w A)(d:fL a L c q)(m:S (R L)<=S (R q)):jb c q w A:=
 ⟨h.bX,λr j b=>by
  obtain⟨e,f,g⟩:=h.iX r j b
  obtain⟨k,l⟩:=d _ f g
  exact⟨aL.d e l,k,T⟩⟩
theorem lg.i{d_ lI:Nat->Prop}(h:lg L gC gL i1)(hF:∀a,gC=some a->d_ a.block)(b:fL d_ L lI q)(g:S (R L)<=S (R q)):lg q gC gL i1:=by
 rcases h with h|⟨c,N,rfl,d,e⟩
 ·exact .inl h
 ·exact .inr ⟨c,N,rfl,T,λr f=>(dn (b N (hF _ rfl) d).2 r).trans (e r f)⟩
theorem lg.ax(h:lg L gC gL i1):∀a,gC=some a->a.block<S (R L):=by
 intro a e;rcases h with⟨_,h,_⟩|⟨_,N,b,c,_⟩
 ·rw[h]at e;cases e
 ·rw[e]at b;cases b;exact c
theorem fT.i{b c:Nat->Prop}(h:fT b L k B w A d)(a:fL b L c q)(g:S (R L)<=S (R q)):fT c q k B w A d:=
 ⟨h.eJ,h.dJ,h.cz.i a,h.bP,h.am,h.ck.i h.ud a g,λf e=>(a _ (h.ud f e) (h.ck.ax f e)).1⟩
theorem y3{b:Nat->Prop}(h:jb b L w A)(a:r<M w):j8 L (A.getD r 0) (cu w r) r/\b (A.getD r 0)/\A.getD r 0<S (R L):=by
 have c:r<M A:=by rw[h.bX];exact a
 have:=h.iX r a c;simpa[List.getD,a,c,cu]using this
theorem fT.bX{a:Nat->Prop}(h:fT a L k B w A d):M d.bP=M d.bw.2:=by rw[h.bP,c_]
theorem fT.Cz{c:Nat->Prop}(h:fT c L k B w A d)(j:jb c L w A)(l:M d.bP<=1000000){e:be}(f:j8 L x e D):kZ L (S (R L)) (U d.cd (M d.bP) d.cg) d.bP (cM w d.bw.2) x e:=by
 have m:=h.bX;refine⟨by rw[m];simp[cM],l,⟨_,_,rfl,λg=>?_⟩,λr u v=>?_,f.am,D,f⟩
 ·rcases h.ck with⟨e,_⟩|⟨_,N,a,b,o⟩
  ·rw[e]at g;simp at g
  ·exact⟨N,a,b,o⟩
 ·have p:r<M d.bw.2:=by omega
  have q:=h.am d.bw.2[r] (b4 p);obtain⟨s,y,t⟩:=y3 j q;have a:d.bP[r]=A.getD d.bw.2[r] 0:=by simp[h.bP]
  have b:(cM w d.bw.2)[r]=cu w d.bw.2[r]:=by simp[cM]
  rw[a,b];exact⟨t,_,s⟩
theorem fT.hi{e:Nat->Prop}(h:fT e L k B w A d)(f:M d.bw.2<M (k.getD d.bw.1 [])):∃N a b c,d.dJ=U (some ⟨N,0,none⟩) (M (k.getD d.bw.1 [])) a/\qE e L N (M d.bP) (k.getD d.bw.1 [])[M d.bw.2] b c:=by obtain⟨j,a,g,l⟩:=h.cz.o;obtain⟨N,b,c,rfl,m⟩:=l (M d.bw.2) f;refine⟨N,a,b,c,g,?_⟩;rw[h.bX];exact m
theorem LM{b:Nat->Prop}(h:fT b L k B w A d)(i:jb b L w A)(j:s1 k)(a:M d.bw.2<M (k.getD d.bw.1 []))(v:M (k.getD d.bw.1 [])<=100000){e:be}(l:j8 L x e D):
 aR prog 76 #[d.gX,aD (some ⟨x,0,none⟩)] L λc q=>c=aM (.bool (jr (cS k) w e d.bw))/\aF (S (R L)) L q:=by
 obtain⟨N,m,y,z,o,p⟩:=h.hi a;have r:=h.bX;have f:yU (k.getD d.bw.1 [])[M d.bw.2]:=by
  have g:=h.eJ;have s:k.getD d.bw.1 []=k[d.bw.1]:=by simp[List.getD,g]
  exact j _ (by rw[s];exact b4 g) _ (b4 a)
 have:=IA (aE:=m) (cd:=d.cd) (cg:=d.cg) p (by rw[r];exact a) f.dh (by have:=f.fV;omega) (h.Cz i T l);unfold bO.gX;rw[o];refine this.mono ?_;rintro c q ⟨t,u⟩;refine⟨?_,u⟩;rw[t];congr 2;unfold jr;rw[uP,gq,dz a];rfl
theorem Mp{b:Nat->Prop}(h:fT b L k B w A d)(g:jb b L w A)(i:s1 k)(a:M d.bw.2<M (k.getD d.bw.1 []))(v:M (k.getD d.bw.1 [])<=100000){e:be}(j:j8 L x e D):
 aR prog 109 #[d.gX,aD (some ⟨x,0,none⟩)] L λc q=>c=aM (.bool (nD (cS k) w e d.bw))/\aF (S (R L)) L q:=by
 obtain⟨N,l,y,z,m,o⟩:=h.hi a;have p:=h.bX;have r:yU (k.getD d.bw.1 [])[M d.bw.2]:=by
  have f:=h.eJ;have s:k.getD d.bw.1 []=k[d.bw.1]:=by simp[List.getD,f]
  exact i _ (by rw[s];exact b4 f) _ (b4 a)
 have:=RY (aE:=l) (cd:=d.cd) (cg:=d.cg) o (by rw[p];exact a) r.c5 (h.Cz g T j);unfold bO.gX;rw[m];refine this.mono ?_;rintro c q ⟨t,u⟩;refine⟨?_,u⟩;rw[t];congr 2;unfold nD;rw[uP,gq,dz a];rfl
theorem ON{c:Nat->Prop}{bh:Nat->Prop}(v:∀d∈bc,fT c L k B w A d/\M d.bw.2<M (k.getD d.bw.1 [])/\M (k.getD d.bw.1 [])<=100000/\∃j b y,d.dJ=U j b y)(z:jb c L w A)(C:s1 k){f:Nat}{e:be}(m:j8 L x e D)(o:aL L f #[aD (some ⟨x,0,none⟩)] 156)(E:∀b,bh b->¬c b)(F:¬bh x)(G:¬bh f):
 Ar 75 #[aD (some ⟨f,0,none⟩)] (λd=>jr (cS k) w e d.bw) bh L bc:=by
 refine⟨Go.Proofs.enters_of func75 (by kernel_rfl) rfl,λa d H I=>?_⟩;obtain⟨J,K,P,p,q,r,gf⟩:=v d H;have i:aF (S (R a)) a (ar a (aw #[U p q r,U d.cd (M d.bP) d.cg] 163)):=(ca _ a).alloc (aN _) _;have g:=I.trans (bv.bI bh i) (λb _ h=>h);have s:fL c L c (ar a (aw #[U p q r,U d.cd (M d.bP) d.cg] 163)):=λb t gg=>⟨t,g.o b gg (λgj=>E b gj t)⟩
 have l:=LM (J.i s g.b5) (z.i s g.b5) C K P (aL.d m (g.o x m.am F));have u:=o.d (g.o f o.am G);have gE:=u.aa 0;have hu:=u.am;simp at gE;show aR prog 75 #[d.gX,aD (some ⟨f,0,none⟩)] a _;unfold bO.gX at l⊢;rw[gf]at l⊢;have gF:(λd=>jr (cS k) w e d.bw) d=jr (cS k) w e d.bw:=rfl;rw[gF];generalize jr (cS k) w e d.bw=hE at*;generalize d.cd=gC at*;generalize(M d.bP)=hS at*;generalize d.cg=gL at*;go_enter func75,ntmps75;go_wp2_with(go_at_call 76;refine l.mono ?_;rintro e hV ⟨rfl,g1⟩);go_ret;exact⟨rfl,i.trans (g1.mono i.size)⟩
def sP(c:bO)(N e f g:Nat):bO:=⟨c.dJ,some ⟨N,0,none⟩,e,c.bP++[f],pJ g c.bw⟩
structure w7 (dH:Nat) (f8:aq) (v1:Nat) (g_:an) (lK:List bO) (aQ:bO) (kz n:Nat) (CM:Bool) (aI:aq):Prop where
 Od:CM=false->aF f8.heap.size f8 aI
 O8:CM=true->∃bj X aE N b1,aL aI v1 #[U bj X aE] 107/\aI.ownsRow dH 163 2 (U bj X aE) (lK++[sP aQ N b1 kz n]).length (bC bO.h (lK++[sP aQ N b1 kz n]))/\aI.ownsRow f8.heap.size 156 1 (U (some ⟨N,0,none⟩) (aQ.bP.length+1) b1) (aQ.bP.length+1) ((aQ.bP++[kz]).map oV)/\bv (λX=>X=v1\/g_.ownBlock=some X) f8 aI/\∀df,(U bj X aE).ownBlock=some df->g_.ownBlock=some df\/f8.heap.size<=df
theorem NV{I:Nat->Prop}{c:aq}(h:fT I c k B w A d)(j9:jb I c w A)(kp:s1 k)(K:M d.bw.2<M (k.getD d.bw.1 []))(Ai:M (k.getD d.bw.1 [])<=10000)(oS:∃j b o6,d.dJ=U j b o6){u:Nat}{e:be}(gF:j8 c x e D)(k1:aL c g1 #[aD (some ⟨x,0,none⟩)] 156)(P:aL c J #[gg] 107)(E:aY c u 163 2 gg (M H) (bC bO.h H))(Ak:M H<=1000000)(pa:u<=S (R c)):
 aR prog 108 #[d.gX,aD (some ⟨g1,0,none⟩),aD (some ⟨J,0,none⟩)] c λpy q=>py=aM (b2 #[])/\w7 u c J gg H d x D (nD (cS k) w e d.bw) q:=by
 obtain⟨pF,pR,pU,pX,pZ⟩:=dY Tryz.F2;obtain⟨f,g,i,k7⟩:=oS;have v:aF (S (R c)) c (ar c (aw #[U f g i,U d.cd (M d.bP) d.cg] 163)):=(ca _ c).alloc (aN _) _;have hu:fL I c I (ar c (aw #[U f g i,U d.cd (M d.bP) d.cg] 163)):=λb s K=>⟨s,v.block b K⟩
 have F:=Mp (h.i hu v.size) (j9.i hu v.size) kp K T (aL.d gF (v.block x gF.am));have hE:=aL.bT c #[U f g i,U d.cd (M d.bP) d.cg] 163;have gf:=k1.a (aw #[U f g i,U d.cd (M d.bP) d.cg] 163);have hS:=P.a (aw #[U f g i,U d.cd (M d.bP) d.cg] 163);have lo:=gf.aa 0;have qp:=gf.am;simp at lo;unfold bO.gX at F⊢;rw[k7]at F⊢;cases hV:nD (cS k) w e d.bw with
 |false=>
  rw[hV]at F;have gj:∀q,aF (S (R (ar c (aw #[U f g i,U d.cd (M d.bP) d.cg] 163)))) (ar c (aw #[U f g i,U d.cd (M d.bP) d.cg] 163)) q->w7 u c J gg H d x D false q:=λq qt=>⟨λ_=>v.trans (qt.mono v.size),λh=>by cases h⟩
  have hZ:ag _:=gj;clear gj h j9 kp gF hu hV hE hS P E;generalize d.cd=gC at*;generalize(M d.bP)=ih at*;generalize d.cg=gL at*;go_enter func108,ntmps108;go_wp2_with(go_at_call 109;refine F.mono ?_;rintro e a ⟨rfl,y⟩)
  go_end0
  exact⟨rfl,hZ.out _ y⟩
 |true=>
  rw[hV]at F;obtain⟨Aq,Az,ac,qP⟩:=dr E;have qW:=h.bX;have ra:∀m,ap gg=some m->m≠J:=λm p e=>ed P E ak (e▸p)
  have hZ:∀a:aq,aF (S (R (ar c (aw #[U f g i,U d.cd (M d.bP) d.cg] 163)))) (ar c (aw #[U f g i,U d.cd (M d.bP) d.cg] 163)) a->
   aF (S (R c)) c a/\aL a g1 #[aD (some ⟨x,0,none⟩)] 156/\aL a J #[gg] 107/\aL a (S (R c)) #[U f g i,U d.cd (M d.bP) d.cg] 163/\aY a u 163 2 gg (M H) (bC bO.h H)/\lg a d.cd d.cg d.bP:=λa y=>by
   have s:=v.trans (y.mono v.size);exact⟨s,gf.d (y.block _ gf.am),hS.d (y.block _ hS.am),hE.d (y.block _ hE.am),cw E (λm p=>s.block m (E.lt m p).2),h.ck.i h.ud (lI:=I) (λb hF K=>⟨hF,s.block b K⟩) s.size⟩
  have gj:∀(a t z:aq) (l o r C:Nat) (kr:Obj),aF (S (R c)) c a->aF (S (R a)) a t->aY t (S (R a)) 156 1 (U (some ⟨l,0,none⟩) (M d.bP+1) o) (M d.bP+1) ((d.bP++[x]).map oV)->aY z u 163 2 (U (some ⟨r,0,none⟩) (M H+1) C) (M H+1) (bC bO.h H++[U f g i,U (some ⟨l,0,none⟩) (M d.bP+1) o])->(ar t kr).grownBy z (ap gg)->(ap gg=some r\/S (R t)<=r)->aL z J #[gg] 107->
   w7 u c J gg H d x D true (ay z ⟨J,0,none⟩ (U (some ⟨r,0,none⟩) (M H+1) C)):=by
   intro a t z l o r C kr l8 me mn mO mR iR mY;have m5:=l8.size;have AE:=me.size;have rA:=(mn.lt l rfl);have rR:l≠J:=by have:=P.am;omega
   have sY:bv (λb=>b=J\/ap gg=some b) c (ay z ⟨J,0,none⟩ (U (some ⟨r,0,none⟩) (M H+1) C)):=(((bv.bI (λb=>b=J\/ap gg=some b) (l8.trans (me.mono m5))).a kr).trans (bv.dj mR) (λb _ s=>.inr s)).v (ai:=⟨J,0,none⟩) (.inl (.inl rfl)) _
   refine⟨(λh=>by cases h),λ_=>⟨_,_,_,l,o,by simpa using mY.j 0 (U (some ⟨r,0,none⟩) (M H+1) C),?_,?_,sY,λm p=>?_⟩⟩
   ·rw[bV,jc];have tB:bO.h (sP d l o x D)=[U f g i,U (some ⟨l,0,none⟩) (M d.bP+1) o]:=by unfold bO.h sP;rw[k7];simp
    rw[tB];exact cw mO λm p=>gw _ _ _ _ (λe=>by simp at e;subst e;exact ed mY mO ak p)
   ·have tI:aY (ay z ⟨J,0,none⟩ (U (some ⟨r,0,none⟩) (M H+1) C)) (S (R a)) 156 1 (U (some ⟨l,0,none⟩) (M d.bP+1) o) (M d.bP+1) ((d.bP++[x]).map oV):=by
     refine cw mn λm p=>?_
     have t8:l=m:=by simpa[ap]using p
     subst t8;rw[gw _ _ _ _ (λe=>rR (by simpa using e)),mR.block l b7 (λe=>?_),fY _ _ _ rA.2];have:=(E.lt l e.symm).2;omega
    exact qe tI m5
   ·have ub:r=m:=by simpa[ap]using p
    subst ub;rcases iR with iR|iR
    ·exact .inl iR
    ·exact .inr T
  subst qP;have ug:ag _:=gj;have ne:∀a,lg a d.cd d.cg d.bP->∀iU,aF (S (R a)) a iU->aR prog 110 #[dA #[U f g i,U d.cd (M d.bP) d.cg],aD (some ⟨x,0,none⟩)] iU λe q=>∃iZ i0,e=aM (dA #[U f g i,U (some ⟨iZ,0,none⟩) (M d.bP+1) i0])/\aF (S (R a)) a q/\aY q (S (R a)) 156 1 (U (some ⟨iZ,0,none⟩) (M d.bP+1) i0) (M d.bP+1) ((d.bP++[x]).map oV):=λa nB iU gE=>by refine(LH (L:=iU) (nB.i (d_:=λb=>b<S (R a)) (lI:=λ_=>True) nB.ax (λb s _=>⟨trivial,gE.block b s⟩) gE.size) T).mono ?_;rintro e q ⟨iZ,i0,uY,vE,wz⟩;exact⟨iZ,i0,uY,gE.trans (vE.mono gE.size),qe wz gE.size⟩
  clear gj h j9 kp gF hu hV hE hS P E k1 qW;generalize d.cd=gC at*;generalize AV:M d.bP=ih at*;generalize d.cg=gL at*;go_enter func108,ntmps108;go_upto_region 2 with(go_at_call 109;refine F.mono ?_;rintro e a ⟨rfl,y⟩);obtain⟨nG,kx,i1,i2,oa,ob⟩:=hZ a y;have wB:=ne a ob;have xf:=kx.aa 0;have xk:=i1.aa 0;have AW:=i1.b 0;have xr:=i2.aa 0;have ys:=i2.aa 1;have Bg:=kx.am;have yC:=i1.am;have Bo:=i2.am;simp at xf xk xr ys;have Bt:u<=S (R a):=bS pa nG.size;clear hZ ne kx i2 ob F y v gf lo qp;go_region_law (first|(refine kc _ bf _ _ 107 bf u 163 pF _ 2 48 underlying107 pR pU pX pZ rfl ak _ (M H) (bC bO.h H) bf (y2.alloc _) ⟨S (R t),0,none⟩ 1 1 [U f g i,U (some ⟨l,0,none⟩) (ih+1) o] bf rfl (c4 (cB _ _ _ av)) ey ak cN T (by simp<;>omega) (S (R t)+1) av ?_;intro r C z oH G y5 BE;have jt:=(jW.a (aw #[U f g i,U (some ⟨l,0,none⟩) (ih+1) o] 163)).d (G.block J b7 (λe=>ra J e.symm rfl));have u0:=jt.aa 0;have BH:=jt.b 0;have BN:=jt.am;simp at u0)|(go_simp;refine(wB _ (by first|exact ca _ _|exact⟨rfl,rfl,rfl,aN _,λ_ _=>rfl⟩)).mono ?_;rintro e t ⟨l,o,rfl,j4,zc⟩;have jW:=i1.d (j4.block J yC);have zS:=jW.aa 0;have BP:=jW.b 0;have BV:=jW.am;simp at zS;have y2:=cw oa (aI:=t) (λm p=>j4.block m (oa.lt m p).2);have Cs:=j4.size;show _;dsimp only))
  all_goals
   have z_:=ug.out a t z l o r C (aw #[U f g i,U (some ⟨l,0,none⟩) (ih+1) o] 163) nG j4 zc oH ⟨G.os,G.tape,G.output,G.size,G.block⟩ (by rcases y5 with e|e;exact .inl e;exact .inr T) jt;clear oH G;go_wp2
   go_end0
   exact⟨rfl,z_⟩
theorem G6{F:List Nat}{a:Nat}(h:r<M F):(F++[a]).getD r 0=F.getD r 0:=by simp[fj,ms h]
theorem L9(F:List Nat)(a:Nat):(F++[a]).getD (M F) 0=a:=by simp[fj]
theorem fT.kp{b:Nat->Prop}(h:fT b L k B w A d)(c:M A=M w)(e:be)(x:Nat):fT b L k B (w++[e]) (A++[x]) d:=
 ⟨h.eJ,h.dJ,h.cz,by rw[h.bP];exact sa λr a=>(G6 (by rw[c];exact h.am r a)).symm,λr a=>by have:=h.am r a;simp;omega,h.ck,h.ud⟩
theorem jb.kp{a:Nat->Prop}(h:jb a L w A){e:be}(b:j8 L x e (M w))(hF:a x):jb a L (w++[e]) (A++[x]):=by
 refine⟨by simp[h.bX],λr d j=>?_⟩;have f:=h.bX;by_cases c:r<M w
 ·rw[iz T,iz c];exact h.iX r c T
 ·have g:r=M w:=by simp at d;omega
  subst g;rw[iV T,iV T];simp only[f,rM,pv];exact⟨b,hF,b.am⟩
structure ht (d_:Nat->Prop) (L:aq) (cm:List (List gI)) (iS:List an) (ad:List be) (jx:List Nat) (e:be) (kz Q8 v1:Nat) (done:List (Nat×List Nat)) (wr:aq) (lI:Nat->Prop) (g_:an) (lK:List bO):Prop where
 g7:aF L.heap.size L wr
 rQ:aL wr Q8 #[aD (some ⟨kz,0,none⟩)] 156
 sB:aL wr v1 #[g_] 107
 bg:wr.ownsRow L.heap.size 163 2 g_ lK.length (bC bO.h lK)
 bw:lK.map bO.bw=(done.filter (nD (cS cm) ad e)).map (pJ ad.length)
 f0:∀aQ∈lK,fT lI wr cm iS (ad++[e]) (jx++[kz]) aQ
 m7:∀X,d_ X->lI X
 bT:∀X,lI X->d_ X\/L.heap.size<=X
 am:∀X,lI X->X<wr.heap.size
 wn:¬lI v1
 x0:∀N,g_.ownBlock=some N->¬lI N
theorem ht.y{c:Nat->Prop}{e:be}{done:List (Nat×List Nat)}{wr:aq}{f:Nat->Prop}(h:ht c L k B w A e x g1 J done wr f gg H)(a:aF (S (R wr)) wr q):ht c L k B w A e x g1 J done q f gg H:=
 ⟨h.g7.trans (a.mono h.g7.size),h.rQ.d (a.block _ h.rQ.am),h.sB.d (a.block _ h.sB.am),cw h.bg (λg i=>a.block g (h.bg.lt g i).2),h.bw,λd j=>(h.f0 d j).i (λb hF l=>⟨hF,a.block b l⟩) a.size,h.m7,h.bT,λb hF=>cI (h.am b hF) a.size,h.wn,h.x0⟩
theorem ht.pX{a:Nat->Prop}{e:be}{done:List (Nat×List Nat)}{wr:aq}{b:Nat->Prop}(h:ht a L k B w A e x g1 J done wr b gg H):M H<=done.length:=by have:=congrArg M h.bw;rw[c_,c_]at this;rw[this];exact vf _ _
theorem ht.hi{K:Nat->Prop}{e:be}{done:List (Nat×List Nat)}{wr:aq}{o:Nat->Prop}(h:ht K L k B w A e x g1 J done wr o gg H)(v:fT o wr k B w A d)(gE:jb o wr w A)(j4:g1<S (R L)+2)(z:w7 (S (R L)) wr J gg H d x (M w) (nD (cS k) w e d.bw) q)(gF:g1≠J)(j9:S (R L)<=J):
 ∃P j b p gL,ht K L k B w A e x g1 J (done++[d.bw]) q P (U j b p) gL/\(∀b,o b->P b):=by
 have gf:=gE.bX;cases C:nD (cS k) w e d.bw with
 |false=>rw[C]at z;have E:=z.Od rfl;have l:=h.y E;obtain⟨j,b,p,hu⟩:=dr h.bg;subst hu;refine⟨o,j,b,p,H,⟨l.g7,l.rQ,l.sB,l.bg,?_,l.f0,l.m7,l.bT,l.am,l.wn,l.x0⟩,λb E=>E⟩;rw[h.bw,lE];simp[C]
 |true=>
  rw[C]at z;obtain⟨j,b,p,N,G,hE,gj,D,m,hS⟩:=z.O8 rfl;have F:=D.lt N rfl;have hV:∀c,o c->¬(c=J\/ap gg=some c):=λc f i=>by
   rcases i with rfl|i
   ·exact h.wn f
   ·exact h.x0 c i f
  have l:fL o wr (λc=>o c\/c=N) q:=λc f hZ=>⟨.inl f,m.o c hZ (hV c f)⟩
  have ih:N≠J:=by have:=h.sB.am;omega
  have iR:∀c,ap gg=some c->S (R L)<=c:=λc f=>(h.bg.lt c f).1
  refine⟨λc=>o c\/c=N,j,b,p,H++[sP d N G x (M w)],⟨?_,?_,hE,gj,?_,?_,λc f=>.inl (h.m7 c f),?_,?_,?_,?_⟩,λc f=>.inl f⟩
  ·refine⟨(ea.dR m).trans h.g7.os,(ea.hq m).trans h.g7.tape,(ea.ho m).trans h.g7.output,bS h.g7.size m.b5,λa l=>?_⟩;rw[m.o a (cI l h.g7.size) (λi=>by rcases i with rfl|i;omega;have:=iR a i;omega)];exact h.g7.block a l
  ·refine h.rQ.d (m.o g1 h.rQ.am (λi=>?_));rcases i with i|i
   ·exact gF i
   ·exact ed h.rQ h.bg ak i
  ·rw[dv,h.bw,lE,dv];congr 1;simp[C,sP]
  ·intro iU s;rcases dm.1 s with s|s
   ·exact(h.f0 iU s).i l m.b5
   ·rw[dB.1 s];have I:=v.i l m.b5;refine⟨I.eJ,I.dJ,I.cz,?_,λr t=>?_,?_,λiZ i0=>?_⟩
    ·show d.bP++[x]=(d.bw.2++[M w]).map ((A++[x]).getD · 0);rw[dv,v.bP];congr 1
     ·exact sa λr t=>(G6 (by rw[gf];exact v.am r t)).symm
     ·show [x]=[(A++[x]).getD (M w) 0];rw[<-gf,L9]
    ·have u:r∈d.bw.2++[M w]:=t;rw[bV];rcases dm.1 u with u|u
     ·have:=v.am r u;simp;omega
     ·rw[dB.1 u];simp
    ·show lg q (some ⟨N,0,none⟩) G (d.bP++[x])
     have i1:M d.bP+1<=G:=by
      rcases D.2 with⟨e,_⟩|⟨kp,kr,kx,i2,_,k1,jt,_⟩
      ·cases e
      ·cases i2;exact jt
     refine .inr ⟨by simpa using i1,N,rfl,F.2,λr t=>?_⟩;have:=D.cells (g:=N) rfl r (oV (d.bP++[x])[r]) (by rw[gq,dz t];rfl);rw[ez,du]at this;exact this
    ·have jW:some (⟨N,0,none⟩:Addr)=some iZ:=i0;cases jW;exact .inr rfl
  ·intro c f;rcases f with f|rfl
   ·exact h.bT c f
   ·exact .inr (bS h.g7.size F.1)
  ·intro c f;rcases f with f|rfl
   ·exact cI (h.am c f) m.b5
   ·exact F.2
  ·rintro(f|f)
   ·exact h.wn f
   ·exact ih f.symm
  ·intro c f i;rcases i with i|rfl
   ·rcases hS c f with gC|gC
    ·exact h.x0 c gC i
    ·exact absurd (h.am c i) T
   ·exact i4 gj D ak c f rfl
structure o8 (d_:Nat->Prop) (L:aq) (e3:an) (cm:List (List gI)) (iS:List an):Prop where
 bX:iS.length=cm.length
 bg:L.ownsRow 0 112 1 e3 cm.length iS
 ax:∀N,e3.ownBlock=some N->d_ N
 cz:∀al,(h:al<iS.length)->(yE:al<cm.length)->iG d_ L iS[al] cm[al]
theorem o8.i{d e:Nat->Prop}(h:o8 d L hu k B)(c:fL d L e q):o8 e q hu k B:=
 ⟨h.bX,cw h.bg λN a=>(c N (h.ax N a) (h.bg.lt N a).2).2,λN a=>(c N (h.ax N a) (h.bg.lt N a).2).1,λr j b=>(h.cz r j b).i c⟩
theorem o8.o{c:Nat->Prop}(h:o8 c L hu k B):∃j d,hu=U j (M k) d/\(0<M k->∃N,j=some ⟨N,0,none⟩/\N<S (R L)/\∀a,(b:a<M B)->aK L ⟨N,a,none⟩=some B[a]):=by
 have e:=h.bg;rcases h.bg.2 with⟨rfl,f⟩|⟨N,G,m,rfl,_,l,_⟩
 ·exact⟨none,0,by rw[f],λh=>T⟩
 ·refine⟨_,_,rfl,λ_=>⟨N,rfl,(i7.1 l).1,λa b=>?_⟩⟩;have:=e.cells (g:=N) rfl a B[a] (dz b);rw[ez,du]at this;exact this
theorem iG.cV{a:Nat->Prop}{c:List gI}(h:iG a L ih c):∃j b d,ih=U j b d:=by obtain⟨⟨e,_,h,_⟩,_⟩:=h;exact dr h
theorem ht.Bt{a:Nat->Prop}{e:be}{done:List (Nat×List Nat)}{wr:aq}{c:Nat->Prop}(h:ht a L k B w A e x g1 J done wr c gg H):fL a L c wr:=λb d f=>⟨h.m7 b d,h.g7.block b f⟩
def xA(e:List an)(c:Nat):bO:=⟨e.getD c default,none,0,[],(c,[])⟩
theorem Qq{c:Nat->Prop}(h:o8 c L hu k B)(a:Nat)(b:a<M k):fT c L k B w A (xA B a):=by
 have d:a<M B:=by rw[h.bX];exact b
 refine⟨b,rfl,?_,rfl,λr f=>?_,.inl ⟨rfl,rfl,rfl⟩,λg e=>?_⟩
 ·show iG c L (B.getD a default) (k.getD a []);have:=h.cz a d b;simpa[List.getD,b,d]using this
 ·have:r∈([]:List Nat):=f;simp at this
 ·have:(none:Option Addr)=some g:=e;cases this
theorem St(k:List (List gI))(a:Nat)(h:a<M k):(gi (cS k)).take (a+1)=(gi (cS k)).take a++[(a,[])]:=by
 have b:a<M (gi (cS k)):=by simp[gi,cS,h]
 rw[ev b];simp[gi]
theorem Qu{g:Nat->Prop}{e:be}(D:aL L E #[iZ,gj,hu,gF,i0,gf] 110)(gg:o8 g L hu k B)(F:aY L 0 163 2 gf (M bc) (bC bO.h bc))(mO:∀d∈bc,fT g L k B w A d/\M d.bw.2<M (k.getD d.bw.1 [])/\∃j b f,d.dJ=U j b f)(mR:jb g L w A)(qt:s1 k)(hZ:∀z∈k,0<M z/\M z<=10000)(Aq:M k<=1000)(Az:M bc<=500000)(hF:∀b,g b->b<S (R L))(ih:j8 L x e (M w)):
 aR prog 73 #[aD (some ⟨E,0,none⟩),aD (some ⟨x,0,none⟩)] L λo q=>∃i j b f H,o=aM (U j b f)/\ht g L k B w A e x (S (R L)) (S (R L)+1) (gi (cS k)++bc.map bO.bw) q i (U j b f) H:=by
 have mY:=aL.bT L #[aD (some ⟨x,0,none⟩)] 156;have iR:=aL.bT (ar L (aw #[aD (some ⟨x,0,none⟩)] 156)) #[U none 0 0] 107;rw[hQ]at iR;have iU:aF (S (R L)) L (ar (ar L (aw #[aD (some ⟨x,0,none⟩)] 156)) (aw #[U none 0 0] 107)):=((ca _ L).alloc (aN _) _).alloc av _;have m5:ht g L k B w A e x (S (R L)) (S (R L)+1) [] (ar (ar L (aw #[aD (some ⟨x,0,none⟩)] 156)) (aw #[U none 0 0] 107)) g (U none 0 0) []:=⟨iU,mY.a _,iR,eE _ _ _ _,rfl,λd gE=>by simp at gE,λb t=>t,λb t=>.inl t,λb t=>cI (hF b t) iU.size,λh=>by have:=hF _ h;omega,λN s=>by simp[ap]at s⟩
 have i1:=D.d (iU.block E D.am);have I:=i1.aa 2;have AE:=i1.am;simp at I;obtain⟨AV,AW,qP,i2⟩:=gg.o;obtain⟨ne,g1,nB,J⟩:=dr F;have nG:g1=M bc:=by
  rcases F.2 with⟨e,oa⟩|⟨N,G,qW,e,_⟩
  ·rw[e]at J;cases J;exact oa.symm
  ·rw[e]at J;cases J;rfl
 have m:∀(wr:aq) (done:List (Nat×List Nat)) (i:Nat->Prop) (j:Option Addr) (b f:Nat) (H:List bO) (d:bO),ht g L k B w A e x (S (R L)) (S (R L)+1) done wr i (U j b f) H->fT g L k B w A d->M d.bw.2<M (k.getD d.bw.1 [])->(∃j b f,d.dJ=U j b f)->done.length<=600000->
  aR prog 108 #[d.gX,aD (some ⟨S (R L),0,none⟩),aD (some ⟨S (R L)+1,0,none⟩)] wr λo q=>o=aM (b2 #[])/\∃K j b f P,ht g L k B w A e x (S (R L)) (S (R L)+1) (done++[d.bw]) q K (U j b f) P:=by
  intro wr done i j b f H d c gE ra rA Bg;have ob:=gE.i c.Bt c.g7.size;have oH:=mR.i c.Bt c.g7.size;have rR:M (k.getD d.bw.1 [])<=10000:=by
   have oS:=gE.eJ;have:k.getD d.bw.1 []=k[d.bw.1]:=by simp[List.getD,oS]
   rw[this];exact(hZ _ (b4 oS)).2
  refine(NV ob oH qt ra rR rA (aL.d ih (c.g7.block x ih.am)) c.rQ c.sB c.bg (bS c.pX T) c.g7.size).mono ?_;rintro o q ⟨hE,hS⟩;obtain⟨K,jt,jW,I,P,sY,_⟩:=c.hi ob oH T hS T T;exact⟨hE,K,jt,jW,I,P,sY⟩
 have o6:∀wr,aF (S (R L)) L wr->aK wr ⟨E,5,none⟩=some gf/\E<S (R wr):=λwr t=>by have:=(D.d (t.block E D.am));exact⟨by rw[this.aa 5];simp,this.am⟩
 have pa:M (gi (cS k))=M k:=by simp[gi,cS]
 have py:ag _:=m;have pF:ag _:=m5;have tB:ag _:=o6;have tI:ag (∀z∈k,0<M z/\M z<=10000):=hZ;have j4:ag (M (gi (cS k))=M k):=pa;have t8:ag (g1=M bc):=nG;subst qP J;clear m m5 o6 hZ mY iR mR ih D i1 pa hF nG;go_enter func73,ntmps73;go_wp2
 go_loopw [17] (λr wr=>∃(a:Nat) (i:Nat->Prop) (j:Option Addr) (b f:Nat) (H:List bO),a<=M k/\r=O Q a/\ht g L k B w A e x (S (R L)) (S (R L)+1) ((gi (cS k)).take a) wr i (U j b f) H) (λr _=>M k-(bm r).toNat)
 case atStart=>exact⟨0,g,none,0,0,[],bL _,rfl,pF.out⟩
 case round=>
  obtain⟨a,i,j,b,f,H,Bo,rfl,c⟩:=hrel;clear pF;by_cases l:a<M k
  ·obtain⟨N,rfl,s,pR⟩:=i2 T;have j9:a<M B:=by rw[gg.bX];exact l
   have ub:=(c.g7.cell (p:=⟨N,a,none⟩) s).trans (pR a j9);obtain⟨u,v,y,C⟩:=(gg.cz a j9 l).cV;have ug:=(tI.out k[a] (b4 l)).1;have pU:B.getD a default=U u v y:=by simp[List.getD,j9,C]
   have m:=py.out wr _ i j b f H (xA B a) c (Qq gg a l) (by show 0<M (k.getD a []);simpa[List.getD,l]using ug) ⟨u,v,y,pU⟩ (by rw[hT,j4.out];omega);have kp:ag ((gi (cS k)).take (a+1)=(gi (cS k)).take a++[(xA B a).bw]):=St k a l;have uY:(xA B a).gX=dA #[U u v y,U none 0 0]:=by unfold bO.gX;show dA #[B.getD a default,_]=_;rw[pU];rfl
   rw[uY]at m;rw[C]at ub;have vE:N<S (R wr):=cI s c.g7.size;have wz:(a:Int)<(M k:Int):=T;have wB:(0:Int)<=(a:Int):=T;clear pR i2 c;generalize(gi (cS k)).take a=xf at*;go_wp2_with(go_at_call 108;refine m.mono ?_;rintro o xk ⟨rfl,K,jt,jW,I,P,xr⟩);go_roundw
   case rel=>exact⟨a+1,K,jt,jW,I,P,l,bE,by rw[kp.out];exact xr⟩
   case measure=>simp[bm];omega
  ·have kr:a=M k:=by omega
   subst kr;obtain⟨ys,Bt⟩:=tB.out wr c.g7;have pX:ag (ht g L k B w A e x (S (R L)) (S (R L)+1) (gi (cS k)++(bc.map bO.bw).take 0) wr i (U j b f) H):=by show ht _ _ _ _ _ _ _ _ _ _ _ _ _ _ _;rw[qA (by rw[j4.out];exact aN _)]at c;rw[List.take_zero,jN];exact c
   have BE:=c.g7;clear c i2;rw[t8.out]at ys;go_wp2;obtain⟨BH,rfl⟩:∃o,o=wr:=⟨_,rfl⟩
   go_loopw [31] (λr wr=>∃(a:Nat) (i:Nat->Prop) (j:Option Addr) (b f:Nat) (H:List bO),a<=M bc/\r=O Q a/\ht g L k B w A e x (S (R L)) (S (R L)+1) (gi (cS k)++(bc.map bO.bw).take a) wr i (U j b f) H) (λr _=>M bc-(bm r).toNat)
   case atStart=>exact⟨0,i,j,b,f,H,bL _,rfl,pX.out⟩
   case round=>
    obtain⟨a,kx,k1,k7,lo,l8,BN,rfl,c⟩:=hrel;clear pX;by_cases l:a<M bc
    ·obtain⟨N,G,me⟩:∃N G,(U ne g1 nB)=U (some ⟨N,0,none⟩) (M bc) G:=by
      rcases F.2 with⟨_,oa⟩|⟨N,G,qW,e,_⟩
      ·omega
      ·exact⟨N,G,e⟩
     obtain⟨rfl,_,rfl⟩:ne=some ⟨N,0,none⟩/\g1=M bc/\nB=G:=by simpa using me
     have hV:=F;rw[me]at hV;obtain⟨mn,pZ⟩:=pg hV a l;have s:=(hV.lt N rfl).2;obtain⟨hE,hS,u,v,y,C⟩:=mO bc[a] (b4 l);rw[C]at mn;have BP:=(c.g7.cell (p:=⟨N,a*2,none⟩) s).trans mn;have BV:=(c.g7.cell (p:=⟨N,a*2+1,none⟩) s).trans pZ;have vE:N<S (R wr):=cI s c.g7.size;have qp:aF (S (R wr)) wr (ar wr (aw #[U u v y,U bc[a].cd (M bc[a].bP) bc[a].cg] 163)):=(ca _ wr).alloc (aN _) _;have m:=py.out _ _ kx k1 k7 lo l8 bc[a] (c.y qp) hE hS ⟨u,v,y,C⟩ (by rw[bV,j4.out,hT,c_];omega);have kp:ag (gi (cS k)++(bc.map bO.bw).take (a+1)=gi (cS k)++(bc.map bO.bw).take a++[bc[a].bw]):=by show _=_;rw[ev (by simpa using l),ke];simp
     unfold bO.gX at m;rw[C]at m;have wz:(a:Int)<(M bc:Int):=T;have wB:(0:Int)<=(a:Int):=T;clear c mO F hV mn pZ hE hS me qp;generalize gi (cS k)++(bc.map bO.bw).take a=xf at*;generalize bc[a].bw=Cs at*;generalize bc[a].cd=gC at*;generalize(M bc[a].bP)=Cz at*;generalize bc[a].cg=gL at*;go_wp2_with(go_at_call 108;refine m.mono ?_;rintro o xk ⟨rfl,yC,y2,y5,zc,zS,z_⟩);go_roundw
     case rel=>exact⟨a+1,yC,y2,y5,zc,zS,l,bE,by rw[kp.out];exact z_⟩
     case measure=>simp[bm];omega
    ·have kr:a=M bc:=by omega
     subst kr;have Ai:ag (ht g L k B w A e x (S (R L)) (S (R L)+1) (gi (cS k)++bc.map bO.bw) wr kx (U k1 k7 lo) l8):=by show ht _ _ _ _ _ _ _ _ _ _ _ _ _ _ _;rw[qA av]at c;exact c
     have Ak:=c.sB.aa 0;have CS:=c.sB.am;simp at Ak;clear c;go_wp2;go_ret;exact⟨kx,k1,k7,lo,l8,rfl,Ai.out⟩
def fb(L:aq)(g:an)(c:List Nat):Prop:=∃f h,g=U f (M c) h/\(0<M c->∃N,f=some ⟨N,0,none⟩/\N<S (R L)/\∀e,(i:e<M c)->aK L ⟨N,e,none⟩=some (O Q (c[e]:Nat)))
theorem fb.pU{b:Nat}{F:List Nat}(h:aY L b 3 1 ih (M F) (F.map λD=>O Q (D:Nat))):fb L ih F:=by
 rcases h.2 with⟨rfl,c⟩|⟨N,G,f,rfl,_,d,_⟩
 ·exact⟨none,0,by rw[c],λh=>T⟩
 ·refine⟨_,_,rfl,λ_=>⟨N,rfl,(i7.1 d).1,λa e=>?_⟩⟩;have:=h.cells (g:=N) rfl a (O Q (F[a]:Nat)) (by rw[gq,dz e];rfl);rw[ez,du]at this;exact this
def n5(c e:Nat):Int:=if c<e then -1 else if e<c then 1 else 0
theorem L2(j b:Nat)(L:aq):aR prog 159 #[O Q (j:Nat),O Q (b:Nat)] L λe q=>e=aM (O Q (n5 j b))/\q=L:=by
 unfold n5;by_cases a:j<b
 ·rw[aP a];have d:(j:Int)<(b:Int):=T;go_enter func159,ntmps159;go_wp2;go_ret;exact⟨rfl,rfl⟩
 ·rw[aH a];have d:(b:Int)<=(j:Int):=T;by_cases c:b<j
  ·rw[aP c];have f:(b:Int)<(j:Int):=T;go_enter func159,ntmps159;go_wp2;go_ret;exact⟨rfl,rfl⟩
  ·rw[aH c];have f:(j:Int)<=(b:Int):=T;go_enter func159,ntmps159;go_wp2;go_ret;exact⟨rfl,rfl⟩
theorem JJ(e:a<M j)(f:a<M b):dX (j.drop a) (b.drop a)=if n5 j[a] b[a]=0 then dX (j.drop (a+1)) (b.drop (a+1))else n5 j[a] b[a]:=by
 rw[ku e,ku f];unfold n5
 conv=>lhs;unfold dX
 by_cases c:j[a]<b[a]
 ·simp[c]
 ·by_cases d:b[a]<j[a]
  ·simp[c,d]
  ·simp[c,d]
theorem PR(w:fb L hS j)(x:fb L hV b)(C:M j<=1000000)(D:M b<=1000000):
 aR prog 121 #[hS,hV] L λe q=>e=aM (O Q (dX j b))/\q=L:=by
 obtain⟨E,ac,rfl,i⟩:=w;obtain⟨F,G,rfl,f⟩:=x;go_enter func121,ntmps121;go_wp2
 go_loopw [11] (λr wr=>∃a:Nat,a<=M j/\a<=M b/\r=O Q a/\wr=L/\ag (dX j b=dX (j.drop a) (b.drop a))) (λr _=>M j-(bm r).toNat)
 case atStart=>exact⟨0,bL _,bL _,rfl,rfl,rfl⟩
 case round=>
  obtain⟨a,H,I,rfl,rfl,c⟩:=hrel;by_cases k:a<M j
  ·obtain⟨N,rfl,J,u⟩:=i T;have K:=u a k;have P:(a:Int)<(M j:Int):=T;have gf:(0:Int)<=(a:Int):=T;clear u i;by_cases g:a<M b
   ·obtain⟨gg,rfl,gj,v⟩:=f T;have gC:=v a g;have y:(a:Int)<(M b:Int):=T;have p:=L2 j[a] b[a] wr;have l:ag (dX (j.drop a) (b.drop a)=if n5 j[a] b[a]=0 then dX (j.drop (a+1)) (b.drop (a+1))else n5 j[a] b[a]):=JJ k g;clear v f;generalize j[a]=m at*;generalize b[a]=o at*;by_cases h:n5 m o=0
    ·have d:ag (dX j b=dX (j.drop (a+1)) (b.drop (a+1))):=by show _=_;rw[c.out,l.out,aP h]
     rw[h]at p;clear l c h;go_wp2_with(go_at_call 159;refine p.mono ?_;rintro e z ⟨rfl,s⟩;rw[s]);go_roundw
     case rel=>exact⟨a+1,k,g,bE,trivial,d⟩
     case measure=>simp[bm];omega
    ·have d:ag (dX j b=n5 m o):=by show _=_;rw[c.out,l.out,aH h]
     have gE:(n5 m o==0)=false:=by simpa using h
     generalize n5 m o=gF at*;clear l c;go_wp2_with(go_at_call 159;refine p.mono ?_;rintro e z ⟨rfl,s⟩;rw[s]);go_ret;rw[d.out];exact⟨rfl,rfl⟩
   ·have d:ag (dX j b=1):=by
     show _=_;have t:b.drop a=[]:=E_ T;rw[c.out,t,ku k];rfl
    have y:(M b:Int)<=(a:Int):=T;clear c f;go_wp2;go_ret;rw[d.out];exact⟨rfl,rfl⟩
  ·have A:a=M j:=by omega
   subst A;by_cases g:M j<M b
   ·have d:ag (dX j b= -1):=by
     show _=_;rw[c.out,vm,ku g];rfl
    have B:(M j:Int)<(M b:Int):=T;clear c i f;go_wp2;go_ret;rw[d.out];exact⟨rfl,rfl⟩
   ·have d:ag (dX j b=0):=by
     show _=_;have t:b.drop (M j)=[]:=E_ T;rw[c.out,t,vm];rfl
    have B:(M b:Int)<=(M j:Int):=T;clear c i f;go_wp2;go_ret;rw[d.out];exact⟨rfl,rfl⟩
theorem KL(B:fb L hS j)(C:fb L hV b)(P:M j<=1000000)(gf:M b<=1000000):
 aR prog 123 #[hS,hV] L λe q=>e=aM (.bool (decide (j=b)))/\∃c,q=bY L c:=by
 obtain⟨gg,ac,rfl,g⟩:=B;obtain⟨gj,gC,rfl,i⟩:=C;by_cases f:M j=M b
 ·have t:ag (M j=M b):=f;have E:((M j:Int)==(M b:Int))=true:=by simp[f]
  have F:((M j:Int)!=(M b:Int))=false:=by simp[f]
  clear f;go_enter func123,ntmps123;go_wp2
  go_loopw [13] (λr wr=>∃a:Nat,a<=M j/\r=O Q a/\(∃c,wr=bY L c)/\ag (j.take a=b.take a)) (λr _=>M j-(bm r).toNat)
  case atStart=>exact⟨0,bL _,rfl,⟨0,rfl⟩,rfl⟩
  case round=>
   obtain⟨a,gE,rfl,⟨c,o⟩,p⟩:=hrel;have d:R wr=R L:=by rw[o];rfl
   have s:ag (∀D,∃c,bY wr D=bY L c):=λD=>⟨c+D,by rw[o];simp[bY,hr]⟩
   clear o;by_cases k:a<M j
   ·have u:a<M b:=by rw[<-t.out];exact k
    obtain⟨N,rfl,v,w⟩:=g T;obtain⟨x,rfl,y,z⟩:=i T;have gF:aK wr ⟨N,a,none⟩=some (O Q (j[a]:Nat)):=(dn (by rw[d]) a).trans (w a k);have gL:aK wr ⟨x,a,none⟩=some (O Q (b[a]:Nat)):=(dn (by rw[d]) a).trans (z a u);have g1:N<S (R wr):=by rw[d];exact v
    have hu:x<S (R wr):=by rw[d];exact y
    have hE:(a:Int)<(M j:Int):=T;have hZ:(a:Int)<(M b:Int):=T;have ih:(0:Int)<=(a:Int):=T;have G:ag (j[a]=b[a]->j.take (a+1)=b.take (a+1)):=λe=>by rw[ev k,ev u,p.out,e]
    have H:ag (¬j[a]=b[a]->decide (j=b)=false):=λe=>kt (λh=>e (by subst h;rfl))
    clear w z g i d v y p;generalize j[a]=l at*;generalize b[a]=m at*;by_cases A:l=m
    ·subst A;go_wp2;go_quiet(fail);go_wp2;go_roundw
     case rel=>exact⟨a+1,k,bE,s.out _,G.out trivial⟩
     case measure=>simp[bm];omega
    ·have iR:((l:Int)!=(m:Int))=true:=by simp;omega
     have iU:((l:Int)==(m:Int))=false:=b7;have iZ:¬(l:Int)=(m:Int):=T;go_wp2;go_quiet(fail);go_wp2;go_ret;rw[H.out A];exact⟨rfl,s.out _⟩
   ·have I:a=M j:=by omega
    subst I;have J:ag (decide (j=b)=true):=lW (by
     have:=p.out
     rw[eQ,t.out,eQ]at this
     exact this)
    clear g i d;go_wp2;go_ret;rw[J.out];exact⟨rfl,s.out 0⟩
 ·have E:((M j:Int)==(M b:Int))=false:=by simp;omega
  have F:((M j:Int)!=(M b:Int))=true:=b7;have i0:¬(M j:Int)=(M b:Int):=T;have K:ag (decide (j=b)=false):=kt (λh=>f (by rw[h]));clear g i;go_enter func123,ntmps123;go_wp2;go_ret;rw[K.out];exact⟨rfl,0,rfl⟩
def kP(e c:Int):Int:=if 1099511627776<c-e then 1099511627776 else c-e
theorem xZ(e F:Int)(b:c1 e)(c:c1 F)(h:e<=F)(L:aq):aR prog 145 #[O Q e,O Q F] L λd q=>d=aM (O Q (kP e F))/\q=L:=by
 unfold c1 at b c;unfold kP;by_cases f:e<0
 ·by_cases g:0<=F
  ·by_cases i:e< -1099511627776
   ·rw[aP T];go_enter func145,ntmps145;go_wp2;go_ret;exact⟨rfl,rfl⟩
   ·by_cases j:1099511627776<F
    ·rw[aP T];go_enter func145,ntmps145;go_wp2;go_ret;exact⟨rfl,rfl⟩
    ·by_cases a:1099511627776<F-e
     ·rw[aP a];go_enter func145,ntmps145;go_wp2;go_ret;exact⟨rfl,rfl⟩
     ·rw[aH a];go_enter func145,ntmps145;go_wp2;go_ret;exact⟨rfl,rfl⟩
  ·by_cases a:1099511627776<F-e
   ·rw[aP a];go_enter func145,ntmps145;go_wp2;go_ret;exact⟨rfl,rfl⟩
   ·rw[aH a];go_enter func145,ntmps145;go_wp2;go_ret;exact⟨rfl,rfl⟩
 ·by_cases a:1099511627776<F-e
  ·rw[aP a];go_enter func145,ntmps145;go_wp2;go_ret;exact⟨rfl,rfl⟩
  ·rw[aH a];go_enter func145,ntmps145;go_wp2;go_ret;exact⟨rfl,rfl⟩
theorem ww{e F a:Int}(b:a<=1000000):kP e F<a↔F-e<a:=by unfold kP;split<;>omega
def pz(e:be)(ah:ByteArray):Int:=if ah.toList==[97]then e.bj else if ah.toList==[98]then e.X else if ah.toList==[99]then e.aE else e.aS
theorem Js(e:be)(ah:ByteArray)(L:aq):aR prog 208 #[e4 e,.string ah] L λa q=>a=aM (O Q (pz e ah))/\aF (S (R L)) L q:=by
 unfold e4;cases gj:ah.toList==[97]with
 |true=>rw[show pz e ah=e.bj by unfold pz;simp[gj]];go_enter func208,ntmps208;go_wp2;go_ret;exact⟨rfl,(ca _ L).alloc (aN _) _⟩
 |false=>
  cases gE:ah.toList==[98]with
  |true=>rw[show pz e ah=e.X by unfold pz;simp[gj,gE]];go_enter func208,ntmps208;go_wp2;go_ret;exact⟨rfl,(ca _ L).alloc (aN _) _⟩
  |false=>
   cases gF:ah.toList==[99]with
   |true=>rw[show pz e ah=e.aE by unfold pz;simp[gj,gE,gF]];go_enter func208,ntmps208;go_wp2;go_ret;exact⟨rfl,(ca _ L).alloc (aN _) _⟩
   |false=>rw[show pz e ah=e.aS by unfold pz;simp[gj,gE,gF]];go_enter func208,ntmps208;go_wp2;go_ret;exact⟨rfl,(ca _ L).alloc (aN _) _⟩
theorem Km(L:aq)(j b:Nat):bY (bY L j) b=bY L (j+b):=by simp[bY,hr]
def rX(c e:List Nat)(f:Int):Prop:=(dX c e<0/\f<0)\/(dX c e=0/\f=0)\/(0<dX c e/\0<f)
def gZ:List Nat->List Nat->Int
 |f::c,g::e=>if f=g then gZ c e else(f:Int)-(g:Int)
 |c,e=>(M c:Int)-(M e:Int)
theorem E0(b:List Nat):gZ [] b= -(M b:Int):=by unfold gZ;simp
theorem FU(j:List Nat):gZ j []=(M j:Int):=by cases j<;>simp[gZ]
theorem Gj:∀(j b:List Nat),rX j b (gZ j b):=by
 intro j
 induction j with
 |nil=>
  intro b;rw[E0];unfold rX;cases b with
  |nil=>right;left;simp[dX]
  |cons a b=>left;simp[dX]
 |cons c j e=>
  intro b;cases b with
  |nil=>rw[FU];unfold rX;right;right;simp[dX]
  |cons a b=>
   unfold rX gZ;by_cases h:c=a
   ·subst h;have:=e b;unfold rX at this;simpa[dX]using this
   ·rw[aH h];by_cases d:c<a
    ·left;simp[dX,d];omega
    ·have f:a<c:=by omega
     right;right;simp[dX,d,f]
theorem Tl(c:a<M j)(d:a<M b):gZ (j.drop a) (b.drop a)=if j[a]=b[a]then gZ (j.drop (a+1)) (b.drop (a+1))else(j[a]:Int)-(b[a]:Int):=by rw[ku c,ku d];rfl
theorem Dh(F:fb L hS j)(G:fb L hV b)(I:M j<=1000000000)(J:M b<=1000000000)(l:∀v∈j,v<=1000000000)(m:∀v∈b,v<=1000000000):
 aR prog 182 #[hS,hV] L λe q=>e=aM (O Q (gZ j b))/\∃c,q=bY L c:=by
 obtain⟨K,ac,rfl,o⟩:=F;obtain⟨P,gf,rfl,p⟩:=G;go_enter func182,ntmps182;go_wp2
 go_loopw [5] (λr wr=>∃a:Nat,a<=M j/\a<=M b/\r=O Q a/\(∃c,wr=bY L c)/\ag (gZ j b=gZ (j.drop a) (b.drop a))) (λr _=>M j-(bm r).toNat)
 case atStart=>exact⟨0,bL _,bL _,rfl,⟨0,rfl⟩,rfl⟩
 case round=>
  obtain⟨a,gg,gj,rfl,⟨c,w⟩,f⟩:=hrel;have d:R wr=R L:=by rw[w];rfl
  have g:ag (∀D,∃c,bY wr D=bY L c):=λD=>⟨c+D,by rw[w];simp[bY,hr]⟩
  clear w;by_cases s:a<M j
  ·by_cases t:a<M b
   ·obtain⟨N,rfl,y,z⟩:=o T;obtain⟨A,rfl,B,C⟩:=p T;have gC:aK wr ⟨N,a,none⟩=some (O Q (j[a]:Nat)):=(dn (by rw[d]) a).trans (z a s);have gE:aK wr ⟨A,a,none⟩=some (O Q (b[a]:Nat)):=(dn (by rw[d]) a).trans (C a t);have gF:N<S (R wr):=by rw[d];exact y
    have gL:A<S (R wr):=by rw[d];exact B
    have E:(a:Int)<(M j:Int):=T;have g1:(a:Int)<(M b:Int):=T;have hu:(0:Int)<=(a:Int):=T;have hE:=l _ (b4 s);have hZ:=m _ (b4 t);have u:ag (gZ j b=if j[a]=b[a]then gZ (j.drop (a+1)) (b.drop (a+1))else(j[a]:Int)-(b[a]:Int)):=by show _=_;rw[f.out];exact Tl s t
    clear z C o p d y B f l m;generalize j[a]=h at*;generalize b[a]=i at*;by_cases x:h=i
    ·subst x;have H:ag (gZ j b=gZ (j.drop (a+1)) (b.drop (a+1))):=by show _=_;rw[u.out,aP rfl]
     clear u;go_wp2;go_quiet(fail);go_wp2;go_roundw
     case rel=>exact⟨a+1,s,t,bE,g.out _,H⟩
     case measure=>simp[bm];omega
    ·have ih:((h:Int)!=(i:Int))=true:=by simp;omega
     have iR:((h:Int)==(i:Int))=false:=b7;have iU:¬(h:Int)=(i:Int):=T;have k:ag (gZ j b=(h:Int)-(i:Int)):=by show _=_;rw[u.out,aH x]
     clear u x;go_wp2;go_quiet(fail);go_wp2;go_quiet(fail);go_wp2;go_ret;rw[k.out];exact⟨rfl,by first|exact g.out _|(rw[Km];exact g.out _)⟩
   ·have iZ:¬(a:Int)<(M b:Int):=by omega
    have E:(a:Int)<(M j:Int):=T;have k:ag (gZ j b=(M j:Int)-(M b:Int)):=by show _=_;rw[f.out,show b.drop a=[]from wS T,FU,la];omega
    clear o p d f l m;go_wp2;go_ret;rw[k.out];exact⟨rfl,g.out 0⟩
  ·have E:¬(a:Int)<(M j:Int):=by omega
   have k:ag (gZ j b=(M j:Int)-(M b:Int)):=by show _=_;rw[f.out,show j.drop a=[]from wS T,E0,la];omega
   clear o p d f l m;go_wp2;go_ret;rw[k.out];exact⟨rfl,g.out 0⟩
