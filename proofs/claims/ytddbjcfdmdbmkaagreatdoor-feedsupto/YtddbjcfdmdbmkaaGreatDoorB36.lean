import Derived.Test.YtddbjcfdmdbmkaaGreatDoorB35
import Derived.Test.YtddbjcfdmdbmkaaGreatDoorB31
import Derived.Test.YtddbjcfdmdbmkaaGreatDoorB32
set_option linter.all false
set_option maxRecDepth 100000
set_option maxHeartbeats 3200000
namespace Go.Proofs.YtddbjcfdmdbmkaaGreatDoor
open Go.RowKit Go.Proofs.Tryz
open Go renaming Value->an,World->aq
open Go.Value renaming int->O,slice->U,ownBlock->ap
open _root_.ByteArray renaming size->aW,toList->aJ
open Go.World renaming alloc->ar,grownBy->b_,heap->R,ownsRow->aY,setCell->ay
open List renaming length->M
variable{H:List (List aB)}{b K c E z gE:Nat}{G:it}{y J:ByteArray}{k:aB}{w u:List aB}{A:List (aB×List aB)}{bs:List ByteArray}{hu:List cA}{I:List (Nat×List Nat)}{x ad:List be}{gF gL:ByteArray->be}{a:Bool}{j:List Nat}{r:au}{D d:dg}{bF:Int}{L gf hE gg:aq}{F g1 gC:an}{B gj:List es}
def iQ(e:List (aB×List aB)):List ByteArray:=e.map (·.1.name)
def yN(f:List (aB×List aB))(g:Nat)(e:aB×List aB):gI:=⟨jn (iQ (f.take g)) e.1,e.2.map (jn (iQ (f.take g)))⟩
def mK(e:List (aB×List aB)):List gI:=e.mapIdx (yN e)
theorem QJ(A:List (aB×List aB))(e:aB×List aB):mK (A++[e])=mK A++[⟨jn (iQ A) e.1,e.2.map (jn (iQ A))⟩]:=by
 unfold mK;rw[List.mapIdx_append];congr 1
 ·apply xm
  ·simp
  ·intro b a c;simp at a;simp only[List.getElem_mapIdx];unfold yN;rw[GM T]
 ·simp[yN]
theorem IN(u:List aB):∀(D:tH) (y:List (aB×List aB)×List aB),D.cz=mK y.1/\D.bs=iQ y.1/\D.dh=y.2.map (jn (iQ y.1))->(u.foldl mM D).cz=mK (u.foldl iM y).1/\(u.foldl mM D).bs=iQ (u.foldl iM y).1/\(u.foldl mM D).dh=(u.foldl iM y).2.map (jn (iQ (u.foldl iM y).1)):=by
 induction u with
 |nil=>intro D y h;exact h
 |cons k u d=>
  intro D y h;rw[hc,hc];apply d;obtain⟨b,a,c⟩:=h;unfold mM iM;cases e:cW k with
  |true=>
   simp only[iC];refine⟨?_,?_,rfl⟩
   ·rw[QJ,b,a,c]
   ·rw[a];simp[iQ]
  |false=>simp only[rc,lh];refine⟨b,a,?_⟩;rw[a,c,dv];rfl
theorem yd(w:List aB):er w=mK (dM w).1:=by unfold er ka dM;rw[eQ];exact(IN w ⟨[],[],[]⟩ ([],[]) ⟨rfl,rfl,rfl⟩).1
structure rs (a8:ByteArray) (em:it) (e8:Nat) (bP:List (List aB)):Prop where
 mb:∃ae bu,zj a8 em bP ae bu
 fV:bP.length<=16
 a1:0<bP.length
 cz:∀eJ∈bP,1<=(dM eJ).1.length/\(dM eJ).1.length<=8
 Fv:∀eJ∈bP,eJ.length<=100000
 rW:e8=hR em.aZ bP
 b0:e8<=4000
 dh:∀eJ∈bP,∀al,al<eJ.length->(fR eJ al).2=0
 bs:∀eJ∈bP,∀al,al<eJ.length->(gl eJ al).2=0
theorem z6{ah:List aB->Nat->Nat×Nat}(h:(f_ ah H).2=0):∀u∈H,∀b,b<M u->(ah u b).2=0:=by
 intro u c b d;rcases yq ah H with⟨_,a⟩|⟨a,_⟩
 ·exact a _ ⟨u,c,b,d,rfl⟩
 ·exact absurd h a
theorem P5(h:fF b G=.inl (K,H)):jE b G.cJ=false/\H=c3 b G.cJ/\(f_ fR H).2=0/\(f_ gl H).2=0/\K=hR G.aZ H/\K<=4000:=by
 unfold fF at h;split at h
 ·cases h
 ·rename_i a;split at h
  ·cases h
  ·rename_i c;split at h
   ·cases h
   ·rename_i d;split at h
    ·cases h
    ·rename_i e;cases h;exact⟨j3.2 a,rfl,by simpa using c,by simpa using d,rfl,T⟩
theorem Lh(ih:¬600<aW y){F:Nat}{a:List co}(e:fh y=a)(k:go a=.inl (G,F))(l:fF (M a+1) G=.inl (K,H)):rs y G K H:=by
 obtain⟨u,c⟩:=Gu y (aW y) 0 T (bL _);have iR:=(zK c (bL _) T).2.2;have h:=Di y c (aW y+1) (bL _) T;have I:fw y (aW y+1) 0=a:=e;rw[I]at h;have d:=h.1;clear h;obtain⟨J,iU⟩:=d.BN;obtain⟨iZ,r,i0,i1,m,i2,jt,jW,j4,j9,o⟩:=CE d T;rw[k]at o;obtain⟨kp,kr,kx,k1,⟨P,f⟩,p,q,gf,s⟩:=o;obtain⟨t,k7,gg,gj,gC,g⟩:=zf J T k;have i:c9 (M a+1) G.cJ<=100000:=T;have v:=yX f p q s g t i;rw[l]at v;obtain⟨gE,_,gF,gL⟩:=v;obtain⟨x,z,A,g1,hu,hE⟩:=P5 l;obtain⟨lo,l8,B,_⟩:=zg f p q t i x;have hS:r2 (M a+1) G:=⟨T,x,B,g⟩;obtain⟨C,D,j⟩:=hS.xf;rw[<-z]at C D j;have E:=qT _ _ B;rw[<-z]at E;refine⟨⟨r,gE,?_,λme hV=>by rw[m,<-hV,e];exact d,gF,gL,⟨P,f⟩,gf,s,⟨gg,gj⟩,⟨gC,g⟩⟩,C,D,λw b=>?_,λw b=>bS (E.bX w b) i,hu,hE,z6 A,z6 g1⟩
 ·rw[m];exact c
 ·have hZ:c7 w=M (dM w).1:=by unfold c7;rw[yx,c_]
  rw[<-hZ];exact⟨Hx (j w b).1 (z6 A w b),(j w b).2.2⟩
theorem HK(h:ec y=.inl (G,K,H)):rs y G K H:=by
 obtain⟨b,e⟩:∃b,fh y=b:=⟨_,rfl⟩;have c:=zT e h;obtain⟨g,d,f⟩:=EJ c;have a:¬600<aW y:=by intro a;rw[ym e,aP a]at h;cases h
 exact Lh a e d f
theorem I_(u:List aB):∀(y:List (aB×List aB)×List aB) (a:Nat),(∀e∈y.1,M e.2<=a)/\M y.2<=a->(∀e∈(u.foldl iM y).1,M e.2<=a+M u)/\M (u.foldl iM y).2<=a+M u:=by
 induction u with
 |nil=>intro y a h;exact h
 |cons k u c=>
  intro y a h;have:=c (iM y k) (a+1) (by
   unfold iM
   split
   ·refine⟨λe b=>?_,av⟩
    rcases dm.1 b with b|b
    ·have:=h.1 e b;omega
    ·rw[dB.1 b];have:=h.2;simp only;omega
   ·refine⟨λe b=>by have:=h.1 e b;omega,?_⟩
    have:=h.2
    simp only[bV,dT,d5];omega)
  rw[hc,dT,show a+(M u+1)=a+1+M u by omega];exact this
theorem Gz{b:List eV}{c:cA}(h:sF b c k)(bs:List ByteArray):nJ (jn bs k).bB:=by
 show nJ (k.bB.map (d2 (bs++[k.name])));rcases h.bB with⟨_,e⟩|⟨a,j,_,_,d⟩
 ·rw[e];exact MH
 ·exact KG _ d (by have:=h.bX;omega)
theorem rs.Mc(h:rs y G K H)(d:w∈H){e:aB×List aB}(f:e∈(dM w).1):(∃b a,sF b a e.1)/\∀N∈e.2,∃b a,sF b a N:=by obtain⟨r,q,g⟩:=h.mb;obtain⟨I,_,i⟩:=g.cm.tB w d;obtain⟨s,_,j⟩:=i.tB e f;obtain⟨⟨a,_,k⟩,l⟩:=j;refine⟨⟨_,a,k⟩,λN m=>?_⟩;obtain⟨c,_,o,_,p⟩:=l.tB N m;exact⟨_,o,p⟩
theorem FH(w:List aB):M (er w)=M (dM w).1:=by rw[yd];simp[mK]
theorem rs.nZ(h:rs y G K H)(l:an)(m:List an):vb ⟨G.bd,G.aZ,l,H.map er,m⟩/\o2 G.aZ (cS (H.map er))=K:=by
 have a:=h.mb;obtain⟨r,A,a⟩:=a;have g:o2 G.aZ (cS (H.map er))=K:=by
  rw[h.rW];unfold o2 hR cS;rw[sj,sj];congr 1;refine sa λw b=>?_
  have B:=h.cz w b;have f:c7 w=M (dM w).1:=by unfold c7;rw[yx,c_]
  show fO G.aZ (M ((er w).map qw)-1)=n1 G.aZ (c7 w);rw[c_,FH,f];unfold n1;exact Hj a.zp.2 T
 refine⟨⟨⟨a.zP.1,a.zP.2,by have:=a.zp.2;show G.aZ<=1000;omega,?_,?_,?_⟩,?_⟩,g⟩
 ·intro k b C i;obtain⟨w,d,rfl⟩:=eG.1 b;rw[yd]at i;obtain⟨c,o,rfl⟩:=iW i;have p:c<M (dM w).1:=by simpa[mK]using o
  have j:=b4 p;obtain⟨⟨gE,D,q⟩,s⟩:=h.Mc d j;have f:(mK (dM w).1)[c]=yN (dM w).1 c (dM w).1[c]:=by simp[mK]
  rw[f];refine⟨Gz q _,λN t=>?_,?_⟩
  ·obtain⟨u,v,rfl⟩:=eG.1 t;obtain⟨E,F,x⟩:=s u v;exact Gz x _
  ·show(M (((dM w).1[c]).2.map _))<=_;rw[c_];have:=(I_ w ([],[]) 0 ⟨λe z=>by simp at z,av⟩).1 _ j;have:=h.Fv w d;omega
 ·intro k b;obtain⟨w,d,rfl⟩:=eG.1 b;rw[FH];have:=h.cz w d;omega
 ·show(M (H.map er))<=1000;have:=h.fV;rw[c_];omega
 ·show o2 G.aZ (cS (H.map er))<=4000;rw[g];exact h.b0
theorem Nu(y:ByteArray)(L:aq)(h:ec y=.inl (G,K,H)):Calls prog 15 #[.string y] L λe a=>∃b c f g,e=.returned (.tuple #[.pointer (some ⟨b,0,none⟩),O .i64 0,O .i64 0])/\Below (R L).size L a/\(∀d,c d->(R L).size<=d)/\gO c a b K 0 ⟨G.bd,G.aZ,f,H.map er,g⟩ []:=
 Nn y L h ((wd y).1 _ _ _ h)
theorem cP.o {bD b:Type}{f:bD->b->Prop}{u:List bD}{g:List b}(h:cP f u g):∀(a:Nat) (D:bD) (d:b),u[a]?=some D->g[a]?=some d->f D d:=by
 induction h with
 |cL=>intro a D d h;simp at h
 |d7 i _ j=>
  intro a D d c e;cases a with
  |zero=>simp at c e;subst c;subst e;exact i
  |succ a=>exact j a D d (by simpa using c) (by simpa using e)
theorem mw:aJ (⟨#[]⟩:ByteArray)=[]:=by kernel_rfl
theorem RB{d1 eF:List aB}(h:∀c,c<M u->(gl u c).2=0)(e:u=d1++k::eF):∀b∈k.bB,hY k d1 b=false:=by
 have a:=h (M d1) (by rw[e];simp);have d:u.getD (M d1) default=k:=by rw[e];simp[List.getD]
 have f:u.take (M d1)=d1:=by rw[e];simp
 unfold gl at a;simp only[d,f]at a;intro b g;split at a
 ·simp at a
 ·split at a
  ·rename_i j l;simp at a
  ·rename_i i;simpa using Gh.1 i b g
def Af(e:List ByteArray)(f name:ByteArray):Prop:=name.toList=[]\/name.toList=aJ f\/∃g∈e,aJ g=name.toList
theorem CP(o:u=A.flatMap λe=>e.2++[e.1])(g:∀e∈A,cW e.1=true/\∀N∈e.2,cW N=false)(h:∀d,d<M u->(gl u d).2=0){d:Nat}{e:aB×List aB}(p:A[d]?=some e)(i:k=e.1\/k∈e.2):∀f∈k.bB,Af (iQ (A.take d)) k.name f.name:=by
 obtain⟨C,D⟩:=jX.1 p;have q:A=A.take d++e::A.drop (d+1):=by rw[<-D,<-ku C,vi]
 have r:e∈A:=m1 p;have ba:∃d1 eF,u=d1++k::eF/\∀c∈d1,cW c=false\/c.name∈iQ (A.take d):=by
  have s:∀c∈(A.take d).flatMap (λe=>e.2++[e.1]),cW c=false\/c.name∈iQ (A.take d):=by
   intro c b;obtain⟨t,v,b⟩:=ky.1 b;rcases dm.1 b with b|b
   ·exact .inl ((g t (pp v)).2 c b)
   ·rw[dB.1 b];exact .inr (eG.2 ⟨t,v,rfl⟩)
  rcases i with rfl|i
  ·refine⟨(A.take d).flatMap (λe=>e.2++[e.1])++e.2,(A.drop (d+1)).flatMap (λe=>e.2++[e.1]),?_,λc b=>?_⟩
   ·rw[o]
    conv=>lhs;rw[q]
    rw[nV,ni];simp
   ·rcases dm.1 b with b|b
    ·exact s c b
    ·exact .inl ((g e r).2 c b)
  ·obtain⟨y,j,w⟩:=List.append_of_mem i;refine⟨(A.take d).flatMap (λe=>e.2++[e.1])++y,j++[e.1]++(A.drop (d+1)).flatMap (λe=>e.2++[e.1]),?_,λc b=>?_⟩
   ·rw[o]
    conv=>lhs;rw[q]
    rw[nV,ni,w];simp
   ·rcases dm.1 b with b|b
    ·exact s c b
    ·exact .inl ((g e r).2 c (by rw[w];simp[b]))
 obtain⟨d1,eF,E,F⟩:=ba;intro f G;have l:=RB h E f G;unfold hY at l;by_cases m:f.name.toList=[]
 ·exact .inl m
 ·by_cases x:f.name.toList=k.name.toList
  ·exact .inr (.inl x)
  ·have H:d1.any (lD f.name)=true:=by
    cases I:d1.any (lD f.name)with
    |true=>rfl
    |false=>rw[I]at l;simp[m,x]at l
   obtain⟨c,b,z⟩:=jf.1 H;unfold lD at z;have B:c.name.toList=f.name.toList:=by simpa using z
   rcases F c b with a|a
   ·unfold cW at a;have:c.name.toList=[]:=by simpa using a
    exact absurd (B▸this) m
   ·exact .inr (.inr ⟨c.name,a,B⟩)
theorem Ms{name:ByteArray}:∀a,(∀c,c<a->aJ (bs.getD c ⟨#[]⟩)≠name.toList)->mX name bs a=M bs-1:=by
 intro a
 induction a with
 |zero=>intro _;rfl
 |succ a b=>intro h;unfold mX;rw[aH (by simpa using h a T)];exact b λc d=>h c T
theorem IU{e:be}{name:ByteArray}:∀a,a<=M x->(∀c,c<a->ks hu (I.getD c (0,[])).1=bs.getD c ⟨#[]⟩)->(∃c,c<a/\aJ (bs.getD c ⟨#[]⟩)=name.toList)->h4 x e (mX name bs a)=ov hu I x name a:=by
 intro a
 induction a with
 |zero=>intro _ _ ⟨c,d,_⟩;omega
 |succ a h=>
  intro k f i;unfold mX ov;rw[f a T];by_cases b:aJ (bs.getD a ⟨#[]⟩)=name.toList
  ·rw[aP (by simpa using b),aP (by simpa using b)];unfold h4;rw[aP T]
  ·rw[aH (by simpa using b),aH (by simpa using b)];refine h T (λc d=>f c T) ?_;obtain⟨c,d,g⟩:=i;refine⟨c,?_,g⟩;by_cases j:c=a
   ·subst j;exact absurd g b
   ·omega
theorem Ka{e:be}{j name:ByteArray}(m:M x=M bs)(o:∀c,c<M bs->ks hu (I.getD c (0,[])).1=bs.getD c ⟨#[]⟩)(p:∀b∈bs,aJ b≠[])(q:aJ j=aJ J)(h:Af bs J name):e2 hu I x e j name=hy (bs++[J]) x e name:=by
 have i:∀c,c<M bs->(bs++[J]).getD c ⟨#[]⟩=bs.getD c ⟨#[]⟩:=λc d=>by rw[fj,fj,ms d]
 have r:(bs++[J]).getD (M bs) ⟨#[]⟩=J:=by simp[List.getD]
 unfold e2 hy ma;rw[q,show(M (bs++[J]))=M bs+1 by simp];unfold mX;rw[r];have k:∀a,¬a<M x->h4 x e a=e:=λa h=>by unfold h4;rw[aH h]
 by_cases f:aJ J=name.toList
 ·rw[aP (show(name.toList.isEmpty||name.toList==aJ J)=true by simp[f]),aP (show(aJ J==name.toList)=true by simpa using f),k _ T]
 ·rw[aH (show¬(aJ J==name.toList)=true by simpa using f)];by_cases g:name.toList=[]
  ·rw[aP (show(name.toList.isEmpty||name.toList==aJ J)=true by simp[g]),Ms,k]
   ·simp;omega
   ·intro c d l;rw[i c d,g]at l;have:bs.getD c ⟨#[]⟩∈bs:=by rw[fj,dz d];exact b4 d
    exact p _ this l
  ·rw[aH (show¬(name.toList.isEmpty||name.toList==aJ J)=true by simp[g];exactλs=>f s.symm),m];refine(IU (bs:=bs++[J]) (M bs) T (λc d=>by rw[i c d];exact o c d) ?_).symm;rcases h with a|a|⟨b,t,u⟩
   ·exact absurd a g
   ·exact absurd a.symm f
   ·obtain⟨c,d,rfl⟩:=iW t;refine⟨c,d,?_⟩;rw[i c d,fj,dz d];exact u
def cH.k1:cH->List ByteArray
 |.bp _=>[]
 |.f2 e _ _=>[e]
 |.eH _ f g=>f.k1++g.k1
theorem DH:∀{j:cH},(∀b∈j.k1,gF b=gL b)->dW gF j=dW gL j:=by
 intro j
 induction j with
 |bp b=>intro _;rfl
 |f2 b ah k=>intro h;unfold dW;rw[h b (by simp[cH.k1])]
 |eH f D d c e=>intro h;unfold dW;rw[c λb a=>h b (by simp[cH.k1,a]),e λb a=>h b (by simp[cH.k1,a])]
theorem L_:∀{j:cH},(∀b∈j.k1,gF b=gL b)->fE gF j=fE gL j:=by
 intro j
 induction j with
 |bp b=>intro _;rfl
 |f2 b ah k=>intro h;rfl
 |eH i D d f g=>
  intro h;have c:∀b∈D.k1,gF b=gL b:=λb a=>h b (by simp[cH.k1,a])
  have e:∀b∈d.k1,gF b=gL b:=λb a=>h b (by simp[cH.k1,a])
  unfold fE;rw[f c,g e,DH c,DH e]
theorem Qf{j:cH}{u:List c0}(h:fu a j u):∀b∈j.k1,∃d∈u,d.name=b:=by
 induction h with
 |bp b=>intro b c;simp[cH.k1]at c
 |f2 _ _=>intro b c;simp[cH.k1]at c;subst c;exact⟨_,dB.2 rfl,rfl⟩
 |s4 _ k=>intro b c;simp[cH.k1]at c;obtain⟨d,e,f⟩:=k b c;exact⟨d,by simp[e],f⟩
 |r9 _ _ _ g i|rq _ _ _ g i|qG _ _ _ g i=>
  intro b c;simp only[cH.k1,dm]at c;rcases c with c|c
  ·obtain⟨d,e,f⟩:=g b c;exact⟨d,by simp[e],f⟩
  ·obtain⟨d,e,f⟩:=i b c;exact⟨d,by simp[e],f⟩
noncomputable def gG (e:au) (g:Nat):Option cH:=match e.aj[g]? with
 |none=>none
 |some i=>open Classical in if h:∃l,∃f:Nat,i.bB=f/\fl e.aC f l then some h.choose else none
theorem Gq(h:ko r.aC r.aj c k):(k.bB=[]/\gG r c=none/\o3 r (gG r) c)\/∃j,fu true j k.bB/\gG r c=some j/\o3 r (gG r) c:=by
 obtain⟨f,e,m⟩:=h;rcases m.bB with⟨g,b⟩|⟨a,j,g,b,i⟩
 ·have d:gG r c=none:=by
   unfold gG;rw[e];simp only;rw[dif_neg];rintro⟨j,a,h,_⟩;omega
  exact .inl ⟨b,d,f,e,by rw[d];simp only;omega⟩
 ·have l:∃j,∃a:Nat,f.bB=a/\fl r.aC a j:=⟨j,a,g,b⟩;have d:gG r c=some j:=by unfold gG;rw[e];simp only;rw[dif_pos l];obtain⟨o,q,p⟩:=l.choose_spec;have:o=a:=T;subst this;rw[p.Az b]
  exact .inr ⟨j,i,d,f,e,by rw[d];exact⟨a,_,g,b,i⟩⟩
theorem PQ{j:cH}{u:List c0}(h:fu a j u):u≠[]:=by cases h<;>simp
theorem DE(h:ko r.aC r.aj c k){e:be}(g:M x=M bs)(i:∀c,c<M bs->ks r.aj (I.getD c (0,[])).1=bs.getD c ⟨#[]⟩)(l:∀b∈bs,aJ b≠[])(m:aJ J=k.name.toList)(o:∀d∈k.bB,Af bs k.name d.name):im r.aj (gG r) I c J x e=jZ (jn bs k) x e:=by
 have p:sE r.aj c=k.ao:=by obtain⟨w,q,s⟩:=h;unfold sE;rw[q];exact s.ao
 have t:p7 (e2 r.aj I x e J) (gG r c)=oN (k.bB.map (d2 (bs++[k.name]))) x e:=by
  rcases Gq h with⟨a,f,_⟩|⟨j,a,f,_⟩
  ·rw[a,f];rfl
  ·rw[f,Lc a (PQ a)];show fE _ j=_;refine L_ λb u=>?_
   obtain⟨d,v,rfl⟩:=Qf a b u;exact Ka g i l m (o d v)
 unfold im jZ;rw[t,p];congr 1;show((k.ao:Int)==e.ao)=decide (e.ao=(k.ao:Int));rw[nM];simp only[gT,jF];exact eq_comm
def rf:Nat->List dg->List dg->Prop
 |_,[],[]=>True
 |g,h::l,i::m=>(∀f e,M f=g->h.hn f e=i.hn f e/\h.iT f e=i.iT f e)/\rf (g+1) l m
 |_,_,_=>False
theorem Tf:∀(c b:List dg) (a:Nat),M c=M b->(∀f D d,c[f]?=some D->b[f]?=some d->∀x e,M x=a+f->D.hn x e=d.hn x e/\D.iT x e=d.iT x e)->rf a c b:=by
 intro c
 induction c with
 |nil=>intro b a g _;cases b with|nil=>trivial|cons d b=>simp at g
 |cons D c i=>
  intro b a g h;cases b with
  |nil=>simp at g
  |cons d b=>exact⟨λx e j=>h 0 D d rfl rfl x e T,i b (a+1) (by simpa using g) λf k l m o x e j=>h (f+1) k l (by simpa using m) (by simpa using o) x e T⟩
theorem zQ(h:∀x e,M x=M j->D.hn x e=d.hn x e/\D.iT x e=d.iT x e)(g:Nat):hg ad D j g↔hg ad d j g:=by
 unfold hg;constructor
 ·intro a b c f;rw[<-(h _ _ (by simp[cM])).2];exact a b c f
 ·intro a b c f;rw[(h _ _ (by simp[cM])).2];exact a b c f
theorem Kh(h:∀x e,M x=M j->D.hn x e=d.hn x e/\D.iT x e=d.iT x e):pu ad bF D j=pu ad bF d j:=by unfold pu;congr 1;funext a;rw[(h _ _ (by simp[cM])).1];congr 1;rw[nM];simp[zQ h]
theorem Td:∀(e b:List dg) (j:List Nat),rf (M j) e b->gc ad bF e j=gc ad bF b j/\ge ad bF e j=ge ad bF b j:=by
 intro e
 induction e with
 |nil=>intro b j h;cases b with|nil=>exact⟨rfl,rfl⟩|cons d b=>exact h.elim
 |cons D e i=>
  intro b j h;cases b with
  |nil=>exact h.elim
  |cons d b=>
   have g:∀c,gc ad bF e (j++[c])=gc ad bF b (j++[c])/\ge ad bF e (j++[c])=ge ad bF b (j++[c]):=λc=>i b (j++[c]) (by rw[bV];exact h.2)
   unfold gc ge;rw[Kh h.1];refine⟨?_,?_⟩
   ·congr 1
    ·by_cases f:j≠[]/\hg ad D j (M ad)
     ·rw[aP f,aP ⟨f.1,(zQ h.1 _).1 f.2⟩]
     ·rw[aH f,aH (λa=>f ⟨a.1,(zQ h.1 _).2 a.2⟩)]
    ·congr 1;funext c;exact(g c).1
   ·congr 1;funext c;exact(g c).2
theorem SO(j:cP (m4 r.aC r.aj) I (dM w).1)(gj:(dM w).2=[])(z:∀a,a<M w->(gl w a).2=0):rf 0 (I.map (is r.aj (gG r) I)) ((er w).map qw):=by
 have B:=sy w;have C:w=(dM w).1.flatMap λe=>e.2++[e.1]:=by have:=B.nF;rw[gj,jN]at this;exact this
 have m:=B.cz;rw[yd];generalize(dM w).1=A at*;refine Tf _ _ _ (by simp[mK,j.lo]) ?_;intro a D d E F x e p;rw[du]at p;rw[gq]at E F;obtain⟨o,gC,rfl⟩:=si.1 E;obtain⟨iR,q,rfl⟩:=si.1 F;unfold mK at q;rw[List.getElem?_mapIdx]at q;obtain⟨f,g,rfl⟩:=si.1 q;have s:=j.o a o f gC g;have iU:a<M A:=(jX.1 g).1;have t:M (iQ (A.take a))=a:=by simp[iQ];omega
 have G:∀c,c<M (iQ (A.take a))->ks r.aj (I.getD c (0,[])).1=(iQ (A.take a)).getD c ⟨#[]⟩:=by
  intro c H;rw[t]at H;have J:c<M I:=by rw[j.lo];omega
  obtain⟨gE,u,v⟩:=(j.o c I[c] (A[c]'T) (by simp[J]) av).1;rw[fj,dz J,fj];unfold ks iQ;rw[gq,AA H,dz (l:=A) (i:=c) T];simp only[mD,Ab];rw[u];exact v.name
 have K:∀b∈iQ (A.take a),aJ b≠[]:=by intro b gF;obtain⟨gL,g1,rfl⟩:=eG.1 gF;have:=(m gL (pp g1)).1;unfold cW at this;simpa using this
 refine⟨?_,?_⟩
 ·show im r.aj (gG r) I o.1 (ks r.aj o.1) x e=jZ (jn (iQ (A.take a)) f.1) x e;refine DE s.1 (by rw[t];exact p) G K ?_ (CP C m z g (.inl rfl));obtain⟨gE,u,v⟩:=s.1;unfold ks;rw[u];exact congrArg _ v.name
 ·show(o.2.any λN=>im r.aj (gG r) I N ⟨#[]⟩ x e)=((f.2.map (jn (iQ (A.take a)))).any λN=>jZ N x e)
  rw[Ej];have P:=s.2;have gf:∀(N:Nat) (k:aB),k∈f.2->ko r.aC r.aj N k->im r.aj (gG r) I N ⟨#[]⟩ x e=jZ (jn (iQ (A.take a)) k) x e:=by
   intro N k gg hu;refine DE hu (by rw[t];exact p) G K ?_ (CP C m z g (.inr gg));have:=(m f (m1 g)).2 k gg;unfold cW at this;have hE:k.name.toList=[]:=by simpa using this
   rw[hE];exact mw
  rw[nM,jf,jf];constructor
  ·rintro⟨N,hS,y⟩;obtain⟨k,h,hV⟩:=P.iw N hS;exact⟨k,h,by rw[Function.comp_apply,<-gf N k h hV];exact y⟩
  ·rintro⟨k,h,y⟩;obtain⟨N,hZ,ih⟩:=P.tB k h;exact⟨N,hZ,by rw[gf N k h ih];exact y⟩
theorem K3(f:cP (m4 r.aC r.aj) I A)(i:M I<=1000000)(j:∀e∈I,M e.2<=1000000):qM r (gG r) I:=by
 have g:∀c k,ko r.aC r.aj c k->o3 r (gG r) c:=λc k h=>by rcases Gq h with⟨_,_,a⟩|⟨_,_,_,a⟩<;>exact a
 refine⟨λe b=>?_,λe b N l=>?_,i,j⟩
 ·obtain⟨m,_,d⟩:=f.iw e b;exact g _ _ d.1
 ·obtain⟨m,_,d⟩:=f.iw e b;obtain⟨k,_,o⟩:=d.2.iw N l;exact g _ _ o
structure ib (dH d_:Nat) (L:aq) (he:an) (bR:List es) (n:Nat):Prop where
 ax:aL L d_ #[he,O .i64 (n:Nat)] 133
 dQ:et dH L he bR
theorem ib.i{c:aq}(h:ib E z L F B b)(e:Below (R L).size L c):ib E z c F B b:=
 ⟨h.ax.d (e.block _ h.ax.am),h.dQ.i λd f=>e.block d (by
  rcases f with a|⟨g,j,a⟩
  ·exact(h.dQ.bg.lt d a).2
  ·exact((h.dQ.fP g j).lt d a).2)⟩
theorem ib.BV(h:ib E z L F B b):ap F≠some z:=ed h.ax h.dQ.bg ak
theorem ib.Pn(h:ib E z L F B b){a:es}(c:a∈B):ap a.1≠some z:=ed h.ax (h.dQ.fP a c) ak
structure gR (dH d_:Nat) (L:aq) (he:an) (bR:List es) (aI:aq) (DI:an) (iy:List es) (OE:Nat):Prop where
 so:ib dH d_ aI DI (bR++iy) OE
 gY:bv (λN=>N=d_\/he.ownBlock=some N) L aI
 nN:∀N,DI.ownBlock=some N->he.ownBlock=some N\/L.heap.size<=N
theorem gR.l(h:ib E z L F B b):gR E z L F B L F [] b:=⟨by rw[jN];exact h,bv.l _ _,λN a=>.inl a⟩
theorem gR.hi(h:gR E z L F B gf g1 gj gE)(a:Below (R gf).size gf hE):gR E z L F B hE g1 gj gE:=
 ⟨h.so.i a,h.gY.trans (bv.bI (λN=>N=z\/ap F=some N) a) (λ_ _ e=>e),h.nN⟩
theorem gR.q{b:an}{c:List es}{f:Nat}(h:gR E z L F B gf g1 gj gE)(a:gR E z gf g1 (B++gj) hE b c f):gR E z L F B hE b (gj++c) f:=by
 have i:=h.gY.b5;refine⟨by rw[<-ke];exact a.so,h.gY.trans a.gY (λd j e=>?_),λN g=>?_⟩
 ·rcases e with e|e
  ·exact .inl e
  ·rcases h.nN d e with e|e
   ·exact .inr e
   ·omega
 ·rcases a.nN N g with e|e
  ·exact h.nN N e
  ·exact .inr T
theorem gR.ub(h:gR E z L F B gf g1 gj gE)(c:ib E z L F B b)(a:Below E gg L)(f:(R gg).size=E)(hF:E<=z):Below E gg gf:=by
 have g:=a.size;refine⟨h.gY.dR.trans a.os,h.gY.hq.trans a.tape,h.gY.ho.trans a.output,bS a.size h.gY.b5,λN d=>?_⟩;rw[h.gY.o N T (λe=>?_)]
 ·exact a.block N d
 ·rcases e with e|e
  ·omega
  ·have:=(c.dQ.bg.lt N e).1;omega
theorem gR.bg(h:gR E z L F B gf g1 gj gE)(f:ib E z L F B b){a:Nat}{g:List an}(c:aY L E 3 1 gC a g):aY gf E 3 1 gC a g:=
 cw c λN d=>h.gY.o N (c.lt N d).2 (λe=>by
  rcases e with e|e
  ·exact ed f.ax c ak (e▸d)
  ·exact i4 f.dQ.bg c ak N e d)
theorem ib.kp(h:ib E z L F B b)(x:aY L E 3 1 gC (M j) (j.map λb=>O .i64 (b:Nat)))(y:∀A∈B,∀N,ap A.1=some N->ap gC≠some N){C:Obj}{f:aq}{k:an}
 (m:b_ (ar L C) f (ap F))(r:aY f E 48 1 k (M B+1) (B.map (·.1)++[gC])):ib E z (ay f ⟨z,0,none⟩ k) k (B++[(gC,j)]) b:=by
 have s:∀d,d<(R L).size->ap F≠some d->(R f)[d]?=(R L)[d]?:=λd c D=>by rw[m.block d b7 (λe=>D e.symm),fY _ _ _ c]
 have t:aL f z #[F,O .i64 (b:Nat)] 133:=h.ax.d (s z h.ax.am h.BV);have u:∀d,d≠z->(R (ay f ⟨z,0,none⟩ k))[d]?=(R f)[d]?:=λd c=>gw _ _ _ _ c
 have v:∀(o:an) (a:Nat) (p:List an),aY L E 3 1 o a p->aY (ay f ⟨z,0,none⟩ k) E 3 1 o a p:=λo a p l=>cw l λd c=>by
  have G:d≠z:=λe=>ed h.ax l ak (e▸c)
  rw[u d G,s d (l.lt d c).2 (λe=>i4 h.dQ.bg l ak d e c)]
 refine⟨by simpa using t.j 0 k,⟨?_,λq g=>?_,?_⟩⟩
 ·rw[bV,dv];exact cw r λd c=>u d (λe=>ed t r ak (e▸c))
 ·rcases dm.1 g with g|g
  ·exact v _ _ _ (h.dQ.fP q g)
  ·rw[dB.1 g];exact v _ _ _ x
 ·rw[ut];refine⟨h.dQ.oO,A3 _ _,λq g I H N m w=>?_⟩;rw[dB.1 H]at w;exact y q g N m w
theorem ib.f9{E z:Nat}{L:aq}{F:an}{B:List es}{b:Nat}(h:ib E z L F B b)(c:Nat):ib E z (ay L ⟨z,1,none⟩ (O .i64 (c:Nat))) F B c:=by
 have g:∀d,d≠z->(R (ay L ⟨z,1,none⟩ (O .i64 (c:Nat))))[d]?=(R L)[d]?:=λd f=>gw _ _ _ _ f
 refine⟨by simpa using h.ax.j 1 (O .i64 (c:Nat)),h.dQ.i λd f=>g d (λe=>?_)⟩;subst e;rcases f with a|⟨k,j,a⟩
 ·exact h.BV a
 ·exact h.Pn j a
def ln(f:au)(g:Nat->Option cH)(e:List (Nat×List Nat))(h:List Nat):List dg:=(e.drop (M h)).map (is f.aj g e)
structure uc (pS:aq) (b3 X:Nat) (cO:eU) (e3:an) (e8:Nat) (g_:an) (qY:Nat) (ae:au) (ad:List be) (fQ:an) (cl:Nat->Option cH) (a_:List (Nat×List Nat)):Prop where
 i9:gp pS b3 X cO e3 e8 g_ qY ae ad
 cz:n9 pS fQ a_
 eJ:qM ae cl a_
 oI:0<a_.length
 iF:0<ad.length
 cE:kb ad
 h2:∀e∈ad,c1 e.aS
 bF:ae.bd<=1000000
def tY(h:aq)(C:Nat)(g:au)(i:List be)(P:an)(m:Nat->Option cH)(o:List (Nat×List Nat))(f:List Nat):Prop:=
 ∀(L:aq) (p:an) (q:Nat) (t:an) (s:List es) (l:Nat),Below (R h).size h L->(R h).size<=q->ib (R h).size q L t s l->aY L (R h).size 3 1 p (M f) (f.map λl=>O .i64 (l:Nat))->(∀hS∈s,∀N,ap hS.1=some N->ap p≠some N)->(f=[]->p=U none 0 0)->(∀hV∈f,hV<M i)->(M s)+M (ge i g.bd (ln g m o f) f)<=1000000->l+M (gc i g.bd (ln g m o f) f)<=1000000->Calls prog 99 #[.pointer (some ⟨C,0,none⟩),P,p,.pointer (some ⟨q,0,none⟩)] L λe hZ=>e=.returned (.tuple #[])/\∃ih v,gR (R h).size q L t s hZ ih v (l+M (gc i g.bd (ln g m o f) f))/\v.map (·.2)=ge i g.bd (ln g m o f) f
theorem TF{J d:Nat}{hS:eU}{hV:an}{hZ:an}{ih:Nat}{P:an}{w:Nat->Option cH}{A:List (Nat×List Nat)}(k:uc gg J d hS hV K hZ ih r ad P w A){a:List Nat}(x:M a=M A):tY gg J r ad P w A a:=by
 intro L gC z F B b gf hF g p y _ mR iR gj;have gE:ln r w A a=[]:=by unfold ln;rw[x,vm];rfl
 rw[gE]at iR gj⊢;obtain⟨iU,iZ,i0,i1,i2⟩:=dY Tryz.wB;have q:=k.i9.bI gf;have mY:=q.j7;have m5:=k.eJ.fV;obtain⟨ne,nB,rfl⟩:=k.cz.cV;have nG:=q.cr.am;have jt:=q.cr.aa 3;simp[eB]at jt;obtain⟨oa,ac,rfl⟩:=eK q.eC;obtain⟨c,jW⟩:∃c,c+1=M a:=⟨M a-1,by have:=k.oI;omega⟩;obtain⟨i,j4⟩:∃i,i+1=M ad:=⟨M ad-1,by have:=k.iF;omega⟩;obtain⟨ob,s,rfl,gF⟩:=fb.pU p;obtain⟨t,rfl,oH,gL⟩:=gF T;have oS:=gL c T;have g1:a.getLastD 0=a[c]:=by rw[l7,ws,show(M a)-1=c by omega,dz T];rfl
 have hu:Hid (ge ad r.bd [] a=if a[c]=i then [a]else []):=by
  show _=_;unfold ge;rw[g1];by_cases h:a[c]=i
  ·rw[aP T,aP h]
  ·rw[aH T,aH h]
 have hE:M (gc ad r.bd [] a)=0:=by simp[gc]
 rw[hE]at gj⊢;generalize a[c]=C at*;have o6:=g.ax.am;have j9:=g.ax.aa 0;simp at j9;have kp:=g.dQ.bg;obtain⟨l,m,rfl⟩:=eK g.dQ.bg;have pa:(M ad:Int)-1=(i:Int):=T;have py:(M a:Int)-1=(c:Int):=T;have pF:((M a:Int)==(M A:Int))=true:=by rw[x];simp
 have pR:(0:Int)<=(c:Int):=T;have pU:(c:Int)<(M a:Int):=T;have pX:=gf.size;have pZ:M B<=1000000:=T;have qp:(i:Int)<=1000000000:=T;have qt:(c:Int)<=1000000000:=T;clear gL g1 gF gE hE x jW j4;by_cases D:C=i
 ·have kr:((C:Int)==(i:Int))=true:=by rw[D];simp
  have kx:Hid (∀{j:Obj} {f:aq} {E:an},b_ (ar L j) f (ap (U l (M B) m))->aY f (R gg).size 48 1 E (M B+1) (B.map (·.1)++[U (some ⟨t,0,none⟩) (M a) s])->ib (R gg).size z (ay f ⟨z,0,none⟩ E) E (B++[(U (some ⟨t,0,none⟩) (M a) s,a)]) b):=λo k1=>g.kp p y o k1
  have k7:Hid (∀{j:Obj} {f:aq},b_ (ar L j) f (ap (U l (M B) m))->aL f z #[U l (M B) m,O .i64 (b:Nat)] 133):=λ{j f} o=>(g.ax.a j).d (o.block z b7 (λe=>g.BV e.symm))
  have lo:Hid (∀{j:Obj} {f:aq} (G:an),b_ (ar L j) f (ap (U l (M B) m))->bv (λN=>N=z\/ap (U l (M B) m)=some N) L (ay f ⟨z,0,none⟩ G)):=λ{j f} G o=>(((bv.l _ L).a j).trans (bv.dj o) (λd _ e=>.inr e)).v (.inl (.inl rfl)) G
  clear y p g;go_enter func99,ntmps99;go_wp2_with(at_builtin;refine dq _ rfl _ _ 40 rfl (R gg).size 48 iU _ 1 24 underlying40 iZ i0 i1 i2 rfl ak _ (M B) (B.map (·.1)) bf (kp.alloc _) ⟨(R L).size,0,none⟩ 1 1 [U (some ⟨t,0,none⟩) (M a) s] bf rfl (c4 (cB _ _ _ av)) ey ak cN T b7 ((R L).size+1) av ?_;intro qP qW f l8 H me ra;have I:=k7.out H;have rA:=I.b 0;have rR:=I.am;have mn:=I.aa 0;simp at mn);refine dG (v:=.tuple #[]) (by simp[results,results99,go_sem]) rfl ⟨rfl,_,[(U (some ⟨t,0,none⟩) (M a) s,a)],⟨kx.out H l8,lo.out _ H,λN u=>?_⟩,by rw[hu.out,aP D];rfl⟩;rcases me with e|e
  ·exact .inl (e.trans u)
  ·right;injection u with u;simp at e u;omega
 ·have kr:((C:Int)==(i:Int))=false:=by rw[di];omega
  have mO:=gR.l g;clear y p g;go_enter func99,ntmps99;go_wp2;refine dG (v:=.tuple #[]) (by simp[results,results99,go_sem]) rfl ⟨rfl,_,[],mO,by rw[hu.out,aH D];rfl⟩
