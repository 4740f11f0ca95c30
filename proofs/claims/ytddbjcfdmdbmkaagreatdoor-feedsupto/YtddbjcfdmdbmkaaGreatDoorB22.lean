import Derived.Test.YtddbjcfdmdbmkaaGreatDoorB21
set_option linter.all false
set_option maxRecDepth 100000
set_option maxHeartbeats 3200000
namespace Go.Proofs.YtddbjcfdmdbmkaaGreatDoor
open Go.RowKit Go.Proofs.Tryz
open Go renaming Calls->aR,Value->an,World->aq
open Go.Ending renaming returned->aM
open Go.Value renaming int->O,pointer->aD,slice->U,tuple->b2,ownBlock->ap
open _root_.Array renaming size->S
open Go.World renaming alloc->ar,cell?->aK,grownBy->b_,heap->R,ownsRow->aY,setCell->ay
open List renaming length->M
variable{L j:aq}{b3 N k c:Nat}{b:List bO}{d:bO->Int}{r u w x y q:an}
theorem Q4(a:Nat)(h:0<a):((a:Int)-1)/2=(((a-1)/2:Nat):Int):=T
theorem Jr(h:hI L b3 N k b d)(f:Nat)(z:f<M b)(I:M b<=1000000):
 aR prog 156 #[.iface 167 (aD (some ⟨b3,5,none⟩)),O .i64 f] L λe j=>e=aM (b2 #[])/\hI j b3 N k (jB d (f+1) b f) d/\b_ L j (some N):=by
 go_enter func156,ntmps156;go_wp2
 go_loopw [1] (λs wr=>∃(a ah:Nat) (c:List bO),s=O .i64 a/\a<ah/\a<M c/\M c=M b/\jB d ah c a=jB d (f+1) b f/\hI wr b3 N k c d/\b_ L wr (some N)) (λs _=>(intOf s).toNat)
 case atStart=>exact⟨f,f+1,b,rfl,T,z,rfl,rfl,h,AK _ _⟩
 case round=>
  obtain⟨a,ah,c,rfl,J,v,w,x,l,t⟩:=hrel;have m:Hid (jB d ah c a=jB d (f+1) b f):=x;have K:Hid (M c=M b):=w;have P:a<=1000000:=T;clear x h w;obtain⟨ah,rfl⟩:∃A,ah=A+1:=⟨ah-1,T⟩;have B:=l.aa;have gf:=ta B;by_cases y:a=0
  ·subst y;have C:Hid (c=jB d (f+1) b f):=by show _=_;rw[<-m.out];unfold jB;rw[aP rfl]
   go_wp2
   go_end0
   rw[<-C.out];exact⟨rfl,l,t⟩
  ·have gg:=Q4 a T
   have gj:(a-1)/2<a:=T;have p:Hid (jB d (ah+1) c a=if dl d c a<dl d c ((a-1)/2)then jB d ah (eL c ((a-1)/2) a) ((a-1)/2)else c):=by
    show _=_
    conv=>lhs;unfold jB
    rw[aH y]
   generalize(a-1)/2=g at*;have gC:((g:Int)==(a:Int))=false:=b7;have q:=l.ra a g v T;by_cases i:dl d c a<dl d c g
   ·rw[lW i]at q;have u:Hid (jB d ah (eL c g a) g=jB d (f+1) b f):=by show _=_;rw[<-m.out,p.out,aP i]
    clear i m p;go_wp2_with(first|(go_at_call 279;refine D.mono ?_;rintro e gE ⟨rfl,E,F⟩)|(go_at_call 278;refine q.mono ?_;rintro e G ⟨rfl,o⟩;have r:=l.y o;have H:=r.aa;have gF:=pM H;have D:=r.qt g a T v))
    go_roundw
    case rel=>exact⟨g,ah,eL c g a,bE,T,q_,by rw[qC];exact K.out,u.out,E,jY (jY t (nw o)) F⟩
    case measure=>simp[intOf];omega
   ·rw[kt i]at q;have u:Hid (c=jB d (f+1) b f):=by show _=_;rw[<-m.out,p.out,aH i]
    clear i m p;go_wp2_with(first|(go_at_call 278;refine q.mono ?_;rintro e G ⟨rfl,o⟩;have r:=l.y o))
    go_end0
    rw[<-u.out];exact⟨rfl,r,jY t (nw o)⟩
theorem Ie(h:hI L b3 N k b d)(G:M b<=1000000):
 aR prog 77 #[.iface 167 (aD (some ⟨b3,5,none⟩))] L λe j=>e=aM (b2 #[])/\hI j b3 N k (kD d (M b) (M b/2) b) d/\b_ L j (some N):=by
 have m:=h.aa;have u:=wX m;have v:=λL=>xP (ai:=some ⟨N,0,none⟩) (W:=M b) (aE:=k) L
 have H:(M b:Int)/2=((M b/2:Nat):Int):=T;have w:M b/2<=M b:=T;have x:Hid (kD d (M b) (M b/2) b=kD d (M b) (M b/2) b):=rfl;generalize I:M b/2=f at*;go_enter func77,ntmps77;go_wp2_with(go_at_call 277;refine(v _).mono ?_;rintro e y ⟨rfl,z⟩;rw[z])
 go_loopw [3] (λg wr=>∃(a:Nat) (c:List bO),g=O .i64 ((a:Int)-1)/\a<=M b/\M c=M b/\kD d (M b) a c=kD d (M b) f b/\hI wr b3 N k c d/\b_ L wr (some N)) (λg _=>(intOf g+1).toNat)
 case atStart=>exact⟨f,b,rfl,w,rfl,rfl,h,AK _ _⟩
 case round=>
  obtain⟨a,c,rfl,J,o,p,q,r⟩:=hrel;have s:Hid (kD d (M b) a c=kD d (M b) f b):=p;have A:Hid (M c=M b):=o;have t:M b<=M c:=T;have B:M c<=1000000:=T;clear p h u m x o;cases a with
  |zero=>
   have i:((0:Nat):Int)-1= -1:=T;have l:Hid (c=kD d (M b) f b):=by show _=_;rw[<-s.out];rfl
   rw[i];go_wp2
   go_end0
   rw[<-l.out];exact⟨rfl,q,r⟩
  |succ a=>
   have i:((a+1:Nat):Int)-1=(a:Int):=T;have l:Hid (kD d (M b) a (e_ d (M b) c a (M b))=kD d (M b) f b):=by show _=_;rw[<-s.out];rfl
   have C:=Er q a (M b) t B T;have K:(0:Int)<=(a:Int):=T;have D:Hid (M (e_ d (M b) c a (M b))=M b):=by show _=_;rw[vD d (M b) c a (M b) t];exact A.out
   rw[i];go_wp2_with(go_at_call 116;refine C.mono ?_;rintro e y ⟨⟨P,rfl⟩,E,F⟩);go_roundw
   case rel=>exact⟨a,e_ d (M b) c a (M b),bE,T,D.out,l.out,E,jY r F⟩
   case measure=>simp[intOf]
def bv(bh:Nat->Prop)(L e:aq):Prop:=ea (λa=>a<S (R L)/\¬bh a) L e
theorem bv.l(bh:Nat->Prop)(L:aq):bv bh L L:=ea.l _ L
theorem bv.b5{bh:Nat->Prop}(h:bv bh L j):S (R L)<=S (R j):=ea.b5 h
theorem bv.o{bh:Nat->Prop}(h:bv bh L j)(b:Nat)(c:b<S (R L))(d:¬bh b):(R j)[b]?=(R L)[b]?:=ea.iA h b ⟨c,d⟩
theorem bv.trans{bh d:Nat->Prop}{e:aq}(h:bv bh L j)(f:bv d j e)(g:∀b,b<S (R L)->d b->bh b):bv bh L e:=
 ea.trans h (ea.cE f λb c=>⟨cI c.1 h.b5,λi=>c.2 (g b c.1 i)⟩)
theorem bv.cE{bh th:Nat->Prop}(h:bv bh L j)(d:∀b,b<S (R L)->bh b->th b):bv th L j:=ea.cE h λb c=>⟨c.1,λe=>c.2 (d b c.1 e)⟩
theorem bv.dj{c:Option Nat}(h:b_ L j c):bv (λb=>c=some b) L j:=⟨h.os,h.tape,h.output,h.size,λb d=>h.block b d.1 (λe=>d.2 e.symm)⟩
theorem bv.bI(bh:Nat->Prop)(h:Below (S (R L)) L j):bv bh L j:=⟨h.os,h.tape,h.output,h.size,λb c=>h.block b c.1⟩
theorem bv.v{bh:Nat->Prop}(h:bv bh L j){ai:Addr}(b:bh ai.block\/S (R L)<=ai.block)(c:an):bv bh L (ay j ai c):=
 ea.v h (λd=>by rcases b with b|b;exact d.2 b;exact absurd d.1 T) c
theorem bv.a{bh:Nat->Prop}(h:bv bh L j)(b:Obj):bv bh L (ar j b):=ea.a h (λ_ c=>cI c.1 h.b5) b
theorem bv.aa{bh:Nat->Prop}(h:bv bh L j){b c:Nat}(d:b<S (R L))(e:¬bh b):aK j ⟨b,c,none⟩=aK L ⟨b,c,none⟩:=dn (h.o b d e) c
structure gd (d_:Nat->Prop) (L:aq) (b3:Nat) (uH vA uj uV uD jQ:an) (bc:List bO) (qD:bO->Int):Prop where
 ee:aL L b3 #[uH,vA,uj,uV,uD,jQ] 110
 bg:L.ownsRow 0 163 2 jQ bc.length (bC bO.h bc)
 m_:∀X,d_ X->X<L.heap.size
 mJ:¬d_ b3
 jJ:∀N,jQ.ownBlock=some N->¬d_ N
 kh:∀aQ∈bc,∃aG ai,aQ.cd=some ⟨aG,0,none⟩/\0<aQ.bP.length/\L.cell? ⟨aG,0,none⟩=some (aD (some ⟨ai,0,none⟩))/\L.cell? ⟨ai,0,none⟩=some (O .i64 (qD aQ))/\aG<L.heap.size/\ai<L.heap.size/\d_ aG/\d_ ai
 dJ:∀aQ∈bc,∃bj X aE,aQ.dJ=U bj X aE
theorem gd.gV{a:Nat->Prop}(h:gd a L b3 r u w x y q b d):∀N,ap q=some N->N≠b3:=λN c e=>ed h.ee h.bg ak (e▸c)
theorem gd.gj{f:Nat->Prop}(h:gd f L b3 r u w x y q b d):(q=U none 0 0/\b=[])\/∃N k,q=U (some ⟨N,0,none⟩) (M b) k/\hI L b3 N k b d:=by
 have g:=h.bg;rcases h.bg.2 with⟨a,i⟩|⟨N,k,D,a,_⟩
 ·exact .inl ⟨a,nx.1 i⟩
 ·refine .inr ⟨N,k,a,?_⟩;have c:ap q=some N:=by rw[a];rfl
  refine⟨h.ee.am,h.gV N c,?_,?_,λj l=>?_,h.dJ⟩
  ·rw[h.ee.aa 5];simp[a]
  ·rw[<-a];exact g
  ·obtain⟨m,o,p,s,t,v,z,A,B,C⟩:=h.kh j l
   exact⟨m,o,p,s,t,v,z,A,λe=>h.jJ N c (e▸B),λe=>h.jJ N c (e▸C)⟩
theorem gd.Bo{o:Nat->Prop}{c:List bO}(h:gd o L b3 r u w x y (U (some ⟨N,0,none⟩) (M b) k) b d)(z:hI j b3 N k c d)(f:c.Perm b)(a:b_ L j (some N)):gd o j b3 r u w x y (U (some ⟨N,0,none⟩) (M b) k) c d:=by
 have A:=h.gV N rfl;have p:=f.length_eq;refine⟨h.ee.d (a.block b3 h.ee.am (λe=>A (by simpa using e.symm))),?_,λB C=>?_,h.mJ,h.jJ,λg i=>?_,λg i=>h.dJ g (f.mem_iff.1 i)⟩
 ·have:=z.bg;rw[p]at this;rw[p];exact this
 ·exact cI (h.m_ B C) a.size
 ·obtain⟨l,m,D,E,F,G,q,s,t,v⟩:=h.kh g (f.mem_iff.1 i)
  have H:l≠N:=λe=>h.jJ N rfl (e▸t)
  have I:m≠N:=λe=>h.jJ N rfl (e▸v)
  exact⟨l,m,D,E,(dn (a.block l q (λe=>H (by simpa using e))) 0).trans F,(dn (a.block m s (λe=>I (by simpa using e))) 0).trans G,cI q a.size,cI s a.size,t,v⟩
theorem gd.BH{f:Nat->Prop}{bh:Nat->Prop}(h:∀e∈b,∃a c,e.cd=some ⟨a,0,none⟩/\0<M e.bP/\aK L ⟨a,0,none⟩=some (aD (some ⟨c,0,none⟩))/\aK L ⟨c,0,none⟩=some (O .i64 (d e))/\a<S (R L)/\c<S (R L)/\f a/\f c)(g:bv bh L j)(k:∀l,bh l->¬f l):
 ∀e∈b,∃a c,e.cd=some ⟨a,0,none⟩/\0<M e.bP/\aK j ⟨a,0,none⟩=some (aD (some ⟨c,0,none⟩))/\aK j ⟨c,0,none⟩=some (O .i64 (d e))/\a<S (R j)/\c<S (R j)/\f a/\f c:=λe r=>by
 obtain⟨a,c,s,t,u,v,m,o,p,q⟩:=h e r;exact⟨a,c,s,t,(g.aa m (λi=>k a i p)).trans u,(g.aa o (λi=>k c i q)).trans v,cI m g.b5,cI o g.b5,p,q⟩
theorem E6{ah:bO->List an}(g:∀c,M (ah c)=2)(b:List bO)(a:Nat):(bC ah b).take (a*2)=bC ah (b.take a):=by
 induction b generalizing a with
 |nil=>simp[bC]
 |cons c b h=>
  cases a with
  |zero=>simp[bC]
  |succ a=>
   have f:∀(d:bO) (e:List bO),bC ah (d::e)=ah d++bC ah e:=λd e=>by simp[bC]
   rw[f,List.take_succ_cons,f,<-h,show(a+1)*2=M (ah c)+a*2 by rw[g];omega,List.take_length_add_append]
theorem AF{b:Nat}{e:TypeId}{a cO:Nat}{d:List an}(h:aY L b e a (U (some ⟨N,0,none⟩) c k) c d)(f:cO<=c):aY L b e a (U (some ⟨N,0,none⟩) cO k) cO (d.take (cO*a)):=by
 obtain⟨g,i⟩:=h;have j:cO*a<=c*a:=qj _ f;refine⟨by rw[hT,g];omega,?_⟩;rcases i with⟨h,_⟩|⟨t,u,l,m,o,p,v,q,r,s⟩
 ·cases h
 ·cases m;refine .inr ⟨N,k,l,rfl,o,p,T,q,r,?_⟩;rw[<-s,qy,qn j]
theorem IW{i:Nat->Prop}(h:gd i L b3 r u w x y (U (some ⟨N,0,none⟩) (M b) k) b d)(hZ:0<M b)(ih:M b<=1000000):
 aR prog 282 #[aD (some ⟨b3,5,none⟩)] L λe j=>(∃gf,e=aM gf)/\gd i j b3 r u w x y (U (some ⟨N,0,none⟩) (M b-1) k) (b.take (M b-1)) d/\bv (λc=>c=b3\/c=N) L j:=by
 have F:=h.gV N rfl;obtain⟨a,iR⟩:∃a,M b=a+1:=⟨M b-1,T⟩;obtain⟨gg,iU⟩:=pg h.bg a T;obtain⟨l,m,o,G⟩:=h.dJ b[a] (b4 _);have iZ:=(h.bg.lt N rfl).2;obtain⟨f,p,H⟩:∃f,aL L N f 163/\M b*2<=S f:=by
  rcases h.bg.2 with⟨e,_⟩|⟨gj,gC,f,q,_,I,s,_,H,_⟩
  ·cases e
  ·cases q;exact⟨f,I,by rw[H];exact qj _ s⟩
 have gE:M b<=k:=by
  rcases h.bg.2 with⟨e,_⟩|⟨gj,gC,f,q,_,I,s,_⟩
  ·cases e
  ·cases q;exact s
 rw[G]at gg;generalize b[a].cd=t at*;generalize(M b[a].bP)=v at*;generalize b[a].cg=z at*;have g:=h.ee;have gF:=g.aa 5;have i0:=g.am;simp at gF;have i1:=p.b (a*2);have i2:=p.b (a*2+1);have jt:=g.b 5;have gL:=p.j (a*2) (U none 0 0);have jW:=gL.b (a*2+1);have g1:=(g.i0 ⟨N,a*2,none⟩ (U none 0 0) F).i0 ⟨N,a*2+1,none⟩ (U none 0 0) F;have J:=(g1.j 5 (U (some ⟨N,0,none⟩) a k)).a (.cells #[U l m o,U t v z] 163);simp at J;have A:bv (λc=>c=b3\/c=N) L (ar (ay (ay (ay L ⟨N,a*2,none⟩ (U none 0 0)) ⟨N,a*2+1,none⟩ (U none 0 0)) ⟨b3,5,none⟩ (U (some ⟨N,0,none⟩) a k)) (.cells #[U l m o,U t v z] 163)):=((((bv.l _ L).v (ai:=⟨N,a*2,none⟩) (.inl (.inr rfl)) _).v (ai:=⟨N,a*2+1,none⟩) (.inl (.inr rfl)) _).v (ai:=⟨b3,5,none⟩) (.inl (.inl rfl)) _).a _
 have hu:M (bC bO.h b)=M b*2:=h.bg.1;have hE:gd i (ar (ay (ay (ay L ⟨N,a*2,none⟩ (U none 0 0)) ⟨N,a*2+1,none⟩ (U none 0 0)) ⟨b3,5,none⟩ (U (some ⟨N,0,none⟩) a k)) (.cells #[U l m o,U t v z] 163)) b3 r u w x y (U (some ⟨N,0,none⟩) a k) (b.take a) d:=by
  have hS:M (b.take a)=a:=by rw[hT];omega
  refine⟨J,?_,λc B=>cI (h.m_ c B) A.b5,h.mJ,λK C=>h.jJ K (by simpa[ap]using C),?_,λD E=>h.dJ D (pp E)⟩
  ·have hV:=oj (kf:=U none 0 0) (Y:=a*2+1) (oj (kf:=U none 0 0) (Y:=a*2) h.bg T) (by rw[qJ];omega);have P:=AF (cO:=a) hV T;rw[wt T,wt T,E6 (λ_=>rfl)]at P;rw[hS];exact World.ownsRow.alloc (cw P λK C=>gw _ _ _ _ (λe=>by simp[ap]at C;simp at e;omega)) _
  ·exact gd.BH (λD E=>h.kh D (pp E)) A (λc B=>by rcases B with rfl|rfl;exact h.mJ;exact h.jJ _ rfl)
 have j4:(M b:Int)-1=(a:Int):=T;have j9:(0:Int)<=(a:Int):=T;have kp:(a:Int)<(M b:Int):=T;have kr:(a:Int)<=(k:Int):=T;rw[show(M b)-1=a by omega];clear h G hu gE;generalize b.take a=kx at*;go_enter func282,ntmps282;go_wp2;go_ret;exact⟨⟨_,rfl⟩,hE,A⟩
section
section
variable {bD:Type} [Inhabited bD] (ba:bD->Int)
theorem GP(b:List bD)(c a:Nat)(h:a<c):dl ba (b.take c) a=dl ba b a:=by unfold dl;simp[fj,List.getElem?_take,h]
theorem Qv{a:List bD}(i:c<=M a)(h:ls ba a c 0):ls ba (a.take c) (M (a.take c)) 0:=by
 have e:M (a.take c)=c:=by rw[hT];omega
 rw[e];intro d f b g;rw[GP ba a c _ T,GP ba a c _ b];exact h d f b g
def sx(a:List bD):List bD:=(e_ ba (M a-1) (eL a 0 (M a-1)) 0 (M a-1)).take (M a-1)
theorem Tc{a:List bD}(j:0<M a)(h:ls ba a (M a) 0):ls ba (sx ba a) (M (sx ba a)) 0:=by unfold sx;obtain⟨c,d⟩:∃c,M a=c+1:=⟨M a-1,T⟩;rw[d,Cc];have e:=vD ba c (eL a 0 c) 0 c q_;refine Qv ba (by rw[e,qC];omega) (CG ba c (eL a 0 c) 0 c 0 q_ (aN _) T ⟨λb f k g i=>?_,λb _ _ _ h _=>T⟩);rw[o_ ba a 0 c _ T T,o_ ba a 0 c b T T,aH T,aH i,aH T,aH T];exact h b f T g
theorem Ic{a:List bD}(j:0<M a):a.Perm (a.getD 0 default::sx ba a):=by
 unfold sx;obtain⟨c,f⟩:∃c,M a=c+1:=⟨M a-1,T⟩;rw[f,Cc];have d:c<=M (eL a 0 c):=q_;have h:=vD ba c (eL a 0 c) 0 c d;have i:=(wi ba c (eL a 0 c) 0 c d).trans (vg a 0 c T T);have g:=SJ ba c (eL a 0 c) 0 c c d (aN _);rw[BG a 0 c c T T,aP rfl]at g;rw[qC,f]at h;generalize e_ ba c (eL a 0 c) 0 c=b at*;have e:b=b.take c++[a.getD 0 default]:=by
  conv=>lhs;rw[<-vi c b]
  congr 1;have:b.drop c=[b.getD c default]:=by rw[ku T,E_ T];simp[List.getD,show c<M b by omega]
  rw[this,g]
 refine i.symm.trans ?_
 conv=>lhs;rw[e]
 exact List.perm_append_comm
theorem Qd{a:List bD}{c:bD}(h:ls ba a (M a) 0):ls ba (jB ba (M a+1) (a++[c]) (M a)) (M a+1) 0:=by
 have e:∀b,b<M a->dl ba (a++[c]) b=dl ba a b:=λb g=>by unfold dl;simp[fj,ms g]
 refine Mw ba (M a+1) (a++[c]) (M a) (M a+1) av T T ⟨λd f i j=>?_,λd f i k l=>T⟩;rw[e _ T,e d T];exact h d f T (bL _)
theorem M6(a:List bD):ls ba (kD ba (M a) (M a/2) a) (M a) 0:=
 NI ba (M a) (M a/2) a (aN _) (λb c d e=>T)
end
theorem Tryz.F2:(prog.info? 163).map (λa=>(a.zero,a.size,a.bytes))=some (some (.agg #[U none 0 0,U none 0 0]),2,48):=by kernel_rfl
theorem Rh(a b:an)(L:aq):(Instr.typeAssert (.iface 163 (.agg #[a,b])) 20 163 false).run prog L=.ok (.agg #[a,b]) L:=by kernel_rfl
attribute [local go_sem] Rh
def BZ(g:Nat->Prop)(L:aq)(h:bO->Int)(f:bO):Prop:=∃a e,f.cd=some ⟨a,0,none⟩/\0<M f.bP/\aK L ⟨a,0,none⟩=some (aD (some ⟨e,0,none⟩))/\aK L ⟨e,0,none⟩=some (O .i64 (h f))/\a<S (R L)/\e<S (R L)/\g a/\g e
theorem IG{A:Nat->Prop}(h:gd A L b3 r u w x y q b d)(i2:M b<=1000000)(a:bO)(K:BZ A L d a)(gF:∃gL c g1,a.dJ=U gL c g1):
 aR prog 283 #[aD (some ⟨b3,5,none⟩),.iface 163 a.gX] L λe j=>e=aM (b2 #[])/\∃N k,gd A j b3 r u w x y (U (some ⟨N,0,none⟩) (M b+1) k) (b++[a]) d/\bv (λc=>c=b3\/ap q=some c) L j/\(ap q=some N\/S (R L)<=N):=by
 obtain⟨hu,hE,hS,hV,hZ⟩:=dY Tryz.F2;obtain⟨jt,jW,j4,ih⟩:=dr h.bg;have B:=h.ee;have iR:=h.bg;have iU:=λC (s:ap q=some C)=>h.gV C s
 obtain⟨t,v,z,D⟩:=gF;have P:a.gX=.agg #[U t v z,U a.cd (M a.bP) a.cg]:=by unfold bO.gX;rw[D]
 have gf:bO.h a=[U t v z,U a.cd (M a.bP) a.cg]:=by unfold bO.h;rw[D]
 rw[P];have ba:∀(f i:Nat) (l:aq) (E:Obj),aY l 0 163 2 (U (some ⟨f,0,none⟩) (M b+1) i) (M b+1) (bC bO.h b++[U t v z,U a.cd (M a.bP) a.cg])->b_ (ar L E) l (ap q)->(ap q=some f\/S (R L)<=f)->aL l b3 #[r,u,w,x,y,q] 110->
  gd A (ay l ⟨b3,5,none⟩ (U (some ⟨f,0,none⟩) (M b+1) i)) b3 r u w x y (U (some ⟨f,0,none⟩) (M b+1) i) (b++[a]) d/\bv (λc=>c=b3\/ap q=some c) L (ay l ⟨b3,5,none⟩ (U (some ⟨f,0,none⟩) (M b+1) i)):=by
  intro f i l E gg iZ i0 m;have F:bv (λc=>c=b3\/ap q=some c) L (ay l ⟨b3,5,none⟩ (U (some ⟨f,0,none⟩) (M b+1) i)):=(((bv.l (λc=>c=b3\/ap q=some c) L).a E).trans (bv.dj iZ) (λc _ o=>.inr o)).v (ai:=⟨b3,5,none⟩) (.inl (.inl rfl)) _
  refine⟨⟨by simpa using m.j 5 (U (some ⟨f,0,none⟩) (M b+1) i),?_,λc o=>cI (h.m_ c o) F.b5,h.mJ,λC s=>?_,?_,λG g=>?_⟩,F⟩
  ·rw[bV,jc,gf];exact cw gg λC s=>gw _ _ _ _ (λe=>by simp at e;subst e;exact ed m gg ak s)
  ·simp[ap]at s;subst s;rcases i0 with e|e
   ·exact h.jJ _ e
   ·exactλhF=>absurd (h.m_ _ hF) T
  ·refine gd.BH (L:=L) (λG g=>?_) F (λc o=>by rcases o with rfl|o;exact h.mJ;exact h.jJ _ o);rcases dm.1 g with g|g
   ·exact h.kh G g
   ·rw[dB.1 g];exact K
  ·rcases dm.1 g with g|g
   ·exact h.dJ G g
   ·rw[dB.1 g];exact⟨_,_,_,D⟩
 generalize a.cd=H at*;generalize(M a.bP)=I at*;generalize a.cg=J at*;subst ih;have i1:=B.aa 5;have j9:=B.b 5;have kp:=B.am;simp at i1;clear h K P gf;go_enter func283,ntmps283;go_upto_region 0 with fail;go_region_law (first|(refine kc _ bf _ _ 108 bf 0 163 hu _ 2 48 underlying108 hE hS hV hZ rfl ak _ (M b) (bC bO.h b) bf (iR.alloc _) ⟨S (R L),0,none⟩ 1 1 [U t v z,U H I J] bf rfl (c4 (cB _ _ _ av)) ey ak cN T (by simp<;>omega) (S (R L)+1) av ?_;intro f i l gj p gC kr;have m:=(B.a (.cells #[U t v z,U H I J] 163)).d (p.block b3 b7 (λe=>iU b3 e.symm rfl));have u5:=m.aa 5;have kx:=m.b 5;have k1:=m.am;simp at u5))
 all_goals
  have gE:=ba f i l (.cells #[U t v z,U H I J] 163) gj ⟨p.os,p.tape,p.output,p.size,p.block⟩ (by rcases gC with e|e;exact .inl e;exact .inr T) m;clear gj p;go_wp2
  go_end0
  exact⟨rfl,f,i,gE.1,gE.2,by rcases gC with e|e;exact .inl e;exact .inr T⟩
end
structure hK (d_:Nat->Prop) (L:aq) (b3:Nat) (uH vA uj uV uD jQ:an) (bc:List bO) (qD:bO->Int):Prop extends gd d_ L b3 uH vA uj uV uD jQ bc qD where
 cq:ls qD bc bc.length 0
theorem gd.Ko{c:Nat->Prop}(h:gd c L b3 r u w x y q b d)(a:0<M b):∃N k,q=U (some ⟨N,0,none⟩) (M b) k:=by
 rcases h.gj with⟨_,e⟩|⟨N,k,e,_⟩
 ·rw[e]at a;simp at a
 ·exact⟨N,k,e⟩
theorem H6(a:aK L ⟨b3,5,none⟩=some (U none 0 0)):
 aR prog 77 #[.iface 167 (aD (some ⟨b3,5,none⟩))] L λe j=>e=aM (b2 #[])/\j=L:=by
 have f:=wX a;have b:=λL=>xP (ai:=none) (W:=0) (aE:=0) L
 go_enter func77,ntmps77;go_wp2_with(go_at_call 277;refine(b _).mono ?_;rintro e g ⟨rfl,c⟩;rw[c])
 go_loopw [3] (λd wr=>d=O .i64 (-1)/\wr=L) (λ_ _=>0)
 case atStart=>exact⟨rfl,rfl⟩
 case round=>
  obtain⟨rfl,rfl⟩:=hrel;go_wp2
  go_end0
  exact⟨rfl,rfl⟩
theorem NJ{c:Nat->Prop}(h:gd c L b3 r u w x y q b d)(l:M b<=1000000):
 aR prog 77 #[.iface 167 (aD (some ⟨b3,5,none⟩))] L λe j=>e=aM (b2 #[])/\∃f,hK c j b3 r u w x y q f d/\f.Perm b/\bv (λg=>ap q=some g) L j:=by
 rcases h.gj with⟨rfl,rfl⟩|⟨N,k,rfl,m⟩
 ·refine(H6 (b3:=b3) (L:=L) (by rw[h.ee.aa 5];simp)).mono ?_;rintro e j ⟨rfl,rfl⟩;exact⟨rfl,[],⟨h,λt v o=>by simp at o⟩,pc _,bv.l _ _⟩
 ·refine(Ie m l).mono ?_;rintro e j ⟨rfl,p,i⟩;have a:=MQ d (M b) (M b/2) b (aN _);have s:=h.Bo p a i;refine⟨rfl,_,⟨s,?_⟩,a,(bv.dj i).cE (λg _ e=>by simpa[ap]using e)⟩;rw[a.length_eq];exact M6 d b
theorem LN{m:Nat->Prop}(h:hK m L b3 r u w x y q b d)(z:0<M b)(H:M b<=1000000):
 aR prog 107 #[.iface 167 (aD (some ⟨b3,5,none⟩))] L λe j=>(∃o,e=aM o)/\∃g i,hK m j b3 r u w x y g i d/\b.Perm (b.getD 0 default::i)/\bv (λa=>a=b3\/ap q=some a) L j/\ap g=ap q:=by
 have p:=h.togd;have A:=h.cq;rcases p.gj with⟨_,e⟩|⟨N,k,rfl,s⟩
 ·rw[e]at z;simp at z
 clear h;obtain⟨c,B⟩:∃c,M b=c+1:=⟨M b-1,T⟩;have ih:=wX s.aa;have iR:=pM s.aa;have I:=λL=>xP (ai:=some ⟨N,0,none⟩) (W:=M b) (aE:=k) L
 have C:=s.qt 0 c T T;have J:∀f,hI f b3 N k (eL b 0 c) d->aR prog 116 #[.iface 167 (aD (some ⟨b3,5,none⟩)),O .i64 ((0:Nat):Int),O .i64 c] f λe j=>(∃a,e=aM (.bool a))/\hI j b3 N k (e_ d c (eL b 0 c) 0 c) d/\b_ f j (some N):=λf K=>Er K 0 c q_ q_ T
 have t:(e_ d c (eL b 0 c) 0 c).Perm b:=(wi d c (eL b 0 c) 0 c q_).trans (vg b 0 c T T);have P:∀f l,b_ L f (some N)->b_ f l (some N)->hI l b3 N k (e_ d c (eL b 0 c) 0 c) d->aR prog 282 #[aD (some ⟨b3,5,none⟩)] l λe j=>(∃o,e=aM o)/\∃g i,hK m j b3 r u w x y g i d/\b.Perm (b.getD 0 default::i)/\bv (λa=>a=b3\/ap (U (some ⟨N,0,none⟩) (M b) k)=some a) L j/\ap g=ap (U (some ⟨N,0,none⟩) (M b) k):=by
  intro f l gf gg gj;have D:=jY gf gg;have E:=p.Bo gj t D;have v:=t.length_eq;rw[<-v]at E;refine(IW E (by rw[v];omega) (by rw[v];exact H)).mono ?_;rintro e j ⟨gC,F,gE⟩;have G:sx d b=(e_ d c (eL b 0 c) 0 c).take c:=by unfold sx;rw[B,Cc]
  rw[show(M (e_ d c (eL b 0 c) 0 c))-1=c by omega]at F;refine⟨gC,_,_,⟨F,?_⟩,?_,?_,rfl⟩
  ·rw[<-G];exact Tc d T A
  ·rw[<-G];exact Ic d T
  ·exact((bv.dj D).cE (th:=λa=>a=b3\/ap (U (some ⟨N,0,none⟩) (M b) k)=some a) (λa _ e=>.inr (by simpa[ap]using e))).trans gE (λa _ e=>by rcases e with rfl|rfl;exact .inl rfl;exact .inr rfl)
 have iU:(M b:Int)-1=(c:Int):=T;clear t p A B;have gF:((0:Nat):Int)=0:=rfl;rw[gF]at C;go_enter func107,ntmps107;go_wp2_with(first|(go_at_call 282;refine(P _ _ gL g1 hu).mono ?_;rintro e iZ ⟨⟨i0,rfl⟩,hE⟩)|(go_at_call 116;refine(J _ hS).mono ?_;rintro e hV ⟨⟨i1,rfl⟩,hu,g1⟩;have i2:=JY ⟨b3,5,none⟩ hV)|(go_at_call 279;refine C.mono ?_;rintro e jt ⟨rfl,hS,gL⟩)|(go_at_call 277;refine(I _).mono ?_;rintro e jW ⟨rfl,hZ⟩;rw[hZ]))
 go_ret;exact⟨⟨_,rfl⟩,hE⟩
theorem R4{f:Nat->Prop}(h:hK f L b3 r u w x y q b d)(gE:M b<=900000)(c:bO)(t:BZ f L d c)(v:∃E a F,c.dJ=U E a F):
 aR prog 119 #[.iface 167 (aD (some ⟨b3,5,none⟩)),.iface 163 c.gX] L λe j=>e=aM (b2 #[])/\∃g i,hK f j b3 r u w x y g i d/\i.Perm (b++[c])/\bv (λa=>a=b3\/ap q=some a) L j/\∀a,ap g=some a->ap q=some a\/S (R L)<=a:=by
 have gF:=Ow ⟨b3,5,none⟩ L;have o:=IG h.togd T c t v;have G:=h.cq;have H:∀m N k,gd f m b3 r u w x y (U (some ⟨N,0,none⟩) (M b+1) k) (b++[c]) d->bv (λa=>a=b3\/ap q=some a) L m->(ap q=some N\/S (R L)<=N)->aR prog 156 #[.iface 167 (aD (some ⟨b3,5,none⟩)),O .i64 (M b)] m λe j=>e=aM (b2 #[])/\∃g i,hK f j b3 r u w x y g i d/\i.Perm (b++[c])/\bv (λa=>a=b3\/ap q=some a) L j/\∀a,ap g=some a->ap q=some a\/S (R L)<=a:=by
  intro m N k p I l;have z:M (b++[c])=M b+1:=av;rw[<-z]at p;rcases p.gj with⟨e,_⟩|⟨gL,g1,e,J⟩
  ·cases e
  ·cases e;refine(Jr J (M b) T T).mono ?_;rintro e j ⟨K,P,A⟩;have s:=KX d (M b+1) (b++[c]) (M b) T;refine⟨K,_,_,⟨p.Bo P s A,?_⟩,s,I.trans (bv.dj A) (λa B e=>?_),λa B=>?_⟩
   ·rw[s.length_eq,z];exact Qd d G
   ·have:N=a:=by simpa using e
    subst this;rcases l with l|l
    ·exact .inr l
    ·omega
   ·have:N=a:=by simpa[ap]using B
    subst this;exact l
 unfold bO.gX at o⊢;obtain⟨hu,hE,hS,gf⟩:=v;rw[gf]at o⊢;have hV:((M b+1:Nat):Int)-1=(M b:Int):=T;clear h t;generalize c.cd=hZ at*;generalize(M c.bP)=ih at*;generalize c.cg=iR at*;go_enter func119,ntmps119;go_wp2_with(first|(go_at_call 156;refine(H _ _ _ C gg gj).mono ?_;rintro e iU ⟨rfl,gC⟩)|(go_at_call 277;refine(xP _).mono ?_;rintro e iZ ⟨rfl,rfl⟩)|(go_at_call 283;refine o.mono ?_;rintro e i0 ⟨rfl,i1,i2,C,gg,gj⟩;have D:=C.ee.aa 5;simp at D;have jt:=wX D))
 go_end0
 exact⟨rfl,gC⟩
