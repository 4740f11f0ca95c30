import Derived.Test.YtddbjcfdmdbmkaaGreatDoorB10
set_option linter.all false
set_option maxRecDepth 100000
set_option maxHeartbeats 800000
namespace Go.Proofs.YtddbjcfdmdbmkaaGreatDoor
open Go.RowKit Go.Proofs.Tryz
open Go renaming Calls->aR,Value->an,World->aq
open Go.Ending renaming returned->aM
open Go.IntKind renaming i64->Q
open Go.Obj renaming cells->aw
open Go.RowKit renaming Hid->ag
open Go.Value renaming int->O,pointer->aD,slice->U,string->az,tuple->b2,ownBlock->ap
open _root_.Array renaming size->S
open _root_.ByteArray renaming toList->aJ
open Go.World renaming alloc->ar,grownBy->b_,heap->R,ownsRow->aY,setCell->ay
open List renaming length->M
variable{X W N H I b bi bh gb:Nat}{ab bl dC k:Nat->Nat}{L aI E cn o:aq}{r fD u K:lP}{a x gf:aA}{ah:aA->aA}{c dc cC G:an}{z F:List an}{d:List c0}{w:List (List aB)}{ai:aB}{y:Array an}{B:Option Nat}{D:List aB}{J:aA->aA×List aB}
theorem yb{f:Nat}{c:aA->aA}(g:jU W f c)(i:f<=1)(j:l_ X W c N)(l:∀args L,(callFunc N args).run prog L=.ok (.enter N args) L)(b:List ByteArray)(m:∀o∈b,o∈dd)(p:M b<=10)(h:bZ ab L X r a)(q:jz W a)(d:Nat)(s:d=M b):
 aR prog 239 #[aD (some ⟨X,0,none⟩),.func (.func N) #[aD (some ⟨X,0,none⟩)] #[],U (some ⟨S (R L),0,none⟩) d d] (ar L (aw (mh b) 9)) λe aI=>e=aM (b2 #[])/\hz ab L X (jS c b a) aI:=by
 obtain⟨t,v⟩:=h.ug (aw (mh b) 9);refine(S2 g i j l m p t q s (aL.bT L _ _) (cy _ _ _)).mono ?_;rintro e aI ⟨rfl,k,u,w,x⟩;exact⟨rfl,k,u,w,v.trans x⟩
theorem NA:∀args L,(callFunc 258 args).run prog L=.ok (.enter 258 args) L:=Go.Proofs.enters_of func258 (by kernel_rfl) rfl
theorem R3:∀args L,(callFunc 253 args).run prog L=.ok (.enter 253 args) L:=Go.Proofs.enters_of func253 (by kernel_rfl) rfl
theorem Lb:∀args L,(callFunc 246 args).run prog L=.ok (.enter 246 args) L:=Go.Proofs.enters_of func246 (by kernel_rfl) rfl
theorem QG:∀args L,(callFunc 240 args).run prog L=.ok (.enter 240 args) L:=Go.Proofs.enters_of func240 (by kernel_rfl) rfl
theorem Ip(d:jU W 0 ah)(f:l_ X W ah 258):l_ X W (yt ah) 253:=by
 intro ab L r a h g;have k:∀(b:Fn) (first c:Array an) (L:aq),(Instr.makeFunc b first c).run prog L=.ok (.func b first c) L:=λ_ _ _ _=>rfl
 have i:=yb d T f NA [m9,m3] bJ av h g 2 rfl;go_enter func253,ntmps253;go_wp2_with(go_at_call 239;refine i.mono ?_;rintro e aI ⟨rfl,j⟩)
 go_end0
 exact⟨rfl,j⟩
theorem Ex(b:jU W 0 ah)(f:l_ X W ah 258):l_ X W (gU ah) 248:=by
 intro ab L r a h g;have k:∀(c:Fn) (first d:Array an) (L:aq),(Instr.makeFunc c first d).run prog L=.ok (.func c first d) L:=λ_ _ _ _=>rfl
 have i:=yb (Gk b) T (Ip b f) R3 [nc,gM] bJ av h g 2 rfl;go_enter func248,ntmps248;go_wp2_with(go_at_call 239;refine i.mono ?_;rintro e aI ⟨rfl,j⟩)
 go_end0
 exact⟨rfl,j⟩
theorem Jh(f:jU W 0 ah)(l:l_ X W ah 258):l_ X W (oR ah) 246:=by
 intro ab L r a h b;have g:=vN f;have i:=Ex (X:=X) f l;have m:=g a b.bq b.b0;have d:=b.eD m;have p:=hd d.bq (bK:=gz) uQ;have c:=d.eD p;have q:=g _ c.bq c.b0;have j:=c.eD q;have s:ag (oR ah a=(gU ah ((gU ah a).bx gz)).aO ⟨(gU ah a).I gz,0,⟨#[]⟩,0⟩):=rfl;go_enter func246,ntmps246;go_wp2_with(first|(go_at_call 248;refine(i ab L r a h b).mono ?_;rintro e cn ⟨rfl,dC,fD,t,v⟩)|(go_at_call 130;refine(na t d.bq gz uQ (by simp[gz]) 6 rfl).mono ?_;rintro e o ⟨rfl,k,u,w,x⟩)|(go_at_call 248;refine(i k o u _ w c).mono ?_;rintro e E ⟨rfl,F,G,y,z⟩)|(go_at_call 245;refine(BQ y j.cF (by have:=j.dL;omega) _).mono ?_;rintro e H ⟨rfl,A,B,C,D⟩))
 go_end0
 rw[s.out];exact⟨rfl,A,B,C,((v.trans x).trans z).trans D⟩
theorem Lk(b:jU W 0 ah)(f:l_ X W ah 258):l_ X W (nW ah) 240:=by
 intro ab L r a h g;have k:∀(c:Fn) (first d:Array an) (L:aq),(Instr.makeFunc c first d).run prog L=.ok (.func c first d) L:=λ_ _ _ _=>rfl
 have i:=yb (FJ b) T (Jh b f) Lb [lT] bJ av h g 1 rfl;go_enter func240,ntmps240;go_wp2_with(go_at_call 239;refine i.mono ?_;rintro e aI ⟨rfl,j⟩)
 go_end0
 exact⟨rfl,j⟩
theorem kY(a:co)(D:ByteArray):a.bH D=(aJ a.bn==D.data.toList):=by unfold co.bH;rw[fW D]
def oY(f:Nat->Nat)(e:Nat):Nat->Nat:=aO (aO f e 8) (e+2) 8
theorem bZ.nB(h:bZ ab L X r a)(c d f:Obj):bZ (oY ab (S (R L))) (ar (ar (ar L c) d) f) X r a/\aU ab L (oY ab (S (R L))) (ar (ar (ar L c) d) f):=
 have e:∀b,b<S (R L)->oY ab (S (R L)) b=ab b:=λb g=>by unfold oY;rw[cR _ _ _ _ T,cR _ _ _ _ T]
 ⟨(((h.kx e).a c).a d).a f,⟨e,((((aU.l ab L).a c).a d).a f).db⟩⟩
theorem pN(ab:Nat->Nat)(bi:Nat):oY ab bi bi=8:=by unfold oY;rw[cR _ _ _ _ T,cy]
theorem JS(ab:Nat->Nat)(bi:Nat):oY ab bi (bi+2)=8:=cy _ _ _
def yy:Obj:=aw #[az ⟨#[]⟩,O Q 0,az ⟨#[]⟩,O Q 0] 241
theorem jz.p(h:jz (W+1) a)(b:2<=M a.a7):jz W a.p:=
 ⟨h.bq.mn b,by rw[qb];have:=h.b0;omega,by have:=Bv b;have:=h.dL;omega,h.cF,by rw[qb];have:=h.bU;show a.bU+1+_<=_;omega⟩
theorem Qa(h:bZ ab L X r a)(b:jz (W+1) a)(c:a.af.ao=2):
 aR prog 258 #[aD (some ⟨X,0,none⟩)] L λe aI=>e=aM (b2 #[])/\hz ab L X ((a.bp 0 999999999).aO ⟨pT,a.k,⟨#[]⟩,0⟩) aI:=by
 have w:((a.af.ao:Int)==2)=true:=by simp[c]
 have x:=h.ax.am;have f:=b.eD (jd b.bq 0 999999999);obtain⟨d,g⟩:=wP.1 f.cF;have i:M d<=100000:=by have j:=(a.bp 0 999999999).wz;have:=f.dL;simp only[aA.gg,g,mD]at j;omega
 clear c;go_enter func258,ntmps258;go_wp2_with(first|(go_at_call 83;refine(hw (h.a _) b.bq.a1).mono ?_;rintro e aI ⟨rfl,l,rfl⟩)|(go_at_call 131;obtain⟨m,p⟩:=h.nB yy l (aw (h0 a.af) 141);refine(r1 m b.bq 0 999999999 T T).mono ?_;rintro e cn ⟨rfl,dC,fD,q,s⟩)|(go_at_call 245;refine(xd q g i ⟨pT,a.k,⟨#[]⟩,0⟩).mono ?_;rintro e o ⟨rfl,k,u,t,v⟩))
 go_end0
 exact⟨rfl,k,u,t,(p.trans s).trans v⟩
theorem LS(l:l_ X W (dS W) 258)(h:bZ ab L X r a)(b:jz (W+1) a)(m:¬a.af.ao=2)(d:a.af.bH gM=true):
 aR prog 258 #[aD (some ⟨X,0,none⟩)] L λe aI=>e=aM (b2 #[])/\hz ab L X ((dS W a.p).J.aO ⟨nS,0,⟨#[]⟩,0⟩) aI:=by
 have F:((a.af.ao:Int)==2)=false:=by rw[di];omega
 have i:=b.bq.bH bJ d;have G:(aJ a.af.bn==[45])=true:=(kY _ _).symm.trans d;have H:=h.ax.am;have c:=b.p i;have f:=r_ W a.p c.bq c.b0;have j:=c.eD f;have p:(dS W a.p).bU=a.bU+1:=f.bU;have g:ag (1<=(dS W a.p).bU/\(dS W a.p).bU<=1000000/\a.bU<=1000000):=by have:=b.bU;exact⟨T,T,T⟩
 clear m d p f;go_enter func258,ntmps258;go_wp2_with(first|(go_at_call 83;refine(hw (h.a _) b.bq.a1).mono ?_;rintro e aI ⟨rfl,q,rfl⟩)|(go_at_call 225;obtain⟨s,t⟩:=h.nB yy q (aw (h0 a.af) 141);refine(z1 s i g.out.2.2).mono ?_;rintro e cn ⟨rfl,dC,fD,v,w⟩)|(go_at_call 258;refine(l dC cn fD _ v c).mono ?_;rintro e o ⟨rfl,k,u,x,y⟩)|(go_at_call 226;refine(Bn x g.out.1 g.out.2.1).mono ?_;rintro e I ⟨rfl,J,K,z,A⟩)|(go_at_call 245;refine(BQ z j.cF (by have:=j.dL;rw[BW];omega) nS).mono ?_;rintro e P ⟨rfl,B,C,D,E⟩))
 go_end0
 exact⟨rfl,B,C,D,(((t.trans w).trans y).trans A).trans E⟩
theorem Qz(p:l_ X W (dS W) 258)(h:bZ ab L X r a)(b:jz (W+1) a)(q:¬a.af.ao=2)(i:a.af.bH gM=false)(d:a.af.bH hk=true):
 aR prog 258 #[aD (some ⟨X,0,none⟩)] L λe aI=>e=aM (b2 #[])/\hz ab L X ((gU (dS W) a.p).bx [d9]).J aI:=by
 have I:((a.af.ao:Int)==2)=false:=by rw[di];omega
 have j:=b.bq.bH bJ d;have J:(aJ a.af.bn==[45])=false:=(kY _ _).symm.trans i;have K:(aJ a.af.bn==[40])=true:=(kY _ _).symm.trans d;have P:=h.ax.am;have c:=b.p j;have f:=vN (r_ W) a.p c.bq c.b0;have l:=c.eD f;have m:=hd l.bq (bK:=[d9]) bJ;have s:((gU (dS W) a.p).bx [d9]).bU=a.bU+1:=m.bU.trans f.bU;have g:ag (1<=((gU (dS W) a.p).bx [d9]).bU/\((gU (dS W) a.p).bx [d9]).bU<=1000000/\a.bU<=1000000):=by have:=b.bU;exact⟨T,T,T⟩
 have t:=Ex (X:=X) (r_ W) p;clear q d i s f m;go_enter func258,ntmps258;go_wp2_with(first|(go_at_call 83;refine(hw (h.a _) b.bq.a1).mono ?_;rintro e aI ⟨rfl,v,rfl⟩)|(go_at_call 225;obtain⟨w,x⟩:=h.nB yy v (aw (h0 a.af) 141);refine(z1 w j g.out.2.2).mono ?_;rintro e cn ⟨rfl,dC,fD,y,z⟩)|(go_at_call 248;refine(t dC cn fD _ y c).mono ?_;rintro e o ⟨rfl,k,u,A,B⟩)|(go_at_call 130;refine(na A l.bq [d9] bJ av 1 rfl).mono ?_;rintro e gf ⟨rfl,gg,gj,C,D⟩)|(go_at_call 226;refine(Bn C g.out.1 g.out.2.1).mono ?_;rintro e gC ⟨rfl,E,F,G,H⟩))
 go_end0
 exact⟨rfl,E,F,G,(((x.trans z).trans B).trans D).trans H⟩
theorem J4(h:bZ ab L X r a)(b:jz (W+1) a)(g:¬a.af.ao=2)(i:¬a.af.ao=3)(c:a.af.bH gM=false)(d:a.af.bH hk=false)(f:a.af.bH pb=false):
 aR prog 258 #[aD (some ⟨X,0,none⟩)] L λe aI=>e=aM (b2 #[])/\hz ab L X a.P aI:=by
 have p:((a.af.ao:Int)==2)=false:=by rw[di];omega
 have q:((a.af.ao:Int)==3)=false:=by rw[di];omega
 have s:(aJ a.af.bn==[45])=false:=(kY _ _).symm.trans c;have t:(aJ a.af.bn==[40])=false:=(kY _ _).symm.trans d;have u:(aJ a.af.bn==[105,116])=false:=(kY _ _).symm.trans f;have v:=h.ax.am;clear g i c d f;go_enter func258,ntmps258;go_wp2_with(first|(go_at_call 83;refine(hw (h.a _) b.bq.a1).mono ?_;rintro e aI ⟨rfl,j,rfl⟩)|(go_at_call 163;obtain⟨k,l⟩:=h.nB yy j (aw (h0 a.af) 141);refine(yD k b.bq.a1).mono ?_;rintro e cn ⟨rfl,dC,fD,m,o⟩))
 go_end0
 exact⟨rfl,dC,fD,m,l.trans o⟩
theorem G1(a:aA)(name:ByteArray)(b:Nat):jy a name b=((a.c.bx [g6]).bx fz).aO ⟨(a.c.bx [g6]).I fz,0,name,b⟩:=by unfold jy;rfl
theorem tq(L:aq)(y:Array an)(a:TypeId)(b c:Obj):aL (ar (ar (ar L (aw y a)) b) c) (S (R L)) y a:=((aL.bT L y a).a b).a c
def s9(name:ByteArray)(e:Nat):Array an:=#[az ⟨#[]⟩,O Q 0,az name,O Q e]
theorem Nk(h:bZ ab L X r a)(b:jz (W+1) a)(H:¬a.af.ao=2)(I:¬a.af.ao=3)(s:a.af.bH gM=false)(t:a.af.bH hk=false)(g:a.af.bH pb=true):
 aR prog 258 #[aD (some ⟨X,0,none⟩)] L λe aI=>e=aM (b2 #[])/\hz ab L X (jy a ⟨#[]⟩ 0) aI:=by
 have iZ:((a.af.ao:Int)==2)=false:=by rw[di];omega
 have i0:((a.af.ao:Int)==3)=false:=by rw[di];omega
 have i1:(aJ a.af.bn==[45])=false:=(kY _ _).symm.trans s;have i2:(aJ a.af.bn==[40])=false:=(kY _ _).symm.trans t;have jt:(aJ a.af.bn==[105,116])=true:=(kY _ _).symm.trans g;have jW:=h.ax.am;have v:=b.bq.bH bJ g;have i:=b.eD (iu b.bq v);have j:=i.eD (hd i.bq (bK:=[g6]) bJ);have w:=j.eD (hd j.bq (bK:=fz) rG);obtain⟨d,x⟩:=wP.1 w.cF;have J:M d<=100000:=by have K:=((a.c.bx [g6]).bx fz).wz;have:=w.dL;simp only[aA.gg,x,mD]at K;omega
 have P:ag (jy a ⟨#[]⟩ 0=((a.c.bx [g6]).bx fz).aO ⟨(a.c.bx [g6]).I fz,0,⟨#[]⟩,0⟩):=G1 _ _ _;obtain⟨y,z⟩:∃y,ag (jy a ⟨#[]⟩ 0=y):=⟨_,rfl⟩;rw[z.out];obtain⟨l,A⟩:∃c,ag ((a.c.bx [g6]).I fz=c):=⟨_,rfl⟩;clear H I s t g;go_enter func258,ntmps258;go_wp2_with(first|(go_at_call 83;refine(hw (h.a _) b.bq.a1).mono ?_;rintro e aI ⟨rfl,B,rfl⟩)|(go_at_call 164;obtain⟨gf,gg⟩:=h.nB (aw (s9 ⟨#[]⟩ 0) 241) B (aw (h0 a.af) 141);refine(og gf v).mono ?_;rintro e cn ⟨rfl,gj,C⟩;have D:=C.z (X:=S (R L)) (pN ab (S (R L))) (tq L (s9 ⟨#[]⟩ 0) 241 B (aw (h0 a.af) 141)))|(go_at_call 130;refine(na gC j.bq fz rG (by simp[fz]) 4 rfl).mono ?_;rintro e j4 ⟨rfl,j9,kp,gE,m⟩;rw[A.out];have E:=(p.ci _ D.am).trans F;have q:=m.z E G;have gF:=(m.ci _ G.am).trans E;have gL:=q.aa 0;have kr:=q.b 0;have g1:=gE.A (ai:=⟨S (R L),0,none⟩) gF (az l);have f:=q.j 0 (az l);have hu:=f.aa 0;have hE:=f.aa 1;have hS:=f.aa 2;have hV:=f.aa 3;simp[s9]at gL hu hE hS hV)|(go_at_call 130;refine(na gj i.bq [g6] bJ av 1 rfl).mono ?_;rintro e o ⟨rfl,k,u,gC,p⟩;have F:=pN ab (S (R L));have G:=p.z F D)|(go_at_call 245;refine(xd g1 x J ⟨l,0,⟨#[]⟩,0⟩).mono ?_;rintro e kx ⟨rfl,hZ,ih,iR,iU⟩))
 go_end0
 rw[<-z.out,P.out,A.out];exact⟨rfl,hZ,ih,iR,((((gg.trans C).trans p).trans m).D (ai:=⟨S (R L),0,none⟩) (aN _) _).trans iU⟩
theorem Re(h:bZ ab L X r a)(b:jz (W+1) a)(H:¬a.af.ao=2)(q:a.af.ao=3)(s:a.af.bH gM=false)(t:a.af.bH hk=false):
 aR prog 258 #[aD (some ⟨X,0,none⟩)] L λe aI=>e=aM (b2 #[])/\hz ab L X (jy a a.af.bn a.af.aX) aI:=by
 have iU:((a.af.ao:Int)==2)=false:=by rw[di];omega
 have iZ:((a.af.ao:Int)==3)=true:=by simp[q]
 have i0:(aJ a.af.bn==[45])=false:=(kY _ _).symm.trans s;have i1:(aJ a.af.bn==[40])=false:=(kY _ _).symm.trans t;have i2:=h.ax.am;have v:=b.bq.f9 (by show 2<=a.af.ao;omega);have g:=b.eD (iu b.bq v);have i:=g.eD (hd g.bq (bK:=[g6]) bJ);have w:=i.eD (hd i.bq (bK:=fz) rG);obtain⟨d,x⟩:=wP.1 w.cF;have I:M d<=100000:=by have J:=((a.c.bx [g6]).bx fz).wz;have:=w.dL;simp only[aA.gg,x,mD]at J;omega
 have K:ag (jy a a.af.bn a.af.aX=((a.c.bx [g6]).bx fz).aO ⟨(a.c.bx [g6]).I fz,0,a.af.bn,a.af.aX⟩):=G1 _ _ _;obtain⟨y,z⟩:∃y,ag (jy a a.af.bn a.af.aX=y):=⟨_,rfl⟩;rw[z.out];obtain⟨j,A⟩:∃c,ag ((a.c.bx [g6]).I fz=c):=⟨_,rfl⟩;clear H q s t;go_enter func258,ntmps258;go_wp2_with(first|(go_at_call 83;refine(hw (h.a _) b.bq.a1).mono ?_;rintro e aI ⟨rfl,B,rfl⟩))
 go_region
 go_wp2_with(first|(go_at_call 164;obtain⟨P,gf⟩:=h.nB (aw (s9 a.af.bn a.af.aX) 241) B (aw (h0 a.af) 141);refine(og P.e v).mono ?_;rintro e cn ⟨rfl,gg,C⟩;have D:=C.z (X:=S (R L)) (pN ab (S (R L))) (tq L (s9 a.af.bn a.af.aX) 241 B (aw (h0 a.af) 141)).e)|(go_at_call 130;refine(na gj i.bq fz rG (by simp[fz]) 4 rfl).mono ?_;rintro e jt ⟨rfl,jW,j4,gC,l⟩;rw[A.out];have E:=(m.ci _ D.am).trans F;have p:=l.z E G;have gE:=(l.ci _ G.am).trans E;have gF:=p.aa 0;have j9:=p.b 0;have gL:=gC.A (ai:=⟨S (R L),0,none⟩) gE (az j);have f:=p.j 0 (az j);have g1:=f.aa 0;have hu:=f.aa 1;have hE:=f.aa 2;have hS:=f.aa 3;simp[s9]at gF g1 hu hE hS)|(go_at_call 130;refine(na gg g.bq [g6] bJ av 1 rfl).mono ?_;rintro e o ⟨rfl,k,u,gj,m⟩;have F:=pN ab (S (R L));have G:=m.z F D)|(go_at_call 245;refine(xd gL x I ⟨j,0,a.af.bn,a.af.aX⟩).mono ?_;rintro e kp ⟨rfl,hV,hZ,ih,iR⟩))
 go_end0
 rw[<-z.out,K.out,A.out];exact⟨rfl,hV,hZ,ih,((((gf.e.trans C).trans m).trans l).D (ai:=⟨S (R L),0,none⟩) (aN _) _).trans iR⟩
theorem Ot(X:Nat):∀W,l_ X W (dS W) 258:=by
 intro W
 induction W with
 |zero=>intro ab L r a h d;have:=d.bq.a1;have:=d.b0;omega
 |succ W j=>
  intro ab L r a h d;by_cases b:a.af.ao=2
  ·have e:dS (W+1) a=(a.bp 0 999999999).aO ⟨pT,a.k,⟨#[]⟩,0⟩:=by rw[dS,aP b]
   rw[e];exact Qa h d b
  cases c:a.af.bH gM with
  |true=>
   have e:dS (W+1) a=(dS W a.p).J.aO ⟨nS,0,⟨#[]⟩,0⟩:=by rw[dS,aH b,aP c]
   rw[e];exact LS j h d b c
  |false=>
  cases f:a.af.bH hk with
  |true=>
   have e:dS (W+1) a=((gU (dS W) a.p).bx [d9]).J:=by rw[dS,aH b,aH (by simp[c]),aP f]
   rw[e];exact Qz j h d b c f
  |false=>
  by_cases g:a.af.ao=3
  ·have e:dS (W+1) a=jy a a.af.bn a.af.aX:=by rw[dS,aH b,aH (by simp[c]),aH (by simp[f]),aP g]
   rw[e];exact Re h d b g c f
  cases i:a.af.bH pb with
  |true=>
   have e:dS (W+1) a=jy a ⟨#[]⟩ 0:=by rw[dS,aH b,aH (by simp[c]),aH (by simp[f]),aH g,aP i]
   rw[e];exact Nk h d b g c f i
  |false=>
   have e:dS (W+1) a=a.P:=by rw[dS,aH b,aH (by simp[c]),aH (by simp[f]),aH g,aH (by simp[i])]
   rw[e];exact J4 h d b g c f i
def hb(g:Nat->Nat)(L:aq)(e:an)(f:List c0):Prop:=aY L 0 241 4 e (M f) (bC c0.h f)/\∀N,ap e=some N->g N=7
theorem s3{e:TypeId}(h:aY L H e I c W z)(a:∀N,ap c=some N->ab N=7)(b:aU ab L bl aI):
 (aY aI) H e I c W z/\∀N,ap c=some N->bl N=7:=by
 refine⟨?_,λN d=>(b.ci N (h.lt N d).2).trans (a N d)⟩;refine⟨h.1,?_⟩;rcases h.2 with g|⟨N,i,j,rfl,k,f,rest⟩
 ·exact .inl g
 ·refine .inr ⟨N,i,j,rfl,k,?_,rest⟩;have l:N<S (R L):=(i7.1 f).1;rw[b.db.iA N ⟨l,by rw[a N rfl];decide⟩];exact f
theorem hb.bo(h:hb ab L c d)(a:aU ab L bl aI):hb bl aI c d:=s3 h.1 h.2 a
def oh(e:Nat->Nat):Nat->Nat:=λf=>if e f=2 then 3 else e f
theorem RG(ab:Nat->Nat)(b:Nat):oh ab b≠2:=by unfold oh;split<;>omega
theorem Bj{w:Nat}(h:ab b=w)(a:w≠2):oh ab b=w:=by unfold oh;rw[aH T,h]
theorem Ik{w:Nat}(h:oh ab b=w)(a:4<=w):ab b=w:=by unfold oh at h;split at h<;>omega
def rk(g f:Nat->Nat)(h:Nat):Nat->Nat:=λe=>if e<h then g e else if f e=2 then 7 else f e
theorem aU.rk(d:aU (oh ab) E dC aI)(f:S (R L)=S (R E))(c:ea (λb=>b<S (R L)/\7<=ab b) L E):aU ab L (Go.Proofs.YtddbjcfdmdbmkaaGreatDoor.rk ab dC (S (R L))) aI:=by refine⟨λb c=>by unfold Go.Proofs.YtddbjcfdmdbmkaaGreatDoor.rk;rw[aP c],c.trans (d.db.cE λb h=>⟨T,?_⟩)⟩;unfold oh;split<;>omega
structure hN (n:Nat) (V:aA):Prop where
 bq:dw V.a7
 b0:V.a7.length<=n
 bU:V.bU+V.a7.length<=2000
theorem hN.eD{W:Nat}{a x:aA}(h:hN W a)(b:iP a x):hN W x:=⟨b.bq,bS b.b0 h.b0,by have:=b.b0;have:=b.bU;have:=h.bU;omega⟩
def DW(h:Nat->Nat)(L:aq)(i:Nat)(g:aA)(j:an)(e:aq):Prop:=∃f l,bZ f e i l g.hS/\aU h L f e/\hb f e j g.gg
theorem CF(g:S (R L)=S (R E))(i:X<S (R L))(j:ab X=1)(k:ea (λb=>b<S (R L)/\7<=ab b) L E)
 (h:bZ dC aI X fD x)(a:aU (oh ab) E dC aI)(c:x.cU=some d):DW ab L X x fD.f1 aI:=by
 obtain⟨l,m⟩:=h.cF d c;refine⟨rk ab dC (S (R L)),fD,⟨h.ax,by unfold rk;rw[aP i];exact j,h.aT,?_,h.b1,λd e=>by cases e⟩,a.rk g k,?_⟩
 ·unfold rk;split
  ·rename_i o;have:=a.ci fD.dF T;rw[h.fG]at this;exact Ik this.symm ak
  ·rw[h.fG];rfl
 ·have e:x.gg=d:=by unfold aA.gg;rw[c];rfl
  rw[e];refine⟨l,λN p=>?_⟩;have f:=m N p;unfold rk;rw[aH (λo=>by have:=a.ci N T;rw[f]at this;exact RG ab N this.symm),aP f]
theorem Bi(h:bZ ab L X r a)(f:hN W a):
 aR prog 224 #[aD (some ⟨X,0,none⟩)] L λe aI=>∃c,e=aM c/\DW ab L X (el W a) c aI:=by
 have P:∀(w:Fn) (first x:Array an) (L:aq),(Instr.makeFunc w first x).run prog L=.ok (.func w first x) L:=λ_ _ _ _=>rfl
 have D:=h.aa 6;simp[fN]at D;have gf:=h.ax.b 6;have y:=h.ax.am;have s:bZ (oh ab) (ay L ⟨X,6,none⟩ (U none 0 0)) X {r with f1:=U none 0 0} {a with cU:=some []}:=by have E:bZ (oh ab) L X r a.hS:=⟨h.ax,Bj h.dN ak,h.aT,Bj h.fG ak,h.b1,λd e=>by cases e⟩;refine E.gE 6 _ (by simp[fN,aA.hS]) h.aT (Bj h.fG ak) h.b1 ?_;intro d e;cases e;exact⟨eE _ _ _ _,λN F=>by simp[ap]at F⟩
 have p:ag (S (R L)=S (R (ay L ⟨X,6,none⟩ (U none 0 0)))):=by show _=_;simp[ay]
 have z:ag (ea (λb=>b<S (R L)/\7<=ab b) L (ay L ⟨X,6,none⟩ (U none 0 0))):=(ea.l _ L).v (ai:=⟨X,6,none⟩) (λG=>by have:=h.dN;have:=G.2;simp only at this;omega) _;have A:ag (ab X=1):=h.dN;have B:ag ((el W a).cU.isSome=true):=(rP f.bq f.b0).2;cases g:a.m [kd]with
 |false=>
  have q:ag (el W a={a with cU:=some []}):=by show _=_;unfold el;rw[aH (by simp[g])]
  have i:ag (({a with cU:=some []}:aA).dE [kd]={a with cU:=some []}/\({a with cU:=some []}:aA).m [kd]=false):=by have:({a with cU:=some []}:aA).m [kd]=false:=g;exact⟨by unfold aA.dE;rw[aH (by simp[this])],this⟩
  have l:=q5 s f.bq [kd] bJ av 1 rfl;rw[i.out.1,i.out.2,<-p.out]at l;clear g h;go_enter func224,ntmps224;go_wp2_with(go_at_call 168;refine l.mono ?_;rintro e cn ⟨rfl,dC,fD,j,t⟩;have v:=j.aa 6;simp[fN]at v);go_ret;rw[q.out];exact⟨_,rfl,CF p.out y A.out z.out j t rfl⟩
 |true=>
  have H:=f.bq.m (bK:=[kd]) bJ g;have q:ag (el W a=jS (nW (dS W)) [iI] {a.c with cU:=some []}):=by show _=_;unfold el;rw[aP g]
  have i:ag (({a with cU:=some []}:aA).dE [kd]={a.c with cU:=some []}/\({a with cU:=some []}:aA).m [kd]=true):=by have:({a with cU:=some []}:aA).m [kd]=true:=g;exact⟨by unfold aA.dE;rw[aP this];rfl,this⟩
  have I:jz W {a.c with cU:=some []}:=by
   have gg:=f.bU;have gj:=f.b0;have m:M ({a.c with cU:=some []}:aA).a7=M a.a7-1:=hm a;refine⟨f.bq.mn H,T,?_,rfl,?_⟩
   ·unfold aA.dL;rw[m];show 0+_<=_;omega
   ·rw[m];show a.bU+_<=_;omega
  have l:=q5 s f.bq [kd] bJ av 1 rfl;rw[i.out.1,i.out.2,<-p.out]at l;have J:=λdC cn fD (j:bZ dC cn X fD {a.c with cU:=some []})=>yb (zw (r_ W)) T (Lk (r_ W) (Ot X W)) QG [iI] bJ av j I 1 rfl
  obtain⟨d,m⟩:=wP.1 B.out;rw[q.out]at m⊢;generalize jS (nW (dS W)) [iI] {a.c with cU:=some []}=gC at*;clear g h s i q B;go_enter func224,ntmps224;go_wp2_with(first|(go_at_call 168;refine l.mono ?_;rintro e cn ⟨rfl,dC,fD,j,t⟩)|(go_at_call 239;refine(J dC cn fD j).mono ?_;rintro e o ⟨rfl,k,u,C,K⟩;have v:=C.aa 6;simp[fN]at v))
  go_ret;exact⟨_,rfl,CF p.out y A.out z.out C (t.trans K) m⟩
def e5(e:aB×(an×an)):List an:=[az e.1.name,O Q e.1.aX,O Q e.1.bG,O Q e.1.ao,e.2.1,e.2.2]
def eu(e:aB)(f g:an):an:=.agg #[az e.name,O Q e.aX,O Q e.bG,O Q e.ao,f,g]
def nt(i:Nat->Nat)(L:aq)(j:an->List aB->Prop)(f:an)(e:List (List aB)):Prop:=
 (e=[]/\f=U none 0 0)\/(e≠[]/\∃g:List an,M g=M e/\aY L 0 99 1 f (M e) g/\(∀N,ap f=some N->i N=7)/\∀h∈e.zip g,j h.2 h.1)
def d3(e:Nat->Nat)(L:aq):Nat->an->List aB->Prop
 |0,_,_=>False
 |j+1,i,f=>∃h:List (an×an),M h=M f/\aY L 0 189 6 i (M f) (bC e5 (f.zip h))/\(∀N,ap i=some N->e N=7)/\∀g∈f.zip h,hb e L g.2.1 g.1.bB/\nt e L (d3 e L j) g.2.2 g.1.cv
def gH(e:Nat->Nat)(L:aq)(g:Nat)(f:aB)(h i:an):Prop:=hb e L h f.bB/\nt e L (d3 e L g) i f.cv
theorem nt.bo{a b:an->List aB->Prop}(e:∀c d,a c d->b c d)(h:nt ab L a c w)(f:aU ab L bl aI):nt bl aI b c w:=by
 rcases h with h|⟨g,F,i,j,k,l⟩
 ·exact .inl h
 ·obtain⟨m,o⟩:=s3 j k f;exact .inr ⟨g,F,i,m,o,λp q=>e _ _ (l p q)⟩
theorem d3.bo(a:aU ab L bl aI):∀W c d,d3 ab L W c d->d3 bl aI W c d:=by
 intro W
 induction W with
 |zero=>intro c d h;exact h
 |succ W f=>rintro c d ⟨z,g,i,j,b⟩;obtain⟨k,l⟩:=s3 i j a;exact⟨z,g,k,l,λai e=>⟨(b ai e).1.bo a,(b ai e).2.bo f a⟩⟩
theorem gH.bo(h:gH ab L W ai dc cC)(a:aU ab L bl aI):gH bl aI W ai dc cC:=
 ⟨h.1.bo a,h.2.bo (d3.bo a W) a⟩
def mN(j:Nat->Nat)(L:aq)(l m:Nat)(e:aA×aB)(p:an)(f:aq):Prop:=∃g q h i,bZ g f l q e.1/\aU j L g f/\p=eu e.2 h i/\gH g f m e.2 h i
theorem dr{e:TypeId}(h:aY L H e I c W z):∃ai d w,c=U ai d w:=by
 rcases h.2 with⟨rfl,_⟩|⟨N,a,b,rfl,_⟩
 ·exact⟨_,_,_,rfl⟩
 ·exact⟨_,_,_,rfl⟩
def f7:Array an:=#[az ⟨#[]⟩,O Q 0,O Q 0,O Q 0,U none 0 0,U none 0 0]
def mI(name:ByteArray)(e f g:Nat)(h:an):Array an:=#[az name,O Q e,O Q f,O Q g,h,U none 0 0]
structure ri (ab:Nat->Nat) (L:aq) (bi bh:Nat) (A6:Array an):Prop where
 df:aL L bi f7 189
 ai:aL L bh A6 189
 ly:ab bi=8
 cj:ab bh=8
theorem ri.bo(h:ri ab L bi bh y)(e:aU ab L bl aI):ri bl aI bi bh y:=
 ⟨e.z h.ly h.df,e.z h.cj h.ai,(e.ci _ h.df.am).trans h.ly,(e.ci _ h.ai.am).trans h.cj⟩
theorem ri.j(h:ri ab L bi bh y)(a:bi≠bh)(b:Nat)(c:an):ri ab (ay L ⟨bh,b,none⟩ c) bi bh (y.setIfInBounds b c):=
 ⟨h.df.i0 _ c (λe=>a e.symm),h.ai.j b c,h.ly,h.cj⟩
theorem aL.hZ(h:aL L bi f7 189)(c f g i k l:an):
 aL (ay (ay (ay (ay (ay (ay L ⟨bi,0,none⟩ c) ⟨bi,1,none⟩ f) ⟨bi,2,none⟩ g) ⟨bi,3,none⟩ i) ⟨bi,4,none⟩ k) ⟨bi,5,none⟩ l) bi #[c,f,g,i,k,l] 189:=by
 have:=(((((h.j 0 c).j 1 f).j 2 g).j 3 i).j 4 k).j 5 l;simpa[f7]using this
theorem bZ.hZ(h:bZ ab L X r a)(b:ab bi=8)(c d f g i j:an):bZ ab (ay (ay (ay (ay (ay (ay L ⟨bi,0,none⟩ c) ⟨bi,1,none⟩ d) ⟨bi,2,none⟩ f) ⟨bi,3,none⟩ g) ⟨bi,4,none⟩ i) ⟨bi,5,none⟩ j) X r a:=
 (((((h.A (ai:=⟨bi,0,none⟩) b c).A (ai:=⟨bi,1,none⟩) b d).A (ai:=⟨bi,2,none⟩) b f).A (ai:=⟨bi,3,none⟩) b g).A (ai:=⟨bi,4,none⟩) b i).A (ai:=⟨bi,5,none⟩) b j
theorem aU.hZ(h:aU ab L bl aI)(b:S (R L)<=bi)(c d f g i j:an):aU ab L bl (ay (ay (ay (ay (ay (ay aI ⟨bi,0,none⟩ c) ⟨bi,1,none⟩ d) ⟨bi,2,none⟩ f) ⟨bi,3,none⟩ g) ⟨bi,4,none⟩ i) ⟨bi,5,none⟩ j):=
 (((((h.D (ai:=⟨bi,0,none⟩) b c).D (ai:=⟨bi,1,none⟩) b d).D (ai:=⟨bi,2,none⟩) b f).D (ai:=⟨bi,3,none⟩) b g).D (ai:=⟨bi,4,none⟩) b i).D (ai:=⟨bi,5,none⟩) b j
theorem aU.A{ai:Addr}(c:an)(d:ab ai.block=8):aU (λb=>if ab b=8 then 1 else ab b) L (λb=>if ab b=8 then 1 else ab b) (ay L ai c):=
 (aU.l _ L).v (ai:=ai) (by simp[d]) c
theorem hb.A(h:hb ab L c d){ai:Addr}(e:ab ai.block=8)(a:an):hb ab (ay L ai a) c d:=by have f:hb (λb=>if ab b=8 then 1 else ab b) L c d:=⟨h.1,λN g=>by simp[h.2 N g]⟩;exact⟨(f.bo (aU.A a e)).1,h.2⟩
theorem hb.hZ(h:hb ab L c d)(a:ab bi=8)(b e f g i j:an):hb ab (ay (ay (ay (ay (ay (ay L ⟨bi,0,none⟩ b) ⟨bi,1,none⟩ e) ⟨bi,2,none⟩ f) ⟨bi,3,none⟩ g) ⟨bi,4,none⟩ i) ⟨bi,5,none⟩ j) c d:=
 (((((h.A (ai:=⟨bi,0,none⟩) a b).A (ai:=⟨bi,1,none⟩) a e).A (ai:=⟨bi,2,none⟩) a f).A (ai:=⟨bi,3,none⟩) a g).A (ai:=⟨bi,4,none⟩) a i).A (ai:=⟨bi,5,none⟩) a j
def s0(f:Nat->Nat)(e:Nat):Nat->Nat:=aO (aO (aO f e 8) (e+2) 8) (e+1+1+1) 8
theorem G7(L:aq)(ai:Addr)(c:an):S (R (ay L ai c))=S (R L):=by simp[ay]
theorem bZ.DM(h:bZ ab L X r a)(c d:Obj)(y:Array an):bZ (s0 ab (S (R L))) (ar (ar (ar (ar L (aw f7 189)) c) d) (aw y 189)) X r a/\aU ab L (s0 ab (S (R L))) (ar (ar (ar (ar L (aw f7 189)) c) d) (aw y 189))/\ri (s0 ab (S (R L))) (ar (ar (ar (ar L (aw f7 189)) c) d) (aw y 189)) (S (R L)) (S (R L)+1+1+1) y:=
 have e:∀b,b<S (R L)->s0 ab (S (R L)) b=ab b:=λb f=>by unfold s0;rw[cR _ _ _ _ T,cR _ _ _ _ T,cR _ _ _ _ T]
 ⟨((((h.kx e).a _).a c).a d).a _,⟨e,(((((aU.l ab L).a _).a c).a d).a _).db⟩,⟨(((aL.bT L f7 189).a c).a d).a _,cB _ _ _ av,by unfold s0;rw[cR _ _ _ _ T,cR _ _ _ _ T,cy],cy _ _ _⟩⟩
theorem K6(h:bZ ab L X r a)(p:hN (W+1) a)(gj:a.af.ao=3)(w:((a.c.bx [dp]).bp 0 99).m [hX]=false):
 aR prog 200 #[aD (some ⟨X,0,none⟩)] L λe aI=>∃c,e=aM c/\mN ab L X b (gS W a) c aI:=by
 have nG:=h.ax.am;have z:=p.bq.f9 (by show 2<=a.af.ao;omega);have x:=iu p.bq z;have q:=hd x.bq (bK:=[dp]) bJ;have s:=jd q.bq 0 99;have gC:hN W ((a.c.bx [dp]).bp 0 99):=by have fo:=hm a;have dt:=q.b0;have oa:=s.b0;have ob:=p.b0;have oH:=p.bU;have oS:=s.bU.trans (q.bU.trans x.bU);exact⟨s.bq,T,T⟩
 have A:ag (gS W a=((el W ((a.c.bx [dp]).bp 0 99)).hS,.fA a.af.bn a.af.aX 1 (a.c.bx [dp]).k (el W ((a.c.bx [dp]).bp 0 99)).gg [])):=by show _=_;unfold gS;simp only[w,rc,lh]
 have gE:ag (((a.c.bx [dp]).bp 0 99).dE [hX]=(a.c.bx [dp]).bp 0 99):=by show _=_;unfold aA.dE;rw[aH (by simp[w])]
 rw[A.out];have gF:=λk o u (y:bZ k o X u (a.c.bx [dp]))=>r1 y q.bq 0 99 T T
 generalize(a.c.bx [dp]).k=j at*;clear A gj;go_enter func200,ntmps200;go_wp2_with(first|(go_at_call 83;refine(hw (h.a _) p.bq.a1).mono ?_;rintro e aI ⟨rfl,gL,rfl⟩)|(go_at_call 164;obtain⟨g1,hu,hE⟩:=h.DM gL (aw (h0 a.af) 141) (mI a.af.bn a.af.aX 1 0 (U none 0 0));refine(og g1 z).mono ?_;rintro e cn ⟨rfl,hS,B⟩;have hV:=hE.bo B)|(go_at_call 130;refine(na hS x.bq [dp] bJ av 1 rfl).mono ?_;rintro e o ⟨rfl,k,u,y,C⟩;have hZ:=hV.bo C)|(go_at_call 131;refine(gF k o u y).mono ?_;rintro e o6 ⟨rfl,pa,py,ih,D⟩;have t:=hZ.bo D;have iR:=t.ai.aa 3;have pF:=t.ai.b 3;simp[mI]at iR)|(go_at_call 168;have iU:=ih.A (ai:=⟨S (R L)+1+1+1,3,none⟩) t.cj (O Q j);have iZ:=t.j T 3 (O Q j);have E:=q5 iU s.bq [hX] bJ av 1 rfl;rw[G7,gE.out,w]at E;refine E.mono ?_;rintro e pR ⟨rfl,pU,pX,i0,F⟩;have i1:=iZ.bo F)|(go_at_call 224;refine(Bi i0 gC).mono ?_;rintro e pZ ⟨dc,rfl,i2,jt,jW,G,H⟩;obtain⟨f,g,i,rfl⟩:=dr H.1;have l:=i1.bo G;have j4:=l.ai.aa 4;have qp:=l.ai.b 4;simp[mI]at j4;have d:=l.j T 4 (U f g i);have j9:=d.ai.aa 0;have kp:=d.ai.aa 1;have kr:=d.ai.aa 2;have kx:=d.ai.aa 3;have k1:=d.ai.aa 4;have k7:=d.ai.aa 5;have lo:=d.df.aa 0;have l8:=d.df.aa 1;have me:=d.df.aa 2;have mn:=d.df.aa 3;have mO:=d.df.aa 4;have mR:=d.df.aa 5;have qt:=d.df.b 0;have qP:=d.df.b 1;have qW:=d.df.b 2;have ra:=d.df.b 3;have rA:=d.df.b 4;have rR:=d.df.b 5;simp[mI,f7]at j9 kp kr kx k1 k7 lo l8 me mn mO mR))
 have mY:=((((hu.trans B).trans C).trans D).D (ai:=⟨S (R L)+1+1+1,3,none⟩) (by show(S (R L))<=S (R L)+1+1+1;omega) (O Q j)).trans (F.trans G);have m5:=(mY.D (ai:=⟨S (R L)+1+1+1,4,none⟩) (by show(S (R L))<=S (R L)+1+1+1;omega) (U f g i)).hZ (bi:=S (R L)) (aN _) (az a.af.bn) (O Q a.af.aX) (O Q 1) (O Q j) (U f g i) (U none 0 0);have ne:=(jW.A (ai:=⟨S (R L)+1+1+1,4,none⟩) l.cj (U f g i)).hZ (bi:=S (R L)) l.ly (az a.af.bn) (O Q a.af.aX) (O Q 1) (O Q j) (U f g i) (U none 0 0);have nB:=(H.A (ai:=⟨S (R L)+1+1+1,4,none⟩) l.cj (U f g i)).hZ (bi:=S (R L)) l.ly (az a.af.bn) (O Q a.af.aX) (O Q 1) (O Q j) (U f g i) (U none 0 0);have m:=d.df.hZ (az a.af.bn) (O Q a.af.aX) (O Q 1) (O Q j) (U f g i) (U none 0 0);have I:=m.aa 0;have J:=m.aa 1;have K:=m.aa 2;have P:=m.aa 3;have gf:=m.aa 4;have gg:=m.aa 5;simp at I J K P gf gg;exact dG (v:=eu (.fA a.af.bn a.af.aX 1 j (el W ((a.c.bx [dp]).bp 0 99)).gg []) (U f g i) (U none 0 0)) (by simp[results,results200,go_sem,I,J,K,P,gf,gg,eu,aB.name,aB.aX,aB.bG,aB.ao]) rfl
  ⟨_,rfl,i2,jt,_,_,ne,m5,rfl,nB,.inl ⟨rfl,rfl⟩⟩
theorem KS(h:bZ ab L X r a)(s:hN (W+1) a)(hV:a.af.ao=3)(t:((a.c.bx [dp]).bp 0 99).m [hX]=true):
 aR prog 200 #[aD (some ⟨X,0,none⟩)] L λe aI=>∃c,e=aM c/\mN ab L X b (gS W a) c aI:=by
 have qP:=h.ax.am;have H:=s.bq.f9 (by show 2<=a.af.ao;omega);have z:=iu s.bq H;have w:=hd z.bq (bK:=[dp]) bJ;have p:=jd w.bq 0 99;have hZ:hN W ((a.c.bx [dp]).bp 0 99):=by have fo:=hm a;have dt:=w.b0;have qW:=p.b0;have ra:=s.b0;have rA:=s.bU;have rR:=p.bU.trans (w.bU.trans z.bU);exact⟨p.bq,T,T⟩
 have ih:=p.bq.m (bK:=[hX]) bJ t;have A:=iu p.bq ih;have iR:=jd A.bq 1 4;have iU:hN W (((a.c.bx [dp]).bp 0 99).c.bp 1 4):=hZ.eD (A.trans iR).k7;have I:ag (gS W a=((el W (((a.c.bx [dp]).bp 0 99).c.bp 1 4)).hS,.fA a.af.bn a.af.aX ((a.c.bx [dp]).bp 0 99).c.k (a.c.bx [dp]).k (el W (((a.c.bx [dp]).bp 0 99).c.bp 1 4)).gg [])):=by show _=_;unfold gS;simp only[t,iC]
 have iZ:ag (((a.c.bx [dp]).bp 0 99).dE [hX]=((a.c.bx [dp]).bp 0 99).c):=by show _=_;unfold aA.dE;rw[aP t]
 rw[I.out];have i0:=λk o u (B:bZ k o X u (a.c.bx [dp]))=>r1 B w.bq 0 99 T T
 have i1:=λC D E (F:bZ C D X E ((a.c.bx [dp]).bp 0 99).c)=>r1 F A.bq 1 4 T T
 generalize(a.c.bx [dp]).k=j at*;generalize((a.c.bx [dp]).bp 0 99).c.k=l at*;clear I hV;go_enter func200,ntmps200;go_wp2_with(first|(go_at_call 83;refine(hw (h.a _) s.bq.a1).mono ?_;rintro e aI ⟨rfl,i2,rfl⟩)|(go_at_call 164;obtain⟨jt,jW,j4⟩:=h.DM i2 (aw (h0 a.af) 141) (mI a.af.bn a.af.aX 1 0 (U none 0 0));refine(og jt H).mono ?_;rintro e cn ⟨rfl,j9,J⟩;have kp:=j4.bo J)|(go_at_call 130;refine(na j9 z.bq [dp] bJ av 1 rfl).mono ?_;rintro e o ⟨rfl,k,u,B,K⟩;have kr:=kp.bo K)|(go_at_call 131;refine(i1 C D E F).mono ?_;rintro e sY ⟨rfl,tB,tI,kx,P⟩;have x:=k1.bo P;have k7:=x.ai.aa 2;have t8:=x.ai.b 2;simp[mI]at k7;have lo:=kx.A (ai:=⟨S (R L)+1+1+1,2,none⟩) x.cj (O Q l);have l8:=x.j T 2 (O Q l))|(go_at_call 131;refine(i0 k o u B).mono ?_;rintro e ub ⟨rfl,ug,uY,me,gf⟩;have y:=kr.bo gf;have mn:=y.ai.aa 3;have vE:=y.ai.b 3;simp[mI]at mn)|(go_at_call 168;have mO:=me.A (ai:=⟨S (R L)+1+1+1,3,none⟩) y.cj (O Q j);have mR:=y.j T 3 (O Q j);have gg:=q5 mO p.bq [hX] bJ av 1 rfl;rw[G7,iZ.out,t]at gg;refine gg.mono ?_;rintro e D ⟨rfl,C,E,F,gj⟩;have k1:=mR.bo gj)|(go_at_call 224;refine(Bi lo iU).mono ?_;rintro e wz ⟨dc,rfl,mY,m5,ne,gC,gE⟩;obtain⟨f,g,i,rfl⟩:=dr gE.1;have m:=l8.bo gC;have nB:=m.ai.aa 4;have wB:=m.ai.b 4;simp[mI]at nB;have d:=m.j T 4 (U f g i);have nG:=d.ai.aa 0;have oa:=d.ai.aa 1;have ob:=d.ai.aa 2;have oH:=d.ai.aa 3;have oS:=d.ai.aa 4;have o6:=d.ai.aa 5;have pa:=d.df.aa 0;have py:=d.df.aa 1;have pF:=d.df.aa 2;have pR:=d.df.aa 3;have pU:=d.df.aa 4;have pX:=d.df.aa 5;have xf:=d.df.b 0;have xk:=d.df.b 1;have xr:=d.df.b 2;have ys:=d.df.b 3;have yC:=d.df.b 4;have y2:=d.df.b 5;simp[mI,f7]at nG oa ob oH oS o6 pa py pF pR pU pX))
 have G:=((((jW.trans J).trans K).trans gf).D (ai:=⟨S (R L)+1+1+1,3,none⟩) (by show(S (R L))<=S (R L)+1+1+1;omega) (O Q j)).trans gj;have G:=((G.trans P).D (ai:=⟨S (R L)+1+1+1,2,none⟩) (by show(S (R L))<=S (R L)+1+1+1;omega) (O Q l)).trans gC;have pZ:=(G.D (ai:=⟨S (R L)+1+1+1,4,none⟩) (by show(S (R L))<=S (R L)+1+1+1;omega) (U f g i)).hZ (bi:=S (R L)) (aN _) (az a.af.bn) (O Q a.af.aX) (O Q l) (O Q j) (U f g i) (U none 0 0);have qp:=(ne.A (ai:=⟨S (R L)+1+1+1,4,none⟩) m.cj (U f g i)).hZ (bi:=S (R L)) m.ly (az a.af.bn) (O Q a.af.aX) (O Q l) (O Q j) (U f g i) (U none 0 0);have qt:=(gE.A (ai:=⟨S (R L)+1+1+1,4,none⟩) m.cj (U f g i)).hZ (bi:=S (R L)) m.ly (az a.af.bn) (O Q a.af.aX) (O Q l) (O Q j) (U f g i) (U none 0 0);have q:=d.df.hZ (az a.af.bn) (O Q a.af.aX) (O Q l) (O Q j) (U f g i) (U none 0 0);have gF:=q.aa 0;have gL:=q.aa 1;have g1:=q.aa 2;have hu:=q.aa 3;have hE:=q.aa 4;have hS:=q.aa 5;simp at gF gL g1 hu hE hS;exact dG (v:=eu (.fA a.af.bn a.af.aX l j (el W (((a.c.bx [dp]).bp 0 99).c.bp 1 4)).gg []) (U f g i) (U none 0 0)) (by simp[results,results200,go_sem,gF,gL,g1,hu,hE,hS,eu,aB.name,aB.aX,aB.bG,aB.ao]) rfl
  ⟨_,rfl,mY,m5,_,_,qp,pZ,rfl,qt,.inl ⟨rfl,rfl⟩⟩
theorem bZ.K8(h:bZ ab L X r a)(b:Obj)(y:Array an):bZ (oY ab (S (R L))) (ar (ar (ar L (aw f7 189)) b) (aw y 189)) X r a/\aU ab L (oY ab (S (R L))) (ar (ar (ar L (aw f7 189)) b) (aw y 189))/\ri (oY ab (S (R L))) (ar (ar (ar L (aw f7 189)) b) (aw y 189)) (S (R L)) (S (R L)+1+1) y:=
 have c:=h.nB (aw f7 189) b (aw y 189)
 ⟨c.1,c.2,⟨((aL.bT L f7 189).a b).a _,cB _ _ _ av,pN _ _,JS _ _⟩⟩
theorem Ru(h:bZ ab L X r a)(p:hN (W+1) a)(w:a.af.bH kK=true):
 aR prog 201 #[aD (some ⟨X,0,none⟩)] L λe aI=>∃c,e=aM c/\mN ab L X b (iE W a) c aI:=by
 have l8:=h.ax.am;have x:=p.bq.bH bJ w;have s:=iu p.bq x;have t:=jd s.bq 0 99;have J:hN W (a.c.bp 0 99):=by have fo:=hm a;have me:=t.b0;have mn:=p.b0;have mO:=p.bU;have mR:=t.bU.trans s.bU;exact⟨t.bq,T,T⟩
 have mY:=Bz;have y:ag (iE W a=((el W (a.c.bp 0 99)).hS,.fA ⟨#[]⟩ a.af.aX 0 a.c.k (el W (a.c.bp 0 99)).gg [])):=by show _=_;unfold iE;rfl
 rw[y.out];have K:=λk o u (P:bZ k o X u a.c)=>r1 P s.bq 0 99 T T
 generalize a.c.k=j at*;clear y w;go_enter func201,ntmps201;go_wp2_with(first|(go_at_call 83;refine(hw (h.a _) p.bq.a1).mono ?_;rintro e aI ⟨rfl,gf,rfl⟩)|(go_at_call 164;obtain⟨gg,gj,gC⟩:=h.K8 gf (mI ⟨#[]⟩ a.af.aX 0 0 (U none 0 0));refine(og gg x).mono ?_;rintro e cn ⟨rfl,gE,z⟩;have gF:=gC.bo z)|(go_at_call 131;refine(K _ cn _ gE).mono ?_;rintro e m5 ⟨rfl,ne,nB,gL,A⟩;have q:=gF.bo A;have g1:=q.ai.aa 3;have nG:=q.ai.b 3;simp[mI]at g1;have hu:=gL.A (ai:=⟨S (R L)+1+1,3,none⟩) q.cj (O Q j);have hE:=q.j T 3 (O Q j))|(go_at_call 224;refine(Bi hu J).mono ?_;rintro e oa ⟨dc,rfl,hS,hV,hZ,B,C⟩;obtain⟨f,g,i,rfl⟩:=dr C.1;have l:=hE.bo B;have ih:=l.ai.aa 4;have ob:=l.ai.b 4;simp[mI]at ih;have d:=l.j T 4 (U f g i);have iR:=d.ai.aa 0;have iU:=d.ai.aa 1;have iZ:=d.ai.aa 2;have i0:=d.ai.aa 3;have i1:=d.ai.aa 4;have i2:=d.ai.aa 5;have jt:=d.df.aa 0;have jW:=d.df.aa 1;have j4:=d.df.aa 2;have j9:=d.df.aa 3;have kp:=d.df.aa 4;have kr:=d.df.aa 5;have oH:=d.df.b 0;have oS:=d.df.b 1;have o6:=d.df.b 2;have pa:=d.df.b 3;have py:=d.df.b 4;have pF:=d.df.b 5;simp[mI,f7]at iR iU iZ i0 i1 i2 jt jW j4 j9 kp kr))
 have kx:=(((gj.trans z).trans A).D (ai:=⟨S (R L)+1+1,3,none⟩) (by show(S (R L))<=S (R L)+1+1;omega) (O Q j)).trans B;have k1:=(kx.D (ai:=⟨S (R L)+1+1,4,none⟩) (by show(S (R L))<=S (R L)+1+1;omega) (U f g i)).hZ (bi:=S (R L)) (aN _) (az ⟨#[]⟩) (O Q a.af.aX) (O Q 0) (O Q j) (U f g i) (U none 0 0);have k7:=(hZ.A (ai:=⟨S (R L)+1+1,4,none⟩) l.cj (U f g i)).hZ (bi:=S (R L)) l.ly (az ⟨#[]⟩) (O Q a.af.aX) (O Q 0) (O Q j) (U f g i) (U none 0 0);have lo:=(C.A (ai:=⟨S (R L)+1+1,4,none⟩) l.cj (U f g i)).hZ (bi:=S (R L)) l.ly (az ⟨#[]⟩) (O Q a.af.aX) (O Q 0) (O Q j) (U f g i) (U none 0 0);have m:=d.df.hZ (az ⟨#[]⟩) (O Q a.af.aX) (O Q 0) (O Q j) (U f g i) (U none 0 0);have D:=m.aa 0;have E:=m.aa 1;have F:=m.aa 2;have G:=m.aa 3;have H:=m.aa 4;have I:=m.aa 5;simp at D E F G H I;exact dG (v:=eu (.fA ⟨#[]⟩ a.af.aX 0 j (el W (a.c.bp 0 99)).gg []) (U f g i) (U none 0 0)) (by simp[results,results201,go_sem,D,E,F,G,H,I,eu,aB.name,aB.aX,aB.bG,aB.ao]) rfl
  ⟨_,rfl,hS,hV,_,_,k7,k1,rfl,lo,.inl ⟨rfl,rfl⟩⟩
theorem uF{e:TypeId}(h:aY L H e I c W z)(b:∀N,ap c=some N->7<=ab N)(d:aU ab L bl aI):aY aI H e I c W z:=by
 refine⟨h.1,?_⟩;rcases h.2 with f|⟨N,g,i,rfl,j,a,rest⟩
 ·exact .inl f
 ·refine .inr ⟨N,g,i,rfl,j,?_,rest⟩;have k:N<S (R L):=(i7.1 a).1;rw[d.db.iA N ⟨k,b N rfl⟩];exact a
theorem hb.cG(e:∀b,b<S (R L)->ab b=7->bl b=7)(h:hb ab L c d):hb bl L c d:=⟨h.1,λN a=>e N (h.1.lt N a).2 (h.2 N a)⟩
theorem nt.cG{a e:an->List aB->Prop}(i:∀c d,a c d->e c d)(j:∀b,b<S (R L)->ab b=7->bl b=7)(h:nt ab L a c w):nt bl L e c w:=by
 rcases h with h|⟨k,F,l,f,m,o⟩
 ·exact .inl h
 ·exact .inr ⟨k,F,l,f,λN g=>j N (f.lt N g).2 (m N g),λp q=>i _ _ (o p q)⟩
theorem d3.cG(a:∀b,b<S (R L)->ab b=7->bl b=7):∀W c d,d3 ab L W c d->d3 bl L W c d:=by
 intro W
 induction W with
 |zero=>intro c d h;exact h
 |succ W j=>rintro c d ⟨z,k,e,l,f⟩;exact⟨z,k,e,λN g=>a N (e.lt N g).2 (l N g),λai i=>⟨(f ai i).1.cG a,(f ai i).2.cG j a⟩⟩
theorem gH.cG(a:∀b,b<S (R L)->ab b=7->bl b=7)(h:gH ab L W ai dc cC):gH bl L W ai dc cC:=⟨h.1.cG a,h.2.cG (d3.cG a W) a⟩
def kA(e:Nat->Nat):Nat->Nat:=λf=>if e f=8 then 1 else e f
theorem ul(a:b_ L aI B)(d:∀b,B=some b->ab b=8)(g:∀b,b<S (R L)->ab b≠8->bl b=ab b):aU (kA ab) L (λb=>if b<S (R L)then kA ab b else bl b) aI:=
 ⟨λb c=>by simp only[c,iC],⟨a.os,a.tape,a.output,a.size,λb c=>a.block b c.1 (λe=>by have:=d b e.symm;have f:=c.2;simp only[kA,this,iC]at f;omega)⟩⟩
theorem xy(d:b_ L aI B)(f:∀b,B=some b->ab b=8)(c:∀b,b<S (R L)->ab b≠8->bl b=ab b)(h:gH ab L W ai dc cC):gH bl aI W ai dc cC:=by
 have g:gH (kA ab) L W ai dc cC:=h.cG (λb _ e=>by simp[kA,e]);have i:=g.bo (ul d f c);refine i.cG (λb _ e=>?_);by_cases a:b<S (R L)
 ·simp only[a,iC]at e;unfold kA at e;split at e
  ·omega
  ·rename_i j;rw[c b a j];exact e
 ·simp only[a,lh]at e;exact e
theorem bZ.mY(h:bZ ab L X r a)(f:b_ L cn B)(c:∀b,B=some b->ab b=8)(g:B=some N\/N=S (R L)):bZ (aO ab N 8) cn X r a:=by
 have j:B≠some r.dF:=λe=>by have:=c _ e;rw[h.fG]at this;cases this
 refine⟨h.f3 f c ak,(nz 8 c g X h.ax.am).trans h.dN,h.aT.d (f.block _ h.aT.am (λe=>j e.symm)) f.size,(nz 8 c g _ h.aT.am).trans h.fG,h.b1,λd i=>?_⟩;exact fH (N:=N) 2 8 (h.cF d i).1 (h.cF d i).2 f c ak g
theorem aU.mY{f:Nat->Nat}(h:aU f E ab L)(c:b_ L cn B)(g:∀b,B=some b->S (R E)<=b)(i:B=some N\/N=S (R L)):aU f E (aO ab N 8) cn:=by
 have j:S (R E)<=N:=by
  rcases i with e|e
  ·exact g N e
  ·have:=h.b5;omega
 exact⟨λb d=>by rw[cR _ _ _ _ T];exact h.ci b d,h.db.trans ⟨c.os,c.tape,c.output,c.size,λb d=>c.block b (cI d.1 h.b5) (λe=>by have:=g b e.symm;have:=d.1;omega)⟩⟩
theorem bZ.mR(w:Nat)(h:bZ ab L X r a)(c:ab N=8):bZ (aO ab N w) L X r a:=
 ⟨h.ax,by rw[cR _ _ _ _ (λe=>by have:=h.dN;rw[e,c]at this;cases this)];exact h.dN,h.aT,by rw[cR _ _ _ _ (λe=>by have:=h.fG;rw[e,c]at this;cases this)];exact h.fG,h.b1,λd f=>⟨(h.cF d f).1,λb g=>by rw[cR _ _ _ _ (λe=>by have:=(h.cF d f).2 b g;rw[e,c]at this;cases this)];exact(h.cF d f).2 b g⟩⟩
def FP(f j l:Nat)(m:aA->aA×aB):Prop:=∀(h:Nat->Nat) (L:aq) (p:lP) (g:aA),bZ h L f p g->hN j g->aR prog 167 #[aD (some ⟨f,0,none⟩)] L λe q=>∃i,e=aM i/\mN h L f l (m g) i q
def Gm(h:Nat->Nat)(L:aq)(i j:Nat)(g:aA×List aB)(l:an)(e:aq):Prop:=∃f m,bZ f e i m g.1/\aU h L f e/\d3 f e j l g.2
def GJ(f j l:Nat)(m:aA->aA×List aB):Prop:=∀(h:Nat->Nat) (L:aq) (p:lP) (g:aA),bZ h L f p g->hN j g->aR prog 132 #[aD (some ⟨f,0,none⟩)] L λe q=>∃i,e=aM i/\Gm h L f l (m g) i q
structure O9 (ep:aA->aA×aB) (n gb:Nat) (ew:aA×List aB) (ab:Nat->Nat) (L:aq) (X Y:Nat) (a6:an) (bl:Nat->Nat) (j1:lP) (bW:aA) (Z:List aB) (bR:List (an×an)) (wr:aq):Prop where
 aV:bZ bl wr X j1 bW
 bo:aU ab L bl wr
 nF:ag (gn ep Y bW Z=ew)
 HB:bW.a7.length<=Y
 Md:hN n bW
 bX:bR.length=Z.length
 rW:Z.length+bW.a7.length<=3000
 bg:wr.ownsRow 0 189 6 a6 Z.length (bC e5 (Z.zip bR))
 cG:∀N,a6.ownBlock=some N->bl N=8/\L.heap.size<=N
 nb:∀ai∈Z.zip bR,gH bl wr gb ai.1 ai.2.1 ai.2.2
def Ff(e:aA->aA×aB)(f g:Nat)(h:aA×List aB)(i:Nat->Nat)(L:aq)(j l:Nat)(m:an)(wr:aq):Prop:=∃p q s t v,O9 e f g h i L j l m p q s t v wr
theorem Pz{c:aA->aA×aB}{d:List aB}(h:a.m [kg]=false):gn c b a d=(a,d):=by
 cases b with
 |zero=>rfl
 |succ b=>rw[gn,aH (by simp[h])]
theorem OI{c:aA->aA×aB}{d:List aB}(h:a.m [kg]=true):gn c (b+1) a d=gn c b (c a.c).1 (d++[(c a.c).2]):=by rw[gn,aP h]
theorem Tryz.uY:(prog.info? 189).map (λa=>(a.zero,a.size,a.bytes))=some (some (.agg #[az ⟨#[]⟩,O Q 0,O Q 0,O Q 0,U none 0 0,U none 0 0]),6,88):=by kernel_rfl
theorem nt.cV{a:an->List aB->Prop}(h:nt ab L a c w):∃ai d b,c=U ai d b:=by
 rcases h with⟨_,rfl⟩|⟨_,_,_,h,_⟩
 ·exact⟨_,_,_,rfl⟩
 ·exact dr h
theorem Oo{ep:aA->aA×aB}(k:mf W ep)(c:hN W a)(l:bZ dC cn X fD (ep a).1)(d:aU ab L dC cn)(m:gH dC cn gb (ep a).2 dc cC){f:aA×List aB}(o:ag (km ep a=f)):
 Ff ep W gb f ab L X (M (ep a).1.a7) (U (some ⟨S (R cn),0,none⟩) 1 1) (ar cn (aw #[az (ep a).2.name,O Q (ep a).2.aX,O Q (ep a).2.bG,O Q (ep a).2.ao,dc,cC] 189)):=by
 have g:=c.eD (k a c.bq c.b0);have h:∀b,b<S (R cn)->aO dC (S (R cn)) 8 b=dC b:=λb i=>cR _ _ _ _ T
 refine⟨aO dC (S (R cn)) 8,fD,(ep a).1,[(ep a).2],[(dc,cC)],(l.kx h).a _,d.o6 _ 8,o,aN _,g,rfl,by have:=g.bU;show 1+_<=_;omega,?_,?_,?_⟩
 ·refine⟨rfl,.inr ⟨S (R cn),1,_,rfl,bL _,mW cn _,aN _,rL,rfl,rfl⟩⟩
 ·intro N e;cases e;exact⟨cy _ _ _,d.b5⟩
 ·intro ai j;simp only[tM,B5,dB]at j;subst j;exact xy (fv cn _ none) (λb e=>by cases e) (λb i _=>h b i) m
theorem x6{bD b:Type}(d:List bD)(a:List b)(c:bD)(e:b)(h:M a=M d):(d++[c]).zip (a++[e])=d.zip a++[(c,e)]:=by rw[sn h.symm];rfl
theorem va{d:List aB}{z:List (an×an)}(g:bZ k o X u x)(f:aU ab L k o)(i:M z=M d)
 (j:aY o 0 189 6 c (M d) (bC e5 (d.zip z)))(q:∀N,ap c=some N->k N=8/\S (R L)<=N)(l:∀ai∈d.zip z,gH k o W ai.1 ai.2.1 ai.2.2):Gm ab L X (W+1) (x,d) c o:=by
 cases cC:ap c with
 |none=>exact⟨k,u,g,f,z,i,j,λN m=>(by rw[cC]at m;cases m),l⟩
 |some N=>obtain⟨p,s⟩:=q N cC;refine⟨aO k N 7,u,g.mR 7 p,⟨λb a=>by rw[cR _ _ _ _ T];exact f.ci b a,f.db⟩,z,i,j,λb a=>by rw[cC]at a;cases a;exact cy _ _ _,λai r=>?_⟩;refine(l ai r).cG (λb _ e=>?_);rw[cR _ _ _ _ (λh=>by rw[h,p]at e;cases e)];exact e
theorem Ca{g:aA->aA×aB}(gj:mf W g)(D:FP X W gb g):GJ X W (gb+1) (km g):=by
 intro ab L r a h gC;obtain⟨t,gE⟩:∃t,ag (km g a=t):=⟨_,rfl⟩;rw[gE.out];have gF:=λcn dC fD dc cC E F k7=>Oo (ep:=g) (W:=W) (gb:=gb) gj (ab:=ab) (L:=L) (X:=X) gC (cn:=cn) (dC:=dC) (fD:=fD) (dc:=dc) (cC:=cC) E F k7 gE
 have iR:=D ab L r a h gC;obtain⟨gL,iU⟩:∃gL,ag (M (g a).1.a7=gL):=⟨_,rfl⟩;rw[iU.out]at gF;obtain⟨lo,l8,me,mn,mO⟩:=dY Tryz.uY;clear gE iU h gC;go_enter func132,ntmps132;go_wp2_with(go_at_call 167;refine iR.mono ?_;rintro e cn ⟨c,rfl,dC,fD,dc,cC,E,F,rfl,G⟩;obtain⟨pF,pR,pU,rfl⟩:=dr G.1.1;obtain⟨pX,pZ,qp,rfl⟩:=G.2.cV;have iZ:=gF cn dC fD _ _ E F G;simp only[eu]);clear gF iR E F G
 go_loopg [3] gL (λb c wr=>Ff g W gb t ab L X b c wr)
 case atStart=>exact iZ
 case round=>
  obtain⟨bl,K,x,d,z,i0,g1,hu,qt,v,H,qP,q,p,i1⟩:=hrel;clear iZ;cases m:x.m [kg]with
  |false=>have w:ag (x.dE [kg]=x/\(x,d)=t):=⟨by unfold aA.dE;rw[aH (by simp[m])],(Pz m).symm.trans hu.out⟩;have y:=q5 i0 v.bq [kg] bJ av 1 rfl;rw[w.out.1,m]at y;obtain⟨I,J,P,rfl⟩:=dr q;go_wp2_with(go_at_call 168;refine y.mono ?_;rintro e o ⟨rfl,k,u,hE,i⟩);go_ret;rw[<-w.out.2];have gf:=uF q (λN f=>by rw[(p N f).1];decide) i;exact⟨_,rfl,va hE (g1.trans i) H gf (λN f=>⟨(i.ci N (q.lt N f).2).trans (p N f).1,(p N f).2⟩) (λai D=>(i1 ai D).bo i)⟩
  |true=>
   have mR:=v.bq.m (bK:=[kg]) bJ m;obtain⟨b,rfl⟩:∃b,gk=b+1:=⟨gk-1,T⟩;have s:=v.eD (iu v.bq mR).k7;have mY:=s.eD (gj _ s.bq s.b0);have w:ag (x.dE [kg]=x.c/\gn g b (g x.c).1 (d++[(g x.c).2])=t):=⟨by unfold aA.dE;rw[aP m],(OI m).symm.trans hu.out⟩;have i2:ag (M (g x.c).1.a7+1<=M x.a7):=by have m5:=(gj _ s.bq s.b0).b0;rw[hm]at m5;show _<=_;omega
   have y:=q5 i0 v.bq [kg] bJ av 1 rfl;rw[w.out.1,m]at y;obtain⟨I,J,P,rfl⟩:=dr q;clear m hu;go_wp2_with(first|(go_at_call 168;refine y.mono ?_;rintro e o ⟨rfl,k,u,hE,i⟩;have gf:=uF q (λN f=>by rw[(p N f).1];decide) i;have jt:∀N,ap (U I J P)=some N->k N=8:=λN f=>(i.ci N (q.lt N f).2).trans (p N f).1)|(go_at_call 167;refine(D k o u _ hE s).mono ?_;rintro e A ⟨c,rfl,B,ne,dc,cC,nB,C,rfl,hS⟩;obtain⟨jW,j4,j9,rfl⟩:=dr hS.1.1;obtain⟨kp,kr,kx,rfl⟩:=hS.2.cV;have nG:=uF gf (λN f=>by rw[jt N f];decide) C;have oa:∀N,ap (U I J P)=some N->B N=8:=λN f=>(C.ci N (gf.lt N f).2).trans (jt N f);simp only[eu])|(at_builtin;refine dq _ rfl (.tmp 10) (.tmp 13) 99 rfl 0 189 lo _ 6 88 underlying99 l8 me mn mO rfl ak _ (M d) (bC e5 (d.zip z)) bf (nG.alloc _) ⟨S (R A),0,none⟩ 1 1 (e5 ((g x.c).2,(U jW j4 j9,U kp kr kx))) bf rfl (c4 (cB _ _ _ av)) (by simp[e5,an.oneCell']) ak cN T (bL _) (S (R A)+1) av ?_;intro N qW ob oH hV gg ra))
   have hZ:∀b,ap (U I J P)=some b->B b=8:=oa;have oS:=(nB.a _).mY hV hZ (by simpa using gg);have o6:=((((g1.trans i).trans C).a _)).mY hV (λb ih=>(p b ih).2) (by simpa using gg);have pa:S (R L)<=N:=by
    rcases gg with e|e
    ·exact(p N e).2
    ·have:=((g1.trans i).trans C).b5;omega
   have k1:∀j:aB×(an×an),gH B A gb j.1 j.2.1 j.2.2->gH (aO B N 8) ob gb j.1 j.2.1 j.2.2:=λj l=>
    xy hV hZ (λb ih py=>by
     by_cases e:b=N
     ·subst e
      rcases gg with e|e
      ·exact absurd (hZ b e) py
      ·have:b<S (R A)+1:=by simpa using ih
       omega
     ·exact cR _ _ _ _ e) (xy (fv A _ none) (λb e=>by cases e) (λ_ _ _=>rfl) l)
   go_roundg b
   case measure=>omega
   case rel=>
    refine⟨aO B N 8,ne,(g x.c).1,d++[(g x.c).2],z++[(U jW j4 j9,U kp kr kx)],oS,o6,w.out.2,by have:=i2.out;omega,mY,by simp[H],by have:=i2.out;simp;omega,?_,λb e=>by cases e;exact⟨cy _ _ _,pa⟩,?_⟩
    ·rw[x6 _ _ _ _ H,jc,bV];exact oH
    ·intro j l;rw[x6 _ _ _ _ H]at l;rcases dm.1 l with l|l
     ·exact k1 j (((i1 j l).bo i).bo C)
     ·simp at l;subst l;exact k1 _ hS
theorem d3.cV{d:List aB}(h:d3 ab L W c d):∃ai w b,c=U ai w b:=by
 cases W with
 |zero=>exact h.elim
 |succ W=>obtain⟨z,_,a,_⟩:=h;exact dr a
theorem p_(g:b_ L aI B)(i:∀b,B=some b->ab b=8)(f:∀b,b<S (R L)->ab b≠8->bl b=ab b){d:List aB}(h:d3 ab L W c d):d3 bl aI W c d:=by
 have j:d3 (kA ab) L W c d:=d3.cG (λb _ e=>by simp[kA,e]) W c d h;have k:=d3.bo (ul g i f) W c d j;refine d3.cG (λb _ e=>?_) W c d k;by_cases a:b<S (R L)
 ·simp only[a,iC]at e;unfold kA at e;split at e
  ·omega
  ·rename_i l;rw[f b a l];exact e
 ·simp only[a,lh]at e;exact e
theorem hQ(L:aq)(a:Obj):S (R (ar L a))=S (R L)+1:=av
theorem wJ{ai:Prop}(h:ai:=by rw[hQ];omega):ai:=h
theorem Tryz.Sn:(prog.info? 99).map (λa=>(a.zero,a.size,a.bytes))=some (some (U none 0 0),1,24):=by kernel_rfl
structure ot (gb bi:Nat) (ab:Nat->Nat) (L:aq) (X:Nat) (a6:an) (bl:Nat->Nat) (j1:lP) (bW:aA) (aE:List (List aB)) (oi:List an) (wr:aq):Prop where
 aV:bZ bl wr X j1 bW
 bo:aU ab L bl wr
 bX:oi.length=aE.length
 bg:wr.ownsRow 0 99 1 a6 aE.length oi
 cG:∀N,a6.ownBlock=some N->bl N=8/\L.heap.size<=N
 nb:∀bu∈aE.zip oi,d3 bl wr gb bu.2 bu.1
 df:aL wr bi f7 189
 ly:bl bi=8
theorem ot.q{wr:aq}(h:ot gb bi ab L X c bl K x w F wr)(d:bZ k o X u gf)(a:aU bl wr k o):ot gb bi ab L X c k u gf w F o:=
 ⟨d,h.bo.trans a,h.bX,uF h.bg (λN b=>by rw[(h.cG N b).1];decide) a,λN b=>⟨(a.ci N (h.bg.lt N b).2).trans (h.cG N b).1,(h.cG N b).2⟩,λe f=>d3.bo a gb _ _ (h.nb e f),a.z h.ly h.df,(a.ci _ h.df.am).trans h.ly⟩
theorem ot.C{wr g:aq}{k:Nat}{d:Obj}(h:ot gb bi ab L X c bl K x w F wr)(s:d3 bl wr gb G D)(m:ap c≠some bi)(t:aY g 0 99 1 (U (some ⟨N,0,none⟩) (M w+1) k) (M w+1) (F++[G]))(i:b_ (ar wr d) g (ap c))(j:ap c=some N\/N=S (R wr)+1)(A:S (R L)<=bi):
 ot gb bi ab L X (U (some ⟨N,0,none⟩) (M w+1) k) (aO bl N 8) K x (w++[D]) (F++[G]) g/\ap (U (some ⟨N,0,none⟩) (M w+1) k)≠some bi:=by
 have l:∀b,ap c=some b->bl b=8:=λb f=>(h.cG b f).1
 have o:ap c=some N\/N=S (R (ar wr d)):=by simpa using j
 have u:S (R L)<=N:=by
  rcases j with e|e
  ·exact(h.cG N e).2
  ·have:=h.bo.b5;omega
 have p:N≠bi:=by
  rcases j with e|e
  ·exactλv=>m (v▸e)
  ·have:=h.df.am;omega
 have r:∀c D,d3 bl wr gb c D->d3 (aO bl N 8) g gb c D:=λB E a=>
  p_ i l (λb f y=>by
   by_cases e:b=N
   ·subst e
    rcases j with e|e
    ·exact absurd (l b e) y
    ·have:b<S (R wr)+1:=by simpa using f
     omega
   ·exact cR _ _ _ _ e) (p_ (fv wr d none) (λb e=>by cases e) (λ_ _ _=>rfl) a)
 refine⟨⟨(h.aV.a d).mY i l o,(h.bo.a d).mY i (λb f=>(h.cG b f).2) o,by simp[h.bX],?_,λb e=>by cases e;exact⟨cy _ _ _,u⟩,?_,?_,?_⟩,λe=>by cases e;exact p rfl⟩
 ·rw[bV];exact t
 ·intro z a;rw[x6 _ _ _ _ h.bX]at a;rcases dm.1 a with a|a
  ·exact r _ _ (h.nb z a)
  ·simp at a;subst a;exact r _ _ s
 ·exact(h.df.a d).d (i.block bi (by simp;have:=h.df.am;omega) (λe=>m e.symm))
 ·rw[cR _ _ _ _ (hO p)];exact h.ly
theorem ot.kh(h:bZ k o X u gf)(c:aU ab L k o)(i:d3 k o gb G D)(d:aL o bi f7 189)(j:k bi=8):
 ot gb bi ab L X (U (some ⟨S (R o),0,none⟩) 1 1) (aO k (S (R o)) 8) u gf [D] [G] (ar o (aw #[G] 99)):=by
 have a:∀b,b<S (R o)->aO k (S (R o)) 8 b=k b:=λb f=>cR _ _ _ _ T
 refine⟨(h.kx a).a _,c.o6 _ 8,rfl,⟨rfl,.inr ⟨S (R o),1,_,rfl,bL _,mW o _,aN _,rL,rfl,rfl⟩⟩,λN e=>by cases e;exact⟨cy _ _ _,c.b5⟩,?_,d.a _,(a _ d.am).trans j⟩;intro l g;simp only[tM,B5,dB]at g;subst g;exact p_ (fv o _ none) (λb e=>by cases e) (λb f _=>a b f) i
structure Tu (mU:aA->aA×List aB) (n gb bi:Nat) (ew:aA×List (List aB)) (ab:Nat->Nat) (L:aq) (X Y:Nat) (a6:an) (bl:Nat->Nat) (j1:lP) (bW:aA) (aE:List (List aB)) (oi:List an) (wr:aq):Prop where
 TO:ot gb bi ab L X a6 bl j1 bW aE oi wr
 gV:a6.ownBlock≠some bi
 nF:ag (fm mU Y bW aE=ew)
 HB:bW.a7.length<=Y
 Md:hN n bW
 rW:aE.length+bW.a7.length<=3000
 xE:aE≠[]
def GO(e:aA->aA×List aB)(f g h:Nat)(i:aA×List (List aB))(j:Nat->Nat)(L:aq)(l m:Nat)(p:an)(wr:aq):Prop:=∃q s t v A,Tu e f g h i j L l m p q s t v A wr
theorem QQ{d:List (List aB)}(h:a.m [dO]=false):fm J b a d=(a,d):=by
 cases b with
 |zero=>rfl
 |succ b=>rw[fm,aH (by simp[h])]
theorem PN{d:List (List aB)}(h:a.m [dO]=true):fm J (b+1) a d=fm J b (J a.c).1 (d++[(J a.c).2]):=by rw[fm,aP h]
