import Derived.Test.YtddbjcfdmdbmkaaGreatDoorB26
set_option linter.all false
set_option maxRecDepth 100000
set_option maxHeartbeats 4000000
namespace Go.Proofs.YtddbjcfdmdbmkaaGreatDoor
open Go.RowKit Go.Proofs.Tryz
open _root_.ByteArray renaming toList->aJ
open Go.World renaming alloc->ar,setCell->ay
variable{b a:au}{c:Int}
attribute [local go_sem] uk
theorem PW(a:Nat)(f:0<=b.bk):ie a b 0 b:=by intro c L g d h;have e:=h.aa 2;simp[cp]at e;go_enter func177,ntmps177;go_wp2_with fail;go_ret;exact⟨rfl,c,d,h,aU.l _ _⟩
theorem Je{a:au}{c:Int}(p:b.bk<0)(d:t_ b c a):ie 5 b c a:=by intro f L g i h;have j:=h.aa 2;simp[cp]at j;go_enter func177,ntmps177;go_wp2_with fail;refine(d f L g i h).mono ?_;rintro e q ⟨rfl,k,l,m,o⟩;go_wp2_with fail;go_ret;exact⟨rfl,k,l,m,o⟩
theorem Rr(A:b.bk<0)(q:ie 3 b c a)(k:(a.af.pa&&decide (a.bk<0))=false):ie 2 b 0 a.c8:=by
 intro v L r w h;have l:=h.aa 2;simp[cp]at l;go_enter func177,ntmps177;go_wp2_with fail;refine(q v L r w h).mono ?_;rintro e x ⟨rfl,m,o,d,p⟩;go_wp2_with fail;refine(fJ d).mono ?_;rintro e B ⟨rfl,C,rfl⟩;clear l q;have l:=d.aa 2;have y:=d.aa 1;simp[cp]at l y;have D:=d.ax.b 1;have E:=d.ax.am;have F:r<x.heap.size+1:=T;have G:=d.cY;have H:=d.ia;by_cases f:a.af.ao=2
 ·have z:((a.af.ao:Int)==2)=true:=by simp[f]
  by_cases s:a.bk<0
  ·have g:a.af.pa=false:=by simpa[s]using k
   simp[bN.pa,f]at g;have I:(aJ a.af.a8==[61])=false:=by simp[g]
   have J:(aJ a.af.a8==[33,61])=false:=by simp[g]
   have K:(aJ a.af.a8==[60])=false:=by simp[g]
   have P:(aJ a.af.a8==[60,61])=false:=by simp[g]
   have gf:(aJ a.af.a8==[62])=false:=by simp[g]
   have gg:(aJ a.af.a8==[62,61])=false:=by simp[g]
   have t:Hid (a.af.ao=2):=f;clear k g f;go_wp2_with(go_at_call 97;refine(lb ((d.a _).a _).e).mono ?_;rintro e u ⟨rfl,i,j⟩);go_ret;exact⟨rfl,m,o,i,(((p.a _).a _).e).trans j⟩
  ·have gj:0<=a.bk:=by omega
   have t:Hid (a.af.ao=2):=f;clear k f s;go_wp2_with(go_at_call 97;refine(lb ((d.a _).a _).e).mono ?_;rintro e u ⟨rfl,i,j⟩)
   all_goals
    go_ret;exact⟨rfl,m,o,i,(((p.a _).a _).e).trans j⟩
 ·have z:((a.af.ao:Int)==2)=false:=by rw[di];omega
  have t:Hid (¬a.af.ao=2):=f;clear k f;go_wp2_with(go_at_call 97;refine(lb ((d.a _).a _).e).mono ?_;rintro e u ⟨rfl,i,j⟩);go_ret;exact⟨rfl,m,o,i,(((p.a _).a _).e).trans j⟩
theorem ND{J:au}{gE:Int}(i1:b.bk<0)(gF:ie 3 b c a)(C:a.af.pa=true)(i2:a.bk<0)(x:ie 3 a.g gE J)(gL:c2 a.aT)(y:J.aC.length<=100000):
 ie 2 b J.aC.length (J.gC ⟨a.af.a8,c,gE,0,cD,cD,0⟩):=by
 intro g1 L r hu h;have q:=h.aa 2;simp[cp]at q;go_enter func177,ntmps177;go_wp2_with fail;refine(gF g1 L r hu h).mono ?_;rintro e g ⟨rfl,D,hE,i,z⟩;go_wp2_with fail;refine(fJ i).mono ?_;rintro e jt ⟨rfl,d,rfl⟩;clear q gF;have q:=i.aa 2;have s:=i.aa 1;simp[cp]at q s;have A:=i.ax.b 1;have jW:=i.ax.am;have j4:r<g.heap.size+1:=T;have j9:=i.cY;have kp:=i.ia;have E:a.af.ao=2:=by simp[bN.pa]at C;exact C.1
 have hS:Hid (a.al+1<a.aT.length):=gL.b8.q i.cY T;have kr:((a.af.ao:Int)==2)=true:=by simp[E]
 have hV:=p5 i (g.heap.size+1) T;have B:aO D (g.heap.size+1) 7 (g.heap.size+1)=7:=cy _ _ _;have t:∀d,aL (ar (ar (ay g ⟨r,1,none⟩ (.int .i64 (a.al+1))) d) (.cells (ds a) 150)).drew (g.heap.size+1) (ds a) 150:=λd=>cB _ _ _ av
 have u:∀d,aU D g (aO D (g.heap.size+1) 7) (ar (ar (ay g ⟨r,1,none⟩ (.int .i64 (a.al+1))) d) (.cells (ds a) 150)).drew:=λd=>⟨λkx E=>cR _ _ _ _ T,((((aU.l D g).v (ai:=⟨r,1,none⟩) i.K _).a d).a _).e.db⟩
 have v:∀d,bQ (aO D (g.heap.size+1) 7) (ar (ar (ay g ⟨r,1,none⟩ (.int .i64 (a.al+1))) d) (.cells (ds a) 150)).drew r hE a.g:=λd=>(((hV.gE (bW:=a.g) 1 _ mg rfl rfl rfl rfl rfl rfl hS.out i.ej).a _).a _).e
 unfold ds at t u v;have w:aJ a.af.a8=[61]\/aJ a.af.a8=[33,61]\/aJ a.af.a8=[60]\/aJ a.af.a8=[60,61]\/aJ a.af.a8=[62]\/aJ a.af.a8=[62,61]:=by simp[bN.pa,E]at C;simpa[or_assoc]using C
 have k1:Hid (a.af.ao=2):=E;clear C E;by_cases K:aJ a.af.a8=[61]
 ·have hZ:(aJ a.af.a8==[61])=true:=by simp[K]
  clear K w;go_wp2_with fail;refine(x _ _ _ _ (v d)).mono ?_;rintro e F ⟨rfl,G,H,j,f⟩;have k:=(f.ax B (t d)).aa 1;simp at k;clear s q A;go_wp2_with fail;refine(ic j _ _ _ _ _ _ _ y).mono ?_;rintro e I ⟨rfl,l,m,o,p⟩;go_wp2_with fail;go_ret;exact⟨rfl,l,m,o,((z.trans (u d)).trans f).trans p⟩
 have hZ:(aJ a.af.a8==[61])=false:=by simp[K]
 by_cases P:aJ a.af.a8=[33,61]
 ·have ih:(aJ a.af.a8==[33,61])=true:=by simp[P]
  clear P w;go_wp2_with fail;refine(x _ _ _ _ (v d)).mono ?_;rintro e F ⟨rfl,G,H,j,f⟩;have k:=(f.ax B (t d)).aa 1;simp at k;clear s q A;go_wp2_with fail;refine(ic j _ _ _ _ _ _ _ y).mono ?_;rintro e I ⟨rfl,l,m,o,p⟩;go_wp2_with fail;go_ret;exact⟨rfl,l,m,o,((z.trans (u d)).trans f).trans p⟩
 have ih:(aJ a.af.a8==[33,61])=false:=by simp[P]
 by_cases gf:aJ a.af.a8=[60]
 ·have iR:(aJ a.af.a8==[60])=true:=by simp[gf]
  clear gf w;go_wp2_with fail;refine(x _ _ _ _ (v d)).mono ?_;rintro e F ⟨rfl,G,H,j,f⟩;have k:=(f.ax B (t d)).aa 1;simp at k;clear s q A;go_wp2_with fail;refine(ic j _ _ _ _ _ _ _ y).mono ?_;rintro e I ⟨rfl,l,m,o,p⟩;go_wp2_with fail;go_ret;exact⟨rfl,l,m,o,((z.trans (u d)).trans f).trans p⟩
 have iR:(aJ a.af.a8==[60])=false:=by simp[gf]
 by_cases gg:aJ a.af.a8=[60,61]
 ·have iU:(aJ a.af.a8==[60,61])=true:=by simp[gg]
  clear gg w;go_wp2_with fail;refine(x _ _ _ _ (v d)).mono ?_;rintro e F ⟨rfl,G,H,j,f⟩;have k:=(f.ax B (t d)).aa 1;simp at k;clear s q A;go_wp2_with fail;refine(ic j _ _ _ _ _ _ _ y).mono ?_;rintro e I ⟨rfl,l,m,o,p⟩;go_wp2_with fail;go_ret;exact⟨rfl,l,m,o,((z.trans (u d)).trans f).trans p⟩
 have iU:(aJ a.af.a8==[60,61])=false:=by simp[gg]
 by_cases gj:aJ a.af.a8=[62]
 ·have iZ:(aJ a.af.a8==[62])=true:=by simp[gj]
  clear gj w;go_wp2_with fail;refine(x _ _ _ _ (v d)).mono ?_;rintro e F ⟨rfl,G,H,j,f⟩;have k:=(f.ax B (t d)).aa 1;simp at k;clear s q A;go_wp2_with fail;refine(ic j _ _ _ _ _ _ _ y).mono ?_;rintro e I ⟨rfl,l,m,o,p⟩;go_wp2_with fail;go_ret;exact⟨rfl,l,m,o,((z.trans (u d)).trans f).trans p⟩
 have iZ:(aJ a.af.a8==[62])=false:=by simp[gj]
 by_cases gC:aJ a.af.a8=[62,61]
 ·have i0:(aJ a.af.a8==[62,61])=true:=by simp[gC]
  clear gC w;go_wp2_with fail;refine(x _ _ _ _ (v d)).mono ?_;rintro e F ⟨rfl,G,H,j,f⟩;have k:=(f.ax B (t d)).aa 1;simp at k;clear s q A;go_wp2_with fail;refine(ic j _ _ _ _ _ _ _ y).mono ?_;rintro e I ⟨rfl,l,m,o,p⟩;go_wp2_with fail;go_ret;exact⟨rfl,l,m,o,((z.trans (u d)).trans f).trans p⟩
 have i0:(aJ a.af.a8==[62,61])=false:=by simp[gC]
 simp[K,P,gf,gg,gj,gC]at w
