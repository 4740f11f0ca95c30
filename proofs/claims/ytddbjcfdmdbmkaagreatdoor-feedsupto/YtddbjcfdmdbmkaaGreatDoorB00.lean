import Derived.Test.YtddbjcfdmdbmkaaGreatDoorProg
import Derived.WalkKit
import Derived.WalkSpells
import Derived.WalkLawsBesides
import Derived.Deep.AppendLies
set_option linter.all false
set_option maxRecDepth 100000
set_option maxHeartbeats 400000
namespace Go.Proofs.YtddbjcfdmdbmkaaGreatDoor
open Go.RowKit Go.Proofs.Tryz
open Go.Ending renaming returned->aM
open Go renaming TypeId->q2,Value->an,World->aq
open Go.World renaming alloc->ar,setCell->ay
def i7 := @Array.getElem?_eq_some_iff
def fY := @Below.heap_alloc
def we := @Array.getElem?_modify
def mW := @heap_alloc_new
def aN := @Nat.le_refl
def bS := @Nat.le_trans
def gw := @Below.heap_setCell
def cI := @Nat.lt_of_lt_of_le
def ev := @List.take_succ_eq_append_getElem
def b4 := @List.getElem_mem
def bL := @Nat.zero_le
def jf := @List.any_eq_true
def di := @beq_eq_false_iff_ne
def qV := @UInt8.toNat_inj
def qA := @List.take_of_length_le
def fj := @List.getD_eq_getElem?_getD
def ms := @List.getElem?_append_left
def qs := @List.getElem?_append_right
def sa := @List.map_congr_left
def bV := @List.length_append
def dm := @List.mem_append
def dB := @List.mem_singleton
def dT := @List.length_cons
def SB := @List.getElem?_cons_succ
def ke := @List.append_assoc
def Tx := @List.singleton_append
def l7 := @List.getLastD_eq_getLast?
def fa := @List.nil_append
def r7 := @List.eq_nil_or_concat
def d5 := @List.length_nil
def nx := @List.length_eq_zero_iff
def jX := @List.getElem?_eq_some_iff
def CY := @List.getLast?_eq_some_getLast
def dz := @List.getElem?_eq_getElem
def qJ := @List.length_set
def zG := @Int.le_refl
def pc := @List.Perm.refl
def aH := @if_neg
def aP := @if_pos
def Dw := @List.headD_cons
def eG := @List.mem_map
def m8 := @List.mem_range
def GZ := @List.Pairwise.map
def C1 := @List.nodup_range
def wv := @List.Pairwise.filter
def kG := @List.mem_filter
def jF := @decide_eq_true_eq
def B6 := @Prod.mk.injEq
def yG := @Prod.ext
def z7 := @List.nodup_append
def sJ := @List.pairwise_cons
def ek := @List.mem_cons
def C8 := @Nat.add_le_add
def ut := @List.pairwise_append
def A3 := @List.pairwise_singleton
def k3 := @Nat.le_of_lt
def dv := @List.map_append
def qO := @List.sum_append
def EN := @List.length_flatMap
def c_ := @List.length_map
def xm := @List.ext_getElem
def hB := @List.map_cons
def qx := @List.sum_cons
def ky := @List.mem_flatMap
def lw := @List.length_pos_iff
def hh := @Bool.and_eq_true
def jN := @List.append_nil
def ni := @List.flatMap_cons
def iW := @List.getElem_of_mem
def vi := @List.take_append_drop
def hT := @List.length_take
def la := @List.length_drop
def pv := @List.getElem_cons_zero
def fv := @World.grownBy_alloc
def hO := @Ne.symm
def du := @Nat.zero_add
def pB := @List.map_nil
def sn := @List.zip_append
def AC := @Nat.succ_mul
def dG := @bodyPost_ret
def ku := @List.drop_eq_getElem_cons
def zC := @List.takeWhile_cons
def wS := @List.drop_eq_nil_of_le
def qy := @List.take_take
def Hr := @Nat.min_eq_right
def h_ := @List.foldl_append
def hc := @List.foldl_cons
def A8 := @List.foldl_nil
def GC := @List.getElem_drop
def qn := @Nat.min_eq_left
def vy := @Nat.pow_succ
def sc := @Nat.pow_le_pow_right
def GR := @Nat.min_le_right
def rE := @World.cell?_setCell_other
def dY := @info_parts
def kc := @step_append_lies
def c4 := @World.news_of_block
def dq := @wpList_append_lies
def Gv := @List.any_append
def zL := @Bool.or_assoc
def m1 := @List.mem_of_getElem?
def oo := @List.any_cons
def qh := @List.any_nil
def oZ := @Bool.or_false
def gT := @beq_iff_eq
def lq := @List.all_eq_true
def wA := @List.length_tail
def iC := @if_true
def ty := @Option.some.inj
def Ab := @Option.map_some
def pC := @Nat.add_zero
def tC := @Bool.or_eq_true
def sD := @List.eq_nil_of_length_eq_zero
def CN := @List.drop_zero
def C2 := @Nat.sub_zero
def Mr := @List.prefix_iff_eq_take
def RV := @List.takeWhile_prefix
def k_ := @ByteArray.ext
def rK := @Array.toList_inj
def mD := @Option.getD_some
def tU := @decide_eq_false_iff_not
def J1 := @Bool.and_eq_false_iff
def y_ := @Bool.not_eq_true'
def A7 := @Bool.true_and
def xx := @decide_false
def zZ := @Bool.false_and
def rO := @List.prefix_refl
def lv := @Nat.le_succ
def jT := @List.length_zip
def xq := @List.find?_append
def uC := @List.find?_cons
def B0 := @Bool.and_true
def lh := @if_false
def oG := @List.prefix_append
def nH := @List.cons_append
def xp := @List.any_eq_false
def nM := @Bool.eq_iff_iff
def Ej := @List.any_map
def vd := @Decidable.byContradiction
def n8 := @List.mem_append_right
def j3 := @Bool.eq_false_iff
def G5 := @Option.none_or
def EI := @Bool.and_false
def xv := @Bool.or_eq_false_iff
def wM := @decide_eq_decide
def rc := @Bool.false_eq_true
def j0 := @Option.some.injEq
def eE := @World.ownsRow_nil
def ca := @Below.refl
def CW := @World.setCell_alloc_past
def eQ := @List.take_length
def um := @List.mem_cons_self
def uo := @List.mem_cons_of_mem
def Gf := @Nat.mul_comm
def qj := @Nat.mul_le_mul_right
def wP := @Option.isSome_iff_exists
def tM := @List.zip_cons_cons
def B5 := @List.zip_nil_right
def yz := @List.getElem_map
def GI := @List.sum_nil
def tx := @Nat.mul_le_mul
def lE := @List.filter_append
def vf := @List.length_filter_le
def hr := @Nat.add_assoc
def uX := @List.findIdx?_eq_some_iff_getElem
def ui := @List.findIdx?_eq_none_iff
def vT := @Nat.not_lt_zero
def Lx := @List.find?_eq_some_iff_getElem
def Gh := @List.find?_eq_none
def n7 := @List.getElem_zip
def nE := @List.not_mem_nil
def oz := @or_false
def Fk := @Nat.min_self
def nV := @List.flatMap_append
def w_ := @Nat.le_mul_of_pos_right
def vR := @Nat.le_mul_of_pos_left
def uJ := @List.exists_cons_of_ne_nil
def E1 := @List.append_eq_nil_iff
def qf := @List.length_replicate
def Dp := @List.eq_of_mem_replicate
def FQ := @List.map_take
def oq := @List.mem_append_left
def si := @Option.map_eq_some_iff
def C7 := @Oper.upon_value
def EM := @Lib.byteCells_length
def pt := @Lib.cell_of_heap
def vm := @List.drop_length
def Gy := @Nat.le_add_left
def tz := @Array.getElem?_eq_getElem
def mi := @Value.slice.injEq
def xU := @Addr.mk.injEq
def Cr := @List.take_left
def iz := @List.getElem_append_left
def iV := @List.getElem_append_right
def rM := @Nat.sub_self
def gq := @List.getElem?_map
def uf := @List.length_dropLast
def lW := @decide_eq_true
def kt := @decide_eq_false
def vl := @Int.not_lt
def ws := @List.getLast?_eq_getElem?
def ye := @Nat.ne_of_lt
def GX := @List.set_cons_zero
def Ma := @Array.toList_setIfInBounds
def pp := @List.mem_of_mem_take
def wt := @List.take_set_of_le
def Cc := @Nat.add_sub_cancel
def E_ := @List.drop_of_length_le
def AA := @List.getElem?_take_of_lt
def Ra := @List.getElem?_eq_none
def Ay := @Calls.mono
def GM := @List.take_append_of_le_length
def zV := @List.filter_eq_nil_iff
def E2 := @List.filter_eq_self
def rF := @List.drop_drop
def GL := @List.mem_or_eq_of_mem_set
def qQ := @List.mem_iff_getElem
def zY := @List.append_eq
def vC := @Nat.lt_or_ge
def vL := @below_drewN
def zR := @Nat.not_lt
def GY := @Int.toNat_natCast
def x8 := @List.replicate_succ'
def C0 := @Int.ofNat.inj
def Ei := @Option.some_or
def sj := @List.map_map
def ua := @Option.isSome_some
def BL := @Option.getD_none
def Ag := @Option.isSome_none
def t1 := @of_decide_eq_true
def Hq := @of_decide_eq_false
def FW := @getElem!_pos
def OC := @List.pairwise_iff_getElem
def yT := @List.filter_map
def Qp := @List.length_singleton
def TD := @List.getElem_replicate
def IC := @List.set_append_right
def Lm := @List.ne_nil_of_length_pos
def Ct := @Classical.byContradiction
def zk := @Nat.mul_le_mul_left
def tk := @DataW.trod_int
def FD := @List.length_range
def zr := @Bool.true_or
def za := @Bool.or_true
def AG := @Input.okWide_of_okWideB
def JD := @Array.mem_of_getElem?
theorem av {p : Prop} (h : p := by simp) : p := h
theorem T {p : Prop} (h : p := by omega) : p := h
theorem bE {p : Prop} (h : p := by go_num) : p := h
theorem b7 {p : Prop} (h : p := by simp;omega) : p := h
theorem up {p : Prop} (h : p := by assumption) : p := h
theorem ak {p : Prop} (h : p := by decide) : p := h
theorem l0 {p : Prop} (h : p := by unfold Addr.add;split<;>simp_all) : p := h
theorem bf {p : Prop} (h : p := by rfl) : p := h
theorem cN {p : Prop} (h : p := by unfold maxLen;omega) : p := h
theorem ey {p : Prop} (h : p := by simp[Value.oneCell']) : p := h
theorem rL {p : Prop} (h : p := by unfold maxLen;decide) : p := h
theorem gx {p : Prop} (h : p := by first|rfl|simp) : p := h
variable{L k:aq}{X:Nat}{o:Array an}{q:q2}{c r:Nat->Nat}{ai:Addr}
def aL(L:aq)(a:Nat)(b:Array an)(d:q2):Prop:=L.heap[a]?=some (.cells b d (0,0))
theorem aL.am(h:aL L X o q):X<L.heap.size:=
 (i7.1 h).1
theorem aL.aa(h:aL L X o q)(c:Nat):L.cell? ⟨X,c,none⟩=o[c]?:=
 cell_of_row L X c o q (0,0) h
theorem aL.b(h:aL L X o q)(c:Nat):L.frozen? ⟨X,c,none⟩=false:=
 frozen_of_row L X c o q h
theorem aL.e(h:aL L X o q):aL L.drew X o q:=h
theorem aL.a(h:aL L X o q)(c:Obj):aL (ar L c) X o q:=by unfold aL;rw[fY L c X h.am];exact h
theorem aL.j(h:aL L X o q)(c:Nat)(f:an):aL (ay L ⟨X,c,none⟩ f) X (o.setIfInBounds c f) q:=by unfold aL at*;simp[ay,we,h]
theorem aL.i0(h:aL L X o q)(c:Addr)(f:an)(g:c.block≠X):aL (ay L c f) X o q:=by unfold aL at*;simp[ay,we,h,g]
theorem aL.bT(L:aq)(o:Array an)(q:q2):aL (ar L (.cells o q)) L.heap.size o q:=mW L _
theorem aL.d(h:aL L X o q)(e:k.heap[X]?=L.heap[X]?):aL k X o q:=e.trans h
theorem cB(L:aq)(a:Obj)(b:Nat)(c:L.heap.size=b):(ar L a).heap[b]?=some a:=by subst c;exact mW L a
structure ea (e6:Nat->Prop) (L aI:aq):Prop where
 dR:aI.os=L.os
 hq:aI.tape=L.tape
 ho:aI.output=L.output
 b5:L.heap.size<=aI.heap.size
 iA:∀Y,e6 Y->aI.heap[Y]?=L.heap[Y]?
theorem ea.l(b:Nat->Prop)(L:aq):ea b L L:=⟨rfl,rfl,rfl,aN _,λ_ _=>rfl⟩
theorem ea.trans{d:Nat->Prop}{c X f:aq}(h:ea d c X)(b:ea d X f):ea d c f:=
 ⟨b.dR.trans h.dR,b.hq.trans h.hq,b.ho.trans h.ho,bS h.b5 b.b5,λg i=>(b.iA g i).trans (h.iA g i)⟩
theorem ea.cE{c d:Nat->Prop}(h:ea c L k)(f:∀b,d b->c b):ea d L k:=⟨h.dR,h.hq,h.ho,h.b5,λb g=>h.iA b (f b g)⟩
theorem ea.e{b:Nat->Prop}{c:aq}(h:ea b c L):ea b c L.drew:=⟨h.dR,h.hq,h.ho,h.b5,h.iA⟩
theorem ea.a{d:Nat->Prop}{c:aq}(h:ea d c L)(f:∀b,d b->b<L.heap.size)(g:Obj):ea d c (ar L g):=
 h.trans ⟨rfl,rfl,rfl,av,λb i=>fY _ _ _ (f b i)⟩
theorem ea.v{b:Nat->Prop}{c:aq}(h:ea b c L)(d:¬b ai.block)(f:an):ea b c (ay L ai f):=
 h.trans ⟨rfl,rfl,rfl,by simp[ay],λi g=>gw _ _ _ _ (λe=>d (e▸g))⟩
theorem ea.dj{f:Nat->Prop}{c:aq}{g:Option Nat}(h:ea f c L)(d:L.grownBy k g)(j:∀b,f b->b<L.heap.size)(m:∀b,g=some b->¬f b):ea f c k:=
 h.trans ⟨d.os,d.tape,d.output,d.size,λb i=>d.block b (j b i) (λe=>m b e.symm i)⟩
theorem ea.ax{b:Nat->Prop}(h:ea b L k)(c:b X)(d:aL L X o q):aL k X o q:=(h.iA X c).trans d
theorem ea.sY{b:Nat}(h:Below b L k):ea (λc=>c<b) L k:=⟨h.os,h.tape,h.output,h.size,h.block⟩
structure aU (ab:Nat->Nat) (L:aq) (bl:Nat->Nat) (aI:aq):Prop where
 ci:∀Y,Y<L.heap.size->bl Y=ab Y
 db:ea (λY=>Y<L.heap.size/\7<=ab Y) L aI
theorem aU.l(b:Nat->Nat)(L:aq):aU b L b L:=⟨λ_ _=>rfl,ea.l _ _⟩
theorem aU.trans{X f:Nat->Nat}{g:aq}(h:aU c L X k)(i:aU X k f g):aU c L f g:=
 ⟨λd b=>(i.ci d (cI b h.db.b5)).trans (h.ci d b),h.db.trans (i.db.cE λd b=>⟨cI b.1 h.db.b5,by rw[h.ci d b.1];exact b.2⟩)⟩
theorem aU.b5{X:Nat->Nat}(h:aU c L X k):L.heap.size<=k.heap.size:=h.db.b5
theorem aU.ax(h:aU c L r k)(d:c X=7)(b:aL L X o q):aL k X o q:=h.db.ax ⟨b.am,T⟩ b
theorem aU.z(h:aU c L r k)(d:c X=8)(b:aL L X o q):aL k X o q:=h.db.ax ⟨b.am,T⟩ b
theorem aU.e{X:Nat->Nat}(h:aU c L X k):aU c L X k.drew:=⟨h.ci,h.db.e⟩
theorem aU.a{X:Nat->Nat}(h:aU c L X k)(b:Obj):aU c L X (ar k b):=⟨h.ci,h.db.a (λ_ d=>cI d.1 h.db.b5) b⟩
def aO(b:Nat->Nat)(d e:Nat):Nat->Nat:=λa=>if a=d then e else b a
theorem cy(c:Nat->Nat)(a b:Nat):aO c a b a=b:=by simp[aO]
theorem cR(b:Nat->Nat)(c d a:Nat)(h:a≠c):aO b c d a=b a:=by simp[aO,h]
theorem aU.o6{X:Nat->Nat}(h:aU c L X k)(b:Obj)(d:Nat):aU c L (aO X k.heap.size d) (ar k b):=
 ⟨λf g=>by rw[cR _ _ _ _ (by have:=h.db.b5;omega)];exact h.ci f g,(h.a b).db⟩
theorem aU.v{X:Nat->Nat}(h:aU c L X k)(f:X ai.block<7)(b:an):aU c L X (ay k ai b):=
 ⟨h.ci,h.db.v (λd=>by have:=h.ci _ d.1;have:=d.2;omega) b⟩
theorem aU.D{X:Nat->Nat}(h:aU c L X k)(f:L.heap.size<=ai.block)(b:an):aU c L X (ay k ai b):=
 ⟨h.ci,h.db.v (λd=>by have:=d.1;omega) b⟩
theorem jq{a:IntKind}{c X:Int}(h:c=X):aM (.int a c)=aM (.int a X):=by rw[h]
theorem kC{c X:Bool}(h:c=X):aM (.bool c)=aM (.bool X):=by rw[h]
def fI(a:UInt8)(b:List UInt8):Bool:=b.any (λd=>d==a)
theorem Nv(a:ByteArray)(b:Nat)(h:b<a.size):a.data.toList.take (b+1)=a.data.toList.take b++[a[b]]:=by rw[ev (by simpa using h)];rfl
theorem ByteArray.J3(a:ByteArray)(b:Nat)(h:b<a.size):a[b]∈a.data.toList:=by have:a[b]=a.data.toList[b]'(by simpa using h):=rfl;rw[this];exact b4 _
theorem fc(c:UInt8)(a:ByteArray)(L:aq)(l:a.size<=maxLen):
 Calls prog 141 #[.int .u8 c.toNat,.string a] L λe k=>e=aM (.bool (fI c a.data.toList))/\k=L:=by
 unfold maxLen at l;go_enter func141,ntmps141;go_wp2
 go_loop [5] (λf=>∃b:Nat,b<=a.size/\f=.int .i64 b/\fI c (a.data.toList.take b)=false) (λf=>a.size-(intOf f).toNat)
 case atStart=>exact⟨0,bL _,rfl,rfl⟩
 case round=>
  obtain⟨b,r,rfl,g⟩:=hrel;have i:Hid (fI c (a.data.toList.take b)=false):=g;clear g;by_cases j:b<a.size
  ·have m:Hid (fI c (a.data.toList.take (b+1))=(a[b]==c)):=by
    show _=_;rw[Nv a b j];have:=i.out;unfold fI at*;simp[this]
   by_cases d:a[b]=c
   ·have o:((a[b].toNat:Int)==(c.toNat:Int))=true:=by simp[d]
    have p:Hid (fI c a.data.toList=true):=by show _=_;unfold fI;rw[jf];exact⟨a[b],ByteArray.J3 a b j,by simp[d]⟩
    clear d;go_wp2;go_ret;exact⟨kC p.out.symm,rfl⟩
   ·have o:((a[b].toNat:Int)==(c.toNat:Int))=false:=by
     rw[di];intro h;exact d (qV.1 (by exact_mod_cast h))
    have q:Hid ((a[b]==c)=false):=by show _=_;simpa using d
    clear d;go_wp2
    go_round
    case rel=>exact⟨b+1,T,bE,by rw[m.out,q.out]⟩
    case measure=>simp[intOf];omega
  ·go_wp2;go_ret;exact⟨kC (by have:=i.out;rw[qA b7]at this;exact this.symm),rfl⟩
