import Derived.Test.YtddbjcfdmdbmkaaGreatDoorB00
import Derived.Test.YtddbjcfdmdbmkaaGreatDoorB01
import Derived.Deep.RegionHeld3
import Derived.Deep.RegionLaw
import Derived.Deep.DrawnRows
import Derived.Deep.QuietTactic
import Derived.BigQuiet
set_option linter.unusedVariables false
set_option linter.unusedSimpArgs false
namespace Go.Proofs.YtddbjcfdmdbmkaaGreatDoor
open Go.RowKit

structure RTok where
  kind : Nat
  s : ByteArray
  pos : Nat
  n : Nat
def RTok.cells (t : RTok) : List Value := [.int .i64 t.kind, .string t.s, .int .i64 t.pos, .int .i64 t.n]
def RTok.val (t : RTok) : Value := .agg #[.int .i64 t.kind, .string t.s, .int .i64 t.pos, .int .i64 t.n]
def flat {α : Type} (f : α → List Value) (l : List α) : List Value := (l.map f).flatten
instance : Inhabited RTok := ⟨⟨4, ByteArray.empty, 0, 0⟩⟩

structure RNode where
  op : ByteArray
  a : Int
  b : Int
  n : Int
  name : ByteArray
  field : ByteArray
  pos : Int
def RNode.cells (x : RNode) : List Value := [.string x.op, .int .i64 x.a, .int .i64 x.b, .int .i64 x.n, .string x.name, .string x.field, .int .i64 x.pos]

structure RPart where
  pos : Int
  guard : Bool
  name : ByteArray
  kind : Int
  times : Int
  cond : Int
  ways : List (List Nat)
def RPart.cells (x : RPart × Value) : List Value := [.int .i64 x.1.pos, .bool x.1.guard, .string x.1.name, .int .i64 x.1.kind, .int .i64 x.1.times, .int .i64 x.1.cond, x.2]

def Ints (own : Nat → Nat) (w : World) (v : Value) (l : List Nat) : Prop :=
  (∃ k, w.ownsRow 0 3 1 v k (l.map fun n : Nat => Value.int .i64 (n : Int))) ∧ ∀ g, v.ownBlock = some g → own g = 7
def Wayz (own : Nat → Nat) (w : World) (v : Value) (l : List (List Nat)) : Prop :=
  ∃ vs : List Value, w.ownsRow 0 48 1 v l.length vs ∧ (∀ g, v.ownBlock = some g → own g = 7) ∧ vs.length = l.length ∧ ∀ i, (h : i < vs.length) → (h' : i < l.length) → Ints own w vs[i] l[i]

structure PSt where
  toks : List RTok
  i : Nat
  wrong : Int
  inside : Nat
  deep : Int
  nums : List RTok
  lo : List Int
  hi : List Int
  nodes : List RNode
  parts : List RPart
  window : Int
  rate : Int
structure PM where
  tg : Nat
  tcap : Nat
  nv : Value
  lv : Value
  hv : Value
  dv : Value
  pv : Value
  av : Value
  wvs : List Value

def PCells (m : PM) (σ : PSt) : Array Value :=
  #[.slice (some ⟨m.tg, 0, none⟩) σ.toks.length m.tcap, .int .i64 σ.i, .int .i64 σ.wrong, .int .i64 σ.inside, .int .i64 σ.deep, m.nv, m.lv, m.hv, m.dv, m.pv, .int .i64 σ.window, .int .i64 σ.rate, m.av]

structure St (own : Nat → Nat) (w : World) (b : Nat) (m : PM) (σ : PSt) : Prop where
  blk : Blk w b (PCells m σ) 123
  ob : own b = 1
  toks : w.ownsRow 0 150 4 (.slice (some ⟨m.tg, 0, none⟩) σ.toks.length m.tcap) σ.toks.length (flat RTok.cells σ.toks)
  ot : own m.tg = 7
  nums : w.ownsRow 0 150 4 m.nv σ.nums.length (flat RTok.cells σ.nums)
  on : ∀ g, m.nv.ownBlock = some g → own g = 2
  lo : w.ownsRow 0 3 1 m.lv σ.lo.length (σ.lo.map (Value.int .i64))
  ol : ∀ g, m.lv.ownBlock = some g → own g = 3
  hi : w.ownsRow 0 3 1 m.hv σ.hi.length (σ.hi.map (Value.int .i64))
  oh : ∀ g, m.hv.ownBlock = some g → own g = 4
  nodes : w.ownsRow 0 248 7 m.dv σ.nodes.length (flat RNode.cells σ.nodes)
  od : ∀ g, m.dv.ownBlock = some g → own g = 5
  parts : w.ownsRow 0 202 7 m.pv σ.parts.length (flat RPart.cells (σ.parts.zip m.wvs))
  op : ∀ g, m.pv.ownBlock = some g → own g = 6
  ways : ∀ p ∈ σ.parts.zip m.wvs, Wayz own w p.2 p.1.ways
  wlen : m.wvs.length = σ.parts.length
  tlen : σ.toks.length ≤ 601
  ilt : σ.i < σ.toks.length
  wlo : -1 ≤ σ.wrong

def After (own : Nat → Nat) (w : World) (b : Nat) (σ : PSt) (w' : World) : Prop := ∃ own' m', St own' w' b m' σ ∧ Ext own w own' w'

def PSt.now (σ : PSt) : RTok := σ.toks[σ.i]?.getD default

theorem Ints.grown {own : Nat → Nat} {w w' : World} {v : Value} {l : List Nat} {row : Option Nat} (h : Ints own w v l) (hg : w.grownBy w' row) (hr : ∀ g, row = some g → own g ≠ 7) : Ints own w' v l := by
  obtain ⟨⟨k, h⟩, ho⟩ := h
  refine ⟨⟨k, h.kept hg ?_⟩, ho⟩
  cases hv : v.ownBlock with
  | none => exact .inl rfl
  | some g => exact .inr (fun e => hr g e.symm (ho g hv))
theorem Wayz.grown {own : Nat → Nat} {w w' : World} {v : Value} {l : List (List Nat)} {row : Option Nat} (h : Wayz own w v l) (hg : w.grownBy w' row) (hr : ∀ g, row = some g → own g ≠ 7) : Wayz own w' v l := by
  obtain ⟨vs, h, ho, hl, hi⟩ := h
  refine ⟨vs, h.kept hg ?_, ho, hl, fun i h1 h2 => (hi i h1 h2).grown hg hr⟩
  cases hv : v.ownBlock with
  | none => exact .inl rfl
  | some g => exact .inr (fun e => hr g e.symm (ho g hv))
theorem Ints.owner {own own' : Nat → Nat} {w : World} {v : Value} {l : List Nat} (h : Ints own w v l) (he : ∀ k, k < w.heap.size → own' k = own k) : Ints own' w v l := by
  obtain ⟨⟨k, h⟩, ho⟩ := h
  exact ⟨⟨k, h⟩, fun g hg => (he g (h.lt g hg).2).trans (ho g hg)⟩
theorem Wayz.owner {own own' : Nat → Nat} {w : World} {v : Value} {l : List (List Nat)} (h : Wayz own w v l) (he : ∀ k, k < w.heap.size → own' k = own k) : Wayz own' w v l := by
  obtain ⟨vs, h, ho, hl, hi⟩ := h
  exact ⟨vs, h, fun g hg => (he g (h.lt g hg).2).trans (ho g hg), hl, fun i h1 h2 => (hi i h1 h2).owner he⟩

theorem row_kept {own : Nat → Nat} {w w' : World} {base : Nat} {e : TypeId} {size : Nat} {v : Value} {n : Nat} {xs : List Value} {row : Option Nat} (c : Nat)
    (h : w.ownsRow base e size v n xs) (ho : ∀ g, v.ownBlock = some g → own g = c) (hg : w.grownBy w' row) (hr : ∀ g, row = some g → own g ≠ c) : w'.ownsRow base e size v n xs := by
  refine h.kept hg ?_
  cases hv : v.ownBlock with
  | none => exact .inl rfl
  | some g => exact .inr (fun e => hr g e.symm (ho g hv))

theorem St.grow {own : Nat → Nat} {w w' : World} {b : Nat} {m : PM} {σ : PSt} (h : St own w b m σ) (hg : w.grownBy w' none) : St own w' b m σ := by
  have hn : ∀ (c : Nat) (g : Nat), (none : Option Nat) = some g → own g ≠ c := fun _ _ e => by cases e
  exact ⟨h.blk.of_eq (hg.block b h.blk.lt (by simp)), h.ob, h.toks.kept hg (.inr (by simp [Value.ownBlock])), h.ot, row_kept 2 h.nums h.on hg (hn 2), h.on, row_kept 3 h.lo h.ol hg (hn 3), h.ol, row_kept 4 h.hi h.oh hg (hn 4), h.oh, row_kept 5 h.nodes h.od hg (hn 5), h.od, row_kept 6 h.parts h.op hg (hn 6), h.op, (fun p hp => (h.ways p hp).grown hg (hn 7)), h.wlen, h.tlen, h.ilt, h.wlo⟩
theorem St.alloc {own : Nat → Nat} {w : World} {b : Nat} {m : PM} {σ : PSt} (h : St own w b m σ) (o : Obj) : St own (w.alloc o) b m σ := h.grow (World.grownBy_alloc w o none)
theorem grownBy_drew (w : World) (row : Option Nat) : w.grownBy w.drew row := ⟨rfl, rfl, rfl, Nat.le_refl _, fun _ _ _ => rfl⟩
theorem St.drew {own : Nat → Nat} {w : World} {b : Nat} {m : PM} {σ : PSt} (h : St own w b m σ) : St own w.drew b m σ := h.grow (grownBy_drew w none)

theorem St.owner {own own' : Nat → Nat} {w : World} {b : Nat} {m : PM} {σ : PSt} (h : St own w b m σ) (he : ∀ k, k < w.heap.size → own' k = own k) : St own' w b m σ :=
  ⟨h.blk, (he b h.blk.lt).trans h.ob, h.toks, (he _ (h.toks.lt _ rfl).2).trans h.ot, h.nums, (fun g hg => (he g (h.nums.lt g hg).2).trans (h.on g hg)), h.lo, (fun g hg => (he g (h.lo.lt g hg).2).trans (h.ol g hg)), h.hi, (fun g hg => (he g (h.hi.lt g hg).2).trans (h.oh g hg)), h.nodes, (fun g hg => (he g (h.nodes.lt g hg).2).trans (h.od g hg)), h.parts, (fun g hg => (he g (h.parts.lt g hg).2).trans (h.op g hg)), (fun p hp => (h.ways p hp).owner he), h.wlen, h.tlen, h.ilt, h.wlo⟩

theorem grownBy_setCell (w : World) (a : Addr) (v : Value) : w.grownBy (w.setCell a v) (some a.block) :=
  ⟨rfl, rfl, rfl, by simp [World.setCell], fun k _ hk => Below.heap_setCell _ _ _ _ (fun e => hk (by rw [e]))⟩

theorem St.store {own : Nat → Nat} {w : World} {b : Nat} {m : PM} {σ σ' : PSt} (h : St own w b m σ) (k : Nat) (v : Value) (hc : (PCells m σ).setIfInBounds k v = PCells m σ')
    (ht : σ'.toks = σ.toks) (hn : σ'.nums = σ.nums) (hlo : σ'.lo = σ.lo) (hhi : σ'.hi = σ.hi) (hd : σ'.nodes = σ.nodes) (hp : σ'.parts = σ.parts) (hi : σ'.i < σ.toks.length) (hw : -1 ≤ σ'.wrong) : St own (w.setCell ⟨b, k, none⟩ v) b m σ' := by
  have hg := grownBy_setCell w ⟨b, k, none⟩ v
  have ho : ∀ (c : Nat), c ≠ 1 → ∀ (g : Nat), some b = some g → own g ≠ c := fun c hc g e => by cases e; rw [h.ob]; exact Ne.symm hc
  have htg : m.tg ≠ b := fun e => by have := h.ot; rw [e, h.ob] at this; cases this
  exact ⟨(by rw [← hc]; exact h.blk.set k v), h.ob, (by rw [ht]; exact h.toks.kept hg (.inr (by simp [Value.ownBlock, htg]))), h.ot, (by rw [hn]; exact row_kept 2 h.nums h.on hg (ho 2 (by decide))), h.on, (by rw [hlo]; exact row_kept 3 h.lo h.ol hg (ho 3 (by decide))), h.ol, (by rw [hhi]; exact row_kept 4 h.hi h.oh hg (ho 4 (by decide))), h.oh, (by rw [hd]; exact row_kept 5 h.nodes h.od hg (ho 5 (by decide))), h.od, (by rw [hp]; exact row_kept 6 h.parts h.op hg (ho 6 (by decide))), h.op, (by rw [hp]; exact fun p hp => (h.ways p hp).grown hg (ho 7 (by decide))), (by rw [hp]; exact h.wlen), (by rw [ht]; exact h.tlen), (by rw [ht]; exact hi), hw⟩

theorem row_moved {own : Nat → Nat} {w w' : World} {base : Nat} {e : TypeId} {size : Nat} {v : Value} {n : Nat} {xs : List Value} {row : Option Nat} {g : Nat} (c c0 : Nat)
    (h : w.ownsRow base e size v n xs) (ho : ∀ k, v.ownBlock = some k → own k = c) (hg : w.grownBy w' row) (hr : ∀ k, row = some k → own k = c0) (hc : c ≠ c0) (hat : row = some g ∨ g = w.heap.size) :
    w'.ownsRow base e size v n xs ∧ ∀ k, v.ownBlock = some k → put own g c0 k = c := by
  refine ⟨row_kept c h ho hg (fun k hk => by rw [hr k hk]; exact Ne.symm hc), fun k hk => ?_⟩
  rw [put_other]; exact ho k hk
  intro e
  subst e
  rcases hat with e | e
  · have := hr k e; rw [ho k hk] at this; exact hc this
  · have := (h.lt k hk).2; omega
theorem put_old {own : Nat → Nat} {w : World} {row : Option Nat} {g : Nat} (c0 : Nat) (hr : ∀ k, row = some k → own k = c0) (hat : row = some g ∨ g = w.heap.size) (k : Nat) (hk : k < w.heap.size) : put own g c0 k = own k := by
  by_cases e : k = g
  · subst e
    rcases hat with e | e
    · rw [put_same, hr k e]
    · omega
  · exact put_other _ _ _ _ e
theorem Ints.moved {own : Nat → Nat} {w w' : World} {v : Value} {l : List Nat} {row : Option Nat} {g : Nat} (c0 : Nat) (h : Ints own w v l) (hg : w.grownBy w' row) (hr : ∀ k, row = some k → own k = c0) (hc : 7 ≠ c0) (hat : row = some g ∨ g = w.heap.size) : Ints (put own g c0) w' v l := by
  obtain ⟨⟨k, h⟩, ho⟩ := h
  have := row_moved (g := g) 7 c0 h ho hg hr hc hat
  exact ⟨⟨k, this.1⟩, this.2⟩
theorem Wayz.moved {own : Nat → Nat} {w w' : World} {v : Value} {l : List (List Nat)} {row : Option Nat} {g : Nat} (c0 : Nat) (h : Wayz own w v l) (hg : w.grownBy w' row) (hr : ∀ k, row = some k → own k = c0) (hc : 7 ≠ c0) (hat : row = some g ∨ g = w.heap.size) : Wayz (put own g c0) w' v l := by
  obtain ⟨vs, h, ho, hl, hi⟩ := h
  have := row_moved (g := g) 7 c0 h ho hg hr hc hat
  exact ⟨vs, this.1, this.2, hl, fun i h1 h2 => (hi i h1 h2).moved c0 hg hr hc hat⟩
theorem flat_snoc {α : Type} (f : α → List Value) (l : List α) (x : α) : flat f (l ++ [x]) = flat f l ++ f x := by simp [flat]
theorem Ext.grown {own : Nat → Nat} {w w' : World} {row : Option Nat} {g : Nat} (c0 : Nat) (hg : w.grownBy w' row) (hr : ∀ k, row = some k → own k = c0) (hc : c0 < 7) (hat : row = some g ∨ g = w.heap.size) : Ext own w (put own g c0) w' :=
  ⟨fun k hk => put_old c0 hr hat k hk, ⟨hg.os, hg.tape, hg.output, hg.size, fun k hk => hg.block k hk.1 (fun e => by have := hr k e.symm; have := hk.2; omega)⟩⟩

theorem St.app_nums {own : Nat → Nat} {w w1 : World} {b : Nat} {m : PM} {σ : PSt} {g cap : Nat} (h : St own w b m σ) (x : RTok)
    (hown : w1.ownsRow 0 150 4 (.slice (some ⟨g, 0, none⟩) (σ.nums.length + 1) cap) (σ.nums.length + 1) (flat RTok.cells σ.nums ++ RTok.cells x))
    (hg : w.grownBy w1 m.nv.ownBlock) (hat : m.nv.ownBlock = some g ∨ g = w.heap.size) :
    St (put own g 2) (w1.setCell ⟨b, 5, none⟩ (.slice (some ⟨g, 0, none⟩) (σ.nums.length + 1) cap)) b { m with nv := .slice (some ⟨g, 0, none⟩) (σ.nums.length + 1) cap } { σ with nums := σ.nums ++ [x] } ∧
    Ext own w (put own g 2) (w1.setCell ⟨b, 5, none⟩ (.slice (some ⟨g, 0, none⟩) (σ.nums.length + 1) cap)) := by
  have hr := h.on
  have hob : put own g 2 b = 1 := (put_old 2 hr hat b h.blk.lt).trans h.ob
  have hblk : Blk w1 b (PCells m σ) 123 := h.blk.of_eq (hg.block b h.blk.lt (fun e => by have := hr b e.symm; rw [h.ob] at this; cases this))
  have hgb := grownBy_setCell w1 ⟨b, 5, none⟩ (.slice (some ⟨g, 0, none⟩) (σ.nums.length + 1) cap)
  have ho : ∀ (c : Nat), c ≠ 1 → ∀ (k : Nat), some b = some k → put own g 2 k ≠ c := fun c hc k e => by cases e; rw [hob]; exact Ne.symm hc
  have toks := row_moved (g := g) 7 2 h.toks (fun k e => by cases e; exact h.ot) hg hr (by decide) hat
  have rlo := row_moved (g := g) 3 2 h.lo h.ol hg hr (by decide) hat
  have rhi := row_moved (g := g) 4 2 h.hi h.oh hg hr (by decide) hat
  have rnodes := row_moved (g := g) 5 2 h.nodes h.od hg hr (by decide) hat
  have rparts := row_moved (g := g) 6 2 h.parts h.op hg hr (by decide) hat
  have ways : ∀ p ∈ σ.parts.zip m.wvs, Wayz (put own g 2) w1 p.2 p.1.ways := fun p hp => (h.ways p hp).moved 2 hg hr (by decide) hat
  exact ⟨⟨(by have := hblk.set 5 (.slice (some ⟨g, 0, none⟩) (σ.nums.length + 1) cap); simpa [PCells] using this),
    hob,
    (row_kept 7 toks.1 toks.2 hgb (ho 7 (by decide))),
    (toks.2 _ rfl),
    (by simp only [flat_snoc, List.length_append, List.length_cons, List.length_nil, Nat.zero_add]; exact row_kept 2 hown (own := put own g 2) (fun k e => by cases e; exact put_same _ _ _) hgb (ho 2 (by decide))),
    (fun k e => by cases e; exact put_same _ _ _),
    (row_kept 3 rlo.1 rlo.2 hgb (ho 3 (by decide))),
    rlo.2,
    (row_kept 4 rhi.1 rhi.2 hgb (ho 4 (by decide))),
    rhi.2,
    (row_kept 5 rnodes.1 rnodes.2 hgb (ho 5 (by decide))),
    rnodes.2,
    (row_kept 6 rparts.1 rparts.2 hgb (ho 6 (by decide))),
    rparts.2,
    (fun p hp => (ways p hp).grown hgb (ho 7 (by decide))),
    h.wlen,
    h.tlen,
    h.ilt,
    h.wlo⟩,
    (Ext.grown (g := g) 2 hg hr (by decide) hat).setCell (p := ⟨b, 5, none⟩) (by rw [hob]; decide) _⟩

theorem St.app_lo {own : Nat → Nat} {w w1 : World} {b : Nat} {m : PM} {σ : PSt} {g cap : Nat} (h : St own w b m σ) (x : Int)
    (hown : w1.ownsRow 0 3 1 (.slice (some ⟨g, 0, none⟩) (σ.lo.length + 1) cap) (σ.lo.length + 1) (σ.lo.map (Value.int .i64) ++ [Value.int .i64 x]))
    (hg : w.grownBy w1 m.lv.ownBlock) (hat : m.lv.ownBlock = some g ∨ g = w.heap.size) :
    St (put own g 3) (w1.setCell ⟨b, 6, none⟩ (.slice (some ⟨g, 0, none⟩) (σ.lo.length + 1) cap)) b { m with lv := .slice (some ⟨g, 0, none⟩) (σ.lo.length + 1) cap } { σ with lo := σ.lo ++ [x] } ∧
    Ext own w (put own g 3) (w1.setCell ⟨b, 6, none⟩ (.slice (some ⟨g, 0, none⟩) (σ.lo.length + 1) cap)) := by
  have hr := h.ol
  have hob : put own g 3 b = 1 := (put_old 3 hr hat b h.blk.lt).trans h.ob
  have hblk : Blk w1 b (PCells m σ) 123 := h.blk.of_eq (hg.block b h.blk.lt (fun e => by have := hr b e.symm; rw [h.ob] at this; cases this))
  have hgb := grownBy_setCell w1 ⟨b, 6, none⟩ (.slice (some ⟨g, 0, none⟩) (σ.lo.length + 1) cap)
  have ho : ∀ (c : Nat), c ≠ 1 → ∀ (k : Nat), some b = some k → put own g 3 k ≠ c := fun c hc k e => by cases e; rw [hob]; exact Ne.symm hc
  have toks := row_moved (g := g) 7 3 h.toks (fun k e => by cases e; exact h.ot) hg hr (by decide) hat
  have rnums := row_moved (g := g) 2 3 h.nums h.on hg hr (by decide) hat
  have rhi := row_moved (g := g) 4 3 h.hi h.oh hg hr (by decide) hat
  have rnodes := row_moved (g := g) 5 3 h.nodes h.od hg hr (by decide) hat
  have rparts := row_moved (g := g) 6 3 h.parts h.op hg hr (by decide) hat
  have ways : ∀ p ∈ σ.parts.zip m.wvs, Wayz (put own g 3) w1 p.2 p.1.ways := fun p hp => (h.ways p hp).moved 3 hg hr (by decide) hat
  exact ⟨⟨(by have := hblk.set 6 (.slice (some ⟨g, 0, none⟩) (σ.lo.length + 1) cap); simpa [PCells] using this),
    hob,
    (row_kept 7 toks.1 toks.2 hgb (ho 7 (by decide))),
    (toks.2 _ rfl),
    (row_kept 2 rnums.1 rnums.2 hgb (ho 2 (by decide))),
    rnums.2,
    (by simp only [List.map_append, List.map_cons, List.map_nil, List.length_append, List.length_cons, List.length_nil, Nat.zero_add]; exact row_kept 3 hown (own := put own g 3) (fun k e => by cases e; exact put_same _ _ _) hgb (ho 3 (by decide))),
    (fun k e => by cases e; exact put_same _ _ _),
    (row_kept 4 rhi.1 rhi.2 hgb (ho 4 (by decide))),
    rhi.2,
    (row_kept 5 rnodes.1 rnodes.2 hgb (ho 5 (by decide))),
    rnodes.2,
    (row_kept 6 rparts.1 rparts.2 hgb (ho 6 (by decide))),
    rparts.2,
    (fun p hp => (ways p hp).grown hgb (ho 7 (by decide))),
    h.wlen,
    h.tlen,
    h.ilt,
    h.wlo⟩,
    (Ext.grown (g := g) 3 hg hr (by decide) hat).setCell (p := ⟨b, 6, none⟩) (by rw [hob]; decide) _⟩

theorem St.app_hi {own : Nat → Nat} {w w1 : World} {b : Nat} {m : PM} {σ : PSt} {g cap : Nat} (h : St own w b m σ) (x : Int)
    (hown : w1.ownsRow 0 3 1 (.slice (some ⟨g, 0, none⟩) (σ.hi.length + 1) cap) (σ.hi.length + 1) (σ.hi.map (Value.int .i64) ++ [Value.int .i64 x]))
    (hg : w.grownBy w1 m.hv.ownBlock) (hat : m.hv.ownBlock = some g ∨ g = w.heap.size) :
    St (put own g 4) (w1.setCell ⟨b, 7, none⟩ (.slice (some ⟨g, 0, none⟩) (σ.hi.length + 1) cap)) b { m with hv := .slice (some ⟨g, 0, none⟩) (σ.hi.length + 1) cap } { σ with hi := σ.hi ++ [x] } ∧
    Ext own w (put own g 4) (w1.setCell ⟨b, 7, none⟩ (.slice (some ⟨g, 0, none⟩) (σ.hi.length + 1) cap)) := by
  have hr := h.oh
  have hob : put own g 4 b = 1 := (put_old 4 hr hat b h.blk.lt).trans h.ob
  have hblk : Blk w1 b (PCells m σ) 123 := h.blk.of_eq (hg.block b h.blk.lt (fun e => by have := hr b e.symm; rw [h.ob] at this; cases this))
  have hgb := grownBy_setCell w1 ⟨b, 7, none⟩ (.slice (some ⟨g, 0, none⟩) (σ.hi.length + 1) cap)
  have ho : ∀ (c : Nat), c ≠ 1 → ∀ (k : Nat), some b = some k → put own g 4 k ≠ c := fun c hc k e => by cases e; rw [hob]; exact Ne.symm hc
  have toks := row_moved (g := g) 7 4 h.toks (fun k e => by cases e; exact h.ot) hg hr (by decide) hat
  have rnums := row_moved (g := g) 2 4 h.nums h.on hg hr (by decide) hat
  have rlo := row_moved (g := g) 3 4 h.lo h.ol hg hr (by decide) hat
  have rnodes := row_moved (g := g) 5 4 h.nodes h.od hg hr (by decide) hat
  have rparts := row_moved (g := g) 6 4 h.parts h.op hg hr (by decide) hat
  have ways : ∀ p ∈ σ.parts.zip m.wvs, Wayz (put own g 4) w1 p.2 p.1.ways := fun p hp => (h.ways p hp).moved 4 hg hr (by decide) hat
  exact ⟨⟨(by have := hblk.set 7 (.slice (some ⟨g, 0, none⟩) (σ.hi.length + 1) cap); simpa [PCells] using this),
    hob,
    (row_kept 7 toks.1 toks.2 hgb (ho 7 (by decide))),
    (toks.2 _ rfl),
    (row_kept 2 rnums.1 rnums.2 hgb (ho 2 (by decide))),
    rnums.2,
    (row_kept 3 rlo.1 rlo.2 hgb (ho 3 (by decide))),
    rlo.2,
    (by simp only [List.map_append, List.map_cons, List.map_nil, List.length_append, List.length_cons, List.length_nil, Nat.zero_add]; exact row_kept 4 hown (own := put own g 4) (fun k e => by cases e; exact put_same _ _ _) hgb (ho 4 (by decide))),
    (fun k e => by cases e; exact put_same _ _ _),
    (row_kept 5 rnodes.1 rnodes.2 hgb (ho 5 (by decide))),
    rnodes.2,
    (row_kept 6 rparts.1 rparts.2 hgb (ho 6 (by decide))),
    rparts.2,
    (fun p hp => (ways p hp).grown hgb (ho 7 (by decide))),
    h.wlen,
    h.tlen,
    h.ilt,
    h.wlo⟩,
    (Ext.grown (g := g) 4 hg hr (by decide) hat).setCell (p := ⟨b, 7, none⟩) (by rw [hob]; decide) _⟩

theorem St.app_nodes {own : Nat → Nat} {w w1 : World} {b : Nat} {m : PM} {σ : PSt} {g cap : Nat} (h : St own w b m σ) (x : RNode)
    (hown : w1.ownsRow 0 248 7 (.slice (some ⟨g, 0, none⟩) (σ.nodes.length + 1) cap) (σ.nodes.length + 1) (flat RNode.cells σ.nodes ++ RNode.cells x))
    (hg : w.grownBy w1 m.dv.ownBlock) (hat : m.dv.ownBlock = some g ∨ g = w.heap.size) :
    St (put own g 5) (w1.setCell ⟨b, 8, none⟩ (.slice (some ⟨g, 0, none⟩) (σ.nodes.length + 1) cap)) b { m with dv := .slice (some ⟨g, 0, none⟩) (σ.nodes.length + 1) cap } { σ with nodes := σ.nodes ++ [x] } ∧
    Ext own w (put own g 5) (w1.setCell ⟨b, 8, none⟩ (.slice (some ⟨g, 0, none⟩) (σ.nodes.length + 1) cap)) := by
  have hr := h.od
  have hob : put own g 5 b = 1 := (put_old 5 hr hat b h.blk.lt).trans h.ob
  have hblk : Blk w1 b (PCells m σ) 123 := h.blk.of_eq (hg.block b h.blk.lt (fun e => by have := hr b e.symm; rw [h.ob] at this; cases this))
  have hgb := grownBy_setCell w1 ⟨b, 8, none⟩ (.slice (some ⟨g, 0, none⟩) (σ.nodes.length + 1) cap)
  have ho : ∀ (c : Nat), c ≠ 1 → ∀ (k : Nat), some b = some k → put own g 5 k ≠ c := fun c hc k e => by cases e; rw [hob]; exact Ne.symm hc
  have toks := row_moved (g := g) 7 5 h.toks (fun k e => by cases e; exact h.ot) hg hr (by decide) hat
  have rnums := row_moved (g := g) 2 5 h.nums h.on hg hr (by decide) hat
  have rlo := row_moved (g := g) 3 5 h.lo h.ol hg hr (by decide) hat
  have rhi := row_moved (g := g) 4 5 h.hi h.oh hg hr (by decide) hat
  have rparts := row_moved (g := g) 6 5 h.parts h.op hg hr (by decide) hat
  have ways : ∀ p ∈ σ.parts.zip m.wvs, Wayz (put own g 5) w1 p.2 p.1.ways := fun p hp => (h.ways p hp).moved 5 hg hr (by decide) hat
  exact ⟨⟨(by have := hblk.set 8 (.slice (some ⟨g, 0, none⟩) (σ.nodes.length + 1) cap); simpa [PCells] using this),
    hob,
    (row_kept 7 toks.1 toks.2 hgb (ho 7 (by decide))),
    (toks.2 _ rfl),
    (row_kept 2 rnums.1 rnums.2 hgb (ho 2 (by decide))),
    rnums.2,
    (row_kept 3 rlo.1 rlo.2 hgb (ho 3 (by decide))),
    rlo.2,
    (row_kept 4 rhi.1 rhi.2 hgb (ho 4 (by decide))),
    rhi.2,
    (by simp only [flat_snoc, List.length_append, List.length_cons, List.length_nil, Nat.zero_add]; exact row_kept 5 hown (own := put own g 5) (fun k e => by cases e; exact put_same _ _ _) hgb (ho 5 (by decide))),
    (fun k e => by cases e; exact put_same _ _ _),
    (row_kept 6 rparts.1 rparts.2 hgb (ho 6 (by decide))),
    rparts.2,
    (fun p hp => (ways p hp).grown hgb (ho 7 (by decide))),
    h.wlen,
    h.tlen,
    h.ilt,
    h.wlo⟩,
    (Ext.grown (g := g) 5 hg hr (by decide) hat).setCell (p := ⟨b, 8, none⟩) (by rw [hob]; decide) _⟩

theorem zip_snoc {α β : Type} (l : List α) (l' : List β) (x : α) (y : β) (h : l'.length = l.length) : (l ++ [x]).zip (l' ++ [y]) = l.zip l' ++ [(x, y)] := by
  rw [List.zip_append h.symm]; rfl
theorem St.app_parts {own : Nat → Nat} {w w1 : World} {b : Nat} {m : PM} {σ : PSt} {g cap : Nat} (h : St own w b m σ) (x : RPart) (wv : Value) (hx : Wayz own w wv x.ways)
    (hown : w1.ownsRow 0 202 7 (.slice (some ⟨g, 0, none⟩) (σ.parts.length + 1) cap) (σ.parts.length + 1) (flat RPart.cells (σ.parts.zip m.wvs) ++ RPart.cells (x, wv)))
    (hg : w.grownBy w1 m.pv.ownBlock) (hat : m.pv.ownBlock = some g ∨ g = w.heap.size) :
    St (put own g 6) (w1.setCell ⟨b, 9, none⟩ (.slice (some ⟨g, 0, none⟩) (σ.parts.length + 1) cap)) b { m with pv := .slice (some ⟨g, 0, none⟩) (σ.parts.length + 1) cap, wvs := m.wvs ++ [wv] } { σ with parts := σ.parts ++ [x] } ∧
    Ext own w (put own g 6) (w1.setCell ⟨b, 9, none⟩ (.slice (some ⟨g, 0, none⟩) (σ.parts.length + 1) cap)) := by
  have hr := h.op
  have hob : put own g 6 b = 1 := (put_old 6 hr hat b h.blk.lt).trans h.ob
  have hblk : Blk w1 b (PCells m σ) 123 := h.blk.of_eq (hg.block b h.blk.lt (fun e => by have := hr b e.symm; rw [h.ob] at this; cases this))
  have hgb := grownBy_setCell w1 ⟨b, 9, none⟩ (.slice (some ⟨g, 0, none⟩) (σ.parts.length + 1) cap)
  have ho : ∀ (c : Nat), c ≠ 1 → ∀ (k : Nat), some b = some k → put own g 6 k ≠ c := fun c hc k e => by cases e; rw [hob]; exact Ne.symm hc
  have toks := row_moved (g := g) 7 6 h.toks (fun k e => by cases e; exact h.ot) hg hr (by decide) hat
  have rnums := row_moved (g := g) 2 6 h.nums h.on hg hr (by decide) hat
  have rlo := row_moved (g := g) 3 6 h.lo h.ol hg hr (by decide) hat
  have rhi := row_moved (g := g) 4 6 h.hi h.oh hg hr (by decide) hat
  have rnodes := row_moved (g := g) 5 6 h.nodes h.od hg hr (by decide) hat
  have ways : ∀ p ∈ σ.parts.zip m.wvs, Wayz (put own g 6) w1 p.2 p.1.ways := fun p hp => (h.ways p hp).moved 6 hg hr (by decide) hat
  have wayx := hx.moved 6 hg hr (by decide) hat
  exact ⟨⟨(by have := hblk.set 9 (.slice (some ⟨g, 0, none⟩) (σ.parts.length + 1) cap); simpa [PCells] using this),
    hob,
    (row_kept 7 toks.1 toks.2 hgb (ho 7 (by decide))),
    (toks.2 _ rfl),
    (row_kept 2 rnums.1 rnums.2 hgb (ho 2 (by decide))),
    rnums.2,
    (row_kept 3 rlo.1 rlo.2 hgb (ho 3 (by decide))),
    rlo.2,
    (row_kept 4 rhi.1 rhi.2 hgb (ho 4 (by decide))),
    rhi.2,
    (row_kept 5 rnodes.1 rnodes.2 hgb (ho 5 (by decide))),
    rnodes.2,
    (by simp only [zip_snoc _ _ _ _ h.wlen, flat_snoc, List.length_append, List.length_cons, List.length_nil, Nat.zero_add]; exact row_kept 6 hown (own := put own g 6) (fun k e => by cases e; exact put_same _ _ _) hgb (ho 6 (by decide))),
    (fun k e => by cases e; exact put_same _ _ _),
    (fun p hp => by simp only [zip_snoc _ _ _ _ h.wlen] at hp; rcases List.mem_append.1 hp with hp | hp; exact (ways p hp).grown hgb (ho 7 (by decide)); simp at hp; subst hp; exact wayx.grown hgb (ho 7 (by decide))),
    (by simp [h.wlen]),
    h.tlen,
    h.ilt,
    h.wlo⟩,
    (Ext.grown (g := g) 6 hg hr (by decide) hat).setCell (p := ⟨b, 9, none⟩) (by rw [hob]; decide) _⟩

theorem St.far {own : Nat → Nat} {w w1 : World} {b : Nat} {m : PM} {σ : PSt} {row : Option Nat} {c0 : Nat} (h : St own w b m σ) (hg : w.grownBy w1 row) (hr : ∀ k, row = some k → own k = c0) (hc : 1 ≠ c0) : Blk w1 b (PCells m σ) 123 :=
  h.blk.of_eq (hg.block b h.blk.lt (fun e => by have := hr b e.symm; rw [h.ob] at this; exact hc this))
theorem Blk.far {own : Nat → Nat} {w w1 : World} {b : Nat} {cs : Array Value} {t : TypeId} {row : Option Nat} {c0 c : Nat} (h : Blk w b cs t) (ho : own b = c) (hg : w.grownBy w1 row) (hr : ∀ k, row = some k → own k = c0) (hc : c ≠ c0) : Blk w1 b cs t :=
  h.of_eq (hg.block b h.lt (fun e => by have := hr b e.symm; rw [ho] at this; exact hc this))

theorem St.write8 {own : Nat → Nat} {w : World} {b : Nat} {m : PM} {σ : PSt} (h : St own w b m σ) {p : Addr} (hp : own p.block = 8) (v : Value) : St own (w.setCell p v) b m σ := by
  have hg := grownBy_setCell w p v
  have ho : ∀ (c : Nat), c ≠ 8 → ∀ (g : Nat), some p.block = some g → own g ≠ c := fun c hc g e => by cases e; rw [hp]; exact Ne.symm hc
  exact ⟨h.blk.other p v (fun e => by rw [e, h.ob] at hp; cases hp), h.ob, row_kept 7 h.toks (fun g e => by cases e; exact h.ot) hg (ho 7 (by decide)), h.ot,
    row_kept 2 h.nums h.on hg (ho 2 (by decide)), h.on, row_kept 3 h.lo h.ol hg (ho 3 (by decide)), h.ol, row_kept 4 h.hi h.oh hg (ho 4 (by decide)), h.oh,
    row_kept 5 h.nodes h.od hg (ho 5 (by decide)), h.od, row_kept 6 h.parts h.op hg (ho 6 (by decide)), h.op,
    fun q hq => (h.ways q hq).grown hg (ho 7 (by decide)), h.wlen, h.tlen, h.ilt, h.wlo⟩

theorem flat_get {α : Type} (f : α → List Value) (n : Nat) (hf : ∀ x, (f x).length = n) (l : List α) (i j : Nat) (hi : i < l.length) (hj : j < n) : (flat f l)[i * n + j]? = (f l[i])[j]? := by
  induction l generalizing i with
  | nil => simp at hi
  | cons x l ih =>
    have e : flat f (x :: l) = f x ++ flat f l := rfl
    rw [e]
    cases i with
    | zero => simp [List.getElem?_append_left, hf, hj]
    | succ i =>
      have hx := hf x
      rw [List.getElem?_append_right (by rw [hx, Nat.succ_mul]; omega), hx, show (i + 1) * n + j - n = i * n + j by rw [Nat.succ_mul]; omega]
      simpa using ih i (by simpa using hi)

theorem St.tok {own : Nat → Nat} {w : World} {b : Nat} {m : PM} {σ : PSt} (h : St own w b m σ) :
    w.cell? ⟨m.tg, σ.i * 4, none⟩ = some (.int .i64 σ.now.kind) ∧ w.cell? ⟨m.tg, σ.i * 4 + 1, none⟩ = some (.string σ.now.s) ∧ w.cell? ⟨m.tg, σ.i * 4 + 2, none⟩ = some (.int .i64 σ.now.pos) ∧ w.cell? ⟨m.tg, σ.i * 4 + 3, none⟩ = some (.int .i64 σ.now.n) := by
  have hn : σ.now = σ.toks[σ.i]'h.ilt := by simp [PSt.now, h.ilt]
  have key : ∀ j, j < 4 → ∀ u, (RTok.cells σ.now)[j]? = some u → w.cell? ⟨m.tg, σ.i * 4 + j, none⟩ = some u := by
    intro j hj u hu
    have := h.toks.cells (g := m.tg) rfl (σ.i * 4 + j) u (by rw [flat_get RTok.cells 4 (fun _ => rfl) _ _ _ h.ilt hj, ← hn]; exact hu)
    have hadd : (⟨m.tg, 0, none⟩ : Addr).add (σ.i * 4 + j) = ⟨m.tg, σ.i * 4 + j, none⟩ := by unfold Addr.add; split <;> simp_all
    rw [hadd] at this; exact this
  exact ⟨key 0 (by decide) _ rfl, key 1 (by decide) _ rfl, key 2 (by decide) _ rfl, key 3 (by decide) _ rfl⟩

theorem St.cell {own : Nat → Nat} {w : World} {b : Nat} {m : PM} {σ : PSt} (h : St own w b m σ) (k : Nat) : w.cell? ⟨b, k, none⟩ = (PCells m σ)[k]? := h.blk.cell k

set_option maxHeartbeats 400000 in
theorem now_any {own : Nat → Nat} {w : World} {b : Nat} {m : PM} {σ : PSt} (h : St own w b m σ) :
    Calls Tryz.prog 96 #[.pointer (some ⟨b, 0, none⟩)] w fun e w' => e = .returned (.agg #[.int .i64 σ.now.kind, .string σ.now.s, .int .i64 σ.now.pos, .int .i64 σ.now.n]) ∧ ∃ o, w' = (w.alloc o).drew := by
  obtain ⟨h0, h1, h2, h3⟩ := h.tok
  have hT := h.cell 0
  have hI := h.cell 1
  have hl := h.ilt
  have hii : (σ.i : Int) < (σ.toks.length : Int) := by omega
  have hi0 : (0 : Int) ≤ (σ.i : Int) := by omega
  simp [PCells] at hT hI
  generalize σ.now.kind = k at *
  generalize σ.now.s = s at *
  generalize σ.now.pos = at_ at *
  generalize σ.now.n = n at *
  generalize σ.i = i at *
  generalize m.tg = tb at *
  generalize σ.toks.length = len at *
  generalize m.tcap = cap at *
  clear h
  go_enter Tryz.func96, Tryz.ntmps96
  go_wp2
  go_region_held3 (fun w' => w'.cell? ⟨b, 0, none⟩ = some (.slice (some ⟨tb, 0, none⟩) len cap) ∧ w'.cell? ⟨b, 1, none⟩ = some (.int .i64 i) ∧ w'.cell? ⟨tb, i * 4, none⟩ = some (.int .i64 k) ∧ w'.cell? ⟨tb, i * 4 + 1, none⟩ = some (.string s) ∧ w'.cell? ⟨tb, i * 4 + 2, none⟩ = some (.int .i64 at_) ∧ w'.cell? ⟨tb, i * 4 + 3, none⟩ = some (.int .i64 n)) (go_keep) (fail)
  all_goals go_wp2
  exact bodyPost_ret (v := .agg #[.int .i64 k, .string s, .int .i64 at_, .int .i64 n]) (by simp [results, Tryz.results96, go_sem]) rfl ⟨rfl, _, rfl⟩
end Go.Proofs.YtddbjcfdmdbmkaaGreatDoor

namespace Go.Proofs.YtddbjcfdmdbmkaaGreatDoor
open Go.RowKit

def isBlankB (c : UInt8) : Bool := c == 32 || c == 10
def isSmallB (c : UInt8) : Bool := decide (97 ≤ c.toNat) && decide (c.toNat ≤ 122)
def isDigitB (c : UInt8) : Bool := decide (48 ≤ c.toNat) && decide (c.toNat ≤ 57)
def spanTo (p : UInt8 → Bool) (s : ByteArray) (i : Nat) : Nat := i + ((s.data.toList.drop i).takeWhile p).length
theorem drop_cons (s : ByteArray) (k : Nat) (h : k < s.size) : s.data.toList.drop k = s[k] :: s.data.toList.drop (k + 1) := by
  rw [List.drop_eq_getElem_cons (by simpa using h)]; rfl
theorem span_step (p : UInt8 → Bool) (s : ByteArray) (k : Nat) (h : k < s.size) (hp : p s[k] = true) : spanTo p s (k + 1) = spanTo p s k := by
  unfold spanTo
  rw [drop_cons s k h, List.takeWhile_cons, if_pos hp]
  simp; omega
theorem span_stop (p : UInt8 → Bool) (s : ByteArray) (k : Nat) (h : k < s.size) (hp : p s[k] = false) : spanTo p s k = k := by
  unfold spanTo
  rw [drop_cons s k h, List.takeWhile_cons, if_neg (by simp [hp])]
  simp
theorem span_end (p : UInt8 → Bool) (s : ByteArray) (k : Nat) (h : s.size ≤ k) : spanTo p s k = k := by
  unfold spanTo
  rw [List.drop_eq_nil_of_le (by simpa using h)]
  simp
theorem span_ge (p : UInt8 → Bool) (s : ByteArray) (k : Nat) : k ≤ spanTo p s k := by unfold spanTo; omega
theorem span_le (p : UInt8 → Bool) (s : ByteArray) (k : Nat) (h : k ≤ s.size) : spanTo p s k ≤ s.size := by
  unfold spanTo
  have := (List.takeWhile_sublist p (l := s.data.toList.drop k)).length_le
  simp at this
  have e : s.data.size = s.size := rfl
  omega
theorem span_here (p : UInt8 → Bool) (s : ByteArray) (k : Nat) (h : k ≤ s.size) : spanTo p s (spanTo p s k) = spanTo p s k := by
  have key : ∀ n k, s.size - k = n → k ≤ s.size → spanTo p s (spanTo p s k) = spanTo p s k := by
    intro n
    induction n with
    | zero => intro k h1 h2; rw [span_end p s k (by omega), span_end p s k (by omega)]
    | succ n ih =>
      intro k h1 h2
      have hlt : k < s.size := by omega
      cases hp : p s[k] with
      | true => rw [← span_step p s k hlt hp]; exact ih (k + 1) (by omega) (by omega)
      | false => rw [span_stop p s k hlt hp, span_stop p s k hlt hp]
  exact key _ k rfl h

theorem byte_at (s : ByteArray) (i : Nat) (h : i < s.size) : s.data.toList.getD i 0 = s[i] := by
  have h' : i < s.data.toList.length := by simpa using h
  rw [List.getD_eq_getElem?_getD, List.getElem?_eq_getElem h']; rfl
def nval (l : List UInt8) : Nat := (l.take 9).foldl (fun n c => 10 * n + (c.toNat - 48)) 0
def nvS (s : ByteArray) (k j : Nat) : Nat := nval ((s.data.toList.drop k).take j)
theorem nvS_zero (s : ByteArray) (k : Nat) : nvS s k 0 = 0 := by simp [nvS, nval]
theorem nvS_lt (s : ByteArray) (k j : Nat) (h : k + j < s.size) (hj : j < 9) : nvS s k (j + 1) = 10 * nvS s k j + (s[k + j].toNat - 48) := by
  unfold nvS nval
  have hl : j < (s.data.toList.drop k).length := by
    have e : s.data.size = s.size := rfl
    simp; omega
  rw [List.take_take, List.take_take, Nat.min_eq_right (by omega), Nat.min_eq_right (by omega), List.take_succ_eq_append_getElem hl, List.foldl_append]
  simp only [List.foldl_cons, List.foldl_nil, List.getElem_drop]
  rfl
theorem nvS_ge (s : ByteArray) (k j : Nat) (hj : 9 ≤ j) : nvS s k (j + 1) = nvS s k j := by
  unfold nvS nval
  rw [List.take_take, List.take_take, Nat.min_eq_left (by omega), Nat.min_eq_left (by omega)]
theorem nvS_at (s : ByteArray) (k k2 : Nat) (h : k ≤ k2) (hlt : k2 < s.size) (h9 : k2 - k < 9) : nvS s k (k2 + 1 - k) = 10 * nvS s k (k2 - k) + (s[k2].toNat - 48) := by
  obtain ⟨j, rfl⟩ : ∃ j, k2 = k + j := ⟨k2 - k, by omega⟩
  rw [show k + j + 1 - k = j + 1 by omega, show k + j - k = j by omega]
  exact nvS_lt s k j hlt (by omega)
def Nine (v j : Nat) : Prop := v + 1 ≤ 10 ^ (min j 9)
theorem Nine.zero : Nine 0 0 := by simp [Nine]
theorem Nine.lt {v j d : Nat} (h : Nine v j) (hj : j < 9) (hd : d ≤ 9) : Nine (10 * v + d) (j + 1) := by
  unfold Nine at *
  rw [Nat.min_eq_left (by omega)] at *
  rw [Nat.pow_succ]
  generalize 10 ^ j = p at *
  omega
theorem Nine.ge {v j : Nat} (h : Nine v j) (hj : 9 ≤ j) : Nine v (j + 1) := by
  unfold Nine at *
  rw [Nat.min_eq_right (by omega)] at *
  exact h
theorem Nine.le {v j : Nat} (h : Nine v j) : v ≤ 999999999 := by
  unfold Nine at h
  have : 10 ^ (min j 9) ≤ 10 ^ 9 := Nat.pow_le_pow_right (by decide) (Nat.min_le_right _ _)
  omega
def signs1 : List UInt8 := [40, 41, 124, 58, 46, 43, 45, 42, 47, 61, 60, 62]
def isTwoB (s : ByteArray) (i : Nat) : Bool := decide (i + 1 < s.size) && (s.data.toList.getD (i + 1) 0 == 61) && memB (s.data.toList.getD i 0) [33, 60, 62]
def isOneB (s : ByteArray) (i : Nat) : Bool := memB (s.data.toList.getD i 0) signs1
def lexStep (s : ByteArray) (at_ : Nat) : RTok × Option Nat :=
  let i := spanTo isBlankB s at_
  if s.size ≤ i then (⟨3, ⟨#[]⟩, i, 0⟩, none)
  else if isSmallB (s.data.toList.getD i 0) then (⟨0, s.extract i (spanTo isSmallB s i), i, 0⟩, some (spanTo isSmallB s i))
  else if isDigitB (s.data.toList.getD i 0) then
    (if 9 < spanTo isDigitB s i - i then (⟨4, ⟨#[]⟩, i, nvS s i (spanTo isDigitB s i - i)⟩, none)
     else (⟨1, s.extract i (spanTo isDigitB s i), i, nvS s i (spanTo isDigitB s i - i)⟩, some (spanTo isDigitB s i)))
  else if isTwoB s i then (⟨2, s.extract i (i + 2), i, 0⟩, some (i + 2))
  else if isOneB s i then (⟨2, s.extract i (i + 1), i, 0⟩, some (i + 1))
  else (⟨4, ⟨#[]⟩, i, 0⟩, none)
inductive LX (s : ByteArray) : Nat → List RTok → Prop
  | last {at_ : Nat} {t : RTok} : lexStep s at_ = (t, none) → LX s at_ [t]
  | more {at_ k : Nat} {t : RTok} {l : List RTok} : lexStep s at_ = (t, some k) → LX s k l → LX s at_ (t :: l)
theorem lexStep_lt {s : ByteArray} {at_ k : Nat} {t : RTok} (h : lexStep s at_ = (t, some k)) (ha : at_ ≤ s.size) : at_ < k ∧ k ≤ s.size := by
  have h1 := span_ge isBlankB s at_
  have h2 := span_le isBlankB s at_ ha
  unfold lexStep at h
  simp only at h
  generalize spanTo isBlankB s at_ = i at *
  split at h
  · cases h
  · have hi : i < s.size := by omega
    have hg := byte_at s i hi
    split at h
    · rename_i hs
      rw [hg] at hs
      have h3 := span_ge isSmallB s (i + 1)
      have h4 := span_step isSmallB s i hi hs
      have h5 := span_le isSmallB s i h2
      cases h; omega
    · split at h
      · rename_i hs
        rw [hg] at hs
        have h3 := span_ge isDigitB s (i + 1)
        have h4 := span_step isDigitB s i hi hs
        have h5 := span_le isDigitB s i h2
        split at h
        · cases h
        · cases h; omega
      · split at h
        · rename_i ht
          simp [isTwoB] at ht
          cases h; omega
        · split at h
          · cases h; omega
          · cases h
theorem lex_total (s : ByteArray) : ∀ n at_, s.size - at_ = n → at_ ≤ s.size → ∃ l, LX s at_ l := by
  intro n
  induction n using Nat.strongRecOn with
  | _ n ih =>
    intro at_ h1 h2
    cases h : lexStep s at_ with
    | mk t k =>
      cases k with
      | none => exact ⟨[t], .last h⟩
      | some k =>
        have hk := lexStep_lt h h2
        obtain ⟨l, hl⟩ := ih (s.size - k) (by omega) k rfl hk.2
        exact ⟨t :: l, .more h hl⟩
end Go.Proofs.YtddbjcfdmdbmkaaGreatDoor

namespace Go.Proofs.YtddbjcfdmdbmkaaGreatDoor
open Go.RowKit

def PSt.bad (σ : PSt) : PSt := if σ.wrong < 0 then { σ with wrong := σ.now.pos } else σ

theorem St.own7 {own : Nat → Nat} {w : World} {b : Nat} {m : PM} {σ : PSt} (h : St own w b m σ) : own b < 7 := by rw [h.ob]; decide

theorem St.tgne {own : Nat → Nat} {w : World} {b : Nat} {m : PM} {σ : PSt} (h : St own w b m σ) : m.tg ≠ b := fun e => by have := h.ot; rw [e, h.ob] at this; cases this

set_option maxHeartbeats 400000 in
theorem bad_any {own : Nat → Nat} {w : World} {b : Nat} {m : PM} {σ : PSt} (h : St own w b m σ) :
    Calls Tryz.prog 97 #[.pointer (some ⟨b, 0, none⟩)] w fun e w' => e = .returned (.tuple #[]) ∧ St own w' b m σ.bad ∧ Ext own w own w' := by
  have hW := h.cell 2
  simp [PCells] at hW
  by_cases hw : σ.wrong < 0
  · have HF : Hid (St own ((w.setCell ⟨b, 2, none⟩ (.int .i64 σ.now.pos)).drew) b m σ.bad ∧ Ext own w own ((w.setCell ⟨b, 2, none⟩ (.int .i64 σ.now.pos)).drew)) := by
      refine ⟨(h.store (σ' := σ.bad) 2 _ ?_ ?_ ?_ ?_ ?_ ?_ ?_ ?_ ?_).drew, ((Ext.refl own w).setCell (p := ⟨b, 2, none⟩) h.own7 _).drew⟩ <;> simp [PSt.bad, hw, PCells, h.ilt]
    obtain ⟨h0, h1, h2, h3⟩ := h.tok
    have hT := h.cell 0
    have hI := h.cell 1
    have hfz := h.blk.frozen 2
    have hl := h.ilt
    have hii : (σ.i : Int) < (σ.toks.length : Int) := by omega
    have hi0 : (0 : Int) ≤ (σ.i : Int) := by omega
    simp [PCells] at hT hI
    generalize σ.now.kind = k at *
    generalize σ.now.s = s at *
    generalize σ.now.pos = at_ at *
    generalize σ.now.n = n at *
    generalize σ.i = i at *
    generalize σ.toks.length = len at *
    have htb : m.tg ≠ b := h.tgne
    have htb' : b ≠ m.tg := Ne.symm htb
    generalize m.tcap = cap at *
    generalize m.tg = tb at *
    clear h
    go_enter Tryz.func97, Tryz.ntmps97
    go_wp2
    go_region_held3 (fun w' => w'.cell? ⟨b, 0, none⟩ = some (.slice (some ⟨tb, 0, none⟩) len cap) ∧ w'.cell? ⟨b, 1, none⟩ = some (.int .i64 i) ∧ w'.cell? ⟨tb, i * 4 + 2, none⟩ = some (.int .i64 at_)) (simp [*, World.cell?_setCell_other]) (fail)
    all_goals go_wp2
    go_end0
    exact ⟨rfl, HF.out⟩
  · have hb : σ.bad = σ := by simp [PSt.bad, hw]
    rw [hb]
    go_enter Tryz.func97, Tryz.ntmps97
    go_wp2
    go_end0
    exact ⟨rfl, h, Ext.refl _ _⟩

def RTok.isS (t : RTok) (s : ByteArray) : Bool := (t.kind == 0 || t.kind == 2) && t.s.toList == s.toList
def PSt.isS (σ : PSt) (s : ByteArray) : Bool := decide (σ.wrong < 0) && σ.now.isS s

set_option maxHeartbeats 400000 in
theorem is_any {own : Nat → Nat} {w : World} {b : Nat} {m : PM} {σ : PSt} (h : St own w b m σ) (s : ByteArray) :
    Calls Tryz.prog 174 #[.pointer (some ⟨b, 0, none⟩), .string s] w fun e w' => e = .returned (.bool (σ.isS s)) ∧ St own w' b m σ ∧ Ext own w own w' := by
  have hW := h.cell 2
  have hlt := h.blk.lt
  simp [PCells] at hW
  go_enter Tryz.func174, Tryz.ntmps174
  go_wp2_with (go_at_call 96; refine (now_any h).mono ?_; rintro e w' ⟨rfl, o, rfl⟩)
  all_goals
    go_ret
    refine ⟨ret_bool ?_, ((h.alloc _).alloc _).drew, (((Ext.refl own w).alloc _).alloc _).drew⟩
  · have h1 : σ.wrong < 0 := by assumption
    have h2 : σ.now.kind = 0 := by assumption
    simp [PSt.isS, RTok.isS, h1, h2]
  · have h1 : σ.wrong < 0 := by assumption
    have h2 : (σ.now.kind : Int) = 2 := by assumption
    have h3 : σ.now.kind = 2 := by omega
    simp [PSt.isS, RTok.isS, h1, h3]
  · have h1 : σ.wrong < 0 := by assumption
    have h2 : ¬ (σ.now.kind : Int) = 2 := by assumption
    have h3 : ¬ σ.now.kind = 2 := by omega
    have h4 : ¬ σ.now.kind = 0 := by assumption
    simp [PSt.isS, RTok.isS, h3, h4]
  · have h1 : 0 ≤ σ.wrong := by assumption
    have h2 : ¬ σ.wrong < 0 := by omega
    simp [PSt.isS, h2]

def PSt.may (σ : PSt) (s : ByteArray) : PSt := if σ.isS s then { σ with i := σ.i + 1 } else σ

def Inv (σ : PSt) : Prop := ∀ i, (h : i < σ.toks.length) → σ.toks[i].kind ≤ 2 → i + 1 < σ.toks.length
theorem Inv.next {σ : PSt} (h : Inv σ) (hi : σ.i < σ.toks.length) (hk : σ.now.kind ≤ 2) : σ.i + 1 < σ.toks.length := by
  refine h σ.i hi ?_
  have hn : σ.now = σ.toks[σ.i] := by simp [PSt.now, hi]
  rw [← hn]; exact hk
theorem isS_kind {σ : PSt} {s : ByteArray} (h : σ.isS s = true) : σ.now.kind ≤ 2 ∧ σ.wrong < 0 := by
  simp [PSt.isS, RTok.isS] at h
  omega

set_option maxHeartbeats 400000 in
theorem may_any {own : Nat → Nat} {w : World} {b : Nat} {m : PM} {σ : PSt} (h : St own w b m σ) (hv : Inv σ) (s : ByteArray) :
    Calls Tryz.prog 142 #[.pointer (some ⟨b, 0, none⟩), .string s] w fun e w' => e = .returned (.bool (σ.isS s)) ∧ St own w' b m (σ.may s) ∧ Ext own w own w' := by
  have hil := h.ilt
  have htl := h.tlen
  cases hs : σ.isS s with
  | false =>
    have HM : Hid (σ.may s = σ) := by show _ = _; simp [PSt.may, hs]
    have HS := hs
    clear hs
    go_enter Tryz.func142, Tryz.ntmps142
    go_wp2_with (go_at_call 174; refine (is_any h s).mono ?_; rintro e w' ⟨rfl, hst, hext⟩; rw [HS])
    go_ret
    exact ⟨rfl, by rw [HM.out]; exact hst, hext⟩
  | true =>
    have HM : Hid (σ.may s = { σ with i := σ.i + 1 }) := by show _ = _; simp [PSt.may, hs]
    have HN : Hid (σ.i + 1 < σ.toks.length) := hv.next h.ilt (isS_kind hs).1
    have HS := hs
    clear hs
    go_enter Tryz.func142, Tryz.ntmps142
    go_wp2_with (go_at_call 174; refine (is_any h s).mono ?_; rintro e w' ⟨rfl, hst, hext⟩; rw [HS]; have hI := hst.cell 1; simp [PCells] at hI; have hfz := hst.blk.frozen 1)
    go_ret
    refine ⟨rfl, ?_, hext.setCell (p := ⟨b, 1, none⟩) h.own7 _⟩
    rw [HM.out]
    refine hst.store 1 _ ?_ rfl rfl rfl rfl rfl rfl HN.out h.wlo
    simp [PCells]

def PSt.want (σ : PSt) (s : ByteArray) : PSt := if σ.isS s then { σ with i := σ.i + 1 } else σ.bad

theorem may_toks (σ : PSt) (s : ByteArray) : (σ.may s).toks = σ.toks := by unfold PSt.may; split <;> rfl
theorem bad_toks (σ : PSt) : σ.bad.toks = σ.toks := by unfold PSt.bad; split <;> rfl

set_option maxHeartbeats 400000 in
theorem want_any {own : Nat → Nat} {w : World} {b : Nat} {m : PM} {σ : PSt} (h : St own w b m σ) (hv : Inv σ) (s : ByteArray) :
    Calls Tryz.prog 93 #[.pointer (some ⟨b, 0, none⟩), .string s] w fun e w' => e = .returned (.tuple #[]) ∧ St own w' b m (σ.want s) ∧ Ext own w own w' := by
  cases hs : σ.isS s with
  | false =>
    have HM : Hid (σ.may s = σ) := by show _ = _; simp [PSt.may, hs]
    have HW : Hid (σ.want s = σ.bad) := by show _ = _; simp [PSt.want, hs]
    have HS := hs
    clear hs
    go_enter Tryz.func93, Tryz.ntmps93
    go_wp2_with (first
      | (go_at_call 142; refine (may_any h hv s).mono ?_; rintro e w' ⟨rfl, hst, hext⟩; rw [HS]; rw [HM.out] at hst)
      | (go_at_call 97; refine (bad_any hst).mono ?_; rintro e w'' ⟨rfl, hst', hext'⟩))
    go_end0
    exact ⟨rfl, by rw [HW.out]; exact hst', hext.trans hext'⟩
  | true =>
    have HW : Hid (σ.want s = σ.may s) := by show _ = _; simp [PSt.want, PSt.may, hs]
    have HS := hs
    clear hs
    go_enter Tryz.func93, Tryz.ntmps93
    go_wp2_with (go_at_call 142; refine (may_any h hv s).mono ?_; rintro e w' ⟨rfl, hst, hext⟩; rw [HS])
    go_end0
    exact ⟨rfl, by rw [HW.out]; exact hst, hext⟩
end Go.Proofs.YtddbjcfdmdbmkaaGreatDoor

namespace Go.Proofs.YtddbjcfdmdbmkaaGreatDoor
open Go.RowKit

def PSt.down (σ : PSt) (at_ : Int) : PSt := { σ with deep := if 8 ≤ σ.inside ∧ σ.deep < 0 then at_ else σ.deep, inside := σ.inside + 1 }

set_option maxHeartbeats 400000 in
theorem down_any {own : Nat → Nat} {w : World} {b : Nat} {m : PM} {σ : PSt} (h : St own w b m σ) (at_ : Int) (hin : σ.inside ≤ 1000000) :
    Calls Tryz.prog 175 #[.pointer (some ⟨b, 0, none⟩), .int .i64 at_] w fun e w' => e = .returned (.tuple #[]) ∧ St own w' b m (σ.down at_) ∧ Ext own w own w' := by
  have h3 := h.cell 3
  have h4 := h.cell 4
  simp [PCells] at h3 h4
  have f3 := h.blk.frozen 3
  have f4 := h.blk.frozen 4
  by_cases hd : 8 ≤ σ.inside ∧ σ.deep < 0
  · obtain ⟨ha, hb⟩ := hd
    have hb' : (8 : Int) ≤ (σ.inside : Int) := by omega
    have HD : Hid (σ.down at_ = { σ with deep := at_, inside := σ.inside + 1 }) := by show _ = _; simp [PSt.down, ha, hb]
    have h3' : (w.setCell ⟨b, 4, none⟩ (.int .i64 at_)).cell? ⟨b, 3, none⟩ = some (.int .i64 σ.inside) := by rw [World.cell?_setCell_other _ _ _ _ (by simp)]; exact h3
    have f3' := (h.blk.set 4 (.int .i64 at_)).frozen 3
    go_enter Tryz.func175, Tryz.ntmps175
    go_wp2
    go_end0
    refine ⟨rfl, ?_, (((Ext.refl own w).setCell (p := ⟨b, 4, none⟩) h.own7 _).setCell (p := ⟨b, 3, none⟩) h.own7 _)⟩
    rw [HD.out]
    exact (h.store (σ' := { σ with deep := at_ }) 4 _ (by simp [PCells]) rfl rfl rfl rfl rfl rfl h.ilt h.wlo).store 3 _ (by simp [PCells]) rfl rfl rfl rfl rfl rfl h.ilt h.wlo
  · have HD : Hid (σ.down at_ = { σ with inside := σ.inside + 1 }) := by show _ = _; simp [PSt.down, hd]
    have HE : Hid (St own (w.setCell ⟨b, 3, none⟩ (.int .i64 (σ.inside + 1))) b m { σ with inside := σ.inside + 1 }) :=
      h.store 3 _ (by simp [PCells]) rfl rfl rfl rfl rfl rfl h.ilt h.wlo
    go_enter Tryz.func175, Tryz.ntmps175
    go_wp2
    all_goals
      go_end0
      exact ⟨rfl, by rw [HD.out]; exact HE.out, (Ext.refl own w).setCell (p := ⟨b, 3, none⟩) h.own7 _⟩

def PSt.isNum (σ : PSt) : Bool := σ.now.kind == 1 && decide (σ.wrong < 0)
def PSt.num (σ : PSt) (lo hi : Int) : PSt := if σ.isNum then { σ with i := σ.i + 1, nums := σ.nums ++ [σ.now], lo := σ.lo ++ [lo], hi := σ.hi ++ [hi] } else σ.bad
def PSt.numV (σ : PSt) : Int := if σ.isNum then σ.now.n else 0

theorem Tryz.infoTok : (Tryz.prog.info? 150).map (fun i => (i.zero, i.size, i.bytes)) = some (some (.agg #[.int .i64 0, .string ⟨#[]⟩, .int .i64 0, .int .i64 0]), 4, 40) := by kernel_rfl
theorem Tryz.infoInt : (Tryz.prog.info? 3).map (fun i => (i.zero, i.size, i.bytes)) = some (some (.int .i64 0), 1, 8) := by kernel_rfl

set_option maxHeartbeats 400000 in
theorem number_bad {own : Nat → Nat} {w : World} {b : Nat} {m : PM} {σ : PSt} (h : St own w b m σ) (lo hi : Int) (hn : σ.isNum = false) :
    Calls Tryz.prog 94 #[.pointer (some ⟨b, 0, none⟩), .int .i64 lo, .int .i64 hi] w fun e w' => e = .returned (.int .i64 0) ∧ St own w' b m σ.bad ∧ Ext own w own w' := by
  have hW := h.cell 2
  simp [PCells] at hW
  have hlt := h.blk.lt
  have HN : Hid (¬ (σ.now.kind = 1 ∧ σ.wrong < 0)) := by show ¬ _; simpa [PSt.isNum] using hn
  clear hn
  by_cases hk : (σ.now.kind : Int) = 1
  · have hw : 0 ≤ σ.wrong := by have := HN.out; omega
    have hk' : ((σ.now.kind : Int) != 1) = false := by simp [hk]
    have HK : Hid ((σ.now.kind : Int) = 1) := hk
    clear hk
    go_enter Tryz.func94, Tryz.ntmps94
    go_wp2_with (first
      | (go_at_call 96; refine (now_any h).mono ?_; rintro e w' ⟨rfl, o, rfl⟩)
      | (go_at_call 97; refine (bad_any ((h.alloc _).alloc _).drew).mono ?_; rintro e w'' ⟨rfl, hst', hext'⟩))
    go_ret
    exact ⟨rfl, hst', (((Ext.refl own w).alloc _).alloc _).drew.trans hext'⟩
  · have hk' : ((σ.now.kind : Int) != 1) = true := by simp [hk]
    have HK : Hid (¬ (σ.now.kind : Int) = 1) := hk
    clear hk
    go_enter Tryz.func94, Tryz.ntmps94
    go_wp2_with (first
      | (go_at_call 96; refine (now_any h).mono ?_; rintro e w' ⟨rfl, o, rfl⟩)
      | (go_at_call 97; refine (bad_any ((h.alloc _).alloc _).drew).mono ?_; rintro e w'' ⟨rfl, hst', hext'⟩))
    go_ret
    exact ⟨rfl, hst', (((Ext.refl own w).alloc _).alloc _).drew.trans hext'⟩
end Go.Proofs.YtddbjcfdmdbmkaaGreatDoor

namespace Go.Proofs.YtddbjcfdmdbmkaaGreatDoor
open Go.RowKit
attribute [local go_sem ↓] Go.wp_at_zero Go.wp_at_succ

set_option maxRecDepth 100000 in
set_option maxHeartbeats 800000 in
theorem number_good {own : Nat → Nat} {w : World} {b : Nat} {m : PM} {σ : PSt} (h : St own w b m σ) (hv : Inv σ) (lo hi : Int) (hn : σ.isNum = true)
    (b1 : σ.nums.length ≤ 10000) (b2 : σ.lo.length ≤ 10000) (b3 : σ.hi.length ≤ 10000) :
    Calls Tryz.prog 94 #[.pointer (some ⟨b, 0, none⟩), .int .i64 lo, .int .i64 hi] w fun e w' => e = .returned (.int .i64 σ.now.n) ∧
      After own w b { σ with i := σ.i + 1, nums := σ.nums ++ [σ.now], lo := σ.lo ++ [lo], hi := σ.hi ++ [hi] } w' := by
  have hW := h.cell 2
  have hI := h.cell 1
  simp [PCells] at hW hI
  have hlt := h.blk.lt
  have hfz := h.blk.frozen 1
  have hil := h.ilt
  have htl := h.tlen
  have hn' : σ.now.kind = 1 ∧ σ.wrong < 0 := by simpa [PSt.isNum] using hn
  have HI : Hid (σ.i + 1 < σ.toks.length) := hv.next h.ilt (by omega)
  clear hn
  obtain ⟨hk, hw⟩ := hn'
  have hk' : ((σ.now.kind : Int) != 1) = false := by simp [hk]
  have HK : Hid (σ.now.kind = 1) := hk
  clear hk
  go_enter Tryz.func94, Tryz.ntmps94
  go_wp2_with (first
    | (go_at_call 96; refine (now_any h).mono ?_; rintro e w' ⟨rfl, o, rfl⟩))
  have hS0 : St (put own (w.heap.size + 1) 7) w b m σ := h.owner (fun k hk => put_other _ _ _ _ (by omega))
  have hS1 : St (put own (w.heap.size + 1) 7) (((w.setCell ⟨b, 1, none⟩ (.int .i64 (σ.i + 1))).alloc o).alloc (.cells #[.int .i64 σ.now.kind, .string σ.now.s, .int .i64 σ.now.pos, .int .i64 σ.now.n] 150)).drew b m { σ with i := σ.i + 1 } :=
    (((hS0.store (σ' := { σ with i := σ.i + 1 }) 1 _ (by simp [PCells]) rfl rfl rfl rfl rfl rfl HI.out h.wlo).alloc _).alloc _).drew
  have hE1 : Ext own w (put own (w.heap.size + 1) 7) (((w.setCell ⟨b, 1, none⟩ (.int .i64 (σ.i + 1))).alloc o).alloc (.cells #[.int .i64 σ.now.kind, .string σ.now.s, .int .i64 σ.now.pos, .int .i64 σ.now.n] 150)).drew :=
    ⟨fun k hk => put_other _ _ _ _ (by omega), ((((Ext.refl own w).setCell (p := ⟨b, 1, none⟩) h.own7 _).alloc _).alloc _).drew.kept⟩
  have hL : Blk (((w.setCell ⟨b, 1, none⟩ (.int .i64 (σ.i + 1))).alloc o).alloc (.cells #[.int .i64 σ.now.kind, .string σ.now.s, .int .i64 σ.now.pos, .int .i64 σ.now.n] 150)).drew (w.heap.size + 1) #[.int .i64 σ.now.kind, .string σ.now.s, .int .i64 σ.now.pos, .int .i64 σ.now.n] 150 := by
    have := Blk.new ((w.setCell ⟨b, 1, none⟩ (.int .i64 (σ.i + 1))).alloc o) #[.int .i64 σ.now.kind, .string σ.now.s, .int .i64 σ.now.pos, .int .i64 σ.now.n] 150
    have e : ((w.setCell ⟨b, 1, none⟩ (.int .i64 (σ.i + 1))).alloc o).heap.size = w.heap.size + 1 := by simp [World.setCell]
    rw [e] at this; exact this.drew
  have hoL : put own (w.heap.size + 1) 7 (w.heap.size + 1) = 7 := put_same _ _ _
  clear hS0 hW hI hfz
  generalize (((w.setCell ⟨b, 1, none⟩ (.int .i64 (σ.i + 1))).alloc o).alloc (.cells #[.int .i64 σ.now.kind, .string σ.now.s, .int .i64 σ.now.pos, .int .i64 σ.now.n] 150)).drew = W at *
  generalize w.heap.size + 1 = L at *
  generalize hown1 : put own L 7 = own1 at *
  clear hown1
  have hbL : b ≠ L := fun e => by have := hS1.ob; rw [e, hoL] at this; cases this
  have hbL' := Ne.symm hbL
  have hbW := hS1.blk.lt
  have hLW := hL.lt
  have hc5 := hS1.cell 5
  have hc6 := hS1.cell 6
  have hc7 := hS1.cell 7
  simp [PCells] at hc5 hc6 hc7
  have l0 := hL.cell 0
  have l1 := hL.cell 1
  have l2 := hL.cell 2
  have l3 := hL.cell 3
  simp at l0 l1 l2 l3
  have hfb := fun k => hS1.blk.frozen k
  obtain ⟨i0, hi0, hz0, hz1, hz2⟩ := info_parts Tryz.infoTok
  go_region_law ((refine step_append_lies _ (by rfl) _ _ 119 (by rfl) 0 150 i0 _ 4 40 Tryz.underlying119 hi0 hz0 hz1 hz2 rfl (by decide) m.nv σ.nums.length (flat RTok.cells σ.nums) (by rfl) ((hS1.alloc _).drew.nums) _ 1 1 (RTok.cells σ.now) (by rfl) rfl (World.news_of_block (heap_alloc_new W _)) (by simp [RTok.cells, Value.oneCell']) (by decide) (by unfold maxLen; omega) (by omega) (Nat.zero_le _) (W.heap.size + 1) (by simp) ?_; intro g cap w1 hown hgrow hat hlt1; have kb := (hS1.alloc _).drew.far hgrow hS1.on (by decide); have kl := ((hL.alloc _).drew).far hoL hgrow hS1.on (by decide); have q5 := kb.cell 5; have q0 := kl.cell 0; have q1 := kl.cell 1; have q2 := kl.cell 2; have q3 := kl.cell 3; have qf := kb.frozen 5; simp [PCells] at q5 q0 q1 q2 q3))
  all_goals
    obtain ⟨hS2, hE2⟩ := (hS1.alloc _).drew.app_nums σ.now hown hgrow (by simpa using hat)
    have hE2' := (((Ext.refl own1 W).alloc _).drew).trans hE2
    have hL2 := hE2'.blk hoL hL
    have hoL2 := (hE2'.same L hLW).trans hoL
    have hE := hE1.trans hE2'
    clear kb kl q5 q0 q1 q2 q3 qf hown hgrow hat hlt1 hE2 hE2' hE1 hS1 hL hoL hc5 hc6 hc7 l0 l1 l2 l3 hfb hbW hLW
    generalize w1.setCell ⟨b, 5, none⟩ (.slice (some ⟨g, 0, none⟩) (σ.nums.length + 1) cap) = W2 at *
    generalize put own1 g 2 = own2 at *
    have hc6 := hS2.cell 6
    have f6 := hS2.blk.frozen 6
    simp [PCells] at hc6
    have hbW := hS2.blk.lt
    have hLW := hL2.lt
    obtain ⟨j0, hj0, hy0, hy1, hy2⟩ := info_parts Tryz.infoInt
    go_wp2_with (first
      | (at_builtin; refine wpList_append_lies _ rfl (.tmp 43) (.tmp 45) 48 rfl 0 3 j0 _ 1 8 Tryz.underlying48 hj0 hy0 hy1 hy2 rfl (by decide) m.lv σ.lo.length (σ.lo.map (Value.int .i64)) (by rfl) ((hS2.alloc _).lo) _ 1 1 [.int .i64 lo] (by rfl) rfl (World.news_of_block (heap_alloc_new W2 _)) (by simp [Value.oneCell']) (by decide) (by unfold maxLen; omega) (by omega) (Nat.zero_le _) (W2.heap.size + 1) (by simp) ?_; intro g2 cap2 w2 hown2 hgrow2 hat2 hlt2; have kb := (hS2.alloc _).far hgrow2 hS2.ol (by decide); have q6 := kb.cell 6; have qf := kb.frozen 6; have q7 := kb.cell 7; simp [PCells] at q6 q7; obtain ⟨hS3, hE3⟩ := (hS2.alloc _).app_lo lo hown2 hgrow2 (by simpa using hat2); have hE3' := ((Ext.refl own2 W2).alloc _).trans hE3; have hL3 := hE3'.blk hoL2 hL2; have hoL3 := (hE3'.same L hLW).trans hoL2; have hb2 := kb.lt; clear kb hown2 hgrow2 hat2 hE3)
      | (at_builtin; refine wpList_append_lies _ rfl (.tmp 53) (.tmp 55) 48 rfl 0 3 j0 _ 1 8 Tryz.underlying48 hj0 hy0 hy1 hy2 rfl (by decide) m.hv σ.hi.length (σ.hi.map (Value.int .i64)) (by rfl) ((hS3.alloc _).hi) ⟨w2.heap.size, 0, none⟩ 1 1 [.int .i64 hi] (by rfl) rfl (World.news_of_block (alloc_at _ _ _ (by simp))) (by simp [Value.oneCell']) (by decide) (by unfold maxLen; omega) (by omega) (Nat.zero_le _) (w2.heap.size + 1) (by simp) ?_; intro g3 cap3 w3 hown3 hgrow3 hat3 hlt3; have kb := (hS3.alloc _).far hgrow3 hS3.oh (by decide); have r7 := kb.cell 7; have rf := kb.frozen 7; have kl := (hL3.alloc _).far hoL3 hgrow3 hS3.oh (by decide); have l3 := kl.cell 3; simp [PCells] at r7 l3; obtain ⟨hS4, hE4⟩ := (hS3.alloc _).app_hi hi hown3 hgrow3 (by simpa using hat3); have hE4' := ((Ext.refl _ _).alloc _).trans hE4; clear kb kl hown3 hgrow3 hat3 hE4))
    go_ret
    exact ⟨rfl, _, _, hS4, (hE.trans hE3').trans hE4'⟩
end Go.Proofs.YtddbjcfdmdbmkaaGreatDoor

namespace Go.Proofs.YtddbjcfdmdbmkaaGreatDoor
open Go.RowKit
attribute [local go_sem ↓] Go.wp_at_zero Go.wp_at_succ

theorem Tryz.infoNode : (Tryz.prog.info? 248).map (fun i => (i.zero, i.size, i.bytes)) = some (some (.agg #[.string ⟨#[]⟩, .int .i64 0, .int .i64 0, .int .i64 0, .string ⟨#[]⟩, .string ⟨#[]⟩, .int .i64 0]), 7, 80) := by kernel_rfl

set_option maxRecDepth 100000 in
set_option maxHeartbeats 800000 in
theorem node_any {own : Nat → Nat} {w : World} {b : Nat} {m : PM} {σ : PSt} (h : St own w b m σ) (op : ByteArray) (a c n : Int) (name field : ByteArray) (pos : Int) (b1 : σ.nodes.length ≤ 100000) :
    Calls Tryz.prog 206 #[.pointer (some ⟨b, 0, none⟩), .agg #[.string op, .int .i64 a, .int .i64 c, .int .i64 n, .string name, .string field, .int .i64 pos]] w fun e w' => e = .returned (.int .i64 σ.nodes.length) ∧
      After own w b { σ with nodes := σ.nodes ++ [⟨op, a, c, n, name, field, pos⟩] } w' := by
  have hbw := h.blk.lt
  have hc8 := h.cell 8
  simp [PCells] at hc8
  have hfb := h.blk.frozen 8
  obtain ⟨i0, hi0, hz0, hz1, hz2⟩ := info_parts Tryz.infoNode
  go_enter Tryz.func206, Tryz.ntmps206
  go_wp2
  go_region_law ((refine step_append_lies _ (by rfl) _ _ 120 (by rfl) 0 248 i0 _ 7 80 Tryz.underlying120 hi0 hz0 hz1 hz2 rfl (by decide) m.dv σ.nodes.length (flat RNode.cells σ.nodes) (by rfl) (((h.alloc _).alloc _).drew.nodes) ⟨w.heap.size + 1, 0, none⟩ 1 1 (RNode.cells ⟨op, a, c, n, name, field, pos⟩) (by rfl) rfl (World.news_of_block (alloc_at _ _ _ (by simp))) (by simp [RNode.cells, Value.oneCell']) (by decide) (by unfold maxLen; omega) (by omega) (Nat.zero_le _) (w.heap.size + 2) (by simp) ?_; intro g cap w1 hown hgrow hat hlt1; have kb := ((h.alloc _).alloc _).drew.far hgrow h.od (by decide); have q8 := kb.cell 8; have qf := kb.frozen 8; simp [PCells] at q8))
  all_goals
    obtain ⟨hS2, hE2⟩ := ((h.alloc _).alloc _).drew.app_nodes ⟨op, a, c, n, name, field, pos⟩ hown hgrow (by simpa using hat)
    have hE := ((((Ext.refl own w).alloc _).alloc _).drew).trans hE2
    clear hE2 hown hgrow hat kb
    go_wp2
    go_ret
    exact ⟨ret_int (by omega), _, _, hS2, hE⟩

def resv : List ByteArray := [⟨#[119, 105, 116, 104, 105, 110]⟩, ⟨#[114, 97, 116, 101]⟩, ⟨#[116, 104, 101, 110]⟩, ⟨#[110, 111, 116]⟩, ⟨#[105, 102]⟩, ⟨#[116, 105, 109, 101, 115]⟩, ⟨#[97, 110, 100]⟩, ⟨#[111, 114]⟩, ⟨#[105, 116]⟩]
def resvAt (k : Nat) : ByteArray := resv.getD k ByteArray.empty
def RTok.isName (t : RTok) : Bool := t.kind == 0 && decide (t.s.size ≤ 8) && resv.all fun r => !(t.s.toList == r.toList)
def okAt (t : RTok) (wr : Int) (k : Nat) : Bool := (t.kind == 0 && decide (t.s.size ≤ 8) && decide (wr < 0)) && (resv.take k).all fun r => !(t.s.toList == r.toList)
def PSt.isName (σ : PSt) : Bool := σ.now.isName && decide (σ.wrong < 0)
theorem okAt_nine (t : RTok) (wr : Int) : okAt t wr 9 = (t.isName && decide (wr < 0)) := by
  unfold okAt RTok.isName
  rw [show resv.take 9 = resv from rfl]
  cases (t.kind == 0) <;> cases decide (t.s.size ≤ 8) <;> cases decide (wr < 0) <;> simp
theorem okAt_succ (t : RTok) (wr : Int) (k : Nat) (h : k < 9) : okAt t wr (k + 1) = (okAt t wr k && !(t.s.toList == (resvAt k).toList)) := by
  unfold okAt resvAt
  have hg : resv.getD k ByteArray.empty = resv[k]'(show k < resv.length from h) := by simp [List.getD, show k < resv.length from h]
  rw [List.take_succ_eq_append_getElem (show k < resv.length from h), List.all_append, hg]
  simp [Bool.and_assoc]
def resvCells : Array Value := #[.string ⟨#[119, 105, 116, 104, 105, 110]⟩, .string ⟨#[114, 97, 116, 101]⟩, .string ⟨#[116, 104, 101, 110]⟩, .string ⟨#[110, 111, 116]⟩, .string ⟨#[105, 102]⟩, .string ⟨#[116, 105, 109, 101, 115]⟩, .string ⟨#[97, 110, 100]⟩, .string ⟨#[111, 114]⟩, .string ⟨#[105, 116]⟩]
theorem resvCells_at (k : Nat) (h : k < 9) : resvCells[k]? = some (.string (resvAt k)) := by
  match k, h with
  | 0, _ => rfl
  | 1, _ => rfl
  | 2, _ => rfl
  | 3, _ => rfl
  | 4, _ => rfl
  | 5, _ => rfl
  | 6, _ => rfl
  | 7, _ => rfl
  | 8, _ => rfl

def PSt.nameV (σ : PSt) : ByteArray := if σ.isName then σ.now.s else ⟨#[]⟩
def PSt.nam (σ : PSt) : PSt := if σ.isName then { σ with i := σ.i + 1 } else σ.bad

structure NInv (own : Nat → Nat) (w : World) (b : Nat) (m : PM) (σ : PSt) (wr : World) : Prop where
  st : St own wr b m σ
  s : wr.cell? ⟨w.heap.size + 1, 1, none⟩ = some (.string σ.now.s)
  l : Blk wr (w.heap.size + 1 + 1) resvCells 9
  e : Ext own w own wr
theorem grownBy_drewN (w : World) (n : Nat) (row : Option Nat) : w.grownBy (w.drewN n) row := ⟨rfl, rfl, rfl, Nat.le_refl _, fun _ _ _ => rfl⟩
theorem St.drewN {own : Nat → Nat} {w : World} {b : Nat} {m : PM} {σ : PSt} (h : St own w b m σ) (n : Nat) : St own (w.drewN n) b m σ := h.grow (grownBy_drewN w n none)
theorem Ext.drewN {a b : Nat → Nat} {w w' : World} (h : Ext a w b w') (n : Nat) : Ext a w b (w'.drewN n) := ⟨h.same, h.kept.os, h.kept.tape, h.kept.output, h.kept.size, h.kept.block⟩
theorem NInv.drewN {own : Nat → Nat} {w : World} {b : Nat} {m : PM} {σ : PSt} {wr : World} (h : NInv own w b m σ wr) (n : Nat) : NInv own w b m σ (wr.drewN n) := ⟨h.st.drewN n, h.s, h.l, h.e.drewN n⟩

set_option maxRecDepth 100000 in
set_option maxHeartbeats 800000 in
theorem name_any {own : Nat → Nat} {w : World} {b : Nat} {m : PM} {σ : PSt} (h : St own w b m σ) (hv : Inv σ) (hsz : σ.now.s.size ≤ maxLen) :
    Calls Tryz.prog 176 #[.pointer (some ⟨b, 0, none⟩)] w fun e w' => e = .returned (.string σ.nameV) ∧ St own w' b m σ.nam ∧ Ext own w own w' := by
  have hW := h.cell 2
  simp [PCells] at hW
  have hlt := h.blk.lt
  have hlt1 : b < w.heap.size + 1 := by omega
  have hlt2 : b < w.heap.size + 1 + 1 := by omega
  have hlt3 : b < w.heap.size + 2 := by omega
  have hnil := hsz
  unfold maxLen at hnil
  go_enter Tryz.func176, Tryz.ntmps176
  go_wp2_with (first
    | (go_at_call 96; refine (now_any h).mono ?_; rintro e w' ⟨rfl, o, rfl⟩))
  all_goals
    go_loopw [5, 6] (fun ok i wr => ∃ k : Nat, k ≤ 9 ∧ i = .int .i64 k ∧ ok = .bool (okAt σ.now σ.wrong k) ∧ NInv own w b m σ wr) (fun _ i _ => 9 - (intOf i).toNat)
    case atStart =>
      refine ⟨0, by omega, rfl, ?_, ⟨(((h.alloc o).alloc _).alloc _).drew, by simp [go_sem], alloc_at _ _ _ (by simp), ((((Ext.refl own w).alloc o).alloc _).alloc _).drew⟩⟩
      first
        | (have hk : σ.now.kind = 0 := by assumption
           have hs8 : (σ.now.s.size : Int) ≤ 8 := by assumption
           have : σ.now.s.size ≤ 8 := by omega
           simp [okAt, hk, this])
        | (have hs8 : 8 < (σ.now.s.size : Int) := by assumption
           have : ¬ σ.now.s.size ≤ 8 := by omega
           simp [okAt, this])
        | (have hk : ¬ σ.now.kind = 0 := by assumption
           simp [okAt, hk])
    case round =>
      obtain ⟨k, hk, rfl, rfl, hI⟩ := hrel
      have hs := hI.s
      by_cases h9 : k < 9
      · have hlc : wr.cell? ⟨w.heap.size + 1 + 1, k, none⟩ = some (.string (resvAt k)) := (hI.l.cell k).trans (resvCells_at k h9)
        have HN : Hid (okAt σ.now σ.wrong (k + 1) = (okAt σ.now σ.wrong k && !(σ.now.s.toList == (resvAt k).toList))) := okAt_succ _ _ _ h9
        have hki : (k : Int) < 9 := by omega
        have hk0 : (0 : Int) ≤ (k : Int) := by omega
        cases hok : okAt σ.now σ.wrong k with
        | true =>
          go_wp2
          go_quiet (fail)
          go_wp2
          go_roundw
          case rel => exact ⟨k + 1, by omega, by go_num, by rw [HN.out, hok]; simp, hI.drewN _⟩
          case measure => simp [intOf]; omega
        | false =>
          go_wp2
          go_quiet (fail)
          go_wp2
          go_roundw
          case rel => exact ⟨k + 1, by omega, by go_num, by rw [HN.out, hok]; rfl, hI.drewN _⟩
          case measure => simp [intOf]; omega
      · have e9 : k = 9 := by omega
        subst e9
        have hf := hI.st.blk.frozen 1
        have hc1 := hI.st.cell 1
        simp [PCells] at hc1
        have hil := h.ilt
        have htl := h.tlen
        have HO : Hid (okAt σ.now σ.wrong 9 = σ.isName) := okAt_nine _ _
        cases hok : okAt σ.now σ.wrong 9 with
        | true =>
          have HNm : Hid (σ.isName = true) := HO.out ▸ hok
          have HNx : Hid (σ.i + 1 < σ.toks.length) := by
            refine hv.next h.ilt ?_
            have := HNm.out
            simp [PSt.isName, RTok.isName] at this
            omega
          go_wp2
          go_ret
          have hE : Ext own w own (wr.setCell ⟨b, 1, none⟩ (.int .i64 (σ.i + 1))) := hI.e.setCell (p := ⟨b, 1, none⟩) h.own7 _
          have hS : St own (wr.setCell ⟨b, 1, none⟩ (.int .i64 (σ.i + 1))) b m { σ with i := σ.i + 1 } := hI.st.store (σ' := { σ with i := σ.i + 1 }) 1 _ (by simp [PCells]) rfl rfl rfl rfl rfl rfl HNx.out h.wlo
          exact ⟨by simp [PSt.nameV, HNm.out], by simp only [PSt.nam, HNm.out]; exact hS, hE⟩
        | false =>
          have HNm : Hid (σ.isName = false) := HO.out ▸ hok
          go_wp2_with (go_at_call 97; refine (bad_any hI.st).mono ?_; rintro e w'' ⟨rfl, hst', hext'⟩)
          go_ret
          exact ⟨by simp [PSt.nameV, HNm.out], by simp only [PSt.nam, HNm.out]; exact hst', hI.e.trans hext'⟩
end Go.Proofs.YtddbjcfdmdbmkaaGreatDoor

namespace Go.Proofs.YtddbjcfdmdbmkaaGreatDoor
open Go.RowKit

inductive Nd where
  | num (n : Int)
  | fld (name field : ByteArray) (pos : Int)
  | bin (op : ByteArray) (a b : Nd)

inductive Rep (nodes : List RNode) : Nat → Nd → Prop
  | num {i : Nat} {x : RNode} : nodes[i]? = some x → x.op.toList = [110] → Rep nodes i (.num x.n)
  | fld {i : Nat} {x : RNode} : nodes[i]? = some x → x.op.toList = [102] → 0 ≤ x.pos → Rep nodes i (.fld x.name x.field x.pos)
  | bin {i a b : Nat} {x : RNode} {s t : Nd} : nodes[i]? = some x → ¬ x.op.toList = [110] → ¬ x.op.toList = [102] → x.a = a → x.b = b → Rep nodes a s → Rep nodes b t → Rep nodes i (.bin x.op s t)

def Nd.unknown (known : List ByteArray) : Nd → Int
  | .num _ => -1
  | .fld name _ pos => if name.toList.isEmpty || known.any (fun k => k.toList == name.toList) then -1 else pos
  | .bin _ a b => if a.unknown known < 0 ∨ (0 ≤ b.unknown known ∧ b.unknown known < a.unknown known) then b.unknown known else a.unknown known

def Strs (own : Nat → Nat) (w : World) (v : Value) (l : List ByteArray) : Prop :=
  w.ownsRow 0 9 1 v l.length (l.map Value.string) ∧ ∀ g, v.ownBlock = some g → 7 ≤ own g

theorem St.node_at {own : Nat → Nat} {w : World} {b : Nat} {m : PM} {σ : PSt} (h : St own w b m σ) {i : Nat} {x : RNode} (hx : σ.nodes[i]? = some x) :
    ∃ g cap, m.dv = .slice (some ⟨g, 0, none⟩) σ.nodes.length cap ∧ i < σ.nodes.length ∧
      w.cell? ⟨g, i * 7, none⟩ = some (.string x.op) ∧ w.cell? ⟨g, i * 7 + 1, none⟩ = some (.int .i64 x.a) ∧ w.cell? ⟨g, i * 7 + 2, none⟩ = some (.int .i64 x.b) ∧ w.cell? ⟨g, i * 7 + 3, none⟩ = some (.int .i64 x.n) ∧
      w.cell? ⟨g, i * 7 + 4, none⟩ = some (.string x.name) ∧ w.cell? ⟨g, i * 7 + 5, none⟩ = some (.string x.field) ∧ w.cell? ⟨g, i * 7 + 6, none⟩ = some (.int .i64 x.pos) := by
  obtain ⟨hi, he⟩ := List.getElem?_eq_some_iff.1 hx
  obtain ⟨g, cap, hv, _, _⟩ := h.nodes.form (by omega)
  have key : ∀ j, j < 7 → ∀ u, (RNode.cells x)[j]? = some u → w.cell? ⟨g, i * 7 + j, none⟩ = some u := by
    intro j hj u hu
    have := h.nodes.cells (g := g) (by rw [hv]; rfl) (i * 7 + j) u (by rw [flat_get RNode.cells 7 (fun _ => rfl) _ _ _ hi hj, he]; exact hu)
    have hadd : (⟨g, 0, none⟩ : Addr).add (i * 7 + j) = ⟨g, i * 7 + j, none⟩ := by unfold Addr.add; split <;> simp_all
    rw [hadd] at this; exact this
  exact ⟨g, cap, hv, hi, key 0 (by decide) _ rfl, key 1 (by decide) _ rfl, key 2 (by decide) _ rfl, key 3 (by decide) _ rfl, key 4 (by decide) _ rfl, key 5 (by decide) _ rfl, key 6 (by decide) _ rfl⟩

set_option maxRecDepth 100000 in
set_option maxHeartbeats 800000 in
theorem names_none (w : World) (b : Nat) (n : Int) (hn : n < 0) (kv : Value) :
    Calls Tryz.prog 98 #[.pointer (some ⟨b, 0, none⟩), .int .i64 n, kv] w fun e w' => e = .returned (.int .i64 (-1)) ∧ w' = w := by
  go_enter Tryz.func98, Tryz.ntmps98
  go_wp2_with fail
  go_ret
  exact ⟨rfl, rfl⟩

def AfterM (own : Nat → Nat) (w : World) (b : Nat) (m : PM) (σ : PSt) (w' : World) : Prop := ∃ own', St own' w' b m σ ∧ Ext own w own' w'

def NamesC (known : List ByteArray) (i : Nat) (t : Nd) (σ : PSt) : Prop := ∀ (own : Nat → Nat) (w : World) (b : Nat) (m : PM) (kv : Value), St own w b m σ → Strs own w kv known →
  Calls Tryz.prog 98 #[.pointer (some ⟨b, 0, none⟩), .int .i64 i, kv] w fun e w' => e = .returned (.int .i64 (t.unknown known)) ∧ AfterM own w b m σ w'

set_option maxRecDepth 100000 in
set_option maxHeartbeats 800000 in
theorem names_num {σ : PSt} {known : List ByteArray} {i : Nat} {x : RNode} (hx : σ.nodes[i]? = some x) (ho : x.op.toList = [110]) (_hlen : σ.nodes.length ≤ 100000) : NamesC known i (.num x.n) σ := by
  intro own w b m kv h hk
  obtain ⟨g, cap, hv, hi, c0, c1, c2, c3, c4, c5, c6⟩ := h.node_at hx
  have d8 := h.cell 8
  simp [PCells] at d8
  rw [hv] at d8
  have hi0 : (0 : Int) ≤ (i : Int) := by omega
  have hi1 : (i : Int) < (σ.nodes.length : Int) := by omega
  have hq : (x.op.toList == [110]) = true := by simp [ho]
  have HV : Hid (m.dv = .slice (some ⟨g, 0, none⟩) σ.nodes.length cap) := hv
  clear hv ho hx
  go_enter Tryz.func98, Tryz.ntmps98
  go_wp2_with fail
  go_ret
  exact ⟨rfl, own, h.alloc _, (Ext.refl own w).alloc _⟩

theorem row_of_blk {w w' : World} {base : Nat} {e : TypeId} {size : Nat} {v : Value} {n : Nat} {xs : List Value} (h : w.ownsRow base e size v n xs) (hb : ∀ g, v.ownBlock = some g → w'.heap[g]? = w.heap[g]?) : w'.ownsRow base e size v n xs := by
  refine ⟨h.1, ?_⟩
  rcases h.2 with hn | ⟨g, cap, cur, rfl, h1, h2, rest⟩
  · exact .inl hn
  · exact .inr ⟨g, cap, cur, rfl, h1, (hb g rfl).trans h2, rest⟩
theorem Strs.ext {own own' : Nat → Nat} {w w' : World} {v : Value} {l : List ByteArray} (h : Strs own w v l) (hE : Ext own w own' w') : Strs own' w' v l :=
  ⟨row_of_blk h.1 fun g hg => hE.kept.block g ⟨(h.1.lt g hg).2, h.2 g hg⟩, fun g hg => by rw [hE.same g (h.1.lt g hg).2]; exact h.2 g hg⟩
def NX (x : RNode) : Array Value := #[.string x.op, .int .i64 x.a, .int .i64 x.b, .int .i64 x.n, .string x.name, .string x.field, .int .i64 x.pos]

set_option maxRecDepth 100000 in
set_option maxHeartbeats 800000 in
theorem names_bin {σ : PSt} {known : List ByteArray} {i a c : Nat} {x : RNode} {s t : Nd} (hx : σ.nodes[i]? = some x) (ho : ¬ x.op.toList = [110]) (ho2 : ¬ x.op.toList = [102]) (ha : x.a = a) (hc : x.b = c) (_hlen : σ.nodes.length ≤ 100000)
    (h1 : NamesC known a s σ) (h2 : NamesC known c t σ) : NamesC known i (.bin x.op s t) σ := by
  intro own w b m kv h hk
  obtain ⟨g, cap, hv, hi, c0, c1, c2, c3, c4, c5, c6⟩ := h.node_at hx
  have d8 := h.cell 8
  simp [PCells] at d8
  rw [hv] at d8
  have hi0 : (0 : Int) ≤ (i : Int) := by omega
  have hi1 : (i : Int) < (σ.nodes.length : Int) := by omega
  have hq : (x.op.toList == [110]) = false := by simp [ho]
  have hq2 : (x.op.toList == [102]) = false := by simp [ho2]
  have HV : Hid (m.dv = .slice (some ⟨g, 0, none⟩) σ.nodes.length cap) := hv
  have hSL := (h.owner (own' := put own w.heap.size 7) (fun k hk => put_other _ _ _ _ (by omega))).alloc (.cells (NX x) 248)
  have hEL : Ext own w (put own w.heap.size 7) (w.alloc (.cells (NX x) 248)) := (Ext.refl own w).allocAs _ 7
  have hkL := hk.ext hEL
  have hoL : put own w.heap.size 7 w.heap.size = 7 := put_same _ _ _
  have hbL := Blk.new w (NX x) 248
  unfold NX at hSL hEL hkL hbL
  rw [ha, hc] at *
  clear hv ho ho2 hx ha hc
  go_enter Tryz.func98, Tryz.ntmps98
  go_wp2_with fail
  refine (h1 _ _ _ _ _ hSL hkL).mono ?_
  rintro e w1 ⟨rfl, own1, hS1, hE1⟩
  have l2 := (hE1.blk hoL hbL).cell 2
  simp at l2
  have hk1 := hkL.ext hE1
  have hE2 := hEL.trans hE1
  clear c0 c1 c2 c3 c4 c5 c6 d8 hSL hkL hbL hk hEL
  go_wp2_with fail
  refine (h2 _ _ _ _ _ hS1 hk1).mono ?_
  rintro e w2 ⟨rfl, own2, hS2, hE3⟩
  have hfin : AfterM own w b m σ w2 := ⟨own2, hS2, hE2.trans hE3⟩
  have HU : Hid ((Nd.bin x.op s t).unknown known = if s.unknown known < 0 ∨ (0 ≤ t.unknown known ∧ t.unknown known < s.unknown known) then t.unknown known else s.unknown known) := rfl
  clear hS1 hS2 hE1 hE2 hE3 l2 hk1
  generalize s.unknown known = ua at *
  generalize t.unknown known = ub at *
  by_cases p1 : ua < 0
  · go_wp2_with fail
    go_ret
    exact ⟨ret_int (by rw [HU.out, if_pos (.inl p1)]), hfin⟩
  · by_cases p2 : 0 ≤ ub
    · by_cases p3 : ub < ua
      · go_wp2_with fail
        go_ret
        exact ⟨ret_int (by rw [HU.out, if_pos (.inr ⟨p2, p3⟩)]), hfin⟩
      · go_wp2_with fail
        go_ret
        exact ⟨ret_int (by rw [HU.out, if_neg (by omega)]), hfin⟩
    · go_wp2_with fail
      go_ret
      exact ⟨ret_int (by rw [HU.out, if_neg (by omega)]), hfin⟩

def okFld (nm : ByteArray) (known : List ByteArray) (k : Nat) : Bool := nm.toList.isEmpty || (known.take k).any (fun s => s.toList == nm.toList)
theorem okFld_succ (nm : ByteArray) (known : List ByteArray) (k : Nat) (h : k < known.length) : okFld nm known (k + 1) = (okFld nm known k || (known.getD k ByteArray.empty).toList == nm.toList) := by
  unfold okFld
  have hg : known.getD k ByteArray.empty = known[k] := by simp [List.getD, h]
  rw [List.take_succ_eq_append_getElem h, List.any_append, hg]
  simp [Bool.or_assoc]
theorem Strs.cell {own : Nat → Nat} {w : World} {g n cap : Nat} {l : List ByteArray} (h : Strs own w (.slice (some ⟨g, 0, none⟩) n cap) l) (k : Nat) (hk : k < l.length) : w.cell? ⟨g, k, none⟩ = some (.string (l.getD k ByteArray.empty)) := by
  have := h.1.cells (g := g) rfl k (.string (l.getD k ByteArray.empty)) (by simp [List.getD, hk])
  have hadd : (⟨g, 0, none⟩ : Addr).add k = ⟨g, k, none⟩ := by unfold Addr.add; split <;> simp_all
  rw [hadd] at this; exact this

structure FInv (own : Nat → Nat) (w : World) (b : Nat) (m : PM) (σ : PSt) (nm : ByteArray) (pos : Int) (kv : Value) (known : List ByteArray) (wr : World) : Prop where
  st : St own wr b m σ
  e : Ext own w own wr
  nm : wr.cell? ⟨w.heap.size, 4, none⟩ = some (.string nm)
  ps : wr.cell? ⟨w.heap.size, 6, none⟩ = some (.int .i64 pos)
  k : Strs own wr kv known
theorem FInv.drewN {own : Nat → Nat} {w : World} {b : Nat} {m : PM} {σ : PSt} {nm : ByteArray} {pos : Int} {kv : Value} {known : List ByteArray} {wr : World} (h : FInv own w b m σ nm pos kv known wr) (n : Nat) : FInv own w b m σ nm pos kv known (wr.drewN n) :=
  ⟨h.st.drewN n, h.e.drewN n, h.nm, h.ps, h.k⟩

set_option maxRecDepth 100000 in
set_option maxHeartbeats 1600000 in
theorem names_fld {σ : PSt} {known : List ByteArray} {i : Nat} {x : RNode} (hx : σ.nodes[i]? = some x) (ho : x.op.toList = [102]) (_hlen : σ.nodes.length ≤ 100000) (hkl : known.length ≤ 100000) : NamesC known i (.fld x.name x.field x.pos) σ := by
  intro own w b m kv h hk
  obtain ⟨g, cap, hv, hi, c0, c1, c2, c3, c4, c5, c6⟩ := h.node_at hx
  have d8 := h.cell 8
  simp [PCells] at d8
  rw [hv] at d8
  have hi0 : (0 : Int) ≤ (i : Int) := by omega
  have hi1 : (i : Int) < (σ.nodes.length : Int) := by omega
  have hq : (x.op.toList == [110]) = false := by simp [ho]
  have hq2 : (x.op.toList == [102]) = true := by simp [ho]
  have HU : Hid ((Nd.fld x.name x.field x.pos).unknown known = if okFld x.name known known.length = true then -1 else x.pos) := by show _ = _; simp [Nd.unknown, okFld]
  have hkf : ∃ a n c, kv = .slice a n c ∧ n = known.length ∧ (0 < n → ∃ gk, a = some ⟨gk, 0, none⟩) := by
    rcases hk.1.2 with ⟨rfl, h0⟩ | ⟨gk, c, cur, rfl, _⟩
    · exact ⟨none, 0, 0, rfl, h0.symm, fun h => absurd h (by decide)⟩
    · exact ⟨_, _, _, rfl, rfl, fun _ => ⟨gk, rfl⟩⟩
  obtain ⟨ka, kn, kc, rfl, hkn, hka⟩ := hkf
  subst hkn
  clear hv ho hx
  go_enter Tryz.func98, Tryz.ntmps98
  go_wp2_with fail
  go_loopw [8, 9] (fun ok i wr => ∃ k : Nat, k ≤ known.length ∧ i = .int .i64 k ∧ ok = .bool (okFld x.name known k) ∧ FInv own w b m σ x.name x.pos (.slice ka known.length kc) known wr) (fun _ i _ => known.length - (intOf i).toNat)
  case atStart =>
    exact ⟨0, by omega, rfl, by simp [okFld], ⟨h.alloc _, (Ext.refl own w).alloc _, by simp [go_sem], by simp [go_sem], hk.ext ((Ext.refl own w).alloc _)⟩⟩
  case round =>
    obtain ⟨k, hkle, rfl, rfl, hI⟩ := hrel
    have hnm := hI.nm
    clear c0 c1 c2 c3 c4 c5 c6 d8 hk h
    by_cases h9 : k < known.length
    · obtain ⟨gk, rfl⟩ := hka (by omega)
      have hlc := hI.k.cell k h9
      have HN : Hid (okFld x.name known (k + 1) = (okFld x.name known k || (known.getD k ByteArray.empty).toList == x.name.toList)) := okFld_succ _ _ _ h9
      have hki : (k : Int) < (known.length : Int) := by omega
      have hk0 : (0 : Int) ≤ (k : Int) := by omega
      cases hok : okFld x.name known k with
      | true =>
        go_wp2
        go_quiet (fail)
        go_wp2
        go_roundw
        case rel => exact ⟨k + 1, by omega, by go_num, by rw [HN.out, hok]; rfl, hI.drewN _⟩
        case measure => simp [intOf]; omega
      | false =>
        generalize hsk : known.getD k ByteArray.empty = sk at *
        clear hsk
        go_wp2
        go_quiet (fail)
        go_wp2
        go_roundw
        case rel => exact ⟨k + 1, by omega, by go_num, by rw [HN.out, hok]; simp, hI.drewN _⟩
        case measure => simp [intOf]; omega
    · have e9 : k = known.length := by omega
      subst e9
      have HFin : Hid (AfterM own w b m σ wr) := ⟨own, hI.st, hI.e⟩
      have hps := hI.ps
      cases hok : okFld x.name known known.length with
      | true =>
        go_wp2
        go_ret
        exact ⟨ret_int (by rw [HU.out, hok]; rfl), HFin.out⟩
      | false =>
        go_wp2
        go_ret
        exact ⟨ret_int (by rw [HU.out, hok]; rfl), HFin.out⟩

theorem names_any {σ : PSt} {known : List ByteArray} (hlen : σ.nodes.length ≤ 100000) (hkl : known.length ≤ 100000) {i : Nat} {t : Nd} (h : Rep σ.nodes i t) : NamesC known i t σ := by
  induction h with
  | num hx ho => exact names_num hx ho hlen
  | fld hx ho _ => exact names_fld hx ho hlen hkl
  | bin hx ho ho2 ha hb _ _ ih1 ih2 => exact names_bin hx ho ho2 ha hb hlen ih1 ih2
end Go.Proofs.YtddbjcfdmdbmkaaGreatDoor
