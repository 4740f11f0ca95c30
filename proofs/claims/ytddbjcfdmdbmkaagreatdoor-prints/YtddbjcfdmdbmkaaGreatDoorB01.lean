import Derived.Test.YtddbjcfdmdbmkaaGreatDoorProg
import Derived.WalkKit
import Derived.WalkSpells
import Derived.WalkLawsBesides
import Derived.Deep.AppendLies
set_option linter.unusedVariables false
set_option linter.unusedSimpArgs false
/-
  Plain laws on worlds: blocks that are known whole; a set of blocks that stays as it was.
-/
namespace Go.Proofs.YtddbjcfdmdbmkaaGreatDoor
open Go.RowKit

/-- Block b is a row that may be written, known whole. -/
def Blk (w : World) (b : Nat) (cs : Array Value) (t : TypeId) : Prop := w.heap[b]? = some (.cells cs t (0, 0))

theorem Blk.lt {w : World} {b : Nat} {cs : Array Value} {t : TypeId} (h : Blk w b cs t) : b < w.heap.size :=
  (Array.getElem?_eq_some_iff.1 h).1
theorem Blk.cell {w : World} {b : Nat} {cs : Array Value} {t : TypeId} (h : Blk w b cs t) (k : Nat) : w.cell? ⟨b, k, none⟩ = cs[k]? :=
  cell_of_row w b k cs t (0, 0) h
theorem Blk.frozen {w : World} {b : Nat} {cs : Array Value} {t : TypeId} (h : Blk w b cs t) (k : Nat) : w.frozen? ⟨b, k, none⟩ = false :=
  frozen_of_row w b k cs t h
theorem Blk.drew {w : World} {b : Nat} {cs : Array Value} {t : TypeId} (h : Blk w b cs t) : Blk w.drew b cs t := h
theorem Blk.alloc {w : World} {b : Nat} {cs : Array Value} {t : TypeId} (h : Blk w b cs t) (o : Obj) : Blk (w.alloc o) b cs t := by
  unfold Blk; rw [Below.heap_alloc w o b h.lt]; exact h
theorem Blk.set {w : World} {b : Nat} {cs : Array Value} {t : TypeId} (h : Blk w b cs t) (k : Nat) (v : Value) : Blk (w.setCell ⟨b, k, none⟩ v) b (cs.setIfInBounds k v) t := by
  unfold Blk at *; simp [World.setCell, Array.getElem?_modify, h]
theorem Blk.other {w : World} {b : Nat} {cs : Array Value} {t : TypeId} (h : Blk w b cs t) (a : Addr) (v : Value) (hne : a.block ≠ b) : Blk (w.setCell a v) b cs t := by
  unfold Blk at *; simp [World.setCell, Array.getElem?_modify, h, hne]
theorem Blk.new (w : World) (cs : Array Value) (t : TypeId) : Blk (w.alloc (.cells cs t)) w.heap.size cs t := heap_alloc_new w _
theorem Blk.of_eq {w w' : World} {b : Nat} {cs : Array Value} {t : TypeId} (h : Blk w b cs t) (e : w'.heap[b]? = w.heap[b]?) : Blk w' b cs t := e.trans h

theorem alloc_at (w : World) (o : Obj) (H : Nat) (hH : w.heap.size = H) : (w.alloc o).heap[H]? = some o := by subst hH; exact heap_alloc_new w o

/-- The blocks of S are as they were; nothing was said; no block has gone. -/
structure Kept (S : Nat → Prop) (w w' : World) : Prop where
  os : w'.os = w.os
  tape : w'.tape = w.tape
  output : w'.output = w.output
  size : w.heap.size ≤ w'.heap.size
  block : ∀ k, S k → w'.heap[k]? = w.heap[k]?

theorem Kept.refl (S : Nat → Prop) (w : World) : Kept S w w := ⟨rfl, rfl, rfl, Nat.le_refl _, fun _ _ => rfl⟩
theorem Kept.trans {S : Nat → Prop} {a b c : World} (h : Kept S a b) (k : Kept S b c) : Kept S a c :=
  ⟨k.os.trans h.os, k.tape.trans h.tape, k.output.trans h.output, Nat.le_trans h.size k.size, fun i hi => (k.block i hi).trans (h.block i hi)⟩
theorem Kept.mono {S S' : Nat → Prop} {w w' : World} (h : Kept S w w') (hs : ∀ k, S' k → S k) : Kept S' w w' := ⟨h.os, h.tape, h.output, h.size, fun k hk => h.block k (hs k hk)⟩
theorem Kept.drew {S : Nat → Prop} {a w : World} (h : Kept S a w) : Kept S a w.drew := ⟨h.os, h.tape, h.output, h.size, h.block⟩
theorem Kept.alloc {S : Nat → Prop} {a w : World} (h : Kept S a w) (hS : ∀ k, S k → k < w.heap.size) (o : Obj) : Kept S a (w.alloc o) :=
  h.trans ⟨rfl, rfl, rfl, by simp, fun k hk => Below.heap_alloc _ _ _ (hS k hk)⟩
theorem Kept.setCell {S : Nat → Prop} {a w : World} (h : Kept S a w) {p : Addr} (hp : ¬ S p.block) (u : Value) : Kept S a (w.setCell p u) :=
  h.trans ⟨rfl, rfl, rfl, by simp [World.setCell], fun k hk => Below.heap_setCell _ _ _ _ (fun e => hp (e ▸ hk))⟩
theorem Kept.grown {S : Nat → Prop} {a w w' : World} {row : Option Nat} (h : Kept S a w) (hg : w.grownBy w' row) (hS : ∀ k, S k → k < w.heap.size) (hr : ∀ k, row = some k → ¬ S k) : Kept S a w' :=
  h.trans ⟨hg.os, hg.tape, hg.output, hg.size, fun k hk => hg.block k (hS k hk) (fun e => hr k e.symm hk)⟩
theorem Kept.blk {S : Nat → Prop} {w w' : World} (h : Kept S w w') {b : Nat} {cs : Array Value} {t : TypeId} (hb : S b) (k : Blk w b cs t) : Blk w' b cs t := (h.block b hb).trans k
theorem Kept.below {B : Nat} {w w' : World} (h : Kept (fun k => k < B) w w') : Below B w w' := ⟨h.os, h.tape, h.output, h.size, h.block⟩
theorem Kept.ofBelow {B : Nat} {w w' : World} (h : Below B w w') : Kept (fun k => k < B) w w' := ⟨h.os, h.tape, h.output, h.size, h.block⟩

/-- What is owned by somebody stays his: own k = 7 says that nobody writes block k any more, own k = 8 that its owner alone does. -/
structure Ext (own : Nat → Nat) (w : World) (own' : Nat → Nat) (w' : World) : Prop where
  same : ∀ k, k < w.heap.size → own' k = own k
  kept : Kept (fun k => k < w.heap.size ∧ 7 ≤ own k) w w'

theorem Ext.refl (own : Nat → Nat) (w : World) : Ext own w own w := ⟨fun _ _ => rfl, Kept.refl _ _⟩
theorem Ext.trans {a b c : Nat → Nat} {w w' w'' : World} (h : Ext a w b w') (k : Ext b w' c w'') : Ext a w c w'' :=
  ⟨fun i hi => (k.same i (Nat.lt_of_lt_of_le hi h.kept.size)).trans (h.same i hi),
   h.kept.trans (k.kept.mono fun i hi => ⟨Nat.lt_of_lt_of_le hi.1 h.kept.size, by rw [h.same i hi.1]; exact hi.2⟩)⟩
theorem Ext.size {a b : Nat → Nat} {w w' : World} (h : Ext a w b w') : w.heap.size ≤ w'.heap.size := h.kept.size
theorem Ext.blk {a a' : Nat → Nat} {w w' : World} (h : Ext a w a' w') {b : Nat} {cs : Array Value} {t : TypeId} (hb : a b = 7) (k : Blk w b cs t) : Blk w' b cs t := h.kept.blk ⟨k.lt, by omega⟩ k
theorem Ext.blk8 {a a' : Nat → Nat} {w w' : World} (h : Ext a w a' w') {b : Nat} {cs : Array Value} {t : TypeId} (hb : a b = 8) (k : Blk w b cs t) : Blk w' b cs t := h.kept.blk ⟨k.lt, by omega⟩ k
theorem Ext.drew {a b : Nat → Nat} {w w' : World} (h : Ext a w b w') : Ext a w b w'.drew := ⟨h.same, h.kept.drew⟩
theorem Ext.alloc {a b : Nat → Nat} {w w' : World} (h : Ext a w b w') (o : Obj) : Ext a w b (w'.alloc o) := ⟨h.same, h.kept.alloc (fun _ hk => Nat.lt_of_lt_of_le hk.1 h.kept.size) o⟩
/-- a block more, that belongs to n -/
def put (own : Nat → Nat) (k n : Nat) : Nat → Nat := fun i => if i = k then n else own i
theorem put_same (own : Nat → Nat) (k n : Nat) : put own k n k = n := by simp [put]
theorem put_other (own : Nat → Nat) (k n i : Nat) (h : i ≠ k) : put own k n i = own i := by simp [put, h]
theorem Ext.allocAs {a b : Nat → Nat} {w w' : World} (h : Ext a w b w') (o : Obj) (n : Nat) : Ext a w (put b w'.heap.size n) (w'.alloc o) :=
  ⟨fun k hk => by rw [put_other _ _ _ _ (by have := h.kept.size; omega)]; exact h.same k hk, (h.alloc o).kept⟩
theorem Ext.setCell {a b : Nat → Nat} {w w' : World} (h : Ext a w b w') {p : Addr} (hp : b p.block < 7) (u : Value) : Ext a w b (w'.setCell p u) :=
  ⟨h.same, h.kept.setCell (fun hk => by have := h.same _ hk.1; have := hk.2; omega) u⟩
theorem Ext.setNew {a b : Nat → Nat} {w w' : World} (h : Ext a w b w') {p : Addr} (hp : w.heap.size ≤ p.block) (u : Value) : Ext a w b (w'.setCell p u) :=
  ⟨h.same, h.kept.setCell (fun hk => by have := hk.1; omega) u⟩
end Go.Proofs.YtddbjcfdmdbmkaaGreatDoor
