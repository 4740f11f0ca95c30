import Derived.Test.YtddbjcfdmdbmkaaGreatDoorProg
import Derived.WalkKit
import Derived.WalkSpells
import Derived.WalkLawsBesides
import Derived.Deep.AppendLies
set_option linter.unusedVariables false
set_option linter.unusedSimpArgs false
namespace Go.Proofs.YtddbjcfdmdbmkaaGreatDoor
open Go.RowKit

def Blk (w : World) (b : Nat) (cs : Array Value) (t : TypeId) : Prop := w.heap[b]? = some (.cells cs t (0, 0))

theorem Blk.lt {w : World} {b : Nat} {cs : Array Value} {t : TypeId} (h : Blk w b cs t) : b < w.heap.size :=
  (Array.getElem?_eq_some_iff.1 h).1
theorem Blk.cell {w : World} {b : Nat} {cs : Array Value} {t : TypeId} (h : Blk w b cs t) (k : Nat) : w.cell? ⟨b, k, none⟩ = cs[k]? :=
  cell_of_row w b k cs t (0, 0) h
theorem Blk.frozen {w : World} {b : Nat} {cs : Array Value} {t : TypeId} (h : Blk w b cs t) (k : Nat) : w.frozen? ⟨b, k, none⟩ = false :=
  frozen_of_row w b k cs t h
theorem Blk.drew {w : World} {b : Nat} {cs : Array Value} {t : TypeId} (h : Blk w b cs t) : Blk w.drew b cs t := h
theorem Blk.alloc {w : World} {b : Nat} {cs : Array Value} {t : TypeId} (h : Blk w b cs t) (o : Obj) : Blk (w.alloc o) b cs t := by
  unfold Blk; rw [Below.heap_alloc w o b h.lt]; exact h
theorem Blk.set {w : World} {b : Nat} {cs : Array Value} {t : TypeId} (h : Blk w b cs t) (k : Nat) (v : Value) : Blk (w.setCell ⟨b, k, none⟩ v) b (cs.setIfInBounds k v) t := by
  unfold Blk at *; simp [World.setCell, Array.getElem?_modify, h]
theorem Blk.other {w : World} {b : Nat} {cs : Array Value} {t : TypeId} (h : Blk w b cs t) (a : Addr) (v : Value) (hne : a.block ≠ b) : Blk (w.setCell a v) b cs t := by
  unfold Blk at *; simp [World.setCell, Array.getElem?_modify, h, hne]
theorem Blk.new (w : World) (cs : Array Value) (t : TypeId) : Blk (w.alloc (.cells cs t)) w.heap.size cs t := heap_alloc_new w _
theorem Blk.of_eq {w w' : World} {b : Nat} {cs : Array Value} {t : TypeId} (h : Blk w b cs t) (e : w'.heap[b]? = w.heap[b]?) : Blk w' b cs t := e.trans h

theorem alloc_at (w : World) (o : Obj) (H : Nat) (hH : w.heap.size = H) : (w.alloc o).heap[H]? = some o := by subst hH; exact heap_alloc_new w o

structure Kept (S : Nat → Prop) (w w' : World) : Prop where
  os : w'.os = w.os
  tape : w'.tape = w.tape
  output : w'.output = w.output
  size : w.heap.size ≤ w'.heap.size
  block : ∀ k, S k → w'.heap[k]? = w.heap[k]?

theorem Kept.refl (S : Nat → Prop) (w : World) : Kept S w w := ⟨rfl, rfl, rfl, Nat.le_refl _, fun _ _ => rfl⟩
theorem Kept.trans {S : Nat → Prop} {a b c : World} (h : Kept S a b) (k : Kept S b c) : Kept S a c :=
  ⟨k.os.trans h.os, k.tape.trans h.tape, k.output.trans h.output, Nat.le_trans h.size k.size, fun i hi => (k.block i hi).trans (h.block i hi)⟩
theorem Kept.mono {S S' : Nat → Prop} {w w' : World} (h : Kept S w w') (hs : ∀ k, S' k → S k) : Kept S' w w' := ⟨h.os, h.tape, h.output, h.size, fun k hk => h.block k (hs k hk)⟩
theorem Kept.drew {S : Nat → Prop} {a w : World} (h : Kept S a w) : Kept S a w.drew := ⟨h.os, h.tape, h.output, h.size, h.block⟩
theorem Kept.alloc {S : Nat → Prop} {a w : World} (h : Kept S a w) (hS : ∀ k, S k → k < w.heap.size) (o : Obj) : Kept S a (w.alloc o) :=
  h.trans ⟨rfl, rfl, rfl, by simp, fun k hk => Below.heap_alloc _ _ _ (hS k hk)⟩
theorem Kept.setCell {S : Nat → Prop} {a w : World} (h : Kept S a w) {p : Addr} (hp : ¬ S p.block) (u : Value) : Kept S a (w.setCell p u) :=
  h.trans ⟨rfl, rfl, rfl, by simp [World.setCell], fun k hk => Below.heap_setCell _ _ _ _ (fun e => hp (e ▸ hk))⟩
theorem Kept.grown {S : Nat → Prop} {a w w' : World} {row : Option Nat} (h : Kept S a w) (hg : w.grownBy w' row) (hS : ∀ k, S k → k < w.heap.size) (hr : ∀ k, row = some k → ¬ S k) : Kept S a w' :=
  h.trans ⟨hg.os, hg.tape, hg.output, hg.size, fun k hk => hg.block k (hS k hk) (fun e => hr k e.symm hk)⟩
theorem Kept.blk {S : Nat → Prop} {w w' : World} (h : Kept S w w') {b : Nat} {cs : Array Value} {t : TypeId} (hb : S b) (k : Blk w b cs t) : Blk w' b cs t := (h.block b hb).trans k
theorem Kept.below {B : Nat} {w w' : World} (h : Kept (fun k => k < B) w w') : Below B w w' := ⟨h.os, h.tape, h.output, h.size, h.block⟩
theorem Kept.ofBelow {B : Nat} {w w' : World} (h : Below B w w') : Kept (fun k => k < B) w w' := ⟨h.os, h.tape, h.output, h.size, h.block⟩

structure Ext (own : Nat → Nat) (w : World) (own' : Nat → Nat) (w' : World) : Prop where
  same : ∀ k, k < w.heap.size → own' k = own k
  kept : Kept (fun k => k < w.heap.size ∧ 7 ≤ own k) w w'

theorem Ext.refl (own : Nat → Nat) (w : World) : Ext own w own w := ⟨fun _ _ => rfl, Kept.refl _ _⟩
theorem Ext.trans {a b c : Nat → Nat} {w w' w'' : World} (h : Ext a w b w') (k : Ext b w' c w'') : Ext a w c w'' :=
  ⟨fun i hi => (k.same i (Nat.lt_of_lt_of_le hi h.kept.size)).trans (h.same i hi),
   h.kept.trans (k.kept.mono fun i hi => ⟨Nat.lt_of_lt_of_le hi.1 h.kept.size, by rw [h.same i hi.1]; exact hi.2⟩)⟩
theorem Ext.size {a b : Nat → Nat} {w w' : World} (h : Ext a w b w') : w.heap.size ≤ w'.heap.size := h.kept.size
theorem Ext.blk {a a' : Nat → Nat} {w w' : World} (h : Ext a w a' w') {b : Nat} {cs : Array Value} {t : TypeId} (hb : a b = 7) (k : Blk w b cs t) : Blk w' b cs t := h.kept.blk ⟨k.lt, by omega⟩ k
theorem Ext.blk8 {a a' : Nat → Nat} {w w' : World} (h : Ext a w a' w') {b : Nat} {cs : Array Value} {t : TypeId} (hb : a b = 8) (k : Blk w b cs t) : Blk w' b cs t := h.kept.blk ⟨k.lt, by omega⟩ k
theorem Ext.drew {a b : Nat → Nat} {w w' : World} (h : Ext a w b w') : Ext a w b w'.drew := ⟨h.same, h.kept.drew⟩
theorem Ext.alloc {a b : Nat → Nat} {w w' : World} (h : Ext a w b w') (o : Obj) : Ext a w b (w'.alloc o) := ⟨h.same, h.kept.alloc (fun _ hk => Nat.lt_of_lt_of_le hk.1 h.kept.size) o⟩
def put (own : Nat → Nat) (k n : Nat) : Nat → Nat := fun i => if i = k then n else own i
theorem put_same (own : Nat → Nat) (k n : Nat) : put own k n k = n := by simp [put]
theorem put_other (own : Nat → Nat) (k n i : Nat) (h : i ≠ k) : put own k n i = own i := by simp [put, h]
theorem Ext.allocAs {a b : Nat → Nat} {w w' : World} (h : Ext a w b w') (o : Obj) (n : Nat) : Ext a w (put b w'.heap.size n) (w'.alloc o) :=
  ⟨fun k hk => by rw [put_other _ _ _ _ (by have := h.kept.size; omega)]; exact h.same k hk, (h.alloc o).kept⟩
theorem Ext.setCell {a b : Nat → Nat} {w w' : World} (h : Ext a w b w') {p : Addr} (hp : b p.block < 7) (u : Value) : Ext a w b (w'.setCell p u) :=
  ⟨h.same, h.kept.setCell (fun hk => by have := h.same _ hk.1; have := hk.2; omega) u⟩
theorem Ext.setNew {a b : Nat → Nat} {w w' : World} (h : Ext a w b w') {p : Addr} (hp : w.heap.size ≤ p.block) (u : Value) : Ext a w b (w'.setCell p u) :=
  ⟨h.same, h.kept.setCell (fun hk => by have := hk.1; omega) u⟩
end Go.Proofs.YtddbjcfdmdbmkaaGreatDoor

namespace Go.Proofs.YtddbjcfdmdbmkaaGreatDoor

structure Ev where
  time : Int
  kind : Int
  a : Int
  b : Int
  c : Int
instance : Inhabited Ev := ⟨⟨0, 0, 0, 0, 0⟩⟩
structure ASt where
  fits : List Ev → Ev → Bool
  stops : List Ev → Ev → Bool
def evAt (evs : List Ev) (i : Nat) : Ev := evs.getD i default
def evsOf (evs : List Ev) (t : List Nat) : List Ev := t.map (evAt evs)
def freeP (evs : List Ev) (st : ASt) (t : List Nat) (hi : Nat) : Prop := ∀ i, t.getLastD 0 < i → i < hi → st.stops (evsOf evs t) (evAt evs i) = false
instance (evs : List Ev) (st : ASt) (t : List Nat) (hi : Nat) : Decidable (freeP evs st t hi) :=
  decidable_of_iff (∀ i, i < hi → t.getLastD 0 < i → st.stops (evsOf evs t) (evAt evs i) = false) ⟨fun h i a b => h i b a, fun h i a b => h i b a⟩
def startP (t : List Nat) : Nat := if t = [] then 0 else t.getLastD 0 + 1
def goodP (evs : List Ev) (st : ASt) (t : List Nat) (i : Nat) : Prop := startP t ≤ i ∧ i < evs.length ∧ st.fits (evsOf evs t) (evAt evs i) = true ∧ (t = [] ∨ freeP evs st t i)
def ExtE (evs : List Ev) : List Nat → List ASt → List Nat → Prop
  | _, _, [] => True
  | _, [], _ :: _ => False
  | pre, st :: rest, i :: suf => goodP evs st pre i ∧ ExtE evs (pre ++ [i]) rest suf
theorem evAt_app {evs : List Ev} {e : Ev} {i : Nat} (h : i < evs.length) : evAt (evs ++ [e]) i = evAt evs i := by
  unfold evAt
  rw [List.getD_eq_getElem?_getD, List.getD_eq_getElem?_getD, List.getElem?_append_left h]
theorem evAt_new (evs : List Ev) (e : Ev) : evAt (evs ++ [e]) evs.length = e := by
  unfold evAt
  rw [List.getD_eq_getElem?_getD, List.getElem?_append_right (Nat.le_refl _)]
  simp
theorem evsOf_app {evs : List Ev} {e : Ev} {t : List Nat} (h : ∀ i ∈ t, i < evs.length) : evsOf (evs ++ [e]) t = evsOf evs t :=
  List.map_congr_left fun i hi => evAt_app (h i hi)
theorem free_app {evs : List Ev} {e : Ev} {st : ASt} {t : List Nat} {hi : Nat} (h : ∀ i ∈ t, i < evs.length) (hh : hi ≤ evs.length) : freeP (evs ++ [e]) st t hi ↔ freeP evs st t hi := by
  unfold freeP
  rw [evsOf_app h]
  constructor
  · intro hf i h1 h2; rw [← evAt_app (e := e) (by omega)]; exact hf i h1 h2
  · intro hf i h1 h2; rw [evAt_app (by omega)]; exact hf i h1 h2
theorem good_app {evs : List Ev} {e : Ev} {st : ASt} {t : List Nat} {i : Nat} (h : ∀ j ∈ t, j < evs.length) (hi : i < evs.length) : goodP (evs ++ [e]) st t i ↔ goodP evs st t i := by
  unfold goodP
  rw [evsOf_app h, evAt_app hi, free_app h (by omega), List.length_append]
  constructor
  · rintro ⟨a, _, b⟩; exact ⟨a, hi, b⟩
  · rintro ⟨a, _, b⟩; exact ⟨a, by omega, b⟩
theorem ext_lt {evs : List Ev} : ∀ {suf pre : List Nat} {rest : List ASt}, ExtE evs pre rest suf → (∀ j ∈ pre, j < evs.length) → ∀ j ∈ pre ++ suf, j < evs.length := by
  intro suf
  induction suf with
  | nil => intro pre rest _ h; simpa using h
  | cons i suf ih =>
    intro pre rest h hp
    cases rest with
    | nil => exact h.elim
    | cons st rest =>
      have := ih h.2 (fun j hj => by
        rcases List.mem_append.1 hj with hj | hj
        · exact hp j hj
        · rw [List.mem_singleton.1 hj]; exact h.1.2.1)
      simpa using this
theorem ext_snoc {evs : List Ev} : ∀ {suf pre : List Nat} {rest : List ASt} {i : Nat}, ExtE evs pre rest (suf ++ [i]) ↔ ExtE evs pre rest suf ∧ ∃ st, rest[suf.length]? = some st ∧ goodP evs st (pre ++ suf) i := by
  intro suf
  induction suf with
  | nil =>
    intro pre rest i
    cases rest with
    | nil => simp [ExtE]
    | cons st rest => simp [ExtE]
  | cons j suf ih =>
    intro pre rest i
    cases rest with
    | nil => simp [ExtE]
    | cons st rest =>
      show goodP evs st pre j ∧ ExtE evs (pre ++ [j]) rest (suf ++ [i]) ↔ _
      rw [ih]
      simp only [ExtE, List.length_cons, List.getElem?_cons_succ, List.append_assoc, List.singleton_append]
      exact ⟨fun ⟨a, b, c⟩ => ⟨⟨a, b⟩, c⟩, fun ⟨⟨a, b⟩, c⟩ => ⟨a, b, c⟩⟩
theorem ext_len {evs : List Ev} : ∀ {suf pre : List Nat} {rest : List ASt}, ExtE evs pre rest suf → suf.length ≤ rest.length := by
  intro suf
  induction suf with
  | nil => intros; exact Nat.zero_le _
  | cons i suf ih =>
    intro pre rest h
    cases rest with
    | nil => exact h.elim
    | cons st rest => have := ih h.2; simp; omega
theorem ext_app {evs : List Ev} {e : Ev} : ∀ {suf pre : List Nat} {rest : List ASt}, (∀ j ∈ pre, j < evs.length) → (∀ j ∈ suf, j < evs.length) → (ExtE (evs ++ [e]) pre rest suf ↔ ExtE evs pre rest suf) := by
  intro suf
  induction suf with
  | nil => intros; simp [ExtE]
  | cons i suf ih =>
    intro pre rest hp hs
    cases rest with
    | nil => simp [ExtE]
    | cons st rest =>
      have hi := hs i (by simp)
      show goodP _ _ _ _ ∧ _ ↔ goodP _ _ _ _ ∧ _
      rw [good_app hp hi, ih (fun j hj => by
        rcases List.mem_append.1 hj with hj | hj
        · exact hp j hj
        · rw [List.mem_singleton.1 hj]; exact hi) (fun j hj => hs j (by simp [hj]))]
def RunP (evs : List Ev) (path : List ASt) (t : List Nat) : Prop := t ≠ [] ∧ ExtE evs [] path t ∧ ∃ st, path[t.length]? = some st ∧ freeP evs st t evs.length
def MatchP (evs : List Ev) (path : List ASt) (t : List Nat) : Prop := t ≠ [] ∧ ExtE evs [] path t ∧ t.length = path.length ∧ t.getLastD 0 + 1 = evs.length
theorem last_snoc (t : List Nat) (i : Nat) : (t ++ [i]).getLastD 0 = i := by simp [List.getLastD_eq_getLast?]
theorem ext_last {evs : List Ev} {path : List ASt} {t : List Nat} {i : Nat} (h : ExtE evs [] path (t ++ [i])) : t = [] ∨ t.getLastD 0 < i := by
  obtain ⟨_, st, _, hg⟩ := ext_snoc.1 h
  have := hg.1
  unfold startP at this
  rw [List.nil_append] at this
  split at this
  · left; assumption
  · right; omega
theorem run_snoc {evs : List Ev} {e : Ev} {path : List ASt} {t : List Nat} : RunP (evs ++ [e]) path t ↔
    (RunP evs path t ∧ ∃ st, path[t.length]? = some st ∧ st.stops (evsOf evs t) e = false) ∨
    (∃ r, t = r ++ [evs.length] ∧ (r = [] ∨ RunP evs path r) ∧ t.length < path.length ∧ ∃ st, path[r.length]? = some st ∧ st.fits (evsOf evs r) e = true) := by
  have hcase : t = [] ∨ ∃ r i, t = r ++ [i] := by
    rcases List.eq_nil_or_concat t with h | ⟨r, i, h⟩
    · exact .inl h
    · exact .inr ⟨r, i, by simpa using h⟩
  rcases hcase with rfl | ⟨r, i, rfl⟩
  · simp [RunP]
  have hfree : ∀ st, (∀ j ∈ r ++ [i], j < evs.length) → (freeP (evs ++ [e]) st (r ++ [i]) (evs ++ [e]).length ↔ freeP evs st (r ++ [i]) evs.length ∧ st.stops (evsOf evs (r ++ [i])) e = false) := by
    intro st hlt
    have hi : i < evs.length := hlt i (by simp)
    rw [← free_app (e := e) hlt (Nat.le_refl _)]
    unfold freeP
    rw [List.length_append, last_snoc]
    constructor
    · intro h
      refine ⟨fun k h1 h2 => h k h1 (by simp; omega), ?_⟩
      have := h evs.length hi (by simp)
      rw [evAt_new, evsOf_app hlt] at this
      exact this
    · rintro ⟨h1, h2⟩ k hk1 hk2
      simp only [List.length_cons, List.length_nil] at hk2
      by_cases hk : k < evs.length
      · exact h1 k hk1 hk
      · rw [show k = evs.length by omega, evAt_new, evsOf_app hlt]; exact h2
  constructor
  · rintro ⟨_, hE, st, hst, hf⟩
    have hlt := ext_lt hE (by simp)
    simp only [List.nil_append, List.length_append, List.length_cons, List.length_nil] at hlt
    have hr : ∀ j ∈ r, j < evs.length := by
      intro j hj
      have hi2 := hlt i (by simp)
      have hmono : ∀ {r : List Nat} {i : Nat}, ExtE (evs ++ [e]) [] path (r ++ [i]) → ∀ j ∈ r, j < i := by
        intro r
        induction hn : r.length generalizing r with
        | zero => intro i _ j hj; rw [List.length_eq_zero_iff.1 hn] at hj; simp at hj
        | succ n ih =>
          intro i h j hj
          rcases List.eq_nil_or_concat r with h0 | ⟨r', k, h0⟩
          · rw [h0] at hn; simp at hn
          · have h0' : r = r' ++ [k] := by simpa using h0
            subst h0'
            have hki : k < i := by
              rcases ext_last h with h1 | h1
              · simp at h1
              · rwa [last_snoc] at h1
            rcases List.mem_append.1 hj with hj | hj
            · have := ih (r := r') (by simpa using hn) (ext_snoc.1 h).1 j hj; omega
            · rw [List.mem_singleton.1 hj]; exact hki
      have := hmono hE j hj
      omega
    by_cases hi : i < evs.length
    · left
      have hlt2 : ∀ j ∈ r ++ [i], j < evs.length := fun j hj => by
        rcases List.mem_append.1 hj with hj | hj
        · exact hr j hj
        · rw [List.mem_singleton.1 hj]; exact hi
      obtain ⟨f1, f2⟩ := (hfree st hlt2).1 hf
      exact ⟨⟨by simp, (ext_app (by simp) hlt2).1 hE, st, hst, f1⟩, st, hst, f2⟩
    · right
      have hie : i = evs.length := by have := hlt i (by simp); omega
      subst hie
      obtain ⟨h1, st', h2, h3⟩ := ext_snoc.1 hE
      rw [List.nil_append] at h3
      have hlen : (r ++ [evs.length]).length < path.length := by
        rcases List.getElem?_eq_some_iff.1 hst with ⟨h, _⟩; exact h
      refine ⟨r, rfl, ?_, hlen, st', h2, ?_⟩
      · by_cases h0 : r = []
        · exact .inl h0
        · right
          refine ⟨h0, (ext_app (by simp) hr).1 h1, st', h2, ?_⟩
          rcases h3.2.2.2 with h | h
          · exact absurd h h0
          · exact (free_app hr (Nat.le_refl _)).1 h
      · have := h3.2.2.1
        rw [evAt_new, evsOf_app hr] at this
        exact this
  · rintro (⟨⟨h0, hE, st, hst, hf⟩, st', hst', hs⟩ | ⟨r', he, hr, hlen, st, hst, hfit⟩)
    · have hlt := ext_lt hE (by simp)
      rw [List.nil_append] at hlt
      rw [hst] at hst'
      cases hst'
      exact ⟨h0, (ext_app (by simp) hlt).2 hE, st, hst, (hfree st hlt).2 ⟨hf, hs⟩⟩
    · obtain ⟨rfl, h2⟩ := List.append_inj' he rfl
      have h2 : i = evs.length := by simpa using h2
      subst h2
      have hEr : ExtE evs [] path r := by rcases hr with rfl | h; exact trivial; exact h.2.1
      have hlt := ext_lt hEr (by simp)
      rw [List.nil_append] at hlt
      refine ⟨by simp, ext_snoc.2 ⟨(ext_app (by simp) hlt).2 hEr, st, hst, ?_⟩, ?_⟩
      · rw [List.nil_append]
        refine ⟨?_, by simp, by rw [evAt_new, evsOf_app hlt]; exact hfit, ?_⟩
        · unfold startP
          split
          · omega
          · rename_i h0
            have : r.getLastD 0 ∈ r := by
              rw [List.getLastD_eq_getLast?, List.getLast?_eq_some_getLast h0]; exact List.getLast_mem h0
            have := hlt _ this; omega
        · rcases hr with h | h
          · exact .inl h
          · right
            obtain ⟨_, _, st2, hs2, hf2⟩ := h
            rw [hst] at hs2
            cases hs2
            exact (free_app hlt (Nat.le_refl _)).2 hf2
      · obtain ⟨st2, hs2⟩ : ∃ st2, path[(r ++ [evs.length]).length]? = some st2 := ⟨_, List.getElem?_eq_getElem hlen⟩
        refine ⟨st2, hs2, ?_⟩
        intro k h1 h2
        rw [last_snoc] at h1
        simp at h2
        omega
theorem match_snoc {evs : List Ev} {e : Ev} {path : List ASt} {t : List Nat} : MatchP (evs ++ [e]) path t ↔
    ∃ r, t = r ++ [evs.length] ∧ (r = [] ∨ RunP evs path r) ∧ t.length = path.length ∧ ∃ st, path[r.length]? = some st ∧ st.fits (evsOf evs r) e = true := by
  constructor
  · rintro ⟨h0, hE, hlen, hlast⟩
    rcases List.eq_nil_or_concat t with h | ⟨r, i, h⟩
    · exact absurd h h0
    have h' : t = r ++ [i] := by simpa using h
    subst h'
    rw [last_snoc] at hlast
    have hie : i = evs.length := by simpa using hlast
    subst hie
    obtain ⟨h1, st', h2, h3⟩ := ext_snoc.1 hE
    rw [List.nil_append] at h3
    have hr : ∀ j ∈ r, j < evs.length := by
      have hlt := ext_lt h1 (by simp)
      intro j hj
      have hmono : ∀ {r : List Nat} {i : Nat}, ExtE (evs ++ [e]) [] path (r ++ [i]) → ∀ j ∈ r, j < i := by
        intro r
        induction hn : r.length generalizing r with
        | zero => intro i _ j hj; rw [List.length_eq_zero_iff.1 hn] at hj; simp at hj
        | succ n ih =>
          intro i h j hj
          rcases List.eq_nil_or_concat r with h0 | ⟨r', k, h0⟩
          · rw [h0] at hn; simp at hn
          · have h0' : r = r' ++ [k] := by simpa using h0
            subst h0'
            have hki : k < i := by
              rcases ext_last h with h1 | h1
              · simp at h1
              · rwa [last_snoc] at h1
            rcases List.mem_append.1 hj with hj | hj
            · have := ih (r := r') (by simpa using hn) (ext_snoc.1 h).1 j hj; omega
            · rw [List.mem_singleton.1 hj]; exact hki
      exact hmono hE j hj
    refine ⟨r, rfl, ?_, hlen, st', h2, ?_⟩
    · by_cases hr0 : r = []
      · exact .inl hr0
      · right
        refine ⟨hr0, (ext_app (by simp) hr).1 h1, st', h2, ?_⟩
        rcases h3.2.2.2 with h | h
        · exact absurd h hr0
        · exact (free_app hr (Nat.le_refl _)).1 h
    · have := h3.2.2.1
      rw [evAt_new, evsOf_app hr] at this
      exact this
  · rintro ⟨r, rfl, hr, hlen, st, hst, hfit⟩
    have hEr : ExtE evs [] path r := by rcases hr with rfl | h; exact trivial; exact h.2.1
    have hlt := ext_lt hEr (by simp)
    rw [List.nil_append] at hlt
    refine ⟨by simp, ext_snoc.2 ⟨(ext_app (by simp) hlt).2 hEr, st, hst, ?_⟩, hlen, by rw [last_snoc]; simp⟩
    rw [List.nil_append]
    refine ⟨?_, by simp, by rw [evAt_new, evsOf_app hlt]; exact hfit, ?_⟩
    · unfold startP
      split
      · omega
      · rename_i h0
        have : r.getLastD 0 ∈ r := by
          rw [List.getLastD_eq_getLast?, List.getLast?_eq_some_getLast h0]; exact List.getLast_mem h0
        have := hlt _ this; omega
    · rcases hr with h | h
      · exact .inl h
      · right
        obtain ⟨_, _, st2, hs2, hf2⟩ := h
        rw [hst] at hs2
        cases hs2
        exact (free_app hlt (Nat.le_refl _)).2 hf2
end Go.Proofs.YtddbjcfdmdbmkaaGreatDoor

namespace Go.Proofs.YtddbjcfdmdbmkaaGreatDoor

section
variable {α : Type} [Inhabited α] (key : α → Int)
def keyAt (l : List α) (i : Nat) : Int := key (l.getD i default)
def swapL (l : List α) (i j : Nat) : List α := (l.set i (l.getD j default)).set j (l.getD i default)
theorem swapL_len (l : List α) (i j : Nat) : (swapL l i j).length = l.length := by unfold swapL; simp
theorem swapL_getD (l : List α) (i j k : Nat) (hi : i < l.length) (hj : j < l.length) : (swapL l i j).getD k default = if k = j then l.getD i default else if k = i then l.getD j default else l.getD k default := by
  unfold swapL
  simp only [List.getD_eq_getElem?_getD, List.getElem?_set, List.length_set]
  by_cases h1 : j = k
  · subst h1; simp [hj]
  · have h1' : ¬ k = j := fun e => h1 e.symm
    by_cases h2 : i = k
    · subst h2; simp [h1, h1', hi]
    · have h2' : ¬ k = i := fun e => h2 e.symm
      simp [h1, h1', h2, h2']
theorem swapL_perm (l : List α) (i j : Nat) (hi : i < l.length) (hj : j < l.length) : (swapL l i j).Perm l := by
  unfold swapL
  have e1 : l.getD j default = l[j] := by simp [List.getD, hj]
  have e2 : l.getD i default = l[i] := by simp [List.getD, hi]
  rw [e1, e2]
  exact List.set_set_perm hi hj
theorem key_swap (l : List α) (i j k : Nat) (hi : i < l.length) (hj : j < l.length) : keyAt key (swapL l i j) k = if k = j then keyAt key l i else if k = i then keyAt key l j else keyAt key l k := by
  unfold keyAt
  rw [swapL_getD l i j k hi hj]
  split
  · rfl
  · split <;> rfl
def childP (l : List α) (i n : Nat) : Nat := if 2 * i + 2 < n ∧ keyAt key l (2 * i + 2) < keyAt key l (2 * i + 1) then 2 * i + 2 else 2 * i + 1
def downP : Nat → List α → Nat → Nat → List α
  | 0, l, _, _ => l
  | f + 1, l, i, n => if n ≤ 2 * i + 1 then l else if keyAt key l (childP key l i n) < keyAt key l i then downP f (swapL l i (childP key l i n)) (childP key l i n) n else l
theorem childP_spec (l : List α) (i n : Nat) (h : 2 * i + 1 < n) : (childP key l i n = 2 * i + 1 ∨ childP key l i n = 2 * i + 2) ∧ childP key l i n < n ∧ ∀ c, c < n → (c = 2 * i + 1 ∨ c = 2 * i + 2) → keyAt key l (childP key l i n) ≤ keyAt key l c := by
  unfold childP
  split
  · rename_i hc
    refine ⟨.inr rfl, hc.1, fun c _ h => ?_⟩
    rcases h with rfl | rfl
    · exact Int.le_of_lt hc.2
    · exact Int.le_refl _
  · rename_i hc
    refine ⟨.inl rfl, h, fun c hcn h => ?_⟩
    rcases h with rfl | rfl
    · exact Int.le_refl _
    · have : ¬ keyAt key l (2 * i + 2) < keyAt key l (2 * i + 1) := fun e => hc ⟨hcn, e⟩
      omega
theorem downP_perm : ∀ f l i n, n ≤ l.length → (downP key f l i n).Perm l := by
  intro f
  induction f with
  | zero => intro l i n _; exact List.Perm.refl _
  | succ f ih =>
    intro l i n hn
    unfold downP
    split
    · exact List.Perm.refl _
    · split
      · obtain ⟨_, h2, _⟩ := childP_spec key l i n (by omega)
        exact (ih _ _ _ (by rw [swapL_len]; exact hn)).trans (swapL_perm l i _ (by omega) (by omega))
      · exact List.Perm.refl _
theorem downP_len (f : Nat) (l : List α) (i n : Nat) (hn : n ≤ l.length) : (downP key f l i n).length = l.length := (downP_perm key f l i n hn).length_eq
theorem downP_far : ∀ f l i n k, n ≤ l.length → n ≤ k → (downP key f l i n).getD k default = l.getD k default := by
  intro f
  induction f with
  | zero => intro l i n k _ _; rfl
  | succ f ih =>
    intro l i n k hn hk
    unfold downP
    split
    · rfl
    · split
      · obtain ⟨_, h2, _⟩ := childP_spec key l i n (by omega)
        rw [ih _ _ _ _ (by rw [swapL_len]; exact hn) hk, swapL_getD l i _ k (by omega) (by omega), if_neg (by omega), if_neg (by omega)]
      · rfl
def HeapBut (l : List α) (n lo i : Nat) : Prop := (∀ c, 0 < c → c < n → lo ≤ (c - 1) / 2 → (c - 1) / 2 ≠ i → keyAt key l ((c - 1) / 2) ≤ keyAt key l c) ∧
  (∀ c, 0 < c → c < n → (c - 1) / 2 = i → 0 < i → lo ≤ (i - 1) / 2 → keyAt key l ((i - 1) / 2) ≤ keyAt key l c)
def HeapFrom (l : List α) (n lo : Nat) : Prop := ∀ c, 0 < c → c < n → lo ≤ (c - 1) / 2 → keyAt key l ((c - 1) / 2) ≤ keyAt key l c
theorem downP_heap : ∀ f l i n lo, n ≤ l.length → lo ≤ i → n ≤ i + f → HeapBut key l n lo i → HeapFrom key (downP key f l i n) n lo := by
  intro f
  induction f with
  | zero =>
    intro l i n lo hn hlo hf h c hc0 hcn hp
    exact h.1 c hc0 hcn hp (by omega)
  | succ f ih =>
    intro l i n lo hn hlo hf h
    unfold downP
    split
    · rename_i hle
      intro c hc0 hcn hp
      exact h.1 c hc0 hcn hp (by omega)
    · rename_i hle
      obtain ⟨h1, h2, h3⟩ := childP_spec key l i n (by omega)
      generalize hj : childP key l i n = j at *
      split
      · rename_i hlt
        have hil : i < l.length := by omega
        have hjl : j < l.length := by omega
        refine ih (swapL l i j) j n lo (by rw [swapL_len]; exact hn) (by omega) (by omega) ⟨fun c hc0 hcn hp hpj => ?_, fun c hc0 hcn hpc hj0 hjp => ?_⟩
        · rw [key_swap key l i j _ hil hjl, key_swap key l i j c hil hjl]
          by_cases hpi : (c - 1) / 2 = i
          · rw [if_neg hpj, if_pos hpi]
            by_cases hcj : c = j
            · rw [if_pos hcj]; omega
            · rw [if_neg hcj, if_neg (by omega)]
              exact h3 c hcn (by omega)
          · rw [if_neg hpj, if_neg hpi]
            by_cases hcj : c = j
            · exfalso; omega
            · rw [if_neg hcj]
              by_cases hci : c = i
              · rw [if_pos hci, hci]
                have := h.2 j (by omega) h2 (by omega) (by omega) (by rw [← hci]; exact hp)
                exact this
              · rw [if_neg hci]
                exact h.1 c hc0 hcn hp hpi
        · have hji : (j - 1) / 2 = i := by omega
          rw [hji, key_swap key l i j _ hil hjl, key_swap key l i j c hil hjl, if_neg (by omega), if_pos rfl, if_neg (by omega), if_neg (by omega)]
          have := h.1 c hc0 hcn (by omega) (by omega)
          rw [hpc] at this
          exact this
      · rename_i hlt
        intro c hc0 hcn hp
        by_cases hpi : (c - 1) / 2 = i
        · have := h3 c hcn (by omega)
          rw [hpi]
          omega
        · exact h.1 c hc0 hcn hp hpi
theorem heap_top {l : List α} {n : Nat} (h : HeapFrom key l n 0) : ∀ i, i < n → keyAt key l 0 ≤ keyAt key l i := by
  intro i
  induction i using Nat.strongRecOn with
  | _ i ih =>
    intro hi
    by_cases h0 : i = 0
    · rw [h0]; exact Int.le_refl _
    · have h1 := h i (by omega) hi (Nat.zero_le _)
      have h2 := ih ((i - 1) / 2) (by omega) (by omega)
      omega
def initP (n : Nat) : Nat → List α → List α
  | 0, l => l
  | i + 1, l => initP n i (downP key n l i n)
theorem initP_perm (n : Nat) : ∀ i l, n ≤ l.length → (initP key n i l).Perm l := by
  intro i
  induction i with
  | zero => intro l _; exact List.Perm.refl _
  | succ i ih =>
    intro l hn
    unfold initP
    exact (ih _ (by rw [downP_len key n l i n hn]; exact hn)).trans (downP_perm key n l i n hn)
theorem initP_heap (n : Nat) : ∀ i l, n ≤ l.length → HeapFrom key l n i → HeapFrom key (initP key n i l) n 0 := by
  intro i
  induction i with
  | zero => intro l _ h; exact h
  | succ i ih =>
    intro l hn h
    unfold initP
    refine ih _ (by rw [downP_len key n l i n hn]; exact hn) (downP_heap key n l i n i hn (Nat.le_refl _) (by omega) ⟨fun c hc0 hcn hp hpi => h c hc0 hcn (by omega), fun c hc0 hcn hpc hi0 hip => by omega⟩)
def upP : Nat → List α → Nat → List α
  | 0, l, _ => l
  | f + 1, l, j => if j = 0 then l else if keyAt key l j < keyAt key l ((j - 1) / 2) then upP f (swapL l ((j - 1) / 2) j) ((j - 1) / 2) else l
theorem upP_perm : ∀ f l j, j < l.length → (upP key f l j).Perm l := by
  intro f
  induction f with
  | zero => intro l j _; exact List.Perm.refl _
  | succ f ih =>
    intro l j hj
    unfold upP
    split
    · exact List.Perm.refl _
    · split
      · exact (ih _ _ (by rw [swapL_len]; omega)).trans (swapL_perm l _ j (by omega) hj)
      · exact List.Perm.refl _
def HeapUp (l : List α) (n j : Nat) : Prop := (∀ c, 0 < c → c < n → c ≠ j → keyAt key l ((c - 1) / 2) ≤ keyAt key l c) ∧ (∀ c, 0 < c → c < n → (c - 1) / 2 = j → 0 < j → keyAt key l ((j - 1) / 2) ≤ keyAt key l c)
theorem upP_heap : ∀ f l j n, n ≤ l.length → j < n → j < f → HeapUp key l n j → HeapFrom key (upP key f l j) n 0 := by
  intro f
  induction f with
  | zero => intro l j n _ _ h; omega
  | succ f ih =>
    intro l j n hn hjn hf h
    unfold upP
    split
    · rename_i h0
      intro c hc0 hcn _
      exact h.1 c hc0 hcn (by omega)
    · rename_i h0
      have hjl : j < l.length := by omega
      have hpl : (j - 1) / 2 < l.length := by omega
      split
      · rename_i hlt
        generalize hp : (j - 1) / 2 = p at *
        refine ih (swapL l p j) p n (by rw [swapL_len]; exact hn) (by omega) (by omega) ⟨fun c hc0 hcn hcp => ?_, fun c hc0 hcn hpc hp0 => ?_⟩
        · rw [key_swap key l p j _ hpl hjl, key_swap key l p j c hpl hjl]
          by_cases hcj : c = j
          · rw [if_pos hcj, hcj, hp, if_neg (by omega), if_pos rfl]; omega
          · rw [if_neg hcj, if_neg hcp]
            by_cases hpj : (c - 1) / 2 = j
            · rw [if_pos hpj]
              have := h.2 c hc0 hcn hpj (by omega)
              rw [hp] at this
              exact this
            · rw [if_neg hpj]
              by_cases hpp : (c - 1) / 2 = p
              · rw [if_pos hpp]
                have := h.1 c hc0 hcn hcj
                rw [hpp] at this
                omega
              · rw [if_neg hpp]; exact h.1 c hc0 hcn hcj
        · rw [key_swap key l p j _ hpl hjl, key_swap key l p j c hpl hjl, if_neg (by omega), if_neg (by omega)]
          have hpp := h.1 p hp0 (by omega) (by omega)
          by_cases hcj : c = j
          · rw [if_pos hcj]; exact hpp
          · rw [if_neg hcj, if_neg (by omega)]
            have := h.1 c hc0 hcn hcj
            rw [hpc] at this
            omega
      · rename_i hlt
        intro c hc0 hcn _
        by_cases hcj : c = j
        · rw [hcj]; omega
        · exact h.1 c hc0 hcn hcj
end
end Go.Proofs.YtddbjcfdmdbmkaaGreatDoor

namespace Go.Proofs.YtddbjcfdmdbmkaaGreatDoor

def lastT (evs : List Ev) : Int := (evAt evs (evs.length - 1)).time
def firstT (evs : List Ev) (t : List Nat) : Int := (evAt evs (t.headD 0)).time
def pathAt (paths : List (List ASt)) (i : Nat) : List ASt := paths.getD i []
def RunOK (paths : List (List ASt)) (win : Int) (evs : List Ev) (r : Nat × List Nat) : Prop := r.1 < paths.length ∧ RunP evs (pathAt paths r.1) r.2 ∧ lastT evs - firstT evs r.2 < win
def MatchOK (paths : List (List ASt)) (win : Int) (evs : List Ev) (t : List Nat) : Prop := ∃ i, i < paths.length ∧ MatchP evs (pathAt paths i) t ∧ lastT evs - firstT evs t < win
def takesB (paths : List (List ASt)) (evs : List Ev) (e : Ev) (r : Nat × List Nat) : Bool := match (pathAt paths r.1)[r.2.length]? with | some st => st.fits (evsOf evs r.2) e | none => false
def stopsB (paths : List (List ASt)) (evs : List Ev) (e : Ev) (r : Nat × List Nat) : Bool := match (pathAt paths r.1)[r.2.length]? with | some st => st.stops (evsOf evs r.2) e | none => false
def nearB (win : Int) (evs : List Ev) (now : Int) (r : Nat × List Nat) : Bool := decide (now - firstT evs r.2 < win)
def seedsP (paths : List (List ASt)) : List (Nat × List Nat) := (List.range paths.length).map fun i => (i, [])
def withP (n : Nat) (r : Nat × List Nat) : Nat × List Nat := (r.1, r.2 ++ [n])
def grownP (paths : List (List ASt)) (evs : List Ev) (e : Ev) (rl : List (Nat × List Nat)) : List (Nat × List Nat) := ((seedsP paths ++ rl).filter (takesB paths evs e)).map (withP evs.length)
def wholeB (paths : List (List ASt)) (r : Nat × List Nat) : Bool := r.2.length == (pathAt paths r.1).length
def runsNext (paths : List (List ASt)) (evs : List Ev) (e : Ev) (rl : List (Nat × List Nat)) : List (Nat × List Nat) := (rl.filter fun r => !stopsB paths evs e r) ++ (grownP paths evs e rl).filter fun r => !wholeB paths r
def matchesNext (paths : List (List ASt)) (evs : List Ev) (e : Ev) (rl : List (Nat × List Nat)) : List (List Nat) := ((grownP paths evs e rl).filter (wholeB paths)).map (·.2)

theorem firstT_app {evs : List Ev} {e : Ev} {t : List Nat} (h0 : t ≠ []) (h : ∀ i ∈ t, i < evs.length) : firstT (evs ++ [e]) t = firstT evs t := by
  unfold firstT
  cases t with
  | nil => exact absurd rfl h0
  | cons i t => rw [List.headD_cons, evAt_app (h i (by simp))]
theorem lastT_app (evs : List Ev) (e : Ev) : lastT (evs ++ [e]) = e.time := by
  unfold lastT
  rw [List.length_append, show evs.length + [e].length - 1 = evs.length by simp, evAt_new]
theorem run_lt {evs : List Ev} {path : List ASt} {t : List Nat} (h : RunP evs path t) : ∀ i ∈ t, i < evs.length := by
  have := ext_lt h.2.1 (by simp)
  simpa using this
theorem run_len {evs : List Ev} {path : List ASt} {t : List Nat} (h : RunP evs path t) : t.length < path.length := by
  obtain ⟨_, _, st, hst, _⟩ := h
  exact (List.getElem?_eq_some_iff.1 hst).1
theorem run_nil {path : List ASt} {t : List Nat} (h : RunP [] path t) : False := by
  cases t with
  | nil => exact h.1 rfl
  | cons i t => have := run_lt h i (by simp); simp at this
theorem takes_iff {paths : List (List ASt)} {evs : List Ev} {e : Ev} {r : Nat × List Nat} : takesB paths evs e r = true ↔ ∃ st, (pathAt paths r.1)[r.2.length]? = some st ∧ st.fits (evsOf evs r.2) e = true := by
  unfold takesB
  constructor
  · intro h
    split at h
    · rename_i st hst; exact ⟨st, hst, h⟩
    · exact absurd h (by simp)
  · rintro ⟨st, hst, h⟩; rw [hst]; exact h
theorem stops_iff {paths : List (List ASt)} {evs : List Ev} {e : Ev} {r : Nat × List Nat} (hl : r.2.length < (pathAt paths r.1).length) : stopsB paths evs e r = false ↔ ∃ st, (pathAt paths r.1)[r.2.length]? = some st ∧ st.stops (evsOf evs r.2) e = false := by
  unfold stopsB
  rw [List.getElem?_eq_getElem hl]
  simp
theorem seeds_mem {paths : List (List ASt)} {r : Nat × List Nat} : r ∈ seedsP paths ↔ r.1 < paths.length ∧ r.2 = [] := by
  unfold seedsP
  simp only [List.mem_map, List.mem_range]
  constructor
  · rintro ⟨i, hi, rfl⟩; exact ⟨hi, rfl⟩
  · rintro ⟨h1, h2⟩; exact ⟨r.1, h1, by rw [← h2]⟩
theorem seeds_nodup (paths : List (List ASt)) : (seedsP paths).Nodup := by
  unfold seedsP
  exact List.Pairwise.map _ (fun a b h e => h (by simpa using e)) List.nodup_range
structure Kept1 (paths : List (List ASt)) (win : Int) (evs : List Ev) (now : Int) (rl : List (Nat × List Nat)) : Prop where
  nodup : rl.Nodup
  mem : ∀ r, r ∈ rl ↔ r.1 < paths.length ∧ RunP evs (pathAt paths r.1) r.2 ∧ now - firstT evs r.2 < win
theorem Kept1.near {paths : List (List ASt)} {win : Int} {evs : List Ev} {now later : Int} {rl : List (Nat × List Nat)} (h : Kept1 paths win evs now rl) (hl : evs = [] ∨ now ≤ later) : Kept1 paths win evs later (rl.filter (nearB win evs later)) := by
  refine ⟨List.Pairwise.filter _ h.nodup, fun r => ?_⟩
  rw [List.mem_filter, h.mem]
  unfold nearB
  simp only [decide_eq_true_eq]
  constructor
  · rintro ⟨⟨a, b, c⟩, d⟩; exact ⟨a, b, d⟩
  · rintro ⟨a, b, c⟩
    rcases hl with rfl | hl
    · exact (run_nil b).elim
    · exact ⟨⟨a, b, by omega⟩, c⟩
theorem grown_mem {paths : List (List ASt)} {win : Int} {evs : List Ev} {e : Ev} {rl : List (Nat × List Nat)} (h : Kept1 paths win evs e.time rl) (r : Nat × List Nat) : r ∈ grownP paths evs e rl ↔ r.1 < paths.length ∧ ∃ q, r.2 = q ++ [evs.length] ∧ (q = [] ∨ (RunP evs (pathAt paths r.1) q ∧ e.time - firstT evs q < win)) ∧ ∃ st, (pathAt paths r.1)[q.length]? = some st ∧ st.fits (evsOf evs q) e = true := by
  unfold grownP
  simp only [List.mem_map, List.mem_filter, List.mem_append]
  constructor
  · rintro ⟨⟨i, q⟩, ⟨hm, ht⟩, rfl⟩
    obtain ⟨st, h1, h2⟩ := takes_iff.1 ht
    rcases hm with hm | hm
    · obtain ⟨a, b⟩ := seeds_mem.1 hm
      exact ⟨a, q, rfl, .inl b, st, h1, h2⟩
    · obtain ⟨a, b, c⟩ := (h.mem _).1 hm
      exact ⟨a, q, rfl, .inr ⟨b, c⟩, st, h1, h2⟩
  · rintro ⟨a, q, hq, hr, st, h1, h2⟩
    refine ⟨(r.1, q), ⟨?_, takes_iff.2 ⟨st, h1, h2⟩⟩, by unfold withP; rw [← hq]⟩
    rcases hr with hr | ⟨b, c⟩
    · exact .inl (seeds_mem.2 ⟨a, hr⟩)
    · exact .inr ((h.mem _).2 ⟨a, b, c⟩)
theorem withP_inj {n : Nat} {a b : Nat × List Nat} (h : withP n a = withP n b) : a = b := by
  unfold withP at h
  rw [Prod.mk.injEq] at h
  exact Prod.ext h.1 (List.append_cancel_right h.2)
theorem grown_nodup {paths : List (List ASt)} {win : Int} {evs : List Ev} {e : Ev} {rl : List (Nat × List Nat)} (h : Kept1 paths win evs e.time rl) : (grownP paths evs e rl).Nodup := by
  unfold grownP
  have key : ((seedsP paths ++ rl).filter (takesB paths evs e)).Nodup := by
    refine List.Pairwise.filter _ ?_
    show List.Nodup _
    rw [List.nodup_append]
    refine ⟨seeds_nodup paths, h.nodup, fun a ha b hb e => ?_⟩
    subst e
    obtain ⟨_, h1⟩ := seeds_mem.1 ha
    exact ((h.mem _).1 hb).2.1.1 h1
  exact List.Pairwise.map _ (fun (a b : Nat × List Nat) (hab : a ≠ b) he => hab (withP_inj he)) key
theorem Kept1.next {paths : List (List ASt)} {win : Int} {evs : List Ev} {e : Ev} {rl : List (Nat × List Nat)} (h : Kept1 paths win evs e.time rl) (hw : 0 < win) : Kept1 paths win (evs ++ [e]) e.time (runsNext paths evs e rl) := by
  have hlast : ∀ q : List Nat, (q ++ [evs.length]).headD 0 = if q = [] then evs.length else q.headD 0 := by
    intro q; cases q <;> simp
  refine ⟨?_, fun r => ?_⟩
  · unfold runsNext
    rw [List.nodup_append]
    refine ⟨List.Pairwise.filter _ h.nodup, List.Pairwise.filter _ (grown_nodup h), fun a ha b hb e => ?_⟩
    subst e
    obtain ⟨_, q, hq, _⟩ := (grown_mem h a).1 (List.mem_filter.1 hb).1
    have := run_lt ((h.mem a).1 (List.mem_filter.1 ha).1).2.1 evs.length (by rw [hq]; simp)
    omega
  · unfold runsNext
    rw [List.mem_append, List.mem_filter, List.mem_filter, h.mem, grown_mem h, run_snoc]
    constructor
    · rintro (⟨⟨h1, h2, h3⟩, h4⟩ | ⟨⟨h1, q, hq, hr, hst⟩, h4⟩)
      · refine ⟨h1, .inl ⟨h2, ?_⟩, ?_⟩
        · exact (stops_iff (run_len h2)).1 (by simpa using h4)
        · rw [firstT_app h2.1 (run_lt h2)]; exact h3
      · refine ⟨h1, .inr ⟨q, hq, ?_, ?_, hst⟩, ?_⟩
        · rcases hr with hr | hr
          · exact .inl hr
          · exact .inr hr.1
        · obtain ⟨st, h5, _⟩ := hst
          have := (List.getElem?_eq_some_iff.1 h5).1
          have h4' : ¬ r.2.length = (pathAt paths r.1).length := by simpa [wholeB] using h4
          rw [hq, List.length_append] at *
          simp only [List.length_cons, List.length_nil] at *
          omega
        · rw [hq]
          rcases hr with rfl | ⟨hr, hn⟩
          · have : firstT (evs ++ [e]) ([] ++ [evs.length]) = e.time := by unfold firstT; simp [evAt_new]
            rw [this]; omega
          · have : firstT (evs ++ [e]) (q ++ [evs.length]) = firstT evs q := by
              rw [← firstT_app (e := e) hr.1 (run_lt hr)]
              unfold firstT
              rw [hlast, if_neg hr.1]
            rw [this]; exact hn
    · rintro ⟨h1, (⟨h2, h4⟩ | ⟨q, hq, hr, hl, hst⟩), h3⟩
      · left
        rw [firstT_app h2.1 (run_lt h2)] at h3
        refine ⟨⟨h1, h2, h3⟩, ?_⟩
        rw [(stops_iff (run_len h2)).2 h4]; rfl
      · right
        refine ⟨⟨h1, q, hq, ?_, hst⟩, ?_⟩
        · rcases hr with hr | hr
          · exact .inl hr
          · right
            refine ⟨hr, ?_⟩
            have : firstT (evs ++ [e]) (q ++ [evs.length]) = firstT evs q := by
              rw [← firstT_app (e := e) hr.1 (run_lt hr)]
              unfold firstT
              rw [hlast, if_neg hr.1]
            rw [hq, this] at h3; exact h3
        · have : ¬ r.2.length = (pathAt paths r.1).length := by omega
          simp [wholeB, this]
theorem Kept1.matches {paths : List (List ASt)} {win : Int} {evs : List Ev} {e : Ev} {rl : List (Nat × List Nat)} (h : Kept1 paths win evs e.time rl) (hw : 0 < win) (t : List Nat) : t ∈ matchesNext paths evs e rl ↔ MatchOK paths win (evs ++ [e]) t := by
  have hlast : ∀ q : List Nat, (q ++ [evs.length]).headD 0 = if q = [] then evs.length else q.headD 0 := by
    intro q; cases q <;> simp
  unfold matchesNext MatchOK
  simp only [List.mem_map, List.mem_filter, lastT_app]
  constructor
  · rintro ⟨r, ⟨hm, hwh⟩, rfl⟩
    obtain ⟨h1, q, hq, hr, hst⟩ := (grown_mem h r).1 hm
    have hwl : r.2.length = (pathAt paths r.1).length := by simpa [wholeB] using hwh
    refine ⟨r.1, h1, match_snoc.2 ⟨q, hq, ?_, hwl, hst⟩, ?_⟩
    · rcases hr with hr | hr
      · exact .inl hr
      · exact .inr hr.1
    · rw [hq]
      rcases hr with rfl | ⟨hr, hn⟩
      · have : firstT (evs ++ [e]) ([] ++ [evs.length]) = e.time := by unfold firstT; simp [evAt_new]
        rw [this]; omega
      · have : firstT (evs ++ [e]) (q ++ [evs.length]) = firstT evs q := by
          rw [← firstT_app (e := e) hr.1 (run_lt hr)]
          unfold firstT
          rw [hlast, if_neg hr.1]
        rw [this]; exact hn
  · rintro ⟨i, hi, hm, hn⟩
    obtain ⟨q, hq, hr, hl, hst⟩ := match_snoc.1 hm
    refine ⟨(i, t), ⟨(grown_mem h _).2 ⟨hi, q, hq, ?_, hst⟩, by simp [wholeB, hl]⟩, rfl⟩
    rcases hr with hr | hr
    · exact .inl hr
    · right
      refine ⟨hr, ?_⟩
      have : firstT (evs ++ [e]) (q ++ [evs.length]) = firstT evs q := by
        rw [← firstT_app (e := e) hr.1 (run_lt hr)]
        unfold firstT
        rw [hlast, if_neg hr.1]
      rw [hq, this] at hn; exact hn
theorem Kept1.perm {paths : List (List ASt)} {win : Int} {evs : List Ev} {now : Int} {rl rl' : List (Nat × List Nat)} (h : Kept1 paths win evs now rl) (hp : rl'.Perm rl) : Kept1 paths win evs now rl' :=
  ⟨hp.symm.nodup h.nodup, fun r => (hp.mem_iff).trans (h.mem r)⟩
theorem Kept1.start (paths : List (List ASt)) (win now : Int) : Kept1 paths win [] now [] :=
  ⟨List.nodup_nil, fun r => ⟨fun h => by simp at h, fun h => (run_nil h.2.1).elim⟩⟩
end Go.Proofs.YtddbjcfdmdbmkaaGreatDoor

namespace Go.Proofs.YtddbjcfdmdbmkaaGreatDoor

def cho : Nat → Nat → Nat
  | _, 0 => 1
  | 0, _ + 1 => 0
  | n + 1, k + 1 => cho n k + cho n (k + 1)
def sumCho (n : Nat) : Nat → Nat
  | 0 => 0
  | m + 1 => sumCho n m + cho n (m + 1)
end Go.Proofs.YtddbjcfdmdbmkaaGreatDoor

namespace Go.Proofs.YtddbjcfdmdbmkaaGreatDoor

def combs : Nat → Nat → Nat → List (List Nat)
  | _, _, 0 => [[]]
  | _, 0, _ + 1 => []
  | lo, m + 1, k + 1 => (combs (lo + 1) m k).map (lo :: ·) ++ combs (lo + 1) m (k + 1)
theorem combs_len : ∀ m lo k, (combs lo m k).length = cho m k := by
  intro m
  induction m with
  | zero => intro lo k; cases k <;> simp [combs, cho]
  | succ m ih => intro lo k; cases k <;> simp [combs, cho, ih]
theorem combs_mem : ∀ m lo (t : List Nat), t.Pairwise (· < ·) → (∀ i ∈ t, lo ≤ i ∧ i < lo + m) → t ∈ combs lo m t.length := by
  intro m
  induction m with
  | zero =>
    intro lo t _ h
    cases t with
    | nil => simp [combs]
    | cons i t => have := h i (by simp); omega
  | succ m ih =>
    intro lo t hp h
    cases t with
    | nil => simp [combs]
    | cons i t =>
      obtain ⟨h1, h2⟩ := List.pairwise_cons.1 hp
      show i :: t ∈ (combs (lo + 1) m t.length).map (lo :: ·) ++ combs (lo + 1) m (t.length + 1)
      rw [List.mem_append]
      have hi := h i (by simp)
      by_cases e : i = lo
      · left
        subst e
        refine List.mem_map.2 ⟨t, ih (i + 1) t h2 (fun j hj => ?_), rfl⟩
        have := h1 j hj; have := h j (by simp [hj]); omega
      · right
        refine ih (lo + 1) (i :: t) hp (fun j hj => ?_)
        have := h j hj
        rcases List.mem_cons.1 hj with rfl | hj
        · omega
        · have := h1 j hj; omega
theorem nodup_len {α : Type} [DecidableEq α] : ∀ (l m : List α), l.Nodup → (∀ x ∈ l, x ∈ m) → l.length ≤ m.length := by
  intro l
  induction l with
  | nil => intro m _ _; exact Nat.zero_le _
  | cons x l ih =>
    intro m hn h
    obtain ⟨h1, h2⟩ := List.nodup_cons.1 hn
    have hx : x ∈ m := h x (by simp)
    have := ih (m.erase x) h2 (fun y hy => by
      have hne : y ≠ x := fun e => h1 (by rw [← e]; exact hy)
      rw [List.mem_erase_of_ne hne]
      exact h y (by simp [hy]))
    rw [List.length_erase_of_mem hx] at this
    have : 0 < m.length := List.length_pos_of_mem hx
    simp; omega
theorem cho_mono {m m' : Nat} (h : m ≤ m') (k : Nat) : cho m k ≤ cho m' k := by
  induction h with
  | refl => exact Nat.le_refl _
  | step h ih =>
    refine Nat.le_trans ih ?_
    cases k with
    | zero => simp [cho]
    | succ k => simp [cho]
theorem sumCho_mono {m m' : Nat} (h : m ≤ m') : ∀ k, sumCho m k ≤ sumCho m' k := by
  intro k
  induction k with
  | zero => exact Nat.le_refl _
  | succ k ih => exact Nat.add_le_add ih (cho_mono h _)
theorem ext_rising {evs : List Ev} {path : List ASt} : ∀ {t : List Nat}, ExtE evs [] path t → t.Pairwise (· < ·) := by
  intro t
  induction hn : t.length generalizing t with
  | zero => intro _; rw [List.length_eq_zero_iff.1 hn]; exact List.Pairwise.nil
  | succ n ih =>
    intro h
    rcases List.eq_nil_or_concat t with h0 | ⟨r, k, h0⟩
    · rw [h0] at hn; simp at hn
    · have h0' : t = r ++ [k] := by simpa using h0
      subst h0'
      have hr := ih (t := r) (by simpa using hn) (ext_snoc.1 h).1
      rw [List.pairwise_append]
      refine ⟨hr, List.pairwise_singleton _ _, fun a ha b hb => ?_⟩
      rw [List.mem_singleton.1 hb]
      rcases ext_last h with h1 | h1
      · rw [h1] at ha; simp at ha
      · rcases List.eq_nil_or_concat r with h2 | ⟨q, j, h2⟩
        · rw [h2] at ha; simp at ha
        · have h2' : r = q ++ [j] := by simpa using h2
          subst h2'
          rw [last_snoc] at h1
          rcases List.mem_append.1 ha with ha | ha
          · have := (List.pairwise_append.1 hr).2.2 a ha j (by simp); omega
          · rw [List.mem_singleton.1 ha]; exact h1
def Mono (evs : List Ev) : Prop := ∀ i j, i ≤ j → j < evs.length → (evAt evs i).time ≤ (evAt evs j).time
theorem head_le {t : List Nat} (h : t.Pairwise (· < ·)) : ∀ i ∈ t, t.headD 0 ≤ i := by
  intro i hi
  cases t with
  | nil => simp at hi
  | cons j t =>
    rw [List.headD_cons]
    rcases List.mem_cons.1 hi with rfl | hi
    · exact Nat.le_refl _
    · exact Nat.le_of_lt ((List.pairwise_cons.1 h).1 i hi)
theorem run_window {evs : List Ev} {path : List ASt} {t : List Nat} {now win : Int} (h : RunP evs path t) (hm : Mono evs) (hn : now - firstT evs t < win) : ∀ i ∈ t, now - (evAt evs i).time < win := by
  intro i hi
  have h1 := head_le (ext_rising h.2.1) i hi
  have h2 := hm _ _ h1 (run_lt h i hi)
  unfold firstT at hn
  omega
def allRuns (paths : List (List ASt)) (lo m : Nat) : List (Nat × List Nat) := (List.range paths.length).flatMap fun i => (List.range ((pathAt paths i).length - 1)).flatMap fun k => (combs lo m (k + 1)).map fun t => (i, t)
theorem sum_cho (m k : Nat) : ((List.range k).map fun j => cho m (j + 1)).sum = sumCho m k := by
  induction k with
  | zero => rfl
  | succ k ih => rw [List.range_succ, List.map_append, List.sum_append, ih]; simp [sumCho]
theorem allRuns_len (paths : List (List ASt)) (lo m : Nat) : (allRuns paths lo m).length = (paths.map fun p => sumCho m (p.length - 1)).sum := by
  unfold allRuns
  rw [List.length_flatMap]
  have h : ∀ i, ((List.range ((pathAt paths i).length - 1)).flatMap fun k => (combs lo m (k + 1)).map fun t => (i, t)).length = sumCho m ((pathAt paths i).length - 1) := by
    intro i
    rw [List.length_flatMap, ← sum_cho]
    congr 1
    exact List.map_congr_left fun k _ => by rw [List.length_map, combs_len]
  rw [List.map_congr_left (fun i _ => h i)]
  congr 1
  apply List.ext_getElem
  · simp
  · intro i h1 h2
    simp at h1 h2
    simp [pathAt, h1]
def boundA (rate : Nat) (paths : List (List ASt)) : Nat := (paths.map fun p => sumCho rate (p.length - 1)).sum
theorem sum_le_sum {α : Type} {f g : α → Nat} : ∀ (l : List α), (∀ x ∈ l, f x ≤ g x) → (l.map f).sum ≤ (l.map g).sum := by
  intro l
  induction l with
  | nil => intro _; exact Nat.le_refl _
  | cons x l ih => intro h; simp only [List.map_cons, List.sum_cons]; exact Nat.add_le_add (h x (by simp)) (ih fun y hy => h y (by simp [hy]))
theorem Kept1.bound {paths : List (List ASt)} {win : Int} {evs : List Ev} {now : Int} {rl : List (Nat × List Nat)} (h : Kept1 paths win evs now rl) (hm : Mono evs) {lo rate : Nat} (hlo : ∀ i, i < evs.length → now - (evAt evs i).time < win → lo ≤ i) (hr : evs.length - lo ≤ rate) : rl.length ≤ boundA rate paths := by
  have h1 : rl.length ≤ (allRuns paths lo (evs.length - lo)).length := by
    refine nodup_len _ _ h.nodup (fun r hr => ?_)
    obtain ⟨a, b, c⟩ := (h.mem r).1 hr
    unfold allRuns
    rw [List.mem_flatMap]
    refine ⟨r.1, List.mem_range.2 a, List.mem_flatMap.2 ⟨r.2.length - 1, List.mem_range.2 ?_, List.mem_map.2 ⟨r.2, ?_, rfl⟩⟩⟩
    · have := run_len b
      have : 0 < r.2.length := List.length_pos_iff.2 b.1
      omega
    · have h0 : 0 < r.2.length := List.length_pos_iff.2 b.1
      rw [show r.2.length - 1 + 1 = r.2.length by omega]
      refine combs_mem _ _ _ (ext_rising b.2.1) (fun i hi => ?_)
      have := run_lt b i hi
      have := hlo i this (run_window b hm c i hi)
      omega
  rw [allRuns_len] at h1
  exact Nat.le_trans h1 (sum_le_sum _ fun p _ => sumCho_mono hr _)
end Go.Proofs.YtddbjcfdmdbmkaaGreatDoor

namespace Go.Proofs.YtddbjcfdmdbmkaaGreatDoor

def itsP (evs : List Ev) (win : Int) (st : ASt) (t : List Nat) : List Nat := (List.range evs.length).filter fun i => decide (startP t ≤ i) && decide (lastT evs - (evAt evs i).time < win) && st.fits (evsOf evs t) (evAt evs i) && decide (t = [] ∨ freeP evs st t i)
theorem its_mem {evs : List Ev} {win : Int} {st : ASt} {t : List Nat} {i : Nat} : i ∈ itsP evs win st t ↔ goodP evs st t i ∧ lastT evs - (evAt evs i).time < win := by
  unfold itsP goodP
  rw [List.mem_filter, List.mem_range]
  simp only [Bool.and_eq_true, decide_eq_true_eq]
  exact ⟨fun ⟨a, ⟨⟨b, c⟩, d⟩, e⟩ => ⟨⟨b, a, d, e⟩, c⟩, fun ⟨⟨b, a, d, e⟩, c⟩ => ⟨a, ⟨⟨b, c⟩, d⟩, e⟩⟩
theorem its_nodup (evs : List Ev) (win : Int) (st : ASt) (t : List Nat) : (itsP evs win st t).Nodup := List.Pairwise.filter _ List.nodup_range
def lookRuns (evs : List Ev) (win : Int) : List ASt → List Nat → List (List Nat)
  | [], _ => []
  | st :: rest, t => (if t ≠ [] ∧ freeP evs st t evs.length then [t] else []) ++ (itsP evs win st t).flatMap fun i => lookRuns evs win rest (t ++ [i])
def lookMatches (evs : List Ev) (win : Int) : List ASt → List Nat → List (List Nat)
  | [], t => if t.getLastD 0 + 1 = evs.length then [t] else []
  | st :: rest, t => (itsP evs win st t).flatMap fun i => lookMatches evs win rest (t ++ [i])
def NearAll (evs : List Ev) (win : Int) (t : List Nat) : Prop := ∀ i ∈ t, lastT evs - (evAt evs i).time < win
theorem lookRuns_mem {evs : List Ev} {win : Int} : ∀ (rest : List ASt) (pre t : List Nat), t ∈ lookRuns evs win rest pre ↔ ∃ suf, t = pre ++ suf ∧ t ≠ [] ∧ ExtE evs pre rest suf ∧ NearAll evs win suf ∧ ∃ st, rest[suf.length]? = some st ∧ freeP evs st t evs.length := by
  intro rest
  induction rest with
  | nil => intro pre t; simp [lookRuns]
  | cons st rest ih =>
    intro pre t
    unfold lookRuns
    rw [List.mem_append, List.mem_flatMap]
    constructor
    · rintro (h | ⟨i, hi, h⟩)
      · split at h
        · rename_i hc
          rw [List.mem_singleton.1 h]
          exact ⟨[], by simp, hc.1, trivial, fun i hi => by simp at hi, st, rfl, hc.2⟩
        · simp at h
      · obtain ⟨suf, rfl, h0, h1, h2, st', h3, h4⟩ := (ih _ _).1 h
        obtain ⟨hg, hn⟩ := its_mem.1 hi
        refine ⟨i :: suf, by simp, h0, ⟨hg, h1⟩, fun j hj => ?_, st', by simpa using h3, h4⟩
        rcases List.mem_cons.1 hj with rfl | hj
        · exact hn
        · exact h2 j hj
    · rintro ⟨suf, rfl, h0, h1, h2, st', h3, h4⟩
      cases suf with
      | nil =>
        left
        simp only [List.append_nil] at *
        simp at h3
        subst h3
        rw [if_pos ⟨h0, h4⟩]; simp
      | cons i suf =>
        right
        refine ⟨i, its_mem.2 ⟨h1.1, h2 i (by simp)⟩, (ih _ _).2 ⟨suf, by simp, h0, h1.2, fun j hj => h2 j (by simp [hj]), st', by simpa using h3, by simpa using h4⟩⟩
theorem lookMatches_mem {evs : List Ev} {win : Int} : ∀ (rest : List ASt) (pre t : List Nat), t ∈ lookMatches evs win rest pre ↔ ∃ suf, t = pre ++ suf ∧ ExtE evs pre rest suf ∧ NearAll evs win suf ∧ suf.length = rest.length ∧ t.getLastD 0 + 1 = evs.length := by
  intro rest
  induction rest with
  | nil =>
    intro pre t
    unfold lookMatches
    constructor
    · intro h
      split at h
      · rw [List.mem_singleton.1 h]; exact ⟨[], by simp, trivial, fun i hi => by simp at hi, rfl, by assumption⟩
      · simp at h
    · rintro ⟨suf, rfl, _, _, h1, h2⟩
      have : suf = [] := List.length_eq_zero_iff.1 h1
      subst this
      simp only [List.append_nil] at *
      rw [if_pos h2]; simp
  | cons st rest ih =>
    intro pre t
    unfold lookMatches
    rw [List.mem_flatMap]
    constructor
    · rintro ⟨i, hi, h⟩
      obtain ⟨suf, rfl, h1, h2, h3, h4⟩ := (ih _ _).1 h
      obtain ⟨hg, hn⟩ := its_mem.1 hi
      refine ⟨i :: suf, by simp, ⟨hg, h1⟩, fun j hj => ?_, by simp [h3], h4⟩
      rcases List.mem_cons.1 hj with rfl | hj
      · exact hn
      · exact h2 j hj
    · rintro ⟨suf, rfl, h1, h2, h3, h4⟩
      cases suf with
      | nil => simp at h3
      | cons i suf => exact ⟨i, its_mem.2 ⟨h1.1, h2 i (by simp)⟩, (ih _ _).2 ⟨suf, by simp, h1.2, fun j hj => h2 j (by simp [hj]), by simpa using h3, by simpa using h4⟩⟩
theorem nodup_flatMap {α β : Type} {f : α → List β} : ∀ {l : List α}, l.Nodup → (∀ a ∈ l, (f a).Nodup) → (∀ a ∈ l, ∀ b ∈ l, ∀ x, x ∈ f a → x ∈ f b → a = b) → (l.flatMap f).Nodup := by
  intro l
  induction l with
  | nil => intros; simp
  | cons a l ih =>
    intro h1 h2 h3
    obtain ⟨ha, hl⟩ := List.nodup_cons.1 h1
    rw [List.flatMap_cons, List.nodup_append]
    refine ⟨h2 a (by simp), ih hl (fun b hb => h2 b (by simp [hb])) (fun b hb c hc => h3 b (by simp [hb]) c (by simp [hc])), fun x hx y hy e => ?_⟩
    subst e
    obtain ⟨b, hb, hxb⟩ := List.mem_flatMap.1 hy
    have := h3 a (by simp) b (by simp [hb]) x hx hxb
    exact ha (this ▸ hb)
theorem lookRuns_nodup {evs : List Ev} {win : Int} : ∀ (rest : List ASt) (pre : List Nat), (lookRuns evs win rest pre).Nodup := by
  intro rest
  induction rest with
  | nil => intro pre; simp [lookRuns]
  | cons st rest ih =>
    intro pre
    unfold lookRuns
    rw [List.nodup_append]
    refine ⟨by split <;> simp, nodup_flatMap (its_nodup _ _ _ _) (fun i _ => ih _) (fun i _ j _ x hx hy => ?_), fun x hx y hy e => ?_⟩
    · obtain ⟨s1, h1, _⟩ := (lookRuns_mem _ _ _).1 hx
      obtain ⟨s2, h2, _⟩ := (lookRuns_mem _ _ _).1 hy
      rw [h1] at h2
      simp at h2
      exact h2.1
    · subst e
      obtain ⟨i, _, h⟩ := List.mem_flatMap.1 hy
      obtain ⟨s1, h1, _⟩ := (lookRuns_mem _ _ _).1 h
      split at hx
      · rw [List.mem_singleton.1 hx] at h1
        have := congrArg List.length h1
        simp at this
      · simp at hx
theorem near_all {evs : List Ev} {path : List ASt} {t : List Nat} {win : Int} (h : ExtE evs [] path t) (h0 : t ≠ []) (hm : Mono evs) : NearAll evs win t ↔ lastT evs - firstT evs t < win := by
  have hl := ext_lt h (by simp)
  rw [List.nil_append] at hl
  constructor
  · intro hn
    cases t with
    | nil => exact absurd rfl h0
    | cons i t => exact hn i (by simp)
  · intro hn i hi
    have h2 := hm _ _ (head_le (ext_rising h) i hi) (hl i hi)
    unfold firstT at hn
    omega
def allLook (paths : List (List ASt)) (win : Int) (evs : List Ev) : List (Nat × List Nat) := (List.range paths.length).flatMap fun i => (lookRuns evs win (pathAt paths i) []).map fun t => (i, t)
theorem allLook_len (paths : List (List ASt)) (win : Int) (evs : List Ev) : (allLook paths win evs).length = (paths.map fun p => (lookRuns evs win p []).length).sum := by
  unfold allLook
  rw [List.length_flatMap]
  congr 1
  apply List.ext_getElem
  · simp
  · intro i h1 h2
    simp at h1 h2
    simp [pathAt, h1]
theorem look_kept {paths : List (List ASt)} {win : Int} {evs : List Ev} (hm : Mono evs) : Kept1 paths win evs (lastT evs) (allLook paths win evs) := by
  refine ⟨?_, fun r => ?_⟩
  · unfold allLook
    refine nodup_flatMap List.nodup_range (fun i _ => ?_) (fun i _ j _ x hx hy => ?_)
    · exact List.Pairwise.map _ (fun (a b : List Nat) (hab : a ≠ b) he => hab (by simpa using he)) (lookRuns_nodup _ _)
    · obtain ⟨_, _, rfl⟩ := List.mem_map.1 hx
      obtain ⟨_, _, h⟩ := List.mem_map.1 hy
      simpa using (congrArg Prod.fst h).symm
  · unfold allLook
    rw [List.mem_flatMap]
    constructor
    · rintro ⟨i, hi, h⟩
      obtain ⟨t, ht, rfl⟩ := List.mem_map.1 h
      obtain ⟨suf, h1, h0, h2, h3, h4⟩ := (lookRuns_mem _ _ _).1 ht
      rw [List.nil_append] at h1
      subst h1
      exact ⟨List.mem_range.1 hi, ⟨h0, h2, h4⟩, (near_all h2 h0 hm).1 h3⟩
    · rintro ⟨h1, ⟨h0, h2, h4⟩, h3⟩
      exact ⟨r.1, List.mem_range.2 h1, List.mem_map.2 ⟨r.2, (lookRuns_mem _ _ _).2 ⟨r.2, by simp, h0, h2, (near_all h2 h0 hm).2 h3, h4⟩, rfl⟩⟩
def allMatches (paths : List (List ASt)) (win : Int) (evs : List Ev) : List (List Nat) := paths.flatMap fun p => lookMatches evs win p []
theorem match_mem {paths : List (List ASt)} {win : Int} {evs : List Ev} (hm : Mono evs) (hp : ∀ p ∈ paths, p ≠ []) (t : List Nat) : t ∈ allMatches paths win evs ↔ MatchOK paths win evs t := by
  unfold allMatches MatchOK
  rw [List.mem_flatMap]
  constructor
  · rintro ⟨p, hp1, h⟩
    obtain ⟨i, hi, rfl⟩ := List.getElem_of_mem hp1
    obtain ⟨suf, h1, h2, h3, h4, h5⟩ := (lookMatches_mem _ _ _).1 h
    rw [List.nil_append] at h1
    subst h1
    have h0 : t ≠ [] := by
      intro e
      rw [e] at h4
      exact hp _ hp1 (List.length_eq_zero_iff.1 h4.symm)
    have he : pathAt paths i = paths[i] := by simp [pathAt, hi]
    exact ⟨i, hi, by rw [he]; exact ⟨h0, h2, h4, h5⟩, (near_all h2 h0 hm).1 h3⟩
  · rintro ⟨i, hi, ⟨h0, h2, h4, h5⟩, h3⟩
    have he : pathAt paths i = paths[i] := by simp [pathAt, hi]
    rw [he] at h2 h4
    exact ⟨paths[i], List.getElem_mem hi, (lookMatches_mem _ _ _).2 ⟨t, by simp, h2, (near_all h2 h0 hm).2 h3, h4, h5⟩⟩
theorem Kept1.same_len {paths : List (List ASt)} {win : Int} {evs : List Ev} {now : Int} {rl rl' : List (Nat × List Nat)} (h : Kept1 paths win evs now rl) (h' : Kept1 paths win evs now rl') : rl.length = rl'.length :=
  Nat.le_antisymm (nodup_len _ _ h.nodup fun r hr => (h'.mem r).2 ((h.mem r).1 hr)) (nodup_len _ _ h'.nodup fun r hr => (h.mem r).2 ((h'.mem r).1 hr))
end Go.Proofs.YtddbjcfdmdbmkaaGreatDoor
