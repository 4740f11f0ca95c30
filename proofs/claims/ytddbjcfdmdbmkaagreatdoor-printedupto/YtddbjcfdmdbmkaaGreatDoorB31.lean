import Derived.Test.YtddbjcfdmdbmkaaGreatDoorB30
import Derived.Test.YtddbjcfdmdbmkaaGreatDoorB10
import Derived.Test.YtddbjcfdmdbmkaaGreatDoorB02
import Derived.Test.YtddbjcfdmdbmkaaGreatDoorB01
import Derived.Shelf.SlSortCmp.NoneTotal
set_option linter.unusedVariables false
set_option linter.unusedSimpArgs false
namespace Go.Proofs.YtddbjcfdmdbmkaaGreatDoor
open Go.RowKit Go.Sort

structure ListsAt (B : Nat) (w : World) (v : Value) (xs : List (Value × List Nat)) : Prop where
  row : w.ownsRow B 48 1 v xs.length (xs.map (·.1))
  inner : ∀ x ∈ xs, w.ownsRow B 3 1 x.1 x.2.length (x.2.map fun n => Value.int .i64 (n : Nat))
  apart : xs.Pairwise fun x y => ∀ g, x.1.ownBlock = some g → y.1.ownBlock ≠ some g
theorem ListsAt.nil (B : Nat) (w : World) : ListsAt B w (.slice none 0 0) [] := ⟨World.ownsRow_nil _ _ _ _, fun x hx => by simp at hx, List.Pairwise.nil⟩
theorem ListsAt.ne {B : Nat} {w : World} {v : Value} {xs : List (Value × List Nat)} (h : ListsAt B w v xs) : ∀ x ∈ xs, ∀ g, v.ownBlock = some g → x.1.ownBlock ≠ some g := fun x hx => rows_apart h.row (h.inner x hx) (by decide)
theorem ListsAt.to {B : Nat} {w w' : World} {v : Value} {xs : List (Value × List Nat)} (h : ListsAt B w v xs) (hk : ∀ b, (v.ownBlock = some b ∨ ∃ x ∈ xs, x.1.ownBlock = some b) → w'.heap[b]? = w.heap[b]?) : ListsAt B w' v xs :=
  ⟨row_of_blk h.row fun g hg => hk g (.inl hg), fun x hx => row_of_blk (h.inner x hx) fun g hg => hk g (.inr ⟨x, hx, hg⟩), h.apart⟩
def LiesOff (w : World) (b0 : Nat) (x : Value × List Nat) : Prop := IntsAt w x.1 x.2 ∧ x.2.length ≤ 1000000 ∧ ∀ g, x.1.ownBlock = some g → g ≠ b0
instance (w : World) (b0 : Nat) : Inhabited { x : Value × List Nat // LiesOff w b0 x } := ⟨⟨(.slice none 0 0, []), ⟨none, 0, rfl, fun h => by simp at h⟩, by simp, fun g hg => by simp [Value.ownBlock] at hg⟩⟩
theorem IntsAt.to {w w' : World} {v : Value} {l : List Nat} (h : IntsAt w v l) (hs : w.heap.size ≤ w'.heap.size) (hk : ∀ b, v.ownBlock = some b → b < w.heap.size → w'.heap[b]? = w.heap[b]?) : IntsAt w' v l := by
  obtain ⟨a, c, rfl, hc⟩ := h
  refine ⟨a, c, rfl, fun h0 => ?_⟩
  obtain ⟨g, rfl, h1, h2⟩ := hc h0
  exact ⟨g, rfl, by omega, fun k hk' => (cell_eq (hk g rfl h1) k).trans (h2 k hk')⟩
theorem cmp_swo {w : World} {b0 : Nat} : SWO (ltOf fun x y : { x : Value × List Nat // LiesOff w b0 x } => cmpL x.1.2 y.1.2) := by
  have key : ∀ x y : { x : Value × List Nat // LiesOff w b0 x }, ltOf (fun x y : { x : Value × List Nat // LiesOff w b0 x } => cmpL x.1.2 y.1.2) x y = decide (ltL x.1.2 y.1.2) := fun x y => rfl
  refine ⟨fun x => ?_, fun x y z h1 h2 => ?_, fun x y z h1 h2 => ?_⟩
  · rw [key]; exact decide_eq_false (ltL_irrefl _)
  · rw [key] at *
    exact decide_eq_true (ltL_trans (of_decide_eq_true h1) (of_decide_eq_true h2))
  · rw [key] at *
    have a1 := of_decide_eq_false h1
    have a2 := of_decide_eq_false h2
    refine decide_eq_false (fun h3 => ?_)
    rcases ltL_total x.1.2 y.1.2 with b1 | b1 | b1
    · exact a1 b1
    · rw [b1] at h3; exact a2 h3
    · exact a2 (ltL_trans b1 h3)
theorem sortWorld_at {α : Type} [Inhabited α] (enc : α → Value) (w : World) (g n : Nat) (d : Array α) (os : Array Obj) (b : Nat) (hb : b < w.heap.size) (hne : b ≠ g) : (sortWorld enc w g 0 n d os).heap[b]? = w.heap[b]? := by
  unfold sortWorld
  rw [Sort.heap_grow_old _ _ (by simp; exact hb), putRow_other _ _ _ _ _ _ hne]
  rfl
theorem sortWorld_chg {α : Type} [Inhabited α] (enc : α → Value) (w : World) (g n : Nat) (d : Array α) (os : Array Obj) : Chg (fun b => b = g) w (sortWorld enc w g 0 n d os) :=
  ⟨rfl, rfl, rfl, by unfold sortWorld; simp, fun b hb => sortWorld_at enc w g n d os b hb.1 hb.2⟩
theorem sort_p {B : Nat} {w : World} {v : Value} {xs : List (Value × List Nat)} (h : ListsAt B w v xs) (hl : xs.length ≤ 1000000) (hil : ∀ x ∈ xs, x.2.length ≤ 1000000) :
    Calls Tryz.prog 120 #[v, .func (.func 121) #[] #[]] w fun e w' => e = .returned (.tuple #[]) ∧ ∃ ys, ys.Perm xs ∧ ys.Pairwise (fun a b => ¬ ltL b.2 a.2) ∧ ListsAt B w' v ys ∧ Chg (fun b => v.ownBlock = some b) w w' := by
  have hrow := h.row
  rcases h.row.2 with ⟨rfl, h0⟩ | ⟨g, cap, cur, rfl, _, hg, hn, hcm, hcs, _⟩
  · have e : xs = [] := List.length_eq_zero_iff.1 h0
    subst e
    refine Calls.mono (show Calls Tryz.prog 120 #[.slice none 0 0, .func (.func 121) #[] #[]] w _ from AnyF.slices_SortFunc_none { Tryz.sortF with } none 0 (.func (.func 121) #[] #[]) w) ?_
    rintro e w' ⟨rfl, rfl⟩
    exact ⟨rfl, [], List.Perm.refl _, List.Pairwise.nil, h, Chg.refl _ _⟩
  · have hB : Blk w g cur 48 := hg
    have hgl : g < w.heap.size := hB.lt
    have hoff : ∀ x ∈ xs, LiesOff w g x := fun x hx => ⟨IntsAt.of_row (h.inner x hx), hil x hx, fun g' hg' e => h.ne x hx g rfl (e ▸ hg')⟩
    let d : Array { x : Value × List Nat // LiesOff w g x } := (xs.attach.map fun x => ⟨x.1, hoff x.1 x.2⟩).toArray
    have hd : d.toList.map (·.1) = xs := by
      show (xs.attach.map fun x => (⟨x.1, hoff x.1 x.2⟩ : { x : Value × List Nat // LiesOff w g x })).toArray.toList.map (·.1) = xs
      rw [List.toList_toArray, List.map_map]
      show xs.attach.map Subtype.val = xs
      exact List.attach_map_subtype_val xs
    have hds : d.size = xs.length := by rw [← hd]; simp
    have hdx : ∀ j, (hj : j < xs.length) → d[j]!.1 = xs[j] := fun j hj => by
      have hj' : j < d.size := by omega
      rw [getElem!_pos d j hj']
      have := congrArg (fun l => l[j]?) hd
      simp [hj, hj'] at this
      exact this
    have hH : Holds (fun x : { x : Value × List Nat // LiesOff w g x } => x.1.1) w g 0 d := by
      intro j hj
      have hj' : j < xs.length := by omega
      refine ⟨?_, hB.frozen _⟩
      have := hrow.cells (g := g) rfl j xs[j].1 (by rw [List.getElem?_map, List.getElem?_eq_getElem hj']; rfl)
      rw [addr_add] at this
      rw [this]
      show some xs[j].1 = some d[j]!.1.1
      rw [hdx j hj']
    have h1 : OneCell (fun x : { x : Value × List Nat // LiesOff w g x } => x.1.1) := fun x => by
      obtain ⟨a, c, e, _⟩ := x.2.1
      show x.1.1.oneCell' = true
      rw [e]; rfl
    have hcmp : CmpLays1 Tryz.prog 121 #[] (fun x : { x : Value × List Nat // LiesOff w g x } => x.1.1) (fun x y => cmpL x.1.2 y.1.2) g 0 d.size w := by
      intro m os dk hs x y
      have hx : IntsAt (sortWorld (fun x : { x : Value × List Nat // LiesOff w g x } => x.1.1) w g 0 m dk os) x.1.1 x.1.2 := x.2.1.to (sortWorld_chg _ w g m dk os).size (fun b hb hl => sortWorld_at _ w g m dk os b hl (x.2.2.2 b hb))
      have hy : IntsAt (sortWorld (fun x : { x : Value × List Nat // LiesOff w g x } => x.1.1) w g 0 m dk os) y.1.1 y.1.2 := y.2.1.to (sortWorld_chg _ w g m dk os).size (fun b hb hl => sortWorld_at _ w g m dk os b hl (y.2.2.2 b hb))
      refine Calls.mono (show Calls Tryz.prog 121 (#[x.1.1, y.1.1] ++ #[]) _ _ from compare_p hx hy x.2.2.1 y.2.2.1) ?_
      rintro e w' ⟨q1, q2⟩
      exact ⟨q1, 0, #[], by rw [q2]; simp [World.drewN]⟩
    have hc := Any.slices_SortFunc Tryz.sortF (fun x : { x : Value × List Nat // LiesOff w g x } => x.1.1) h1 (fun x y => cmpL x.1.2 y.1.2) cmp_swo 121 #[] g 0 cap d w (Go.Proofs.enters_of Tryz.func121 (by kernel_rfl) rfl) hcmp hH hgl (by omega)
    rw [hds] at hc
    refine Calls.mono (show Calls Tryz.prog 120 #[.slice (some ⟨g, 0, none⟩) xs.length cap, .func (.func 121) #[] #[]] w _ from hc) ?_
    rintro e w' ⟨rfl, d', n, os, ⟨hs', _, hperm⟩, hsort, rfl⟩
    have hp1 : (d'.extract 0 xs.length).toList = d'.toList := by rw [← hds, ← hs']; simp
    have hp2 : (d.extract 0 xs.length).toList = d.toList := by rw [← hds]; simp
    rw [hp1, hp2] at hperm
    have hperm2 : (d'.toList.map (·.1)).Perm xs := by have := hperm.map (·.1); rwa [hd] at this
    have hlen : (d'.toList.map (·.1)).length = xs.length := hperm2.length_eq
    refine ⟨rfl, d'.toList.map (·.1), hperm2, ?_, ?_, (sortWorld_chg _ w g n d' os).mono (fun b _ e => by rw [e]; rfl)⟩
    · rw [List.pairwise_map, List.pairwise_iff_getElem]
      intro i j hi hj hij
      have hi' : i < d'.size := by simpa using hi
      have hj' : j < d'.size := by simpa using hj
      have := hsort i j (Nat.zero_le _) hij (by omega)
      rw [getElem!_pos d' i hi', getElem!_pos d' j hj'] at this
      have k2 : ¬ ltL (d'[j]).1.2 (d'[i]).1.2 := of_decide_eq_false this
      simpa using k2
    · refine ⟨?_, fun x hx => ?_, ?_⟩
      · have hsz : d'.size ≤ xs.length := by omega
        have r1 := row_put (enc := fun x : { x : Value × List Nat // LiesOff w g x } => x.1.1) (q := n) (m := xs.length) hrow d' hsz (by omega)
        rw [List.take_of_length_le (by simp; omega)] at r1
        rw [hlen, List.map_map]
        refine row_of_blk r1 (fun z hz => ?_)
        unfold sortWorld
        exact Sort.heap_grow_old _ _ (r1.lt z hz).2
      · have hx' := hperm2.mem_iff.1 hx
        exact row_of_blk (h.inner x hx') (fun z hz => sortWorld_at _ w g n d' os z ((h.inner x hx').lt z hz).2 (fun e => h.ne x hx' g rfl (e ▸ hz)))
      · exact (hperm2.symm.pairwise_iff (fun {x y} hxy z hz hz' => hxy z hz' hz)).1 h.apart
end Go.Proofs.YtddbjcfdmdbmkaaGreatDoor

namespace Go.Proofs.YtddbjcfdmdbmkaaGreatDoor
open Go.RowKit Go.Sort

abbrev VL := Value × List Nat
def keepsAt (xs : List VL) (j : Nat) : Bool := j == 0 || decide (¬ (xs.getD j default).2 = (xs.getD (j - 1) default).2)
def ddTo (xs : List VL) : Nat → List VL
  | 0 => []
  | t + 1 => if keepsAt xs t then ddTo xs t ++ [xs.getD t default] else ddTo xs t
theorem ddTo_succ (xs : List VL) (t : Nat) : ddTo xs (t + 1) = if keepsAt xs t then ddTo xs t ++ [xs.getD t default] else ddTo xs t := rfl
theorem ddTo_le (xs : List VL) : ∀ t, (ddTo xs t).length ≤ t := by
  intro t
  induction t with
  | zero => simp [ddTo]
  | succ t ih =>
    rw [ddTo_succ]
    split
    · simp; omega
    · omega
theorem ddTo_sub (xs : List VL) : ∀ t, t ≤ xs.length → (ddTo xs t).Sublist (xs.take t) := by
  intro t
  induction t with
  | zero => intro _; simp [ddTo]
  | succ t ih =>
    intro h
    have ht : t < xs.length := by omega
    rw [List.take_succ_eq_append_getElem ht, ddTo_succ]
    split
    · refine (ih (by omega)).append ?_
      simp [List.getD, ht]
    · exact (ih (by omega)).trans (List.sublist_append_left _ _)
theorem ddTo_all {xs : List VL} : ∀ t, t ≤ xs.length → (∀ j, j < t → keepsAt xs j = true) → ddTo xs t = xs.take t := by
  intro t
  induction t with
  | zero => intro _ _; simp [ddTo]
  | succ t ih =>
    intro h hk
    have ht : t < xs.length := by omega
    rw [ddTo_succ, if_pos (hk t (by omega)), ih (by omega) (fun j hj => hk j (by omega)), List.take_succ_eq_append_getElem ht]
    simp [List.getD, ht]
theorem dedupFrom_snoc : ∀ (l : List (List Nat)) (p x : List Nat), dedupFrom p (l ++ [x]) = dedupFrom p l ++ (if x = l.getLastD p then [] else [x]) := by
  intro l
  induction l with
  | nil => intro p x; simp [dedupFrom]
  | cons y l ih =>
    intro p x
    rw [List.cons_append]
    unfold dedupFrom
    rw [ih]
    have e : (y :: l).getLastD p = l.getLastD y := by cases l <;> simp [List.getLastD]
    rw [e]
    split <;> simp
theorem dedupL_snoc (l : List (List Nat)) (x : List Nat) : dedupL (l ++ [x]) = if l ≠ [] ∧ x = l.getLastD [] then dedupL l else dedupL l ++ [x] := by
  cases l with
  | nil => simp [dedupL, dedupFrom]
  | cons y l =>
    show y :: dedupFrom y (l ++ [x]) = _
    rw [dedupFrom_snoc]
    have e : (y :: l).getLastD [] = l.getLastD y := by cases l <;> simp [List.getLastD]
    rw [e]
    by_cases h : x = l.getLastD y
    · rw [if_pos h, if_pos ⟨by simp, h⟩, List.append_nil]; rfl
    · rw [if_neg h, if_neg (fun k => h k.2)]; rfl
theorem ddTo_dedup (xs : List VL) : ∀ t, t ≤ xs.length → (ddTo xs t).map (·.2) = dedupL ((xs.take t).map (·.2)) := by
  intro t
  induction t with
  | zero => intro _; simp [ddTo, dedupL]
  | succ t ih =>
    intro h
    have ht : t < xs.length := by omega
    rw [List.take_succ_eq_append_getElem ht, List.map_append]
    show _ = dedupL ((xs.take t).map (·.2) ++ [xs[t].2])
    rw [dedupL_snoc, ← ih (by omega)]
    have hx : xs.getD t default = xs[t] := by simp [List.getD, ht]
    rw [ddTo_succ]
    cases t with
    | zero => simp [keepsAt, ht, ddTo]
    | succ t =>
      have ht1 : t < xs.length := by omega
      have hlast : ((xs.take (t + 1)).map (·.2)).getLastD [] = xs[t].2 := by
        rw [List.take_succ_eq_append_getElem ht1, List.map_append, List.getLastD_eq_getLast?]
        simp
      have hne : (xs.take (t + 1)).map (·.2) ≠ [] := by
        intro e
        have := congrArg List.length e
        rw [List.length_map, List.length_take, List.length_nil] at this
        omega
      have hk : keepsAt xs (t + 1) = decide (¬ xs[t + 1].2 = xs[t].2) := by
        unfold keepsAt
        simp [List.getD, ht, ht1]
      rw [hk, hlast]
      by_cases hc : xs[t + 1].2 = xs[t].2
      · rw [if_neg (by simp [hc]), if_pos ⟨hne, hc⟩]
      · rw [if_pos (by simp [hc]), if_neg (fun k => hc k.2), List.map_append, hx]; rfl
structure CmpAt (xs ls : List VL) (m t : Nat) : Prop where
  len : ls.length = xs.length
  lt : m + 1 ≤ t
  take : ls.take m = ddTo xs t
  rest : ls.drop (t - 1) = xs.drop (t - 1)
theorem CmpAt.get {xs ls : List VL} {m t j : Nat} (h : CmpAt xs ls m t) (hj : t - 1 ≤ j) (hjl : j < xs.length) : ls[j]'(by rw [h.len]; exact hjl) = xs[j] := by
  have h1 := congrArg (fun l => l[j - (t - 1)]?) h.rest
  simp only [List.getElem?_drop] at h1
  rw [show t - 1 + (j - (t - 1)) = j by omega, List.getElem?_eq_getElem (by rw [h.len]; exact hjl), List.getElem?_eq_getElem hjl] at h1
  simpa using h1
theorem CmpAt.skip {xs ls : List VL} {m t : Nat} (h : CmpAt xs ls m t) (hk : keepsAt xs t = false) : CmpAt xs ls m (t + 1) := by
  have hlt := h.lt
  refine ⟨h.len, by omega, ?_, ?_⟩
  · rw [h.take, ddTo_succ, if_neg (by simp [hk])]
  · have : ls.drop (t + 1 - 1) = (ls.drop (t - 1)).drop 1 := by rw [List.drop_drop]; congr 1; omega
    rw [this, h.rest, List.drop_drop]; congr 1; omega
theorem CmpAt.keep {xs ls : List VL} {m t : Nat} (h : CmpAt xs ls m t) (ht : t < xs.length) (hk : keepsAt xs t = true) : CmpAt xs (ls.set m xs[t]) (m + 1) (t + 1) := by
  have hlt := h.lt
  have hl := h.len
  refine ⟨by simpa using hl, by omega, ?_, ?_⟩
  · rw [List.take_succ_eq_append_getElem (by rw [List.length_set]; omega), List.take_set_of_le (Nat.le_refl _), h.take, ddTo_succ, if_pos hk]
    simp [List.getD, ht]
  · rw [List.drop_set_of_lt (by omega)]
    have : ls.drop (t + 1 - 1) = (ls.drop (t - 1)).drop 1 := by rw [List.drop_drop]; congr 1; omega
    rw [this, h.rest, List.drop_drop]; congr 1; omega
theorem lists_zero (w : World) : (zeroValue 48).run Tryz.prog w = .ok (.slice none 0 0) w := by kernel_rfl
theorem Chg.drewN {M : Nat → Prop} {w w' : World} (h : Chg M w w') (n : Nat) : Chg M w (w'.drewN n) := Kept.trans h ⟨rfl, rfl, rfl, Nat.le_refl _, fun _ _ => rfl⟩
theorem eq_call {B : Nat} {w W : World} {v : Value} {xs : List VL} (h : ListsAt B w v xs) (hil : ∀ x ∈ xs, x.2.length ≤ 1000000) (hs : w.heap.size ≤ W.heap.size) (hk : ∀ b, b < w.heap.size → v.ownBlock ≠ some b → W.heap[b]? = w.heap[b]?) {x y : VL} (hx : x ∈ xs) (hy : y ∈ xs) (n : Nat) :
    Calls Tryz.prog 123 #[x.1, y.1] (W.drewN n) fun e w' => e = .returned (.bool (decide (x.2 = y.2))) ∧ ∃ m, w' = W.drewN m := by
  have key : ∀ z ∈ xs, IntsAt (W.drewN n) z.1 z.2 := fun z hz => (IntsAt.of_row (h.inner z hz)).to hs (fun b hb hl => hk b hl (fun e => h.ne z hz b e hb))
  refine (equal_p (key x hx) (key y hy) (hil x hx) (hil y hy)).mono ?_
  rintro e w' ⟨h1, q, h2⟩
  exact ⟨h1, n + q, by rw [h2]; simp⟩
theorem xs_form {B : Nat} {w : World} {v : Value} {xs : List VL} (h : ListsAt B w v xs) {x : VL} (hx : x ∈ xs) : ∃ a b c, x.1 = .slice a b c := row_form (h.inner x hx)
set_option maxRecDepth 100000 in
set_option maxHeartbeats 3200000 in
theorem compact_p {B : Nat} {w : World} {v : Value} {xs : List VL} (h : ListsAt B w v xs) (hl : xs.length ≤ 1000000) (hil : ∀ x ∈ xs, x.2.length ≤ 1000000) :
    Calls Tryz.prog 122 #[v, .func (.func 123) #[] #[]] w fun e w' => ∃ a n c ys, e = .returned (.slice a n c) ∧ ys.map (·.2) = dedupL (xs.map (·.2)) ∧ ListsAt B w' (.slice a n c) ys ∧ Chg (fun b => v.ownBlock = some b) w w' ∧ (Value.slice a n c).ownBlock = v.ownBlock := by
  have hrow := h.row
  have hnone : xs.length < 2 → dedupL (xs.map (·.2)) = xs.map (·.2) := fun h2 => by
    rcases xs with _ | ⟨x, _ | ⟨y, xs⟩⟩
    · rfl
    · rfl
    · simp at h2; omega
  obtain ⟨va, vn, vc, ev⟩ := row_form hrow
  have hvn : vn = xs.length := by
    rcases hrow.2 with ⟨e, h0⟩ | ⟨g, cap, cur, e, _⟩
    · rw [e] at ev; cases ev; exact h0.symm
    · rw [e] at ev; cases ev; rfl
  by_cases h2 : xs.length < 2
  · have h2' : (xs.length : Int) < 2 := by omega
    have hend : ∃ a n c ys, Ending.returned v = .returned (.slice a n c) ∧ ys.map (·.2) = dedupL (xs.map (·.2)) ∧ ListsAt B w (.slice a n c) ys ∧ Chg (fun b => v.ownBlock = some b) w w ∧ (Value.slice a n c).ownBlock = v.ownBlock := ⟨va, vn, vc, xs, by rw [ev], (hnone h2).symm, by rw [← ev]; exact h, Chg.refl _ _, by rw [ev]⟩
    subst ev
    subst hvn
    clear hrow h hil hnone
    go_enter Tryz.func122, Tryz.ntmps122
    go_wp2
    go_ret
    exact hend
  · rcases hrow.2 with ⟨_, h0⟩ | ⟨g, cap, cur0, e0, hBg, hg0, hncap, hcm, hcs, _⟩
    · omega
    subst e0
    have hcells0 : ∀ k, (hk : k < xs.length) → w.cell? ⟨g, k, none⟩ = some xs[k].1 := fun k hk => by
      have := hrow.cells (g := g) rfl k xs[k].1 (by rw [List.getElem?_map, List.getElem?_eq_getElem hk]; rfl)
      rw [addr_add, Nat.zero_add] at this; exact this
    have hgl : g < w.heap.size := (hrow.lt g rfl).2
    have HE1 : Hid (∀ W, W.heap = w.heap → W.os = w.os → W.tape = w.tape → W.output = w.output → (∀ j, j < xs.length → keepsAt xs j = true) → ∃ a n c ys, Ending.returned (.slice (some ⟨g, 0, none⟩) xs.length cap) = .returned (.slice a n c) ∧ ys.map (·.2) = dedupL (xs.map (·.2)) ∧ ListsAt B W (.slice a n c) ys ∧ Chg (fun b => (Value.slice (some ⟨g, 0, none⟩) xs.length cap).ownBlock = some b) w W ∧ (Value.slice a n c).ownBlock = (Value.slice (some ⟨g, 0, none⟩) xs.length cap).ownBlock) := fun W q1 q2 q3 q4 q5 => by
      refine ⟨_, _, _, xs, rfl, ?_, h.to (fun b _ => by rw [q1]), ⟨q2, q3, q4, by rw [q1]; exact Nat.le_refl _, fun b _ => by rw [q1]⟩, rfl⟩
      have d1 := ddTo_dedup xs xs.length (Nat.le_refl _)
      rw [ddTo_all xs.length (Nat.le_refl _) q5, List.take_length] at d1
      exact d1
    have h2' : (2 : Int) ≤ (xs.length : Int) := by omega
    have HLs : Hid (ListsAt B w (.slice (some ⟨g, 0, none⟩) xs.length cap) xs) := h
    have HIl : Hid (∀ x ∈ xs, x.2.length ≤ 1000000) := hil
    have HRow : Hid _ := hrow
    have HCs : Hid (∀ k, (hk : k < xs.length) → w.cell? ⟨g, k, none⟩ = some xs[k].1) := hcells0
    clear h hil hrow hcells0 ev hvn hnone hg0 hcs
    go_enter Tryz.func122, Tryz.ntmps122
    go_wp2
    go_loopw [5] (fun k wr => ∃ i : Nat, i + 1 ≤ xs.length ∧ k = .int .i64 ((i : Int) + 1) ∧ (∃ q, wr = w.drewN q) ∧ Hid (∀ j, j < i + 1 → keepsAt xs j = true)) (fun k _ => xs.length - (intOf k).toNat)
    case atStart => exact ⟨0, by omega, rfl, ⟨0, rfl⟩, fun j hj => by have : j = 0 := by omega
                                                                      subst this; rfl⟩
    case round =>
      obtain ⟨i, hi, rfl, ⟨q, hq⟩, HK⟩ := hrel
      have hh : wr.heap = w.heap := by rw [hq]; rfl
      have hho : wr.os = w.os := by rw [hq]; rfl
      have hht : wr.tape = w.tape := by rw [hq]; rfl
      have hhu : wr.output = w.output := by rw [hq]; rfl
      have HQ : Hid (∀ n, ∃ q, wr.drewN n = w.drewN q) := fun n => ⟨q + n, by rw [hq]; simp⟩
      clear hq
      by_cases hlt : i + 1 < xs.length
      · have c1 : wr.cell? ⟨g, i + 1, none⟩ = some xs[i + 1].1 := (cell_eq (by rw [hh]) _).trans (HCs.out (i + 1) hlt)
        have c0 : wr.cell? ⟨g, i, none⟩ = some xs[i].1 := (cell_eq (by rw [hh]) _).trans (HCs.out i (by omega))
        have hgw : g < wr.heap.size := by rw [hh]; exact hgl
        have hcall := fun n => eq_call (W := wr) HLs.out HIl.out (by rw [hh]; exact Nat.le_refl _) (fun b _ _ => by rw [hh]) (List.getElem_mem hlt) (List.getElem_mem (show i < xs.length by omega)) n
        obtain ⟨xa, xb, xc, ex⟩ := xs_form HLs.out (List.getElem_mem hlt)
        obtain ⟨ya, yb, yc, ey⟩ := xs_form HLs.out (List.getElem_mem (show i < xs.length by omega))
        rw [ex] at c1 hcall
        rw [ey] at c0 hcall
        have hii : (i : Int) + 1 < (xs.length : Int) := by omega
        have hi0 : (0 : Int) ≤ (i : Int) := by omega
        have hi1 : (0 : Int) ≤ (i : Int) + 1 := by omega
        have hi2 : (i : Int) < (xs.length : Int) := by omega
        have hkd : keepsAt xs (i + 1) = decide (¬ xs[i + 1].2 = xs[i].2) := by unfold keepsAt; simp [List.getD, hlt, show i < xs.length by omega]
        by_cases heq : xs[i + 1].2 = xs[i].2
        · rw [decide_eq_true heq] at hcall
          have HD0 : Hid (CmpAt xs xs (i + 1) (i + 2)) := by
            refine (⟨rfl, by omega, ?_, rfl⟩ : CmpAt xs xs (i + 1) (i + 2))
            rw [show i + 2 = (i + 1) + 1 from rfl, ddTo_succ, if_neg (by rw [hkd]; simp [heq])]
            exact (ddTo_all (i + 1) (by omega) HK.out).symm
          have hne : ¬ cap = i + 1 := by omega
          have hci : (i : Int) + 1 ≤ (cap : Int) := by omega
          have hcl : (xs.length : Int) ≤ (cap : Int) := by omega
          clear heq hkd HK HE1
          go_upto_region 6 with fail
          go_quiet (first | (go_at_call 123; exact hcall _))
          have hRow0 : (wr.drewN nq).ownsRow B 48 1 (.slice (some ⟨g, 0, none⟩) xs.length cap) xs.length (xs.map (·.1)) := row_of_blk HRow.out (fun z _ => by show wr.heap[z]? = _; rw [hh])
          have hChg0 : Chg (fun b => b = g) w (wr.drewN nq) := ⟨hho, hht, hhu, by show _ ≤ wr.heap.size; rw [hh]; exact Nat.le_refl _, fun b _ => by show wr.heap[b]? = _; rw [hh]⟩
          go_wp2
          obtain ⟨wo, rfl⟩ : ∃ x, x = wr := ⟨_, rfl⟩
          go_loopw [5, 7] (fun m k2 wr => ∃ (mm j : Nat) (ls : List VL), m = .int .i64 mm ∧ k2 = .int .i64 ((j : Int) + 1) ∧ j + 1 ≤ xs.length - (i + 1) ∧ CmpAt xs ls mm (i + 1 + (j + 1)) ∧ (∀ x ∈ ls, x ∈ xs) ∧ wr.ownsRow B 48 1 (.slice (some ⟨g, 0, none⟩) xs.length cap) xs.length (ls.map (·.1)) ∧ Chg (fun b => b = g) w wr) (fun _ k2 _ => xs.length - (intOf k2).toNat)
          case atStart => exact ⟨i + 1, 0, xs, by go_num, rfl, by omega, HD0.out, fun x hx => hx, hRow0, hChg0⟩
          case round =>
            obtain ⟨mm, j, ls, rfl, rfl, hj, hD, hin, hrow, hC⟩ := hrel
            clear HD0 hRow0 hChg0 c1 c0 hcall hgw
            have hlen := hD.len
            have hmt := hD.lt
            have hgw : g < wr.heap.size := (hrow.lt g rfl).2
            obtain ⟨cur, hB, hcs⟩ : ∃ cur, Blk wr g cur 48 ∧ xs.length ≤ cur.size := by
              rcases hrow.2 with ⟨e, _⟩ | ⟨g', cap', cur, he, _, hgg, hn, _, hcs, _⟩
              · cases e
              · cases he; exact ⟨cur, hgg, by rw [hcs]; omega⟩
            have hcell : ∀ k, i + 1 + (j + 1) - 1 ≤ k → (hk : k < xs.length) → wr.cell? ⟨g, k, none⟩ = some xs[k].1 := fun k h1 hk => by
              have := hrow.cells (g := g) rfl k xs[k].1 (by rw [List.getElem?_map, List.getElem?_eq_getElem (by omega), Option.map_some, hD.get h1 hk])
              rw [addr_add, Nat.zero_add] at this; exact this
            have HKp : Hid (∀ b, b < w.heap.size → (Value.slice (some ⟨g, 0, none⟩) xs.length cap).ownBlock ≠ some b → wr.heap[b]? = w.heap[b]?) := fun b hb hne => hC.at b hb (fun e => hne (by rw [e]; rfl))
            by_cases hlt2 : j + 1 < xs.length - (i + 1)
            · have htl : i + 1 + (j + 1) < xs.length := by omega
              have htl2 : i + 1 + j < xs.length := by omega
              have d1 := hcell (i + 1 + (j + 1)) (by omega) htl
              have d0 := hcell (i + 1 + j) (by omega) htl2
              have hcall := fun n => eq_call (W := wr) HLs.out HIl.out hC.size HKp.out (List.getElem_mem htl) (List.getElem_mem htl2) n
              obtain ⟨pa, pb, pc, ep⟩ := xs_form HLs.out (List.getElem_mem htl)
              obtain ⟨qa, qb, qc, eq2⟩ := xs_form HLs.out (List.getElem_mem htl2)
              rw [ep] at d1 hcall
              rw [eq2] at d0 hcall
              have hjj : (j : Int) + 1 < ((xs.length - (i + 1) : Nat) : Int) := by omega
              have hjj0 : (j : Int) < ((xs.length - (i + 1) : Nat) : Int) := by omega
              have hj0 : (0 : Int) ≤ (j : Int) := by omega
              have hj1 : (0 : Int) ≤ (j : Int) + 1 := by omega
              have hkd : keepsAt xs (i + 1 + (j + 1)) = decide (¬ xs[i + 1 + (j + 1)].2 = xs[i + 1 + j].2) := by
                unfold keepsAt
                rw [show i + 1 + (j + 1) - 1 = i + 1 + j by omega]
                simp only [List.getD_eq_getElem?_getD, List.getElem?_eq_getElem htl, List.getElem?_eq_getElem htl2, Option.getD_some]
                rw [show (i + 1 + (j + 1) == 0) = false by simp]
                simp
              by_cases heq : xs[i + 1 + (j + 1)].2 = xs[i + 1 + j].2
              · rw [decide_eq_true heq] at hcall
                have HS : Hid (CmpAt xs ls mm (i + 1 + (j + 2))) := hD.skip (by rw [hkd]; simp [heq])
                have HEnd : Hid (∀ n, (wr.drewN n).ownsRow B 48 1 (.slice (some ⟨g, 0, none⟩) xs.length cap) xs.length (ls.map (·.1)) ∧ Chg (fun b => b = g) w (wr.drewN n)) := fun n => ⟨row_of_blk hrow (fun _ _ => rfl), Kept.trans hC ⟨rfl, rfl, rfl, Nat.le_refl _, fun _ _ => rfl⟩⟩
                clear heq hkd hD hrow hC hcell hlen hmt hB
                go_upto_region 11 with fail
                go_quiet (first | (go_at_call 123; exact hcall _))
                go_wp2
                go_roundw
                case rel => exact ⟨mm, j + 1, ls, rfl, by go_num, by omega, HS.out, hin, HEnd.out _⟩
                case measure => simp [intOf]; omega
              · rw [decide_eq_false heq] at hcall
                have HS : Hid (CmpAt xs (ls.set mm xs[i + 1 + (j + 1)]) (mm + 1) (i + 1 + (j + 2))) := hD.keep htl (by rw [hkd]; simpa using heq)
                have HIn : Hid (∀ x ∈ ls.set mm xs[i + 1 + (j + 1)], x ∈ xs) := fun r hr => by
                  rcases List.mem_or_eq_of_mem_set hr with hr | hr
                  · exact hin r hr
                  · rw [hr]; exact List.getElem_mem htl
                have HEnd : Hid (∀ n, ((wr.drewN n).setCell ⟨g, mm, none⟩ (.slice pa pb pc)).ownsRow B 48 1 (.slice (some ⟨g, 0, none⟩) xs.length cap) xs.length ((ls.set mm xs[i + 1 + (j + 1)]).map (·.1)) ∧ Chg (fun b => b = g) w ((wr.drewN n).setCell ⟨g, mm, none⟩ (.slice pa pb pc))) := fun n => by
                  have r1 : (wr.drewN n).ownsRow B 48 1 (.slice (some ⟨g, 0, none⟩) xs.length cap) xs.length (ls.map (·.1)) := row_of_blk hrow (fun _ _ => rfl)
                  refine ⟨?_, Chg.setCell (hC.drewN n) (p := ⟨g, mm, none⟩) (.inl rfl) _⟩
                  rw [List.map_set, ep]
                  exact row_set r1 (by rw [List.length_map]; omega)
                have hmi : (mm : Int) < (xs.length : Int) := by omega
                have hm0 : (0 : Int) ≤ (mm : Int) := by omega
                have hml : mm < cur.size := by omega
                have b0 := hB.cell mm
                have bf := hB.frozen mm
                rw [Array.getElem?_eq_getElem hml] at b0
                clear heq hkd hD hrow hC hcell hlen hmt hin
                generalize ls.set mm xs[i + 1 + (j + 1)] = ls2 at *
                go_upto_region 11 with fail
                go_quiet (first | (go_at_call 123; exact hcall _))
                go_wp2
                go_roundw
                case rel => exact ⟨mm + 1, j + 1, ls2, by go_num, by go_num, by omega, HS.out, HIn.out, HEnd.out _⟩
                case measure => simp [intOf]; omega
            · have ej : i + 1 + (j + 1) = xs.length := by omega
              rw [ej] at hD
              have hmn : mm < xs.length := by omega
              have hcl2 : ∀ ty, (Builtin.clear_ #[40] ty #[.slice (some ⟨g, mm, none⟩) (xs.length - mm) (cap - mm)]).run Tryz.prog wr = .ok (.tuple #[]) (wr.setCells g mm (List.replicate (xs.length - mm) (.slice none 0 0))) := fun ty =>
                Lib.run_clear_slice wr 40 48 ty (.slice none 0 0) Tryz.underlying40 lists_zero rfl rfl g mm (xs.length - mm) (cap - mm) (by omega) (fun k hk => by rw [hB.cell (mm + k), Array.getElem?_eq_getElem (by omega)]; rfl) (fun k hk => hB.frozen _)
              have hend : ∃ a n c ys, Ending.returned (.slice (some ⟨g, 0, none⟩) mm cap) = .returned (.slice a n c) ∧ ys.map (·.2) = dedupL (xs.map (·.2)) ∧ ListsAt B (wr.setCells g mm (List.replicate (xs.length - mm) (.slice none 0 0))) (.slice a n c) ys ∧ Chg (fun b => (Value.slice (some ⟨g, 0, none⟩) xs.length cap).ownBlock = some b) w (wr.setCells g mm (List.replicate (xs.length - mm) (.slice none 0 0))) ∧ (Value.slice a n c).ownBlock = (Value.slice (some ⟨g, 0, none⟩) xs.length cap).ownBlock := by
                have hch := chg_setCells (M := fun b => b = g) (g := g) rfl (List.replicate (xs.length - mm) (.slice none 0 0)) mm hC
                have hsub := (ddTo_sub xs xs.length (Nat.le_refl _))
                rw [List.take_length] at hsub
                have hyl : (ls.take mm).length = mm := by rw [List.length_take]; omega
                refine ⟨_, _, _, ls.take mm, rfl, ?_, ⟨?_, fun x hx => ?_, ?_⟩, hch.mono (fun b _ e => by rw [e]; rfl), rfl⟩
                · rw [hD.take, ddTo_dedup xs xs.length (Nat.le_refl _), List.take_length]
                · have r2 := row_cut (m := mm) hrow (by omega)
                  rw [Nat.mul_one, ← List.map_take] at r2
                  rw [hyl]
                  exact row_fars _ _ r2 (by rw [List.length_map, hyl]; exact Nat.le_refl _)
                · have hx' : x ∈ xs := hin x (List.mem_of_mem_take hx)
                  exact row_of_blk (HLs.out.inner x hx') (fun z hz => hch.at z ((HLs.out.inner x hx').lt z hz).2 (fun e => HLs.out.ne x hx' g rfl (e ▸ hz)))
                · rw [hD.take]; exact HLs.out.apart.sublist hsub
              have hjj : ((xs.length - (i + 1) : Nat) : Int) ≤ (j : Int) + 1 := by omega
              have hm0 : (0 : Int) ≤ (mm : Int) := by omega
              have hmi : (mm : Int) ≤ (xs.length : Int) := by omega
              have hmc : (mm : Int) ≤ (cap : Int) := by omega
              have hne2 : ¬ cap = mm := by omega
              clear hD hrow hC hcell hlen hmt hB hin
              go_wp2
              go_ret
              exact hend
        · rw [decide_eq_false heq] at hcall
          have HK' : Hid (∀ j, j < i + 2 → keepsAt xs j = true) := fun j hj => by
            by_cases e : j = i + 1
            · subst e; rw [hkd]; simpa using heq
            · exact HK.out j (by omega)
          clear heq hkd HK HE1
          go_upto_region 6 with fail
          go_quiet (first | (go_at_call 123; exact hcall _))
          go_wp2
          go_roundw
          case rel => exact ⟨i + 1, by omega, by go_num, HQ.out _, HK'⟩
          case measure => simp [intOf]; omega
      · have ei : i + 1 = xs.length := by omega
        have hend := HE1.out wr hh hho hht hhu (fun j hj => HK.out j (by omega))
        have ei' : (xs.length : Int) ≤ (i : Int) + 1 := by omega
        clear HE1 HK
        go_wp2
        go_ret
        exact hend
end Go.Proofs.YtddbjcfdmdbmkaaGreatDoor

namespace Go.Proofs.YtddbjcfdmdbmkaaGreatDoor
open Go.RowKit

theorem Tryz.infoIntsS : (Tryz.prog.info? 48).map (fun i => (i.zero, i.size, i.bytes)) = some (some (.slice none 0 0), 1, 24) := by kernel_rfl
theorem RunV.first {F : Nat → Prop} {w : World} {paths : List (List WStep)} {svs : List Value} {evs : List Ev} {sps : List Nat} {r : MRun} (h : RunV F w paths svs evs sps r) (hS : SeenL F w evs sps) (h0 : r.pl.2 ≠ []) : FirstAt F w (fun r => firstT evs r.pl.2) r := by
  obtain ⟨i, t, e⟩ := List.exists_cons_of_ne_nil h0
  have hlen := h.len
  have hl0 : 0 < r.ps.length := by rw [hlen, e]; simp
  rcases h.taken with ⟨e1, _⟩ | ⟨_, g, e1, e2, e3⟩
  · rw [e1] at hl0; simp at hl0
  · have hi : i < evs.length := h.lt i (by rw [e]; simp)
    obtain ⟨q1, q2, q3⟩ := sps_get hS hi
    have hp0 : r.ps[0] = sps.getD i 0 := by simp [h.ps, e]
    have c0 := e3 0 hl0
    rw [hp0] at c0
    refine ⟨g, sps.getD i 0, e1, hl0, c0, ?_, e2, q3, ?_, q2⟩
    · rw [q1.cell 0]
      show some _ = some (Value.int .i64 (firstT evs r.pl.2))
      unfold firstT
      rw [e]; rfl
    · exact h.tF _ e1
def wholeR (paths : List (List WStep)) (r : MRun) : Bool := wholeB (absP paths) r.pl
theorem RunV.whole {F : Nat → Prop} {w : World} {paths : List (List WStep)} {svs : List Value} {evs : List Ev} {sps : List Nat} {r : MRun} (h : RunV F w paths svs evs sps r) : ∃ a c, r.sv = .slice a (paths.getD r.pl.1 []).length c ∧ decide (r.ps.length = (paths.getD r.pl.1 []).length) = wholeR paths r := by
  obtain ⟨a, c, e, _⟩ := h.steps.at
  refine ⟨a, c, e, ?_⟩
  unfold wholeR wholeB
  rw [absP_at, h.len, List.length_map]
  rw [Bool.eq_iff_iff]
  simp
theorem ListsAt.snoc {B : Nat} {w w' : World} {v v' : Value} {xs : List VL} {x : VL} (h : ListsAt B w v xs) (hrow : w'.ownsRow B 48 1 v' (xs.length + 1) (xs.map (·.1) ++ [x.1])) (hx : w'.ownsRow B 3 1 x.1 x.2.length (x.2.map fun n => Value.int .i64 (n : Nat))) (hk : ∀ y ∈ xs, ∀ b, y.1.ownBlock = some b → w'.heap[b]? = w.heap[b]?) (hnew : ∀ b, x.1.ownBlock = some b → w.heap.size ≤ b) : ListsAt B w' v' (xs ++ [x]) := by
  refine ⟨by rw [List.length_append, List.map_append]; exact hrow, fun y hy => ?_, ?_⟩
  · rcases List.mem_append.1 hy with hy | hy
    · exact row_of_blk (h.inner y hy) (fun b hb => hk y hy b hb)
    · rw [List.mem_singleton.1 hy]; exact hx
  · rw [List.pairwise_append]
    refine ⟨h.apart, List.pairwise_singleton _ _, fun y hy z hz g hg hg' => ?_⟩
    rw [List.mem_singleton.1 hz] at hg'
    have := ((h.inner y hy).lt g hg).2
    have := hnew g hg'
    omega
structure KeepAt (F : Nat → Prop) (w : World) (X : Nat) (x0 x1 x2 x3 x4 rv : Value) (rs : List MRun) (tm : MRun → Int) (paths : List (List WStep)) (gs : List MRun) (k : Nat) (wr : World) (mv : Value) (xs : List VL) (rv2 : Value) (rs2 : List MRun) : Prop where
  lists : ListsAt w.heap.size wr mv xs
  told : xs.map (·.2) = ((gs.take k).filter (wholeR paths)).map (·.pl.2)
  heap : HeapY F wr X x0 x1 x2 x3 x4 rv2 rs2 tm
  perm : rs2.Perm (rs ++ (gs.take k).filter fun r => !wholeR paths r)
  chg : Chg (fun b => b = X ∨ rv.ownBlock = some b) w wr
  at2 : ∀ b, rv2.ownBlock = some b → rv.ownBlock = some b ∨ w.heap.size ≤ b
theorem KeepAt.below {F : Nat → Prop} {w : World} {X : Nat} {x0 x1 x2 x3 x4 rv : Value} {rs : List MRun} {tm : MRun → Int} {paths : List (List WStep)} {gs : List MRun} {k : Nat} {wr : World} {mv : Value} {xs : List VL} {rv2 : Value} {rs2 : List MRun} (h : KeepAt F w X x0 x1 x2 x3 x4 rv rs tm paths gs k wr mv xs rv2 rs2) {w' : World} (hb : Below wr.heap.size wr w') : KeepAt F w X x0 x1 x2 x3 x4 rv rs tm paths gs k w' mv xs rv2 rs2 := by
  refine ⟨h.lists.to (fun b hb' => hb.block b ?_), h.told, ⟨h.heap.toHeapX.field (M := fun _ => False) (h.heap.xb.of_eq (hb.block _ h.heap.xb.lt)) (Chg.below _ hb) (fun b hb => hb.elim) (fun g _ hb => hb), h.heap.heap⟩, h.perm, h.chg.trans (Chg.below (fun b => b = X ∨ rv.ownBlock = some b) hb) (fun b _ e => e), h.at2⟩
  rcases hb' with hb' | ⟨x, hx, hb'⟩
  · exact (h.lists.row.lt b hb').2
  · exact ((h.lists.inner x hx).lt b hb').2
theorem KeepAt.turn {F : Nat → Prop} {w : World} {X : Nat} {x0 x1 x2 x3 x4 rv : Value} {rs : List MRun} {tm : MRun → Int} {paths : List (List WStep)} {gs : List MRun} {k : Nat} {wr : World} {mv : Value} {xs : List VL} {rv2 : Value} {rs2 : List MRun} (h : KeepAt F w X x0 x1 x2 x3 x4 rv rs tm paths gs k wr mv xs rv2 rs2) (hF : ∀ b, F b → b < w.heap.size) {w' : World} (hc : Chg (fun b => mv.ownBlock = some b) wr w') : HeapY F w' X x0 x1 x2 x3 x4 rv2 rs2 tm ∧ Chg (fun b => b = X ∨ rv.ownBlock = some b) w w' := by
  have hm : ∀ b, mv.ownBlock = some b → w.heap.size ≤ b := fun b hb => (h.lists.row.lt b hb).1
  have hX : ¬ mv.ownBlock = some X := blk_apart h.heap.xb h.lists.row (by decide)
  exact ⟨⟨h.heap.toHeapX.field (h.heap.xb.of_eq (hc.at X h.heap.xb.lt hX)) hc (fun b hb hFb => absurd (hF b hFb) (by have := hm b hb; omega)) (fun g hg hb => rows_apart h.lists.row h.heap.row (by decide) g hb hg), h.heap.heap⟩, h.chg.trans hc (fun b hb e => absurd (hm b e) (by omega))⟩
theorem take_filter_pos {gs : List MRun} {p : MRun → Bool} {k : Nat} (hk : k < gs.length) (h : p gs[k] = true) : (gs.take (k + 1)).filter p = (gs.take k).filter p ++ [gs[k]] := by
  rw [List.take_succ_eq_append_getElem hk, List.filter_append]; simp [h]
theorem take_filter_neg {gs : List MRun} {p : MRun → Bool} {k : Nat} (hk : k < gs.length) (h : p gs[k] = false) : (gs.take (k + 1)).filter p = (gs.take k).filter p := by
  rw [List.take_succ_eq_append_getElem hk, List.filter_append]; simp [h]
theorem KeepAt.tell {F : Nat → Prop} {w : World} {X : Nat} {x0 x1 x2 x3 x4 rv : Value} {rs : List MRun} {tm : MRun → Int} {paths : List (List WStep)} {gs : List MRun} {k : Nat} {wr : World} {mv : Value} {xs : List VL} {rv2 : Value} {rs2 : List MRun} (h : KeepAt F w X x0 x1 x2 x3 x4 rv rs tm paths gs k wr mv xs rv2 rs2) (hF : ∀ b, F b → b < w.heap.size) (hk : k < gs.length) (hw : wholeR paths gs[k] = true) {w5 w7 : World} {o : Obj} {x : VL} {v' : Value} (hb5 : Below wr.heap.size wr w5) (hx : w5.ownsRow wr.heap.size 3 1 x.1 x.2.length (x.2.map fun n => Value.int .i64 (n : Nat))) (hx2 : x.2 = gs[k].pl.2) (hg : (w5.alloc o).grownBy w7 mv.ownBlock) (hrow : w7.ownsRow w.heap.size 48 1 v' (xs.length + 1) (xs.map (·.1) ++ [x.1])) : KeepAt F w X x0 x1 x2 x3 x4 rv rs tm paths gs (k + 1) w7 v' (xs ++ [x]) rv2 rs2 := by
  have hws := h.chg.size
  have hc : Chg (fun b => mv.ownBlock = some b) wr w7 := ((Chg.below (fun b => mv.ownBlock = some b) hb5).alloc o).trans (Chg.grown hg) (fun b _ e => e)
  obtain ⟨k1, k2⟩ := h.turn hF hc
  refine ⟨?_, ?_, k1, by rw [take_filter_neg hk (by simp [hw])]; exact h.perm, k2, h.at2⟩
  · refine h.lists.snoc hrow ?_ (fun y hy b hb => hc.at b ((h.lists.inner y hy).lt b hb).2 (fun e => h.lists.ne y hy b e hb)) (fun b hb => (hx.lt b hb).1)
    refine row_base_le (row_of_blk hx (fun b hb => ?_)) hws
    rw [hg.block b (by have := (hx.lt b hb).2; simp; omega) (fun e => ?_), Below.heap_alloc _ _ _ (hx.lt b hb).2]
    have := (h.lists.row.lt b e.symm).2
    have := (hx.lt b hb).1
    omega
  · rw [List.map_append, h.told, take_filter_pos hk hw, List.map_append]
    simp [hx2]
theorem KeepAt.push {F : Nat → Prop} {w : World} {X : Nat} {x0 x1 x2 x3 x4 rv : Value} {rs : List MRun} {tm : MRun → Int} {paths : List (List WStep)} {gs : List MRun} {k : Nat} {wr : World} {mv : Value} {xs : List VL} {rv2 : Value} {rs2 : List MRun} (h : KeepAt F w X x0 x1 x2 x3 x4 rv rs tm paths gs k wr mv xs rv2 rs2) (hk : k < gs.length) (hw : wholeR paths gs[k] = false) {w' : World} {rv' : Value} {rs' : List MRun} (hY : HeapY F w' X x0 x1 x2 x3 x4 rv' rs' tm) (hp : rs'.Perm (rs2 ++ [gs[k]])) (hc : Chg (fun b => b = X ∨ rv2.ownBlock = some b) wr w') (ha : ∀ b, rv'.ownBlock = some b → rv2.ownBlock = some b ∨ wr.heap.size ≤ b) : KeepAt F w X x0 x1 x2 x3 x4 rv rs tm paths gs (k + 1) w' mv xs rv' rs' := by
  have hws := h.chg.size
  refine ⟨h.lists.to (fun b hb => ?_), by rw [take_filter_neg hk hw]; exact h.told, hY, ?_, h.chg.trans hc (fun b hb e => ?_), fun b hb => ?_⟩
  · rcases hb with hb | ⟨x, hx, hb⟩
    · refine hc.at b (h.lists.row.lt b hb).2 (fun hm => ?_)
      rcases hm with rfl | hm
      · exact blk_apart h.heap.xb h.lists.row (by decide) hb
      · exact rows_apart h.lists.row h.heap.row (by decide) b hb hm
    · refine hc.at b ((h.lists.inner x hx).lt b hb).2 (fun hm => ?_)
      rcases hm with rfl | hm
      · exact blk_apart h.heap.xb (h.lists.inner x hx) (by decide) hb
      · exact rows_apart (h.lists.inner x hx) h.heap.row (by decide) b hb hm
  · rw [take_filter_pos (p := fun r => !wholeR paths r) hk (by simp [hw]), ← List.append_assoc]
    exact hp.trans (h.perm.append_right _)
  · rcases e with e | e
    · exact .inl e
    · rcases h.at2 b e with e2 | e2
      · exact .inr e2
      · omega
  · rcases ha b hb with e | e
    · exact h.at2 b e
    · exact .inr (by omega)
set_option maxRecDepth 100000 in
set_option maxHeartbeats 3200000 in
theorem keep_p {F : Nat → Prop} {w : World} {X : Nat} {x0 x1 x2 x3 x4 rv : Value} {rs : List MRun} {paths : List (List WStep)} {svs : List Value} {evs : List Ev} {sps : List Nat} {av : Value} {gs : List MRun} (hY : HeapY F w X x0 x1 x2 x3 x4 rv rs (fun r => firstT evs r.pl.2)) (hS : SeenL F w evs sps) (hG : ∀ r ∈ gs, RunV F w paths svs evs sps r ∧ r.pl.2 ≠ []) (hpl : ∀ p ∈ paths, p.length ≤ 10000) (hlong : ∀ r ∈ gs, r.pl.2.length ≤ 10000) (hrow : w.ownsRow 0 163 2 av gs.length (flat MRun.cells gs)) (hav : ∀ g, av.ownBlock = some g → rv.ownBlock ≠ some g) (hgl : gs.length ≤ 400000) (hrl : rs.length ≤ 400000) :
    Calls Tryz.prog 78 #[.pointer (some ⟨X, 0, none⟩), av] w fun e w' => ∃ a n c ys rv' rs', e = .returned (.slice a n c) ∧ ListsAt w.heap.size w' (.slice a n c) ys ∧ SortedL (ys.map (·.2)) ∧ (∀ t, t ∈ ys.map (·.2) ↔ t ∈ (gs.filter (wholeR paths)).map (·.pl.2)) ∧ HeapY F w' X x0 x1 x2 x3 x4 rv' rs' (fun r => firstT evs r.pl.2) ∧ rs'.Perm (rs ++ gs.filter fun r => !wholeR paths r) ∧ Chg (fun b => b = X ∨ rv.ownBlock = some b) w w' ∧ ∀ b, rv'.ownBlock = some b → rv.ownBlock = some b ∨ w.heap.size ≤ b := by
  obtain ⟨i0, hi0, hz0, hz1, hz2⟩ := info_parts Tryz.infoIntsS
  obtain ⟨aa, an, ac, eav⟩ := row_form hrow
  have han : an = gs.length := by
    rcases hrow.2 with ⟨e, h0⟩ | ⟨g, cap, cur, e, _⟩
    · rw [e] at eav; cases eav; exact h0.symm
    · rw [e] at eav; cases eav; rfl
  have hK0 : KeepAt F w X x0 x1 x2 x3 x4 rv rs (fun r => firstT evs r.pl.2) paths gs 0 w (.slice none 0 0) [] rv rs := ⟨ListsAt.nil _ _, rfl, hY, by simp, Chg.refl _ _, fun b hb => .inl hb⟩
  have havX : ∀ g, av.ownBlock = some g → g ≠ X := fun g hg e => blk_apart hY.xb hrow (by decide) (e ▸ hg)
  have hKeepF : ∀ wr, Chg (fun b => b = X ∨ rv.ownBlock = some b) w wr → KeepS F w F wr := fun wr hc b hb hl => ⟨hb, hc.at b hl (fun hm => by rcases hm with rfl | hm; exact hY.nX hb; exact hY.nR b hm hb)⟩
  have HFl : Hid (∀ b, F b → b < w.heap.size) := hY.fl
  have HF : Hid _ := hKeepF
  have HK0 : Hid _ := hK0
  have HS : Hid (SeenL F w evs sps) := hS
  have HG : Hid (∀ r ∈ gs, RunV F w paths svs evs sps r ∧ r.pl.2 ≠ []) := hG
  have HLong : Hid (∀ r ∈ gs, r.pl.2.length ≤ 10000) := hlong
  have HPl : Hid (∀ p ∈ paths, p.length ≤ 10000) := hpl
  have HRow : Hid (w.ownsRow 0 163 2 av gs.length (flat MRun.cells gs)) := hrow
  have HAv : Hid (∀ wr, Chg (fun b => b = X ∨ rv.ownBlock = some b) w wr → wr.ownsRow 0 163 2 av gs.length (flat MRun.cells gs)) := fun wr hc => row_of_blk hrow (fun g hg => hc.at g (hrow.lt g hg).2 (fun hm => by rcases hm with hm | hm; exact havX g hg hm; exact hav g hg hm))
  subst eav
  subst han
  clear hY hS hG hrow hav hKeepF hK0 hlong hpl
  go_enter Tryz.func78, Tryz.ntmps78
  go_wp2
  go_loopw [5, 10] (fun mv i wr => ∃ (k : Nat) (a : Option Addr) (n c : Nat) (xs : List VL) (rv2 : Value) (rs2 : List MRun), k ≤ gs.length ∧ i = .int .i64 k ∧ mv = .slice a n c ∧ KeepAt F w X x0 x1 x2 x3 x4 rv rs (fun r => firstT evs r.pl.2) paths gs k wr (.slice a n c) xs rv2 rs2) (fun _ i _ => gs.length - (intOf i).toNat)
  case atStart => exact ⟨0, none, 0, 0, [], rv, rs, Nat.zero_le _, rfl, rfl, HK0.out⟩
  case round =>
    obtain ⟨k, ma, mn, mc, xs, rv2, rs2, hk, rfl, rfl, hK⟩ := hrel
    clear HK0
    have hxl : xs.length ≤ k := by
      have := congrArg List.length hK.told
      rw [List.length_map, List.length_map] at this
      rw [this]
      exact Nat.le_trans (List.length_filter_le _ _) (by rw [List.length_take]; omega)
    have hr2 : rs2.length ≤ 800000 := by
      have := hK.perm.length_eq
      rw [List.length_append] at this
      have := List.length_filter_le (fun r => !wholeR paths r) (gs.take k)
      rw [List.length_take] at this
      omega
    by_cases hlt : k < gs.length
    · obtain ⟨hV0, hne⟩ := HG.out gs[k] (List.getElem_mem hlt)
      have hrowW := HAv.out wr hK.chg
      obtain ⟨g, cap, erow⟩ : ∃ g cap, (Value.slice aa gs.length ac) = .slice (some ⟨g, 0, none⟩) gs.length cap := by
        rcases hrowW.2 with ⟨_, h0⟩ | ⟨g, cap, cur, e, _⟩
        · omega
        · exact ⟨g, cap, e⟩
      obtain ⟨rfl, _, rfl⟩ : aa = some ⟨g, 0, none⟩ ∧ gs.length = gs.length ∧ ac = cap := by simpa using erow
      obtain ⟨d0, d1⟩ := run_cells hrowW k hlt
      have hgl2 := (hrowW.lt g rfl).2
      obtain ⟨sa, sc, esv, hwh⟩ := hV0.whole
      have hbx : Below wr.heap.size wr (wr.alloc (.cells #[gs[k].sv, .slice gs[k].ta gs[k].ps.length gs[k].tc] 163)) := (Below.refl _ wr).alloc (Nat.le_refl _) _
      have hKx := hK.below hbx
      have hki : (k : Int) < (gs.length : Int) := by omega
      have hk0 : (0 : Int) ≤ (k : Int) := by omega
      have hcx := HF.out _ hKx.chg
      have hVx := hV0.to hcx hKx.chg.size
      have hSx := HS.out.to hcx hKx.chg.size
      rw [esv] at d0 hbx hKx hVx hSx hcx
      have hfs : wholeR paths gs[k] = wholeR paths gs[k] := rfl
      generalize hW0 : wr.alloc (.cells #[.slice sa (paths.getD gs[k].pl.1 []).length sc, .slice gs[k].ta gs[k].ps.length gs[k].tc] 163) = W0 at *
      have hNb := Blk.new wr #[.slice sa (paths.getD gs[k].pl.1 []).length sc, .slice gs[k].ta gs[k].ps.length gs[k].tc] 163
      rw [hW0] at hNb
      have hplen := hV0.len
      have hll := HLong.out gs[k] (List.getElem_mem hlt)
      have hwcall : ∀ W, Calls Tryz.prog 117 #[.agg #[.slice sa (paths.getD gs[k].pl.1 []).length sc, .slice gs[k].ta gs[k].ps.length gs[k].tc]] W fun e w' => e = .returned (.bool (wholeR paths gs[k])) ∧ Below W.heap.size W w' := fun W => by
        rw [← hwh]; exact isWhole_p
      have hnum : ∀ W, Below W0.heap.size W0 W → Calls Tryz.prog 118 #[.agg #[.slice sa (paths.getD gs[k].pl.1 []).length sc, .slice gs[k].ta gs[k].ps.length gs[k].tc]] W fun e w' => ∃ a b c, e = .returned (.slice a b c) ∧ w'.ownsRow W.heap.size 3 1 (.slice a b c) gs[k].pl.2.length (gs[k].pl.2.map fun x => Value.int .i64 (x : Nat)) ∧ Below W.heap.size W w' := fun W hW => by
        have hkW : KeepS F W0 F W := fun b hb hl => ⟨hb, hW.block b hl⟩
        have hVW := hVx.to hkW hW.size
        have hSW := hSx.to hkW hW.size
        refine (numbers_p (ns := gs[k].pl.2) hVW.taken (by omega) hplen.symm (fun i h1 h2 => ?_)).mono ?_
        · obtain ⟨q1, q2, q3⟩ := sps_get hSW (hVW.lt gs[k].pl.2[i] (List.getElem_mem h2))
          have e1 : gs[k].ps[i] = sps.getD gs[k].pl.2[i] 0 := by simp [hV0.ps]
          rw [e1]
          exact ⟨q3, _, q1⟩
        · rintro e w' ⟨v, rfl, q1, q2⟩
          obtain ⟨a, b, c, rfl⟩ := row_form q1
          exact ⟨a, b, c, rfl, q1, q2⟩
      have hpush : ∀ W, Below W0.heap.size W0 W → Calls Tryz.prog 119 #[.iface 167 (.pointer (some ⟨X, 5, none⟩)), .iface 163 (.agg #[.slice sa (paths.getD gs[k].pl.1 []).length sc, .slice gs[k].ta gs[k].ps.length gs[k].tc])] W fun e w' => e = .returned (.tuple #[]) ∧ ∃ rv' rs', HeapY F w' X x0 x1 x2 x3 x4 rv' rs' (fun r => firstT evs r.pl.2) ∧ rs'.Perm (rs2 ++ [gs[k]]) ∧ Chg (fun b => b = X ∨ rv2.ownBlock = some b) W w' ∧ ∀ b, rv'.ownBlock = some b → rv2.ownBlock = some b ∨ W.heap.size ≤ b := fun W hW => by
        have hkW : KeepS F W0 F W := fun b hb hl => ⟨hb, hW.block b hl⟩
        have hVW := hVx.to hkW hW.size
        have hSW := hSx.to hkW hW.size
        have := heapPush_x (hKx.below hW).heap (by omega) gs[k] (hVW.first hSW hne) ⟨_, _, _, esv⟩
        unfold MRun.val at this
        rw [esv] at this
        exact this
      have hXW : ∀ W, Below W0.heap.size W0 W → X < W.heap.size := fun W hW => (hKx.below hW).heap.xb.lt
      have hKW : ∀ W, Below W0.heap.size W0 W → KeepAt F w X x0 x1 x2 x3 x4 rv rs (fun r => firstT evs r.pl.2) paths gs k W (.slice ma mn mc) xs rv2 rs2 := fun W hW => hKx.below hW
      have HKW : Hid _ := hKW
      have hbW0 : Below W0.heap.size W0 W0 := Below.refl _ _
      clear hK hKx hVx hSx hcx hrowW erow hV0 hKW hfs hplen hll hne
      cases hwr : wholeR paths gs[k] with
      | true =>
        rw [hwr] at hwcall
        have HT : ∀ (W w5 w7 : World) (o : Obj) (a5 : Option Addr) (b5 c5 : Nat) (v' : Value), Below W0.heap.size W0 W → Below W.heap.size W w5 → w5.ownsRow W.heap.size 3 1 (.slice a5 b5 c5) gs[k].pl.2.length (gs[k].pl.2.map fun x => Value.int .i64 (x : Nat)) → (w5.alloc o).grownBy w7 (Value.slice ma mn mc).ownBlock → w7.ownsRow w.heap.size 48 1 v' (xs.length + 1) (xs.map (·.1) ++ [.slice a5 b5 c5]) → KeepAt F w X x0 x1 x2 x3 x4 rv rs (fun r => firstT evs r.pl.2) paths gs (k + 1) w7 v' (xs ++ [(.slice a5 b5 c5, gs[k].pl.2)]) rv2 rs2 := fun W w5 w7 o a5 b5 c5 v' k1 k2 k3 k4 k5 =>
          (HKW.out W k1).tell HFl.out hlt hwr (x := (.slice a5 b5 c5, gs[k].pl.2)) k2 k3 rfl k4 k5
        have HTh : Hid _ := HT
        have hmrow : ∀ W, Below W0.heap.size W0 W → W.ownsRow w.heap.size 48 1 (.slice ma mn mc) xs.length (xs.map (·.1)) ∧ w.heap.size ≤ W.heap.size := fun W hW => ⟨(HKW.out W hW).lists.row, (HKW.out W hW).chg.size⟩
        clear HT hwr hwh hpush hXW
        generalize paths.getD gs[k].pl.1 [] = pth at *
        generalize gs[k].pl.2 = pl2 at *
        generalize gs[k].ta = ta at *
        generalize gs[k].ps.length = tb at *
        generalize gs[k].tc = tc at *
        have z0 := hNb.cell 0; have z1 := hNb.cell 1; have zl := hNb.lt
        simp at z0 z1
        go_wp2_with (first
          | (at_builtin; refine wpList_append_lies _ rfl _ _ 40 rfl w.heap.size 48 i0 _ 1 24 Tryz.underlying40 hi0 hz0 hz1 hz2 rfl (by decide) _ xs.length (xs.map (·.1)) (by rfl) (hm5.alloc _) ⟨w5.heap.size, 0, none⟩ 1 1 [.slice a5 b5 c5] (by rfl) rfl (World.news_of_block (alloc_at _ _ _ (by simp))) (by simp [Value.oneCell']) (by decide) (by unfold maxLen; omega) (by omega) (by simp; omega) (w5.heap.size + 1) (by simp) ?_; intro g7 cap7 w7 hown7 hgrow7 hat7 hlt7)
          | (go_at_call 118; refine (hnum _ hb1).mono ?_; rintro e w5 ⟨a5, b5, c5, rfl, hr5, hb5⟩; obtain ⟨hm5, hs5⟩ := hmrow w5 (hb1.trans (hb5.mono hb1.size)))
          | (go_at_call 117; refine (hwcall _).mono ?_; rintro e w1 ⟨rfl, hb1⟩; (try rw [hW0] at hb1); have hN1 := hNb.of_eq (hb1.block _ hNb.lt); have n0 := hN1.cell 0; have n1 := hN1.cell 1; have nl := hN1.lt; simp at n0 n1))
        go_roundw
        case rel => exact ⟨k + 1, _, _, _, _, rv2, rs2, hlt, by go_num, rfl, HTh.out w1 w5 w7 _ a5 b5 c5 _ hb1 hb5 hr5 hgrow7 hown7⟩
        case measure => simp [intOf]; omega
      | false =>
        rw [hwr] at hwcall
        have HT : ∀ (W w' : World) (rv' : Value) (rs' : List MRun), Below W0.heap.size W0 W → HeapY F w' X x0 x1 x2 x3 x4 rv' rs' (fun r => firstT evs r.pl.2) → rs'.Perm (rs2 ++ [gs[k]]) → Chg (fun b => b = X ∨ rv2.ownBlock = some b) W w' → (∀ b, rv'.ownBlock = some b → rv2.ownBlock = some b ∨ W.heap.size ≤ b) → KeepAt F w X x0 x1 x2 x3 x4 rv rs (fun r => firstT evs r.pl.2) paths gs (k + 1) w' (.slice ma mn mc) xs rv' rs' := fun W w' rv' rs' k1 k2 k3 k4 k5 =>
          (HKW.out W k1).push hlt hwr k2 k3 k4 k5
        have HTh : Hid _ := HT
        clear HT hwr hwh hnum
        generalize paths.getD gs[k].pl.1 [] = pth at *
        generalize gs[k].ta = ta at *
        generalize gs[k].ps.length = tb at *
        generalize gs[k].tc = tc at *
        have z0 := hNb.cell 0; have z1 := hNb.cell 1; have zl := hNb.lt
        simp at z0 z1
        go_upto_region 7 with (go_at_call 117; refine (hwcall _).mono ?_; rintro e w1 ⟨rfl, hb1⟩; (try rw [hW0] at hb1); have hN1 := hNb.of_eq (hb1.block _ hNb.lt); have n0 := hN1.cell 0; have n1 := hN1.cell 1; have nl := hN1.lt; simp at n0 n1)
        have hXl1 := hXW w1 hb1
        go_region_law (first
          | (go_simp; refine (hpush _ (by first | exact hb1 | exact ⟨hb1.os, hb1.tape, hb1.output, hb1.size, hb1.block⟩)).mono ?_; rintro e w8 ⟨rfl, rv8, rs8, k1, k2, k3, k4⟩; show _; dsimp only))
        all_goals
          have hend := HTh.out w1 w8 rv8 rs8 hb1 k1 k2 (by first | exact k3 | exact ⟨k3.os, k3.tape, k3.output, k3.size, k3.block⟩) k4
          clear k1 k2 k3 k4
          go_wp2
          go_roundw
          case rel => exact ⟨k + 1, ma, mn, mc, xs, rv8, rs8, hlt, by go_num, rfl, hend⟩
          case measure => simp [intOf]; omega
    · have ek : k = gs.length := by omega
      subst ek
      have hil : ∀ x ∈ xs, x.2.length ≤ 1000000 := fun x hx => by
        have h1 : x.2 ∈ xs.map (·.2) := List.mem_map.2 ⟨x, hx, rfl⟩
        rw [hK.told] at h1
        obtain ⟨r, hr, e⟩ := List.mem_map.1 h1
        have := HLong.out r (List.mem_of_mem_take (List.mem_filter.1 hr).1)
        rw [← e]; omega
      have hsort := sort_p hK.lists (by omega) hil
      have hcomp : ∀ W ys, ys.Perm xs → ListsAt w.heap.size W (.slice ma mn mc) ys → Calls Tryz.prog 122 #[.slice ma mn mc, .func (.func 123) #[] #[]] W fun e w' => ∃ a n c ys2, e = .returned (.slice a n c) ∧ ys2.map (·.2) = dedupL (ys.map (·.2)) ∧ ListsAt w.heap.size w' (.slice a n c) ys2 ∧ Chg (fun b => (Value.slice ma mn mc).ownBlock = some b) W w' ∧ (Value.slice a n c).ownBlock = (Value.slice ma mn mc).ownBlock := fun W ys hp hL => compact_p hL (by rw [hp.length_eq]; omega) (fun x hx => hil x (hp.mem_iff.1 hx))
      have hfin : ∀ (w1 w2 : World) (ys ys2 : List VL) (a : Option Addr) (n c : Nat), ys.Perm xs → ys.Pairwise (fun a b => ¬ ltL b.2 a.2) → Chg (fun b => (Value.slice ma mn mc).ownBlock = some b) wr w1 → ys2.map (·.2) = dedupL (ys.map (·.2)) → ListsAt w.heap.size w2 (.slice a n c) ys2 → Chg (fun b => (Value.slice ma mn mc).ownBlock = some b) w1 w2 → ∃ a' n' c' ys rv' rs', Ending.returned (.slice a n c) = .returned (.slice a' n' c') ∧ ListsAt w.heap.size w2 (.slice a' n' c') ys ∧ SortedL (ys.map (·.2)) ∧ (∀ t, t ∈ ys.map (·.2) ↔ t ∈ (gs.filter (wholeR paths)).map (·.pl.2)) ∧ HeapY F w2 X x0 x1 x2 x3 x4 rv' rs' (fun r => firstT evs r.pl.2) ∧ rs'.Perm (rs ++ gs.filter fun r => !wholeR paths r) ∧ Chg (fun b => b = X ∨ rv.ownBlock = some b) w w2 ∧ ∀ b, rv'.ownBlock = some b → rv.ownBlock = some b ∨ w.heap.size ≤ b := by
        intro w1 w2 ys ys2 a n c q1 q2 q3 q4 q5 q6
        obtain ⟨k1, k2⟩ := hK.turn HFl.out (q3.trans q6 (fun b _ e => e))
        have htold := hK.told
        have hperm := hK.perm
        rw [List.take_length] at htold hperm
        refine ⟨a, n, c, ys2, rv2, rs2, rfl, q5, ?_, fun t => ?_, k1, hperm, k2, hK.at2⟩
        · rw [q4]
          refine dedupL_sorted _ ?_
          rw [List.pairwise_map]
          exact q2
        · rw [q4, dedupL_mem, ← htold]
          exact (q1.map (·.2)).mem_iff
      have HFin : Hid _ := hfin
      clear hfin hK hil HF HS HG HLong HPl HRow HAv
      go_wp2_with (first
        | (go_at_call 122; refine (hcomp _ _ hp1 hL1).mono ?_; rintro e w2 ⟨a2, n2, c2, ys2, rfl, q1, q2, q3, q4⟩)
        | (go_at_call 120; refine hsort.mono ?_; rintro e w1 ⟨rfl, ys1, hp1, hpw1, hL1, hc1⟩))
      go_ret
      exact HFin.out w1 w2 ys1 ys2 a2 n2 c2 hp1 hpw1 hc1 q1 q2 q3
end Go.Proofs.YtddbjcfdmdbmkaaGreatDoor

namespace Go.Proofs.YtddbjcfdmdbmkaaGreatDoor
open Go.RowKit

structure WC where
  win : Nat
  rate : Nat
  pv : Value
  paths : List (List WStep)
  svs : List Value
structure WellC (c : WC) : Prop where
  win1 : 1 ≤ c.win
  win2 : c.win ≤ 1000000
  rate : c.rate ≤ 1000
  well : WellP c.paths
  len : ∀ p ∈ c.paths, 0 < p.length ∧ p.length ≤ 1000
  few : c.paths.length ≤ 1000
structure WatchM (F : Nat → Prop) (w : World) (X : Nat) (c : WC) (evs : List Ev) (lo : Nat) (sps : List Nat) (tv rv : Value) (rs : List MRun) : Prop where
  heap : HeapY F w X (.int .i64 c.win) (.int .i64 c.rate) c.pv (.int .i64 evs.length) tv rv rs (fun r => firstT evs r.pl.2)
  times : w.ownsRow 0 3 1 tv (timesP evs lo).length ((timesP evs lo).map (Value.int .i64))
  nT : ∀ g, tv.ownBlock = some g → ¬ F g
  paths : PathsV F w c.pv c.paths c.svs
  seen : SeenL F w evs sps
  runs : ∀ r ∈ rs, RunV F w c.paths c.svs evs sps r ∧ r.pl.2 ≠ [] ∧ r.pl.2.length < (c.paths.getD r.pl.1 []).length
structure WatchP (c : WC) (evs : List Ev) (lo : Nat) (rl : List (Nat × List Nat)) : Prop where
  kept : Kept1 (absP c.paths) c.win evs (lastT evs) rl
  win : Win c.win evs (lastT evs) lo
  mono : Mono evs
  in64 : ∀ e ∈ evs, In64 e.time
  rate : evs.length - lo ≤ c.rate
theorem tm_congr {F : Nat → Prop} {w : World} {X : Nat} {x0 x1 x2 x3 x4 rv : Value} {rs : List MRun} {tm tm' : MRun → Int} (h : HeapX F w X x0 x1 x2 x3 x4 rv rs tm) (he : ∀ r ∈ rs, tm' r = tm r) : HeapX F w X x0 x1 x2 x3 x4 rv rs tm' :=
  ⟨h.xb, h.row, h.fl, h.nX, h.nR, fun r hr => by obtain ⟨t, p, e1, e2, e3, e4, e5⟩ := h.first r hr; exact ⟨t, p, e1, e2, e3, by rw [he r hr]; exact e4, e5⟩, h.sv⟩
theorem HeapX.grow {F F' : Nat → Prop} {w : World} {X : Nat} {x0 x1 x2 x3 x4 rv : Value} {rs : List MRun} {tm : MRun → Int} (h : HeapX F w X x0 x1 x2 x3 x4 rv rs tm) (hu : ∀ b, F b → F' b) (hl : ∀ b, F' b → b < w.heap.size) (hX : ¬ F' X) (hR : ∀ g, rv.ownBlock = some g → ¬ F' g) : HeapX F' w X x0 x1 x2 x3 x4 rv rs tm :=
  ⟨h.xb, h.row, hl, hX, hR, fun r hr => by obtain ⟨t, p, e1, e2, e3, e4, e5, e6, e7, e8⟩ := h.first r hr; exact ⟨t, p, e1, e2, e3, e4, e5, e6, hu t e7, hu p e8⟩, h.sv⟩
theorem RunV.sliced {F : Nat → Prop} {w : World} {paths : List (List WStep)} {svs : List Value} {evs : List Ev} {sps : List Nat} {r : MRun} (h : RunV F w paths svs evs sps r) : ∃ a b c, r.sv = .slice a b c := h.steps.form
theorem path_len {c : WC} (hc : WellC c) {i : Nat} (hi : i < c.paths.length) : 0 < (c.paths.getD i []).length ∧ (c.paths.getD i []).length ≤ 1000 := by
  have e : c.paths.getD i [] = c.paths[i] := by simp [List.getD, hi]
  rw [e]; exact hc.len _ (List.getElem_mem hi)
structure MidW (F : Nat → Prop) (w : World) (X : Nat) (c : WC) (evs : List Ev) (e : Ev) (lo : Nat) (sps : List Nat) (ip N : Nat) (tv rv : Value) (rs : List MRun) : Prop where
  heap : HeapX F w X (.int .i64 c.win) (.int .i64 c.rate) c.pv (.int .i64 (evs.length + 1)) tv rv rs (fun r => firstT evs r.pl.2)
  times : w.ownsRow 0 3 1 tv (timesP (evs ++ [e]) lo).length ((timesP (evs ++ [e]) lo).map (Value.int .i64))
  nT : ∀ g, tv.ownBlock = some g → ¬ F g
  paths : PathsV F w c.pv c.paths c.svs
  seen : SeenL F w evs sps
  runs : ∀ r ∈ rs, RunV F w c.paths c.svs evs sps r ∧ r.pl.2 ≠ [] ∧ r.pl.2.length < (c.paths.getD r.pl.1 []).length
  ev : SeenAt w ip e evs.length
  fip : F ip
  now : Blk w N #[.pointer (some ⟨ip, 0, none⟩)] 156
structure MidX (F : Nat → Prop) (w : World) (X : Nat) (c : WC) (evs : List Ev) (e : Ev) (lo : Nat) (sps : List Nat) (ip : Nat) (tv rv : Value) (rs : List MRun) (av : Value) (gs : List MRun) : Prop where
  heap : HeapX F w X (.int .i64 c.win) (.int .i64 c.rate) c.pv (.int .i64 (evs.length + 1)) tv rv rs (fun r => firstT (evs ++ [e]) r.pl.2)
  times : w.ownsRow 0 3 1 tv (timesP (evs ++ [e]) lo).length ((timesP (evs ++ [e]) lo).map (Value.int .i64))
  nT : ∀ g, tv.ownBlock = some g → ¬ F g
  paths : PathsV F w c.pv c.paths c.svs
  seen : SeenL F w (evs ++ [e]) (sps ++ [ip])
  runs : ∀ r ∈ rs, RunV F w c.paths c.svs (evs ++ [e]) (sps ++ [ip]) r ∧ r.pl.2 ≠ [] ∧ r.pl.2.length < (c.paths.getD r.pl.1 []).length
  row : w.ownsRow 0 163 2 av gs.length (flat MRun.cells gs)
  grown : ∀ r ∈ gs, RunV F w c.paths c.svs (evs ++ [e]) (sps ++ [ip]) r ∧ r.pl.2 ≠ [] ∧ r.pl.2.length ≤ (c.paths.getD r.pl.1 []).length
  apart : ∀ g, av.ownBlock = some g → rv.ownBlock ≠ some g
set_option maxRecDepth 100000 in
set_option maxHeartbeats 800000 in
theorem deleteNil_p {f : Nat} {lb : Array Value} (w : World) : Calls Tryz.prog 74 #[.slice none 0 0, .func (.func f) #[] lb] w fun e w' => e = .returned (.slice none 0 0) ∧ w' = w := by
  have hI : ∀ W, Calls Tryz.prog 111 #[.slice none 0 0, .func (.func f) #[] lb] W fun e w' => e = .returned (.int .i64 (-1)) ∧ w' = W := fun W => by
    go_enter Tryz.func111, Tryz.ntmps111
    go_wp2
    go_loopw [8] (fun i wr => i = .int .i64 0 ∧ wr = W) (fun _ _ => 0)
    case atStart => exact ⟨rfl, rfl⟩
    case round =>
      obtain ⟨rfl, rfl⟩ := hrel
      go_wp2
      go_ret
      exact ⟨rfl, rfl⟩
  go_enter Tryz.func74, Tryz.ntmps74
  go_wp2_with (go_at_call 111; refine (hI _).mono ?_; rintro e w1 ⟨rfl, he1⟩; rw [he1])
  go_ret
  exact ⟨rfl, rfl⟩
theorem MidW.grown {F : Nat → Prop} {w : World} {X : Nat} {c : WC} {evs : List Ev} {e : Ev} {lo : Nat} {sps : List Nat} {ip N : Nat} {tv rv : Value} {rs : List MRun} (h : MidW F w X c evs e lo sps ip N tv rv rs) (hc : WellC c) (hrn : rs.length ≤ 300000) :
    Calls Tryz.prog 73 #[.pointer (some ⟨X, 0, none⟩), .pointer (some ⟨ip, 0, none⟩)] w fun x w' => ∃ F' a b c' gs, x = .returned (.slice a b c') ∧ GrownAt F w c.paths c.svs evs sps e ip w.heap.size (w.heap.size + 1) (seedsP (absP c.paths) ++ rs.map MRun.pl) w' F' (.slice a b c') gs :=
  grown_p h.heap.xb h.paths h.heap.row (fun r hr => ⟨(h.runs r hr).1, (h.runs r hr).2.2, (h.runs r hr).1.sliced⟩) h.seen hc.well (fun p hp => ⟨(hc.len p hp).1, by have := (hc.len p hp).2; omega⟩) hc.few (by omega) h.heap.fl h.ev
theorem MidW.del {F : Nat → Prop} {w : World} {X : Nat} {c : WC} {evs : List Ev} {e : Ev} {lo : Nat} {sps : List Nat} {ip N : Nat} {tv rv : Value} {rs : List MRun} (h : MidW F w X c evs e lo sps ip N tv rv rs) (hc : WellC c) (hrn : rs.length ≤ 300000) {w5 : World} (hb : Below w.heap.size w w5) :
    Calls Tryz.prog 74 #[rv, .func (.func 75) #[] #[.pointer (some ⟨N, 0, none⟩)]] w5 fun x w' => ∃ a b c', x = .returned (.slice a b c') ∧ w'.ownsRow 0 163 2 (.slice a b c') (rs.filter fun r => !stopsB (absP c.paths) evs e r.pl).length (flat MRun.cells (rs.filter fun r => !stopsB (absP c.paths) evs e r.pl)) ∧ Chg (fun b => rv.ownBlock = some b) w5 w' ∧ (Value.slice a b c').ownBlock = rv.ownBlock := by
  rcases h.heap.open with ⟨rfl, rfl⟩ | ⟨g, cap, rfl, _⟩
  · refine (deleteNil_p w5).mono ?_
    rintro x w' ⟨rfl, rfl⟩
    exact ⟨none, 0, 0, rfl, World.ownsRow_nil _ _ _ _, Chg.refl _ _, rfl⟩
  · have hk : KeepS F w F w5 := fun b hF hl => ⟨hF, hb.block b hl⟩
    have hrow5 := row_of_blk h.heap.row (w' := w5) (fun z hz => hb.block z (h.heap.row.lt z hz).2)
    have hT := test_stops (M := fun b => b = g) (rs := rs) (fun r hr => ⟨((h.runs r hr).1).to hk hb.size, (h.runs r hr).2.2, by have := (path_len hc (h.runs r hr).1.path).2; omega, (h.runs r hr).1.sliced⟩) (h.seen.to hk hb.size) hc.well (Blk.of_eq h.ev (hb.block _ h.ev.lt)) (h.now.of_eq (hb.block _ h.now.lt)) (fun b e hF => h.heap.nR g rfl (e ▸ hF)) (fun e => h.heap.nR g rfl (e ▸ h.fip)) (fun e => blk_apart h.now h.heap.row (by decide) (by rw [e]; rfl))
    refine (deleteR_p hrow5 (by omega) (fun r hr => (h.runs r hr).1.sliced) hT).mono ?_
    rintro x w' ⟨rfl, q1, q2⟩
    exact ⟨_, _, _, rfl, q1, q2.mono (fun b _ e => by rw [e]; rfl), rfl⟩
theorem MidW.next {F : Nat → Prop} {w : World} {X : Nat} {c : WC} {evs : List Ev} {e : Ev} {lo : Nat} {sps : List Nat} {ip N : Nat} {tv rv : Value} {rs : List MRun} (h : MidW F w X c evs e lo sps ip N tv rv rs) {w5 w6 : World} {F' : Nat → Prop} {av : Value} {gs : List MRun} (hG : GrownAt F w c.paths c.svs evs sps e ip w.heap.size (w.heap.size + 1) (seedsP (absP c.paths) ++ rs.map MRun.pl) w5 F' av gs) {a : Option Addr} {b c' : Nat} (hrow : w6.ownsRow 0 163 2 (.slice a b c') (rs.filter fun r => !stopsB (absP c.paths) evs e r.pl).length (flat MRun.cells (rs.filter fun r => !stopsB (absP c.paths) evs e r.pl))) (hch : Chg (fun b => rv.ownBlock = some b) w5 w6) (hab : (Value.slice a b c').ownBlock = rv.ownBlock) :
    MidX F' (w6.setCell ⟨X, 5, none⟩ (.slice a b c')) X c evs e lo sps ip tv (.slice a b c') (rs.filter fun r => !stopsB (absP c.paths) evs e r.pl) av gs ∧ Chg (fun b => b = X ∨ rv.ownBlock = some b) w (w6.setCell ⟨X, 5, none⟩ (.slice a b c')) := by
  have hX5 := h.heap.xb.of_eq (hG.bel.block X h.heap.xb.lt)
  have hXr : ¬ rv.ownBlock = some X := blk_apart h.heap.xb h.heap.row (by decide)
  have hX6 := hX5.of_eq (hch.at X hX5.lt hXr)
  have hX7 : Blk (w6.setCell ⟨X, 5, none⟩ (.slice a b c')) X #[.int .i64 c.win, .int .i64 c.rate, c.pv, .int .i64 (evs.length + 1), tv, .slice a b c'] 110 := by simpa using hX6.set 5 (.slice a b c')
  have hc57 : Chg (fun b => b = X ∨ rv.ownBlock = some b) w5 (w6.setCell ⟨X, 5, none⟩ (.slice a b c')) := (hch.mono (M' := fun b => b = X ∨ rv.ownBlock = some b) (fun b _ e => .inr e)).setCell (p := ⟨X, 5, none⟩) (.inl (.inl rfl)) _
  have hcw : Chg (fun b => b = X ∨ rv.ownBlock = some b) w (w6.setCell ⟨X, 5, none⟩ (.slice a b c')) := (Chg.below (fun b => b = X ∨ rv.ownBlock = some b) hG.bel).trans hc57 (fun b _ e => e)
  have hFX : ¬ F' X := fun hF => by rcases hG.new X hF with k | k; exact h.heap.nX k; have := h.heap.xb.lt; omega
  have hFR : ∀ g, rv.ownBlock = some g → ¬ F' g := fun g hg hF => by rcases hG.new g hF with k | k; exact h.heap.nR g hg k; have := (h.heap.row.lt g hg).2; omega
  have hM : ∀ z, (z = X ∨ rv.ownBlock = some z) → ¬ F' z := fun z hz => by rcases hz with rfl | hz; exact hFX; exact hFR z hz
  have hk5 : KeepS F w F' w5 := hG.keepS
  have hk7 : KeepS F' w5 F' (w6.setCell ⟨X, 5, none⟩ (.slice a b c')) := fun z hF hl => ⟨hF, hc57.at z hl (fun hm => hM z hm hF)⟩
  have hk : KeepS F w F' (w6.setCell ⟨X, 5, none⟩ (.slice a b c')) := hk5.trans hk7 hG.bel.size
  have hls := h.seen.len
  refine ⟨⟨⟨hX7, ?_, fun z hF => Nat.lt_of_lt_of_le (hG.lt z hF) hc57.size, hFX, fun z hz => hFR z (by rw [← hab]; exact hz), fun r hr => ?_, fun r hr => h.heap.sv r (List.mem_filter.1 hr).1⟩, ?_, fun g hg hF => ?_, h.paths.to hk, (h.seen.to hk hcw.size).snoc (Blk.of_eq h.ev (hk ip h.fip h.ev.lt).2) (hG.up ip h.fip), fun r hr => ?_, ?_, fun r hr => ?_, fun g hg => ?_⟩, hcw⟩
  · exact row_of_blk hrow fun z hz => Below.heap_setCell _ _ _ _ (fun e => by simp at e; subst e; exact hXr (by rw [← hab]; exact hz))
  · obtain ⟨hV, h0, _⟩ := h.runs r (List.mem_filter.1 hr).1
    have hf := (hV.to hk hcw.size).first (h.seen.to hk hcw.size) h0
    obtain ⟨t, p, e1, e2, e3, e4, e5⟩ := hf
    refine ⟨t, p, e1, e2, e3, ?_, e5⟩
    rw [firstT_app h0 hV.lt]; exact e4
  · refine row_of_blk h.times fun z hz => hcw.at z (h.times.lt z hz).2 (fun hm => ?_)
    rcases hm with rfl | hm
    · exact blk_apart h.heap.xb h.times (by decide) hz
    · exact rows_apart h.times h.heap.row (by decide) z hz hm
  · rcases hG.new g hF with k | k
    · exact h.nT g hg k
    · have := (h.times.lt g hg).2; omega
  · obtain ⟨hV, h0, h1⟩ := h.runs r (List.mem_filter.1 hr).1
    exact ⟨(hV.to hk hcw.size).snoc hls e ip, h0, h1⟩
  · refine row_base0 (row_of_blk hG.row fun z hz => hc57.at z (hG.row.lt z hz).2 (fun hm => ?_))
    rcases hm with rfl | hm
    · have := (hG.row.lt z hz).1; have := h.heap.xb.lt; omega
    · have := (hG.row.lt z hz).1; have := (h.heap.row.lt z hm).2; omega
  · have hV := (hG.runs r hr).to hk7 hc57.size
    have hpl : r.pl ∈ gs.map MRun.pl := List.mem_map.2 ⟨r, hr, rfl⟩
    rw [hG.pl] at hpl
    obtain ⟨q, hq, eq⟩ := List.mem_map.1 hpl
    obtain ⟨hq1, hq2⟩ := List.mem_filter.1 hq
    obtain ⟨st, hst, _⟩ := takes_iff.1 hq2
    have hlt := (List.getElem?_eq_some_iff.1 hst).1
    rw [absP_at, List.length_map] at hlt
    refine ⟨hV, ?_, ?_⟩
    · rw [← eq]; simp [withP]
    · rw [← eq]; simp only [withP, List.length_append, List.length_cons, List.length_nil]; omega
  · intro hm
    rw [hab] at hm
    have := (hG.row.lt g hg).1; have := (h.heap.row.lt g hm).2; omega
end Go.Proofs.YtddbjcfdmdbmkaaGreatDoor

namespace Go.Proofs.YtddbjcfdmdbmkaaGreatDoor
open Go.RowKit

theorem WatchM.to {F : Nat → Prop} {w : World} {X : Nat} {c : WC} {evs : List Ev} {lo : Nat} {sps : List Nat} {tv rv : Value} {rs : List MRun} (h : WatchM F w X c evs lo sps tv rv rs) {w' : World} {M : Nat → Prop} (hc : Chg M w w') (hF : ∀ b, M b → ¬ F b) (hX : ¬ M X) (hT : ∀ g, tv.ownBlock = some g → ¬ M g) (hR : ∀ g, rv.ownBlock = some g → ¬ M g) : WatchM F w' X c evs lo sps tv rv rs := by
  have hk : KeepS F w F w' := fun b hb hl => ⟨hb, hc.at b hl (fun hm => hF b hm hb)⟩
  exact ⟨⟨h.heap.toHeapX.field (h.heap.xb.of_eq (hc.at X h.heap.xb.lt hX)) hc hF hR, h.heap.heap⟩, row_of_blk h.times (fun g hg => hc.at g (h.times.lt g hg).2 (hT g hg)), h.nT, h.paths.to hk, h.seen.to hk hc.size, fun r hr => ⟨(h.runs r hr).1.to hk hc.size, (h.runs r hr).2⟩⟩
theorem WatchM.below {F : Nat → Prop} {w : World} {X : Nat} {c : WC} {evs : List Ev} {lo : Nat} {sps : List Nat} {tv rv : Value} {rs : List MRun} (h : WatchM F w X c evs lo sps tv rv rs) {w' : World} (hb : Below w.heap.size w w') : WatchM F w' X c evs lo sps tv rv rs :=
  h.to (M := fun _ => False) (Chg.below _ hb) (fun _ h => h.elim) (fun h => h) (fun _ _ h => h) (fun _ _ h => h)
theorem near_filter {evs : List Ev} {now : Int} {win : Nat} {rs : List MRun} : (rs.filter fun r => decide (now - firstT evs r.pl.2 < win)).map MRun.pl = (rs.map MRun.pl).filter (nearB win evs now) := by
  rw [List.filter_map]; rfl
theorem WatchM.forget {F : Nat → Prop} {w : World} {X : Nat} {c : WC} {evs : List Ev} {lo : Nat} {sps : List Nat} {tv rv : Value} {rs : List MRun} (h : WatchM F w X c evs lo sps tv rv rs) (hc : WellC c) {rl : List (Nat × List Nat)} (hP : WatchP c evs lo rl) (hrl : rs.length ≤ 1000000) {now : Int} (hn : In64 now) (hl : evs = [] ∨ lastT evs ≤ now) :
    Calls Tryz.prog 72 #[.pointer (some ⟨X, 0, none⟩), .int .i64 now] w fun x w' => x = .returned (.tuple #[]) ∧ ∃ a n cc rv1 rs1, WatchM F w' X c evs (lo + passedP c.win now (timesP evs lo)) sps (.slice a n cc) rv1 rs1 ∧ (rs1.map MRun.pl).Perm ((rs.map MRun.pl).filter (nearB c.win evs now)) ∧ rs1.length ≤ rs.length ∧ Chg (fun b => b = X ∨ tv.ownBlock = some b ∨ rv.ownBlock = some b) w w' ∧ (Value.slice a n cc).ownBlock = tv.ownBlock ∧ rv1.ownBlock = rv.ownBlock := by
  have h1 := hc.win1; have h2 := hc.win2; have h3 := hc.rate
  have hle : ∀ i, i < evs.length → (evAt evs i).time ≤ now ∧ In64 (evAt evs i).time := fun i hi => by
    have hm := hP.mono i (evs.length - 1) (by omega) (by omega)
    refine ⟨?_, by rw [evAt_get hi]; exact hP.in64 _ (List.getElem_mem hi)⟩
    rcases hl with rfl | hl
    · simp at hi
    · unfold lastT at hl; omega
  have htl : (timesP evs lo).length ≤ 1000000 := by rw [timesP_len]; have := hP.rate; omega
  refine (forget_p (now := now) h.heap h.times h.nT htl hrl (fun t ht => ?_) (fun r hr => ?_) hn (by omega)).mono ?_
  · obtain ⟨i, hi, rfl⟩ := List.getElem_of_mem ht
    have hi' := hi
    rw [timesP_len] at hi'
    rw [timesP_get]
    exact hle _ (by omega)
  · obtain ⟨hV, h0, _⟩ := h.runs r hr
    obtain ⟨i, t, e⟩ := List.exists_cons_of_ne_nil h0
    have := hle i (hV.lt i (by rw [e]; simp))
    unfold firstT
    rw [e]
    exact this
  · rintro x w' ⟨rfl, a, n, cc, rv1, rs1, q1, q2, q3, q4, q5, q6⟩
    refine ⟨rfl, a, n, cc, rv1, rs1, ?_, ?_, ?_, q4, q5, q6⟩
    · have hM : ∀ b, (b = X ∨ tv.ownBlock = some b ∨ rv.ownBlock = some b) → ¬ F b := fun b hb => by
        rcases hb with rfl | hb | hb
        · exact h.heap.nX
        · exact h.nT b hb
        · exact h.heap.nR b hb
      have hk : KeepS F w F w' := fun b hb hl => ⟨hb, q4.at b hl (fun hm => hM b hm hb)⟩
      refine ⟨q1, ?_, fun g hg => h.nT g (by rw [← q5]; exact hg), h.paths.to hk, h.seen.to hk q4.size, fun r hr => ?_⟩
      · rw [timesP_drop] at q2; exact q2
      · have := (List.mem_filter.1 (q3.mem_iff.1 hr)).1
        exact ⟨(h.runs r this).1.to hk q4.size, (h.runs r this).2⟩
    · have := q3.map MRun.pl
      rw [near_filter] at this
      exact this
    · rw [q3.length_eq]; exact List.length_filter_le _ _
theorem WatchM.mid {F : Nat → Prop} {w : World} {X : Nat} {c : WC} {evs : List Ev} {lo : Nat} {sps : List Nat} {tv rv : Value} {rs : List MRun} (h : WatchM F w X c evs lo sps tv rv rs) (hlo : lo ≤ evs.length) {e : Ev} {wx w7 : World} {ip N : Nat} {o : Obj} {g7 cap7 : Nat} (hb : Below w.heap.size w wx) (hip : SeenAt wx ip e evs.length) (hipn : w.heap.size ≤ ip) (hN : Blk wx N #[.pointer (some ⟨ip, 0, none⟩)] 156) (hNn : w.heap.size ≤ N)
    (hrow : w7.ownsRow 0 3 1 (.slice (some ⟨g7, 0, none⟩) ((timesP evs lo).length + 1) cap7) ((timesP evs lo).length + 1) ((timesP evs lo).map (Value.int .i64) ++ [.int .i64 e.time])) (hg : ((wx.setCell ⟨X, 3, none⟩ (.int .i64 (evs.length + 1))).alloc o).grownBy w7 tv.ownBlock) (hat : tv.ownBlock = some g7 ∨ wx.heap.size ≤ g7) :
    MidW (fun b => F b ∨ b = ip) (w7.setCell ⟨X, 4, none⟩ (.slice (some ⟨g7, 0, none⟩) ((timesP evs lo).length + 1) cap7)) X c evs e lo sps ip N (.slice (some ⟨g7, 0, none⟩) ((timesP evs lo).length + 1) cap7) rv rs ∧ Chg (fun b => b = X ∨ tv.ownBlock = some b) w (w7.setCell ⟨X, 4, none⟩ (.slice (some ⟨g7, 0, none⟩) ((timesP evs lo).length + 1) cap7)) := by
  have hws := hb.size
  have hXl := h.heap.xb.lt
  have hTX : ¬ tv.ownBlock = some X := blk_apart h.heap.xb h.times (by decide)
  have hc0 : Chg (fun b => b = X ∨ tv.ownBlock = some b) wx (w7.setCell ⟨X, 4, none⟩ (.slice (some ⟨g7, 0, none⟩) ((timesP evs lo).length + 1) cap7)) :=
    ((((Chg.refl (fun b => b = X ∨ tv.ownBlock = some b) wx).setCell (p := ⟨X, 3, none⟩) (.inl (.inl rfl)) _).alloc o).trans (Chg.grown hg) (fun b _ e => .inr e)).setCell (p := ⟨X, 4, none⟩) (.inl (.inl rfl)) _
  have hc : Chg (fun b => b = X ∨ tv.ownBlock = some b) w (w7.setCell ⟨X, 4, none⟩ (.slice (some ⟨g7, 0, none⟩) ((timesP evs lo).length + 1) cap7)) := (Chg.below (fun b => b = X ∨ tv.ownBlock = some b) hb).trans hc0 (fun b _ e => e)
  have hX1 := h.heap.xb.of_eq (hb.block X hXl)
  have hX2 := (hX1.set 3 (.int .i64 (evs.length + 1))).alloc o
  have hX3 := hX2.of_eq (hg.block X (by simp [World.setCell]; omega) (fun e => hTX e.symm))
  have hX4 := hX3.set 4 (.slice (some ⟨g7, 0, none⟩) ((timesP evs lo).length + 1) cap7)
  simp at hX4
  have hM : ∀ b, (b = X ∨ tv.ownBlock = some b) → ¬ F b := fun b hb => by
    rcases hb with rfl | hb
    · exact h.heap.nX
    · exact h.nT b hb
  have hk : KeepS F w (fun b => F b ∨ b = ip) (w7.setCell ⟨X, 4, none⟩ (.slice (some ⟨g7, 0, none⟩) ((timesP evs lo).length + 1) cap7)) := fun b hF hl => ⟨.inl hF, hc.at b hl (fun hm => hM b hm hF)⟩
  have htl : ∀ b, tv.ownBlock = some b → b < w.heap.size := fun b hb => (h.times.lt b hb).2
  have hipl := hip.lt
  have hnew : ∀ b, w.heap.size ≤ b → b < wx.heap.size → (w7.setCell ⟨X, 4, none⟩ (.slice (some ⟨g7, 0, none⟩) ((timesP evs lo).length + 1) cap7)).heap[b]? = wx.heap[b]? := fun b h1 h2 => hc0.at b h2 (fun hm => by rcases hm with rfl | hm; omega; have := htl b hm; omega)
  have hF2 : ∀ b, (F b ∨ b = ip) → b < (w7.setCell ⟨X, 4, none⟩ (.slice (some ⟨g7, 0, none⟩) ((timesP evs lo).length + 1) cap7)).heap.size := fun b hb => by
    rcases hb with hb | rfl
    · exact Nat.lt_of_lt_of_le (h.heap.fl b hb) hc.size
    · exact Nat.lt_of_lt_of_le hipl hc0.size
  have hRm : ∀ g, rv.ownBlock = some g → ¬ (g = X ∨ tv.ownBlock = some g) := fun g hgr hm => by
    rcases hm with hm | hm
    · exact h.heap.toHeapX.ne g hgr hm
    · exact rows_apart h.times h.heap.row (by decide) g hm hgr
  have hx := h.heap.toHeapX.field hX4 hc hM hRm
  refine ⟨⟨hx.grow (fun b hb => .inl hb) hF2 (fun hm => ?_) (fun g hg hm => ?_), ?_, fun g hg hm => ?_, h.paths.to hk, h.seen.to hk hc.size, fun r hr => ⟨(h.runs r hr).1.to hk hc.size, (h.runs r hr).2⟩, Blk.of_eq hip (hnew ip hipn hipl), .inr rfl, hN.of_eq (hnew N hNn hN.lt)⟩, hc⟩
  · rcases hm with hm | hm
    · exact h.heap.nX hm
    · omega
  · rcases hm with hm | hm
    · exact h.heap.nR g hg hm
    · have := (h.heap.row.lt g hg).2; omega
  · rw [timesP_snoc evs e lo hlo, List.length_append, List.map_append]
    exact row_of_blk hrow fun z hz => Below.heap_setCell _ _ _ _ (fun e => by simp at e; subst e; exact blk_apart hX3 hrow (by decide) hz)
  · have e1 : g7 = g := by simpa [Value.ownBlock] using hg
    subst e1
    rcases hat with k | k
    · rcases hm with hm | hm
      · exact h.nT _ k hm
      · have := htl _ k; omega
    · rcases hm with hm | hm
      · have := h.heap.fl _ hm; omega
      · omega
theorem MidX.init {F : Nat → Prop} {w : World} {X : Nat} {c : WC} {evs : List Ev} {e : Ev} {lo : Nat} {sps : List Nat} {ip : Nat} {tv rv : Value} {rs : List MRun} {av : Value} {gs : List MRun} (h : MidX F w X c evs e lo sps ip tv rv rs av gs) (hrl : rs.length ≤ 1000000) :
    Calls Tryz.prog 77 #[.iface 167 (.pointer (some ⟨X, 5, none⟩))] w fun x w' => x = .returned (.tuple #[]) ∧ ∃ rs', rs'.Perm rs ∧ MidX F w' X c evs e lo sps ip tv rv rs' av gs ∧ HeapFrom (fun r => firstT (evs ++ [e]) r.pl.2) rs' rs'.length 0 ∧ Chg (fun b => rv.ownBlock = some b) w w' := by
  refine (heapInit_x h.heap hrl).mono ?_
  rintro x w' ⟨rfl, rs', q1, q2, q3⟩
  have hk : KeepS F w F w' := fun b hb hl => ⟨hb, q3.at b hl (fun hm => h.heap.nR b hm hb)⟩
  refine ⟨rfl, rs', q2, ⟨q1.toHeapX, ?_, h.nT, h.paths.to hk, h.seen.to hk q3.size, fun r hr => ?_, ?_, fun r hr => ⟨(h.grown r hr).1.to hk q3.size, (h.grown r hr).2⟩, h.apart⟩, q1.heap, q3⟩
  · exact row_of_blk h.times fun g hg => q3.at g (h.times.lt g hg).2 (fun hm => rows_apart h.times h.heap.row (by decide) g hg hm)
  · have := q2.mem_iff.1 hr
    exact ⟨(h.runs r this).1.to hk q3.size, (h.runs r this).2⟩
  · exact row_of_blk h.row fun g hg => q3.at g (h.row.lt g hg).2 (h.apart g hg)
theorem MidX.keep {F : Nat → Prop} {w : World} {X : Nat} {c : WC} {evs : List Ev} {e : Ev} {lo : Nat} {sps : List Nat} {ip : Nat} {tv rv : Value} {rs : List MRun} {av : Value} {gs : List MRun} (h : MidX F w X c evs e lo sps ip tv rv rs av gs) (hc : WellC c) (hh : HeapFrom (fun r => firstT (evs ++ [e]) r.pl.2) rs rs.length 0) (hrl : rs.length ≤ 400000) (hgl : gs.length ≤ 400000) :
    Calls Tryz.prog 78 #[.pointer (some ⟨X, 0, none⟩), av] w fun x w' => ∃ a n cc ys rv' rs', x = .returned (.slice a n cc) ∧ ListsAt w.heap.size w' (.slice a n cc) ys ∧ SortedL (ys.map (·.2)) ∧ (∀ t, t ∈ ys.map (·.2) ↔ t ∈ (gs.filter (wholeR c.paths)).map (·.pl.2)) ∧ WatchM F w' X c (evs ++ [e]) lo (sps ++ [ip]) tv rv' rs' ∧ rs'.Perm (rs ++ gs.filter fun r => !wholeR c.paths r) ∧ Chg (fun b => b = X ∨ rv.ownBlock = some b) w w' ∧ ∀ b, rv'.ownBlock = some b → rv.ownBlock = some b ∨ w.heap.size ≤ b := by
  have hlong : ∀ r ∈ gs, r.pl.2.length ≤ 10000 := fun r hr => by
    have := (h.grown r hr).2.2
    have := (path_len hc (h.grown r hr).1.path).2
    omega
  refine (keep_p ⟨h.heap, hh⟩ h.seen (fun r hr => ⟨(h.grown r hr).1, (h.grown r hr).2.1⟩) (fun p hp => by have := (hc.len p hp).2; omega) hlong h.row h.apart hgl hrl).mono ?_
  rintro x w' ⟨a, n, cc, ys, rv', rs', q1, q2, q3, q4, q5, q6, q7, q8⟩
  refine ⟨a, n, cc, ys, rv', rs', q1, q2, q3, q4, ?_, q6, q7, q8⟩
  have hM : ∀ b, (b = X ∨ rv.ownBlock = some b) → ¬ F b := fun b hb => by
    rcases hb with rfl | hb
    · exact h.heap.nX
    · exact h.heap.nR b hb
  have hk : KeepS F w F w' := fun b hb hl => ⟨hb, q7.at b hl (fun hm => hM b hm hb)⟩
  have hlen : ((evs ++ [e]).length : Int) = (evs.length : Int) + 1 := by simp
  refine ⟨by rw [hlen]; exact q5, ?_, h.nT, h.paths.to hk, h.seen.to hk q7.size, fun r hr => ?_⟩
  · refine row_of_blk h.times fun g hg => q7.at g (h.times.lt g hg).2 (fun hm => ?_)
    rcases hm with rfl | hm
    · exact blk_apart h.heap.xb h.times (by decide) hg
    · exact rows_apart h.times h.heap.row (by decide) g hg hm
  · rcases List.mem_append.1 (q6.mem_iff.1 hr) with hr | hr
    · exact ⟨(h.runs r hr).1.to hk q7.size, (h.runs r hr).2⟩
    · obtain ⟨hr1, hr2⟩ := List.mem_filter.1 hr
      obtain ⟨k1, k2, k3⟩ := h.grown r hr1
      refine ⟨k1.to hk q7.size, k2, ?_⟩
      have : ¬ r.pl.2.length = (c.paths.getD r.pl.1 []).length := by
        intro e1
        unfold wholeR wholeB at hr2
        rw [absP_at, List.length_map] at hr2
        simp [e1] at hr2
      omega
end Go.Proofs.YtddbjcfdmdbmkaaGreatDoor

namespace Go.Proofs.YtddbjcfdmdbmkaaGreatDoor
open Go.RowKit

structure TakeP (F : Nat → Prop) (w : World) (X : Nat) (c : WC) (evs : List Ev) (e : Ev) (lo : Nat) (tv rv : Value) (rl : List (Nat × List Nat)) (v : Value) (w' : World) (F' : Nat → Prop) (B : Nat) (ys : List VL) (sps' : List Nat) (tv' rv' : Value) (rs' : List MRun) : Prop where
  lists : ListsAt B w' v ys
  sorted : SortedL (ys.map (·.2))
  told : ∀ t, t ∈ ys.map (·.2) ↔ t ∈ matchesNext (absP c.paths) evs e (rl.filter (nearB c.win evs e.time))
  watch : WatchM F' w' X c (evs ++ [e]) (lo + passedP c.win e.time (timesP evs lo)) sps' tv' rv' rs'
  runs : (rs'.map MRun.pl).Perm (runsNext (absP c.paths) evs e (rl.filter (nearB c.win evs e.time)))
  chg : Chg (fun b => b = X ∨ tv.ownBlock = some b ∨ rv.ownBlock = some b) w w'
  tNew : ∀ b, tv'.ownBlock = some b → tv.ownBlock = some b ∨ w.heap.size ≤ b
  rNew : ∀ b, rv'.ownBlock = some b → rv.ownBlock = some b ∨ w.heap.size ≤ b
  fNew : ∀ b, F' b → F b ∨ w.heap.size ≤ b
  above : w.heap.size ≤ B
  fLt : ∀ b, F' b → b < B
  tLt : ∀ b, tv'.ownBlock = some b → b < B
theorem stops_map {paths : List (List ASt)} {evs : List Ev} {e : Ev} {rs : List MRun} : (rs.filter fun r => !stopsB paths evs e r.pl).map MRun.pl = (rs.map MRun.pl).filter fun r => !stopsB paths evs e r := by rw [List.filter_map]; rfl
theorem whole_map {paths : List (List WStep)} {gs : List MRun} : (gs.filter fun r => !wholeR paths r).map MRun.pl = (gs.map MRun.pl).filter fun r => !wholeB (absP paths) r := by rw [List.filter_map]; rfl
theorem whole_map2 {paths : List (List WStep)} {gs : List MRun} : (gs.filter (wholeR paths)).map (·.pl.2) = ((gs.map MRun.pl).filter (wholeB (absP paths))).map (·.2) := by rw [List.filter_map, List.map_map]; rfl
theorem grown_perm {paths : List (List ASt)} {evs : List Ev} {e : Ev} {l m : List (Nat × List Nat)} (h : l.Perm m) : (grownP paths evs e l).Perm (grownP paths evs e m) := by
  unfold grownP
  exact ((h.append_left _).filter _).map _
theorem runsNext_perm {paths : List (List ASt)} {evs : List Ev} {e : Ev} {l m : List (Nat × List Nat)} (h : l.Perm m) : (runsNext paths evs e l).Perm (runsNext paths evs e m) := by
  unfold runsNext
  exact (h.filter _).append ((grown_perm h).filter _)
theorem matchesNext_perm {paths : List (List ASt)} {evs : List Ev} {e : Ev} {l m : List (Nat × List Nat)} (h : l.Perm m) : (matchesNext paths evs e l).Perm (matchesNext paths evs e m) := by
  unfold matchesNext
  exact ((grown_perm h).filter _).map _
theorem take_end {F : Nat → Prop} {w W w1 W4 w5 w7 w8 w9 : World} {X : Nat} {c : WC} {evs : List Ev} {e : Ev} {lo lo1 : Nat} {tv rv tv4 rv1 rv7 av v : Value} {rl : List (Nat × List Nat)} {rs rs1 rs8 rs9 gs : List MRun} {F4 F5 : Nat → Prop} {sps : List Nat} {ip : Nat} {ys : List VL} {rv9 : Value} (hlo : lo + passedP c.win e.time (timesP evs lo) = lo1) (hrl : (rs.map MRun.pl).Perm rl)
    (hb0 : Below w.heap.size w W) (hp1 : (rs1.map MRun.pl).Perm ((rs.map MRun.pl).filter (nearB c.win evs e.time))) (hc1 : Chg (fun b => b = X ∨ tv.ownBlock = some b ∨ rv.ownBlock = some b) W w1) (hr1 : rv1.ownBlock = rv.ownBlock)
    (hc4 : Chg (fun b => b = X ∨ tv.ownBlock = some b) w1 W4) (ht4 : ∀ b, tv4.ownBlock = some b → tv.ownBlock = some b ∨ w1.heap.size ≤ b) (hF4 : ∀ b, F4 b → F b ∨ w1.heap.size ≤ b)
    (hG : GrownAt F4 W4 c.paths c.svs evs sps e ip W4.heap.size (W4.heap.size + 1) (seedsP (absP c.paths) ++ rs1.map MRun.pl) w5 F5 av gs) (hc7 : Chg (fun b => b = X ∨ rv1.ownBlock = some b) W4 w7) (hr7 : rv7.ownBlock = rv1.ownBlock)
    (hp8 : rs8.Perm (rs1.filter fun r => !stopsB (absP c.paths) evs e r.pl)) (hx8 : MidX F5 w8 X c evs e lo1 sps ip tv4 rv7 rs8 av gs) (hc8 : Chg (fun b => rv7.ownBlock = some b) w7 w8)
    (h1 : ListsAt w8.heap.size w9 v ys) (h2 : SortedL (ys.map (·.2))) (h3 : ∀ t, t ∈ ys.map (·.2) ↔ t ∈ (gs.filter (wholeR c.paths)).map (·.pl.2)) (h4 : WatchM F5 w9 X c (evs ++ [e]) lo1 (sps ++ [ip]) tv4 rv9 rs9) (h5 : rs9.Perm (rs8 ++ gs.filter fun r => !wholeR c.paths r)) (h6 : Chg (fun b => b = X ∨ rv7.ownBlock = some b) w8 w9) (h7 : ∀ b, rv9.ownBlock = some b → rv7.ownBlock = some b ∨ w8.heap.size ≤ b) :
    TakeP F w X c evs e lo tv rv rl v w9 F5 w8.heap.size ys (sps ++ [ip]) tv4 rv9 rs9 := by
  have hgrown : gs.map MRun.pl = grownP (absP c.paths) evs e (rs1.map MRun.pl) := hG.pl
  have hperm : (rs1.map MRun.pl).Perm (rl.filter (nearB c.win evs e.time)) := hp1.trans (hrl.filter _)
  have s0 := hb0.size; have s1 := hc1.size; have s4 := hc4.size; have s7 := hc7.size; have s8 := hc8.size
  have hc : Chg (fun b => b = X ∨ tv.ownBlock = some b ∨ rv.ownBlock = some b) w w9 := by
    refine (((((Chg.below (fun b => b = X ∨ tv.ownBlock = some b ∨ rv.ownBlock = some b) hb0).trans hc1 (fun b _ k => k)).trans hc4 (fun b _ k => ?_)).trans hc7 (fun b _ k => ?_)).trans hc8 (fun b _ k => ?_)).trans h6 (fun b _ k => ?_)
    · rcases k with k | k; exact .inl k; exact .inr (.inl k)
    · rcases k with k | k; exact .inl k; exact .inr (.inr (hr1 ▸ k))
    · exact .inr (.inr (by rw [← hr1, ← hr7]; exact k))
    · rcases k with k | k; exact .inl k; exact .inr (.inr (by rw [← hr1, ← hr7]; exact k))
  refine ⟨h1, h2, fun t => ?_, by rw [hlo]; exact h4, ?_, hc, fun b hb => ?_, fun b hb => ?_, fun b hb => ?_, by omega, hx8.heap.fl, fun b hb => (hx8.times.lt b hb).2⟩
  · rw [h3, whole_map2, hgrown]
    exact (matchesNext_perm hperm).mem_iff
  · have q := h5.map MRun.pl
    rw [List.map_append, whole_map, hgrown] at q
    have q8 := hp8.map MRun.pl
    rw [stops_map] at q8
    exact (q.trans (q8.append_right _)).trans (runsNext_perm hperm)
  · rcases ht4 b hb with k | k
    · exact .inl k
    · exact .inr (by omega)
  · rcases h7 b hb with k | k
    · exact .inl (by rw [← hr1, ← hr7]; exact k)
    · exact .inr (by omega)
  · rcases hG.new b hb with k | k
    · rcases hF4 b k with k | k
      · exact .inl k
      · exact .inr (by omega)
    · exact .inr (by omega)
set_option maxRecDepth 100000 in
set_option maxHeartbeats 3200000 in
theorem watchTake_p {F : Nat → Prop} {w : World} {X : Nat} {c : WC} {evs : List Ev} {lo : Nat} {sps : List Nat} {tv rv : Value} {rs : List MRun} (h : WatchM F w X c evs lo sps tv rv rs) (hc : WellC c) {rl : List (Nat × List Nat)} (hP : WatchP c evs lo rl) (hrl : (rs.map MRun.pl).Perm rl) {e : Ev} (he : In64 e.time) (hl : evs = [] ∨ lastT evs ≤ e.time) (hrn : rs.length ≤ 100000) (hel : evs.length ≤ 100000000) :
    Calls Tryz.prog 49 #[.pointer (some ⟨X, 0, none⟩), evVal e] w fun x w' => ∃ a n cc F' B ys sps' tv' rv' rs', x = .returned (.slice a n cc) ∧ TakeP F w X c evs e lo tv rv rl (.slice a n cc) w' F' B ys sps' tv' rv' rs' := by
  obtain ⟨i0, hi0, hz0, hz1, hz2⟩ := info_parts Tryz.infoIntF
  have hE := Blk.new w #[.int .i64 e.time, .int .i64 e.kind, .int .i64 e.a, .int .i64 e.b, .int .i64 e.c] 44
  have hb0 : Below w.heap.size w (w.alloc (.cells #[.int .i64 e.time, .int .i64 e.kind, .int .i64 e.a, .int .i64 e.b, .int .i64 e.c] 44)) := (Below.refl _ w).alloc (Nat.le_refl _) _
  have h0 := h.below hb0
  have hrate := hP.rate
  have hrb := hc.rate
  have hlo := hP.win.le
  have hforget := h0.forget hc hP (by omega) he hl
  have hel2 : evs.length - lo ≤ 1000 := by omega
  have hpl := passedP_le (c.win : Int) e.time (timesP evs lo)
  rw [timesP_len] at hpl
  generalize hlo1 : lo + passedP c.win e.time (timesP evs lo) = lo1 at *
  unfold evVal
  generalize hW : w.alloc (.cells #[.int .i64 e.time, .int .i64 e.kind, .int .i64 e.a, .int .i64 e.b, .int .i64 e.c] 44) = W at *
  have e0 := hE.cell 0; have hEl := hE.lt
  simp at e0
  go_enter Tryz.func49, Tryz.ntmps49
  go_upto_region 2 with (go_at_call 72; refine hforget.mono ?_; rintro x w1 ⟨rfl, ta1, tn1, tc1, rv1, rs1, hw1, hp1, hn1, hc1, ht1, hr1⟩)
  have hE1 : Blk w1 w.heap.size #[.int .i64 e.time, .int .i64 e.kind, .int .i64 e.a, .int .i64 e.b, .int .i64 e.c] 44 := by
    refine hE.of_eq (hc1.at _ hE.lt (fun hm => ?_))
    rcases hm with hm | hm | hm
    · have := h.heap.xb.lt; omega
    · have := (h.times.lt _ hm).2; omega
    · have := (h.heap.row.lt _ hm).2; omega
  have a0 := hE1.cell 0; have a1 := hE1.cell 1; have a2 := hE1.cell 2; have a3 := hE1.cell 3; have a4 := hE1.cell 4; have hEl1 := hE1.lt
  simp at a0 a1 a2 a3 a4
  have hX1 := hw1.heap.xb
  have x3 := hX1.cell 3; have hXl1 := hX1.lt
  simp at x3
  go_cut [5] from 7 (fun nv wx => ∃ N ip, nv = .pointer (some ⟨N, 0, none⟩) ∧ Blk wx N #[.pointer (some ⟨ip, 0, none⟩)] 156 ∧ SeenAt wx ip e evs.length ∧ Below w1.heap.size w1 wx ∧ w1.heap.size ≤ N ∧ w1.heap.size ≤ ip)
  case first =>
    go_region
    all_goals
      go_wp2
      go_meet
      first
      | (refine ⟨w1.heap.size + 1, w1.heap.size, rfl, ?_, ?_, ?_, Nat.le_succ _, Nat.le_refl _⟩
         · have k := Blk.new (w1.alloc (.cells #[.int .i64 e.time, .int .i64 e.kind, .int .i64 e.a, .int .i64 e.b, .int .i64 e.c, .int .i64 evs.length] 158)) #[.pointer (some ⟨w1.heap.size, 0, none⟩)] 156
           rw [alloc_size] at k; exact k
         · exact (Blk.new w1 _ _).alloc _
         · have k : Below w1.heap.size w1 ((w1.alloc (.cells #[.int .i64 e.time, .int .i64 e.kind, .int .i64 e.a, .int .i64 e.b, .int .i64 e.c, .int .i64 evs.length] 158)).alloc (.cells #[.pointer (some ⟨w1.heap.size, 0, none⟩)] 156)) := ((Below.refl _ w1).alloc (Nat.le_refl _) _).alloc (by simp) _
           exact ⟨k.os, k.tape, k.output, k.size, k.block⟩)
      | (refine ⟨w1.heap.size, w1.heap.size + 1, rfl, ?_, ?_, ?_, Nat.le_refl _, Nat.le_succ _⟩
         · exact (Blk.new w1 _ _).alloc _
         · have k := Blk.new (w1.alloc (.cells #[.pointer (some ⟨w1.heap.size + 1, 0, none⟩)] 156)) #[.int .i64 e.time, .int .i64 e.kind, .int .i64 e.a, .int .i64 e.b, .int .i64 e.c, .int .i64 evs.length] 158
           rw [alloc_size] at k; exact k
         · have k : Below w1.heap.size w1 ((w1.alloc (.cells #[.pointer (some ⟨w1.heap.size + 1, 0, none⟩)] 156)).alloc (.cells #[.int .i64 e.time, .int .i64 e.kind, .int .i64 e.a, .int .i64 e.b, .int .i64 e.c, .int .i64 evs.length] 158)) := ((Below.refl _ w1).alloc (Nat.le_refl _) _).alloc (by simp) _
           exact ⟨k.os, k.tape, k.output, k.size, k.block⟩)
  case rest =>
    obtain ⟨N, ip, rfl, hN, hip, hbx, hNn, hipn⟩ := hcut
    have hXc := hX1.of_eq (hbx.block X hXl1)
    have hEc := hE1.of_eq (hbx.block _ hEl1)
    have y3 := hXc.cell 3; have yf3 := hXc.frozen 3; have hXlc := hXc.lt
    have b0 := hEc.cell 0; have hElc := hEc.lt
    simp at y3 b0
    have hXc3 := hXc.set 3 (.int .i64 (evs.length + 1))
    have hneE : w.heap.size ≠ X := by have := h.heap.xb.lt; omega
    have hEc3 := hEc.other ⟨X, 3, none⟩ (.int .i64 (evs.length + 1)) hneE.symm
    have z4 := hXc3.cell 4; have z4l := hXc3.lt; have d0 := hEc3.cell 0; have d0l := hEc3.lt
    simp at z4 d0
    have hTX1 : ¬ (Value.slice ta1 tn1 tc1).ownBlock = some X := blk_apart hX1 hw1.times (by decide)
    have hrowT : (wc.setCell ⟨X, 3, none⟩ (.int .i64 (evs.length + 1))).ownsRow 0 3 1 (.slice ta1 tn1 tc1) (timesP evs lo1).length ((timesP evs lo1).map (Value.int .i64)) :=
      row_of_blk hw1.times (fun z hz => (Below.heap_setCell _ _ _ _ (fun e => by simp at e; subst e; exact hTX1 hz)).trans (hbx.block z (hw1.times.lt z hz).2))
    have htl1 : (timesP evs lo1).length ≤ 1000 := by rw [timesP_len]; omega
    have HMid : Hid (∀ (w7 : World) (o : Obj) (g7 cap7 : Nat), w7.ownsRow 0 3 1 (.slice (some ⟨g7, 0, none⟩) ((timesP evs lo1).length + 1) cap7) ((timesP evs lo1).length + 1) ((timesP evs lo1).map (Value.int .i64) ++ [.int .i64 e.time]) → ((wc.setCell ⟨X, 3, none⟩ (.int .i64 (evs.length + 1))).alloc o).grownBy w7 (Value.slice ta1 tn1 tc1).ownBlock → ((Value.slice ta1 tn1 tc1).ownBlock = some g7 ∨ wc.heap.size ≤ g7) → _) := fun w7 o g7 cap7 k1 k2 k3 => hw1.mid (by omega) hbx hip hipn hN hNn k1 k2 k3
    have hneX : ∀ z, (Value.slice ta1 tn1 tc1).ownBlock = some z → z ≠ X := fun z hz e => hTX1 (e ▸ hz)
    go_upto_region 4 with fail
    go_region_law (first
      | (refine step_append_lies _ (by rfl) _ _ 48 (by rfl) 0 3 i0 _ 1 8 Tryz.underlying48 hi0 hz0 hz1 hz2 rfl (by decide) _ (timesP evs lo1).length ((timesP evs lo1).map (Value.int .i64)) (by rfl) (hrowT.alloc _) ⟨wc.heap.size, 0, none⟩ 1 1 [.int .i64 e.time] (by rfl) rfl (World.news_of_block (alloc_at _ _ _ (by simp [World.setCell]))) (by simp [Value.oneCell']) (by decide) (by unfold maxLen; omega) (by omega) (by simp <;> omega) (wc.heap.size + 1) (by simp [World.setCell]) ?_; intro g7 cap7 w7 hown7 hgrow7 hat7 hlt7; have hX7 := (hXc3.alloc (.cells #[.int .i64 e.time] 3)).of_eq (hgrow7.block X (by simp [World.setCell]; omega) (fun e => hTX1 e.symm)); have v4 := hX7.cell 4; have vf4 := hX7.frozen 4; have hXl7 := hX7.lt; simp at v4))
    all_goals
      obtain ⟨hmid, hcm⟩ := HMid.out w7 (.cells #[.int .i64 e.time] 3) g7 cap7 hown7 ⟨hgrow7.os, hgrow7.tape, hgrow7.output, hgrow7.size, hgrow7.block⟩ (by rcases hat7 with q | q; exact .inl q; exact .inr (by omega))
      clear HMid hown7 hgrow7
      have hg7 : (Value.slice (some ⟨g7, 0, none⟩) ((timesP evs lo1).length + 1) cap7).ownBlock = some g7 := rfl
      have HE : Hid (∀ (w5 w6 w8 w9 : World) (F5 : Nat → Prop) (av : Value) (gs rs8 rs9 : List MRun) (da : Option Addr) (db dc : Nat) (v : Value) (ys : List VL) (rv9 : Value),
          GrownAt (fun b => F b ∨ b = ip) (w7.setCell ⟨X, 4, none⟩ (.slice (some ⟨g7, 0, none⟩) ((timesP evs lo1).length + 1) cap7)) c.paths c.svs evs sps e ip (w7.setCell ⟨X, 4, none⟩ (.slice (some ⟨g7, 0, none⟩) ((timesP evs lo1).length + 1) cap7)).heap.size ((w7.setCell ⟨X, 4, none⟩ (.slice (some ⟨g7, 0, none⟩) ((timesP evs lo1).length + 1) cap7)).heap.size + 1) (seedsP (absP c.paths) ++ rs1.map MRun.pl) w5 F5 av gs →
          Chg (fun b => b = X ∨ rv1.ownBlock = some b) (w7.setCell ⟨X, 4, none⟩ (.slice (some ⟨g7, 0, none⟩) ((timesP evs lo1).length + 1) cap7)) (w6.setCell ⟨X, 5, none⟩ (.slice da db dc)) → (Value.slice da db dc).ownBlock = rv1.ownBlock →
          rs8.Perm (rs1.filter fun r => !stopsB (absP c.paths) evs e r.pl) → MidX F5 w8 X c evs e lo1 sps ip (.slice (some ⟨g7, 0, none⟩) ((timesP evs lo1).length + 1) cap7) (.slice da db dc) rs8 av gs → Chg (fun b => (Value.slice da db dc).ownBlock = some b) (w6.setCell ⟨X, 5, none⟩ (.slice da db dc)) w8 →
          ListsAt w8.heap.size w9 v ys → SortedL (ys.map (·.2)) → (∀ t, t ∈ ys.map (·.2) ↔ t ∈ (gs.filter (wholeR c.paths)).map (·.pl.2)) → WatchM F5 w9 X c (evs ++ [e]) lo1 (sps ++ [ip]) (.slice (some ⟨g7, 0, none⟩) ((timesP evs lo1).length + 1) cap7) rv9 rs9 → rs9.Perm (rs8 ++ gs.filter fun r => !wholeR c.paths r) → Chg (fun b => b = X ∨ (Value.slice da db dc).ownBlock = some b) w8 w9 → (∀ b, rv9.ownBlock = some b → (Value.slice da db dc).ownBlock = some b ∨ w8.heap.size ≤ b) →
          TakeP F w X c evs e lo tv rv rl v w9 F5 w8.heap.size ys (sps ++ [ip]) (.slice (some ⟨g7, 0, none⟩) ((timesP evs lo1).length + 1) cap7) rv9 rs9) := fun w5 w6 w8 w9 F5 av gs rs8 rs9 da db dc v ys rv9 k1 k2 k3 k4 k5 k6 k7 k8 k9 k10 k11 k12 k13 =>
        take_end hlo1 hrl hb0 hp1 hc1 hr1 (hcm.mono (fun b _ q => by rcases q with q | q; exact .inl q; exact .inr (by rw [← ht1]; exact q))) (fun b hb => by
            have q0 : g7 = b := by simpa [Value.ownBlock] using hb
            subst q0
            rcases hat7 with q | q
            · exact .inl (by rw [← ht1]; exact q)
            · exact .inr (by have := hbx.size; omega)) (fun b hb => by rcases hb with hb | rfl; exact .inl hb; exact .inr hipn) k1 k2 k3 k4 k5 k6 k7 k8 k9 k10 k11 k12 k13
      have hrs1 : rs1.length ≤ 100000 := by omega
      have hfew := hc.few
      have hgr := hmid.grown hc (by omega)
      have hslen : (seedsP (absP c.paths)).length = c.paths.length := by simp [seedsP, absP]
      have hcnt : ∀ (w5 : World) (F5 : Nat → Prop) (av : Value) (gs : List MRun), GrownAt (fun b => F b ∨ b = ip) (w7.setCell ⟨X, 4, none⟩ (.slice (some ⟨g7, 0, none⟩) ((timesP evs lo1).length + 1) cap7)) c.paths c.svs evs sps e ip (w7.setCell ⟨X, 4, none⟩ (.slice (some ⟨g7, 0, none⟩) ((timesP evs lo1).length + 1) cap7)).heap.size ((w7.setCell ⟨X, 4, none⟩ (.slice (some ⟨g7, 0, none⟩) ((timesP evs lo1).length + 1) cap7)).heap.size + 1) (seedsP (absP c.paths) ++ rs1.map MRun.pl) w5 F5 av gs → gs.length ≤ 400000 := fun w5 F5 av gs k => by
        have := k.count
        rw [List.length_append, hslen, List.length_map] at this
        omega
      have n0 := hmid.now.cell 0; have nl := hmid.now.lt; have m5 := hmid.heap.xb.cell 5; have ml := hmid.heap.xb.lt
      simp at n0 m5
      have HM : Hid _ := hmid
      have HCn : Hid _ := hcnt
      clear hcnt hmid hcm h h0 hw1 hp1 hc1 hforget hP hrl hE hE1 hEc hXc hX1 hXc3 hEc3 hrowT hN hip hbx hslen
      generalize hW4 : w7.setCell ⟨X, 4, none⟩ (.slice (some ⟨g7, 0, none⟩) ((timesP evs lo1).length + 1) cap7) = W4 at *
      go_wp2_with (first
        | (go_at_call 78; refine (i2.keep hc i3 hi8 (HCn.out _ _ _ _ hG5)).mono ?_; rintro x w9 ⟨a9, n9, c9, ys9, rv9, rs9, rfl, r1, r2, r3, r4, r5, r6, r7⟩)
        | (go_at_call 77; refine (hmx.init (Nat.le_trans hl6 (by decide))).mono ?_; rintro x w8 ⟨rfl, rs8, i1, i2, i3, i4⟩; have hi8 : rs8.length ≤ 400000 := (by rw [i1.length_eq]; omega))
        | (go_at_call 74; refine hdel.mono ?_; rintro x w6 ⟨da, db, dc, rfl, k1, k2, k3⟩; obtain ⟨hmx, hcx⟩ := HM.out.next hG5 k1 k2 k3; have hX6 := hX5.of_eq (k2.at X hX5.lt hXr); have s5 := hX6.cell 5; have sf5 := hX6.frozen 5; have sl := hX6.lt; simp at s5; have hl6 : (rs1.filter fun r => !stopsB (absP c.paths) evs e r.pl).length ≤ 400000 := Nat.le_trans (List.length_filter_le _ _) (by omega))
        | (go_at_call 73; refine hgr.mono ?_; rintro x w5 ⟨F5, ga, gb, gc, gs5, rfl, hG5⟩; have hX5 := HM.out.heap.xb.of_eq (hG5.bel.block X ml); have hXr : ¬ rv1.ownBlock = some X := blk_apart HM.out.heap.xb HM.out.heap.row (by decide); have p5 := hX5.cell 5; have pl5 := hX5.lt; simp at p5; have hdel := HM.out.del hc (by omega) hG5.bel))
      go_ret
      exact ⟨a9, n9, c9, F5, _, ys9, _, _, rv9, rs9, rfl, HE.out w5 w6 w8 w9 F5 _ gs5 rs8 rs9 da db dc _ ys9 rv9 hG5 hcx k3 i1 i2 i4 r1 r2 r3 r4 r5 r6 r7⟩
end Go.Proofs.YtddbjcfdmdbmkaaGreatDoor

namespace Go.Proofs.YtddbjcfdmdbmkaaGreatDoor
open Go.RowKit

theorem WatchP.perm {c : WC} {evs : List Ev} {lo : Nat} {rl rl' : List (Nat × List Nat)} (h : WatchP c evs lo rl) (hp : rl'.Perm rl) : WatchP c evs lo rl' := ⟨h.kept.perm hp, h.win, h.mono, h.in64, h.rate⟩
theorem WatchP.count {c : WC} {evs : List Ev} {lo : Nat} {rl : List (Nat × List Nat)} (h : WatchP c evs lo rl) : rl.length ≤ boundA c.rate (absP c.paths) :=
  h.kept.bound h.mono (fun i hi hn => Nat.not_lt.1 (fun hlt => h.win.far i hlt hn)) h.rate
theorem WatchP.start (c : WC) : WatchP c [] 0 [] := ⟨Kept1.start _ _ _, Win.start _ _, fun i j _ hj => by simp at hj, fun e he => by simp at he, by simp⟩
theorem win_later {c : WC} {evs : List Ev} {lo : Nat} {rl : List (Nat × List Nat)} (h : WatchP c evs lo rl) {now : Int} (hl : evs = [] ∨ lastT evs ≤ now) : Win c.win evs now (lo + passedP c.win now (timesP evs lo)) := by
  rcases hl with rfl | hl
  · have h0 : lo = 0 := by have := h.win.le; simpa using this
    subst h0
    have : passedP (c.win : Int) now (timesP [] 0) = 0 := rfl
    rw [this]
    exact Win.start _ _
  · exact h.win.later h.mono hl
theorem WatchP.next {c : WC} {evs : List Ev} {lo : Nat} {rl : List (Nat × List Nat)} (h : WatchP c evs lo rl) (hc : 1 ≤ c.win) {e : Ev} (he : In64 e.time) (hf : feedFP c.win c.rate evs e.time = 0) : WatchP c (evs ++ [e]) (lo + passedP c.win e.time (timesP evs lo)) (runsNext (absP c.paths) evs e (rl.filter (nearB c.win evs e.time))) := by
  obtain ⟨hl, hr⟩ := feedF0 hf
  have hw := win_later h hl
  have hcnt := hw.cnt
  refine ⟨by rw [lastT_app]; exact (h.kept.near hl).next (by omega), by rw [lastT_app]; exact hw.snoc (by omega), h.mono.snoc hl, fun x hx => ?_, ?_⟩
  · rcases List.mem_append.1 hx with hx | hx
    · exact h.in64 x hx
    · rw [List.mem_singleton.1 hx]; exact he
  · have := hw.le
    rw [List.length_append, List.length_singleton]
    omega
theorem WatchP.told {c : WC} {evs : List Ev} {lo : Nat} {rl : List (Nat × List Nat)} (h : WatchP c evs lo rl) (hc : 1 ≤ c.win) {e : Ev} (hl : evs = [] ∨ lastT evs ≤ e.time) (t : List Nat) : t ∈ matchesNext (absP c.paths) evs e (rl.filter (nearB c.win evs e.time)) ↔ MatchOK (absP c.paths) c.win (evs ++ [e]) t :=
  (h.kept.near hl).matches (by omega) t
theorem last_times {c : WC} {evs : List Ev} {lo : Nat} {rl : List (Nat × List Nat)} (h : WatchP c evs lo rl) (hc : 1 ≤ c.win) (h0 : evs ≠ []) : lo < evs.length ∧ (timesP evs lo).getLastD 0 = lastT evs := by
  have hn : 0 < evs.length := List.length_pos_iff.2 h0
  have hlo : lo < evs.length := by
    have hle := h.win.le
    by_cases hh : lo < evs.length
    · exact hh
    · have := h.win.far (evs.length - 1) (by omega)
      unfold lastT at this
      omega
  refine ⟨hlo, ?_⟩
  rw [List.getLastD_eq_getLast?, List.getLast?_eq_getElem?, timesP_len]
  have hi : evs.length - lo - 1 < (timesP evs lo).length := by rw [timesP_len]; omega
  rw [List.getElem?_eq_getElem hi, Option.getD_some, timesP_get hi, show lo + (evs.length - lo - 1) = evs.length - 1 by omega]
  rfl
theorem fault_eq {c : WC} {evs : List Ev} {lo : Nat} {rl : List (Nat × List Nat)} (h : WatchP c evs lo rl) (hc : 1 ≤ c.win) (now : Int) : faultT c.win c.rate (timesP evs lo) now = feedFP c.win c.rate evs now := by
  unfold faultT feedFP
  have hle := h.win.le
  by_cases h0 : evs = []
  · have hlo : lo = 0 := by rw [h0] at hle; simpa using hle
    subst h0 hlo
    have e1 : timesP ([] : List Ev) 0 = [] := rfl
    have e2 : cntNear c.win [] now = 0 := rfl
    have e3 : passedP (c.win : Int) now [] = 0 := rfl
    have a1 : ¬ (0 < ([] : List Int).length ∧ now < ([] : List Int).getLastD 0) := fun k => by simp at k
    have a2 : ¬ (([] : List Ev) ≠ [] ∧ now < lastT []) := fun k => k.1 rfl
    rw [e1, e2, e3, if_neg a1, if_neg a2]
    by_cases hr : c.rate ≤ 0
    · rw [if_pos (by simpa using hr), if_pos (by omega)]
    · rw [if_neg (by simpa using hr), if_neg (by omega)]
  · obtain ⟨hlo, hlast⟩ := last_times h hc h0
    rw [hlast]
    by_cases ht : now < lastT evs
    · rw [if_pos ⟨by rw [timesP_len]; omega, ht⟩, if_pos ⟨h0, ht⟩]
    · have a1 : ¬ (0 < (timesP evs lo).length ∧ now < lastT evs) := fun k => ht k.2
      have a2 : ¬ (evs ≠ [] ∧ now < lastT evs) := fun k => ht k.2
      rw [if_neg a1, if_neg a2]
      have hw := win_later h (.inr (Int.not_lt.1 ht))
      have hcnt := hw.cnt
      have hp := passedP_le (c.win : Int) now (timesP evs lo)
      rw [timesP_len] at hp
      rw [hcnt, timesP_len]
      by_cases hr : c.rate ≤ evs.length - lo - passedP c.win now (timesP evs lo)
      · rw [if_pos hr, if_pos (by omega)]
      · rw [if_neg hr, if_neg (by omega)]
theorem WatchM.fault {F : Nat → Prop} {w : World} {X : Nat} {c : WC} {evs : List Ev} {lo : Nat} {sps : List Nat} {tv rv : Value} {rs : List MRun} (h : WatchM F w X c evs lo sps tv rv rs) (hc : WellC c) {rl : List (Nat × List Nat)} (hP : WatchP c evs lo rl) (e : Ev) (he : In64 e.time) :
    Calls Tryz.prog 48 #[.pointer (some ⟨X, 0, none⟩), evVal e] w fun x w' => x = .returned (.int .i64 (feedFP c.win c.rate evs e.time)) ∧ Below w.heap.size w w' := by
  have h1 := hc.win1; have h2 := hc.win2; have h3 := hc.rate; have h4 := hP.rate
  rw [← fault_eq hP h1]
  refine fault_p e h.heap.xb h.times (by rw [timesP_len]; omega) (by omega) (fun t ht => ?_) he (by omega)
  obtain ⟨i, hi, rfl⟩ := List.getElem_of_mem ht
  have hi' := hi
  rw [timesP_len] at hi'
  have h0 : evs ≠ [] := fun e => by rw [e] at hi'; simp at hi'
  rw [(last_times hP h1 h0).2, timesP_get]
  refine ⟨?_, by rw [evAt_get (by omega)]; exact hP.in64 _ (List.getElem_mem _)⟩
  exact hP.mono _ _ (by omega) (by omega)
end Go.Proofs.YtddbjcfdmdbmkaaGreatDoor
