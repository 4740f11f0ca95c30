import Derived.Test.YtddbjcfdmdbmkaaGreatDoorB34
import Derived.Test.YtddbjcfdmdbmkaaGreatDoorB38
import Derived.Test.YtddbjcfdmdbmkaaGreatDoorB33
import Derived.Deep.CutRange
set_option linter.unusedVariables false
set_option linter.unusedSimpArgs false
namespace Go.Proofs.YtddbjcfdmdbmkaaGreatDoor
open Go.RowKit

theorem ev_cells {w : World} {b : Nat} {v : Value} {evs : List Ev} (h : w.ownsRow b 44 5 v evs.length (flat evC evs)) : ∃ a c, v = .slice a evs.length c ∧ (0 < evs.length → ∃ g, a = some ⟨g, 0, none⟩ ∧ g < w.heap.size ∧ ∀ k, (hk : k < evs.length) → w.cell? ⟨g, k * 5, none⟩ = some (.int .i64 evs[k].time) ∧ w.cell? ⟨g, k * 5 + 1, none⟩ = some (.int .i64 evs[k].kind) ∧ w.cell? ⟨g, k * 5 + 2, none⟩ = some (.int .i64 evs[k].a) ∧ w.cell? ⟨g, k * 5 + 3, none⟩ = some (.int .i64 evs[k].b) ∧ w.cell? ⟨g, k * 5 + 4, none⟩ = some (.int .i64 evs[k].c)) := by
  rcases h.2 with ⟨rfl, h0⟩ | ⟨g, cap, cur, rfl, _, hg, _⟩
  · exact ⟨none, 0, by rw [h0], fun h => by omega⟩
  · refine ⟨_, _, rfl, fun _ => ⟨g, rfl, (Array.getElem?_eq_some_iff.1 hg).1, fun k hk => ?_⟩⟩
    have key : ∀ j u, j < 5 → (evC evs[k])[j]? = some u → w.cell? ⟨g, k * 5 + j, none⟩ = some u := by
      intro j u hj hu
      have := h.cells (g := g) rfl (k * 5 + j) u (by rw [flat_get evC 5 (fun _ => rfl) evs k j hk hj]; exact hu)
      rw [addr_add, Nat.zero_add] at this; exact this
    exact ⟨key 0 _ (by omega) rfl, key 1 _ (by omega) rfl, key 2 _ (by omega) rfl, key 3 _ (by omega) rfl, key 4 _ (by omega) rfl⟩
section
variable {Za Zb : Nat → Prop} {w w' : World} {Ea Eb bda bdb : Nat} {ca cb : WC} {evs evs2 : List Ev} {e : Ev} {Za' : Nat → Prop} {v : Value} {ys : List (List Nat)}
theorem FedOK.other {fb : Nat} (F : FedOK Za w Ea bda ca evs e Za' v ys w') (hb : Eng Zb w Eb bdb fb cb evs2) (hd : ∀ b, Za b → ¬ Zb b) : Eng Zb w' Eb bdb fb cb evs2 ∧ (∀ b, Za' b → ¬ Zb b) :=
  ⟨hb.to F.2.1 hd, fun b k z => by
    rcases F.1 b k with k | k
    · exact hd b k z
    · exact absurd (hb.lt b z) (by omega)⟩
theorem FedOK.eng (F : FedOK Za w Ea bda ca evs e Za' v ys w') : Eng Za' w' Ea bda 0 ca (evs ++ [e]) := F.2.2.2.2.2
theorem FedOK.sorted (F : FedOK Za w Ea bda ca evs e Za' v ys w') : SortedL ys := F.2.2.2.1
theorem FedOK.mem (F : FedOK Za w Ea bda ca evs e Za' v ys w') : ∀ t, t ∈ ys ↔ MatchOK (absP ca.paths) ca.win (evs ++ [e]) t := F.2.2.2.2.1
theorem FedOK.up {k : Nat} (F : FedOK Za w Ea bda ca evs e Za' v ys w') (h : ∀ b, Za b → k ≤ b) (hk : k ≤ w.heap.size) : ∀ b, Za' b → k ≤ b := fun b hb => by
  rcases F.1 b hb with q | q
  · exact h b q
  · omega
theorem FedOK.rowTo {b t s n : Nat} {rv : Value} {xs : List Value} (F : FedOK Za w Ea bda ca evs e Za' v ys w') (hr : w.ownsRow b t s rv n xs) (hn : ∀ g, rv.ownBlock = some g → ¬ Za g) : w'.ownsRow b t s rv n xs ∧ (∀ g, rv.ownBlock = some g → ¬ Za' g) :=
  ⟨row_of_blk hr (fun g hg => F.2.1.at g (hr.lt g hg).2 (hn g hg)), fun g hg k => by
    rcases F.1 g k with q | q
    · exact hn g hg q
    · exact absurd (hr.lt g hg).2 (by omega)⟩
end
theorem ListsAt.chg {B : Nat} {w w' : World} {v : Value} {xs : List VL} {M : Nat → Prop} (h : ListsAt B w v xs) (hc : Chg M w w') (hM : ∀ b, M b → b < B) : ListsAt B w' v xs :=
  h.to fun b hb => by
    have : B ≤ b ∧ b < w.heap.size := by
      rcases hb with hb | ⟨x, hx, hb⟩
      · exact h.row.lt b hb
      · exact (h.inner x hx).lt b hb
    exact hc.at b this.2 (fun m => by have := hM b m; omega)
theorem ListsAt.few {B : Nat} {w : World} {v : Value} {xs : List VL} (h : ListsAt B w v xs) : (xs.map (·.2)).length ≤ maxLen ∧ ∀ y ∈ xs.map (·.2), y.length ≤ maxLen := by
  have key : ∀ {e s n : Nat} {u : Value} {zs : List Value}, w.ownsRow B e s u n zs → n ≤ maxLen := by
    intro e s n u zs hr
    rcases hr.2 with ⟨_, rfl⟩ | ⟨g, cap, cur, _, _, _, h1, h2, _⟩
    · exact Nat.zero_le _
    · exact Nat.le_trans h1 h2
  refine ⟨by rw [List.length_map]; exact key h.row, fun y hy => ?_⟩
  obtain ⟨x, hx, rfl⟩ := List.mem_map.1 hy
  exact key (h.inner x hx)
end Go.Proofs.YtddbjcfdmdbmkaaGreatDoor

namespace Go.Proofs.YtddbjcfdmdbmkaaGreatDoor
open Go.RowKit

structure EngD where
  E : Nat
  bd : Nat
  f : Nat
  c : WC
  evs : List Ev
structure Held where
  B : Nat
  v : Value
  xs : List VL
def Held.owns (h : Held) (b : Nat) : Prop := h.v.ownBlock = some b ∨ ∃ y ∈ h.xs, y.1.ownBlock = some b
structure ManyZ (Z : Nat → Nat → Prop) (w0 w : World) (es : List EngD) (ev : Value) (evs : List Ev) (hs : List Held) : Prop where
  eng : ∀ i, (hi : i < es.length) → Eng (Z i) w es[i].E es[i].bd es[i].f es[i].c es[i].evs
  apart : ∀ i j b, i < es.length → j < es.length → i ≠ j → Z i b → ¬ Z j b
  row : ∃ B, w.ownsRow B 44 5 ev evs.length (flat evC evs)
  rowN : ∀ g, ev.ownBlock = some g → ∀ i, i < es.length → ¬ Z i g
  held : ∀ h ∈ hs, ListsAt h.B w h.v h.xs ∧ ∀ b, h.owns b → ∀ i, i < es.length → ¬ Z i b
  up : ∀ i b, i < es.length → Z i b → w0.heap.size ≤ b
  bel : Below w0.heap.size w0 w
def Many (w0 w : World) (es : List EngD) (ev : Value) (evs : List Ev) (hs : List Held) : Prop := ∃ Z, ManyZ Z w0 w es ev evs hs
theorem Many.start (w : World) : Many w w [] (.slice none 0 0) [] [] :=
  ⟨fun _ _ => False, fun i hi => by simp at hi, fun i j b hi => by simp at hi, ⟨0, World.ownsRow_nil _ _ _ _⟩, fun g hg => by simp [Value.ownBlock] at hg, fun h hh => by simp at hh, fun i b hi => by simp at hi, Below.refl _ _⟩
theorem Many.bel {w0 w : World} {es : List EngD} {ev : Value} {evs : List Ev} {hs : List Held} (h : Many w0 w es ev evs hs) : Below w0.heap.size w0 w := by
  obtain ⟨Z, h⟩ := h; exact h.bel
theorem held_lt {w : World} {h : Held} (k : ListsAt h.B w h.v h.xs) {b : Nat} (hb : h.owns b) : b < w.heap.size := by
  rcases hb with hb | ⟨y, hy, hb⟩
  · exact (k.row.lt b hb).2
  · exact ((k.inner y hy).lt b hb).2
theorem ManyZ.keep {Z : Nat → Nat → Prop} {w0 w w' : World} {es : List EngD} {ev : Value} {evs : List Ev} {hs : List Held} (h : ManyZ Z w0 w es ev evs hs) (hc : Chg (fun _ => False) w w') : ManyZ Z w0 w' es ev evs hs := by
  refine ⟨fun i hi => (h.eng i hi).to hc (fun _ k => k.elim), h.apart, ?_, h.rowN, fun x hx => ⟨(h.held x hx).1.to (fun b hb => hc.at b (held_lt (h.held x hx).1 hb) (fun k => k)), (h.held x hx).2⟩, h.up, ?_⟩
  · obtain ⟨B, hr⟩ := h.row
    exact ⟨B, row_of_blk hr (fun g hg => hc.at g (hr.lt g hg).2 (fun k => k))⟩
  · exact h.bel.trans (hc.bel h.bel.size (fun _ k => k.elim))
theorem Many.keep {w0 w w' : World} {es : List EngD} {ev : Value} {evs : List Ev} {hs : List Held} (h : Many w0 w es ev evs hs) (hc : Chg (fun _ => False) w w') : Many w0 w' es ev evs hs := by
  obtain ⟨Z, h⟩ := h
  exact ⟨Z, h.keep hc⟩
theorem Many.below {w0 w w' : World} {es : List EngD} {ev : Value} {evs : List Ev} {hs : List Held} (h : Many w0 w es ev evs hs) (hc : Below w.heap.size w w') : Many w0 w' es ev evs hs := h.keep (Chg.below _ hc)
theorem Many.drop {w0 w : World} {es : List EngD} {ev : Value} {evs : List Ev} {hs hs' : List Held} (h : Many w0 w es ev evs hs) (hh : ∀ x ∈ hs', x ∈ hs) : Many w0 w es ev evs hs' := by
  obtain ⟨Z, h⟩ := h
  exact ⟨Z, h.eng, h.apart, h.row, h.rowN, fun x hx => h.held x (hh x hx), h.up, h.bel⟩
theorem Many.lists {w0 w : World} {es : List EngD} {ev : Value} {evs : List Ev} {hs : List Held} (h : Many w0 w es ev evs hs) {x : Held} (hx : x ∈ hs) : ListsAt x.B w x.v x.xs := by
  obtain ⟨Z, h⟩ := h
  exact (h.held x hx).1
theorem Many.cells {w0 w : World} {es : List EngD} {ev : Value} {evs : List Ev} {hs : List Held} (h : Many w0 w es ev evs hs) : ∃ a c, ev = .slice a evs.length c ∧ (0 < evs.length → ∃ g, a = some ⟨g, 0, none⟩ ∧ g < w.heap.size ∧ ∀ k, (hk : k < evs.length) → w.cell? ⟨g, k * 5, none⟩ = some (.int .i64 evs[k].time) ∧ w.cell? ⟨g, k * 5 + 1, none⟩ = some (.int .i64 evs[k].kind) ∧ w.cell? ⟨g, k * 5 + 2, none⟩ = some (.int .i64 evs[k].a) ∧ w.cell? ⟨g, k * 5 + 3, none⟩ = some (.int .i64 evs[k].b) ∧ w.cell? ⟨g, k * 5 + 4, none⟩ = some (.int .i64 evs[k].c)) := by
  obtain ⟨Z, h⟩ := h
  obtain ⟨B, hr⟩ := h.row
  exact ev_cells hr
theorem many_begin {w0 w : World} {es : List EngD} {ev : Value} {evs : List Ev} {hs : List Held} (h : Many w0 w es ev evs hs) {s : ByteArray} {W R bd : Nat} {paths : List (List WStep)} (ht : TextOK s W R bd paths) :
    Calls Tryz.prog 24 #[.string s] w fun x w' => ∃ E pv svs, x = .returned (.pointer (some ⟨E, 0, none⟩)) ∧ Many w0 w' (es ++ [⟨E, bd, 0, ⟨W, R, pv, paths, svs⟩, []⟩]) ev evs hs := by
  refine (begin_p ht w).mono ?_
  rintro x w' ⟨E, Y, pv, svs, rfl, hb, hy, hE⟩
  refine ⟨E, pv, svs, rfl, ?_⟩
  have hk := h.below hb
  obtain ⟨Z0, h0⟩ := h
  obtain ⟨Z, h⟩ := hk
  have hold : ∀ i b, i < es.length → Z0 i b → b < w.heap.size := fun i b hi hz => (h0.eng i hi).lt b hz
  refine ⟨fun i b => if i < es.length then Z0 i b else Y b, fun i hi => ?_, fun i j b hi hj hij hz => ?_, ?_, fun g hg i hi hz => ?_, fun x hx => ⟨(h.held x hx).1, fun b hbo i hi hz => ?_⟩, fun i b hi hz => ?_, h.bel⟩
  · rw [List.length_append, List.length_singleton] at hi
    by_cases hl : i < es.length
    · have e : (fun b => if i < es.length then Z0 i b else Y b) = Z0 i := by funext b; rw [if_pos hl]
      rw [e]
      rw [List.getElem_append_left hl]
      exact (h0.eng i hl).to (Chg.below (fun _ => False) hb) (fun _ k => k.elim)
    · have e : (fun b => if i < es.length then Z0 i b else Y b) = Y := by funext b; rw [if_neg hl]
      rw [e]
      have ei : i = es.length := by omega
      subst ei
      rw [List.getElem_append_right (Nat.le_refl _)]
      simp only [Nat.sub_self, List.getElem_cons_zero]
      exact hE
  · rw [List.length_append, List.length_singleton] at hi hj
    by_cases h1 : i < es.length
    · rw [if_pos h1] at hz
      by_cases h2 : j < es.length
      · rw [if_pos h2]; exact h0.apart i j b h1 h2 hij hz
      · rw [if_neg h2]
        intro hy2
        have := hold i b h1 hz
        have := hy b hy2
        omega
    · rw [if_neg h1] at hz
      by_cases h2 : j < es.length
      · rw [if_pos h2]
        intro hz2
        have := hold j b h2 hz2
        have := hy b hz
        omega
      · omega
  · obtain ⟨B, hr⟩ := h.row
    exact ⟨B, hr⟩
  · rw [List.length_append, List.length_singleton] at hi
    by_cases h1 : i < es.length
    · rw [if_pos h1] at hz; exact h0.rowN g hg i h1 hz
    · rw [if_neg h1] at hz
      obtain ⟨B, hr⟩ := h0.row
      have := (hr.lt g hg).2
      have := hy g hz
      omega
  · rw [List.length_append, List.length_singleton] at hi
    by_cases h1 : i < es.length
    · rw [if_pos h1] at hz; exact (h0.held x hx).2 b hbo i h1 hz
    · rw [if_neg h1] at hz
      have := held_lt (h0.held x hx).1 hbo
      have := hy b hz
      omega
  · rw [List.length_append, List.length_singleton] at hi
    by_cases h1 : i < es.length
    · rw [if_pos h1] at hz; exact h0.up i b h1 hz
    · rw [if_neg h1] at hz
      have := hy b hz
      have := h0.bel.size
      omega
theorem many_feed {w0 w : World} {es : List EngD} {ev : Value} {evs : List Ev} {hs : List Held} (h : Many w0 w es ev evs hs) {i E bd : Nat} {c : WC} {ee : List Ev} (hd : es[i]? = some ⟨E, bd, 0, c, ee⟩) (hc : WellE c) (hel : ee.length ≤ 100000000) (e : Ev) (he : In64 e.time) (hz : feedFP c.win c.rate ee e.time = 0) :
    Calls Tryz.prog 26 #[.pointer (some ⟨E, 0, none⟩), evVal e] w fun x w' => ∃ B a cp xs, x = .returned (.tuple #[.slice a xs.length cp, .bool true]) ∧ SortedL (xs.map (·.2)) ∧ (∀ t, t ∈ xs.map (·.2) ↔ MatchOK (absP c.paths) c.win (ee ++ [e]) t) ∧ Many w0 w' (es.set i ⟨E, bd, 0, c, ee ++ [e]⟩) ev evs (⟨B, .slice a xs.length cp, xs⟩ :: hs) := by
  obtain ⟨Z, h⟩ := h
  obtain ⟨hi, hg⟩ := List.getElem?_eq_some_iff.1 hd
  have hE := h.eng i hi
  rw [hg] at hE
  refine (feedK_p hE hc hel e he hz).mono ?_
  rintro x w' ⟨Z', v, ys, rfl, F⟩
  obtain ⟨q1, q2, ⟨B, xs, q3, q4, q5, rfl⟩, q6, q7, q8⟩ := F
  obtain ⟨a, cp, ev', _⟩ := q3.read.form
  rw [List.length_map] at ev'
  subst ev'
  have hne : ∀ j b, j < es.length → j ≠ i → Z j b → ¬ Z i b := fun j b hj hji hzj => h.apart j i b hj hi hji hzj
  have hother : ∀ b, b < w.heap.size → ¬ Z i b → w'.heap[b]? = w.heap[b]? := fun b hb hn => q2.at b hb hn
  have hnew : ∀ b, b < w.heap.size → ¬ Z i b → ¬ Z' b := fun b hb hn hz' => by
    rcases q1 b hz' with k | k
    · exact hn k
    · omega
  refine ⟨B, a, cp, xs, rfl, q6, q7, fun j b => if j = i then Z' b else Z j b, fun j hj => ?_, fun j l b hj hl hjl hzj => ?_, ?_, fun g hg j hj hzj => ?_, fun x hx => ?_, fun j b hj hzj => ?_, ?_⟩
  · rw [List.length_set] at hj
    by_cases hji : j = i
    · subst hji
      have e : (fun b => if j = j then Z' b else Z j b) = Z' := by funext b; rw [if_pos rfl]
      rw [e]
      simp only [List.getElem_set_self]
      exact q8
    · have e : (fun b => if j = i then Z' b else Z j b) = Z j := by funext b; rw [if_neg hji]
      rw [e]
      simp only [List.getElem_set_ne (Ne.symm hji)]
      exact (h.eng j hj).to q2 (fun b hz1 hz2 => hne j b hj hji hz2 hz1)
  · rw [List.length_set] at hj hl
    by_cases hji : j = i
    · rw [if_pos hji] at hzj
      have hli : l ≠ i := fun e => hjl (hji.trans e.symm)
      rw [if_neg hli]
      intro hzl
      exact hnew b ((h.eng l hl).lt b hzl) (hne l b hl hli hzl) hzj
    · rw [if_neg hji] at hzj
      by_cases hli : l = i
      · rw [if_pos hli]
        exact hnew b ((h.eng j hj).lt b hzj) (hne j b hj hji hzj)
      · rw [if_neg hli]; exact h.apart j l b hj hl hjl hzj
  · obtain ⟨B2, hr⟩ := h.row
    exact ⟨B2, row_of_blk hr (fun g hg => hother g (hr.lt g hg).2 (h.rowN g hg i hi))⟩
  · rw [List.length_set] at hj
    by_cases hji : j = i
    · rw [if_pos hji] at hzj
      obtain ⟨B2, hr⟩ := h.row
      exact hnew g (hr.lt g hg).2 (h.rowN g hg i hi) hzj
    · rw [if_neg hji] at hzj; exact h.rowN g hg j hj hzj
  · rcases List.mem_cons.1 hx with rfl | hx
    · refine ⟨q3, fun b hb j hj hzj => ?_⟩
      rw [List.length_set] at hj
      by_cases hji : j = i
      · rw [if_pos hji] at hzj; exact q5 b hb hzj
      · rw [if_neg hji] at hzj
        have h1 := (h.eng j hj).lt b hzj
        have h2 : B ≤ b := by
          rcases hb with hb | ⟨y, hy, hb⟩
          · exact (q3.row.lt b hb).1
          · exact ((q3.inner y hy).lt b hb).1
        omega
    · obtain ⟨k1, k2⟩ := h.held x hx
      refine ⟨k1.to (fun b hb => hother b (held_lt k1 hb) (k2 b hb i hi)), fun b hb j hj hzj => ?_⟩
      rw [List.length_set] at hj
      by_cases hji : j = i
      · rw [if_pos hji] at hzj; exact hnew b (held_lt k1 hb) (k2 b hb i hi) hzj
      · rw [if_neg hji] at hzj; exact k2 b hb j hj hzj
  · rw [List.length_set] at hj
    by_cases hji : j = i
    · rw [if_pos hji] at hzj
      rcases q1 b hzj with k | k
      · exact h.up i b hi k
      · exact Nat.le_trans h.bel.size k
    · rw [if_neg hji] at hzj; exact h.up j b hj hzj
  · exact h.bel.trans (q2.bel h.bel.size (fun b hb => h.up i b hi hb))
theorem many_look {w0 w : World} {es : List EngD} {ev : Value} {evs : List Ev} {hs : List Held} (h : Many w0 w es ev evs hs) {i : Nat} {d : EngD} (hd : es[i]? = some d) :
    Calls Tryz.prog 16 #[.pointer (some ⟨d.E, 0, none⟩)] w fun x w' => ∃ m rl, Kept1 (absP d.c.paths) d.c.win d.evs (lastT d.evs) rl ∧ rl.length = m ∧ m ≤ boundA d.c.rate (absP d.c.paths) ∧ x = .returned (.agg #[.int .i64 (d.evs.length : Nat), .int .i64 (m : Nat), .int .i64 (d.bd : Nat), .int .i64 (d.f : Nat)]) ∧ Many w0 w' es ev evs hs := by
  have hE : ∃ Z, Eng Z w d.E d.bd d.f d.c d.evs := by
    obtain ⟨Z, h⟩ := h
    obtain ⟨hi, hg⟩ := List.getElem?_eq_some_iff.1 hd
    have := h.eng i hi
    rw [hg] at this
    exact ⟨_, this⟩
  obtain ⟨Z, hE⟩ := hE
  refine (look_eng hE).mono ?_
  rintro x w' ⟨m, rl, h1, h2, h3, h4, h5⟩
  exact ⟨m, rl, h1, h2, h3, h4, h.below h5⟩
theorem RawAt.to {w w' : World} {v : Value} {zs : List Int} (h : RawAt w v zs) (hb : Below w.heap.size w w') : RawAt w' v zs := by
  obtain ⟨⟨a, c, e, hc⟩, h64⟩ := h
  refine ⟨⟨a, c, e, fun h0 => ?_⟩, h64⟩
  obtain ⟨p, e1, e2, e3⟩ := hc h0
  exact ⟨p, e1, Nat.lt_of_lt_of_le e2 hb.size, fun k hk => (cell_blk _ (by rw [add_block]; exact hb.block _ e2)).trans (e3 k hk)⟩
theorem many_events {w0 w : World} {es : List EngD} (h : Many w0 w es (.slice none 0 0) [] []) {W R : Nat} {zs : List Int} {rv : Value} (hraw : RawAt w0 rv zs) (hl : zs.length ≤ 2000000) (hW : W ≤ 1000) (hR : 1 ≤ R ∧ R ≤ 100) :
    Calls Tryz.prog 29 #[rv, .pointer (some ⟨w.heap.size, 0, none⟩)] (w.alloc (.cells #[.int .i64 (W : Nat), .int .i64 (R : Nat), .slice none 0 0, .int .i64 0] 54)) fun x w' => ∃ a cp, x = .returned (.slice a zs.length cp) ∧ Many w0 w' es (.slice a zs.length cp) (clkEvs W R (rawN zs)) [] := by
  have hbel := h.bel
  have hb1 : Below w.heap.size w (w.alloc (.cells #[.int .i64 (W : Nat), .int .i64 (R : Nat), .slice none 0 0, .int .i64 0] 54)) := (Below.refl _ w).alloc (Nat.le_refl _) _
  have hraw1 := hraw.to (hbel.trans (hb1.mono hbel.size))
  have hne : 0 < zs.length → rv.ownBlock ≠ some w.heap.size := by
    obtain ⟨⟨a, c, rfl, hc⟩, _⟩ := hraw
    intro h0 e
    obtain ⟨q, rfl, e2, _⟩ := hc h0
    have e' : q.block = w.heap.size := by simpa [Value.ownBlock] using e
    have := hbel.size
    omega
  refine (evsK_p hraw1 hl (Blk.new w _ _) hne hW hR).mono ?_
  rintro x w' ⟨v, rfl, hr, hch⟩
  have hlen : (clkEvs W R (rawN zs)).length = zs.length := by rw [clk_len]; unfold rawN; simp
  rw [← hlen] at hr
  obtain ⟨a, cp, e, _⟩ := ev_cells hr
  rw [hlen] at e
  subst e
  refine ⟨a, cp, rfl, ?_⟩
  have hch2 : Chg (fun _ => False) w w' := ((Chg.refl _ w).alloc _).trans hch (fun b hb e => by omega)
  obtain ⟨Z, h0⟩ := h
  have k := h0.keep hch2
  refine ⟨Z, k.eng, k.apart, ⟨_, hr⟩, fun g hg i hi hz => ?_, fun x hx => by simp at hx, k.up, k.bel⟩
  have h1 := (h0.eng i hi).lt g hz
  have h2 := (hr.lt g hg).1
  simp at h2
  omega
end Go.Proofs.YtddbjcfdmdbmkaaGreatDoor

namespace Go.Proofs.YtddbjcfdmdbmkaaGreatDoor
open Go.RowKit

structure ClkGood (W R n : Nat) (evs : List Ev) : Prop where
  len : evs.length = n
  feed : ∀ i, (hi : i < evs.length) → feedFP W R (evs.take i) evs[i].time = 0
  low : ∀ i, (hi : i < evs.length) → 0 ≤ evs[i].time
  high : ∀ i, (hi : i < evs.length) → evs[i].time ≤ 1000000000000
  mono : ∀ i, Mono (evs.take i)
theorem clk_good {W R : Nat} {zs : List Int} (hl : zs.length ≤ 2000000) (hW : W ≤ 1000) (hR : 1 ≤ R) : ClkGood W R zs.length (clkEvs W R (rawN zs)) := by
  have hn : (rawN zs).length = zs.length := by unfold rawN; simp
  have hlen : (clkEvs W R (rawN zs)).length = zs.length := by rw [clk_len, hn]
  have hall := clk_all (W := (W : Int)) (by omega) hR (rawN zs)
  refine ⟨hlen, fun i hi => ?_, fun i hi => ?_, fun i hi => ?_, fun i => ?_⟩
  · rw [hlen] at hi
    have := clk_feed (W := (W : Int)) (by omega) hR (rawN zs) (i := i) (by omega)
    rw [clk_take W R (rawN zs) i (by omega), ← evAt_get]
    exact this
  · have := hall.low i hi
    rwa [evAt_get hi] at this
  · have h1 := hall.high i hi
    rw [evAt_get hi] at h1
    have h3 : ((W : Int) + 3) * ((i : Int) + 1) ≤ 1003 * 2000001 := Int.mul_le_mul (by omega) (by omega) (by omega) (by omega)
    omega
  · by_cases hi : i ≤ (rawN zs).length
    · rw [clk_take W R (rawN zs) i hi]
      exact (clk_all (W := (W : Int)) (by omega) hR _).mono
    · rw [List.take_of_length_le (by omega)]
      exact hall.mono
theorem take_next {evs : List Ev} {i : Nat} (hi : i < evs.length) : evs.take (i + 1) = evs.take i ++ [evs[i]] := List.take_succ_eq_append_getElem hi
theorem in64_small {x : Int} (h0 : 0 ≤ x) (h1 : x ≤ 1000000000000) : In64 x := by unfold In64; omega
theorem Many.ev {w0 w : World} {es : List EngD} {g n c : Nat} {evs : List Ev} {hs : List Held} (h : Many w0 w es (.slice (some ⟨g, 0, none⟩) n c) evs hs) {k : Nat} (hk : k < evs.length) : g < w.heap.size ∧ w.cell? ⟨g, k * 5, none⟩ = some (.int .i64 evs[k].time) ∧ w.cell? ⟨g, k * 5 + 1, none⟩ = some (.int .i64 evs[k].kind) ∧ w.cell? ⟨g, k * 5 + 2, none⟩ = some (.int .i64 evs[k].a) ∧ w.cell? ⟨g, k * 5 + 3, none⟩ = some (.int .i64 evs[k].b) ∧ w.cell? ⟨g, k * 5 + 4, none⟩ = some (.int .i64 evs[k].c) := by
  obtain ⟨a, c', e, hc⟩ := h.cells
  obtain ⟨g', e', h1, h2⟩ := hc (by omega)
  subst e'
  injection e with e1 e2 e3
  injection e1 with e1
  injection e1 with e1
  subst e1
  exact ⟨h1, h2 k hk⟩
theorem Many.evB {w0 w : World} {es : List EngD} {a : Option Addr} {n c : Nat} {evs : List Ev} {hs : List Held} (h : Many w0 w es (.slice a n c) evs hs) (h0 : 0 < evs.length) : ∃ g, a = some ⟨g, 0, none⟩ := by
  obtain ⟨a', c', e, hc⟩ := h.cells
  obtain ⟨g', e', h1, h2⟩ := hc h0
  injection e with e1 e2 e3
  exact ⟨g', by rw [e1, e']⟩
theorem ListsAt.at {B : Nat} {w : World} {a : Option Addr} {m c : Nat} {xs : List VL} (h : ListsAt B w (.slice a m c) xs) {n : Nat} (hn : n < xs.length) : ∃ g, a = some ⟨g, 0, none⟩ ∧ g < w.heap.size ∧ w.cell? ⟨g, n, none⟩ = some xs[n].1 ∧ IntsAt w xs[n].1 xs[n].2 := by
  rcases h.row.2 with ⟨e, h0⟩ | ⟨g, cap, cur, e, _, hg, _⟩
  · omega
  · injection e with e1 e2 e3
    refine ⟨g, e1, (Array.getElem?_eq_some_iff.1 hg).1, ?_, IntsAt.of_row (h.inner xs[n] (List.getElem_mem hn))⟩
    have := h.row.cells (g := g) (by rw [e1]; rfl) n xs[n].1 (by rw [List.getElem?_map, List.getElem?_eq_getElem hn]; rfl)
    rw [addr_add, Nat.zero_add] at this
    exact this
end Go.Proofs.YtddbjcfdmdbmkaaGreatDoor

namespace Go.Proofs.YtddbjcfdmdbmkaaGreatDoor
open Go.RowKit

theorem ManyZ.upd {Z : Nat → Nat → Prop} {w0 w w' : World} {es : List EngD} {ev : Value} {evs : List Ev} {hs : List Held} (h : ManyZ Z w0 w es ev evs hs) {i : Nat} (hi : i < es.length) {Z' : Nat → Prop} (q1 : ∀ b, Z' b → Z i b ∨ w.heap.size ≤ b) (q2 : Chg (Z i) w w') (d : EngD) (q8 : Eng Z' w' d.E d.bd d.f d.c d.evs) : ManyZ (fun j b => if j = i then Z' b else Z j b) w0 w' (es.set i d) ev evs hs := by
  have hne : ∀ j b, j < es.length → j ≠ i → Z j b → ¬ Z i b := fun j b hj hji hzj => h.apart j i b hj hi hji hzj
  have hother : ∀ b, b < w.heap.size → ¬ Z i b → w'.heap[b]? = w.heap[b]? := fun b hb hn => q2.at b hb hn
  have hnew : ∀ b, b < w.heap.size → ¬ Z i b → ¬ Z' b := fun b hb hn hz' => by
    rcases q1 b hz' with k | k
    · exact hn k
    · omega
  refine ⟨fun j hj => ?_, fun j l b hj hl hjl hzj => ?_, ?_, fun g hg j hj hzj => ?_, fun x hx => ?_, fun j b hj hzj => ?_, ?_⟩
  · rw [List.length_set] at hj
    by_cases hji : j = i
    · subst hji
      have e : (fun b => if j = j then Z' b else Z j b) = Z' := by funext b; rw [if_pos rfl]
      rw [e]
      simp only [List.getElem_set_self]
      exact q8
    · have e : (fun b => if j = i then Z' b else Z j b) = Z j := by funext b; rw [if_neg hji]
      rw [e]
      simp only [List.getElem_set_ne (Ne.symm hji)]
      exact (h.eng j hj).to q2 (fun b hz1 hz2 => hne j b hj hji hz2 hz1)
  · rw [List.length_set] at hj hl
    by_cases hji : j = i
    · rw [if_pos hji] at hzj
      have hli : l ≠ i := fun e => hjl (hji.trans e.symm)
      rw [if_neg hli]
      intro hzl
      exact hnew b ((h.eng l hl).lt b hzl) (hne l b hl hli hzl) hzj
    · rw [if_neg hji] at hzj
      by_cases hli : l = i
      · rw [if_pos hli]
        exact hnew b ((h.eng j hj).lt b hzj) (hne j b hj hji hzj)
      · rw [if_neg hli]; exact h.apart j l b hj hl hjl hzj
  · obtain ⟨B2, hr⟩ := h.row
    exact ⟨B2, row_of_blk hr (fun g hg => hother g (hr.lt g hg).2 (h.rowN g hg i hi))⟩
  · rw [List.length_set] at hj
    by_cases hji : j = i
    · rw [if_pos hji] at hzj
      obtain ⟨B2, hr⟩ := h.row
      exact hnew g (hr.lt g hg).2 (h.rowN g hg i hi) hzj
    · rw [if_neg hji] at hzj; exact h.rowN g hg j hj hzj
  · obtain ⟨k1, k2⟩ := h.held x hx
    refine ⟨k1.to (fun b hb => hother b (held_lt k1 hb) (k2 b hb i hi)), fun b hb j hj hzj => ?_⟩
    rw [List.length_set] at hj
    by_cases hji : j = i
    · rw [if_pos hji] at hzj; exact hnew b (held_lt k1 hb) (k2 b hb i hi) hzj
    · rw [if_neg hji] at hzj; exact k2 b hb j hj hzj
  · rw [List.length_set] at hj
    by_cases hji : j = i
    · rw [if_pos hji] at hzj
      rcases q1 b hzj with k | k
      · exact h.up i b hi k
      · exact Nat.le_trans h.bel.size k
    · rw [if_neg hji] at hzj; exact h.up j b hj hzj
  · exact h.bel.trans (q2.bel h.bel.size (fun b hb => h.up i b hi hb))
theorem many_refuse {w0 w : World} {es : List EngD} {ev : Value} {evs : List Ev} {hs : List Held} (h : Many w0 w es ev evs hs) {i E bd f : Nat} {c : WC} {ee : List Ev} (hd : es[i]? = some ⟨E, bd, f, c, ee⟩) (hc : WellE c) (hel : ee.length ≤ 100000000) (e : Ev) (he : In64 e.time) {r : Nat} (hr : f = r ∧ f ≠ 0 ∨ f = 0 ∧ feedFP c.win c.rate ee e.time = r ∧ r ≠ 0) :
    Calls Tryz.prog 27 #[.pointer (some ⟨E, 0, none⟩), evVal e] w fun x w' => x = .returned (.tuple #[.slice none 0 0, .int .i64 (r : Nat)]) ∧ Many w0 w' (es.set i ⟨E, bd, r, c, ee⟩) ev evs hs := by
  obtain ⟨Z, h⟩ := h
  obtain ⟨hi, hg⟩ := List.getElem?_eq_some_iff.1 hd
  have hE := h.eng i hi
  rw [hg] at hE
  refine (feed_eng hE hc hel e he).mono ?_
  rintro x w' ⟨S', f', evs', h1, h2, h3, h4⟩
  generalize hff : EngD.f ⟨E, bd, f, c, ee⟩ = f0 at h3
  have hff : f = f0 := hff
  cases h3 with
  | failed hf =>
    rcases hr with ⟨rfl, _⟩ | ⟨k, _⟩
    · subst hff
      exact ⟨rfl, _, h.upd hi h1 h2 _ h4⟩
    · exact absurd (hff.symm.trans k) hf
  | fault hf =>
    rcases hr with ⟨_, k⟩ | ⟨_, k2, _⟩
    · exact absurd hff k
    · subst k2
      exact ⟨rfl, _, h.upd hi h1 h2 _ h4⟩
  | ok h5 =>
    rcases hr with ⟨_, k⟩ | ⟨_, k2, k3⟩
    · exact absurd hff k
    · exact absurd (k2.symm.trans h5) k3
def ManyK (K : Nat → Prop) (w0 w : World) (es : List EngD) (ev : Value) (evs : List Ev) (hs : List Held) : Prop := ∃ Z, ManyZ Z w0 w es ev evs hs ∧ ∀ b, K b → b < w.heap.size ∧ ∀ i, i < es.length → ¬ Z i b
theorem Many.new {w0 w : World} {es : List EngD} {ev : Value} {evs : List Ev} {hs : List Held} (h : Many w0 w es ev evs hs) (o : Obj) : ManyK (fun b => b = w.heap.size) w0 (w.alloc o) es ev evs hs := by
  obtain ⟨Z, h⟩ := h
  refine ⟨Z, h.keep ((Chg.refl _ w).alloc o), fun b hb => ⟨by simp; omega, fun i hi hz => ?_⟩⟩
  have := (h.eng i hi).lt b hz
  omega
theorem ManyK.many {K : Nat → Prop} {w0 w : World} {es : List EngD} {ev : Value} {evs : List Ev} {hs : List Held} (h : ManyK K w0 w es ev evs hs) : Many w0 w es ev evs hs := by
  obtain ⟨Z, h, _⟩ := h
  exact ⟨Z, h⟩
theorem ManyK.below {K : Nat → Prop} {w0 w w' : World} {es : List EngD} {ev : Value} {evs : List Ev} {hs : List Held} (h : ManyK K w0 w es ev evs hs) (hb : Below w.heap.size w w') : ManyK K w0 w' es ev evs hs := by
  obtain ⟨Z, h, hk⟩ := h
  exact ⟨Z, h.keep (Chg.below _ hb), fun b hb' => ⟨Nat.lt_of_lt_of_le (hk b hb').1 hb.size, (hk b hb').2⟩⟩
theorem manyK_refuse {K : Nat → Prop} {w0 w : World} {es : List EngD} {ev : Value} {evs : List Ev} {hs : List Held} (h : ManyK K w0 w es ev evs hs) {i E bd f : Nat} {c : WC} {ee : List Ev} (hd : es[i]? = some ⟨E, bd, f, c, ee⟩) (hc : WellE c) (hel : ee.length ≤ 100000000) (e : Ev) (he : In64 e.time) {r : Nat} (hr : f = r ∧ f ≠ 0 ∨ f = 0 ∧ feedFP c.win c.rate ee e.time = r ∧ r ≠ 0) :
    Calls Tryz.prog 27 #[.pointer (some ⟨E, 0, none⟩), evVal e] w fun x w' => x = .returned (.tuple #[.slice none 0 0, .int .i64 (r : Nat)]) ∧ ManyK K w0 w' (es.set i ⟨E, bd, r, c, ee⟩) ev evs hs ∧ ∀ b, K b → w'.heap[b]? = w.heap[b]? := by
  obtain ⟨Z, h, hk⟩ := h
  obtain ⟨hi, hg⟩ := List.getElem?_eq_some_iff.1 hd
  have hE := h.eng i hi
  rw [hg] at hE
  refine (feed_eng hE hc hel e he).mono ?_
  rintro x w' ⟨S', f', evs', h1, h2, h3, h4⟩
  have hK : ∀ b, K b → w'.heap[b]? = w.heap[b]? := fun b hb => h2.at b (hk b hb).1 ((hk b hb).2 i hi)
  have hKn : ∀ b, K b → b < w'.heap.size ∧ ∀ j, j < es.length → ¬ (if j = i then S' b else Z j b) := fun b hb => ⟨Nat.lt_of_lt_of_le (hk b hb).1 h2.size, fun j hj hz => by
    by_cases hji : j = i
    · rw [if_pos hji] at hz
      rcases h1 b hz with q | q
      · exact (hk b hb).2 i hi q
      · have := (hk b hb).1
        omega
    · rw [if_neg hji] at hz
      exact (hk b hb).2 j hj hz⟩
  generalize hff : EngD.f ⟨E, bd, f, c, ee⟩ = f0 at h3
  have hff : f = f0 := hff
  cases h3 with
  | failed hf =>
    rcases hr with ⟨rfl, _⟩ | ⟨k, _⟩
    · subst hff
      exact ⟨rfl, ⟨_, h.upd hi h1 h2 _ h4, fun b hb => by rw [List.length_set]; exact hKn b hb⟩, hK⟩
    · exact absurd (hff.symm.trans k) hf
  | fault hf =>
    rcases hr with ⟨_, k⟩ | ⟨_, k2, _⟩
    · exact absurd hff k
    · subst k2
      exact ⟨rfl, ⟨_, h.upd hi h1 h2 _ h4, fun b hb => by rw [List.length_set]; exact hKn b hb⟩, hK⟩
  | ok h5 =>
    rcases hr with ⟨_, k⟩ | ⟨_, k2, k3⟩
    · exact absurd hff k
    · exact absurd (k2.symm.trans h5) k3
end Go.Proofs.YtddbjcfdmdbmkaaGreatDoor

namespace Go.Proofs.YtddbjcfdmdbmkaaGreatDoor
open Go.RowKit

theorem decL_size {n : Nat} (h : n ≤ 999999999) : (txt (decL n)).size ≤ 9 := by
  have h1 := dec_len 8 n (by omega)
  have h2 : (txt (decL n)).size = (decL n).length := by show (decL n).toArray.size = _; simp
  omega
theorem head_size {W R : Nat} (hW : W ≤ 999999999) (hR : R ≤ 999999999) : (headB W R).size ≤ 40 := by
  have h1 : (headB W R).size = (headB W R).data.toList.length := by simp
  have h2 := dec_len 8 W (by omega)
  have h3 := dec_len 8 R (by omega)
  rw [h1, head_lay]
  simp [headPc, layL]
  omega
theorem lists_of {B : Nat} {w : World} {v : Value} {fl : List VL} (h : w.ownsRow B 48 1 v fl.length (fl.map (·.1))) (hin : ∀ x ∈ fl, IntsAt w x.1 x.2) : ListsR w v (fl.map (·.2)) := by
  refine ⟨?_⟩
  rcases h.2 with ⟨rfl, h0⟩ | ⟨g, cap, cur, rfl, _, hg, _⟩
  · exact ⟨none, 0, by rw [List.length_map, h0], fun hp => by rw [List.length_map] at hp; omega⟩
  · refine ⟨_, _, by rw [List.length_map], fun _ => ⟨g, rfl, (Array.getElem?_eq_some_iff.1 hg).1, fun k hk => ?_⟩⟩
    have hk' : k < fl.length := by simpa using hk
    refine ⟨fl[k].1, ?_, ?_⟩
    · have := h.cells (g := g) rfl k fl[k].1 (by rw [List.getElem?_map, List.getElem?_eq_getElem hk']; rfl)
      rw [addr_add, Nat.zero_add] at this; exact this
    · have := hin fl[k] (List.getElem_mem hk')
      simpa using this
theorem ListsAt.ints {B : Nat} {w : World} {v : Value} {xs : List VL} (h : ListsAt B w v xs) : ∀ x ∈ xs, IntsAt w x.1 x.2 := fun x hx => IntsAt.of_row (h.inner x hx)
theorem ListsAt.below {B : Nat} {w w' : World} {v : Value} {xs : List VL} (h : ListsAt B w v xs) (hb : Below w.heap.size w w') : ListsAt B w' v xs :=
  h.to fun b hb' => hb.block b (by
    rcases hb' with k | ⟨y, hy, k⟩
    · exact (h.row.lt b k).2
    · exact ((h.inner y hy).lt b k).2)
theorem drewN_below {w w' : World} {q : Nat} (h : w' = w.drewN q) : Below w.heap.size w w' := by
  subst h
  exact ⟨rfl, rfl, rfl, Nat.le_refl _, fun _ _ => rfl⟩
theorem beq_dec (x y : Int) : (x == y) = decide (x = y) := by rw [Bool.eq_iff_iff]; simp
theorem below_drewN {B n : Nat} {w w' : World} (h : Below B w w') : Below B w (w'.drewN n) := ⟨h.os, h.tape, h.output, h.size, h.block⟩
theorem ints_two {w : World} {v : Value} {a b : Nat} {l : List Nat} (h : IntsAt w v l) (e : l = [a, b]) : ∃ g c, v = .slice (some ⟨g, 0, none⟩) 2 c ∧ g < w.heap.size ∧ w.cell? ⟨g, 0, none⟩ = some (.int .i64 (a : Nat)) ∧ w.cell? ⟨g, 1, none⟩ = some (.int .i64 (b : Nat)) := by
  subst e
  obtain ⟨p, c, rfl, hc⟩ := h
  obtain ⟨g, rfl, hg, hk⟩ := hc (by simp)
  exact ⟨g, c, rfl, hg, hk 0 (by simp), hk 1 (by simp)⟩
theorem many_look2 {w0 w : World} {es : List EngD} {ev : Value} {evs : List Ev} {hs : List Held} (h : Many w0 w es ev evs hs) {i E bd f : Nat} {c : WC} {ee : List Ev} (hd : es[i]? = some ⟨E, bd, f, c, ee⟩) :
    Calls Tryz.prog 16 #[.pointer (some ⟨E, 0, none⟩)] w fun x w' => ∃ m rl, Kept1 (absP c.paths) c.win ee (lastT ee) rl ∧ rl.length = m ∧ m ≤ boundA c.rate (absP c.paths) ∧ x = .returned (.agg #[.int .i64 (ee.length : Nat), .int .i64 (m : Nat), .int .i64 (bd : Nat), .int .i64 (f : Nat)]) ∧ Below w.heap.size w w' ∧ Many w0 w' es ev evs hs := by
  have hE : ∃ Z, Eng Z w E bd f c ee := by
    obtain ⟨Z, h⟩ := h
    obtain ⟨hi, hg⟩ := List.getElem?_eq_some_iff.1 hd
    have := h.eng i hi
    rw [hg] at this
    exact ⟨_, this⟩
  obtain ⟨Z, hE⟩ := hE
  refine (look_eng hE).mono ?_
  rintro x w' ⟨m, rl, h1, h2, h3, h4, h5⟩
  exact ⟨m, rl, h1, h2, h3, h4, h5, h.below h5⟩
end Go.Proofs.YtddbjcfdmdbmkaaGreatDoor

namespace Go.Proofs.YtddbjcfdmdbmkaaGreatDoor
open Go.RowKit

def soPreB (i g : Nat) : List UInt8 := if i = 0 then [] else [32, 116, 104, 101, 110, 32] ++ (match g with | 0 => [] | j + 1 => [110, 111, 116, 32] ++ (decL j ++ [32, 105, 102, 32, 105, 116, 46, 99, 32, 62, 32, 49, 32, 116, 104, 101, 110, 32]))
def soPostB (i : Nat) (me pr fi : UInt8) (q : Nat) : List UInt8 :=
  if q = 0 then [32, 105, 102, 32, 105, 116, 46, 97, 32, 62, 32, 48]
  else if i = 0 then []
  else if q = 1 then [32, 105, 102, 32] ++ ([me] ++ ([46, 97, 32, 62, 61, 32] ++ ([pr] ++ [46, 97, 32, 111, 114, 32, 105, 116, 46, 98, 32, 61, 32, 48])))
  else if q = 2 then [32, 105, 102, 32] ++ ([fi] ++ ([46, 98, 32, 43, 32, 105, 116, 46, 98, 32, 33, 61, 32, 50, 32, 97, 110, 100, 32, 105, 116, 46, 116, 32, 62, 32] ++ ([fi] ++ [46, 116])))
  else []
theorem so_post (i : Nat) (me pr fi : UInt8) (q : Nat) : layL (soC i me pr fi q) = soPostB i me pr fi q := by
  unfold soC soPostB
  split
  · rfl
  split
  · rfl
  split
  · rfl
  split
  · rfl
  · rfl
theorem so_one (fr i : Nat) (o : SO) (hi : i ≠ 0) : layL (soT fr i [o]) = soPreB i o.g ++ ([nameB (fr + i)] ++ ([58] ++ (decL o.k ++ soPostB i (nameB (fr + i)) (nameB (fr + i - 1)) (nameB fr) o.q))) := by
  unfold soT soT soL soPreB
  rw [if_neg hi, lay_app]
  show layL (soGT o.g) ++ layL (thenPc :: (stepPc [32] (nameB (fr + i)) (decL o.k) ++ soC i _ _ _ o.q ++ [])) = _
  rw [List.append_nil, ← so_post]
  cases o.g with
  | zero => simp [soGT, layL, thenPc, stepPc, lay_app]
  | succ j => simp [soGT, soG, layL, thenPc, stepPc, lay_app, ifPc, itPc]
theorem so_snocB (fr : Nat) (os : List SO) (o : SO) : layL (soSeq [] fr (os ++ [o])) = layL (soSeq [] fr os) ++ (soPreB os.length o.g ++ ([nameB (fr + os.length)] ++ ([58] ++ (decL o.k ++ soPostB os.length (nameB (fr + os.length)) (nameB (fr + os.length - 1)) (nameB fr) o.q)))) := by
  cases os with
  | nil =>
    show layL (soL [] 0 (nameB fr) (nameB (fr - 1)) (nameB fr) o ++ []) = [] ++ _
    rw [List.append_nil]
    unfold soL
    rw [lay_app, so_post]
    simp [layL, stepPc, soPreB]
  | cons a os =>
    show layL (soL [] 0 (nameB fr) (nameB (fr - 1)) (nameB fr) a ++ soT fr 1 (os ++ [o])) = layL (soL [] 0 (nameB fr) (nameB (fr - 1)) (nameB fr) a ++ soT fr 1 os) ++ _
    rw [soT_snoc, ← List.append_assoc, lay_app, so_one _ _ _ (by omega), show 1 + os.length = (a :: os).length by simp; omega]
def soOf (c : Nat) : SO := ⟨c % 3, if c / 20 % 5 ≤ 2 then c / 20 % 5 else 3, if c % 7 = 0 then c / 7 % 3 + 1 else 0⟩
def soOs (zs : List Int) (n : Nat) : List SO := (List.range n).map fun i => soOf (pickP (zs.getD i 0) 1000)
theorem so_okOf (c : Nat) : (soOf c).k ≤ 2 ∧ (soOf c).q ≤ 3 ∧ (soOf c).g ≤ 3 := by
  unfold soOf
  refine ⟨?_, ?_, ?_⟩
  · show c % 3 ≤ 2; omega
  · show (if c / 20 % 5 ≤ 2 then c / 20 % 5 else 3) ≤ 3
    split <;> omega
  · show (if c % 7 = 0 then c / 7 % 3 + 1 else 0) ≤ 3
    split <;> omega
theorem soOs_ok (zs : List Int) (n : Nat) : SoOK (soOs zs n) := by
  intro o ho
  obtain ⟨i, _, rfl⟩ := List.mem_map.1 ho
  exact so_okOf _
theorem soOs_len (zs : List Int) (n : Nat) : (soOs zs n).length = n := by unfold soOs; simp
theorem soOs_succ (zs : List Int) (n : Nat) : soOs zs (n + 1) = soOs zs n ++ [soOf (pickP (zs.getD n 0) 1000)] := by
  unfold soOs
  rw [List.range_succ, List.map_append]
  rfl
def stepsB (zs : List Int) (fr n : Nat) : List UInt8 := layL (soSeq [] fr (soOs zs n))
theorem steps_succ (zs : List Int) (fr n : Nat) : stepsB zs fr (n + 1) = stepsB zs fr n ++ (soPreB n (soOf (pickP (zs.getD n 0) 1000)).g ++ ([nameB (fr + n)] ++ ([58] ++ (decL (soOf (pickP (zs.getD n 0) 1000)).k ++ soPostB n (nameB (fr + n)) (nameB (fr + n - 1)) (nameB fr) (soOf (pickP (zs.getD n 0) 1000)).q)))) := by
  unfold stepsB
  rw [soOs_succ, so_snocB, soOs_len]
theorem steps_len {zs : List Int} {fr n : Nat} (hf : fr ≤ 3) (hn : n ≤ 4) (hl : fr + n ≤ 6) : (stepsB zs fr n).length ≤ 280 := by
  cases n with
  | zero => simp [stepsB, soOs, soSeq, layL]
  | succ n =>
    have h := (so_all (nb := 0) hf (soOs_ok zs (n + 1)) (by intro h; have := soOs_len zs (n + 1); rw [h] at this; simp at this) (by rw [soOs_len]; omega) (by rw [soOs_len]; omega) (by simp [nbs])).2.2.2.1
    rw [soOs_len] at h
    unfold stepsB
    omega
theorem soPre_len (i c : Nat) : (soPreB i (soOf c).g).length ≤ 40 := by
  have hg := (so_okOf c).2.2
  generalize (soOf c).g = g at *
  unfold soPreB
  split
  · simp
  · cases g with
    | zero => simp
    | succ j =>
      have := dec_len 8 j (by omega)
      simp
      omega
set_option maxRecDepth 100000 in
theorem numberK_p {w : World} {v : Value} {zs : List Int} (h : RawAt w v zs) (i : Nat) (hi : i ≤ 1000) : Calls Tryz.prog 50 #[v, .int .i64 (i : Nat)] w fun x w' => x = .returned (.int .i64 (zs.getD i 0)) ∧ w' = w := by
  obtain ⟨⟨a, c, rfl, hc⟩, _⟩ := h
  by_cases hlt : i < zs.length
  · obtain ⟨p, rfl, hp, hk⟩ := hc (by omega)
    have hcell := hk i hlt
    have e : zs.getD i 0 = zs[i] := by simp [List.getD, hlt]
    rw [e]
    generalize zs[i] = z at *
    have h1 : ¬ (zs.length : Int) ≤ (i : Int) := by omega
    have h2 : (i : Int) < (zs.length : Int) := by omega
    have h3 : (0 : Int) ≤ (i : Int) := by omega
    clear hk hc
    go_enter Tryz.func50, Tryz.ntmps50
    go_wp2
    go_ret
    exact ⟨rfl, rfl⟩
  · have e : zs.getD i 0 = 0 := by simp [List.getD, hlt]
    rw [e]
    have h1 : (zs.length : Int) ≤ (i : Int) := by omega
    clear hc
    go_enter Tryz.func50, Tryz.ntmps50
    go_wp2
    go_ret
    exact ⟨rfl, rfl⟩
theorem getD_in64 {w : World} {v : Value} {zs : List Int} (h : RawAt w v zs) (i : Nat) : In64 (zs.getD i 0) := by
  by_cases hlt : i < zs.length
  · have e : zs.getD i 0 = zs[i] := by simp [List.getD, hlt]
    rw [e]; exact h.in64 _ (List.getElem_mem hlt)
  · have e : zs.getD i 0 = 0 := by simp [List.getD, hlt]
    rw [e]; unfold In64; omega
end Go.Proofs.YtddbjcfdmdbmkaaGreatDoor

namespace Go.Proofs.YtddbjcfdmdbmkaaGreatDoor
open Go.RowKit

theorem str_ext {a b : ByteArray} (h : a.data.toList = b.data.toList) : a = b := by
  apply ByteArray.ext
  exact Array.ext' h
set_option maxRecDepth 100000 in
set_option maxHeartbeats 3200000 in
theorem steps_p {w : World} {rv : Value} {zs : List Int} (hraw : RawAt w rv zs) (n fr : Nat) (hn : n ≤ 4) (hf : fr ≤ 3) (hl : fr + n ≤ 6) :
    Calls Tryz.prog 28 #[rv, .int .i64 (n : Nat), .int .i64 (fr : Nat)] w fun x w' => ∃ S : ByteArray, x = .returned (.string S) ∧ S.data.toList = stepsB zs fr n ∧ Below w.heap.size w w' := by
  obtain ⟨va, vc, hrv, _⟩ := hraw.form
  subst hrv
  go_enter Tryz.func28, Tryz.ntmps28
  go_wp2
  go_loopw [7, 8] (fun sv iv wr => ∃ (i : Nat) (B : ByteArray), i ≤ n ∧ sv = .string B ∧ iv = .int .i64 (i : Nat) ∧ B.data.toList = stepsB zs fr i ∧ Below w.heap.size w wr) (fun _ iv _ => n - (intOf iv).toNat)
  case atStart => exact ⟨0, ⟨#[]⟩, Nat.zero_le _, rfl, rfl, rfl, Below.refl _ _⟩
  case round =>
    obtain ⟨i, B, hi, rfl, rfl, hB, hbel⟩ := hrel
    have hBl : B.size ≤ 280 := by
      have h1 : B.size = B.data.toList.length := by simp
      rw [h1, hB]
      exact steps_len hf (by omega) (by omega)
    by_cases hlt : i < n
    · have hni : (i : Int) < (n : Int) := by omega
      have hnum := numberK_p (hraw.to hbel) i (by omega)
      have hpk := fun w1 => pick_p (zs.getD i 0) 1000 (getD_in64 hraw i) (by omega) (by omega) w1
      have hck := pick_lt (zs.getD i 0) (show 0 < 1000 by omega)
      have HS : Hid _ := steps_succ zs fr i
      generalize pickP (zs.getD i 0) 1000 = c at *
      generalize zs.getD i 0 = z at *
      simp only [Int.cast_ofNat_Int] at hpk
      have hme := fun w1 => name_p (fr + i) (by omega) w1
      have e1 : ((fr + i : Nat) : Int) = (fr : Int) + (i : Int) := by omega
      rw [e1] at hme
      have hd1 := fun w1 => decimal_p (c % 3) (by omega) w1
      have e2 : ((c % 3 : Nat) : Int) = (c : Int) % 3 := by omega
      rw [e2] at hd1
      have hs1 := decL_size (n := c % 3) (by omega)
      clear e1 e2
      go_upto_region 6 with (first
        | (go_at_call 50; refine hnum.mono ?_; rintro x1 w1 ⟨rfl, e⟩; rw [e]; clear e w1)
        | (go_at_call 21; refine (hpk _).mono ?_; rintro x1 w1 ⟨rfl, e⟩; rw [e]; clear e w1))
      go_upto_if 21 with fail
      go_cut [7] from 11 to 83 (fun sv wx => ∃ B1 : ByteArray, sv = .string B1 ∧ B1.data.toList = stepsB zs fr i ++ soPreB i (soOf c).g ∧ wx = wr)
      case first =>
        by_cases hi0 : i = 0
        · have hi' : ¬ (0 : Int) < (i : Int) := by omega
          have HI : Hid (stepsB zs fr i = stepsB zs fr i ++ soPreB i (soOf c).g) := by
            show _ = _
            unfold soPreB
            rw [if_pos hi0, List.append_nil]
          clear hi0
          go_wp2
          go_meet
          exact ⟨B, rfl, by rw [← HI.out]; exact hB, rfl⟩
        · have hi' : (0 : Int) < (i : Int) := by omega
          have g1 : ¬ 9223372036854775807 < B.size + 6 := by omega
          by_cases hc7 : c % 7 = 0
          · have hc7' : (c : Int) % 7 = 0 := by omega
            have hd2 := fun w1 => decimal_p (c / 7 % 3) (by omega) w1
            have e2 : ((c / 7 % 3 : Nat) : Int) = (c : Int) / 7 % 3 := by omega
            rw [e2] at hd2
            clear e2
            have hs2 := decL_size (n := c / 7 % 3) (by omega)
            have eD : (txt (decL (c / 7 % 3))).data.toList = decL (c / 7 % 3) := by unfold txt; simp
            generalize txt (decL (c / 7 % 3)) = D at *
            have g2 : ¬ 9223372036854775807 < B.size + 6 + 4 := by omega
            have g3 : ¬ 9223372036854775807 < B.size + 6 + 4 + D.size := by omega
            have g4 : ¬ 9223372036854775807 < B.size + 6 + 4 + D.size + 18 := by omega
            go_wp2_with (go_at_call 33; refine (hd2 _).mono ?_; rintro x1 w1 ⟨rfl, e⟩; rw [e]; clear e w1)
            go_meet
            refine ⟨_, rfl, ?_, rfl⟩
            · have eg : (soOf c).g = c / 7 % 3 + 1 := by unfold soOf; simp [hc7]
              rw [eg]
              unfold soPreB
              rw [if_neg hi0]
              simp [hB, eD]
          · have hc7' : ((c : Int) % 7 == 0) = false := beq_eq_false_iff_ne.2 (by omega)
            go_wp2
            go_meet
            refine ⟨_, rfl, ?_, rfl⟩
            · have eg : (soOf c).g = 0 := by unfold soOf; simp [hc7]
              rw [eg]
              unfold soPreB
              rw [if_neg hi0]
              simp [hB]
      case rest =>
        obtain ⟨B1, rfl, hB1, e⟩ := hcut
        have hB1s : B1.size ≤ 320 := by
          have h1 : B1.size = B1.data.toList.length := by simp
          have h2 := soPre_len i c
          have h3 := steps_len (zs := zs) hf (show i ≤ 4 by omega) (by omega)
          rw [h1, hB1, List.length_append]
          omega
        rw [e]
        clear e wc hnum hpk
        have eD : (txt (decL (c % 3))).data.toList = decL (c % 3) := by unfold txt; simp
        generalize hDe : txt (decL (c % 3)) = D at *
        have ts : ∀ b : UInt8, (txt [b]).size = 1 := fun _ => rfl
        have tm := ts (nameB (fr + i))
        have tp := ts (nameB (fr + i - 1))
        have tf := ts (nameB fr)
        have em : (txt [nameB (fr + i)]).data.toList = [nameB (fr + i)] := rfl
        have ep : (txt [nameB (fr + i - 1)]).data.toList = [nameB (fr + i - 1)] := rfl
        have ef : (txt [nameB fr]).data.toList = [nameB fr] := rfl
        clear ts hDe
        generalize txt [nameB (fr + i)] = ME at *
        have g1 : ¬ 9223372036854775807 < B1.size + ME.size := by omega
        have g2 : ¬ 9223372036854775807 < B1.size + ME.size + 1 := by omega
        have g3 : ¬ 9223372036854775807 < B1.size + ME.size + 1 + D.size := by omega
        go_upto_region 11 with (go_at_call 23; refine (hme _).mono ?_; rintro x1 w1 ⟨rfl, hb1⟩)
        go_upto_region 12 with (go_at_call 33; refine (hd1 _).mono ?_; rintro x2 w2 ⟨rfl, e⟩; rw [e]; clear e w2)
        have Hk : Hid ((soOf c).k = c % 3) := rfl
        have hq5 : c / 20 % 5 = 0 ∨ c / 20 % 5 = 1 ∨ c / 20 % 5 = 2 ∨ c / 20 % 5 = 3 ∨ c / 20 % 5 = 4 := by omega
        rcases hq5 with hq | hq | hq | hq | hq
        · have hq' : (c : Int) / 20 % 5 = 0 := by omega
          have g4 : ¬ 9223372036854775807 < B1.size + ME.size + 1 + D.size + 12 := by omega
          have Hq : Hid ((soOf c).q = 0) := by show _ = _; unfold soOf; simp [hq]
          clear hq
          go_wp2
          go_roundw
          case rel =>
            refine ⟨i + 1, _, hlt, rfl, by go_num, ?_, hbel.trans (hb1.mono hbel.size)⟩
            rw [HS.out, Hq.out]
            unfold soPostB
            simp [hB1, em, eD, Hk.out]
          case measure => simp [intOf]; omega
        · have hq' : (c : Int) / 20 % 5 = 1 := by omega
          have Hq : Hid ((soOf c).q = 1) := by show _ = _; unfold soOf; simp [hq]
          clear hq
          by_cases hi0 : i = 0
          · have hi' : ¬ (0 : Int) < (i : Int) := by omega
            have HI : Hid (soPostB i (nameB (fr + i)) (nameB (fr + i - 1)) (nameB fr) 1 = []) := by show _ = _; unfold soPostB; simp [hi0]
            clear hi0
            go_wp2
            go_roundw
            case rel =>
              refine ⟨i + 1, _, hlt, rfl, by go_num, ?_, hbel.trans (hb1.mono hbel.size)⟩
              rw [HS.out, Hq.out, HI.out]
              simp [hB1, em, eD, Hk.out]
            case measure => simp [intOf]; omega
          · have hi' : (0 : Int) < (i : Int) := by omega
            have g4 : ¬ 9223372036854775807 < B1.size + ME.size + 1 + D.size + 4 := by omega
            have g5 : ¬ 9223372036854775807 < B1.size + ME.size + 1 + D.size + 4 + ME.size := by omega
            have g6 : ¬ 9223372036854775807 < B1.size + ME.size + 1 + D.size + 4 + ME.size + 6 := by omega
            have hpr := fun w1 => name_p (fr + i - 1) (by omega) w1
            have e1 : ((fr + i - 1 : Nat) : Int) = (fr : Int) + (i : Int) - 1 := by omega
            rw [e1] at hpr
            clear e1
            generalize txt [nameB (fr + i - 1)] = PR at *
            have g7 : ¬ 9223372036854775807 < B1.size + ME.size + 1 + D.size + 4 + ME.size + 6 + PR.size := by omega
            have g8 : ¬ 9223372036854775807 < B1.size + ME.size + 1 + D.size + 4 + ME.size + 6 + PR.size + 14 := by omega
            go_wp2_with (go_at_call 23; refine (hpr _).mono ?_; rintro x3 w3 ⟨rfl, hb3⟩)
            go_roundw
            case rel =>
              refine ⟨i + 1, _, hlt, rfl, by go_num, ?_, (hbel.trans (hb1.mono hbel.size)).trans (hb3.mono (Nat.le_trans hbel.size hb1.size))⟩
              rw [HS.out, Hq.out]
              unfold soPostB
              simp [hB1, em, ep, ef, eD, Hk.out, hi0]
            case measure => simp [intOf]; omega
        · have hq' : (c : Int) / 20 % 5 = 2 := by omega
          have Hq : Hid ((soOf c).q = 2) := by show _ = _; unfold soOf; simp [hq]
          clear hq
          by_cases hi0 : i = 0
          · have hi' : ¬ (0 : Int) < (i : Int) := by omega
            have HI : Hid (soPostB i (nameB (fr + i)) (nameB (fr + i - 1)) (nameB fr) 2 = []) := by show _ = _; unfold soPostB; simp [hi0]
            clear hi0
            go_wp2
            go_roundw
            case rel =>
              refine ⟨i + 1, _, hlt, rfl, by go_num, ?_, hbel.trans (hb1.mono hbel.size)⟩
              rw [HS.out, Hq.out, HI.out]
              simp [hB1, em, eD, Hk.out]
            case measure => simp [intOf]; omega
          · have hi' : (0 : Int) < (i : Int) := by omega
            have g4 : ¬ 9223372036854775807 < B1.size + ME.size + 1 + D.size + 4 := by omega
            have hfi := fun w1 => name_p fr (by omega) w1
            generalize txt [nameB fr] = FI at *
            have g5 : ¬ 9223372036854775807 < B1.size + ME.size + 1 + D.size + 4 + FI.size := by omega
            have g6 : ¬ 9223372036854775807 < B1.size + ME.size + 1 + D.size + 4 + FI.size + 26 := by omega
            have g7 : ¬ 9223372036854775807 < B1.size + ME.size + 1 + D.size + 4 + FI.size + 26 + FI.size := by omega
            have g8 : ¬ 9223372036854775807 < B1.size + ME.size + 1 + D.size + 4 + FI.size + 26 + FI.size + 2 := by omega
            go_wp2_with (first
              | (go_at_call 23; refine (hfi _).mono ?_; rintro x3 w3 ⟨rfl, hb3⟩; have HB3 : Hid (Below w.heap.size w w3) := (by first | exact HB3.out.trans (hb3.mono HB3.out.size) | exact (hbel.trans (hb1.mono hbel.size)).trans (hb3.mono (Nat.le_trans hbel.size hb1.size)))))
            go_roundw
            case rel =>
              refine ⟨i + 1, _, hlt, rfl, by go_num, ?_, HB3.out⟩
              rw [HS.out, Hq.out]
              unfold soPostB
              simp [hB1, em, ep, ef, eD, Hk.out, hi0]
            case measure => simp [intOf]; omega
        · have hq' : (c : Int) / 20 % 5 = 3 := by omega
          have Hq : Hid ((soOf c).q = 3) := by show _ = _; unfold soOf; simp [hq]
          clear hq
          go_wp2
          go_roundw
          case rel =>
            refine ⟨i + 1, _, hlt, rfl, by go_num, ?_, hbel.trans (hb1.mono hbel.size)⟩
            rw [HS.out, Hq.out]
            unfold soPostB
            simp [hB1, em, eD, Hk.out]
          case measure => simp [intOf]; omega
        · have hq' : (c : Int) / 20 % 5 = 4 := by omega
          have Hq : Hid ((soOf c).q = 3) := by show _ = _; unfold soOf; simp [hq]
          clear hq
          go_wp2
          go_roundw
          case rel =>
            refine ⟨i + 1, _, hlt, rfl, by go_num, ?_, hbel.trans (hb1.mono hbel.size)⟩
            rw [HS.out, Hq.out]
            unfold soPostB
            simp [hB1, em, eD, Hk.out]
          case measure => simp [intOf]; omega
    · have ei : i = n := by omega
      subst ei
      have hni : ¬ (i : Int) < (i : Int) := by omega
      go_wp2
      go_ret
      exact ⟨B, rfl, hB, hbel⟩
end Go.Proofs.YtddbjcfdmdbmkaaGreatDoor
