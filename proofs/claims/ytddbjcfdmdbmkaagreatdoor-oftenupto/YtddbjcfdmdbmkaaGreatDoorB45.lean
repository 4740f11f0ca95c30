import Derived.Test.YtddbjcfdmdbmkaaGreatDoorB42
import Derived.Test.YtddbjcfdmdbmkaaGreatDoorB44
import Derived.Test.YtddbjcfdmdbmkaaGreatDoorB43
import Derived.Test.YtddbjcfdmdbmkaaGreatDoorB41
set_option linter.unusedVariables false
set_option linter.unusedSimpArgs false
namespace Go.Proofs.YtddbjcfdmdbmkaaGreatDoor
open Go.RowKit

theorem ev_cells {w : World} {b : Nat} {v : Value} {evs : List Ev} (h : w.ownsRow b 44 5 v evs.length (flat evC evs)) : ∃ a c, v = .slice a evs.length c ∧ (0 < evs.length → ∃ g, a = some ⟨g, 0, none⟩ ∧ g < w.heap.size ∧ ∀ k, (hk : k < evs.length) → w.cell? ⟨g, k * 5, none⟩ = some (.int .i64 evs[k].time) ∧ w.cell? ⟨g, k * 5 + 1, none⟩ = some (.int .i64 evs[k].kind) ∧ w.cell? ⟨g, k * 5 + 2, none⟩ = some (.int .i64 evs[k].a) ∧ w.cell? ⟨g, k * 5 + 3, none⟩ = some (.int .i64 evs[k].b) ∧ w.cell? ⟨g, k * 5 + 4, none⟩ = some (.int .i64 evs[k].c)) := by
  rcases h.2 with ⟨rfl, h0⟩ | ⟨g, cap, cur, rfl, _, hg, _⟩
  · exact ⟨none, 0, by rw [h0], fun h => by omega⟩
  · refine ⟨_, _, rfl, fun _ => ⟨g, rfl, (Array.getElem?_eq_some_iff.1 hg).1, fun k hk => ?_⟩⟩
    have key : ∀ j u, j < 5 → (evC evs[k])[j]? = some u → w.cell? ⟨g, k * 5 + j, none⟩ = some u := by
      intro j u hj hu
      have := h.cells (g := g) rfl (k * 5 + j) u (by rw [flat_get evC 5 (fun _ => rfl) evs k j hk hj]; exact hu)
      rw [addr_add, Nat.zero_add] at this; exact this
    exact ⟨key 0 _ (by omega) rfl, key 1 _ (by omega) rfl, key 2 _ (by omega) rfl, key 3 _ (by omega) rfl, key 4 _ (by omega) rfl⟩
section
variable {Za Zb : Nat → Prop} {w w' : World} {Ea Eb bda bdb : Nat} {ca cb : WC} {evs evs2 : List Ev} {e : Ev} {Za' : Nat → Prop} {v : Value} {ys : List (List Nat)}
theorem FedOK.other {fb : Nat} (F : FedOK Za w Ea bda ca evs e Za' v ys w') (hb : Eng Zb w Eb bdb fb cb evs2) (hd : ∀ b, Za b → ¬ Zb b) : Eng Zb w' Eb bdb fb cb evs2 ∧ (∀ b, Za' b → ¬ Zb b) :=
  ⟨hb.to F.2.1 hd, fun b k z => by
    rcases F.1 b k with k | k
    · exact hd b k z
    · exact absurd (hb.lt b z) (by omega)⟩
theorem FedOK.eng (F : FedOK Za w Ea bda ca evs e Za' v ys w') : Eng Za' w' Ea bda 0 ca (evs ++ [e]) := F.2.2.2.2.2
theorem FedOK.sorted (F : FedOK Za w Ea bda ca evs e Za' v ys w') : SortedL ys := F.2.2.2.1
theorem FedOK.mem (F : FedOK Za w Ea bda ca evs e Za' v ys w') : ∀ t, t ∈ ys ↔ MatchOK (absP ca.paths) ca.win (evs ++ [e]) t := F.2.2.2.2.1
theorem FedOK.up {k : Nat} (F : FedOK Za w Ea bda ca evs e Za' v ys w') (h : ∀ b, Za b → k ≤ b) (hk : k ≤ w.heap.size) : ∀ b, Za' b → k ≤ b := fun b hb => by
  rcases F.1 b hb with q | q
  · exact h b q
  · omega
theorem FedOK.rowTo {b t s n : Nat} {rv : Value} {xs : List Value} (F : FedOK Za w Ea bda ca evs e Za' v ys w') (hr : w.ownsRow b t s rv n xs) (hn : ∀ g, rv.ownBlock = some g → ¬ Za g) : w'.ownsRow b t s rv n xs ∧ (∀ g, rv.ownBlock = some g → ¬ Za' g) :=
  ⟨row_of_blk hr (fun g hg => F.2.1.at g (hr.lt g hg).2 (hn g hg)), fun g hg k => by
    rcases F.1 g k with q | q
    · exact hn g hg q
    · exact absurd (hr.lt g hg).2 (by omega)⟩
end
theorem ListsAt.chg {B : Nat} {w w' : World} {v : Value} {xs : List VL} {M : Nat → Prop} (h : ListsAt B w v xs) (hc : Chg M w w') (hM : ∀ b, M b → b < B) : ListsAt B w' v xs :=
  h.to fun b hb => by
    have : B ≤ b ∧ b < w.heap.size := by
      rcases hb with hb | ⟨x, hx, hb⟩
      · exact h.row.lt b hb
      · exact (h.inner x hx).lt b hb
    exact hc.at b this.2 (fun m => by have := hM b m; omega)
theorem ListsAt.few {B : Nat} {w : World} {v : Value} {xs : List VL} (h : ListsAt B w v xs) : (xs.map (·.2)).length ≤ maxLen ∧ ∀ y ∈ xs.map (·.2), y.length ≤ maxLen := by
  have key : ∀ {e s n : Nat} {u : Value} {zs : List Value}, w.ownsRow B e s u n zs → n ≤ maxLen := by
    intro e s n u zs hr
    rcases hr.2 with ⟨_, rfl⟩ | ⟨g, cap, cur, _, _, _, h1, h2, _⟩
    · exact Nat.zero_le _
    · exact Nat.le_trans h1 h2
  refine ⟨by rw [List.length_map]; exact key h.row, fun y hy => ?_⟩
  obtain ⟨x, hx, rfl⟩ := List.mem_map.1 hy
  exact key (h.inner x hx)
end Go.Proofs.YtddbjcfdmdbmkaaGreatDoor

namespace Go.Proofs.YtddbjcfdmdbmkaaGreatDoor
open Go.RowKit

structure EngD where
  E : Nat
  bd : Nat
  f : Nat
  c : WC
  evs : List Ev
structure Held where
  B : Nat
  v : Value
  xs : List VL
def Held.owns (h : Held) (b : Nat) : Prop := h.v.ownBlock = some b ∨ ∃ y ∈ h.xs, y.1.ownBlock = some b
structure ManyZ (Z : Nat → Nat → Prop) (w0 w : World) (es : List EngD) (ev : Value) (evs : List Ev) (hs : List Held) : Prop where
  eng : ∀ i, (hi : i < es.length) → Eng (Z i) w es[i].E es[i].bd es[i].f es[i].c es[i].evs
  apart : ∀ i j b, i < es.length → j < es.length → i ≠ j → Z i b → ¬ Z j b
  row : ∃ B, w.ownsRow B 44 5 ev evs.length (flat evC evs)
  rowN : ∀ g, ev.ownBlock = some g → ∀ i, i < es.length → ¬ Z i g
  held : ∀ h ∈ hs, ListsAt h.B w h.v h.xs ∧ ∀ b, h.owns b → ∀ i, i < es.length → ¬ Z i b
  up : ∀ i b, i < es.length → Z i b → w0.heap.size ≤ b
  bel : Below w0.heap.size w0 w
def Many (w0 w : World) (es : List EngD) (ev : Value) (evs : List Ev) (hs : List Held) : Prop := ∃ Z, ManyZ Z w0 w es ev evs hs
theorem Many.start (w : World) : Many w w [] (.slice none 0 0) [] [] :=
  ⟨fun _ _ => False, fun i hi => by simp at hi, fun i j b hi => by simp at hi, ⟨0, World.ownsRow_nil _ _ _ _⟩, fun g hg => by simp [Value.ownBlock] at hg, fun h hh => by simp at hh, fun i b hi => by simp at hi, Below.refl _ _⟩
theorem Many.bel {w0 w : World} {es : List EngD} {ev : Value} {evs : List Ev} {hs : List Held} (h : Many w0 w es ev evs hs) : Below w0.heap.size w0 w := by
  obtain ⟨Z, h⟩ := h; exact h.bel
theorem held_lt {w : World} {h : Held} (k : ListsAt h.B w h.v h.xs) {b : Nat} (hb : h.owns b) : b < w.heap.size := by
  rcases hb with hb | ⟨y, hy, hb⟩
  · exact (k.row.lt b hb).2
  · exact ((k.inner y hy).lt b hb).2
theorem ManyZ.keep {Z : Nat → Nat → Prop} {w0 w w' : World} {es : List EngD} {ev : Value} {evs : List Ev} {hs : List Held} (h : ManyZ Z w0 w es ev evs hs) (hc : Chg (fun _ => False) w w') : ManyZ Z w0 w' es ev evs hs := by
  refine ⟨fun i hi => (h.eng i hi).to hc (fun _ k => k.elim), h.apart, ?_, h.rowN, fun x hx => ⟨(h.held x hx).1.to (fun b hb => hc.at b (held_lt (h.held x hx).1 hb) (fun k => k)), (h.held x hx).2⟩, h.up, ?_⟩
  · obtain ⟨B, hr⟩ := h.row
    exact ⟨B, row_of_blk hr (fun g hg => hc.at g (hr.lt g hg).2 (fun k => k))⟩
  · exact h.bel.trans (hc.bel h.bel.size (fun _ k => k.elim))
theorem Many.keep {w0 w w' : World} {es : List EngD} {ev : Value} {evs : List Ev} {hs : List Held} (h : Many w0 w es ev evs hs) (hc : Chg (fun _ => False) w w') : Many w0 w' es ev evs hs := by
  obtain ⟨Z, h⟩ := h
  exact ⟨Z, h.keep hc⟩
theorem Many.below {w0 w w' : World} {es : List EngD} {ev : Value} {evs : List Ev} {hs : List Held} (h : Many w0 w es ev evs hs) (hc : Below w.heap.size w w') : Many w0 w' es ev evs hs := h.keep (Chg.below _ hc)
theorem Many.drop {w0 w : World} {es : List EngD} {ev : Value} {evs : List Ev} {hs hs' : List Held} (h : Many w0 w es ev evs hs) (hh : ∀ x ∈ hs', x ∈ hs) : Many w0 w es ev evs hs' := by
  obtain ⟨Z, h⟩ := h
  exact ⟨Z, h.eng, h.apart, h.row, h.rowN, fun x hx => h.held x (hh x hx), h.up, h.bel⟩
theorem Many.lists {w0 w : World} {es : List EngD} {ev : Value} {evs : List Ev} {hs : List Held} (h : Many w0 w es ev evs hs) {x : Held} (hx : x ∈ hs) : ListsAt x.B w x.v x.xs := by
  obtain ⟨Z, h⟩ := h
  exact (h.held x hx).1
theorem Many.cells {w0 w : World} {es : List EngD} {ev : Value} {evs : List Ev} {hs : List Held} (h : Many w0 w es ev evs hs) : ∃ a c, ev = .slice a evs.length c ∧ (0 < evs.length → ∃ g, a = some ⟨g, 0, none⟩ ∧ g < w.heap.size ∧ ∀ k, (hk : k < evs.length) → w.cell? ⟨g, k * 5, none⟩ = some (.int .i64 evs[k].time) ∧ w.cell? ⟨g, k * 5 + 1, none⟩ = some (.int .i64 evs[k].kind) ∧ w.cell? ⟨g, k * 5 + 2, none⟩ = some (.int .i64 evs[k].a) ∧ w.cell? ⟨g, k * 5 + 3, none⟩ = some (.int .i64 evs[k].b) ∧ w.cell? ⟨g, k * 5 + 4, none⟩ = some (.int .i64 evs[k].c)) := by
  obtain ⟨Z, h⟩ := h
  obtain ⟨B, hr⟩ := h.row
  exact ev_cells hr
theorem many_begin {w0 w : World} {es : List EngD} {ev : Value} {evs : List Ev} {hs : List Held} (h : Many w0 w es ev evs hs) {s : ByteArray} {W R bd : Nat} {paths : List (List WStep)} (ht : TextOK s W R bd paths) :
    Calls Tryz.prog 24 #[.string s] w fun x w' => ∃ E pv svs, x = .returned (.pointer (some ⟨E, 0, none⟩)) ∧ Many w0 w' (es ++ [⟨E, bd, 0, ⟨W, R, pv, paths, svs⟩, []⟩]) ev evs hs := by
  refine (begin_p ht w).mono ?_
  rintro x w' ⟨E, Y, pv, svs, rfl, hb, hy, hE⟩
  refine ⟨E, pv, svs, rfl, ?_⟩
  have hk := h.below hb
  obtain ⟨Z0, h0⟩ := h
  obtain ⟨Z, h⟩ := hk
  have hold : ∀ i b, i < es.length → Z0 i b → b < w.heap.size := fun i b hi hz => (h0.eng i hi).lt b hz
  refine ⟨fun i b => if i < es.length then Z0 i b else Y b, fun i hi => ?_, fun i j b hi hj hij hz => ?_, ?_, fun g hg i hi hz => ?_, fun x hx => ⟨(h.held x hx).1, fun b hbo i hi hz => ?_⟩, fun i b hi hz => ?_, h.bel⟩
  · rw [List.length_append, List.length_singleton] at hi
    by_cases hl : i < es.length
    · have e : (fun b => if i < es.length then Z0 i b else Y b) = Z0 i := by funext b; rw [if_pos hl]
      rw [e]
      rw [List.getElem_append_left hl]
      exact (h0.eng i hl).to (Chg.below (fun _ => False) hb) (fun _ k => k.elim)
    · have e : (fun b => if i < es.length then Z0 i b else Y b) = Y := by funext b; rw [if_neg hl]
      rw [e]
      have ei : i = es.length := by omega
      subst ei
      rw [List.getElem_append_right (Nat.le_refl _)]
      simp only [Nat.sub_self, List.getElem_cons_zero]
      exact hE
  · rw [List.length_append, List.length_singleton] at hi hj
    by_cases h1 : i < es.length
    · rw [if_pos h1] at hz
      by_cases h2 : j < es.length
      · rw [if_pos h2]; exact h0.apart i j b h1 h2 hij hz
      · rw [if_neg h2]
        intro hy2
        have := hold i b h1 hz
        have := hy b hy2
        omega
    · rw [if_neg h1] at hz
      by_cases h2 : j < es.length
      · rw [if_pos h2]
        intro hz2
        have := hold j b h2 hz2
        have := hy b hz
        omega
      · omega
  · obtain ⟨B, hr⟩ := h.row
    exact ⟨B, hr⟩
  · rw [List.length_append, List.length_singleton] at hi
    by_cases h1 : i < es.length
    · rw [if_pos h1] at hz; exact h0.rowN g hg i h1 hz
    · rw [if_neg h1] at hz
      obtain ⟨B, hr⟩ := h0.row
      have := (hr.lt g hg).2
      have := hy g hz
      omega
  · rw [List.length_append, List.length_singleton] at hi
    by_cases h1 : i < es.length
    · rw [if_pos h1] at hz; exact (h0.held x hx).2 b hbo i h1 hz
    · rw [if_neg h1] at hz
      have := held_lt (h0.held x hx).1 hbo
      have := hy b hz
      omega
  · rw [List.length_append, List.length_singleton] at hi
    by_cases h1 : i < es.length
    · rw [if_pos h1] at hz; exact h0.up i b h1 hz
    · rw [if_neg h1] at hz
      have := hy b hz
      have := h0.bel.size
      omega
theorem many_feed {w0 w : World} {es : List EngD} {ev : Value} {evs : List Ev} {hs : List Held} (h : Many w0 w es ev evs hs) {i E bd : Nat} {c : WC} {ee : List Ev} (hd : es[i]? = some ⟨E, bd, 0, c, ee⟩) (hc : WellE c) (hel : ee.length ≤ 100000000) (e : Ev) (he : In64 e.time) (hz : feedFP c.win c.rate ee e.time = 0) :
    Calls Tryz.prog 26 #[.pointer (some ⟨E, 0, none⟩), evVal e] w fun x w' => ∃ B a cp xs, x = .returned (.tuple #[.slice a xs.length cp, .bool true]) ∧ SortedL (xs.map (·.2)) ∧ (∀ t, t ∈ xs.map (·.2) ↔ MatchOK (absP c.paths) c.win (ee ++ [e]) t) ∧ Many w0 w' (es.set i ⟨E, bd, 0, c, ee ++ [e]⟩) ev evs (⟨B, .slice a xs.length cp, xs⟩ :: hs) := by
  obtain ⟨Z, h⟩ := h
  obtain ⟨hi, hg⟩ := List.getElem?_eq_some_iff.1 hd
  have hE := h.eng i hi
  rw [hg] at hE
  refine (feedK_p hE hc hel e he hz).mono ?_
  rintro x w' ⟨Z', v, ys, rfl, F⟩
  obtain ⟨q1, q2, ⟨B, xs, q3, q4, q5, rfl⟩, q6, q7, q8⟩ := F
  obtain ⟨a, cp, ev', _⟩ := q3.read.form
  rw [List.length_map] at ev'
  subst ev'
  have hne : ∀ j b, j < es.length → j ≠ i → Z j b → ¬ Z i b := fun j b hj hji hzj => h.apart j i b hj hi hji hzj
  have hother : ∀ b, b < w.heap.size → ¬ Z i b → w'.heap[b]? = w.heap[b]? := fun b hb hn => q2.at b hb hn
  have hnew : ∀ b, b < w.heap.size → ¬ Z i b → ¬ Z' b := fun b hb hn hz' => by
    rcases q1 b hz' with k | k
    · exact hn k
    · omega
  refine ⟨B, a, cp, xs, rfl, q6, q7, fun j b => if j = i then Z' b else Z j b, fun j hj => ?_, fun j l b hj hl hjl hzj => ?_, ?_, fun g hg j hj hzj => ?_, fun x hx => ?_, fun j b hj hzj => ?_, ?_⟩
  · rw [List.length_set] at hj
    by_cases hji : j = i
    · subst hji
      have e : (fun b => if j = j then Z' b else Z j b) = Z' := by funext b; rw [if_pos rfl]
      rw [e]
      simp only [List.getElem_set_self]
      exact q8
    · have e : (fun b => if j = i then Z' b else Z j b) = Z j := by funext b; rw [if_neg hji]
      rw [e]
      simp only [List.getElem_set_ne (Ne.symm hji)]
      exact (h.eng j hj).to q2 (fun b hz1 hz2 => hne j b hj hji hz2 hz1)
  · rw [List.length_set] at hj hl
    by_cases hji : j = i
    · rw [if_pos hji] at hzj
      have hli : l ≠ i := fun e => hjl (hji.trans e.symm)
      rw [if_neg hli]
      intro hzl
      exact hnew b ((h.eng l hl).lt b hzl) (hne l b hl hli hzl) hzj
    · rw [if_neg hji] at hzj
      by_cases hli : l = i
      · rw [if_pos hli]
        exact hnew b ((h.eng j hj).lt b hzj) (hne j b hj hji hzj)
      · rw [if_neg hli]; exact h.apart j l b hj hl hjl hzj
  · obtain ⟨B2, hr⟩ := h.row
    exact ⟨B2, row_of_blk hr (fun g hg => hother g (hr.lt g hg).2 (h.rowN g hg i hi))⟩
  · rw [List.length_set] at hj
    by_cases hji : j = i
    · rw [if_pos hji] at hzj
      obtain ⟨B2, hr⟩ := h.row
      exact hnew g (hr.lt g hg).2 (h.rowN g hg i hi) hzj
    · rw [if_neg hji] at hzj; exact h.rowN g hg j hj hzj
  · rcases List.mem_cons.1 hx with rfl | hx
    · refine ⟨q3, fun b hb j hj hzj => ?_⟩
      rw [List.length_set] at hj
      by_cases hji : j = i
      · rw [if_pos hji] at hzj; exact q5 b hb hzj
      · rw [if_neg hji] at hzj
        have h1 := (h.eng j hj).lt b hzj
        have h2 : B ≤ b := by
          rcases hb with hb | ⟨y, hy, hb⟩
          · exact (q3.row.lt b hb).1
          · exact ((q3.inner y hy).lt b hb).1
        omega
    · obtain ⟨k1, k2⟩ := h.held x hx
      refine ⟨k1.to (fun b hb => hother b (held_lt k1 hb) (k2 b hb i hi)), fun b hb j hj hzj => ?_⟩
      rw [List.length_set] at hj
      by_cases hji : j = i
      · rw [if_pos hji] at hzj; exact hnew b (held_lt k1 hb) (k2 b hb i hi) hzj
      · rw [if_neg hji] at hzj; exact k2 b hb j hj hzj
  · rw [List.length_set] at hj
    by_cases hji : j = i
    · rw [if_pos hji] at hzj
      rcases q1 b hzj with k | k
      · exact h.up i b hi k
      · exact Nat.le_trans h.bel.size k
    · rw [if_neg hji] at hzj; exact h.up j b hj hzj
  · exact h.bel.trans (q2.bel h.bel.size (fun b hb => h.up i b hi hb))
theorem many_look {w0 w : World} {es : List EngD} {ev : Value} {evs : List Ev} {hs : List Held} (h : Many w0 w es ev evs hs) {i : Nat} {d : EngD} (hd : es[i]? = some d) :
    Calls Tryz.prog 16 #[.pointer (some ⟨d.E, 0, none⟩)] w fun x w' => ∃ m rl, Kept1 (absP d.c.paths) d.c.win d.evs (lastT d.evs) rl ∧ rl.length = m ∧ m ≤ boundA d.c.rate (absP d.c.paths) ∧ x = .returned (.agg #[.int .i64 (d.evs.length : Nat), .int .i64 (m : Nat), .int .i64 (d.bd : Nat), .int .i64 (d.f : Nat)]) ∧ Many w0 w' es ev evs hs := by
  have hE : ∃ Z, Eng Z w d.E d.bd d.f d.c d.evs := by
    obtain ⟨Z, h⟩ := h
    obtain ⟨hi, hg⟩ := List.getElem?_eq_some_iff.1 hd
    have := h.eng i hi
    rw [hg] at this
    exact ⟨_, this⟩
  obtain ⟨Z, hE⟩ := hE
  refine (look_eng hE).mono ?_
  rintro x w' ⟨m, rl, h1, h2, h3, h4, h5⟩
  exact ⟨m, rl, h1, h2, h3, h4, h.below h5⟩
theorem RawAt.to {w w' : World} {v : Value} {zs : List Int} (h : RawAt w v zs) (hb : Below w.heap.size w w') : RawAt w' v zs := by
  obtain ⟨⟨a, c, e, hc⟩, h64⟩ := h
  refine ⟨⟨a, c, e, fun h0 => ?_⟩, h64⟩
  obtain ⟨p, e1, e2, e3⟩ := hc h0
  exact ⟨p, e1, Nat.lt_of_lt_of_le e2 hb.size, fun k hk => (cell_blk _ (by rw [add_block]; exact hb.block _ e2)).trans (e3 k hk)⟩
theorem many_events {w0 w : World} {es : List EngD} (h : Many w0 w es (.slice none 0 0) [] []) {W R : Nat} {zs : List Int} {rv : Value} (hraw : RawAt w0 rv zs) (hl : zs.length ≤ 2000000) (hW : W ≤ 1000) (hR : 1 ≤ R ∧ R ≤ 100) :
    Calls Tryz.prog 29 #[rv, .pointer (some ⟨w.heap.size, 0, none⟩)] (w.alloc (.cells #[.int .i64 (W : Nat), .int .i64 (R : Nat), .slice none 0 0, .int .i64 0] 54)) fun x w' => ∃ a cp, x = .returned (.slice a zs.length cp) ∧ Many w0 w' es (.slice a zs.length cp) (clkEvs W R (rawN zs)) [] := by
  have hbel := h.bel
  have hb1 : Below w.heap.size w (w.alloc (.cells #[.int .i64 (W : Nat), .int .i64 (R : Nat), .slice none 0 0, .int .i64 0] 54)) := (Below.refl _ w).alloc (Nat.le_refl _) _
  have hraw1 := hraw.to (hbel.trans (hb1.mono hbel.size))
  have hne : 0 < zs.length → rv.ownBlock ≠ some w.heap.size := by
    obtain ⟨⟨a, c, rfl, hc⟩, _⟩ := hraw
    intro h0 e
    obtain ⟨q, rfl, e2, _⟩ := hc h0
    have e' : q.block = w.heap.size := by simpa [Value.ownBlock] using e
    have := hbel.size
    omega
  refine (evsK_p hraw1 hl (Blk.new w _ _) hne hW hR).mono ?_
  rintro x w' ⟨v, rfl, hr, hch⟩
  have hlen : (clkEvs W R (rawN zs)).length = zs.length := by rw [clk_len]; unfold rawN; simp
  rw [← hlen] at hr
  obtain ⟨a, cp, e, _⟩ := ev_cells hr
  rw [hlen] at e
  subst e
  refine ⟨a, cp, rfl, ?_⟩
  have hch2 : Chg (fun _ => False) w w' := ((Chg.refl _ w).alloc _).trans hch (fun b hb e => by omega)
  obtain ⟨Z, h0⟩ := h
  have k := h0.keep hch2
  refine ⟨Z, k.eng, k.apart, ⟨_, hr⟩, fun g hg i hi hz => ?_, fun x hx => by simp at hx, k.up, k.bel⟩
  have h1 := (h0.eng i hi).lt g hz
  have h2 := (hr.lt g hg).1
  simp at h2
  omega
end Go.Proofs.YtddbjcfdmdbmkaaGreatDoor

namespace Go.Proofs.YtddbjcfdmdbmkaaGreatDoor
open Go.RowKit

structure ClkGood (W R n : Nat) (evs : List Ev) : Prop where
  len : evs.length = n
  feed : ∀ i, (hi : i < evs.length) → feedFP W R (evs.take i) evs[i].time = 0
  low : ∀ i, (hi : i < evs.length) → 0 ≤ evs[i].time
  high : ∀ i, (hi : i < evs.length) → evs[i].time ≤ 1000000000000
  mono : ∀ i, Mono (evs.take i)
theorem clk_good {W R : Nat} {zs : List Int} (hl : zs.length ≤ 2000000) (hW : W ≤ 1000) (hR : 1 ≤ R) : ClkGood W R zs.length (clkEvs W R (rawN zs)) := by
  have hn : (rawN zs).length = zs.length := by unfold rawN; simp
  have hlen : (clkEvs W R (rawN zs)).length = zs.length := by rw [clk_len, hn]
  have hall := clk_all (W := (W : Int)) (by omega) hR (rawN zs)
  refine ⟨hlen, fun i hi => ?_, fun i hi => ?_, fun i hi => ?_, fun i => ?_⟩
  · rw [hlen] at hi
    have := clk_feed (W := (W : Int)) (by omega) hR (rawN zs) (i := i) (by omega)
    rw [clk_take W R (rawN zs) i (by omega), ← evAt_get]
    exact this
  · have := hall.low i hi
    rwa [evAt_get hi] at this
  · have h1 := hall.high i hi
    rw [evAt_get hi] at h1
    have h3 : ((W : Int) + 3) * ((i : Int) + 1) ≤ 1003 * 2000001 := Int.mul_le_mul (by omega) (by omega) (by omega) (by omega)
    omega
  · by_cases hi : i ≤ (rawN zs).length
    · rw [clk_take W R (rawN zs) i hi]
      exact (clk_all (W := (W : Int)) (by omega) hR _).mono
    · rw [List.take_of_length_le (by omega)]
      exact hall.mono
theorem take_next {evs : List Ev} {i : Nat} (hi : i < evs.length) : evs.take (i + 1) = evs.take i ++ [evs[i]] := List.take_succ_eq_append_getElem hi
theorem in64_small {x : Int} (h0 : 0 ≤ x) (h1 : x ≤ 1000000000000) : In64 x := by unfold In64; omega
theorem Many.ev {w0 w : World} {es : List EngD} {g n c : Nat} {evs : List Ev} {hs : List Held} (h : Many w0 w es (.slice (some ⟨g, 0, none⟩) n c) evs hs) {k : Nat} (hk : k < evs.length) : g < w.heap.size ∧ w.cell? ⟨g, k * 5, none⟩ = some (.int .i64 evs[k].time) ∧ w.cell? ⟨g, k * 5 + 1, none⟩ = some (.int .i64 evs[k].kind) ∧ w.cell? ⟨g, k * 5 + 2, none⟩ = some (.int .i64 evs[k].a) ∧ w.cell? ⟨g, k * 5 + 3, none⟩ = some (.int .i64 evs[k].b) ∧ w.cell? ⟨g, k * 5 + 4, none⟩ = some (.int .i64 evs[k].c) := by
  obtain ⟨a, c', e, hc⟩ := h.cells
  obtain ⟨g', e', h1, h2⟩ := hc (by omega)
  subst e'
  injection e with e1 e2 e3
  injection e1 with e1
  injection e1 with e1
  subst e1
  exact ⟨h1, h2 k hk⟩
theorem Many.evB {w0 w : World} {es : List EngD} {a : Option Addr} {n c : Nat} {evs : List Ev} {hs : List Held} (h : Many w0 w es (.slice a n c) evs hs) (h0 : 0 < evs.length) : ∃ g, a = some ⟨g, 0, none⟩ := by
  obtain ⟨a', c', e, hc⟩ := h.cells
  obtain ⟨g', e', h1, h2⟩ := hc h0
  injection e with e1 e2 e3
  exact ⟨g', by rw [e1, e']⟩
theorem ListsAt.at {B : Nat} {w : World} {a : Option Addr} {m c : Nat} {xs : List VL} (h : ListsAt B w (.slice a m c) xs) {n : Nat} (hn : n < xs.length) : ∃ g, a = some ⟨g, 0, none⟩ ∧ g < w.heap.size ∧ w.cell? ⟨g, n, none⟩ = some xs[n].1 ∧ IntsAt w xs[n].1 xs[n].2 := by
  rcases h.row.2 with ⟨e, h0⟩ | ⟨g, cap, cur, e, _, hg, _⟩
  · omega
  · injection e with e1 e2 e3
    refine ⟨g, e1, (Array.getElem?_eq_some_iff.1 hg).1, ?_, IntsAt.of_row (h.inner xs[n] (List.getElem_mem hn))⟩
    have := h.row.cells (g := g) (by rw [e1]; rfl) n xs[n].1 (by rw [List.getElem?_map, List.getElem?_eq_getElem hn]; rfl)
    rw [addr_add, Nat.zero_add] at this
    exact this
end Go.Proofs.YtddbjcfdmdbmkaaGreatDoor

namespace Go.Proofs.YtddbjcfdmdbmkaaGreatDoor
open Go.RowKit

theorem ManyZ.upd {Z : Nat → Nat → Prop} {w0 w w' : World} {es : List EngD} {ev : Value} {evs : List Ev} {hs : List Held} (h : ManyZ Z w0 w es ev evs hs) {i : Nat} (hi : i < es.length) {Z' : Nat → Prop} (q1 : ∀ b, Z' b → Z i b ∨ w.heap.size ≤ b) (q2 : Chg (Z i) w w') (d : EngD) (q8 : Eng Z' w' d.E d.bd d.f d.c d.evs) : ManyZ (fun j b => if j = i then Z' b else Z j b) w0 w' (es.set i d) ev evs hs := by
  have hne : ∀ j b, j < es.length → j ≠ i → Z j b → ¬ Z i b := fun j b hj hji hzj => h.apart j i b hj hi hji hzj
  have hother : ∀ b, b < w.heap.size → ¬ Z i b → w'.heap[b]? = w.heap[b]? := fun b hb hn => q2.at b hb hn
  have hnew : ∀ b, b < w.heap.size → ¬ Z i b → ¬ Z' b := fun b hb hn hz' => by
    rcases q1 b hz' with k | k
    · exact hn k
    · omega
  refine ⟨fun j hj => ?_, fun j l b hj hl hjl hzj => ?_, ?_, fun g hg j hj hzj => ?_, fun x hx => ?_, fun j b hj hzj => ?_, ?_⟩
  · rw [List.length_set] at hj
    by_cases hji : j = i
    · subst hji
      have e : (fun b => if j = j then Z' b else Z j b) = Z' := by funext b; rw [if_pos rfl]
      rw [e]
      simp only [List.getElem_set_self]
      exact q8
    · have e : (fun b => if j = i then Z' b else Z j b) = Z j := by funext b; rw [if_neg hji]
      rw [e]
      simp only [List.getElem_set_ne (Ne.symm hji)]
      exact (h.eng j hj).to q2 (fun b hz1 hz2 => hne j b hj hji hz2 hz1)
  · rw [List.length_set] at hj hl
    by_cases hji : j = i
    · rw [if_pos hji] at hzj
      have hli : l ≠ i := fun e => hjl (hji.trans e.symm)
      rw [if_neg hli]
      intro hzl
      exact hnew b ((h.eng l hl).lt b hzl) (hne l b hl hli hzl) hzj
    · rw [if_neg hji] at hzj
      by_cases hli : l = i
      · rw [if_pos hli]
        exact hnew b ((h.eng j hj).lt b hzj) (hne j b hj hji hzj)
      · rw [if_neg hli]; exact h.apart j l b hj hl hjl hzj
  · obtain ⟨B2, hr⟩ := h.row
    exact ⟨B2, row_of_blk hr (fun g hg => hother g (hr.lt g hg).2 (h.rowN g hg i hi))⟩
  · rw [List.length_set] at hj
    by_cases hji : j = i
    · rw [if_pos hji] at hzj
      obtain ⟨B2, hr⟩ := h.row
      exact hnew g (hr.lt g hg).2 (h.rowN g hg i hi) hzj
    · rw [if_neg hji] at hzj; exact h.rowN g hg j hj hzj
  · obtain ⟨k1, k2⟩ := h.held x hx
    refine ⟨k1.to (fun b hb => hother b (held_lt k1 hb) (k2 b hb i hi)), fun b hb j hj hzj => ?_⟩
    rw [List.length_set] at hj
    by_cases hji : j = i
    · rw [if_pos hji] at hzj; exact hnew b (held_lt k1 hb) (k2 b hb i hi) hzj
    · rw [if_neg hji] at hzj; exact k2 b hb j hj hzj
  · rw [List.length_set] at hj
    by_cases hji : j = i
    · rw [if_pos hji] at hzj
      rcases q1 b hzj with k | k
      · exact h.up i b hi k
      · exact Nat.le_trans h.bel.size k
    · rw [if_neg hji] at hzj; exact h.up j b hj hzj
  · exact h.bel.trans (q2.bel h.bel.size (fun b hb => h.up i b hi hb))
theorem many_refuse {w0 w : World} {es : List EngD} {ev : Value} {evs : List Ev} {hs : List Held} (h : Many w0 w es ev evs hs) {i E bd f : Nat} {c : WC} {ee : List Ev} (hd : es[i]? = some ⟨E, bd, f, c, ee⟩) (hc : WellE c) (hel : ee.length ≤ 100000000) (e : Ev) (he : In64 e.time) {r : Nat} (hr : f = r ∧ f ≠ 0 ∨ f = 0 ∧ feedFP c.win c.rate ee e.time = r ∧ r ≠ 0) :
    Calls Tryz.prog 27 #[.pointer (some ⟨E, 0, none⟩), evVal e] w fun x w' => x = .returned (.tuple #[.slice none 0 0, .int .i64 (r : Nat)]) ∧ Many w0 w' (es.set i ⟨E, bd, r, c, ee⟩) ev evs hs := by
  obtain ⟨Z, h⟩ := h
  obtain ⟨hi, hg⟩ := List.getElem?_eq_some_iff.1 hd
  have hE := h.eng i hi
  rw [hg] at hE
  refine (feed_eng hE hc hel e he).mono ?_
  rintro x w' ⟨S', f', evs', h1, h2, h3, h4⟩
  generalize hff : EngD.f ⟨E, bd, f, c, ee⟩ = f0 at h3
  have hff : f = f0 := hff
  cases h3 with
  | failed hf =>
    rcases hr with ⟨rfl, _⟩ | ⟨k, _⟩
    · subst hff
      exact ⟨rfl, _, h.upd hi h1 h2 _ h4⟩
    · exact absurd (hff.symm.trans k) hf
  | fault hf =>
    rcases hr with ⟨_, k⟩ | ⟨_, k2, _⟩
    · exact absurd hff k
    · subst k2
      exact ⟨rfl, _, h.upd hi h1 h2 _ h4⟩
  | ok h5 =>
    rcases hr with ⟨_, k⟩ | ⟨_, k2, k3⟩
    · exact absurd hff k
    · exact absurd (k2.symm.trans h5) k3
def ManyK (K : Nat → Prop) (w0 w : World) (es : List EngD) (ev : Value) (evs : List Ev) (hs : List Held) : Prop := ∃ Z, ManyZ Z w0 w es ev evs hs ∧ ∀ b, K b → b < w.heap.size ∧ ∀ i, i < es.length → ¬ Z i b
theorem Many.new {w0 w : World} {es : List EngD} {ev : Value} {evs : List Ev} {hs : List Held} (h : Many w0 w es ev evs hs) (o : Obj) : ManyK (fun b => b = w.heap.size) w0 (w.alloc o) es ev evs hs := by
  obtain ⟨Z, h⟩ := h
  refine ⟨Z, h.keep ((Chg.refl _ w).alloc o), fun b hb => ⟨by simp; omega, fun i hi hz => ?_⟩⟩
  have := (h.eng i hi).lt b hz
  omega
theorem ManyK.many {K : Nat → Prop} {w0 w : World} {es : List EngD} {ev : Value} {evs : List Ev} {hs : List Held} (h : ManyK K w0 w es ev evs hs) : Many w0 w es ev evs hs := by
  obtain ⟨Z, h, _⟩ := h
  exact ⟨Z, h⟩
theorem ManyK.below {K : Nat → Prop} {w0 w w' : World} {es : List EngD} {ev : Value} {evs : List Ev} {hs : List Held} (h : ManyK K w0 w es ev evs hs) (hb : Below w.heap.size w w') : ManyK K w0 w' es ev evs hs := by
  obtain ⟨Z, h, hk⟩ := h
  exact ⟨Z, h.keep (Chg.below _ hb), fun b hb' => ⟨Nat.lt_of_lt_of_le (hk b hb').1 hb.size, (hk b hb').2⟩⟩
theorem manyK_refuse {K : Nat → Prop} {w0 w : World} {es : List EngD} {ev : Value} {evs : List Ev} {hs : List Held} (h : ManyK K w0 w es ev evs hs) {i E bd f : Nat} {c : WC} {ee : List Ev} (hd : es[i]? = some ⟨E, bd, f, c, ee⟩) (hc : WellE c) (hel : ee.length ≤ 100000000) (e : Ev) (he : In64 e.time) {r : Nat} (hr : f = r ∧ f ≠ 0 ∨ f = 0 ∧ feedFP c.win c.rate ee e.time = r ∧ r ≠ 0) :
    Calls Tryz.prog 27 #[.pointer (some ⟨E, 0, none⟩), evVal e] w fun x w' => x = .returned (.tuple #[.slice none 0 0, .int .i64 (r : Nat)]) ∧ ManyK K w0 w' (es.set i ⟨E, bd, r, c, ee⟩) ev evs hs ∧ ∀ b, K b → w'.heap[b]? = w.heap[b]? := by
  obtain ⟨Z, h, hk⟩ := h
  obtain ⟨hi, hg⟩ := List.getElem?_eq_some_iff.1 hd
  have hE := h.eng i hi
  rw [hg] at hE
  refine (feed_eng hE hc hel e he).mono ?_
  rintro x w' ⟨S', f', evs', h1, h2, h3, h4⟩
  have hK : ∀ b, K b → w'.heap[b]? = w.heap[b]? := fun b hb => h2.at b (hk b hb).1 ((hk b hb).2 i hi)
  have hKn : ∀ b, K b → b < w'.heap.size ∧ ∀ j, j < es.length → ¬ (if j = i then S' b else Z j b) := fun b hb => ⟨Nat.lt_of_lt_of_le (hk b hb).1 h2.size, fun j hj hz => by
    by_cases hji : j = i
    · rw [if_pos hji] at hz
      rcases h1 b hz with q | q
      · exact (hk b hb).2 i hi q
      · have := (hk b hb).1
        omega
    · rw [if_neg hji] at hz
      exact (hk b hb).2 j hj hz⟩
  generalize hff : EngD.f ⟨E, bd, f, c, ee⟩ = f0 at h3
  have hff : f = f0 := hff
  cases h3 with
  | failed hf =>
    rcases hr with ⟨rfl, _⟩ | ⟨k, _⟩
    · subst hff
      exact ⟨rfl, ⟨_, h.upd hi h1 h2 _ h4, fun b hb => by rw [List.length_set]; exact hKn b hb⟩, hK⟩
    · exact absurd (hff.symm.trans k) hf
  | fault hf =>
    rcases hr with ⟨_, k⟩ | ⟨_, k2, _⟩
    · exact absurd hff k
    · subst k2
      exact ⟨rfl, ⟨_, h.upd hi h1 h2 _ h4, fun b hb => by rw [List.length_set]; exact hKn b hb⟩, hK⟩
  | ok h5 =>
    rcases hr with ⟨_, k⟩ | ⟨_, k2, k3⟩
    · exact absurd hff k
    · exact absurd (k2.symm.trans h5) k3
end Go.Proofs.YtddbjcfdmdbmkaaGreatDoor

namespace Go.Proofs.YtddbjcfdmdbmkaaGreatDoor
open Go.RowKit

theorem decL_size {n : Nat} (h : n ≤ 999999999) : (txt (decL n)).size ≤ 9 := by
  have h1 := dec_len 8 n (by omega)
  have h2 : (txt (decL n)).size = (decL n).length := by show (decL n).toArray.size = _; simp
  omega
theorem head_size {W R : Nat} (hW : W ≤ 999999999) (hR : R ≤ 999999999) : (headB W R).size ≤ 40 := by
  have h1 : (headB W R).size = (headB W R).data.toList.length := by simp
  have h2 := dec_len 8 W (by omega)
  have h3 := dec_len 8 R (by omega)
  rw [h1, head_lay]
  simp [headPc, layL]
  omega
theorem lists_of {B : Nat} {w : World} {v : Value} {fl : List VL} (h : w.ownsRow B 48 1 v fl.length (fl.map (·.1))) (hin : ∀ x ∈ fl, IntsAt w x.1 x.2) : ListsR w v (fl.map (·.2)) := by
  refine ⟨?_⟩
  rcases h.2 with ⟨rfl, h0⟩ | ⟨g, cap, cur, rfl, _, hg, _⟩
  · exact ⟨none, 0, by rw [List.length_map, h0], fun hp => by rw [List.length_map] at hp; omega⟩
  · refine ⟨_, _, by rw [List.length_map], fun _ => ⟨g, rfl, (Array.getElem?_eq_some_iff.1 hg).1, fun k hk => ?_⟩⟩
    have hk' : k < fl.length := by simpa using hk
    refine ⟨fl[k].1, ?_, ?_⟩
    · have := h.cells (g := g) rfl k fl[k].1 (by rw [List.getElem?_map, List.getElem?_eq_getElem hk']; rfl)
      rw [addr_add, Nat.zero_add] at this; exact this
    · have := hin fl[k] (List.getElem_mem hk')
      simpa using this
theorem ListsAt.ints {B : Nat} {w : World} {v : Value} {xs : List VL} (h : ListsAt B w v xs) : ∀ x ∈ xs, IntsAt w x.1 x.2 := fun x hx => IntsAt.of_row (h.inner x hx)
theorem ListsAt.below {B : Nat} {w w' : World} {v : Value} {xs : List VL} (h : ListsAt B w v xs) (hb : Below w.heap.size w w') : ListsAt B w' v xs :=
  h.to fun b hb' => hb.block b (by
    rcases hb' with k | ⟨y, hy, k⟩
    · exact (h.row.lt b k).2
    · exact ((h.inner y hy).lt b k).2)
theorem drewN_below {w w' : World} {q : Nat} (h : w' = w.drewN q) : Below w.heap.size w w' := by
  subst h
  exact ⟨rfl, rfl, rfl, Nat.le_refl _, fun _ _ => rfl⟩
theorem beq_dec (x y : Int) : (x == y) = decide (x = y) := by rw [Bool.eq_iff_iff]; simp
theorem below_drewN {B n : Nat} {w w' : World} (h : Below B w w') : Below B w (w'.drewN n) := ⟨h.os, h.tape, h.output, h.size, h.block⟩
theorem ints_two {w : World} {v : Value} {a b : Nat} {l : List Nat} (h : IntsAt w v l) (e : l = [a, b]) : ∃ g c, v = .slice (some ⟨g, 0, none⟩) 2 c ∧ g < w.heap.size ∧ w.cell? ⟨g, 0, none⟩ = some (.int .i64 (a : Nat)) ∧ w.cell? ⟨g, 1, none⟩ = some (.int .i64 (b : Nat)) := by
  subst e
  obtain ⟨p, c, rfl, hc⟩ := h
  obtain ⟨g, rfl, hg, hk⟩ := hc (by simp)
  exact ⟨g, c, rfl, hg, hk 0 (by simp), hk 1 (by simp)⟩
theorem many_look2 {w0 w : World} {es : List EngD} {ev : Value} {evs : List Ev} {hs : List Held} (h : Many w0 w es ev evs hs) {i E bd f : Nat} {c : WC} {ee : List Ev} (hd : es[i]? = some ⟨E, bd, f, c, ee⟩) :
    Calls Tryz.prog 16 #[.pointer (some ⟨E, 0, none⟩)] w fun x w' => ∃ m rl, Kept1 (absP c.paths) c.win ee (lastT ee) rl ∧ rl.length = m ∧ m ≤ boundA c.rate (absP c.paths) ∧ x = .returned (.agg #[.int .i64 (ee.length : Nat), .int .i64 (m : Nat), .int .i64 (bd : Nat), .int .i64 (f : Nat)]) ∧ Below w.heap.size w w' ∧ Many w0 w' es ev evs hs := by
  have hE : ∃ Z, Eng Z w E bd f c ee := by
    obtain ⟨Z, h⟩ := h
    obtain ⟨hi, hg⟩ := List.getElem?_eq_some_iff.1 hd
    have := h.eng i hi
    rw [hg] at this
    exact ⟨_, this⟩
  obtain ⟨Z, hE⟩ := hE
  refine (look_eng hE).mono ?_
  rintro x w' ⟨m, rl, h1, h2, h3, h4, h5⟩
  exact ⟨m, rl, h1, h2, h3, h4, h5, h.below h5⟩
end Go.Proofs.YtddbjcfdmdbmkaaGreatDoor
