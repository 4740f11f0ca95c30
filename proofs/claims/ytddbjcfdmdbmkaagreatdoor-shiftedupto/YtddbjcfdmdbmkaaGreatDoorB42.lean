import Derived.Test.YtddbjcfdmdbmkaaGreatDoorB41
set_option linter.unusedVariables false
set_option linter.unusedSimpArgs false
/-
  The keeps: the same lists.
-/
namespace Go.Proofs.YtddbjcfdmdbmkaaGreatDoor
open Go.RowKit

theorem IntsAt.drewN {w : World} {v : Value} {l : List Nat} (h : IntsAt w v l) {w' : World} (e : w'.heap = w.heap) : IntsAt w' v l := by
  obtain ⟨a, c, e1, hc⟩ := h
  refine ⟨a, c, e1, fun h0 => ?_⟩
  obtain ⟨g, e2, hg, hk⟩ := hc h0
  exact ⟨g, e2, by rw [e]; exact hg, fun k hk' => (cell_eq (by rw [e]) k).trans (hk k hk')⟩
set_option maxRecDepth 100000 in
set_option maxHeartbeats 1600000 in
/-- lists that are the same -/
theorem same_p {w : World} {va vb : Value} {xs : List (List Nat)} (ha : ListsR w va xs) (hb : ListsR w vb xs) (hl : xs.length ≤ maxLen) (hi : ∀ y ∈ xs, y.length ≤ maxLen) :
    Calls Tryz.prog 32 #[va, vb] w fun x w' => x = .returned (.bool true) ∧ ∃ q, w' = w.drewN q := by
  obtain ⟨aa, ac, rfl, hac⟩ := ha.form
  obtain ⟨ba, bc, rfl, hbc⟩ := hb.form
  clear ha hb
  unfold maxLen at hl hi
  go_enter Tryz.func32, Tryz.ntmps32
  go_wp2
  go_loopw [5] (fun i wr => ∃ k : Nat, k ≤ xs.length ∧ i = .int .i64 k ∧ ∃ q, wr = w.drewN q) (fun i _ => xs.length - (intOf i).toNat)
  case atStart => exact ⟨0, Nat.zero_le _, rfl, 0, rfl⟩
  case round =>
    obtain ⟨k, hk, rfl, q, hq⟩ := hrel
    have hh : wr.heap = w.heap := by rw [hq]; rfl
    have HBel : Hid (∀ w2 : World, (∃ n, w2 = wr.drewN n) → ∃ q, w2 = w.drewN q) := fun w2 hn => by
      obtain ⟨n, rfl⟩ := hn
      exact ⟨q + n, by rw [hq]; simp [World.drewN, Nat.add_assoc]⟩
    clear hq
    obtain ⟨wo, hwo⟩ : ∃ x, x = wr := ⟨_, rfl⟩
    by_cases hlt : k < xs.length
    · obtain ⟨g, rfl, hg, hc⟩ := hac (by omega)
      obtain ⟨g2, rfl, hg2, hc2⟩ := hbc (by omega)
      obtain ⟨u, hcu, hu⟩ := hc k hlt
      obtain ⟨u2, hcu2, hu2⟩ := hc2 k hlt
      have hml := hi _ (List.getElem_mem hlt)
      obtain ⟨ua, uc, rfl, huc⟩ := hu
      obtain ⟨ub, ud, rfl, hud⟩ := hu2
      generalize xs[k] = y at *
      have e1 : wr.cell? ⟨g, k, none⟩ = some (.slice ua y.length uc) := (cell_eq (by rw [hh]) k).trans hcu
      have e2 : wr.cell? ⟨g2, k, none⟩ = some (.slice ub y.length ud) := (cell_eq (by rw [hh]) k).trans hcu2
      have gl : g < wr.heap.size := by rw [hh]; exact hg
      have gl2 : g2 < wr.heap.size := by rw [hh]; exact hg2
      have hki : (k : Int) < (xs.length : Int) := by omega
      have hk0 : (0 : Int) ≤ (k : Int) := by omega
      clear hc hc2 hac hbc hcu hcu2 hi
      go_wp2
      go_quiet (fail)
      go_wp2
      subst hwo
      go_loopw [6] (fun j wi => ∃ m : Nat, m ≤ y.length ∧ j = .int .i64 m ∧ ∃ q, wi = wo.drewN q) (fun j _ => y.length - (intOf j).toNat)
      case atStart => exact ⟨0, Nat.zero_le _, rfl, _, rfl⟩
      case round =>
        obtain ⟨m, hm, rfl, q2, hq2⟩ := hrel
        have hh2 : wr.heap = wo.heap := by rw [hq2]; rfl
        have HB2 : Hid (∀ n, ∃ q, wr.drewN n = wo.drewN q) := fun n => ⟨q2 + n, by rw [hq2]; simp [World.drewN, Nat.add_assoc]⟩
        clear hq2
        have e3 : wr.cell? ⟨g, k, none⟩ = some (.slice ua y.length uc) := (cell_eq (by rw [hh2]) k).trans e1
        have e4 : wr.cell? ⟨g2, k, none⟩ = some (.slice ub y.length ud) := (cell_eq (by rw [hh2]) k).trans e2
        have gl3 : g < wr.heap.size := by rw [hh2]; exact gl
        have gl4 : g2 < wr.heap.size := by rw [hh2]; exact gl2
        by_cases hmt : m < y.length
        · obtain ⟨f, rfl, hf, hfc⟩ := huc (by omega)
          obtain ⟨f2, rfl, hf2, hfc2⟩ := hud (by omega)
          have e5 : wr.cell? ⟨f, m, none⟩ = some (.int .i64 (y[m] : Nat)) := (cell_eq (by rw [hh2, hh]) m).trans (hfc m hmt)
          have e6 : wr.cell? ⟨f2, m, none⟩ = some (.int .i64 (y[m] : Nat)) := (cell_eq (by rw [hh2, hh]) m).trans (hfc2 m hmt)
          have fl : f < wr.heap.size := by rw [hh2, hh]; exact hf
          have fl2 : f2 < wr.heap.size := by rw [hh2, hh]; exact hf2
          have hmi : (m : Int) < (y.length : Int) := by omega
          have hm0 : (0 : Int) ≤ (m : Int) := by omega
          clear hfc hfc2 huc hud hh hh2 e1 e2 gl gl2 hg hg2
          generalize y[m] = z at *
          go_wp2
          go_quiet (fail)
          go_wp2
          go_roundw
          case rel => exact ⟨m + 1, hmt, by go_num, HB2.out _⟩
          case measure => simp [intOf]; omega
        · have em : m = y.length := by omega
          subst em
          clear huc hud hh hh2 e1 e2 gl gl2 hg hg2
          go_wp2
          go_roundw
          case rel => exact ⟨k + 1, hlt, by go_num, HBel.out _ (HB2.out 0)⟩
          case measure => simp [intOf]; omega
    · have ek : k = xs.length := by omega
      subst ek
      clear hac hbc hh
      go_wp2
      go_ret
      exact ⟨rfl, HBel.out _ ⟨0, rfl⟩⟩
end Go.Proofs.YtddbjcfdmdbmkaaGreatDoor

/-
  The keeps: feed.
-/
namespace Go.Proofs.YtddbjcfdmdbmkaaGreatDoor
open Go.RowKit

/-- what Feed gives, where nothing is wrong -/
def FedOK (S : Nat → Prop) (w : World) (E bd : Nat) (c : WC) (evs : List Ev) (e : Ev) (S' : Nat → Prop) (v : Value) (ys : List (List Nat)) (w' : World) : Prop :=
  (∀ b, S' b → S b ∨ w.heap.size ≤ b) ∧ Chg S w w' ∧ (∃ B xs, ListsAt B w' v xs ∧ w.heap.size ≤ B ∧ (∀ b, (v.ownBlock = some b ∨ ∃ y ∈ xs, y.1.ownBlock = some b) → ¬ S' b) ∧ xs.map (·.2) = ys) ∧ SortedL ys ∧ (∀ t, t ∈ ys ↔ MatchOK (absP c.paths) c.win (evs ++ [e]) t) ∧ Eng S' w' E bd 0 c (evs ++ [e])
set_option maxRecDepth 100000 in
set_option maxHeartbeats 1600000 in
theorem feedK_p {S : Nat → Prop} {w : World} {E bd : Nat} {c : WC} {evs : List Ev} (h : Eng S w E bd 0 c evs) (hc : WellE c) (hel : evs.length ≤ 100000000) (e : Ev) (he : In64 e.time) (hz : feedFP c.win c.rate evs e.time = 0) :
    Calls Tryz.prog 26 #[.pointer (some ⟨E, 0, none⟩), evVal e] w fun x w' => ∃ S' v ys, x = .returned (.tuple #[v, .bool true]) ∧ FedOK S w E bd c evs e S' v ys w' := by
  have hN := Blk.new w #[.int .i64 e.time, .int .i64 e.kind, .int .i64 e.a, .int .i64 e.b, .int .i64 e.c] 44
  have hch : Chg (fun _ => False) w (w.alloc (.cells #[.int .i64 e.time, .int .i64 e.kind, .int .i64 e.a, .int .i64 e.b, .int .i64 e.c] 44)) := (Chg.refl _ w).alloc _
  have hlt := h.lt
  have h1 := h.to hch (fun _ k => k.elim)
  unfold evVal
  go_enter Tryz.func26, Tryz.ntmps26
  go_upto_region 1 with fail
  generalize w.alloc (.cells #[.int .i64 e.time, .int .i64 e.kind, .int .i64 e.a, .int .i64 e.b, .int .i64 e.c] 44) = W at *
  have v0 := hN.cell 0; have v1 := hN.cell 1; have v2 := hN.cell 2; have v3 := hN.cell 3; have v4 := hN.cell 4; have l3 := hN.lt
  simp at v0 v1 v2 v3 v4
  have hf := feed_go h1 hc hel e he hz
  unfold evVal at hf
  go_wp2_with (first
    | (go_at_call 27; refine hf.mono ?_; rintro x1 w1 ⟨S', v, B, ys, rfl, q1, q2, q3, q4, q5, q6, q7, q8⟩))
  have hs := hch.size
  refine bodyPost_ret (v := .tuple #[v, .bool true]) (by simp [results, Tryz.results26, go_sem]) rfl ⟨S', v, _, rfl, fun b hb => ?_, (hch.mono (fun b _ k => k.elim)).trans q2 (fun b _ k => k), ⟨B, ys, q3, by omega, q5, rfl⟩, q6, q7, q8⟩
  rcases q1 b hb with k | k
  · exact .inl k
  · exact .inr (by omega)
end Go.Proofs.YtddbjcfdmdbmkaaGreatDoor
