import Derived.Test.YtddbjcfdmdbmkaaGreatDoorB44
import Derived.BigQuiet
set_option linter.unusedVariables false
set_option linter.unusedSimpArgs false
/-
  The keeps: lists that rise.
-/
namespace Go.Proofs.YtddbjcfdmdbmkaaGreatDoor
open Go.RowKit

theorem cmp_nil_right (l : List Nat) : ¬ cmpL l [] < 0 := by
  cases l with
  | nil => simp [cmpL]
  | cons a l => simp [cmpL]
theorem pair_get {y : List Nat} (h : y.Pairwise (· < ·)) {e : Nat} (he : e + 1 < y.length) : y[e] < y[e + 1] := List.pairwise_iff_getElem.1 h e (e + 1) (by omega) he (by omega)
theorem sorted_get {xs : List (List Nat)} (h : SortedL xs) {d i : Nat} (hd : d < i) (hi : i < xs.length) : cmpL xs[d] xs[i] < 0 := List.pairwise_iff_getElem.1 h d i (by omega) hi hd
theorem sub_one_cast {i : Nat} (h : i ≠ 0) : (i : Int) - 1 = ((i - 1 : Nat) : Int) := by omega
theorem small_cast {d n : Nat} (h1 : d < n) (h2 : n ≤ 9223372036854775807) : (d : Int) ≤ 9223372036854775806 := by omega
/-- what each list is -/
structure RiseL (last : Nat) (y : List Nat) : Prop where
  ne : 0 < y.length
  last : y[y.length - 1]? = some last
  up : y.Pairwise (· < ·)
set_option maxRecDepth 100000 in
set_option maxHeartbeats 3200000 in
theorem rising_p {w : World} {v : Value} {xs : List (List Nat)} {last : Nat} (ha : ListsR w v xs) (hs : SortedL xs) (he : ∀ y ∈ xs, RiseL last y) (hl : xs.length ≤ maxLen) (hi : ∀ y ∈ xs, y.length ≤ maxLen) :
    Calls Tryz.prog 30 #[v, .int .i64 (last : Nat)] w fun x w' => x = .returned (.bool true) ∧ ∃ q, w' = w.drewN q := by
  obtain ⟨aa, ac, rfl, hac⟩ := ha.form
  clear ha
  unfold maxLen at hl hi
  go_enter Tryz.func30, Tryz.ntmps30
  go_wp2
  go_loopw [5] (fun iv wr => ∃ i : Nat, i ≤ xs.length ∧ iv = .int .i64 i ∧ ∃ q, wr = w.drewN q) (fun iv _ => xs.length - (intOf iv).toNat)
  case atStart => exact ⟨0, Nat.zero_le _, rfl, 0, rfl⟩
  case round =>
    obtain ⟨i, hik, rfl, q, hq⟩ := hrel
    have hh : wr.heap = w.heap := by rw [hq]; rfl
    have HBel : Hid (∀ w2 : World, (∃ n, w2 = wr.drewN n) → ∃ q, w2 = w.drewN q) := fun w2 hn => by
      obtain ⟨n, rfl⟩ := hn
      exact ⟨q + n, by rw [hq]; simp [World.drewN, Nat.add_assoc]⟩
    clear hq
    obtain ⟨wo, hwo⟩ : ∃ x, x = wr := ⟨_, rfl⟩
    by_cases hlt : i < xs.length
    · obtain ⟨g, rfl, hg, hc⟩ := hac (by omega)
      obtain ⟨u, hcu, hu⟩ := hc i hlt
      have hR := he _ (List.getElem_mem hlt)
      have hml := hi _ (List.getElem_mem hlt)
      have HS : Hid (∀ d, (hd : d < i) → cmpL xs[d] xs[i] < 0) := fun d hd => sorted_get hs hd hlt
      obtain ⟨ua, uc, rfl, huc⟩ := hu
      obtain ⟨x, hx⟩ : ∃ x, xs[i] = x := ⟨_, rfl⟩
      rw [hx] at hR hml huc hcu HS
      obtain ⟨f, rfl, hf, hfc⟩ := huc hR.ne
      have e1 : wr.cell? ⟨g, i, none⟩ = some (.slice (some ⟨f, 0, none⟩) x.length uc) := (cell_eq (by rw [hh]) i).trans hcu
      have gl : g < wr.heap.size := by rw [hh]; exact hg
      have fl : f < wr.heap.size := by rw [hh]; exact hf
      have hcell : ∀ k, (hk : k < x.length) → wr.cell? ⟨f, k, none⟩ = some (.int .i64 (x[k] : Nat)) := fun k hk => (cell_eq (by rw [hh]) k).trans (hfc k hk)
      have HC : Hid (∀ k, (hk : k < x.length) → wr.cell? ⟨f, k, none⟩ = some (.int .i64 (x[k] : Nat))) := hcell
      have c0 := hcell 0 hR.ne
      have hlast : x[x.length - 1]'(by have := hR.ne; omega) = last := by
        have h1 := hR.last
        rw [List.getElem?_eq_getElem (by have := hR.ne; omega)] at h1
        simpa using h1
      have cL := hcell (x.length - 1) (by have := hR.ne; omega)
      rw [hlast] at cL
      obtain ⟨dL, hdL⟩ : ∃ d, x.length - 1 = d := ⟨_, rfl⟩
      rw [hdL] at cL
      have hsub : (x.length : Int) - 1 = (dL : Int) := by have := hR.ne; omega
      have hdl : (dL : Int) < (x.length : Int) := by omega
      have hd0 : (0 : Int) ≤ (dL : Int) := by omega
      have hd2 : (dL : Int) ≤ 9223372036854775806 := by omega
      have hL0 : ((x.length : Int) == 0) = false := beq_eq_false_iff_ne.2 (by have := hR.ne; omega)
      have hL1 : (0 : Int) < (x.length : Int) := by have := hR.ne; omega
      have hup := hR.up
      have hxn := hR.ne
      have hki : (i : Int) < (xs.length : Int) := by omega
      have hk0 : (0 : Int) ≤ (i : Int) := by omega
      generalize hz0 : x[0] = z0 at *
      have hz00 : ¬ ((z0 : Nat) : Int) < 0 := by omega
      clear hcell hfc hdL hlast hx hR hcu hL0 hz0
      have hL0 : ((x.length : Int) == 0) = false := beq_eq_false_iff_ne.2 (by omega)
      go_wp2
      subst hwo
      go_loopw [7] (fun kv wi => ∃ e : Nat, e + 1 ≤ x.length ∧ kv = .int .i64 ((e : Int) + 1) ∧ ∃ q, wi = wo.drewN q) (fun kv _ => x.length - (intOf kv).toNat)
      case atStart => exact ⟨0, hxn, rfl, 0, rfl⟩
      case round =>
        obtain ⟨e, hel, rfl, q2, hq2⟩ := hrel
        have hh2 : wr.heap = wo.heap := by rw [hq2]; rfl
        have HB2 : Hid (∀ w2 : World, (∃ n, w2 = wr.drewN n) → ∃ q, w2 = wo.drewN q) := fun w2 hn => by
          obtain ⟨n, rfl⟩ := hn
          exact ⟨q2 + n, by rw [hq2]; simp [World.drewN, Nat.add_assoc]⟩
        clear hq2
        have gl3 : g < wr.heap.size := by rw [hh2]; exact gl
        have fl3 : f < wr.heap.size := by rw [hh2]; exact fl
        by_cases hlt2 : e + 1 < x.length
        · have x1 : wr.cell? ⟨f, e + 1, none⟩ = some (.int .i64 (x[e + 1] : Nat)) := (cell_eq (by rw [hh2]) (e + 1)).trans (HC.out (e + 1) hlt2)
          have x2 : wr.cell? ⟨f, e, none⟩ = some (.int .i64 (x[e] : Nat)) := (cell_eq (by rw [hh2]) e).trans (HC.out e (by omega))
          have hxx := pair_get hup hlt2
          generalize x[e + 1] = xb at *
          generalize x[e] = xa at *
          have hle : decide ((xb : Int) ≤ (xa : Int)) = false := by simp; omega
          have hle2 : ¬ (xb : Int) ≤ (xa : Int) := by omega
          have hei : (e : Int) + 1 < (x.length : Int) := by omega
          have he0 : (0 : Int) ≤ (e : Int) := by omega
          have he3 : (e : Int) < (x.length : Int) := by omega
          clear hh hh2
          go_wp2
          go_quiet (fail)
          go_wp2
          go_roundw
          case rel => exact ⟨e + 1, hlt2, by go_num, HB2.out _ ⟨_, rfl⟩⟩
          case measure => simp [intOf]; omega
        · have hei : ¬ (e : Int) + 1 < (x.length : Int) := by omega
          by_cases hi0 : i = 0
          · have hi0' : ((i : Int) == 0) = true := by rw [hi0]; rfl
            clear hi0 hh hh2
            go_wp2
            go_roundw
            case rel => exact ⟨i + 1, hlt, by go_num, HBel.out _ (HB2.out _ ⟨0, rfl⟩)⟩
            case measure => simp [intOf]; omega
          · have hi0' : ((i : Int) == 0) = false := beq_eq_false_iff_ne.2 (by omega)
            have hdi : i - 1 < xs.length := by omega
            obtain ⟨pu, hcp, hpu⟩ := hc (i - 1) hdi
            obtain ⟨pa, pc, rfl, hpc⟩ := hpu
            have hRp := he _ (List.getElem_mem hdi)
            have hcmp := HS.out (i - 1) (by omega)
            have hmp := hi _ (List.getElem_mem hdi)
            obtain ⟨p, hp⟩ : ∃ p, xs[i - 1] = p := ⟨_, rfl⟩
            rw [hp] at hcp hpc hRp hcmp hmp
            obtain ⟨f2, rfl, hf2, hfc2⟩ := hpc hRp.ne
            have e2 : wr.cell? ⟨g, i - 1, none⟩ = some (.slice (some ⟨f2, 0, none⟩) p.length pc) := (cell_eq (by rw [hh2, hh]) (i - 1)).trans hcp
            have HCx : Hid (∀ k, (hk : k < x.length) → wr.cell? ⟨f, k, none⟩ = some (.int .i64 (x[k] : Nat))) := fun k hk => (cell_eq (by rw [hh2]) k).trans (HC.out k hk)
            have HCp : Hid (∀ k, (hk : k < p.length) → wr.cell? ⟨f2, k, none⟩ = some (.int .i64 (p[k] : Nat))) := fun k hk => (cell_eq (by rw [hh2, hh]) k).trans (hfc2 k hk)
            have fl4 : f2 < wr.heap.size := by rw [hh2, hh]; exact hf2
            have hsub2 : (i : Int) - 1 = ((i - 1 : Nat) : Int) := sub_one_cast hi0
            have hdj : ((i - 1 : Nat) : Int) < (xs.length : Int) := Int.ofNat_lt.2 hdi
            have hdj0 : (0 : Int) ≤ ((i - 1 : Nat) : Int) := Int.natCast_nonneg _
            have hdj2 : ((i - 1 : Nat) : Int) ≤ 9223372036854775806 := small_cast hdi hl
            have HBo : Hid (∀ w2 : World, (∃ n, w2 = wr.drewN n) → ∃ q, w2 = w.drewN q) := fun w2 hn => HBel.out _ (HB2.out _ hn)
            generalize i - 1 = d2 at *
            obtain ⟨wa, hwa⟩ : ∃ y, y = wr := ⟨_, rfl⟩
            clear hp hfc2 hpc hcp hh hh2 HC HB2 HBel HS hi0 c0 cL hc
            go_wp2
            subst hwa
            go_loopw [8] (fun kv wi => ∃ k : Nat, k ≤ x.length ∧ k ≤ p.length ∧ kv = .int .i64 (k : Nat) ∧ Hid (cmpL p x = cmpL (p.drop k) (x.drop k)) ∧ ∃ q, wi = wa.drewN q) (fun kv _ => x.length - (intOf kv).toNat)
            case atStart => exact ⟨0, Nat.zero_le _, Nat.zero_le _, rfl, rfl, 0, rfl⟩
            case round =>
              obtain ⟨k, hkx, hkp, rfl, HD, q3, hq3⟩ := hrel
              have hh3 : wr.heap = wa.heap := by rw [hq3]; rfl
              have HB3 : Hid (∀ w2 : World, (∃ n, w2 = wr.drewN n) → ∃ q, w2 = wa.drewN q) := fun w2 hn => by
                obtain ⟨n, rfl⟩ := hn
                exact ⟨q3 + n, by rw [hq3]; simp [World.drewN, Nat.add_assoc]⟩
              clear hq3
              have fl5 : f < wr.heap.size := by rw [hh3]; exact fl3
              have fl6 : f2 < wr.heap.size := by rw [hh3]; exact fl4
              have hlx : k < x.length := by
                by_cases h : k < x.length
                · exact h
                · have h1 := HD.out
                  rw [show x.drop k = [] from List.drop_eq_nil_of_le (by omega)] at h1
                  rw [h1] at hcmp
                  exact absurd hcmp (cmp_nil_right _)
              have x1 : wr.cell? ⟨f, k, none⟩ = some (.int .i64 (x[k] : Nat)) := (cell_eq (by rw [hh3]) k).trans (HCx.out k hlx)
              have hlx' : decide ((k : Int) < (x.length : Int)) = true := by simp; omega
              have hlx2 : (k : Int) < (x.length : Int) := by omega
              have hlx3 : ((k : Int) == (x.length : Int)) = false := beq_eq_false_iff_ne.2 (by omega)
              have hk0' : (0 : Int) ≤ (k : Int) := by omega
              by_cases hlp : k < p.length
              · have x2 : wr.cell? ⟨f2, k, none⟩ = some (.int .i64 (p[k] : Nat)) := (cell_eq (by rw [hh3]) k).trans (HCp.out k hlp)
                have hlp' : decide ((k : Int) < (p.length : Int)) = true := by simp; omega
                have hlp2 : (k : Int) < (p.length : Int) := by omega
                have HDD := cmpL_drop hlp hlx
                by_cases heq : x[k] = p[k]
                · have HE : Hid (cmpL p x = cmpL (p.drop (k + 1)) (x.drop (k + 1))) := by
                    show _ = _
                    rw [HD.out, HDD, if_pos]
                    rw [heq]; unfold cmpN; simp
                  rw [heq] at x1
                  clear HDD heq HD hh3
                  generalize p[k] = z at *
                  go_wp2
                  go_quiet (fail)
                  go_wp2
                  go_roundw
                  case rel => exact ⟨k + 1, hlx, hlp, by go_num, HE, HB3.out _ ⟨_, rfl⟩⟩
                  case measure => simp [intOf]; omega
                · have hz : p[k] < x[k] := by
                    rw [HD.out, HDD] at hcmp
                    unfold cmpN at hcmp
                    by_cases h1 : p[k] < x[k]
                    · exact h1
                    · have h2 : x[k] < p[k] := by omega
                      simp [h1, h2] at hcmp
                  clear HDD heq HD hh3
                  generalize p[k] = z at *
                  generalize x[k] = y at *
                  have hy1 : ((y : Int) == (z : Int)) = false := beq_eq_false_iff_ne.2 (by omega)
                  have hy2 : decide ((y : Int) < (z : Int)) = false := by simp; omega
                  go_wp2
                  go_quiet (fail)
                  go_wp2
                  go_quiet (fail)
                  go_wp2
                  exact ⟨⟨i + 1, hlt, by go_num, HBo.out _ (HB3.out _ ⟨_, rfl⟩)⟩, by simp [intOf]; omega⟩
              · have hlp' : decide ((k : Int) < (p.length : Int)) = false := by simp; omega
                clear HD hh3
                go_wp2
                go_quiet (fail)
                go_wp2
                go_quiet (fail)
                go_wp2
                exact ⟨⟨i + 1, hlt, by go_num, HBo.out _ (HB3.out _ ⟨_, rfl⟩)⟩, by simp [intOf]; omega⟩
    · have ek : i = xs.length := by omega
      subst ek
      clear hac hh
      go_wp2
      go_ret
      exact ⟨rfl, HBel.out _ ⟨0, rfl⟩⟩
end Go.Proofs.YtddbjcfdmdbmkaaGreatDoor
