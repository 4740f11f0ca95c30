import Derived.Test.YtddbjcfdmdbmkaaGreatDoorB45
import Derived.Test.YtddbjcfdmdbmkaaGreatDoorB46
set_option linter.unusedVariables false
set_option linter.unusedSimpArgs false
/-
  Bounded: the walk.
-/
namespace Go.Proofs.YtddbjcfdmdbmkaaGreatDoor
open Go.RowKit

theorem match_rise {paths : List (List ASt)} {win : Int} {evs : List Ev} {t : List Nat} (h : MatchOK paths win evs t) {last : Nat} (hl : evs.length = last + 1) : RiseL last t := by
  obtain ⟨i, _, ⟨h1, h2, _, h4⟩, _⟩ := h
  have hp : 0 < t.length := List.length_pos_iff.2 h1
  refine ⟨hp, ?_, ext_rising h2⟩
  rw [← List.getLast?_eq_getElem?]
  rw [List.getLastD_eq_getLast?] at h4
  obtain ⟨z, hz⟩ : ∃ z, t.getLast? = some z := ⟨t.getLast h1, List.getLast?_eq_some_getLast h1⟩
  rw [hz] at h4 ⊢
  simp only [Option.getD_some] at h4
  congr 1
  omega
set_option maxRecDepth 100000 in
set_option maxHeartbeats 3200000 in
theorem bounded_p (n_ window rate : Int) (h0 : In64 n_) (h1 : In64 window) (h2 : In64 rate) {ws zs : List Int} {qv rv : Value} {w : World} (hrawq : RawAt w qv ws) (hraw : RawAt w rv zs) (hl : zs.length ≤ 2000000) :
    Calls Tryz.prog 8 #[qv, .int .i64 n_, .int .i64 window, .int .i64 rate, rv] w fun x w' => x = .returned (.bool true) ∧ Below w.heap.size w w' := by
  have k2 := pick_lt n_ (show 0 < 4 by omega)
  have k3 := pick_lt window (show 0 < 40 by omega)
  have k4 := pick_lt rate (show 0 < 7 by omega)
  have p2 := fun w1 => pick_p n_ 4 h0 (by omega) (by omega) w1
  have p3 := fun w1 => pick_p window 40 h1 (by omega) (by omega) w1
  have p4 := fun w1 => pick_p rate 7 h2 (by omega) (by omega) w1
  generalize pickP n_ 4 = a at *
  generalize pickP window 40 = c at *
  generalize pickP rate 7 = b at *
  simp only [Int.cast_ofNat_Int] at p2 p3 p4
  obtain ⟨W, hWc, hW1, hW2⟩ : ∃ W : Nat, 1 + (c : Int) = (W : Int) ∧ 1 ≤ W ∧ W ≤ 40 := ⟨1 + c, by omega, by omega, by omega⟩
  obtain ⟨R, hRb, hR1, hR2⟩ : ∃ R : Nat, 1 + (b : Int) = (R : Int) ∧ 1 ≤ R ∧ R ≤ 7 := ⟨1 + b, by omega, by omega, by omega⟩
  obtain ⟨N, hNa, hN1, hN2⟩ : ∃ N : Nat, 1 + (a : Int) = (N : Int) ∧ 1 ≤ N ∧ N ≤ 4 := ⟨1 + a, by omega, by omega, by omega⟩
  have hh := fun w1 => head_p W R (by omega) (by omega) w1
  have hst := steps_p hrawq N 0 hN2 (by omega) (by omega)
  simp only [Int.cast_ofNat_Int] at hst
  have hsl := steps_len (zs := ws) (fr := 0) (n := N) (by omega) hN2 (by omega)
  obtain ⟨va, vc, hrv, _⟩ := hraw.form
  subst hrv
  obtain ⟨qa, qc, hqv, _⟩ := hrawq.form
  subst hqv
  have hT : ∀ S : ByteArray, S.data.toList = stepsB ws 0 N → TextOK (headB W R ++ S) W R (mostP R N) [stepsL (rowL (soXs 0 (soOs ws N)))] := by
    intro S hS
    have h := so_text (fr := 0) (W := W) (R := R) (os := soOs ws N) (soOs_ok ws N) ⟨by rw [soOs_len]; exact hN1, .inl ⟨rfl, by rw [soOs_len]; exact hN2⟩⟩ (by omega) (by omega) (S := headB W R ++ S) (by rw [show layL (soSeq [] 0 (soOs ws N)) = stepsB ws 0 N from rfl, ← hS]; simp)
    rwa [soOs_len] at h
  generalize [stepsL (rowL (soXs 0 (soOs ws N)))] = paths at *
  have hlh := head_size (W := W) (R := R) (by omega) (by omega)
  have hbg : ∀ (S : ByteArray), S.data.toList = stepsB ws 0 N → ∀ w3, Below w.heap.size w w3 → Calls Tryz.prog 24 #[.string (headB W R ++ S)] w3 fun x w' => ∃ E pv svs, x = .returned (.pointer (some ⟨E, 0, none⟩)) ∧ Many w w' ([] ++ [⟨E, mostP R N, 0, ⟨W, R, pv, paths, svs⟩, []⟩]) (.slice none 0 0) [] [] ∧ WellE ⟨W, R, pv, paths, svs⟩ ∧ boundA R (absP paths) = mostP R N := by
    intro S hS w3 hb3
    refine (many_begin ((Many.start w).below hb3) (hT S hS)).mono ?_
    rintro x w' ⟨E, pv, svs, e, M⟩
    exact ⟨E, pv, svs, e, M, (hT S hS).well pv svs, (hT S hS).bnd⟩
  have hsz : ∀ S : ByteArray, S.data.toList = stepsB ws 0 N → S.size ≤ 280 := fun S hS => by
    have h1 : S.size = S.data.toList.length := by simp
    rw [h1, hS]; exact hsl
  generalize headB W R = H at *
  clear hT
  go_enter Tryz.func8, Tryz.ntmps8
  go_upto_region 2 with (go_at_call 21; refine (p3 _).mono ?_; rintro x1 w1 ⟨rfl, e⟩; rw [e]; clear e w1)
  go_upto_region 3 with (go_at_call 21; refine (p4 _).mono ?_; rintro x2 w2 ⟨rfl, e⟩; rw [e]; clear e w2)
  go_upto_region 4 with (first
    | (go_at_call 22; refine (hh _).mono ?_; rintro x3 w3 ⟨rfl, e⟩; rw [e]; clear e w3)
    | (go_at_call 21; refine (p2 _).mono ?_; rintro x3 w3 ⟨rfl, e⟩; rw [e]; clear e w3)
    | (go_at_call 28; refine hst.mono ?_; rintro x4 w4 ⟨S, rfl, hS, hb4⟩; have gS : ¬ 9223372036854775807 < H.size + S.size := (by have := hsz S hS; omega))
    | (go_at_call 24; refine (hbg S hS _ hb4).mono ?_; rintro x5 w5 ⟨E, pv, svs, rfl, M5, hwl, hbd⟩))
  go_upto_region 6 with fail
  have hev := many_events (W := W) (R := R) M5 hraw hl (by omega) ⟨hR1, by omega⟩
  have hgood := clk_good (W := W) (R := R) hl (by omega) hR1
  generalize clkEvs W R (rawN zs) = evs at *
  clear hbg hst hh p2 p3 p4 M5 hsz
  go_upto_region 7 with (first
    | (go_at_call 29; refine hev.mono ?_; rintro x6 w6 ⟨ea, ec, rfl, M6⟩))
  clear hev
  go_wp2
  go_loopw [15] (fun iv wr => ∃ i : Nat, i ≤ zs.length ∧ iv = .int .i64 (i : Nat) ∧ Many w wr [⟨E, mostP R N, 0, ⟨W, R, pv, paths, svs⟩, evs.take i⟩] (.slice ea zs.length ec) evs []) (fun iv _ => zs.length - (intOf iv).toNat)
  case atStart => exact ⟨0, Nat.zero_le _, rfl, M6⟩
  case round =>
    obtain ⟨i, hi, rfl, M⟩ := hrel
    by_cases hlt : i < zs.length
    · have hlt' : i < evs.length := by rw [hgood.len]; exact hlt
      obtain ⟨g, rfl⟩ := M.evB (by omega)
      obtain ⟨hg, c0, c1, c2, c3, c4⟩ := M.ev hlt'
      have hf := hgood.feed i hlt'
      have hlo := hgood.low i hlt'
      have hhi := hgood.high i hlt'
      have HT : Hid (evs.take (i + 1) = evs.take i ++ [evs[i]]) := take_next hlt'
      have HL : Hid ((evs.take i ++ [evs[i]]).length = i + 1) := by show _ = _; rw [← take_next hlt', List.length_take]; omega
      obtain ⟨e, HEI⟩ : ∃ e, Hid (evs[i] = e) := ⟨evs[i], rfl⟩
      rw [HEI.out] at c0 c1 c2 c3 c4 hf hlo hhi HT HL
      have hki : (i : Int) < (zs.length : Int) := by omega
      have hk0 : (0 : Int) ≤ (i : Int) := by omega
      have hi2 : (i : Int) ≤ 2000000 := by omega
      have hel : (evs.take i).length ≤ 100000000 := by rw [List.length_take]; omega
      have fa := many_feed M (i := 0) rfl hwl hel e (in64_small hlo hhi) hf
      unfold evVal at fa
      go_upto_region 11 with (go_at_call 26; refine fa.mono ?_; rintro x7 w7 ⟨Ba, xa, xc, xs, rfl, s1, m1, M7⟩)
      have la := many_look2 M7 (i := 0) rfl
      rw [HL.out] at la
      clear fa M c0 c1 c2 c3 c4 hf
      go_upto_region 12 with (go_at_call 16; refine la.mono ?_; rintro x8 w8 ⟨m, rl, j1, j2, j3, rfl, j4, M8⟩)
      have j3 : m ≤ boundA R (absP paths) := j3
      rw [hbd] at j3
      have hNv := Blk.new w8 #[.int .i64 ((i : Int) + 1), .int .i64 (m : Nat), .int .i64 (mostP R N : Nat), .int .i64 0] 27
      have M9 := M8.keep ((Chg.refl (fun _ => False) w8).alloc (.cells #[.int .i64 ((i : Int) + 1), .int .i64 (m : Nat), .int .i64 (mostP R N : Nat), .int .i64 0] 27))
      generalize w8.alloc (.cells #[.int .i64 ((i : Int) + 1), .int .i64 (m : Nat), .int .i64 (mostP R N : Nat), .int .i64 0] 27) = W9 at *
      have LA := M9.lists (x := ⟨Ba, .slice xa xs.length xc, xs⟩) (by simp)
      have hri := rising_p (w := W9) (v := .slice xa xs.length xc) (xs := xs.map (·.2)) (last := i) LA.read s1 (fun y hy => match_rise ((m1 y).1 hy) HL.out) LA.few.1 LA.few.2
      clear la M7 M8 LA j1 j2 j4
      go_upto_region 13 with (go_at_call 30; refine hri.mono ?_; rintro x9 w9 ⟨rfl, q, hq⟩)
      have hNq : Blk (W9.drewN q) w8.heap.size #[.int .i64 ((i : Int) + 1), .int .i64 (m : Nat), .int .i64 (mostP R N : Nat), .int .i64 0] 27 := hNv
      have M10 := M9.below (drewN_below (w' := W9.drewN q) rfl)
      generalize W9.drewN q = W10 at *
      have z0 := hNq.cell 0; have z1 := hNq.cell 1; have z2 := hNq.cell 2; have z3 := hNq.cell 3; have zl := hNq.lt
      simp at z0 z1 z2 z3
      have hm1 : ¬ ((mostP R N : Nat) : Int) < (m : Int) := by omega
      have hm2 : ¬ (m : Int) < 0 := by omega
      go_wp2
      go_roundw
      case rel =>
        refine ⟨i + 1, hlt, by go_num, ?_⟩
        rw [HT.out]
        exact M10.drop (hs' := []) (by simp)
      case measure => simp [intOf]; omega
    · have ei : i = zs.length := by omega
      subst ei
      have hbel := M.bel
      go_wp2
      go_ret
      exact ⟨rfl, hbel⟩
end Go.Proofs.YtddbjcfdmdbmkaaGreatDoor
