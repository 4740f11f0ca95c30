import Derived.Test.YtddbjcfdmdbmkaaGreatDoorB40
set_option linter.unusedVariables false
set_option linter.unusedSimpArgs false
/-
  Full: what is fed.
-/
namespace Go.Proofs.YtddbjcfdmdbmkaaGreatDoor
open Go.RowKit

def fullE (time : Int) : Ev := ⟨time, 7, 0, 0, 0⟩
def fullEvs (time : Int) (m : Nat) : List Ev := List.replicate m (fullE time)
theorem full_snoc (time : Int) (m : Nat) : fullEvs time m ++ [fullE time] = fullEvs time (m + 1) := by unfold fullEvs; rw [List.replicate_succ']
theorem full_at (time : Int) (m i : Nat) (h : i < m) : evAt (fullEvs time m) i = fullE time := by
  unfold evAt fullEvs
  rw [List.getD_eq_getElem?_getD, List.getElem?_replicate, if_pos h]; rfl
theorem full_last (time : Int) (m : Nat) (h : 0 < m) : lastT (fullEvs time m) = time := by
  unfold lastT
  have hl : (fullEvs time m).length = m := by unfold fullEvs; simp
  rw [hl, full_at time m (m - 1) (by omega)]; rfl
theorem full_len (time : Int) (m : Nat) : (fullEvs time m).length = m := by unfold fullEvs; simp
theorem full_st (time : Int) (m : Nat) : AnySt (fullEvs time m) (stepA st7) := by
  refine ⟨fun es i hi => ?_, fun es e => rfl⟩
  rw [full_len] at hi
  rw [full_at time m i hi]
  rfl
theorem full_near {time W : Int} (hW : 0 < W) (m : Nat) : ∀ i, i < (fullEvs time m).length → lastT (fullEvs time m) - (evAt (fullEvs time m) i).time < W := by
  intro i hi
  rw [full_len] at hi
  rw [full_last time m (by omega), full_at time m i hi]
  show time - time < W
  omega
theorem full_cnt {time W : Int} (hW : 0 < W) (m : Nat) : cntNear W (fullEvs time m) time = m := by
  unfold cntNear fullEvs fullE
  rw [List.countP_replicate]
  simp [hW]
theorem full_f0 {time : Int} {W R m : Nat} (hW : 1 ≤ W) (hm : m + 1 ≤ R) : feedFP W R (fullEvs time m) time = 0 := by
  unfold feedFP
  rw [full_cnt (by omega), if_neg, if_neg (by omega)]
  rintro ⟨h1, h2⟩
  have : 0 < m := by
    cases m with
    | zero => exact absurd rfl h1
    | succ m => omega
  rw [full_last time m this] at h2
  omega
theorem full_f8 {time : Int} {W R : Nat} (hW : 1 ≤ W) (hR : 1 ≤ R) : feedFP W R (fullEvs time R) time = 8 := by
  unfold feedFP
  rw [full_cnt (by omega), if_neg, if_pos (by omega)]
  rintro ⟨_, h2⟩
  rw [full_last time R (by omega)] at h2
  omega
/-- Feed of one event more. -/
theorem full_feed {Z : Nat → Prop} {w : World} {E bd W R k m : Nat} {pv : Value} {svs : List Value} {time : Int} (hE : Eng Z w E bd 0 ⟨W, R, pv, [List.replicate k st7], svs⟩ (fullEvs time m)) (hwell : WellE ⟨W, R, pv, [List.replicate k st7], svs⟩) (hk : 1 ≤ k) (hm : m + 1 ≤ R) (hR : R ≤ 12) (ht : In64 time) :
    Calls Tryz.prog 26 #[.pointer (some ⟨E, 0, none⟩), .agg #[.int .i64 time, .int .i64 7, .int .i64 0, .int .i64 0, .int .i64 0]] w fun x w' => ∃ Z' sl cp, x = .returned (.tuple #[.slice sl (cho m (k - 1)) cp, .bool true]) ∧ (∀ b, Z' b → Z b ∨ w.heap.size ≤ b) ∧ Chg Z w w' ∧ Eng Z' w' E bd 0 ⟨W, R, pv, [List.replicate k st7], svs⟩ (fullEvs time (m + 1)) := by
  have hW1 : 1 ≤ W := hwell.win1
  refine (feedK_p hE hwell (by rw [full_len]; omega) (fullE time) ht (full_f0 hW1 hm)).mono ?_
  rintro x w' ⟨Z', v, ys, rfl, F⟩
  have hsl : ∃ a cp, v = .slice a ys.length cp := by
    obtain ⟨_, _, ⟨B, xs, hl, _, _, rfl⟩, _⟩ := F
    obtain ⟨a, cp, e, _⟩ := hl.read.form
    exact ⟨a, cp, e⟩
  obtain ⟨sl, cp, rfl⟩ := hsl
  obtain ⟨q1, q2, _, q4, q5, q6⟩ := F
  have hl : ys.length = cho m (k - 1) := by
    have h1 := full_st time (m + 1)
    have h2 := full_near (time := time) (W := (W : Int)) (by omega) (m + 1)
    rw [← full_snoc] at h1 h2
    have := any_matches (k := k) h1 hk h2 q4 (fun t => by
      rw [q5]
      show MatchOK (absP [List.replicate k st7]) W _ t ↔ _
      unfold absP
      rw [List.map_cons, List.map_nil, List.map_replicate])
    rw [full_len] at this
    exact this
  rw [hl]
  rw [full_snoc] at q6
  exact ⟨Z', sl, cp, rfl, q1, q2, q6⟩
/-- Look. -/
theorem full_look {Z : Nat → Prop} {w : World} {E bd W R k m f : Nat} {pv : Value} {svs : List Value} {time : Int} (hE : Eng Z w E bd f ⟨W, R, pv, [List.replicate k st7], svs⟩ (fullEvs time m)) (hW : 1 ≤ W) :
    Calls Tryz.prog 16 #[.pointer (some ⟨E, 0, none⟩)] w fun x w' => x = .returned (.agg #[.int .i64 (m : Nat), .int .i64 (sumCho m (k - 1) : Nat), .int .i64 (bd : Nat), .int .i64 (f : Nat)]) ∧ Below w.heap.size w w' := by
  refine (look_eng hE).mono ?_
  rintro x w' ⟨n, rl, h1, h2, _, rfl, hb⟩
  have h1' : Kept1 [List.replicate k (stepA st7)] W (fullEvs time m) (lastT (fullEvs time m)) rl := by
    have h3 : Kept1 (absP [List.replicate k st7]) W (fullEvs time m) (lastT (fullEvs time m)) rl := h1
    unfold absP at h3
    rw [List.map_cons, List.map_nil, List.map_replicate] at h3
    exact h3
  have := any_runs (full_st time m) (full_near (by omega) m) h1'
  rw [full_len, h2] at this
  rw [this, full_len]
  exact ⟨rfl, hb⟩
/-- Feed of one event too many. -/
theorem full_fault {Z : Nat → Prop} {w : World} {E bd W R k : Nat} {pv : Value} {svs : List Value} {time : Int} (hE : Eng Z w E bd 0 ⟨W, R, pv, [List.replicate k st7], svs⟩ (fullEvs time R)) (hwell : WellE ⟨W, R, pv, [List.replicate k st7], svs⟩) (hR : 1 ≤ R ∧ R ≤ 12) (ht : In64 time) :
    Calls Tryz.prog 27 #[.pointer (some ⟨E, 0, none⟩), .agg #[.int .i64 time, .int .i64 7, .int .i64 0, .int .i64 0, .int .i64 0]] w fun x w' => ∃ Z', x = .returned (.tuple #[.slice none 0 0, .int .i64 8]) ∧ (∀ b, Z' b → Z b ∨ w.heap.size ≤ b) ∧ Chg Z w w' ∧ Eng Z' w' E bd 8 ⟨W, R, pv, [List.replicate k st7], svs⟩ (fullEvs time R) := by
  have h8 := full_f8 (time := time) (W := W) (R := R) hwell.win1 hR.1
  refine (feed_eng hE hwell (by rw [full_len]; omega) (fullE time) ht).mono ?_
  rintro x w' ⟨S', f', evs', h1, h2, h3, h4⟩
  generalize hf0 : (0 : Nat) = f0 at h3
  cases h3 with
  | failed hf => exact absurd hf0.symm hf
  | fault hf =>
    have e : feedFP (⟨W, R, pv, [List.replicate k st7], svs⟩ : WC).win (⟨W, R, pv, [List.replicate k st7], svs⟩ : WC).rate (fullEvs time R) (fullE time).time = 8 := h8
    rw [e] at h4
    rw [e]
    exact ⟨S', rfl, h1, h2, h4⟩
  | ok h5 => exact absurd (h8.symm.trans h5) (by decide)
end Go.Proofs.YtddbjcfdmdbmkaaGreatDoor

/-
  Full: the text, step by step.
-/
namespace Go.Proofs.YtddbjcfdmdbmkaaGreatDoor
open Go.RowKit

/-- the text so far, behind i steps -/
def fullSo (i : Nat) : List UInt8 := if i = 0 then [] else fullBytes i
theorem full_so1 : fullSo 1 = [nameB 0] ++ [58, 55] := by kernel_rfl
theorem full_so (i : Nat) (h : 1 ≤ i) : fullSo (i + 1) = fullSo i ++ [32, 116, 104, 101, 110, 32] ++ [nameB i] ++ [58, 55] := by
  obtain ⟨j, rfl⟩ : ∃ j, i = j + 1 := ⟨i - 1, by omega⟩
  unfold fullSo fullBytes fullL
  rw [if_neg (by omega), if_neg (by omega)]
  show (layL (stepPc [32] (nameB 0) [55] ++ (fullT j ++ (thenPc :: stepPc [32] (nameB (j + 1)) [55])))).tail = _
  rw [← List.append_assoc, lay_app]
  have e : ∃ r, layL (stepPc [32] (nameB 0) [55] ++ fullT j) = 32 :: r := ⟨_, rfl⟩
  obtain ⟨r, hr⟩ := e
  show _ = (layL (stepPc [32] (nameB 0) [55] ++ fullT j)).tail ++ _ ++ _ ++ _
  rw [hr]
  simp [layL, thenPc, stepPc]
theorem full_so_len : ((List.range 6).all fun i => decide ((fullSo i).length ≤ 100)) = true := by kernel_rfl
end Go.Proofs.YtddbjcfdmdbmkaaGreatDoor

/-
  Full: the walk.
-/
namespace Go.Proofs.YtddbjcfdmdbmkaaGreatDoor
open Go.RowKit

theorem full_tab : ((List.range 10).all fun n => (List.range 6).all fun i => decide (sumCho n i ≤ 1000) && decide (cho n i ≤ 1000)) = true := by kernel_rfl
theorem full_sums (n i : Nat) (hn : n ≤ 9) (hi : i ≤ 5) : sumCho n i ≤ 1000 := by
  have := List.all_eq_true.1 full_tab n (List.mem_range.2 (by omega))
  have := List.all_eq_true.1 this i (List.mem_range.2 (by omega))
  simp only [Bool.and_eq_true, decide_eq_true_eq] at this
  exact this.1
theorem full_chos (n i : Nat) (hn : n ≤ 9) (hi : i ≤ 5) : cho n i ≤ 1000 := by
  have := List.all_eq_true.1 full_tab n (List.mem_range.2 (by omega))
  have := List.all_eq_true.1 this i (List.mem_range.2 (by omega))
  simp only [Bool.and_eq_true, decide_eq_true_eq] at this
  exact this.2
set_option maxRecDepth 100000 in
set_option maxHeartbeats 1600000 in
theorem full_p (n rate window time : Int) (h0 : In64 n) (h1 : In64 rate) (h2 : In64 window) (h3 : In64 time) (w : World) :
    Calls Tryz.prog 7 #[.int .i64 n, .int .i64 rate, .int .i64 window, .int .i64 time] w fun x w' => x = .returned (.bool true) ∧ Below w.heap.size w w' := by
  have k1 := pick_lt n (show 0 < 5 by omega)
  have k2 := pick_lt rate (show 0 < 9 by omega)
  have k3 := pick_lt window (show 0 < 1000000 by omega)
  have p1 := fun w1 => pick_p n 5 h0 (by omega) (by omega) w1
  have p2 := fun w1 => pick_p rate 9 h1 (by omega) (by omega) w1
  have p3 := fun w1 => pick_p window 1000000 h2 (by omega) (by omega) w1
  generalize pickP n 5 = a at *
  generalize pickP rate 9 = b at *
  generalize pickP window 1000000 = c at *
  simp only [Int.cast_ofNat_Int] at p1 p2 p3
  have hh := fun w1 => head_p (1 + c) (1 + b) (by omega) (by omega) w1
  simp only [Int.natCast_add, Int.cast_ofNat_Int] at hh
  go_enter Tryz.func7, Tryz.ntmps7
  go_upto_region 2 with (go_at_call 21; refine (p1 _).mono ?_; rintro x1 w1 ⟨rfl, e⟩; rw [e]; clear e w1)
  go_upto_region 3 with (go_at_call 21; refine (p2 _).mono ?_; rintro x2 w2 ⟨rfl, e⟩; rw [e]; clear e w2)
  go_upto_region 4 with (first
    | (go_at_call 21; refine (p3 _).mono ?_; rintro x3 w3 ⟨rfl, e⟩; rw [e]; clear e w3)
    | (go_at_call 22; refine (hh _).mono ?_; rintro x4 w4 ⟨rfl, e⟩; rw [e]; clear e w4))
  go_wp2
  go_loopw [11, 12] (fun s i wr => ∃ (j : Nat) (B : ByteArray), j ≤ 1 + a ∧ s = .string B ∧ i = .int .i64 (j : Nat) ∧ B.data.toList = (headB (1 + c) (1 + b)).data.toList ++ fullSo j ∧ Below w.heap.size w wr) (fun _ i _ => (1 + a) - (intOf i).toNat)
  case atStart => exact ⟨0, _, Nat.zero_le _, rfl, rfl, by simp [fullSo], Below.refl _ _⟩
  case round =>
    obtain ⟨j, B, hj, rfl, rfl, hB, hbel⟩ := hrel
    have hBl : B.size ≤ 200 := by
      have e1 : B.data.toList.length = B.size := by simp
      have l1 := dec_len 8 (1 + c) (by omega)
      have l2 := dec_len 8 (1 + b) (by omega)
      have l3 := List.all_eq_true.1 full_so_len j (List.mem_range.2 (by omega))
      rw [decide_eq_true_eq] at l3
      rw [← e1, hB, head_lay]
      simp [headPc, layL]
      omega
    by_cases hp : j < 1 + a
    · have hp' : (j : Int) < 1 + (a : Int) := by omega
      have nm := fun w1 => name_p j (by omega) w1
      have g1 : ¬ 9223372036854775807 < B.size + 6 := by omega
      have g2 : ¬ 9223372036854775807 < B.size + 6 + 1 := by omega
      have g3 : ¬ 9223372036854775807 < B.size + 6 + 1 + 2 := by omega
      have g4 : ¬ 9223372036854775807 < B.size + 1 := by omega
      have g5 : ¬ 9223372036854775807 < B.size + 1 + 2 := by omega
      have ts : (txt [nameB j]).size = 1 := rfl
      by_cases hj0 : j = 0
      · subst hj0
        go_wp2_with (go_at_call 23; refine (nm _).mono ?_; rintro x5 w5 ⟨rfl, hb5⟩)
        go_roundw
        case rel => exact ⟨1, B ++ txt [nameB 0] ++ ⟨#[58, 55]⟩, by omega, rfl, rfl, by rw [full_so1]; simp [hB, fullSo, txt], hbel.trans (hb5.mono hbel.size)⟩
        case measure => simp [intOf]
      · have hj0' : (0 : Int) < (j : Int) := by omega
        go_wp2_with (go_at_call 23; refine (nm _).mono ?_; rintro x5 w5 ⟨rfl, hb5⟩)
        go_roundw
        case rel => exact ⟨j + 1, B ++ ⟨#[32, 116, 104, 101, 110, 32]⟩ ++ txt [nameB j] ++ ⟨#[58, 55]⟩, by omega, rfl, by simp, by rw [full_so j (by omega)]; simp [hB, txt], hbel.trans (hb5.mono hbel.size)⟩
        case measure => simp [intOf]; omega
    · have hjk : j = 1 + a := by omega
      subst hjk
      have hp' : ¬ (1 + (a : Int)) < 1 + (a : Int) := by omega
      have hT : TextOK B (1 + c) (1 + b) (mostP (1 + b) (1 + a)) [List.replicate (1 + a) st7] := full_text (by omega) (by omega) (by omega) (by rw [hB]; unfold fullSo; rw [if_neg (by omega)])
      have hsm : sumCho (1 + b) a = mostP (1 + b) (1 + a) := by
        have : sumCho (1 + b) (1 + a - 1) = mostP (1 + b) (1 + a) := sumCho_most (by omega) (by omega)
        rwa [Nat.add_sub_cancel_left] at this
      rw [← hsm] at hT
      clear hsm
      have hbg := begin_p hT wr
      go_upto_region 14 with (go_at_call 24; refine hbg.mono ?_; rintro x6 w6 ⟨E, Z, pv, svs, rfl, hb6, hz6, hE6⟩)
      go_wp2
      go_loopw [14, 15] (fun s i wr' => ∃ j : Nat, 1 ≤ j ∧ j ≤ 1 + a ∧ s = .int .i64 (sumCho (1 + b) (j - 1) : Nat) ∧ i = .int .i64 (j : Nat) ∧ wr' = w6) (fun _ i _ => (1 + a) - (intOf i).toNat)
      case atStart => exact ⟨1, by omega, by omega, rfl, rfl, rfl⟩
      case round =>
        obtain ⟨j, hj1, hj2, rfl, rfl, rfl⟩ := hrel
        have hsb := full_sums (1 + b) (j - 1) (by omega) (by omega)
        by_cases hp : j < 1 + a
        · have hp' : (j : Int) < 1 + (a : Int) := by omega
          have hch := fun w1 => choose_p (1 + b) j (by omega) (by omega) w1
          simp only [Int.natCast_add, Int.cast_ofNat_Int] at hch
          have hcb := full_chos (1 + b) j (by omega) (by omega)
          have hsu : sumCho (1 + b) j = sumCho (1 + b) (j - 1) + cho (1 + b) j := by
            obtain ⟨q, rfl⟩ : ∃ q, j = q + 1 := ⟨j - 1, by omega⟩
            rfl
          generalize hs1 : sumCho (1 + b) (j - 1) = s1 at *
          generalize hc1 : cho (1 + b) j = c1 at *
          go_wp2_with (go_at_call 25; refine (hch _).mono ?_; rintro x7 w7 ⟨rfl, e⟩; rw [e]; clear e w7)
          go_roundw
          case rel => exact ⟨j + 1, by omega, by omega, by rw [Nat.add_sub_cancel, hsu]; simp, by simp, trivial⟩
          case measure => simp [intOf]; omega
        · have hjk : j = 1 + a := by omega
          subst hjk
          have hwell := hT.well pv svs
          have hbw := hbel.trans (hb6.mono hbel.size)
          have hzw : ∀ b, Z b → w.heap.size ≤ b := fun b hb => Nat.le_trans hbel.size (hz6 b hb)
          clear hbg p1 p2 p3 hh hz6 hb6 hbel
          simp only [Nat.add_sub_cancel_left, Int.natCast_add, Int.cast_ofNat_Int]
          go_wp2
          go_loopw [16] (fun i wf => ∃ (m : Nat) (Y : Nat → Prop), 1 ≤ m ∧ m ≤ 1 + b + 1 ∧ i = .int .i64 (m : Nat) ∧ Eng Y wf E (sumCho (1 + b) a) 0 ⟨1 + c, 1 + b, pv, [List.replicate (1 + a) st7], svs⟩ (fullEvs time (m - 1)) ∧ (∀ b, Y b → w.heap.size ≤ b) ∧ Below w.heap.size w wf) (fun i _ => (1 + b + 1) - (intOf i).toNat)
          case atStart => exact ⟨1, Z, by omega, by omega, rfl, hE6, hzw, hbw⟩
          case round =>
            obtain ⟨m, Y, hm1, hm2, rfl, hEY, hzY, hbY⟩ := hrel
            by_cases hp : m ≤ 1 + b
            · have hp' : (m : Int) ≤ 1 + (b : Int) := by omega
              have hfd := full_feed hEY hwell (by omega) (by omega) (by omega) h3
              go_upto_region 23 with (go_at_call 26; refine hfd.mono ?_; rintro x8 w8 ⟨Y8, sl8, cp8, rfl, hs8, hc8, hE8⟩)
              go_wp2
              go_loopw [19, 20] (fun s i wg => ∃ j : Nat, 1 ≤ j ∧ j ≤ 1 + a ∧ s = .int .i64 (sumCho m (j - 1) : Nat) ∧ i = .int .i64 (j : Nat) ∧ wg = w8) (fun _ i _ => (1 + a) - (intOf i).toNat)
              case atStart => exact ⟨1, by omega, by omega, rfl, rfl, rfl⟩
              case round =>
                obtain ⟨j, hj1, hj2, rfl, rfl, rfl⟩ := hrel
                have hsb := full_sums m (j - 1) (by omega) (by omega)
                by_cases hq : j < 1 + a
                · have hq' : (j : Int) < 1 + (a : Int) := by omega
                  have hch := fun w1 => choose_p m j (by omega) (by omega) w1
                  have hcb := full_chos m j (by omega) (by omega)
                  have hsu : sumCho m j = sumCho m (j - 1) + cho m j := by
                    obtain ⟨q, rfl⟩ : ∃ q, j = q + 1 := ⟨j - 1, by omega⟩
                    rfl
                  generalize hs1 : sumCho m (j - 1) = s1 at *
                  generalize hc1 : cho m j = c1 at *
                  go_wp2_with (go_at_call 25; refine (hch _).mono ?_; rintro x7 w7 ⟨rfl, e⟩; rw [e]; clear e w7)
                  go_roundw
                  case rel => exact ⟨j + 1, by omega, by omega, by rw [Nat.add_sub_cancel, hsu]; simp, by simp, trivial⟩
                  case measure => simp [intOf]; omega
                · have hjk : j = 1 + a := by omega
                  subst hjk
                  have hlk := full_look hE8 (by omega)
                  have hq' : ¬ (1 + (a : Int)) < 1 + (a : Int) := by omega
                  have hch := fun w1 => choose_p (m - 1) a (by omega) (by omega) w1
                  have em : ((m - 1 : Nat) : Int) = (m : Int) - 1 := by omega
                  have ea : ((a : Nat) : Int) = 1 + (a : Int) - 1 := by omega
                  rw [em, ea] at hch
                  clear em ea
                  have hcb := full_chos (m - 1) a (by omega) (by omega)
                  have hcc := full_sums m a (by omega) (by omega)
                  generalize hc1 : cho (m - 1) a = c1 at *
                  go_upto_region 28 with (go_at_call 16; refine hlk.mono ?_; rintro x9 w9 ⟨rfl, hb9⟩)
                  go_wp2_with (go_at_call 25; refine (hch _).mono ?_; rintro x7 w7 ⟨rfl, e⟩; rw [e]; clear e w7)
                  go_roundw
                  case rel =>
                    have hch9 : Chg (fun _ => False) wr (w9.alloc (.cells #[.int .i64 (m : Nat), .int .i64 (sumCho m a : Nat), .int .i64 (sumCho (1 + b) a : Nat), .int .i64 0] 27)) := (Chg.below _ hb9).alloc _
                    have hE9 := hE8.to hch9 (fun _ k => k.elim)
                    refine ⟨m + 1, Y8, by omega, by omega, by go_num, ?_, fun z hz => ?_, ?_⟩
                    · rw [Nat.add_sub_cancel]
                      rw [Nat.sub_add_cancel hm1] at hE9
                      exact hE9
                    · rcases hs8 z hz with q | q
                      · exact hzY z q
                      · exact Nat.le_trans hbY.size q
                    · exact (hbY.trans (hc8.bel hbY.size hzY)).trans (hch9.bel (Nat.le_trans hbY.size hc8.size) (fun _ k => k.elim))
                  case measure => simp [intOf]; omega
            · have hmm : m = 1 + b + 1 := by omega
              subst hmm
              have hp' : ¬ (1 + (b : Int) + 1) ≤ 1 + (b : Int) := by omega
              have hft := full_fault (R := 1 + b) hEY hwell (by omega) h3
              go_upto_region 31 with (go_at_call 27; refine hft.mono ?_; rintro x8 w8 ⟨Y8, rfl, hs8, hc8, hE8⟩)
              have hlk := full_look hE8 (by omega)
              go_wp2_with (go_at_call 16; refine hlk.mono ?_; rintro x9 w9 ⟨rfl, hb9⟩)
              go_ret
              exact ⟨rfl, ((hbY.trans (hc8.bel hbY.size hzY)).trans (hb9.mono (Nat.le_trans hbY.size hc8.size))).alloc (Nat.le_trans (Nat.le_trans hbY.size hc8.size) hb9.size) _⟩
end Go.Proofs.YtddbjcfdmdbmkaaGreatDoor
