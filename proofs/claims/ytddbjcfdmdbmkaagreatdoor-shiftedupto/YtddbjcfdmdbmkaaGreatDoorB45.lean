import Derived.Test.YtddbjcfdmdbmkaaGreatDoorB41
import Derived.Test.YtddbjcfdmdbmkaaGreatDoorB44
import Derived.Test.YtddbjcfdmdbmkaaGreatDoorB40
import Derived.Deep.RegionHeld3
set_option linter.unusedVariables false
set_option linter.unusedSimpArgs false
/-
  Shifted: the walk.
-/
namespace Go.Proofs.YtddbjcfdmdbmkaaGreatDoor
open Go.RowKit

def sfB : ByteArray := ⟨([117, 58, 48, 32, 116, 104, 101, 110, 32, 110, 111, 116, 32, 50, 32, 105, 102, 32, 105, 116, 46, 99, 32, 61, 32, 51, 32, 116, 104, 101, 110, 32, 118].append [58, 49, 32, 105, 102, 32, 105, 116, 46, 97, 32, 62, 61, 32, 117, 46, 97, 32, 116, 104, 101, 110, 32, 120, 58, 48, 32, 116, 105, 109, 101, 115, 32, 50]).toArray⟩
theorem sf_bytes : sfB.data.toList = sfBytes := by kernel_rfl
theorem sf_size : sfB.size = 67 := by kernel_rfl
theorem now_take {evs : List Ev} {i : Nat} {e : Ev} (h : evs.take (i + 1) = evs.take i ++ [e]) : nowOf (evs.take (i + 1)) = e.time := by rw [h, nowOf_snoc]
set_option maxRecDepth 100000 in
set_option maxHeartbeats 3200000 in
theorem shifted_p (window rate by_ : Int) (h0 : In64 window) (h1 : In64 rate) (h2 : In64 by_) {zs ys : List Int} {rv qv : Value} {w : World} (hraw : RawAt w rv zs) (hl : zs.length ≤ 2000000) (hrawq : RawAt w qv ys) (hlq : ys.length ≤ 2000000) :
    Calls Tryz.prog 13 #[.int .i64 window, .int .i64 rate, rv, .int .i64 by_, qv] w fun x w' => x = .returned (.bool true) ∧ Below w.heap.size w w' := by
  have k3 := pick_lt window (show 0 < 40 by omega)
  have k4 := pick_lt rate (show 0 < 7 by omega)
  have k5 := pick_lt by_ (show 0 < 2305843009213693952 by omega)
  have p3 := fun w1 => pick_p window 40 h0 (by omega) (by omega) w1
  have p4 := fun w1 => pick_p rate 7 h1 (by omega) (by omega) w1
  have p5 := fun w1 => pick_p by_ 2305843009213693952 h2 (by omega) (by omega) w1
  generalize pickP window 40 = c at *
  generalize pickP rate 7 = b at *
  generalize pickP by_ 2305843009213693952 = d at *
  simp only [Int.cast_ofNat_Int] at p3 p4 p5
  obtain ⟨W, hWc, hW1, hW2⟩ : ∃ W : Nat, 1 + (c : Int) = (W : Int) ∧ 1 ≤ W ∧ W ≤ 40 := ⟨1 + c, by omega, by omega, by omega⟩
  obtain ⟨R, hRb, hR1, hR2⟩ : ∃ R : Nat, 1 + (b : Int) = (R : Int) ∧ 1 ≤ R ∧ R ≤ 7 := ⟨1 + b, by omega, by omega, by omega⟩
  have hh := fun w1 => head_p W R (by omega) (by omega) w1
  obtain ⟨va, vc, hrv, _⟩ := hraw.form
  subst hrv
  obtain ⟨qa, qc, hqv, _⟩ := hrawq.form
  subst hqv
  have hT := sf_text (W := W) (R := R) (S := headB W R ++ sfB) (by omega) (by omega) (by rw [← sf_bytes]; simp)
  have hlh := head_size (W := W) (R := R) (by omega) (by omega)
  have hwt := hT.well
  have hba := many_begin (Many.start w) hT
  generalize headB W R = H at *
  have g1 : ¬ 9223372036854775807 < H.size + 67 := by omega
  have g2 : sfB.size = 67 := sf_size
  unfold sfB at hT hba g2
  go_enter Tryz.func13, Tryz.ntmps13
  go_upto_region 2 with (go_at_call 21; refine (p3 _).mono ?_; rintro x1 w1 ⟨rfl, e⟩; rw [e]; clear e w1)
  go_upto_region 3 with (go_at_call 21; refine (p4 _).mono ?_; rintro x2 w2 ⟨rfl, e⟩; rw [e]; clear e w2)
  go_upto_region 4 with (go_at_call 22; refine (hh _).mono ?_; rintro x2 w2 ⟨rfl, e⟩; rw [e]; clear e w2)
  go_upto_region 5 with (go_at_call 24; refine hba.mono ?_; rintro x4 w4 ⟨Ea, pa, sa, rfl, M4⟩)
  go_upto_region 8 with (go_at_call 24; refine (many_begin M4 hT).mono ?_; rintro x5 w5 ⟨Eb, pb, sb, rfl, M5⟩)
  go_upto_if 56 with (go_at_call 21; refine (p5 _).mono ?_; rintro x6 w6 ⟨rfl, e⟩; rw [e]; clear e w6)
  go_cut [16] from 55 (fun v wx => ∃ D : Int, v = .int .i64 D ∧ -2305843009213693952 ≤ D ∧ D ≤ 2305843009213693952 ∧ wx = w5)
  case first =>
    by_cases hneg : by_ < 0
    · go_wp2
      go_meet
      exact ⟨-(d : Int), by go_num, by omega, by omega, rfl⟩
    · go_wp2
      go_meet
      exact ⟨(d : Int), rfl, by omega, by omega, rfl⟩
  case rest =>
    obtain ⟨D, rfl, hD1, hD2, e⟩ := hcut
    rw [e]
    clear e wc p3 p4 p5
    have hev := many_events (W := W) (R := R) M5 hraw hl (by omega) ⟨hR1, by omega⟩
    have hgood := clk_good (W := W) (R := R) hl (by omega) hR1
    generalize clkEvs W R (rawN zs) = evs at *
    clear hba hh M4 M5 g1 g2 hlh hT
    go_upto_region 12 with (first
      | (go_at_call 29; refine hev.mono ?_; rintro x6 w6 ⟨ea, ec, rfl, M6⟩))
    have hwa := hwt pa sa
    have hwb := hwt pb sb
    clear hev hwt
    go_wp2
    go_loopw [18, 19] (fun tv iv wr => ∃ i : Nat, i ≤ zs.length ∧ iv = .int .i64 (i : Nat) ∧ tv = .int .i64 (nowOf (evs.take i)) ∧ Many w wr [⟨Ea, mostP R 4, 0, ⟨W, R, pa, sfPaths, sa⟩, evs.take i⟩, ⟨Eb, mostP R 4, 0, ⟨W, R, pb, sfPaths, sb⟩, shL D (evs.take i)⟩] (.slice ea zs.length ec) evs []) (fun _ iv _ => zs.length - (intOf iv).toNat)
    case atStart => exact ⟨0, Nat.zero_le _, rfl, rfl, M6⟩
    case round =>
      obtain ⟨i, hi, rfl, rfl, M⟩ := hrel
      by_cases hlt : i < zs.length
      · have hlt' : i < evs.length := by rw [hgood.len]; exact hlt
        obtain ⟨g, rfl⟩ := M.evB (by omega)
        obtain ⟨hg, c0, c1, c2, c3, c4⟩ := M.ev hlt'
        have hf := hgood.feed i hlt'
        have hlo := hgood.low i hlt'
        have hhi := hgood.high i hlt'
        have HT : Hid (evs.take (i + 1) = evs.take i ++ [evs[i]]) := take_next hlt'
        obtain ⟨e, HEI⟩ : ∃ e, Hid (evs[i] = e) := ⟨evs[i], rfl⟩
        rw [HEI.out] at c0 c1 c2 c3 c4 hf hlo hhi HT
        have hki : (i : Int) < (zs.length : Int) := by omega
        have hk0 : (0 : Int) ≤ (i : Int) := by omega
        have hi2 : (i : Int) ≤ 2000000 := by omega
        have hel : (evs.take i).length ≤ 100000000 := by rw [List.length_take]; omega
        have fa := many_feed M (i := 0) rfl hwa hel e (in64_small hlo hhi) hf
        unfold evVal at fa
        go_upto_region 17 with (go_at_call 26; refine fa.mono ?_; rintro x7 w7 ⟨Ba, xa, xc, xs, rfl, s1, m1, M7⟩)
        obtain ⟨hg7, d0, d1, d2, d3, d4⟩ := M7.ev hlt'
        rw [HEI.out] at d0 d1 d2 d3 d4
        clear c0 c1 c2 c3 c4 fa M
        go_upto_region 20 with fail
        have hN := Blk.new w7 #[.int .i64 (e.time + D), .int .i64 e.kind, .int .i64 e.a, .int .i64 e.b, .int .i64 e.c] 44
        have M7a := M7.keep (((Chg.refl (fun _ => False) w7)).alloc (.cells #[.int .i64 (e.time + D), .int .i64 e.kind, .int .i64 e.a, .int .i64 e.b, .int .i64 e.c] 44))
        generalize w7.alloc (.cells #[.int .i64 (e.time + D), .int .i64 e.kind, .int .i64 e.a, .int .i64 e.b, .int .i64 e.c] 44) = W7 at *
        have z0 := hN.cell 0; have z1 := hN.cell 1; have z2 := hN.cell 2; have z3 := hN.cell 3; have z4 := hN.cell 4; have zl := hN.lt
        simp at z0 z1 z2 z3 z4
        have hf2 : feedFP W R (shL D (evs.take i)) (shE D e).time = 0 := by
          show feedFP W R (shL D (evs.take i)) (e.time + D) = 0
          rw [sh_feed]; exact hf
        have fb := many_feed M7a (i := 1) rfl hwb (by rw [sh_len]; exact hel) (shE D e) (show In64 (e.time + D) by unfold In64; omega) hf2
        unfold evVal shE at fb
        go_upto_region 21 with (go_at_call 26; refine fb.mono ?_; rintro x8 w8 ⟨Bb, ya, yc, yl, rfl, s2, m2, M8⟩)
        have Hxy : Hid (yl.map (·.2) = xs.map (·.2)) := sorted_uniq s2 s1 (fun t => by
          rw [m2, m1]
          show MatchOK (absP sfPaths) W (shL D (evs.take i) ++ [shE D e]) t ↔ _
          rw [← sh_snoc]
          exact sh_matchOK (sf_sh D))
        have LA := M8.lists (x := ⟨Ba, .slice xa xs.length xc, xs⟩) (by simp)
        have LB := M8.lists (x := ⟨Bb, .slice ya yl.length yc, yl⟩) (by simp)
        have hsame := same_p (w := w8) (va := .slice xa xs.length xc) (vb := .slice ya yl.length yc) (xs := xs.map (·.2)) LA.read (by rw [← Hxy.out]; exact LB.read) LA.few.1 LA.few.2
        clear fb M7 M7a z0 z1 z2 z3 z4 zl hN hf hf2
        go_upto_region 22 with (go_at_call 32; refine hsame.mono ?_; rintro x9 w9 ⟨rfl, q, hq⟩)
        have M9 : Many w (w8.drewN q) [⟨Ea, mostP R 4, 0, ⟨W, R, pa, sfPaths, sa⟩, evs.take (i + 1)⟩, ⟨Eb, mostP R 4, 0, ⟨W, R, pb, sfPaths, sb⟩, shL D (evs.take (i + 1))⟩] (.slice (some ⟨g, 0, none⟩) zs.length ec) evs [] := by
          rw [HT.out, sh_snoc]
          exact (M8.below (drewN_below (w' := w8.drewN q) rfl)).drop (hs' := []) (by simp)
        have hln : (evs.take (i + 1)).length = i + 1 := by rw [List.length_take]; omega
        have hne : evs.take (i + 1) ≠ [] := by intro h; rw [h] at hln; simp at hln
        have la := many_look2 M9 (i := 0) rfl
        rw [hln] at la
        have lb : ∀ (m : Nat) (rl : List (Nat × List Nat)), Kept1 (absP sfPaths) W (evs.take (i + 1)) (lastT (evs.take (i + 1))) rl → rl.length = m → ∀ wz, Many w wz [⟨Ea, mostP R 4, 0, ⟨W, R, pa, sfPaths, sa⟩, evs.take (i + 1)⟩, ⟨Eb, mostP R 4, 0, ⟨W, R, pb, sfPaths, sb⟩, shL D (evs.take (i + 1))⟩] (.slice (some ⟨g, 0, none⟩) zs.length ec) evs [] → Calls Tryz.prog 16 #[.pointer (some ⟨Eb, 0, none⟩)] wz fun x w' => x = .returned (.agg #[.int .i64 ((i : Int) + 1), .int .i64 (m : Nat), .int .i64 (mostP R 4 : Nat), .int .i64 0]) ∧ Below wz.heap.size wz w' ∧ Many w w' [⟨Ea, mostP R 4, 0, ⟨W, R, pa, sfPaths, sa⟩, evs.take (i + 1)⟩, ⟨Eb, mostP R 4, 0, ⟨W, R, pb, sfPaths, sb⟩, shL D (evs.take (i + 1))⟩] (.slice (some ⟨g, 0, none⟩) zs.length ec) evs [] := by
          intro m rl k1 k2 wz Mz
          refine (many_look2 Mz (i := 1) rfl).mono ?_
          rintro x w' ⟨m', rl', j1, j2, j3, rfl, j4, j5⟩
          have em : m' = m := by
            rw [← j2, ← k2]
            exact sh_runs (sf_sh D) hne k1 j1
          subst em
          refine ⟨?_, j4, j5⟩
          rw [sh_len, hln]
          rfl
        have HLb : Hid _ := lb
        clear hsame LA LB M8 hq s1 s2 m1 m2 lb hln
        generalize w8.drewN q = W9 at *
        go_upto_region 23 with (go_at_call 16; refine la.mono ?_; rintro x10 w10 ⟨m, rl, j1, j2, j3, rfl, j4, j5⟩)
        have hN := Blk.new w10 #[.int .i64 ((i : Int) + 1), .int .i64 (m : Nat), .int .i64 (mostP R 4 : Nat), .int .i64 0] 27
        have M10 := j5.keep ((Chg.refl (fun _ => False) w10).alloc (.cells #[.int .i64 ((i : Int) + 1), .int .i64 (m : Nat), .int .i64 (mostP R 4 : Nat), .int .i64 0] 27))
        have lbm := HLb.out m rl j1 j2
        generalize w10.alloc (.cells #[.int .i64 ((i : Int) + 1), .int .i64 (m : Nat), .int .i64 (mostP R 4 : Nat), .int .i64 0] 27) = W10 at *
        have z0 := hN.cell 0; have z1 := hN.cell 1; have z2 := hN.cell 2; have z3 := hN.cell 3; have zl := hN.lt
        simp at z0 z1 z2 z3
        clear la HLb j1 j2 j3 j4 j5
        generalize hNb : w10.heap.size = N at *
        go_region_held3 (fun w' => w'.cell? ⟨N, 0, none⟩ = some (.int .i64 ((i : Int) + 1)) ∧ w'.cell? ⟨N, 1, none⟩ = some (.int .i64 (m : Nat)) ∧ w'.cell? ⟨N, 2, none⟩ = some (.int .i64 (mostP R 4 : Nat)) ∧ w'.cell? ⟨N, 3, none⟩ = some (.int .i64 0)) (simp [*])
         (first
          | (go_at_call 16; refine (lbm _ (M10.below (w' := W10.drew) ⟨rfl, rfl, rfl, Nat.le_refl _, fun _ _ => rfl⟩)).mono ?_; rintro x11 w11 ⟨rfl, hb11, M11⟩; have hN11 := hN.of_eq (hb11.block _ zl); have y0 := hN11.cell 0; have y1 := hN11.cell 1; have y2 := hN11.cell 2; have y3 := hN11.cell 3; have yl := hN11.lt; simp at y0 y1 y2 y3))
        all_goals
          go_wp2
          exact ⟨⟨i + 1, hlt, by go_num, by rw [now_take HT.out], M11⟩, by simp [intOf]; omega⟩
      · have ei : i = zs.length := by omega
        subst ei
        rw [List.take_of_length_le (by rw [hgood.len]; exact Nat.le_refl _)] at M
        have hnow : nowOf (evs.take zs.length) = nowOf evs := by rw [List.take_of_length_le (by rw [hgood.len]; exact Nat.le_refl _)]
        rw [hnow]
        by_cases hz : zs.length = 0
        · have hbel := M.bel
          have hz' : ((zs.length : Int) == 0) = true := by rw [hz]; rfl
          go_wp2
          go_ret
          exact ⟨rfl, hbel⟩
        · have hz' : ((zs.length : Int) == 0) = false := beq_eq_false_iff_ne.2 (by omega)
          have hne : evs ≠ [] := by intro h; have := hgood.len; rw [h] at this; simp at this; omega
          have hnl : nowOf evs = lastT evs := by unfold nowOf; rw [if_neg hne]
          have hnb : 0 ≤ nowOf evs ∧ nowOf evs ≤ 1000000000000 := by
            rw [hnl]
            unfold lastT
            have hp : 0 < evs.length := List.length_pos_iff.2 hne
            rw [evAt_get (by omega)]
            exact ⟨hgood.low _ _, hgood.high _ _⟩
          have hev7 : feedFP W R evs (nowOf evs - 1) = 7 := by
            unfold feedFP
            rw [if_pos ⟨hne, by omega⟩]
          have helen : evs.length ≤ 100000000 := by rw [hgood.len]; omega
          have HLn : Hid (evs.length = zs.length) := hgood.len
          have fr := many_refuse M (i := 0) rfl hwa helen ⟨nowOf evs - 1, 0, 0, 0, 0⟩ (show In64 (nowOf evs - 1) by unfold In64; omega) (r := 7) (.inr ⟨rfl, hev7, by omega⟩)
          unfold evVal at fr
          clear hnl hev7 hnow
          generalize nowOf evs = T at *
          go_upto_region 28 with (go_at_call 27; refine fr.mono ?_; rintro x7 w7 ⟨rfl, M7⟩)
          have la := many_look2 M7 (i := 0) rfl
          rw [HLn.out] at la
          clear fr M
          go_upto_region 29 with (go_at_call 16; refine la.mono ?_; rintro x8 w8 ⟨m, rl, j1, j2, j3, rfl, j4, M8⟩)
          have MK := M8.new (.cells #[.int .i64 (zs.length : Nat), .int .i64 (m : Nat), .int .i64 (mostP R 4 : Nat), .int .i64 7] 27)
          have hN := Blk.new w8 #[.int .i64 (zs.length : Nat), .int .i64 (m : Nat), .int .i64 (mostP R 4 : Nat), .int .i64 7] 27
          generalize hNb : w8.heap.size = N at *
          have MK : ManyK (fun b => b = N) w (w8.alloc (.cells #[.int .i64 (zs.length : Nat), .int .i64 (m : Nat), .int .i64 (mostP R 4 : Nat), .int .i64 7] 27)) [⟨Ea, mostP R 4, 7, ⟨W, R, pa, sfPaths, sa⟩, evs⟩, ⟨Eb, mostP R 4, 0, ⟨W, R, pb, sfPaths, sb⟩, shL D evs⟩] (.slice ea zs.length ec) evs [] := MK
          have HLk : Hid (∀ wz, Many w wz [⟨Ea, mostP R 4, 7, ⟨W, R, pa, sfPaths, sa⟩, evs⟩, ⟨Eb, mostP R 4, 0, ⟨W, R, pb, sfPaths, sb⟩, shL D evs⟩] (.slice ea zs.length ec) evs [] → Calls Tryz.prog 16 #[.pointer (some ⟨Ea, 0, none⟩)] wz fun x w' => x = .returned (.agg #[.int .i64 (zs.length : Nat), .int .i64 (m : Nat), .int .i64 (mostP R 4 : Nat), .int .i64 7]) ∧ Below wz.heap.size wz w' ∧ Many w w' [⟨Ea, mostP R 4, 7, ⟨W, R, pa, sfPaths, sa⟩, evs⟩, ⟨Eb, mostP R 4, 0, ⟨W, R, pb, sfPaths, sb⟩, shL D evs⟩] (.slice ea zs.length ec) evs []) := by
            intro wz Mz
            refine (many_look2 Mz (i := 0) rfl).mono ?_
            rintro x w' ⟨m', rl', l1, l2, _, rfl, l4, l5⟩
            have em : m' = m := by rw [← l2, ← j2]; exact l1.same_len j1
            subst em
            rw [HLn.out]
            exact ⟨rfl, l4, l5⟩
          generalize w8.alloc (.cells #[.int .i64 (zs.length : Nat), .int .i64 (m : Nat), .int .i64 (mostP R 4 : Nat), .int .i64 7] 27) = W8 at *
          clear la M7 M8 j1 j2 j3 j4
          go_wp2
          go_loopw [30] (fun jv wv => ∃ j : Nat, j ≤ ys.length ∧ jv = .int .i64 (j : Nat) ∧ ManyK (fun b => b = N) w wv [⟨Ea, mostP R 4, 7, ⟨W, R, pa, sfPaths, sa⟩, evs⟩, ⟨Eb, mostP R 4, 0, ⟨W, R, pb, sfPaths, sb⟩, shL D evs⟩] (.slice ea zs.length ec) evs [] ∧ Blk wv N #[.int .i64 (zs.length : Nat), .int .i64 (m : Nat), .int .i64 (mostP R 4 : Nat), .int .i64 7] 27) (fun jv _ => ys.length - (intOf jv).toNat)
          case atStart => exact ⟨0, Nat.zero_le _, rfl, MK, hN⟩
          case round =>
            obtain ⟨j, hj, rfl, MJ, hNJ⟩ := hrel
            by_cases hjt : j < ys.length
            · obtain ⟨⟨qa', qc', eq', hqc⟩, hq64⟩ := hrawq.to MJ.many.bel
              obtain ⟨p, ep, hpb, hpc⟩ := hqc (by omega)
              subst ep
              injection eq' with e1 e2 e3
              subst e1 e3
              clear e2
              have hcell := hpc j hjt
              have hev := fun w1 => evK_p ys[j] (T + (W : Int)) (hq64 _ (List.getElem_mem hjt)) (by omega) (by omega) w1
              have hnl := pick_lt ys[j] (show 0 < 1099511627776 by omega)
              generalize pickP ys[j] 1099511627776 = n at *
              generalize ys[j] = y at *
              obtain ⟨e0, He0⟩ : ∃ e0, Hid (evM n (T + (W : Int)) = e0) := ⟨evM n (T + (W : Int)), rfl⟩
              rw [He0.out] at hev
              have he64 : In64 e0.time := by
                rw [← He0.out]
                show In64 (T + (W : Int) + (n % 4 : Nat))
                unfold In64
                omega
              unfold evVal at hev
              have hfd := fun (w1 : World) (hb1 : Below wr.heap.size wr w1) => manyK_refuse (MJ.below hb1) (i := 0) rfl hwa helen e0 he64 (r := 7) (.inl ⟨rfl, by show (7 : Nat) ≠ 0; omega⟩)
              unfold evVal at hfd
              have hji : (j : Int) < (ys.length : Int) := by omega
              have hj0 : (0 : Int) ≤ (j : Int) := by omega
              have hj2 : (j : Int) ≤ 2000000 := by omega
              clear hpc hqc
              go_wp2_with (first
                | (go_at_call 34; refine (hev _).mono ?_; rintro x9 w9 ⟨rfl, hb9⟩)
                | (go_at_call 27; refine (hfd _ hb9).mono ?_; rintro x10 w10 ⟨rfl, M10, hk10⟩))
              go_roundw
              case rel => exact ⟨j + 1, hjt, by go_num, M10, (hNJ.of_eq (hb9.block _ hNJ.lt)).of_eq (hk10 N rfl)⟩
              case measure => simp [intOf]; omega
            · have ej : j = ys.length := by omega
              subst ej
              have z0 := hNJ.cell 0; have z1 := hNJ.cell 1; have z2 := hNJ.cell 2; have z3 := hNJ.cell 3; have zl := hNJ.lt
              simp at z0 z1 z2 z3
              have MJm := MJ.many
              have lbm := HLk.out
              go_upto_region 35 with fail
              go_region_held3 (fun w' => w'.cell? ⟨N, 0, none⟩ = some (.int .i64 (zs.length : Nat)) ∧ w'.cell? ⟨N, 1, none⟩ = some (.int .i64 (m : Nat)) ∧ w'.cell? ⟨N, 2, none⟩ = some (.int .i64 (mostP R 4 : Nat)) ∧ w'.cell? ⟨N, 3, none⟩ = some (.int .i64 7)) (simp [*])
               (first
                | (go_at_call 16; refine (lbm _ (MJm.below (w' := wr.drew) ⟨rfl, rfl, rfl, Nat.le_refl _, fun _ _ => rfl⟩)).mono ?_; rintro x11 w11 ⟨rfl, hb11, M11⟩; have hN11 := hNJ.of_eq (hb11.block _ zl); have y0 := hN11.cell 0; have y1 := hN11.cell 1; have y2 := hN11.cell 2; have y3 := hN11.cell 3; have yl := hN11.lt; simp at y0 y1 y2 y3))
              all_goals
                have hbel := M11.bel
                go_wp2
                go_ret
                exact ⟨rfl, hbel⟩
end Go.Proofs.YtddbjcfdmdbmkaaGreatDoor
