import Derived.Test.YtddbjcfdmdbmkaaGreatDoorB40
set_option linter.unusedVariables false
set_option linter.unusedSimpArgs false
namespace Go.Proofs.YtddbjcfdmdbmkaaGreatDoor
open Go.RowKit

set_option maxRecDepth 100000 in
set_option maxHeartbeats 3200000 in
theorem printedK_p (n_ window rate : Int) (h0 : In64 n_) (h1 : In64 window) (h2 : In64 rate) {ws zs : List Int} {qv rv : Value} {w : World} (hrawq : RawAt w qv ws) (hraw : RawAt w rv zs) (hl : zs.length ≤ 2000000) :
    Calls Tryz.prog 12 #[qv, .int .i64 n_, .int .i64 window, .int .i64 rate, rv] w fun x w' => x = .returned (.bool true) ∧ Below w.heap.size w w' := by
  have k2 := pick_lt n_ (show 0 < 3 by omega)
  have k3 := pick_lt window (show 0 < 40 by omega)
  have k4 := pick_lt rate (show 0 < 7 by omega)
  have p2 := fun w1 => pick_p n_ 3 h0 (by omega) (by omega) w1
  have p3 := fun w1 => pick_p window 40 h1 (by omega) (by omega) w1
  have p4 := fun w1 => pick_p rate 7 h2 (by omega) (by omega) w1
  generalize pickP n_ 3 = a at *
  generalize pickP window 40 = c at *
  generalize pickP rate 7 = b at *
  simp only [Int.cast_ofNat_Int] at p2 p3 p4
  obtain ⟨W, hWc, hW1, hW2⟩ : ∃ W : Nat, 1 + (c : Int) = (W : Int) ∧ 1 ≤ W ∧ W ≤ 40 := ⟨1 + c, by omega, by omega, by omega⟩
  obtain ⟨R, hRb, hR1, hR2⟩ : ∃ R : Nat, 1 + (b : Int) = (R : Int) ∧ 1 ≤ R ∧ R ≤ 7 := ⟨1 + b, by omega, by omega, by omega⟩
  obtain ⟨N, hNa, hN1, hN2⟩ : ∃ N : Nat, 1 + (a : Int) = (N : Int) ∧ 1 ≤ N ∧ N ≤ 3 := ⟨1 + a, by omega, by omega, by omega⟩
  have hh := fun w1 => head_p W R (by omega) (by omega) w1
  have hst := steps_p hrawq N 0 (by omega) (by omega) (by omega)
  simp only [Int.cast_ofNat_Int] at hst
  have hsl := steps_len (zs := ws) (fr := 0) (n := N) (by omega) (by omega) (by omega)
  obtain ⟨va, vc, hrv, _⟩ := hraw.form
  subst hrv
  obtain ⟨qa, qc, hqv, _⟩ := hrawq.form
  subst hqv
  have hTT : ∀ S : ByteArray, S.data.toList = stepsB ws 0 N → _ := fun S hS => pr_both (W := W) (R := R) ⟨hW1, hW2⟩ ⟨hR1, hR2⟩ (soOs_ok ws N) (by rw [soOs_len]; omega) (S := ⟨#[32, 10]⟩ ++ headB W R ++ ⟨#[40]⟩ ++ S ++ ⟨#[32, 124, 32, 97, 58, 48, 48, 50, 32, 116, 105, 109, 101, 115, 32, 50, 32, 105, 102, 32, 45, 40, 97, 46, 97, 41, 32, 43, 97, 46, 98, 47, 32, 40, 105, 116, 46, 99, 41, 60, 61, 48, 48, 32, 41]⟩) (by rw [show layL (soSeq [] 0 (soOs ws N)) = stepsB ws 0 N from rfl, ← hS]; simp [prTail])
  rw [soOs_len] at hTT
  have hsz : ∀ S : ByteArray, S.data.toList = stepsB ws 0 N → S.size ≤ 280 := fun S hS => by
    have h1 : S.size = S.data.toList.length := by simp
    rw [h1, hS]; exact hsl
  generalize stepsL (rowL (soXs 0 (soOs ws N))) = P1 at *
  generalize stepsL (rowL prX) = P2 at *
  have hlh := head_size (W := W) (R := R) (by omega) (by omega)
  generalize headB W R = H at *
  have g1 : ¬ 9223372036854775807 < 2 + H.size := by omega
  have g2 : ¬ 9223372036854775807 < 2 + H.size + 1 := by omega
  go_enter Tryz.func12, Tryz.ntmps12
  go_upto_region 2 with (go_at_call 21; refine (p3 _).mono ?_; rintro x1 w1 ⟨rfl, e⟩; rw [e]; clear e w1)
  go_upto_region 3 with (go_at_call 21; refine (p4 _).mono ?_; rintro x2 w2 ⟨rfl, e⟩; rw [e]; clear e w2)
  go_upto_region 4 with (first
    | (go_at_call 22; refine (hh _).mono ?_; rintro x3 w3 ⟨rfl, e⟩; rw [e]; clear e w3)
    | (go_at_call 21; refine (p2 _).mono ?_; rintro x3 w3 ⟨rfl, e⟩; rw [e]; clear e w3)
    | (go_at_call 28; refine hst.mono ?_; rintro x4 w4 ⟨S, rfl, hS, hb4⟩; have gS : ¬ 9223372036854775807 < 2 + H.size + 1 + S.size := (by have := hsz S hS; omega); have gT : ¬ 9223372036854775807 < 2 + H.size + 1 + S.size + 45 := (by have := hsz S hS; omega)))
  obtain ⟨T, hT1, hT2, hp1, hp2, hsT, hsS⟩ := hTT S hS
  have hwa := hT1.well
  obtain ⟨body1, ps1, hr1, _⟩ := hT1.her
  obtain ⟨body2, ps2, hr2, _⟩ := hT2.her
  have pk1 := fun w1 => printK_p hr1 w1
  have pk2 := fun w1 => printK_p hr2 w1
  rw [hp1] at pk1
  rw [hp2] at pk2
  have M4 := (Many.start w).below hb4
  generalize ((⟨#[32, 10]⟩ : ByteArray) ++ H ++ ⟨#[40]⟩ ++ S ++ ⟨#[32, 124, 32, 97, 58, 48, 48, 50, 32, 116, 105, 109, 101, 115, 32, 50, 32, 105, 102, 32, 45, 40, 97, 46, 97, 41, 32, 43, 97, 46, 98, 47, 32, 40, 105, 116, 46, 99, 41, 60, 61, 48, 48, 32, 41]⟩) = SS at *
  obtain ⟨bq, hbq⟩ : ∃ q, mostP R N + mostP R 2 = q := ⟨_, rfl⟩
  rw [hbq] at hT1 hT2
  clear hTT hst hsz hr1 hr2 hp1 hp2 p2 p3 p4 hh g1 g2 gS gT hbq
  go_upto_region 5 with (go_at_call 24; refine (many_begin M4 hT1).mono ?_; rintro x5 w5 ⟨Ea, pa, sa, rfl, M5⟩)
  go_upto_region 6 with (go_at_call 18; refine (pk1 _).mono ?_; rintro x6 w6 ⟨rfl, hb6⟩)
  go_upto_region 7 with (go_at_call 18; refine (pk2 _).mono ?_; rintro x7 w7 ⟨rfl, hb7⟩)
  have M7 := (M5.below hb6).below hb7
  go_upto_region 8 with (go_at_call 24; refine (many_begin M7 hT2).mono ?_; rintro x8 w8 ⟨Eb, pb, sb, rfl, M8⟩)
  have hgt : ¬ ((SS.size : Int) + 20 < (T.size : Int)) := by omega
  have hgs : (SS.size : Int) ≤ 600 := by omega
  go_upto_region 10 with fail
  have hev := many_events (W := W) (R := R) M8 hraw hl (by omega) ⟨hR1, by omega⟩
  have hgood := clk_good (W := W) (R := R) hl (by omega) hR1
  generalize clkEvs W R (rawN zs) = evs at *
  clear hT1 hT2 M4 M5 M7 M8 pk1 pk2
  go_upto_region 11 with (first
    | (go_at_call 29; refine hev.mono ?_; rintro x7 w9 ⟨ea, ec, rfl, M7⟩))
  have hwb := hwa pb sb
  have hwa := hwa pa sa
  clear hev
  go_wp2
  go_loopw [23] (fun jv wr => ∃ j : Nat, j ≤ zs.length ∧ jv = .int .i64 (j : Nat) ∧ Many w wr [⟨Ea, bq, 0, ⟨W, R, pa, [P1, P2], sa⟩, evs.take j⟩, ⟨Eb, bq, 0, ⟨W, R, pb, [P1, P2], sb⟩, evs.take j⟩] (.slice ea zs.length ec) evs []) (fun jv _ => zs.length - (intOf jv).toNat)
  case atStart => exact ⟨0, Nat.zero_le _, rfl, M7⟩
  case round =>
    obtain ⟨j, hj, rfl, M⟩ := hrel
    by_cases hlt : j < zs.length
    · have hlt' : j < evs.length := by rw [hgood.len]; exact hlt
      obtain ⟨g, rfl⟩ := M.evB (by omega)
      obtain ⟨hg, c0, c1, c2, c3, c4⟩ := M.ev hlt'
      have hf := hgood.feed j hlt'
      have hlo := hgood.low j hlt'
      have hhi := hgood.high j hlt'
      have HT : Hid (evs.take (j + 1) = evs.take j ++ [evs[j]]) := take_next hlt'
      obtain ⟨e, HEI⟩ : ∃ e, Hid (evs[j] = e) := ⟨evs[j], rfl⟩
      rw [HEI.out] at c0 c1 c2 c3 c4 hf hlo hhi HT
      have hki : (j : Int) < (zs.length : Int) := by omega
      have hk0 : (0 : Int) ≤ (j : Int) := by omega
      have hi2 : (j : Int) ≤ 2000000 := by omega
      have hel : (evs.take j).length ≤ 100000000 := by rw [List.length_take]; omega
      have fa := many_feed M (i := 0) rfl hwa hel e (in64_small hlo hhi) hf
      unfold evVal at fa
      go_upto_region 15 with (go_at_call 26; refine fa.mono ?_; rintro x8 w8 ⟨Ba, xa, xc, xs, rfl, s1, m1, M8⟩)
      obtain ⟨hg8, d0, d1, d2, d3, d4⟩ := M8.ev hlt'
      rw [HEI.out] at d0 d1 d2 d3 d4
      have fb := many_feed M8 (i := 1) rfl hwb hel e (in64_small hlo hhi) hf
      unfold evVal at fb
      go_upto_region 16 with (go_at_call 26; refine fb.mono ?_; rintro x9 w9 ⟨Bb, ya, yc, ys, rfl, s2, m2, M9⟩)
      have Hxy : Hid (ys.map (·.2) = xs.map (·.2)) := sorted_uniq s2 s1 (fun t => by rw [m2, m1])
      have LA := M9.lists (x := ⟨Ba, .slice xa xs.length xc, xs⟩) (by simp)
      have LB := M9.lists (x := ⟨Bb, .slice ya ys.length yc, ys⟩) (by simp)
      have hsame := same_p (w := w9) (va := .slice xa xs.length xc) (vb := .slice ya ys.length yc) (xs := xs.map (·.2)) LA.read (by rw [← Hxy.out]; exact LB.read) LA.few.1 LA.few.2
      clear fa fb M M8 c0 c1 c2 c3 c4 d0 d1 d2 d3 d4 hg hg8
      go_upto_region 17 with (go_at_call 32; refine hsame.mono ?_; rintro x10 w10 ⟨rfl, q, hq⟩)
      have M10 : Many w (w9.drewN q) [⟨Ea, bq, 0, ⟨W, R, pa, [P1, P2], sa⟩, evs.take (j + 1)⟩, ⟨Eb, bq, 0, ⟨W, R, pb, [P1, P2], sb⟩, evs.take (j + 1)⟩] (.slice (some ⟨g, 0, none⟩) zs.length ec) evs [] := by
        rw [HT.out]
        exact (M9.below (drewN_below (w' := w9.drewN q) rfl)).drop (hs' := []) (by simp)
      have hln : (evs.take (j + 1)).length = j + 1 := by rw [List.length_take]; omega
      clear hsame LA LB M9 s1 s2 m1 m2 hq
      generalize w9.drewN q = W10 at *
      have la := many_look2 M10 (i := 0) rfl
      rw [hln] at la
      go_upto_region 18 with (go_at_call 16; refine la.mono ?_; rintro x11 w11 ⟨m, rl, j1, j2, j3, rfl, j4, M11⟩)
      have hNa := Blk.new w11 #[.int .i64 ((j : Int) + 1), .int .i64 (m : Nat), .int .i64 (bq : Nat), .int .i64 0] 27
      have M12 := M11.keep ((Chg.refl (fun _ => False) w11).alloc (.cells #[.int .i64 ((j : Int) + 1), .int .i64 (m : Nat), .int .i64 (bq : Nat), .int .i64 0] 27))
      have lna := hNa.lt
      generalize w11.alloc (.cells #[.int .i64 ((j : Int) + 1), .int .i64 (m : Nat), .int .i64 (bq : Nat), .int .i64 0] 27) = W12 at *
      generalize w11.heap.size = Na at *
      have lbm : ∀ wz, Many w wz [⟨Ea, bq, 0, ⟨W, R, pa, [P1, P2], sa⟩, evs.take (j + 1)⟩, ⟨Eb, bq, 0, ⟨W, R, pb, [P1, P2], sb⟩, evs.take (j + 1)⟩] (.slice (some ⟨g, 0, none⟩) zs.length ec) evs [] → Calls Tryz.prog 16 #[.pointer (some ⟨Eb, 0, none⟩)] wz fun x w' => x = .returned (.agg #[.int .i64 ((j : Int) + 1), .int .i64 (m : Nat), .int .i64 (bq : Nat), .int .i64 0]) ∧ Below wz.heap.size wz w' ∧ Many w w' [⟨Ea, bq, 0, ⟨W, R, pa, [P1, P2], sa⟩, evs.take (j + 1)⟩, ⟨Eb, bq, 0, ⟨W, R, pb, [P1, P2], sb⟩, evs.take (j + 1)⟩] (.slice (some ⟨g, 0, none⟩) zs.length ec) evs [] := by
        intro wz Mz
        refine (many_look2 Mz (i := 1) rfl).mono ?_
        rintro x w' ⟨m', rl', l1, l2, l3, rfl, l4, l5⟩
        have em : m' = m := by rw [← j2, ← l2]; exact l1.same_len j1
        subst em
        refine ⟨?_, l4, l5⟩
        rw [hln]
        rfl
      have z0 := hNa.cell 0; have z1 := hNa.cell 1; have z2 := hNa.cell 2; have z3 := hNa.cell 3
      simp at z0 z1 z2 z3
      clear la M10 M11 j1 j2 j3 j4 hln
      go_region_held3 (fun w' => w'.cell? ⟨Na, 0, none⟩ = some (.int .i64 ((j : Int) + 1)) ∧ w'.cell? ⟨Na, 1, none⟩ = some (.int .i64 (m : Nat)) ∧ w'.cell? ⟨Na, 2, none⟩ = some (.int .i64 ((bq : Nat) : Int)) ∧ w'.cell? ⟨Na, 3, none⟩ = some (.int .i64 0)) (simp [*])
       (first
        | (go_at_call 16; refine (lbm _ (M12.below (w' := W12.drew) ⟨rfl, rfl, rfl, Nat.le_refl _, fun _ _ => rfl⟩)).mono ?_; rintro x13 w13 ⟨rfl, hb13, M13⟩; have hN13 := hNa.of_eq (hb13.block _ lna); have y0 := hN13.cell 0; have y1 := hN13.cell 1; have y2 := hN13.cell 2; have y3 := hN13.cell 3; have yl := hN13.lt; simp at y0 y1 y2 y3))
      all_goals
        go_wp2
        exact ⟨⟨j + 1, hlt, by go_num, M13⟩, by simp [intOf]; omega⟩
    · have ej : j = zs.length := by omega
      subst ej
      have hbe2 := M.bel
      go_wp2
      go_ret
      exact ⟨rfl, hbe2⟩
end Go.Proofs.YtddbjcfdmdbmkaaGreatDoor
