import Derived.Test.YtddbjcfdmdbmkaaGreatDoorB42
import Derived.Test.YtddbjcfdmdbmkaaGreatDoorB46
set_option linter.unusedVariables false
set_option linter.unusedSimpArgs false
namespace Go.Proofs.YtddbjcfdmdbmkaaGreatDoor
open Go.RowKit

set_option maxRecDepth 100000 in
set_option maxHeartbeats 3200000 in
theorem often_p (n_ kind window rate : Int) (h0 : In64 n_) (h1 : In64 kind) (h2 : In64 window) (h3 : In64 rate) {ws zs : List Int} {qv rv : Value} {w : World} (hrawq : RawAt w qv ws) (hraw : RawAt w rv zs) (hl : zs.length ≤ 2000000) :
    Calls Tryz.prog 10 #[.int .i64 n_, .int .i64 kind, qv, .int .i64 window, .int .i64 rate, rv] w fun x w' => x = .returned (.bool true) ∧ Below w.heap.size w w' := by
  have k1 := pick_lt n_ (show 0 < 4 by omega)
  have k2 := pick_lt kind (show 0 < 3 by omega)
  have k3 := pick_lt window (show 0 < 40 by omega)
  have k4 := pick_lt rate (show 0 < 7 by omega)
  have p1 := fun w1 => pick_p n_ 4 h0 (by omega) (by omega) w1
  have p2 := fun w1 => pick_p kind 3 h1 (by omega) (by omega) w1
  have p3 := fun w1 => pick_p window 40 h2 (by omega) (by omega) w1
  have p4 := fun w1 => pick_p rate 7 h3 (by omega) (by omega) w1
  generalize pickP n_ 4 = a at *
  generalize pickP kind 3 = K at *
  generalize pickP window 40 = c at *
  generalize pickP rate 7 = b at *
  simp only [Int.cast_ofNat_Int] at p1 p2 p3 p4
  obtain ⟨W, hWc, hW1, hW2⟩ : ∃ W : Nat, 1 + (c : Int) = (W : Int) ∧ 1 ≤ W ∧ W ≤ 40 := ⟨1 + c, by omega, by omega, by omega⟩
  obtain ⟨R, hRb, hR1, hR2⟩ : ∃ R : Nat, 1 + (b : Int) = (R : Int) ∧ 1 ≤ R ∧ R ≤ 7 := ⟨1 + b, by omega, by omega, by omega⟩
  obtain ⟨k, hNa, hN1, hN2⟩ : ∃ N : Nat, 1 + (a : Int) = (N : Int) ∧ 1 ≤ N ∧ N ≤ 4 := ⟨1 + a, by omega, by omega, by omega⟩
  have hh := fun w1 => head_p W R (by omega) (by omega) w1
  have hdK := fun w1 => decimal_p K (by omega) w1
  have hdk := fun w1 => decimal_p k (by omega) w1
  obtain ⟨va, vc, hrv, _⟩ := hraw.form
  subst hrv
  obtain ⟨qa, qc, hqv, _⟩ := hrawq.form
  subst hqv
  have hsK := decL_size (n := K) (by omega)
  have hsk := decL_size (n := k) (by omega)
  have eK : (txt (decL K)).data.toList = decL K := by unfold txt; simp
  have ek : (txt (decL k)).data.toList = decL k := by unfold txt; simp
  have hlh := head_size (W := W) (R := R) (by omega) (by omega)
  obtain ⟨o, ho1, ho2, hoe⟩ : ∃ o : SO, o.k ≤ 2 ∧ o.q ≤ 3 ∧ stepsB ws 0 1 = layL (soSeq [] 0 [o]) := ⟨soOf (pickP (ws.getD 0 0) 1000), (so_okOf _).1, (so_okOf _).2.1, rfl⟩
  have hTT : ∀ S S' : ByteArray, S.data.toList = (headB W R).data.toList ++ ofAB K k o → S'.data.toList = (headB W R).data.toList ++ ofBB K k o → _ := fun S S' hS hS' => of_texts (K := K) (k := k) (W := W) (R := R) (o := o) (by omega) ⟨hN1, hN2⟩ ho1 ho2 (by omega) (by omega) hS hS'
  generalize txt (decL K) = DK at *
  generalize txt (decL k) = Dk at *
  generalize headB W R = H at *
  have gK : ¬ 9223372036854775807 < 1 + DK.size := by omega
  go_enter Tryz.func10, Tryz.ntmps10
  go_upto_region 2 with (go_at_call 21; refine (p3 _).mono ?_; rintro x1 w1 ⟨rfl, e⟩; rw [e]; clear e w1)
  go_upto_region 3 with (go_at_call 21; refine (p4 _).mono ?_; rintro x2 w2 ⟨rfl, e⟩; rw [e]; clear e w2)
  go_upto_region 4 with (go_at_call 21; refine (p1 _).mono ?_; rintro x2 w2 ⟨rfl, e⟩; rw [e]; clear e w2)
  go_upto_region 5 with (first
    | (go_at_call 21; refine (p2 _).mono ?_; rintro x2 w2 ⟨rfl, e⟩; rw [e]; clear e w2)
    | (go_at_call 33; refine (hdK _).mono ?_; rintro x2 w2 ⟨rfl, e⟩; rw [e]; clear e w2))
  obtain ⟨ME, hME⟩ : ∃ ME : ByteArray, (⟨#[58]⟩ : ByteArray) ++ DK = ME := ⟨_, rfl⟩
  rw [hME]
  have eM : ME.data.toList = [58] ++ decL K := by rw [← hME]; simp [eK]
  have hsM : ME.size ≤ 10 := by
    have h1 : ME.size = ME.data.toList.length := by simp
    have h2 := dec_len 8 K (by omega)
    rw [h1, eM]; simp; omega
  clear hME p1 p2 p3 p4 gK
  go_wp2
  go_loopw [17, 18] (fun sv iv wr => ∃ (i : Nat) (B : ByteArray), i ≤ k ∧ sv = .string B ∧ iv = .int .i64 (i : Nat) ∧ B.data.toList = manyB K i ∧ Below w.heap.size w wr) (fun _ iv _ => k - (intOf iv).toNat)
  case atStart => exact ⟨0, ⟨#[]⟩, Nat.zero_le _, rfl, rfl, rfl, Below.refl _ _⟩
  case round =>
    obtain ⟨i, B, hi, rfl, rfl, hB, hbel⟩ := hrel
    have hBl : B.size ≤ 240 := by
      have e1 : B.size = B.data.toList.length := by simp
      have := many_len (K := K) (by omega) i (by omega)
      rw [e1, hB]; omega
    by_cases hp : i < k
    · have hp' : (i : Int) < (k : Int) := by omega
      have nm := fun w1 => name_p (2 + i) (by omega) w1
      have e1 : ((2 + i : Nat) : Int) = 2 + (i : Int) := by omega
      rw [e1] at nm
      clear e1
      have ts : (txt [nameB (2 + i)]).size = 1 := rfl
      have em : (txt [nameB (2 + i)]).data.toList = [nameB (2 + i)] := rfl
      generalize txt [nameB (2 + i)] = NM at *
      by_cases hi0 : i = 0
      · have hi0' : ¬ (0 : Int) < (i : Int) := by omega
        have g1 : ¬ 9223372036854775807 < B.size + NM.size := by omega
        have g2 : ¬ 9223372036854775807 < B.size + NM.size + ME.size := by omega
        have g3 : ¬ 9223372036854775807 < B.size + NM.size + ME.size + 11 := by omega
        have g4 : ¬ 9223372036854775807 < B.size + NM.size + ME.size + 11 + NM.size := by omega
        have g5 : ¬ 9223372036854775807 < B.size + NM.size + ME.size + 11 + NM.size + 2 := by omega
        have HI : Hid (i = 0) := hi0
        clear hi0
        go_wp2_with (first
          | (go_at_call 23; refine (nm _).mono ?_; rintro x3 w3 ⟨rfl, hb3⟩; have HB3 : Hid (Below w.heap.size w w3) := (by first | exact HB3.out.trans (hb3.mono HB3.out.size) | exact hbel.trans (hb3.mono hbel.size))))
        go_roundw
        case rel =>
          refine ⟨i + 1, _, hp, rfl, by go_num, ?_, HB3.out⟩
          unfold manyB
          rw [if_pos HI.out]
          simp [hB, em, eM]
        case measure => simp [intOf]; omega
      · have hi0' : (0 : Int) < (i : Int) := by omega
        have g0 : ¬ 9223372036854775807 < B.size + 6 := by omega
        have g1 : ¬ 9223372036854775807 < B.size + 6 + NM.size := by omega
        have g2 : ¬ 9223372036854775807 < B.size + 6 + NM.size + ME.size := by omega
        have g3 : ¬ 9223372036854775807 < B.size + 6 + NM.size + ME.size + 11 := by omega
        have g4 : ¬ 9223372036854775807 < B.size + 6 + NM.size + ME.size + 11 + NM.size := by omega
        have g5 : ¬ 9223372036854775807 < B.size + 6 + NM.size + ME.size + 11 + NM.size + 2 := by omega
        go_wp2_with (first
          | (go_at_call 23; refine (nm _).mono ?_; rintro x3 w3 ⟨rfl, hb3⟩; have HB3 : Hid (Below w.heap.size w w3) := (by first | exact HB3.out.trans (hb3.mono HB3.out.size) | exact hbel.trans (hb3.mono hbel.size))))
        go_roundw
        case rel =>
          refine ⟨i + 1, _, hp, rfl, by go_num, ?_, HB3.out⟩
          unfold manyB
          rw [if_neg hi0]
          simp [hB, em, eM]
        case measure => simp [intOf]; omega
    · have hik : i = k := by omega
      subst hik
      have hp' : ¬ (i : Int) < (i : Int) := by omega
      have hst := steps_p (hrawq.to hbel) 1 0 (by omega) (by omega) (by omega)
      simp only [Int.cast_ofNat_Int] at hst
      have hsl := steps_len (zs := ws) (fr := 0) (n := 1) (by omega) (by omega) (by omega)
      have hsz : ∀ S : ByteArray, S.data.toList = stepsB ws 0 1 → S.size ≤ 280 := fun S hS => by
        have h1 : S.size = S.data.toList.length := by simp
        rw [h1, hS]; exact hsl
      go_upto_region 13 with (go_at_call 28; refine hst.mono ?_; rintro x4 w4 ⟨S, rfl, hS, hb4⟩; have gS : ¬ 9223372036854775807 < 6 + S.size := (by have := hsz S hS; omega))
      have hzS := hsz S hS
      rw [hoe] at hS
      have hbe := hbel.trans (hb4.mono hbel.size)
      obtain ⟨T, hT⟩ : ∃ T : ByteArray, (⟨#[32, 116, 104, 101, 110, 32]⟩ : ByteArray) ++ S = T := ⟨_, rfl⟩
      rw [hT]
      have eT : T.data.toList = [32, 116, 104, 101, 110, 32] ++ layL (soSeq [] 0 [o]) := by rw [← hT, ← hS]; simp
      have hzT : T.size ≤ 290 := by
        have h1 : T.size = T.data.toList.length := by simp
        have h2 : S.size = S.data.toList.length := by simp
        rw [h1, eT, ← hS, List.length_append, ← h2]
        simp
        omega
      clear hT hst hsz gS
      obtain ⟨hTA, hTB⟩ := hTT (H ++ ⟨#[120]⟩ ++ ME ++ ⟨#[32, 116, 105, 109, 101, 115, 32]⟩ ++ Dk ++ ⟨#[32, 105, 102, 32, 105, 116, 46, 97, 32, 62, 32, 120, 46, 98]⟩ ++ T) (H ++ B ++ T) (by simp [ofAB, eM, ek, eT]) (by simp [ofBB, hB, eT])
      generalize stepsL (rowL (ofAX K i o)) = P1 at *
      have hwa := hTA.well
      have M4 := (Many.start w).below hbe
      have g1 : ¬ 9223372036854775807 < H.size + 1 := by omega
      have g2 : ¬ 9223372036854775807 < H.size + 1 + ME.size := by omega
      have g3 : ¬ 9223372036854775807 < H.size + 1 + ME.size + 7 := by omega
      have g4 : ¬ 9223372036854775807 < H.size + 1 + ME.size + 7 + Dk.size := by omega
      have g5 : ¬ 9223372036854775807 < H.size + 1 + ME.size + 7 + Dk.size + 14 := by omega
      have g6 : ¬ 9223372036854775807 < H.size + 1 + ME.size + 7 + Dk.size + 14 + T.size := by omega
      have g7 : ¬ 9223372036854775807 < H.size + B.size := by omega
      have g8 : ¬ 9223372036854775807 < H.size + B.size + T.size := by omega
      clear hTT
      go_upto_region 14 with (first
        | (go_at_call 22; refine (hh _).mono ?_; rintro x3 w3 ⟨rfl, e⟩; rw [e]; clear e w3)
        | (go_at_call 33; refine (hdk _).mono ?_; rintro x3 w3 ⟨rfl, e⟩; rw [e]; clear e w3)
        | (go_at_call 24; refine (many_begin M4 hTA).mono ?_; rintro x5 w5 ⟨Ea, pa, sa, rfl, M5⟩))
      go_upto_region 17 with (first
        | (go_at_call 22; refine (hh _).mono ?_; rintro x3 w3 ⟨rfl, e⟩; rw [e]; clear e w3)
        | (go_at_call 24; refine (many_begin M5 hTB).mono ?_; rintro x6 w6 ⟨Eb, pb, sb, rfl, M6⟩))
      have hev := many_events (W := W) (R := R) M6 hraw hl (by omega) ⟨hR1, by omega⟩
      have hgood := clk_good (W := W) (R := R) hl (by omega) hR1
      generalize clkEvs W R (rawN zs) = evs at *
      clear hTA hTB M4 M5 M6 hh hdk hdK g1 g2 g3 g4 g5 g6 g7 g8
      go_upto_region 18 with (first
        | (go_at_call 29; refine hev.mono ?_; rintro x7 w7 ⟨ea, ec, rfl, M7⟩))
      have hwb := hwa pb sb
      have hwa := hwa pa sa
      clear hev
      go_wp2
      go_loopw [23] (fun jv wr => ∃ j : Nat, j ≤ zs.length ∧ jv = .int .i64 (j : Nat) ∧ Many w wr [⟨Ea, mostP R (i + 1), 0, ⟨W, R, pa, [P1], sa⟩, evs.take j⟩, ⟨Eb, mostP R (i + 1), 0, ⟨W, R, pb, [P1], sb⟩, evs.take j⟩] (.slice ea zs.length ec) evs []) (fun jv _ => zs.length - (intOf jv).toNat)
      case atStart => exact ⟨0, Nat.zero_le _, rfl, M7⟩
      case round =>
        obtain ⟨j, hj, rfl, M⟩ := hrel
        by_cases hlt : j < zs.length
        · have hlt' : j < evs.length := by rw [hgood.len]; exact hlt
          obtain ⟨g, rfl⟩ := M.evB (by omega)
          obtain ⟨hg, c0, c1, c2, c3, c4⟩ := M.ev hlt'
          have hf := hgood.feed j hlt'
          have hlo := hgood.low j hlt'
          have hhi := hgood.high j hlt'
          have HT : Hid (evs.take (j + 1) = evs.take j ++ [evs[j]]) := take_next hlt'
          obtain ⟨e, HEI⟩ : ∃ e, Hid (evs[j] = e) := ⟨evs[j], rfl⟩
          rw [HEI.out] at c0 c1 c2 c3 c4 hf hlo hhi HT
          have hki : (j : Int) < (zs.length : Int) := by omega
          have hk0 : (0 : Int) ≤ (j : Int) := by omega
          have hi2 : (j : Int) ≤ 2000000 := by omega
          have hel : (evs.take j).length ≤ 100000000 := by rw [List.length_take]; omega
          have fa := many_feed M (i := 0) rfl hwa hel e (in64_small hlo hhi) hf
          unfold evVal at fa
          go_upto_region 22 with (go_at_call 26; refine fa.mono ?_; rintro x8 w8 ⟨Ba, xa, xc, xs, rfl, s1, m1, M8⟩)
          obtain ⟨hg8, d0, d1, d2, d3, d4⟩ := M8.ev hlt'
          rw [HEI.out] at d0 d1 d2 d3 d4
          have fb := many_feed M8 (i := 1) rfl hwb hel e (in64_small hlo hhi) hf
          unfold evVal at fb
          go_upto_region 23 with (go_at_call 26; refine fb.mono ?_; rintro x9 w9 ⟨Bb, ya, yc, ys, rfl, s2, m2, M9⟩)
          have Hxy : Hid (ys.map (·.2) = xs.map (·.2)) := sorted_uniq s2 s1 (fun t => by rw [m2, m1])
          have LA := M9.lists (x := ⟨Ba, .slice xa xs.length xc, xs⟩) (by simp)
          have LB := M9.lists (x := ⟨Bb, .slice ya ys.length yc, ys⟩) (by simp)
          have hsame := same_p (w := w9) (va := .slice xa xs.length xc) (vb := .slice ya ys.length yc) (xs := xs.map (·.2)) LA.read (by rw [← Hxy.out]; exact LB.read) LA.few.1 LA.few.2
          clear fa fb M M8 c0 c1 c2 c3 c4 d0 d1 d2 d3 d4 hg hg8
          go_upto_region 24 with (go_at_call 32; refine hsame.mono ?_; rintro x10 w10 ⟨rfl, q, hq⟩)
          have M10 : Many w (w9.drewN q) [⟨Ea, mostP R (i + 1), 0, ⟨W, R, pa, [P1], sa⟩, evs.take (j + 1)⟩, ⟨Eb, mostP R (i + 1), 0, ⟨W, R, pb, [P1], sb⟩, evs.take (j + 1)⟩] (.slice (some ⟨g, 0, none⟩) zs.length ec) evs [] := by
            rw [HT.out]
            exact (M9.below (drewN_below (w' := w9.drewN q) rfl)).drop (hs' := []) (by simp)
          have hln : (evs.take (j + 1)).length = j + 1 := by rw [List.length_take]; omega
          clear hsame LA LB M9 s1 s2 m1 m2 hq
          generalize w9.drewN q = W10 at *
          have la := many_look2 M10 (i := 0) rfl
          rw [hln] at la
          go_upto_region 25 with (go_at_call 16; refine la.mono ?_; rintro x11 w11 ⟨m, rl, j1, j2, j3, rfl, j4, M11⟩)
          have hNa := Blk.new w11 #[.int .i64 ((j : Int) + 1), .int .i64 (m : Nat), .int .i64 (mostP R (i + 1) : Nat), .int .i64 0] 27
          have M12 := M11.keep ((Chg.refl (fun _ => False) w11).alloc (.cells #[.int .i64 ((j : Int) + 1), .int .i64 (m : Nat), .int .i64 (mostP R (i + 1) : Nat), .int .i64 0] 27))
          have lna := hNa.lt
          generalize w11.alloc (.cells #[.int .i64 ((j : Int) + 1), .int .i64 (m : Nat), .int .i64 (mostP R (i + 1) : Nat), .int .i64 0] 27) = W12 at *
          generalize w11.heap.size = Na at *
          have lb := many_look2 M12 (i := 1) rfl
          rw [hln] at lb
          clear la M10 M11 j4
          go_upto_region 26 with (go_at_call 16; refine lb.mono ?_; rintro x13 w13 ⟨m', rl', l1, l2, l3, rfl, l4, M13⟩)
          have em : m' = m := by rw [← j2, ← l2]; exact l1.same_len j1
          subst em
          have hNb := Blk.new w13 #[.int .i64 ((j : Int) + 1), .int .i64 (m' : Nat), .int .i64 (mostP R (i + 1) : Nat), .int .i64 0] 27
          have hNa2 := (hNa.of_eq (l4.block _ lna)).alloc (.cells #[.int .i64 ((j : Int) + 1), .int .i64 (m' : Nat), .int .i64 (mostP R (i + 1) : Nat), .int .i64 0] 27)
          have M14 := M13.keep ((Chg.refl (fun _ => False) w13).alloc (.cells #[.int .i64 ((j : Int) + 1), .int .i64 (m' : Nat), .int .i64 (mostP R (i + 1) : Nat), .int .i64 0] 27))
          generalize w13.alloc (.cells #[.int .i64 ((j : Int) + 1), .int .i64 (m' : Nat), .int .i64 (mostP R (i + 1) : Nat), .int .i64 0] 27) = W14 at *
          generalize w13.heap.size = Nb at *
          have za0 := hNa2.cell 0; have za1 := hNa2.cell 1; have za2 := hNa2.cell 2; have za3 := hNa2.cell 3; have zal := hNa2.lt
          have zb0 := hNb.cell 0; have zb1 := hNb.cell 1; have zb2 := hNb.cell 2; have zb3 := hNb.cell 3; have zbl := hNb.lt
          simp at za0 za1 za2 za3 zb0 zb1 zb2 zb3
          clear hNa2 hNb hNa lna lb M12 M13 l4 j1 l1 j2 l2 j3 l3
          go_wp2
          go_roundw
          case rel => exact ⟨j + 1, hlt, by go_num, M14⟩
          case measure => simp [intOf]; omega
        · have ej : j = zs.length := by omega
          subst ej
          have hbe2 := M.bel
          go_wp2
          go_ret
          exact ⟨rfl, hbe2⟩
end Go.Proofs.YtddbjcfdmdbmkaaGreatDoor
