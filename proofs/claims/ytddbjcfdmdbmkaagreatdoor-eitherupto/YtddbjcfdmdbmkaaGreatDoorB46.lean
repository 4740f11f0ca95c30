import Derived.Test.YtddbjcfdmdbmkaaGreatDoorB45
set_option linter.unusedVariables false
set_option linter.unusedSimpArgs false
namespace Go.Proofs.YtddbjcfdmdbmkaaGreatDoor
open Go.RowKit

theorem so_plen {fr : Nat} {os : List SO} (h : SoOK os) (hf : frOK fr os.length) : ((stepsL (rowL (soXs fr os))).map stepA).length = os.length := by
  obtain ⟨hx, hc⟩ := so_ok hf (fun o ho => (h o ho).2.1)
  obtain ⟨_, h2, h3, _, _⟩ := okX_parts hx
  rw [List.length_map, (steps_well h2 h3).2, hc]
theorem small_of {p : List ASt} {win : Int} {evs : List Ev} {e : Ev} {rate : Nat} {xs : List VL} (hw : 0 < win) (hm : Mono (evs ++ [e])) (hf : feedFP win rate evs e.time = 0) (hr : rate ≤ 8) (hp : p.length ≤ 8) (hl : (evs ++ [e]).length ≤ 1000000000) (s : SortedL (xs.map (·.2))) (hmem : ∀ t, t ∈ xs.map (·.2) ↔ MatchOK [p] win (evs ++ [e]) t) : SmallL xs := by
  refine ⟨?_, fun x hx => ?_, fun x hx z hz => ?_⟩
  · have := match_few hw hm hf hr hp s hmem
    rwa [List.length_map] at this
  · have := (match_small ((hmem x.2).1 (List.mem_map_of_mem hx))).1
    omega
  · have := (match_small ((hmem x.2).1 (List.mem_map_of_mem hx))).2 z hz
    omega
set_option maxRecDepth 100000 in
set_option maxHeartbeats 3200000 in
theorem either_p (n_ m_ window rate : Int) (h0 : In64 n_) (h1 : In64 m_) (h2 : In64 window) (h3 : In64 rate) {ws us zs : List Int} {qv tv rv : Value} {w : World} (hrawq : RawAt w qv ws) (hrawt : RawAt w tv us) (hraw : RawAt w rv zs) (hl : zs.length ≤ 2000000) :
    Calls Tryz.prog 9 #[qv, tv, .int .i64 n_, .int .i64 m_, .int .i64 window, .int .i64 rate, rv] w fun x w' => x = .returned (.bool true) ∧ Below w.heap.size w w' := by
  have k1 := pick_lt n_ (show 0 < 3 by omega)
  have k2 := pick_lt m_ (show 0 < 3 by omega)
  have k3 := pick_lt window (show 0 < 40 by omega)
  have k4 := pick_lt rate (show 0 < 7 by omega)
  have p1 := fun w1 => pick_p n_ 3 h0 (by omega) (by omega) w1
  have p2 := fun w1 => pick_p m_ 3 h1 (by omega) (by omega) w1
  have p3 := fun w1 => pick_p window 40 h2 (by omega) (by omega) w1
  have p4 := fun w1 => pick_p rate 7 h3 (by omega) (by omega) w1
  generalize pickP n_ 3 = a at *
  generalize pickP m_ 3 = d at *
  generalize pickP window 40 = c at *
  generalize pickP rate 7 = b at *
  simp only [Int.cast_ofNat_Int] at p1 p2 p3 p4
  obtain ⟨W, hWc, hW1, hW2⟩ : ∃ W : Nat, 1 + (c : Int) = (W : Int) ∧ 1 ≤ W ∧ W ≤ 40 := ⟨1 + c, by omega, by omega, by omega⟩
  obtain ⟨R, hRb, hR1, hR2⟩ : ∃ R : Nat, 1 + (b : Int) = (R : Int) ∧ 1 ≤ R ∧ R ≤ 7 := ⟨1 + b, by omega, by omega, by omega⟩
  obtain ⟨N, hNa, hN1, hN2⟩ : ∃ N : Nat, 1 + (a : Int) = (N : Int) ∧ 1 ≤ N ∧ N ≤ 3 := ⟨1 + a, by omega, by omega, by omega⟩
  obtain ⟨O, hOa, hO1, hO2⟩ : ∃ N : Nat, 1 + (d : Int) = (N : Int) ∧ 1 ≤ N ∧ N ≤ 3 := ⟨1 + d, by omega, by omega, by omega⟩
  have hh := fun w1 => head_p W R (by omega) (by omega) w1
  have hst := steps_p hrawq N 0 (by omega) (by omega) (by omega)
  have hsu := fun (w1 : World) (hb : Below w.heap.size w w1) => steps_p (hrawt.to hb) O 3 (by omega) (by omega) (by omega)
  simp only [Int.cast_ofNat_Int] at hst hsu
  have hsl := steps_len (zs := ws) (fr := 0) (n := N) (by omega) (by omega) (by omega)
  have hsl2 := steps_len (zs := us) (fr := 3) (n := O) (by omega) (by omega) (by omega)
  obtain ⟨va, vc, hrv, _⟩ := hraw.form
  subst hrv
  obtain ⟨qa, qc, hqv, _⟩ := hrawq.form
  subst hqv
  obtain ⟨ta, tc, htv, _⟩ := hrawt.form
  subst htv
  have hf1 : frOK 0 (soOs ws N).length := ⟨by rw [soOs_len]; exact hN1, .inl ⟨rfl, by rw [soOs_len]; omega⟩⟩
  have hf2 : frOK 3 (soOs us O).length := ⟨by rw [soOs_len]; exact hO1, .inr ⟨rfl, by rw [soOs_len]; omega⟩⟩
  have hT1 : ∀ S : ByteArray, S.data.toList = stepsB ws 0 N → TextOK (headB W R ++ S) W R (mostP R N) [stepsL (rowL (soXs 0 (soOs ws N)))] := by
    intro S hS
    have h := so_text (fr := 0) (W := W) (R := R) (os := soOs ws N) (soOs_ok ws N) hf1 (by omega) (by omega) (S := headB W R ++ S) (by rw [show layL (soSeq [] 0 (soOs ws N)) = stepsB ws 0 N from rfl, ← hS]; simp)
    rwa [soOs_len] at h
  have hT2 : ∀ S : ByteArray, S.data.toList = stepsB us 3 O → TextOK (headB W R ++ S) W R (mostP R O) [stepsL (rowL (soXs 3 (soOs us O)))] := by
    intro S hS
    have h := so_text (fr := 3) (W := W) (R := R) (os := soOs us O) (soOs_ok us O) hf2 (by omega) (by omega) (S := headB W R ++ S) (by rw [show layL (soSeq [] 3 (soOs us O)) = stepsB us 3 O from rfl, ← hS]; simp)
    rwa [soOs_len] at h
  have hT3 : ∀ S S' : ByteArray, S.data.toList = stepsB ws 0 N → S'.data.toList = stepsB us 3 O → TextOK (headB W R ++ ⟨#[40]⟩ ++ S ++ ⟨#[124]⟩ ++ S' ++ ⟨#[41]⟩) W R (mostP R N + mostP R O) [stepsL (rowL (soXs 0 (soOs ws N))), stepsL (rowL (soXs 3 (soOs us O)))] := by
    intro S S' hS hS'
    have h := so_either (W := W) (R := R) (soOs_ok ws N) (by rw [soOs_len]; omega) (soOs_ok us O) (by rw [soOs_len]; omega) (by omega) (by omega) (S := headB W R ++ ⟨#[40]⟩ ++ S ++ ⟨#[124]⟩ ++ S' ++ ⟨#[41]⟩) (by rw [show layL (soSeq [] 0 (soOs ws N)) = stepsB ws 0 N from rfl, show layL (soSeq [] 3 (soOs us O)) = stepsB us 3 O from rfl, ← hS, ← hS']; simp)
    rwa [soOs_len, soOs_len] at h
  have hl1 := so_plen (soOs_ok ws N) hf1
  have hl2 := so_plen (soOs_ok us O) hf2
  rw [soOs_len] at hl1 hl2
  generalize stepsL (rowL (soXs 0 (soOs ws N))) = P1 at *
  generalize stepsL (rowL (soXs 3 (soOs us O))) = P2 at *
  have hlh := head_size (W := W) (R := R) (by omega) (by omega)
  generalize headB W R = H at *
  have hsz : ∀ S : ByteArray, S.data.toList = stepsB ws 0 N → S.size ≤ 280 := fun S hS => by
    have h1 : S.size = S.data.toList.length := by simp
    rw [h1, hS]; exact hsl
  have hsz2 : ∀ S : ByteArray, S.data.toList = stepsB us 3 O → S.size ≤ 280 := fun S hS => by
    have h1 : S.size = S.data.toList.length := by simp
    rw [h1, hS]; exact hsl2
  go_enter Tryz.func9, Tryz.ntmps9
  go_upto_region 2 with (go_at_call 21; refine (p3 _).mono ?_; rintro x1 w1 ⟨rfl, e⟩; rw [e]; clear e w1)
  go_upto_region 3 with (go_at_call 21; refine (p4 _).mono ?_; rintro x2 w2 ⟨rfl, e⟩; rw [e]; clear e w2)
  go_upto_region 4 with (first
    | (go_at_call 21; refine (p1 _).mono ?_; rintro x3 w3 ⟨rfl, e⟩; rw [e]; clear e w3)
    | (go_at_call 28; refine hst.mono ?_; rintro x4 w4 ⟨S, rfl, hS, hb4⟩))
  have hsu4 := hsu w4 hb4
  go_upto_region 5 with (first
    | (go_at_call 21; refine (p2 _).mono ?_; rintro x3 w3 ⟨rfl, e⟩; rw [e]; clear e w3)
    | (go_at_call 28; refine hsu4.mono ?_; rintro x5 w5 ⟨U, rfl, hU, hb5⟩))
  have hbe := hb4.trans (hb5.mono hb4.size)
  have hz1 := hsz S hS
  have hz2 := hsz2 U hU
  have g1 : ¬ 9223372036854775807 < H.size + S.size := by omega
  have g2 : ¬ 9223372036854775807 < H.size + U.size := by omega
  have g3 : ¬ 9223372036854775807 < H.size + 1 := by omega
  have g4 : ¬ 9223372036854775807 < H.size + 1 + S.size := by omega
  have g5 : ¬ 9223372036854775807 < H.size + 1 + S.size + 1 := by omega
  have g6 : ¬ 9223372036854775807 < H.size + 1 + S.size + 1 + U.size := by omega
  have g7 : ¬ 9223372036854775807 < H.size + 1 + S.size + 1 + U.size + 1 := by omega
  have hT1 := hT1 S hS
  have hT2 := hT2 U hU
  have hT3 := hT3 S U hS hU
  have hw1 := hT1.well
  have hw2 := hT2.well
  have hw3 := hT3.well
  have M5 := (Many.start w).below hbe
  clear hst hsu hsu4 hsz hsz2 p1 p2 p3 p4 hS hU
  go_upto_region 6 with (go_at_call 22; refine (hh _).mono ?_; rintro x3 w3 ⟨rfl, e⟩; rw [e]; clear e w3)
  go_upto_region 7 with (go_at_call 24; refine (many_begin M5 hT1).mono ?_; rintro x6 w6 ⟨Ea, pa, sa, rfl, M6⟩)
  go_upto_region 8 with (go_at_call 24; refine (many_begin M6 hT2).mono ?_; rintro x7 w7 ⟨Eb, pb, sb, rfl, M7⟩)
  go_upto_region 11 with (go_at_call 24; refine (many_begin M7 hT3).mono ?_; rintro x8 w8 ⟨Ec, pc, sc, rfl, M8⟩)
  have hev := many_events (W := W) (R := R) M8 hraw hl (by omega) ⟨hR1, by omega⟩
  have hgood := clk_good (W := W) (R := R) hl (by omega) hR1
  generalize clkEvs W R (rawN zs) = evs at *
  clear hT1 hT2 hT3 M5 M6 M7 M8 hh g1 g2 g3 g4 g5 g6 g7
  go_upto_region 12 with (first
    | (go_at_call 29; refine hev.mono ?_; rintro x6 w9 ⟨ea, ec, rfl, M9⟩))
  have hwa := hw1 pa sa
  have hwb := hw2 pb sb
  have hwc := hw3 pc sc
  clear hev hw1 hw2 hw3
  go_wp2
  go_loopw [24] (fun iv wr => ∃ i : Nat, i ≤ zs.length ∧ iv = .int .i64 (i : Nat) ∧ Many w wr [⟨Ea, mostP R N, 0, ⟨W, R, pa, [P1], sa⟩, evs.take i⟩, ⟨Eb, mostP R O, 0, ⟨W, R, pb, [P2], sb⟩, evs.take i⟩, ⟨Ec, mostP R N + mostP R O, 0, ⟨W, R, pc, [P1, P2], sc⟩, evs.take i⟩] (.slice ea zs.length ec) evs []) (fun iv _ => zs.length - (intOf iv).toNat)
  case atStart => exact ⟨0, Nat.zero_le _, rfl, M9⟩
  case round =>
    obtain ⟨i, hi, rfl, M⟩ := hrel
    by_cases hlt : i < zs.length
    · have hlt' : i < evs.length := by rw [hgood.len]; exact hlt
      obtain ⟨g, rfl⟩ := M.evB (by omega)
      obtain ⟨hg, c0, c1, c2, c3, c4⟩ := M.ev hlt'
      have hf := hgood.feed i hlt'
      have hlo := hgood.low i hlt'
      have hhi := hgood.high i hlt'
      have HT : Hid (evs.take (i + 1) = evs.take i ++ [evs[i]]) := take_next hlt'
      have HL : Hid ((evs.take i ++ [evs[i]]).length = i + 1) := by show _ = _; rw [← take_next hlt', List.length_take]; omega
      have hmono : Mono (evs.take i ++ [evs[i]]) := by rw [← take_next hlt']; exact hgood.mono (i + 1)
      obtain ⟨e, HEI⟩ : ∃ e, Hid (evs[i] = e) := ⟨evs[i], rfl⟩
      rw [HEI.out] at c0 c1 c2 c3 c4 hf hlo hhi HT HL hmono
      have hki : (i : Int) < (zs.length : Int) := by omega
      have hk0 : (0 : Int) ≤ (i : Int) := by omega
      have hi2 : (i : Int) ≤ 2000000 := by omega
      have hel : (evs.take i).length ≤ 100000000 := by rw [List.length_take]; omega
      have fa := many_feed M (i := 0) rfl hwa hel e (in64_small hlo hhi) hf
      unfold evVal at fa
      go_upto_region 16 with (go_at_call 26; refine fa.mono ?_; rintro x7 w7 ⟨Ba, xa, xc, xs, rfl, s1, m1, M7⟩)
      obtain ⟨hg7, d0, d1, d2, d3, d4⟩ := M7.ev hlt'
      rw [HEI.out] at d0 d1 d2 d3 d4
      have fb := many_feed M7 (i := 1) rfl hwb hel e (in64_small hlo hhi) hf
      unfold evVal at fb
      go_upto_region 17 with (go_at_call 26; refine fb.mono ?_; rintro x8 w8 ⟨Bb, ya, yc, ys, rfl, s2, m2, M8⟩)
      obtain ⟨hg8, f0, f1, f2, f3, f4⟩ := M8.ev hlt'
      rw [HEI.out] at f0 f1 f2 f3 f4
      have fc := many_feed M8 (i := 2) rfl hwc hel e (in64_small hlo hhi) hf
      unfold evVal at fc
      go_upto_region 18 with (go_at_call 26; refine fc.mono ?_; rintro x9 w9 ⟨Bc, oa, oc, os, rfl, s3, m3, M9⟩)
      have LA := M9.lists (x := ⟨Ba, .slice xa xs.length xc, xs⟩) (by simp)
      have LB := M9.lists (x := ⟨Bb, .slice ya ys.length yc, ys⟩) (by simp)
      have LC := M9.lists (x := ⟨Bc, .slice oa os.length oc, os⟩) (by simp)
      have hsA : SmallL xs := small_of (p := P1.map stepA) (show (0 : Int) < (W : Int) by omega) hmono hf (by omega) (by omega) (by rw [HL.out]; omega) s1 m1
      have hsB : SmallL ys := small_of (p := P2.map stepA) (show (0 : Int) < (W : Int) by omega) hmono hf (by omega) (by omega) (by rw [HL.out]; omega) s2 m2
      have hun := union_p LA LB s1 s2 hsA hsB
      clear fa fb fc M M7 M8 c0 c1 c2 c3 c4 d0 d1 d2 d3 d4 f0 f1 f2 f3 f4 hg hg7 hg8
      go_upto_region 19 with (go_at_call 31; refine hun.mono ?_; rintro x10 w10 ⟨uv, us', rfl, hur, huin, hU, hb10⟩)
      obtain ⟨ua, ub, uc, rfl⟩ := row_form hur
      have Hxy : Hid (us'.map (·.2) = os.map (·.2)) := by
        have hU' : UnI (xs.map (·.2)) (ys.map (·.2)) (us'.map (·.2)) (xs.map (·.2)).length (ys.map (·.2)).length := by rw [List.length_map, List.length_map]; exact hU
        refine hU'.all s3 (fun t => ?_)
        rw [m3, m1, m2]
        exact either_match (pa := [P1.map stepA]) (pb := [P2.map stepA])
      have hsame := same_p (w := w10) (va := .slice ua ub uc) (vb := .slice oa os.length oc) (xs := os.map (·.2)) (by rw [← Hxy.out]; exact lists_of hur (fun z hz => by rcases huin z hz with k | k; exact (LA.below hb10).ints z k; exact (LB.below hb10).ints z k)) (LC.below hb10).read LC.few.1 LC.few.2
      go_upto_region 20 with (go_at_call 32; refine hsame.mono ?_; rintro x11 w11 ⟨rfl, q, hq⟩)
      have M11 : Many w (w10.drewN q) [⟨Ea, mostP R N, 0, ⟨W, R, pa, [P1], sa⟩, evs.take (i + 1)⟩, ⟨Eb, mostP R O, 0, ⟨W, R, pb, [P2], sb⟩, evs.take (i + 1)⟩, ⟨Ec, mostP R N + mostP R O, 0, ⟨W, R, pc, [P1, P2], sc⟩, evs.take (i + 1)⟩] (.slice (some ⟨g, 0, none⟩) zs.length ec) evs [] := by
        rw [HT.out]
        exact ((M9.below hb10).below (drewN_below (w' := w10.drewN q) rfl)).drop (hs' := []) (by simp)
      have hln : (evs.take (i + 1)).length = i + 1 := by rw [List.length_take]; omega
      have hmono2 : Mono (evs.take (i + 1)) := hgood.mono (i + 1)
      clear hun hsame LA LB LC M9 hur huin hU s1 s2 s3 m1 m2 m3 hq
      generalize w10.drewN q = W11 at *
      have la := many_look2 M11 (i := 0) rfl
      rw [hln] at la
      go_upto_region 21 with (go_at_call 16; refine la.mono ?_; rintro x12 w12 ⟨ma, ra, ja1, ja2, ja3, rfl, ja4, M12⟩)
      have hNa := Blk.new w12 #[.int .i64 ((i : Int) + 1), .int .i64 (ma : Nat), .int .i64 (mostP R N : Nat), .int .i64 0] 27
      have M13 := M12.keep ((Chg.refl (fun _ => False) w12).alloc (.cells #[.int .i64 ((i : Int) + 1), .int .i64 (ma : Nat), .int .i64 (mostP R N : Nat), .int .i64 0] 27))
      have lna := hNa.lt
      generalize w12.alloc (.cells #[.int .i64 ((i : Int) + 1), .int .i64 (ma : Nat), .int .i64 (mostP R N : Nat), .int .i64 0] 27) = W13 at *
      generalize w12.heap.size = Na at *
      have lb := many_look2 M13 (i := 1) rfl
      rw [hln] at lb
      clear la M11 M12 ja4
      go_upto_region 22 with (go_at_call 16; refine lb.mono ?_; rintro x14 w14 ⟨mb, rb, jb1, jb2, jb3, rfl, jb4, M14⟩)
      have hNb := Blk.new w14 #[.int .i64 ((i : Int) + 1), .int .i64 (mb : Nat), .int .i64 (mostP R O : Nat), .int .i64 0] 27
      have hNa2 := (hNa.of_eq (jb4.block _ lna)).alloc (.cells #[.int .i64 ((i : Int) + 1), .int .i64 (mb : Nat), .int .i64 (mostP R O : Nat), .int .i64 0] 27)
      have M15 := M14.keep ((Chg.refl (fun _ => False) w14).alloc (.cells #[.int .i64 ((i : Int) + 1), .int .i64 (mb : Nat), .int .i64 (mostP R O : Nat), .int .i64 0] 27))
      have lnb := hNb.lt
      have lna2 := hNa2.lt
      generalize w14.alloc (.cells #[.int .i64 ((i : Int) + 1), .int .i64 (mb : Nat), .int .i64 (mostP R O : Nat), .int .i64 0] 27) = W15 at *
      generalize w14.heap.size = Nb at *
      have lc := many_look2 M15 (i := 2) rfl
      rw [hln] at lc
      clear lb M13 M14 hNa lna jb4
      go_upto_region 23 with (go_at_call 16; refine lc.mono ?_; rintro x16 w16 ⟨mc, rc, jc1, jc2, jc3, rfl, jc4, M16⟩)
      have em : mc = ma + mb := by
        rw [← ja2, ← jb2, ← jc2]
        exact either_runs (pa := [P1.map stepA]) (pb := [P2.map stepA]) hmono2 ja1 jb1 jc1
      subst em
      have hNc := Blk.new w16 #[.int .i64 ((i : Int) + 1), .int .i64 ((ma + mb : Nat) : Int), .int .i64 ((mostP R N : Nat) + (mostP R O : Nat) : Int), .int .i64 0] 27
      have hNa3 := (hNa2.of_eq (jc4.block _ lna2)).alloc (.cells #[.int .i64 ((i : Int) + 1), .int .i64 ((ma + mb : Nat) : Int), .int .i64 ((mostP R N : Nat) + (mostP R O : Nat) : Int), .int .i64 0] 27)
      have hNb3 := (hNb.of_eq (jc4.block _ lnb)).alloc (.cells #[.int .i64 ((i : Int) + 1), .int .i64 ((ma + mb : Nat) : Int), .int .i64 ((mostP R N : Nat) + (mostP R O : Nat) : Int), .int .i64 0] 27)
      have M17 := M16.keep ((Chg.refl (fun _ => False) w16).alloc (.cells #[.int .i64 ((i : Int) + 1), .int .i64 ((ma + mb : Nat) : Int), .int .i64 ((mostP R N : Nat) + (mostP R O : Nat) : Int), .int .i64 0] 27))
      generalize w16.alloc (.cells #[.int .i64 ((i : Int) + 1), .int .i64 ((ma + mb : Nat) : Int), .int .i64 ((mostP R N : Nat) + (mostP R O : Nat) : Int), .int .i64 0] 27) = W17 at *
      generalize w16.heap.size = Nc at *
      have hb1 : ma ≤ 4000 := Nat.le_trans ja3 hwa.bnd
      have hb2 : mb ≤ 4000 := Nat.le_trans jb3 hwb.bnd
      have hb3 := mostP_le (r := R) (s := N) (by omega) (by omega)
      have hb4 := mostP_le (r := R) (s := O) (by omega) (by omega)
      have za1 := hNa3.cell 1; have za2 := hNa3.cell 2; have zal := hNa3.lt
      have zb1 := hNb3.cell 1; have zb2 := hNb3.cell 2; have zbl := hNb3.lt
      have zc1 := hNc.cell 1; have zc2 := hNc.cell 2; have zcl := hNc.lt
      simp at za1 za2 zb1 zb2 zc1 zc2
      clear hNa2 hNb hNa3 hNb3 hNc lna2 lnb lc M15 M16 jc4 ja1 jb1 jc1 ja2 jb2 jc2 ja3 jb3 jc3
      go_wp2
      go_roundw
      case rel =>
        exact ⟨i + 1, hlt, by go_num, M17⟩
      case measure => simp [intOf]; omega
    · have ei : i = zs.length := by omega
      subst ei
      have hbel := M.bel
      go_wp2
      go_ret
      exact ⟨rfl, hbel⟩
end Go.Proofs.YtddbjcfdmdbmkaaGreatDoor
