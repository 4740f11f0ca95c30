import Derived.Test.YtddbjcfdmdbmkaaGreatDoorB42
import Derived.Test.YtddbjcfdmdbmkaaGreatDoorB44
import Derived.Test.YtddbjcfdmdbmkaaGreatDoorB40
set_option linter.unusedVariables false
set_option linter.unusedSimpArgs false
/-
  Guarded: the walk, up to its loop.
-/
namespace Go.Proofs.YtddbjcfdmdbmkaaGreatDoor
open Go.RowKit

/-- the condition's text -/
def gcB (f : Nat) : List UInt8 := match f with
  | 0 => [32, 105, 102, 32, 105, 116, 46, 97, 32, 61, 32, 117, 46, 97]
  | j + 1 => [32, 105, 102, 32, 105, 116, 46, 97, 32, 62, 61, 32] ++ decL j
theorem gb_bytes : ((List.range 3).all fun k => (List.range 4).all fun f => [117, 58, 48, 32, 116, 104, 101, 110, 32, 110, 111, 116, 32] ++ decL k ++ gcB f ++ [32, 116, 104, 101, 110, 32, 118, 58, 49] == gbBytes k f) = true := by kernel_rfl
theorem gb_bytes_at {k f : Nat} (hk : k ≤ 2) (hf : f ≤ 3) : [117, 58, 48, 32, 116, 104, 101, 110, 32, 110, 111, 116, 32] ++ decL k ++ gcB f ++ [32, 116, 104, 101, 110, 32, 118, 58, 49] = gbBytes k f := by
  have h := List.all_eq_true.1 gb_bytes k (List.mem_range.2 (by omega))
  have h := List.all_eq_true.1 h f (List.mem_range.2 (by omega))
  simpa using h
theorem ga_bytes : gaBytes = [117, 58, 48, 32, 116, 104, 101, 110, 32, 118, 58, 49] := by kernel_rfl
theorem decL_size {n : Nat} (h : n ≤ 999999999) : (txt (decL n)).size ≤ 9 := by
  have h1 := dec_len 8 n (by omega)
  have h2 : (txt (decL n)).size = (decL n).length := by show (decL n).toArray.size = _; simp
  omega
theorem head_size {W R : Nat} (hW : W ≤ 999999999) (hR : R ≤ 999999999) : (headB W R).size ≤ 40 := by
  have h1 : (headB W R).size = (headB W R).data.toList.length := by simp
  have h2 := dec_len 8 W (by omega)
  have h3 := dec_len 8 R (by omega)
  rw [h1, head_lay]
  simp [headPc, layL]
  omega
theorem lists_of {B : Nat} {w : World} {v : Value} {fl : List VL} (h : w.ownsRow B 48 1 v fl.length (fl.map (·.1))) (hin : ∀ x ∈ fl, IntsAt w x.1 x.2) : ListsR w v (fl.map (·.2)) := by
  refine ⟨?_⟩
  rcases h.2 with ⟨rfl, h0⟩ | ⟨g, cap, cur, rfl, _, hg, _⟩
  · exact ⟨none, 0, by rw [List.length_map, h0], fun hp => by rw [List.length_map] at hp; omega⟩
  · refine ⟨_, _, by rw [List.length_map], fun _ => ⟨g, rfl, (Array.getElem?_eq_some_iff.1 hg).1, fun k hk => ?_⟩⟩
    have hk' : k < fl.length := by simpa using hk
    refine ⟨fl[k].1, ?_, ?_⟩
    · have := h.cells (g := g) rfl k fl[k].1 (by rw [List.getElem?_map, List.getElem?_eq_getElem hk']; rfl)
      rw [addr_add, Nat.zero_add] at this; exact this
    · have := hin fl[k] (List.getElem_mem hk')
      simpa using this
theorem ListsAt.ints {B : Nat} {w : World} {v : Value} {xs : List VL} (h : ListsAt B w v xs) : ∀ x ∈ xs, IntsAt w x.1 x.2 := fun x hx => IntsAt.of_row (h.inner x hx)
theorem ListsAt.below {B : Nat} {w w' : World} {v : Value} {xs : List VL} (h : ListsAt B w v xs) (hb : Below w.heap.size w w') : ListsAt B w' v xs :=
  h.to fun b hb' => hb.block b (by
    rcases hb' with k | ⟨y, hy, k⟩
    · exact (h.row.lt b k).2
    · exact ((h.inner y hy).lt b k).2)
theorem drewN_below {w w' : World} {q : Nat} (h : w' = w.drewN q) : Below w.heap.size w w' := by
  subst h
  exact ⟨rfl, rfl, rfl, Nat.le_refl _, fun _ _ => rfl⟩
theorem guarded_few {evs : List Ev} {win : Int} {xs : List (List Nat)} (hx : SortedL xs) (mx : ∀ t, t ∈ xs ↔ MatchOK (absP [[stU, stV []]]) win evs t) : xs.length ≤ evs.length := by
  have h := nodup_len xs ((List.range evs.length).map fun u => [u, evs.length - 1]) (sorted_nodup hx) (fun t ht => by
    obtain ⟨i, h1, h2, _⟩ := (two_match (p := stepA stU) (q := stepA (stV []))).1 ((mx t).1 ht)
    exact List.mem_map.2 ⟨i, List.mem_range.2 (by omega), h1.symm⟩)
  simpa using h
theorem beq_dec (x y : Int) : (x == y) = decide (x = y) := by rw [Bool.eq_iff_iff]; simp
theorem below_drewN {B n : Nat} {w w' : World} (h : Below B w w') : Below B w (w'.drewN n) := ⟨h.os, h.tape, h.output, h.size, h.block⟩
theorem ints_two {w : World} {v : Value} {a b : Nat} {l : List Nat} (h : IntsAt w v l) (e : l = [a, b]) : ∃ g c, v = .slice (some ⟨g, 0, none⟩) 2 c ∧ g < w.heap.size ∧ w.cell? ⟨g, 0, none⟩ = some (.int .i64 (a : Nat)) ∧ w.cell? ⟨g, 1, none⟩ = some (.int .i64 (b : Nat)) := by
  subst e
  obtain ⟨p, c, rfl, hc⟩ := h
  obtain ⟨g, rfl, hg, hk⟩ := hc (by simp)
  exact ⟨g, c, rfl, hg, hk 0 (by simp), hk 1 (by simp)⟩
set_option maxRecDepth 100000 in
set_option maxHeartbeats 3200000 in
theorem guarded_p (kind field window rate : Int) (h0 : In64 kind) (h1 : In64 field) (h2 : In64 window) (h3 : In64 rate) {zs : List Int} {rv : Value} {w : World} (hraw : RawAt w rv zs) (hl : zs.length ≤ 2000000) :
    Calls Tryz.prog 11 #[.int .i64 kind, .int .i64 field, .int .i64 window, .int .i64 rate, rv] w fun x w' => x = .returned (.bool true) ∧ Below w.heap.size w w' := by
  have k1 := pick_lt kind (show 0 < 3 by omega)
  have k2 := pick_lt field (show 0 < 4 by omega)
  have k3 := pick_lt window (show 0 < 40 by omega)
  have k4 := pick_lt rate (show 0 < 7 by omega)
  have p1 := fun w1 => pick_p kind 3 h0 (by omega) (by omega) w1
  have p2 := fun w1 => pick_p field 4 h1 (by omega) (by omega) w1
  have p3 := fun w1 => pick_p window 40 h2 (by omega) (by omega) w1
  have p4 := fun w1 => pick_p rate 7 h3 (by omega) (by omega) w1
  generalize pickP kind 3 = k at *
  generalize pickP field 4 = f at *
  generalize pickP window 40 = c at *
  generalize pickP rate 7 = b at *
  simp only [Int.cast_ofNat_Int] at p1 p2 p3 p4
  obtain ⟨W, hWc, hW1, hW2⟩ : ∃ W : Nat, 1 + (c : Int) = (W : Int) ∧ 1 ≤ W ∧ W ≤ 40 := ⟨1 + c, by omega, by omega, by omega⟩
  obtain ⟨R, hRb, hR1, hR2⟩ : ∃ R : Nat, 1 + (b : Int) = (R : Int) ∧ 1 ≤ R ∧ R ≤ 7 := ⟨1 + b, by omega, by omega, by omega⟩
  have hh := fun w1 => head_p W R (by omega) (by omega) w1
  obtain ⟨i0, hi0, hz0, hz1, hz2⟩ := info_parts Tryz.infoIntsS
  obtain ⟨va, vc, hrv, _⟩ := hraw.form
  subst hrv
  go_enter Tryz.func11, Tryz.ntmps11
  go_upto_region 2 with (go_at_call 21; refine (p3 _).mono ?_; rintro x1 w1 ⟨rfl, e⟩; rw [e]; clear e w1)
  go_upto_region 3 with (go_at_call 21; refine (p4 _).mono ?_; rintro x2 w2 ⟨rfl, e⟩; rw [e]; clear e w2)
  go_upto_region 4 with (go_at_call 21; refine (p1 _).mono ?_; rintro x2 w2 ⟨rfl, e⟩; rw [e]; clear e w2)
  go_upto_region 6 with (go_at_call 21; refine (p2 _).mono ?_; rintro x2 w2 ⟨rfl, e⟩; rw [e]; clear e w2)
  go_upto_if 43 with fail
  go_cut [15] from 42 (fun v wx => v = .string ⟨(gcB f).toArray⟩ ∧ wx = w)
  case first =>
    by_cases hf0 : f = 0
    · subst hf0
      go_wp2
      go_meet
      exact ⟨rfl, rfl⟩
    · have hd := fun w1 => decimal_p (f - 1) (by omega) w1
      have ej : ((f - 1 : Nat) : Int) = (f : Int) - 1 := by omega
      rw [ej] at hd
      have hj0 : (0 : Int) ≤ (f : Int) - 1 := by omega
      have hgc : (gcB f).toArray = #[32, 105, 102, 32, 105, 116, 46, 97, 32, 62, 61, 32] ++ (decL (f - 1)).toArray := by
        obtain ⟨j, rfl⟩ : ∃ j, f = j + 1 := ⟨f - 1, by omega⟩
        unfold gcB
        simp
      clear ej
      have hdl := dec_len 8 (f - 1) (by omega)
      generalize decL (f - 1) = D at *
      have gs : (txt D).size = D.length := by show D.toArray.size = _; simp
      have g1 : ¬ 9223372036854775807 < 12 + (txt D).size := by omega
      go_wp2_with (go_at_call 33; refine (hd _).mono ?_; rintro x2 w2 ⟨rfl, e⟩; rw [e]; clear e w2)
      go_meet
      exact ⟨by rw [hgc]; congr 1; apply ByteArray.ext; simp [txt], rfl⟩
  case rest =>
    obtain ⟨rfl, e⟩ := hcut
    rw [e]
    clear e wc p1 p2 p3 p4 h0 h1 h2 h3
    have hsz : (⟨(gcB f).toArray⟩ : ByteArray).size ≤ 100 := by
      show (gcB f).toArray.size ≤ 100
      have hl2 : (gcB f).length ≤ 100 := by
        unfold gcB
        cases f with
        | zero => simp
        | succ j => have := dec_len 8 j (by omega); simp; omega
      simpa using hl2
    have ha := ga_text (W := W) (R := R) (S := headB W R ++ ⟨#[117, 58, 48, 32, 116, 104, 101, 110, 32, 118, 58, 49]⟩) (by omega) (by omega) (by rw [ga_bytes]; simp)
    have hb := gb_text (k := k) (c := f) (W := W) (R := R) (S := headB W R ++ ⟨#[117, 58, 48, 32, 116, 104, 101, 110, 32, 110, 111, 116, 32]⟩ ++ txt (decL k) ++ ⟨(gcB f).toArray⟩ ++ ⟨#[32, 116, 104, 101, 110, 32, 118, 58, 49]⟩) (by omega) (by omega) (by omega) (by omega) (by rw [← gb_bytes_at (by omega) (by omega)]; simp [txt])
    have hba := many_begin (Many.start w) ha
    have hdk := fun w1 => decimal_p k (by omega) w1
    have hlh := head_size (W := W) (R := R) (by omega) (by omega)
    have hgk := decL_size (n := k) (by omega)
    have hwa := ha.well
    have hwb := hb.well
    generalize (⟨(gcB f).toArray⟩ : ByteArray) = G at *
    generalize txt (decL k) = D at *
    generalize headB W R = H at *
    have g1 : ¬ 9223372036854775807 < H.size + 13 := by omega
    have g2 : ¬ 9223372036854775807 < H.size + 13 + D.size := by omega
    have g3 : ¬ 9223372036854775807 < H.size + 13 + D.size + G.size := by omega
    have g4 : ¬ 9223372036854775807 < H.size + 13 + D.size + G.size + 9 := by omega
    have g5 : ¬ 9223372036854775807 < H.size + 12 := by omega
    go_upto_region 9 with (first
      | (go_at_call 22; refine (hh _).mono ?_; rintro x3 w3 ⟨rfl, e⟩; rw [e]; clear e w3)
      | (go_at_call 24; refine hba.mono ?_; rintro x4 w4 ⟨Ea, pa, sa, rfl, M4⟩))
    go_upto_region 12 with (first
      | (go_at_call 22; refine (hh _).mono ?_; rintro x3 w3 ⟨rfl, e⟩; rw [e]; clear e w3)
      | (go_at_call 33; refine (hdk _).mono ?_; rintro x3 w3 ⟨rfl, e⟩; rw [e]; clear e w3)
      | (go_at_call 24; refine (many_begin M4 hb).mono ?_; rintro x5 w5 ⟨Eb, pb, sb, rfl, M5⟩))
    have hev := many_events (W := W) (R := R) M5 hraw hl (by omega) ⟨hR1, by omega⟩
    have hgood := clk_good (W := W) (R := R) hl (by omega) hR1
    generalize clkEvs W R (rawN zs) = evs at *
    clear hba hb ha hdk hh M4 M5 g1 g2 g3 g4 g5 hsz hlh hgk
    go_upto_region 13 with (first
      | (go_at_call 29; refine hev.mono ?_; rintro x6 w6 ⟨ea, ec, rfl, M6⟩))
    have hwa := hwa pa sa
    have hwb := hwb pb sb
    clear hev hraw
    go_wp2
    go_loopw [19] (fun iv wr => ∃ i : Nat, i ≤ zs.length ∧ iv = .int .i64 (i : Nat) ∧ Many w wr [⟨Ea, mostP R 2, 0, ⟨W, R, pa, [[stU, stV []]], sa⟩, evs.take i⟩, ⟨Eb, mostP R 2, 0, ⟨W, R, pb, [[stU, stV [gbW k f]]], sb⟩, evs.take i⟩] (.slice ea zs.length ec) evs []) (fun iv _ => zs.length - (intOf iv).toNat)
    case atStart => exact ⟨0, Nat.zero_le _, rfl, M6⟩
    case round =>
      obtain ⟨i, hi, rfl, M⟩ := hrel
      by_cases hlt : i < zs.length
      · have hlt' : i < evs.length := by rw [hgood.len]; exact hlt
        obtain ⟨g, rfl⟩ := M.evB (by omega)
        obtain ⟨hg, c0, c1, c2, c3, c4⟩ := M.ev hlt'
        have hf := hgood.feed i hlt'
        have hlo := hgood.low i hlt'
        have hhi := hgood.high i hlt'
        have HT : Hid _ := take_next hlt'
        have Hat : Hid (∀ h, (hh : h < evs.length) → h < i + 1 → evs[h] = evAt (evs.take i ++ [evs[i]]) h) := fun h hh h1 => by
          rw [← take_next hlt', evAt_get (by rw [List.length_take]; omega), List.getElem_take]
        have HL : Hid ((evs.take i ++ [evs[i]]).length = i + 1) := by show _ = _; rw [← take_next hlt', List.length_take]; omega
        have HLn : Hid (evs.length = zs.length) := hgood.len
        obtain ⟨e, HEI⟩ : ∃ e, Hid (evs[i] = e) := ⟨evs[i], rfl⟩
        rw [HEI.out] at c0 c1 c2 c3 c4 hf hlo hhi HT Hat HL
        have hki : (i : Int) < (zs.length : Int) := by omega
        have hk0 : (0 : Int) ≤ (i : Int) := by omega
        have hi2 : (i : Int) ≤ 2000000 := by omega
        have hel : (evs.take i).length ≤ 100000000 := by rw [List.length_take]; omega
        have fa := many_feed M (i := 0) rfl hwa hel e (in64_small hlo hhi) hf
        unfold evVal at fa
        go_upto_region 17 with (go_at_call 26; refine fa.mono ?_; rintro x7 w7 ⟨Ba, xa, xc, xs, rfl, s1, m1, M7⟩)
        obtain ⟨hg7, d0, d1, d2, d3, d4⟩ := M7.ev hlt'
        have fb := many_feed M7 (i := 1) rfl hwb hel e (in64_small hlo hhi) hf
        unfold evVal at fb
        rw [HEI.out] at d0 d1 d2 d3 d4
        go_upto_region 18 with (go_at_call 26; refine fb.mono ?_; rintro x8 w8 ⟨Bb, ya, yc, ys, rfl, s2, m2, M8⟩)
        have Hys : Hid (ys.map (·.2) = (xs.map (·.2)).filter (leftB (evs.take i ++ [e]) k f)) := guarded_left s1 s2 m1 m2
        clear fa fb M7 M d0 d1 d2 d3 d4 c0 c1 c2 c3 c4 hg hg7 hf hlo hhi
        go_wp2
        generalize hP : evs.take i ++ [e] = P at *
        have LA := M8.lists (x := ⟨Ba, .slice xa xs.length xc, xs⟩) (by simp)
        have LB := M8.lists (x := ⟨Bb, .slice ya ys.length yc, ys⟩) (by simp)
        have hxl : xs.length ≤ 2000000 := by
          have := guarded_few s1 m1
          rw [HL.out, List.length_map] at this
          omega
        go_loopw [24, 25] (fun lv nv wq => ∃ n : Nat, n ≤ xs.length ∧ nv = .int .i64 (n : Nat) ∧ wq.ownsRow w8.heap.size 48 1 lv ((xs.take n).filter fun x => leftB P k f x.2).length (((xs.take n).filter fun x => leftB P k f x.2).map (·.1)) ∧ Below w8.heap.size w8 wq) (fun _ nv _ => xs.length - (intOf nv).toNat)
        case atStart => exact ⟨0, Nat.zero_le _, rfl, World.ownsRow_nil _ _ _ _, Below.refl _ _⟩
        case round =>
          obtain ⟨n, hn, rfl, hrow, hbq⟩ := hrel
          obtain ⟨la, lb, lc, rfl⟩ := row_form hrow
          by_cases hnt : n < xs.length
          · obtain ⟨u, hu, hui⟩ := guarded_shape m1 (n := n) (by simpa using hnt)
            rw [HL.out, Nat.add_sub_cancel] at hu hui
            have hx2 : xs[n].2 = [u, i] := by simpa using hu
            have LAq := LA.below hbq
            obtain ⟨gx, rfl, hgx, hcx, hix⟩ := LAq.at hnt
            obtain ⟨gu, cu, hxv, hgu, hu0, hu1⟩ := ints_two hix hx2
            have M8q := M8.below hbq
            have HEV : Hid (∀ h, (hh : h < evs.length) → g < wr.heap.size ∧ wr.cell? ⟨g, h * 5, none⟩ = some (.int .i64 evs[h].time) ∧ wr.cell? ⟨g, h * 5 + 1, none⟩ = some (.int .i64 evs[h].kind) ∧ wr.cell? ⟨g, h * 5 + 2, none⟩ = some (.int .i64 evs[h].a) ∧ wr.cell? ⟨g, h * 5 + 3, none⟩ = some (.int .i64 evs[h].b) ∧ wr.cell? ⟨g, h * 5 + 4, none⟩ = some (.int .i64 evs[h].c)) := fun h hh => M8q.ev hh
            have HF : Hid ((xs.take (n + 1)).filter (fun x => leftB P k f x.2) = (xs.take n).filter (fun x => leftB P k f x.2) ++ if frB P k f u (i - (u + 1)) then [xs[n]] else []) := by
              show _ = _
              rw [List.take_succ_eq_append_getElem hnt, List.filter_append]
              congr 1
              have e1 : leftB P k f xs[n].2 = frB P k f u (i - (u + 1)) := by
                rw [hx2]
                unfold leftB
                rw [HL.out, List.headD_cons, Nat.add_sub_cancel]
              rw [List.filter_cons, List.filter_nil]
              simp only [e1]
            rw [hxv] at hcx
            obtain ⟨xn, HXN⟩ : ∃ xn, Hid (xs[n] = xn) := ⟨xs[n], rfl⟩
            rw [HXN.out] at hxv HF
            have hul : u < evs.length := by rw [HLn.out]; omega
            have hni : (n : Int) < (xs.length : Int) := by omega
            have hn0 : (0 : Int) ≤ (n : Int) := by omega
            have hu00 : (0 : Int) ≤ (u : Int) := by omega
            have hu03 : (u : Int) ≤ 2000000 := by omega
            obtain ⟨wq, hwq⟩ : ∃ x, x = wr := ⟨_, rfl⟩
            clear hu hix hx2 LAq M8q
            go_wp2
            subst hwq
            go_loopw [26, 27] (fun fv hv wz => ∃ m : Nat, u + 1 + m ≤ i ∧ hv = .int .i64 ((u + 1 + m : Nat) : Int) ∧ fv = .bool (frB P k f u m) ∧ Below wq.heap.size wq wz) (fun _ hv _ => i - (intOf hv).toNat)
            case atStart => exact ⟨0, by omega, by go_num, rfl, Below.refl _ _⟩
            case round =>
              obtain ⟨m, hm, rfl, rfl, hbz⟩ := hrel
              by_cases hmi : u + 1 + m < i
              · have hh1 : u + 1 + m < evs.length := by rw [HLn.out]; omega
                obtain ⟨z, z0, z1, z2, z3, z4⟩ := HEV.out (u + 1 + m) hh1
                have y2 := (HEV.out u hul).2.2.2.1
                rw [Hat.out _ hh1 (by omega)] at z0 z1 z2 z3 z4
                rw [Hat.out u hul (by omega)] at y2
                have Hok : Hid (frB P k f u (m + 1) = (frB P k f u m && (!decide ((evAt P (u + 1 + m)).kind = k) || !gbT f (evAt P u) (evAt P (u + 1 + m))))) := rfl
                have z0 := (hbz.cell (p := ⟨g, (u + 1 + m) * 5, none⟩) z).trans z0
                have z1 := (hbz.cell (p := ⟨g, (u + 1 + m) * 5 + 1, none⟩) z).trans z1
                have z2 := (hbz.cell (p := ⟨g, (u + 1 + m) * 5 + 2, none⟩) z).trans z2
                have z3 := (hbz.cell (p := ⟨g, (u + 1 + m) * 5 + 3, none⟩) z).trans z3
                have z4 := (hbz.cell (p := ⟨g, (u + 1 + m) * 5 + 4, none⟩) z).trans z4
                have y2 := (hbz.cell (p := ⟨g, u * 5 + 2, none⟩) z).trans y2
                have hcx := (hbz.cell (p := ⟨gx, n, none⟩) hgx).trans hcx
                have hu0 := (hbz.cell (p := ⟨gu, 0, none⟩) hgu).trans hu0
                have hzs := hbz.size
                generalize evAt P (u + 1 + m) = v at *
                generalize evAt P u = uu at *
                have hm1 : (u + 1 + m : Nat) ≤ 2000000 := by omega
                have hmz : ((u + 1 + m : Nat) : Int) < (zs.length : Int) := by omega
                have hm0 : (0 : Int) ≤ ((u + 1 + m : Nat) : Int) := by omega
                have hmi' : ((u + 1 + m : Nat) : Int) < (i : Int) := by omega
                have huz : (u : Int) < (zs.length : Int) := by omega
                have Hm : Hid ((u + 1 + m : Nat) + 1 = u + 1 + (m + 1)) := by show _ = _; omega
                have HME : Hid (u + 1 + (m + 1) ≤ i) := by show _ ≤ _; omega
                have HMS : Hid (i - (u + 1 + (m + 1)) < i - (u + 1 + m)) := by show _ < _; omega
                generalize u + 1 + m = h at *
                clear HEV Hat HT hm hmi
                generalize frB P k f u m = fr at *
                by_cases hf0 : f = 0
                · have hfn : (f : Int) - 1 < 0 := by omega
                  have Hg : Hid (gbT f uu v = decide (v.a = uu.a)) := by show _ = _; rw [hf0]; rfl
                  have hgz : g < wr.heap.size := by omega
                  have hgxz : gx < wr.heap.size := by omega
                  have hguz : gu < wr.heap.size := by omega
                  cases fr with
                  | false =>
                    go_upto_region 33 with fail
                    go_quiet (fail)
                    go_wp2
                    go_roundw
                    case rel => exact ⟨m + 1, HME.out, by rw [← Hm.out]; go_num, by rw [Hok.out]; rfl, by first | exact hbz.alloc hzs _ | exact below_drewN (hbz.alloc hzs _)⟩
                    case measure => simp [intOf]; omega
                  | true =>
                    by_cases hkd : v.kind = k
                    · have hkd' : (v.kind != (k : Int)) = false := by simp [hkd]
                      go_upto_region 33 with fail
                      go_quiet (fail)
                      go_wp2
                      go_roundw
                      case rel => exact ⟨m + 1, HME.out, by rw [← Hm.out]; go_num, by rw [Hok.out, Hg.out]; first | (simp [hkd]; done) | (simp [hkd]; exact beq_dec _ _), by first | exact hbz.alloc hzs _ | exact below_drewN (hbz.alloc hzs _)⟩
                      case measure => simp [intOf]; omega
                    · have hkd' : (v.kind != (k : Int)) = true := by simp [hkd]
                      go_upto_region 33 with fail
                      go_quiet (fail)
                      go_wp2
                      go_roundw
                      case rel => exact ⟨m + 1, HME.out, by rw [← Hm.out]; go_num, by rw [Hok.out]; simp [hkd], by first | exact hbz.alloc hzs _ | exact below_drewN (hbz.alloc hzs _)⟩
                      case measure => simp [intOf]; omega
                · have hfn : ¬ (f : Int) - 1 < 0 := by omega
                  have Hg : Hid (gbT f uu v = decide ((f : Int) - 1 ≤ v.a)) := by
                    show _ = _
                    obtain ⟨j, rfl⟩ : ∃ j, f = j + 1 := ⟨f - 1, by omega⟩
                    unfold gbT
                    congr 1
                    simp
                  have hgz : g < wr.heap.size := by omega
                  cases fr with
                  | false =>
                    go_wp2
                    go_roundw
                    case rel => exact ⟨m + 1, HME.out, by rw [← Hm.out]; go_num, by rw [Hok.out]; rfl, by first | exact hbz.alloc hzs _ | exact below_drewN (hbz.alloc hzs _)⟩
                    case measure => simp [intOf]; omega
                  | true =>
                    by_cases hkd : v.kind = k
                    · have hkd' : (v.kind != (k : Int)) = false := by simp [hkd]
                      go_wp2
                      go_roundw
                      case rel => exact ⟨m + 1, HME.out, by rw [← Hm.out]; go_num, by rw [Hok.out, Hg.out]; first | (simp [hkd]; done) | (simp [hkd]; exact beq_dec _ _), by first | exact hbz.alloc hzs _ | exact below_drewN (hbz.alloc hzs _)⟩
                      case measure => simp [intOf]; omega
                    · have hkd' : (v.kind != (k : Int)) = true := by simp [hkd]
                      go_wp2
                      go_roundw
                      case rel => exact ⟨m + 1, HME.out, by rw [← Hm.out]; go_num, by rw [Hok.out]; simp [hkd], by first | exact hbz.alloc hzs _ | exact below_drewN (hbz.alloc hzs _)⟩
                      case measure => simp [intOf]; omega
              · have em : u + 1 + m = i := by omega
                have HF2 : Hid ((xs.take (n + 1)).filter (fun x => leftB P k f x.2) = (xs.take n).filter (fun x => leftB P k f x.2) ++ if frB P k f u m then [xn] else []) := by
                  show _ = _
                  rw [HF.out, show i - (u + 1) = m by omega]
                have hcx := (hbz.cell (p := ⟨gx, n, none⟩) hgx).trans hcx
                have hzs := hbz.size
                have hgxz : gx < wr.heap.size := by omega
                have hrow2 : wr.ownsRow w8.heap.size 48 1 (.slice la lb lc) _ _ := row_of_blk hrow (fun z hz => hbz.block z (hrow.lt z hz).2)
                have hbw : Below w8.heap.size w8 wr := hbq.trans (hbz.mono hbq.size)
                have hws := hbw.size
                have hmi' : ¬ ((u + 1 + m : Nat) : Int) < (i : Int) := by omega
                have hfl : ((xs.take n).filter fun x => leftB P k f x.2).length ≤ 2000000 := by
                  have h1 := List.length_filter_le (fun x => leftB P k f x.2) (xs.take n)
                  rw [List.length_take] at h1
                  omega
                clear HF HEV Hat hrow
                generalize u + 1 + m = h at *
                generalize frB P k f u m = fr at *
                generalize hff : (xs.take n).filter (fun x => leftB P k f x.2) = fl at *
                cases fr with
                | false =>
                  go_wp2
                  go_roundw
                  case rel => exact ⟨n + 1, hnt, by go_num, by rw [HF2.out]; simp only [Bool.false_eq_true, if_false, List.append_nil]; exact hrow2, hbw⟩
                  case measure => simp [intOf]; omega
                | true =>
                  go_wp2_with (at_builtin; refine wpList_append_lies _ rfl _ _ 40 rfl w8.heap.size 48 i0 _ 1 24 Tryz.underlying40 hi0 hz0 hz1 hz2 rfl (by decide) _ fl.length (fl.map (·.1)) (by rfl) (hrow2.alloc _) ⟨wr.heap.size, 0, none⟩ 1 1 [.slice (some ⟨gu, 0, none⟩) 2 cu] (by rfl) rfl (World.news_of_block (alloc_at _ _ _ (by simp))) (by simp [Value.oneCell']) (by decide) (by unfold maxLen; omega) (by omega) (by simp; omega) (wr.heap.size + 1) (by simp) ?_; intro g7 cap7 w7 hown7 hgrow7 hat7 hlt7)
                  go_roundw
                  case rel => exact ⟨n + 1, hnt, by go_num, by rw [HF2.out]; simp only [if_true, List.length_append, List.length_singleton, List.map_append, List.map_cons, List.map_nil, hxv]; exact hown7, below_grown (hbw.alloc hbw.size _) hgrow7 (fun z hz => (hrow2.lt z hz).1)⟩
                  case measure => simp [intOf]; omega
          · have en : n = xs.length := by omega
            subst en
            rw [List.take_length] at hrow
            have Hfm : Hid (ys.map (·.2) = ((xs.filter fun x => leftB P k f x.2)).map (·.2)) := by
              show _ = _
              rw [Hys.out, List.filter_map]
              rfl
            have hsame := same_p (w := wr) (va := .slice la lb lc) (vb := .slice ya ys.length yc) (xs := ys.map (·.2)) (by rw [Hfm.out]; exact lists_of hrow (fun x hx => (LA.below hbq).ints x (List.mem_filter.1 hx).1)) (LB.below hbq).read LB.few.1 LB.few.2
            clear hrow
            go_wp2_with (go_at_call 32; refine hsame.mono ?_; rintro x9 w9 ⟨rfl, q, hq⟩)
            go_roundw
            case rel =>
              refine ⟨i + 1, hlt, by go_num, ?_⟩
              have M9 := (M8.below hbq).below (drewN_below (w' := wr.drewN q) rfl)
              rw [HT.out]
              exact M9.drop (hs' := []) (by simp)
            case measure => simp [intOf]; omega
      · have ei : i = zs.length := by omega
        subst ei
        have hbel := M.bel
        go_wp2
        go_ret
        exact ⟨rfl, hbel⟩
end Go.Proofs.YtddbjcfdmdbmkaaGreatDoor
