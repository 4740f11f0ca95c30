import Derived.Test.YtddbjcfdmdbmkaaGreatDoorB42
import Derived.Test.YtddbjcfdmdbmkaaGreatDoorB45
import Derived.Test.YtddbjcfdmdbmkaaGreatDoorB40
import Derived.Deep.CutRange
set_option linter.unusedVariables false
set_option linter.unusedSimpArgs false
namespace Go.Proofs.YtddbjcfdmdbmkaaGreatDoor
open Go.RowKit

def soPreB (i g : Nat) : List UInt8 := if i = 0 then [] else [32, 116, 104, 101, 110, 32] ++ (match g with | 0 => [] | j + 1 => [110, 111, 116, 32] ++ (decL j ++ [32, 105, 102, 32, 105, 116, 46, 99, 32, 62, 32, 49, 32, 116, 104, 101, 110, 32]))
def soPostB (i : Nat) (me pr fi : UInt8) (q : Nat) : List UInt8 :=
  if q = 0 then [32, 105, 102, 32, 105, 116, 46, 97, 32, 62, 32, 48]
  else if i = 0 then []
  else if q = 1 then [32, 105, 102, 32] ++ ([me] ++ ([46, 97, 32, 62, 61, 32] ++ ([pr] ++ [46, 97, 32, 111, 114, 32, 105, 116, 46, 98, 32, 61, 32, 48])))
  else if q = 2 then [32, 105, 102, 32] ++ ([fi] ++ ([46, 98, 32, 43, 32, 105, 116, 46, 98, 32, 33, 61, 32, 50, 32, 97, 110, 100, 32, 105, 116, 46, 116, 32, 62, 32] ++ ([fi] ++ [46, 116])))
  else []
theorem so_post (i : Nat) (me pr fi : UInt8) (q : Nat) : layL (soC i me pr fi q) = soPostB i me pr fi q := by
  unfold soC soPostB
  split
  · rfl
  split
  · rfl
  split
  · rfl
  split
  · rfl
  · rfl
theorem so_one (fr i : Nat) (o : SO) (hi : i ≠ 0) : layL (soT fr i [o]) = soPreB i o.g ++ ([nameB (fr + i)] ++ ([58] ++ (decL o.k ++ soPostB i (nameB (fr + i)) (nameB (fr + i - 1)) (nameB fr) o.q))) := by
  unfold soT soT soL soPreB
  rw [if_neg hi, lay_app]
  show layL (soGT o.g) ++ layL (thenPc :: (stepPc [32] (nameB (fr + i)) (decL o.k) ++ soC i _ _ _ o.q ++ [])) = _
  rw [List.append_nil, ← so_post]
  cases o.g with
  | zero => simp [soGT, layL, thenPc, stepPc, lay_app]
  | succ j => simp [soGT, soG, layL, thenPc, stepPc, lay_app, ifPc, itPc]
theorem so_snocB (fr : Nat) (os : List SO) (o : SO) : layL (soSeq [] fr (os ++ [o])) = layL (soSeq [] fr os) ++ (soPreB os.length o.g ++ ([nameB (fr + os.length)] ++ ([58] ++ (decL o.k ++ soPostB os.length (nameB (fr + os.length)) (nameB (fr + os.length - 1)) (nameB fr) o.q)))) := by
  cases os with
  | nil =>
    show layL (soL [] 0 (nameB fr) (nameB (fr - 1)) (nameB fr) o ++ []) = [] ++ _
    rw [List.append_nil]
    unfold soL
    rw [lay_app, so_post]
    simp [layL, stepPc, soPreB]
  | cons a os =>
    show layL (soL [] 0 (nameB fr) (nameB (fr - 1)) (nameB fr) a ++ soT fr 1 (os ++ [o])) = layL (soL [] 0 (nameB fr) (nameB (fr - 1)) (nameB fr) a ++ soT fr 1 os) ++ _
    rw [soT_snoc, ← List.append_assoc, lay_app, so_one _ _ _ (by omega), show 1 + os.length = (a :: os).length by simp; omega]
def soOf (c : Nat) : SO := ⟨c % 3, if c / 20 % 5 ≤ 2 then c / 20 % 5 else 3, if c % 7 = 0 then c / 7 % 3 + 1 else 0⟩
def soOs (zs : List Int) (n : Nat) : List SO := (List.range n).map fun i => soOf (pickP (zs.getD i 0) 1000)
theorem so_okOf (c : Nat) : (soOf c).k ≤ 2 ∧ (soOf c).q ≤ 3 ∧ (soOf c).g ≤ 3 := by
  unfold soOf
  refine ⟨?_, ?_, ?_⟩
  · show c % 3 ≤ 2; omega
  · show (if c / 20 % 5 ≤ 2 then c / 20 % 5 else 3) ≤ 3
    split <;> omega
  · show (if c % 7 = 0 then c / 7 % 3 + 1 else 0) ≤ 3
    split <;> omega
theorem soOs_ok (zs : List Int) (n : Nat) : SoOK (soOs zs n) := by
  intro o ho
  obtain ⟨i, _, rfl⟩ := List.mem_map.1 ho
  exact so_okOf _
theorem soOs_len (zs : List Int) (n : Nat) : (soOs zs n).length = n := by unfold soOs; simp
theorem soOs_succ (zs : List Int) (n : Nat) : soOs zs (n + 1) = soOs zs n ++ [soOf (pickP (zs.getD n 0) 1000)] := by
  unfold soOs
  rw [List.range_succ, List.map_append]
  rfl
def stepsB (zs : List Int) (fr n : Nat) : List UInt8 := layL (soSeq [] fr (soOs zs n))
theorem steps_succ (zs : List Int) (fr n : Nat) : stepsB zs fr (n + 1) = stepsB zs fr n ++ (soPreB n (soOf (pickP (zs.getD n 0) 1000)).g ++ ([nameB (fr + n)] ++ ([58] ++ (decL (soOf (pickP (zs.getD n 0) 1000)).k ++ soPostB n (nameB (fr + n)) (nameB (fr + n - 1)) (nameB fr) (soOf (pickP (zs.getD n 0) 1000)).q)))) := by
  unfold stepsB
  rw [soOs_succ, so_snocB, soOs_len]
theorem steps_len {zs : List Int} {fr n : Nat} (hf : fr ≤ 3) (hn : n ≤ 4) (hl : fr + n ≤ 6) : (stepsB zs fr n).length ≤ 280 := by
  cases n with
  | zero => simp [stepsB, soOs, soSeq, layL]
  | succ n =>
    have h := (so_all (nb := 0) hf (soOs_ok zs (n + 1)) (by intro h; have := soOs_len zs (n + 1); rw [h] at this; simp at this) (by rw [soOs_len]; omega) (by rw [soOs_len]; omega) (by simp [nbs])).2.2.2.1
    rw [soOs_len] at h
    unfold stepsB
    omega
theorem soPre_len (i c : Nat) : (soPreB i (soOf c).g).length ≤ 40 := by
  have hg := (so_okOf c).2.2
  generalize (soOf c).g = g at *
  unfold soPreB
  split
  · simp
  · cases g with
    | zero => simp
    | succ j =>
      have := dec_len 8 j (by omega)
      simp
      omega
set_option maxRecDepth 100000 in
theorem numberK_p {w : World} {v : Value} {zs : List Int} (h : RawAt w v zs) (i : Nat) (hi : i ≤ 1000) : Calls Tryz.prog 50 #[v, .int .i64 (i : Nat)] w fun x w' => x = .returned (.int .i64 (zs.getD i 0)) ∧ w' = w := by
  obtain ⟨⟨a, c, rfl, hc⟩, _⟩ := h
  by_cases hlt : i < zs.length
  · obtain ⟨p, rfl, hp, hk⟩ := hc (by omega)
    have hcell := hk i hlt
    have e : zs.getD i 0 = zs[i] := by simp [List.getD, hlt]
    rw [e]
    generalize zs[i] = z at *
    have h1 : ¬ (zs.length : Int) ≤ (i : Int) := by omega
    have h2 : (i : Int) < (zs.length : Int) := by omega
    have h3 : (0 : Int) ≤ (i : Int) := by omega
    clear hk hc
    go_enter Tryz.func50, Tryz.ntmps50
    go_wp2
    go_ret
    exact ⟨rfl, rfl⟩
  · have e : zs.getD i 0 = 0 := by simp [List.getD, hlt]
    rw [e]
    have h1 : (zs.length : Int) ≤ (i : Int) := by omega
    clear hc
    go_enter Tryz.func50, Tryz.ntmps50
    go_wp2
    go_ret
    exact ⟨rfl, rfl⟩
theorem getD_in64 {w : World} {v : Value} {zs : List Int} (h : RawAt w v zs) (i : Nat) : In64 (zs.getD i 0) := by
  by_cases hlt : i < zs.length
  · have e : zs.getD i 0 = zs[i] := by simp [List.getD, hlt]
    rw [e]; exact h.in64 _ (List.getElem_mem hlt)
  · have e : zs.getD i 0 = 0 := by simp [List.getD, hlt]
    rw [e]; unfold In64; omega
end Go.Proofs.YtddbjcfdmdbmkaaGreatDoor

namespace Go.Proofs.YtddbjcfdmdbmkaaGreatDoor
open Go.RowKit

theorem str_ext {a b : ByteArray} (h : a.data.toList = b.data.toList) : a = b := by
  apply ByteArray.ext
  exact Array.ext' h
set_option maxRecDepth 100000 in
set_option maxHeartbeats 3200000 in
theorem steps_p {w : World} {rv : Value} {zs : List Int} (hraw : RawAt w rv zs) (n fr : Nat) (hn : n ≤ 4) (hf : fr ≤ 3) (hl : fr + n ≤ 6) :
    Calls Tryz.prog 28 #[rv, .int .i64 (n : Nat), .int .i64 (fr : Nat)] w fun x w' => ∃ S : ByteArray, x = .returned (.string S) ∧ S.data.toList = stepsB zs fr n ∧ Below w.heap.size w w' := by
  obtain ⟨va, vc, hrv, _⟩ := hraw.form
  subst hrv
  go_enter Tryz.func28, Tryz.ntmps28
  go_wp2
  go_loopw [7, 8] (fun sv iv wr => ∃ (i : Nat) (B : ByteArray), i ≤ n ∧ sv = .string B ∧ iv = .int .i64 (i : Nat) ∧ B.data.toList = stepsB zs fr i ∧ Below w.heap.size w wr) (fun _ iv _ => n - (intOf iv).toNat)
  case atStart => exact ⟨0, ⟨#[]⟩, Nat.zero_le _, rfl, rfl, rfl, Below.refl _ _⟩
  case round =>
    obtain ⟨i, B, hi, rfl, rfl, hB, hbel⟩ := hrel
    have hBl : B.size ≤ 280 := by
      have h1 : B.size = B.data.toList.length := by simp
      rw [h1, hB]
      exact steps_len hf (by omega) (by omega)
    by_cases hlt : i < n
    · have hni : (i : Int) < (n : Int) := by omega
      have hnum := numberK_p (hraw.to hbel) i (by omega)
      have hpk := fun w1 => pick_p (zs.getD i 0) 1000 (getD_in64 hraw i) (by omega) (by omega) w1
      have hck := pick_lt (zs.getD i 0) (show 0 < 1000 by omega)
      have HS : Hid _ := steps_succ zs fr i
      generalize pickP (zs.getD i 0) 1000 = c at *
      generalize zs.getD i 0 = z at *
      simp only [Int.cast_ofNat_Int] at hpk
      have hme := fun w1 => name_p (fr + i) (by omega) w1
      have e1 : ((fr + i : Nat) : Int) = (fr : Int) + (i : Int) := by omega
      rw [e1] at hme
      have hd1 := fun w1 => decimal_p (c % 3) (by omega) w1
      have e2 : ((c % 3 : Nat) : Int) = (c : Int) % 3 := by omega
      rw [e2] at hd1
      have hs1 := decL_size (n := c % 3) (by omega)
      clear e1 e2
      go_upto_region 6 with (first
        | (go_at_call 50; refine hnum.mono ?_; rintro x1 w1 ⟨rfl, e⟩; rw [e]; clear e w1)
        | (go_at_call 21; refine (hpk _).mono ?_; rintro x1 w1 ⟨rfl, e⟩; rw [e]; clear e w1))
      go_upto_if 21 with fail
      go_cut [7] from 11 to 83 (fun sv wx => ∃ B1 : ByteArray, sv = .string B1 ∧ B1.data.toList = stepsB zs fr i ++ soPreB i (soOf c).g ∧ wx = wr)
      case first =>
        by_cases hi0 : i = 0
        · have hi' : ¬ (0 : Int) < (i : Int) := by omega
          have HI : Hid (stepsB zs fr i = stepsB zs fr i ++ soPreB i (soOf c).g) := by
            show _ = _
            unfold soPreB
            rw [if_pos hi0, List.append_nil]
          clear hi0
          go_wp2
          go_meet
          exact ⟨B, rfl, by rw [← HI.out]; exact hB, rfl⟩
        · have hi' : (0 : Int) < (i : Int) := by omega
          have g1 : ¬ 9223372036854775807 < B.size + 6 := by omega
          by_cases hc7 : c % 7 = 0
          · have hc7' : (c : Int) % 7 = 0 := by omega
            have hd2 := fun w1 => decimal_p (c / 7 % 3) (by omega) w1
            have e2 : ((c / 7 % 3 : Nat) : Int) = (c : Int) / 7 % 3 := by omega
            rw [e2] at hd2
            clear e2
            have hs2 := decL_size (n := c / 7 % 3) (by omega)
            have eD : (txt (decL (c / 7 % 3))).data.toList = decL (c / 7 % 3) := by unfold txt; simp
            generalize txt (decL (c / 7 % 3)) = D at *
            have g2 : ¬ 9223372036854775807 < B.size + 6 + 4 := by omega
            have g3 : ¬ 9223372036854775807 < B.size + 6 + 4 + D.size := by omega
            have g4 : ¬ 9223372036854775807 < B.size + 6 + 4 + D.size + 18 := by omega
            go_wp2_with (go_at_call 33; refine (hd2 _).mono ?_; rintro x1 w1 ⟨rfl, e⟩; rw [e]; clear e w1)
            go_meet
            refine ⟨_, rfl, ?_, rfl⟩
            · have eg : (soOf c).g = c / 7 % 3 + 1 := by unfold soOf; simp [hc7]
              rw [eg]
              unfold soPreB
              rw [if_neg hi0]
              simp [hB, eD]
          · have hc7' : ((c : Int) % 7 == 0) = false := beq_eq_false_iff_ne.2 (by omega)
            go_wp2
            go_meet
            refine ⟨_, rfl, ?_, rfl⟩
            · have eg : (soOf c).g = 0 := by unfold soOf; simp [hc7]
              rw [eg]
              unfold soPreB
              rw [if_neg hi0]
              simp [hB]
      case rest =>
        obtain ⟨B1, rfl, hB1, e⟩ := hcut
        have hB1s : B1.size ≤ 320 := by
          have h1 : B1.size = B1.data.toList.length := by simp
          have h2 := soPre_len i c
          have h3 := steps_len (zs := zs) hf (show i ≤ 4 by omega) (by omega)
          rw [h1, hB1, List.length_append]
          omega
        rw [e]
        clear e wc hnum hpk
        have eD : (txt (decL (c % 3))).data.toList = decL (c % 3) := by unfold txt; simp
        generalize hDe : txt (decL (c % 3)) = D at *
        have ts : ∀ b : UInt8, (txt [b]).size = 1 := fun _ => rfl
        have tm := ts (nameB (fr + i))
        have tp := ts (nameB (fr + i - 1))
        have tf := ts (nameB fr)
        have em : (txt [nameB (fr + i)]).data.toList = [nameB (fr + i)] := rfl
        have ep : (txt [nameB (fr + i - 1)]).data.toList = [nameB (fr + i - 1)] := rfl
        have ef : (txt [nameB fr]).data.toList = [nameB fr] := rfl
        clear ts hDe
        generalize txt [nameB (fr + i)] = ME at *
        have g1 : ¬ 9223372036854775807 < B1.size + ME.size := by omega
        have g2 : ¬ 9223372036854775807 < B1.size + ME.size + 1 := by omega
        have g3 : ¬ 9223372036854775807 < B1.size + ME.size + 1 + D.size := by omega
        go_upto_region 11 with (go_at_call 23; refine (hme _).mono ?_; rintro x1 w1 ⟨rfl, hb1⟩)
        go_upto_region 12 with (go_at_call 33; refine (hd1 _).mono ?_; rintro x2 w2 ⟨rfl, e⟩; rw [e]; clear e w2)
        have Hk : Hid ((soOf c).k = c % 3) := rfl
        have hq5 : c / 20 % 5 = 0 ∨ c / 20 % 5 = 1 ∨ c / 20 % 5 = 2 ∨ c / 20 % 5 = 3 ∨ c / 20 % 5 = 4 := by omega
        rcases hq5 with hq | hq | hq | hq | hq
        · have hq' : (c : Int) / 20 % 5 = 0 := by omega
          have g4 : ¬ 9223372036854775807 < B1.size + ME.size + 1 + D.size + 12 := by omega
          have Hq : Hid ((soOf c).q = 0) := by show _ = _; unfold soOf; simp [hq]
          clear hq
          go_wp2
          go_roundw
          case rel =>
            refine ⟨i + 1, _, hlt, rfl, by go_num, ?_, hbel.trans (hb1.mono hbel.size)⟩
            rw [HS.out, Hq.out]
            unfold soPostB
            simp [hB1, em, eD, Hk.out]
          case measure => simp [intOf]; omega
        · have hq' : (c : Int) / 20 % 5 = 1 := by omega
          have Hq : Hid ((soOf c).q = 1) := by show _ = _; unfold soOf; simp [hq]
          clear hq
          by_cases hi0 : i = 0
          · have hi' : ¬ (0 : Int) < (i : Int) := by omega
            have HI : Hid (soPostB i (nameB (fr + i)) (nameB (fr + i - 1)) (nameB fr) 1 = []) := by show _ = _; unfold soPostB; simp [hi0]
            clear hi0
            go_wp2
            go_roundw
            case rel =>
              refine ⟨i + 1, _, hlt, rfl, by go_num, ?_, hbel.trans (hb1.mono hbel.size)⟩
              rw [HS.out, Hq.out, HI.out]
              simp [hB1, em, eD, Hk.out]
            case measure => simp [intOf]; omega
          · have hi' : (0 : Int) < (i : Int) := by omega
            have g4 : ¬ 9223372036854775807 < B1.size + ME.size + 1 + D.size + 4 := by omega
            have g5 : ¬ 9223372036854775807 < B1.size + ME.size + 1 + D.size + 4 + ME.size := by omega
            have g6 : ¬ 9223372036854775807 < B1.size + ME.size + 1 + D.size + 4 + ME.size + 6 := by omega
            have hpr := fun w1 => name_p (fr + i - 1) (by omega) w1
            have e1 : ((fr + i - 1 : Nat) : Int) = (fr : Int) + (i : Int) - 1 := by omega
            rw [e1] at hpr
            clear e1
            generalize txt [nameB (fr + i - 1)] = PR at *
            have g7 : ¬ 9223372036854775807 < B1.size + ME.size + 1 + D.size + 4 + ME.size + 6 + PR.size := by omega
            have g8 : ¬ 9223372036854775807 < B1.size + ME.size + 1 + D.size + 4 + ME.size + 6 + PR.size + 14 := by omega
            go_wp2_with (go_at_call 23; refine (hpr _).mono ?_; rintro x3 w3 ⟨rfl, hb3⟩)
            go_roundw
            case rel =>
              refine ⟨i + 1, _, hlt, rfl, by go_num, ?_, (hbel.trans (hb1.mono hbel.size)).trans (hb3.mono (Nat.le_trans hbel.size hb1.size))⟩
              rw [HS.out, Hq.out]
              unfold soPostB
              simp [hB1, em, ep, ef, eD, Hk.out, hi0]
            case measure => simp [intOf]; omega
        · have hq' : (c : Int) / 20 % 5 = 2 := by omega
          have Hq : Hid ((soOf c).q = 2) := by show _ = _; unfold soOf; simp [hq]
          clear hq
          by_cases hi0 : i = 0
          · have hi' : ¬ (0 : Int) < (i : Int) := by omega
            have HI : Hid (soPostB i (nameB (fr + i)) (nameB (fr + i - 1)) (nameB fr) 2 = []) := by show _ = _; unfold soPostB; simp [hi0]
            clear hi0
            go_wp2
            go_roundw
            case rel =>
              refine ⟨i + 1, _, hlt, rfl, by go_num, ?_, hbel.trans (hb1.mono hbel.size)⟩
              rw [HS.out, Hq.out, HI.out]
              simp [hB1, em, eD, Hk.out]
            case measure => simp [intOf]; omega
          · have hi' : (0 : Int) < (i : Int) := by omega
            have g4 : ¬ 9223372036854775807 < B1.size + ME.size + 1 + D.size + 4 := by omega
            have hfi := fun w1 => name_p fr (by omega) w1
            generalize txt [nameB fr] = FI at *
            have g5 : ¬ 9223372036854775807 < B1.size + ME.size + 1 + D.size + 4 + FI.size := by omega
            have g6 : ¬ 9223372036854775807 < B1.size + ME.size + 1 + D.size + 4 + FI.size + 26 := by omega
            have g7 : ¬ 9223372036854775807 < B1.size + ME.size + 1 + D.size + 4 + FI.size + 26 + FI.size := by omega
            have g8 : ¬ 9223372036854775807 < B1.size + ME.size + 1 + D.size + 4 + FI.size + 26 + FI.size + 2 := by omega
            go_wp2_with (first
              | (go_at_call 23; refine (hfi _).mono ?_; rintro x3 w3 ⟨rfl, hb3⟩; have HB3 : Hid (Below w.heap.size w w3) := (by first | exact HB3.out.trans (hb3.mono HB3.out.size) | exact (hbel.trans (hb1.mono hbel.size)).trans (hb3.mono (Nat.le_trans hbel.size hb1.size)))))
            go_roundw
            case rel =>
              refine ⟨i + 1, _, hlt, rfl, by go_num, ?_, HB3.out⟩
              rw [HS.out, Hq.out]
              unfold soPostB
              simp [hB1, em, ep, ef, eD, Hk.out, hi0]
            case measure => simp [intOf]; omega
        · have hq' : (c : Int) / 20 % 5 = 3 := by omega
          have Hq : Hid ((soOf c).q = 3) := by show _ = _; unfold soOf; simp [hq]
          clear hq
          go_wp2
          go_roundw
          case rel =>
            refine ⟨i + 1, _, hlt, rfl, by go_num, ?_, hbel.trans (hb1.mono hbel.size)⟩
            rw [HS.out, Hq.out]
            unfold soPostB
            simp [hB1, em, eD, Hk.out]
          case measure => simp [intOf]; omega
        · have hq' : (c : Int) / 20 % 5 = 4 := by omega
          have Hq : Hid ((soOf c).q = 3) := by show _ = _; unfold soOf; simp [hq]
          clear hq
          go_wp2
          go_roundw
          case rel =>
            refine ⟨i + 1, _, hlt, rfl, by go_num, ?_, hbel.trans (hb1.mono hbel.size)⟩
            rw [HS.out, Hq.out]
            unfold soPostB
            simp [hB1, em, eD, Hk.out]
          case measure => simp [intOf]; omega
    · have ei : i = n := by omega
      subst ei
      have hni : ¬ (i : Int) < (i : Int) := by omega
      go_wp2
      go_ret
      exact ⟨B, rfl, hB, hbel⟩
end Go.Proofs.YtddbjcfdmdbmkaaGreatDoor
