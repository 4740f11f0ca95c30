import Derived.Test.YtddbjcfdmdbmkaaGreatDoorB06
import Derived.Test.YtddbjcfdmdbmkaaGreatDoorB07
import Derived.Test.YtddbjcfdmdbmkaaGreatDoorB04
set_option linter.unusedVariables false
set_option linter.unusedSimpArgs false
namespace Go.Proofs.YtddbjcfdmdbmkaaGreatDoor
open Go.RowKit

theorem ret_two {a b c d : Int} (h : a = c) (k : b = d) : Ending.returned (.tuple #[.int .i64 a, .int .i64 b]) = .returned (.tuple #[.int .i64 c, .int .i64 d]) := by rw [h, k]

set_option maxHeartbeats 400000 in
theorem number_scan (r : ByteArray) (w : World) (hs : r.size ≤ 1000000) :
    Calls Tryz.prog 128 #[.string r] w fun e w' => e = .returned (.tuple #[.int .i64 (numberP r).1, .int .i64 (numberP r).2]) ∧ w' = w := by
  have hle := spanP_le isDigitB r
  by_cases h9 : 9 < spanP isDigitB r
  · have HN : Hid (numberP r = (0, spanP isDigitB r)) := by show _ = _; unfold numberP; rw [if_pos h9]
    have h9' : (9 : Int) < (spanP isDigitB r : Int) := by omega
    go_enter Tryz.func128, Tryz.ntmps128
    go_wp2_with (go_at_call 79; refine (span_any class_digit r _ hs).mono ?_; rintro e w' ⟨rfl, rfl⟩)
    go_ret2
    rw [HN.out]; exact ⟨rfl, rfl⟩
  · have HN : Hid (numberP r = (2, spanP isDigitB r)) := by show _ = _; unfold numberP; rw [if_neg h9]
    have h9' : ¬ (9 : Int) < (spanP isDigitB r : Int) := by omega
    go_enter Tryz.func128, Tryz.ntmps128
    go_wp2_with (go_at_call 79; refine (span_any class_digit r _ hs).mono ?_; rintro e w' ⟨rfl, rfl⟩)
    go_ret2
    rw [HN.out]; exact ⟨rfl, rfl⟩

theorem isResv_eq (t : ByteArray) : isResv t = (t.toList == [119, 105, 116, 104, 105, 110] || t.toList == [114, 97, 116, 101] || t.toList == [116, 104, 101, 110] || t.toList == [110, 111, 116] || t.toList == [105, 102] || t.toList == [116, 105, 109, 101, 115] || t.toList == [97, 110, 100] || t.toList == [111, 114] || t.toList == [105, 116]) := by
  simp only [isResv, resv, toList_data, List.any_cons, List.any_nil, Bool.or_false, Bool.or_assoc]
theorem isResv_0 {t : ByteArray} (h : (t.toList == [119, 105, 116, 104, 105, 110]) = true) : isResv t = true := by rw [isResv_eq, h]; simp
theorem isResv_1 {t : ByteArray} (h : (t.toList == [114, 97, 116, 101]) = true) : isResv t = true := by rw [isResv_eq, h]; simp
theorem isResv_2 {t : ByteArray} (h : (t.toList == [116, 104, 101, 110]) = true) : isResv t = true := by rw [isResv_eq, h]; simp
theorem isResv_3 {t : ByteArray} (h : (t.toList == [110, 111, 116]) = true) : isResv t = true := by rw [isResv_eq, h]; simp
theorem isResv_4 {t : ByteArray} (h : (t.toList == [105, 102]) = true) : isResv t = true := by rw [isResv_eq, h]; simp
theorem isResv_5 {t : ByteArray} (h : (t.toList == [116, 105, 109, 101, 115]) = true) : isResv t = true := by rw [isResv_eq, h]; simp
theorem isResv_6 {t : ByteArray} (h : (t.toList == [97, 110, 100]) = true) : isResv t = true := by rw [isResv_eq, h]; simp
theorem isResv_7 {t : ByteArray} (h : (t.toList == [111, 114]) = true) : isResv t = true := by rw [isResv_eq, h]; simp
theorem isResv_8 {t : ByteArray} (h : (t.toList == [105, 116]) = true) : isResv t = true := by rw [isResv_eq, h]; simp
theorem isResv_no {t : ByteArray} (h0 : (t.toList == [119, 105, 116, 104, 105, 110]) = false) (h1 : (t.toList == [114, 97, 116, 101]) = false) (h2 : (t.toList == [116, 104, 101, 110]) = false) (h3 : (t.toList == [110, 111, 116]) = false) (h4 : (t.toList == [105, 102]) = false) (h5 : (t.toList == [116, 105, 109, 101, 115]) = false) (h6 : (t.toList == [97, 110, 100]) = false) (h7 : (t.toList == [111, 114]) = false) (h8 : (t.toList == [105, 116]) = false) : ¬ isResv t = true := by rw [isResv_eq, h0, h1, h2, h3, h4, h5, h6, h7, h8]; decide
set_option maxHeartbeats 400000 in
theorem word_scan (r : ByteArray) (w : World) (hs : r.size ≤ 1000000) :
    Calls Tryz.prog 126 #[.string r] w fun e w' => e = .returned (.tuple #[.int .i64 (wordP r).1, .int .i64 (wordP r).2]) ∧ w' = w := by
  have hle := spanP_le isSmallB r
  have HN : Hid (wordP r = if isResv (r.extract 0 (spanP isSmallB r)) then (4, spanP isSmallB r) else if 8 < spanP isSmallB r then (0, spanP isSmallB r) else (3, spanP isSmallB r)) := rfl
  go_enter Tryz.func126, Tryz.ntmps126
  go_wp2_with (go_at_call 79; refine (span_any class_letter r _ hs).mono ?_; rintro e w' ⟨rfl, rfl⟩)
  all_goals
    go_ret2
    refine ⟨?_, rfl⟩
    first
      | exact absurd (‹((r.extract 0 (spanP isSmallB r)).toList == [119, 105, 116, 104, 105, 110]) = true›.symm.trans ‹((r.extract 0 (spanP isSmallB r)).toList == [119, 105, 116, 104, 105, 110]) = false›) (by decide)
      | exact absurd (‹((r.extract 0 (spanP isSmallB r)).toList == [114, 97, 116, 101]) = true›.symm.trans ‹((r.extract 0 (spanP isSmallB r)).toList == [114, 97, 116, 101]) = false›) (by decide)
      | exact absurd (‹((r.extract 0 (spanP isSmallB r)).toList == [116, 104, 101, 110]) = true›.symm.trans ‹((r.extract 0 (spanP isSmallB r)).toList == [116, 104, 101, 110]) = false›) (by decide)
      | exact absurd (‹((r.extract 0 (spanP isSmallB r)).toList == [110, 111, 116]) = true›.symm.trans ‹((r.extract 0 (spanP isSmallB r)).toList == [110, 111, 116]) = false›) (by decide)
      | exact absurd (‹((r.extract 0 (spanP isSmallB r)).toList == [105, 102]) = true›.symm.trans ‹((r.extract 0 (spanP isSmallB r)).toList == [105, 102]) = false›) (by decide)
      | exact absurd (‹((r.extract 0 (spanP isSmallB r)).toList == [116, 105, 109, 101, 115]) = true›.symm.trans ‹((r.extract 0 (spanP isSmallB r)).toList == [116, 105, 109, 101, 115]) = false›) (by decide)
      | exact absurd (‹((r.extract 0 (spanP isSmallB r)).toList == [97, 110, 100]) = true›.symm.trans ‹((r.extract 0 (spanP isSmallB r)).toList == [97, 110, 100]) = false›) (by decide)
      | exact absurd (‹((r.extract 0 (spanP isSmallB r)).toList == [111, 114]) = true›.symm.trans ‹((r.extract 0 (spanP isSmallB r)).toList == [111, 114]) = false›) (by decide)
      | exact absurd (‹((r.extract 0 (spanP isSmallB r)).toList == [105, 116]) = true›.symm.trans ‹((r.extract 0 (spanP isSmallB r)).toList == [105, 116]) = false›) (by decide)
      | (rw [HN.out, if_pos (isResv_0 ‹((r.extract 0 (spanP isSmallB r)).toList == [119, 105, 116, 104, 105, 110]) = true›)]; rfl)
      | (rw [HN.out, if_pos (isResv_1 ‹((r.extract 0 (spanP isSmallB r)).toList == [114, 97, 116, 101]) = true›)]; rfl)
      | (rw [HN.out, if_pos (isResv_2 ‹((r.extract 0 (spanP isSmallB r)).toList == [116, 104, 101, 110]) = true›)]; rfl)
      | (rw [HN.out, if_pos (isResv_3 ‹((r.extract 0 (spanP isSmallB r)).toList == [110, 111, 116]) = true›)]; rfl)
      | (rw [HN.out, if_pos (isResv_4 ‹((r.extract 0 (spanP isSmallB r)).toList == [105, 102]) = true›)]; rfl)
      | (rw [HN.out, if_pos (isResv_5 ‹((r.extract 0 (spanP isSmallB r)).toList == [116, 105, 109, 101, 115]) = true›)]; rfl)
      | (rw [HN.out, if_pos (isResv_6 ‹((r.extract 0 (spanP isSmallB r)).toList == [97, 110, 100]) = true›)]; rfl)
      | (rw [HN.out, if_pos (isResv_7 ‹((r.extract 0 (spanP isSmallB r)).toList == [111, 114]) = true›)]; rfl)
      | (rw [HN.out, if_pos (isResv_8 ‹((r.extract 0 (spanP isSmallB r)).toList == [105, 116]) = true›)]; rfl)
      | (have h8 : (8 : Int) < (spanP isSmallB r : Int) := by assumption
         rw [HN.out, if_neg (isResv_no ‹((r.extract 0 (spanP isSmallB r)).toList == [119, 105, 116, 104, 105, 110]) = false› ‹((r.extract 0 (spanP isSmallB r)).toList == [114, 97, 116, 101]) = false› ‹((r.extract 0 (spanP isSmallB r)).toList == [116, 104, 101, 110]) = false› ‹((r.extract 0 (spanP isSmallB r)).toList == [110, 111, 116]) = false› ‹((r.extract 0 (spanP isSmallB r)).toList == [105, 102]) = false› ‹((r.extract 0 (spanP isSmallB r)).toList == [116, 105, 109, 101, 115]) = false› ‹((r.extract 0 (spanP isSmallB r)).toList == [97, 110, 100]) = false› ‹((r.extract 0 (spanP isSmallB r)).toList == [111, 114]) = false› ‹((r.extract 0 (spanP isSmallB r)).toList == [105, 116]) = false›), if_pos (by omega)]; rfl)
      | (have h8 : (spanP isSmallB r : Int) ≤ 8 := by assumption
         rw [HN.out, if_neg (isResv_no ‹((r.extract 0 (spanP isSmallB r)).toList == [119, 105, 116, 104, 105, 110]) = false› ‹((r.extract 0 (spanP isSmallB r)).toList == [114, 97, 116, 101]) = false› ‹((r.extract 0 (spanP isSmallB r)).toList == [116, 104, 101, 110]) = false› ‹((r.extract 0 (spanP isSmallB r)).toList == [110, 111, 116]) = false› ‹((r.extract 0 (spanP isSmallB r)).toList == [105, 102]) = false› ‹((r.extract 0 (spanP isSmallB r)).toList == [116, 105, 109, 101, 115]) = false› ‹((r.extract 0 (spanP isSmallB r)).toList == [97, 110, 100]) = false› ‹((r.extract 0 (spanP isSmallB r)).toList == [111, 114]) = false› ‹((r.extract 0 (spanP isSmallB r)).toList == [105, 116]) = false›), if_neg (by omega)]; rfl)
end Go.Proofs.YtddbjcfdmdbmkaaGreatDoor

namespace Go.Proofs.YtddbjcfdmdbmkaaGreatDoor
open Go.RowKit

theorem hasPrefix_any (s p : ByteArray) (w : World) : Calls Tryz.prog 124 #[.string s, .string p] w fun e w' => e = .returned (.bool (Lib.hasPrefix s.data.toList p.data.toList)) ∧ w' = w :=
  Any.strings_HasPrefix Tryz.lays99 s p w
theorem idx_mem (l : List UInt8) (c : UInt8) : decide ((0 : Int) ≤ Lib.indexByte l c) = memB c l := by
  induction l with
  | nil => rfl
  | cons b l ih =>
    have hge := Lib.indexByte_ge l c
    unfold Lib.indexByte memB
    rw [List.any_cons]
    by_cases h : (b == c) = true
    · rw [if_pos h, h]; rfl
    · rw [if_neg h, Bool.not_eq_true] at *
      rw [h, Bool.false_or]
      unfold memB at ih
      rw [← ih]
      split
      · rename_i he
        have : Lib.indexByte l c = -1 := by simpa using he
        rw [this]
      · rename_i he
        have : Lib.indexByte l c ≠ -1 := by simpa using he
        rw [decide_eq_decide]; omega
def signIdx (c : UInt8) : Int := Lib.indexByte signsP c
theorem signIdx_mem (c : UInt8) : decide ((0 : Int) ≤ signIdx c) = memB c signsP := idx_mem _ _
theorem signs_any (c : UInt8) (w : World) : Calls Tryz.prog 129 #[.string ⟨#[40, 41, 124, 58, 46, 43, 45, 42, 47, 61]⟩, .int .u8 c.toNat] w fun e w' => e = .returned (.int .i64 (signIdx c)) ∧ w' = w := by
  have h := Any.strings_IndexByte Tryz.lays137 ⟨#[40, 41, 124, 58, 46, 43, 45, 42, 47, 61]⟩ c.toNat w
  have e : ((c.toNat : Int)).toNat.toUInt8 = c := by simp
  rw [e] at h
  exact h
theorem list_len (r : ByteArray) : r.toList.length = r.size := by rw [toList_data]; simp
theorem list_nil {r : ByteArray} (h : r.size = 0) : (r.toList == []) = true := by
  rw [List.eq_nil_of_length_eq_zero ((list_len r).trans h)]; rfl
theorem list_cons {r : ByteArray} (h : ¬ r.size = 0) : (r.toList == []) = false := by
  rw [beq_eq_false_iff_ne]; intro e; have := list_len r; rw [e] at this; exact h this.symm
theorem longer_eq (r : ByteArray) (h : 0 < r.size) : Lib.hasPrefix (r.extract 1 r.size).data.toList [61] = longerP r := by
  rw [ex_list]
  unfold longerP Lib.hasPrefix
  by_cases h1 : 1 < r.size
  · rw [drop_cons r 1 h1, byte_at r 1 h1]
    have : r.size - 1 = (r.size - 2) + 1 := by omega
    rw [this, List.take_succ_cons]
    simp only [List.isPrefixOf, h1, decide_true, Bool.true_and, Bool.and_true]
    rw [Bool.eq_iff_iff, beq_iff_eq, beq_iff_eq]; exact eq_comm
  · have : r.data.toList.drop 1 = [] := List.drop_eq_nil_of_le (by simp; omega)
    rw [this]
    simp [List.isPrefixOf, h1]

set_option maxHeartbeats 800000 in
theorem first_any (r : ByteArray) (w : World) (hs : r.size ≤ 1000000) :
    Calls Tryz.prog 81 #[.string r] w fun e w' => e = .returned (.tuple #[.int .i64 (firstP r).1, .int .i64 (firstP r).2]) ∧ w' = w := by
  by_cases h0 : r.size = 0
  · have HN : Hid (firstP r = (1, 0)) := by show _ = _; unfold firstP; rw [if_pos h0]
    have hb : (r.toList == []) = true := list_nil h0
    go_enter Tryz.func81, Tryz.ntmps81
    go_wp2
    go_ret2
    rw [HN.out]; exact ⟨rfl, rfl⟩
  · have hpos : 0 < r.size := by omega
    have hb : (r.toList == []) = false := list_cons h0
    have hL := longer_eq r hpos
    have hB := byte_at r 0 hpos
    have HN : Hid (firstP r = headP r) := by show _ = _; unfold firstP; rw [if_neg h0]
    have H2 : Hid (headP r = if isSmallB r[0] then wordP r else if isDigitB r[0] then numberP r else if r[0] == 33 then (if longerP r then (5, 2) else (0, 1)) else if r[0] == 60 || r[0] == 62 then (if longerP r then (5, 2) else (5, 1)) else if memB r[0] signsP then (5, 1) else (0, 1)) := by
      show _ = _; unfold headP; rw [hB]
    have hpre := fun w => hasPrefix_any (r.extract 1 r.size) ⟨#[61]⟩ w
    rw [show (ByteArray.mk #[61]).data.toList = [61] from rfl, hL] at hpre
    clear hL hB h0
    cases hs1 : isSmallB r[0] with
    | true =>
      have HE : Hid (firstP r = wordP r) := by show _ = _; rw [HN.out, H2.out, hs1]; rfl
      have hcall := isLetter_any r[0]
      rw [hs1] at hcall
      clear hs1
      go_enter Tryz.func81, Tryz.ntmps81
      go_wp2_with (first
        | (go_at_call 124; refine (hpre _).mono ?_; rintro e w' ⟨rfl, rfl⟩)
        | (go_at_call 125; refine (hcall _).mono ?_; rintro e w' ⟨rfl, rfl⟩)
        | (go_at_call 126; refine (word_scan r _ hs).mono ?_; rintro e w' ⟨rfl, rfl⟩))
      go_ret2
      rw [HE.out]; exact ⟨rfl, rfl⟩
    | false =>
      have hc1 := isLetter_any r[0]
      rw [hs1] at hc1
      cases hd : isDigitB r[0] with
      | true =>
        have HE : Hid (firstP r = numberP r) := by show _ = _; rw [HN.out, H2.out, hs1, hd]; rfl
        have hc2 := isDigit_any r[0]
        rw [hd] at hc2
        clear hs1 hd
        go_enter Tryz.func81, Tryz.ntmps81
        go_wp2_with (first
          | (go_at_call 124; refine (hpre _).mono ?_; rintro e w' ⟨rfl, rfl⟩)
          | (go_at_call 125; refine (hc1 _).mono ?_; rintro e w' ⟨rfl, rfl⟩)
          | (go_at_call 127; refine (hc2 _).mono ?_; rintro e w' ⟨rfl, rfl⟩)
          | (go_at_call 128; refine (number_scan r _ hs).mono ?_; rintro e w' ⟨rfl, rfl⟩))
        go_ret2
        rw [HE.out]; exact ⟨rfl, rfl⟩
      | false =>
        have H3 : Hid (firstP r = if r[0] == 33 then (if longerP r then (5, 2) else (0, 1)) else if r[0] == 60 || r[0] == 62 then (if longerP r then (5, 2) else (5, 1)) else if memB r[0] signsP then (5, 1) else (0, 1)) := by
          show _ = _; rw [HN.out, H2.out, hs1, hd]; rfl
        have hc2 := isDigit_any r[0]
        rw [hd] at hc2
        have HM : Hid (decide ((0 : Int) ≤ signIdx r[0]) = memB r[0] signsP) := signIdx_mem _
        have hc3 := signs_any r[0]
        clear hs1 hd HN H2
        have toI : ∀ c : UInt8, r[0] = c → ((r[0].toNat : Int) == (c.toNat : Int)) = true := fun c e => by rw [e]; simp
        have toN : ∀ c : UInt8, ¬ r[0] = c → ((r[0].toNat : Int) == (c.toNat : Int)) = false := fun c e => by
          rw [beq_eq_false_iff_ne]; intro h; exact e (UInt8.toNat_inj.1 (by exact_mod_cast h))
        by_cases e1 : r[0] = 33
        · have b1 : ((r[0].toNat : Int) == 33) = true := toI 33 e1
          clear toI toN
          cases hl : longerP r with
          | true =>
            have HE : Hid (firstP r = (5, 2)) := by show _ = _; rw [H3.out, e1, hl]; rfl
            rw [hl] at hpre
            clear e1 hl
            go_enter Tryz.func81, Tryz.ntmps81
            go_wp2_with (first
              | (go_at_call 124; refine (hpre _).mono ?_; rintro e w' ⟨rfl, rfl⟩)
              | (go_at_call 125; refine (hc1 _).mono ?_; rintro e w' ⟨rfl, rfl⟩)
              | (go_at_call 127; refine (hc2 _).mono ?_; rintro e w' ⟨rfl, rfl⟩))
            go_ret2
            rw [HE.out]; exact ⟨rfl, rfl⟩
          | false =>
            have HE : Hid (firstP r = (0, 1)) := by show _ = _; rw [H3.out, e1, hl]; rfl
            rw [hl] at hpre
            clear e1 hl
            go_enter Tryz.func81, Tryz.ntmps81
            go_wp2_with (first
              | (go_at_call 124; refine (hpre _).mono ?_; rintro e w' ⟨rfl, rfl⟩)
              | (go_at_call 125; refine (hc1 _).mono ?_; rintro e w' ⟨rfl, rfl⟩)
              | (go_at_call 127; refine (hc2 _).mono ?_; rintro e w' ⟨rfl, rfl⟩))
            go_ret2
            rw [HE.out]; exact ⟨rfl, rfl⟩
        · have b1 : ((r[0].toNat : Int) == 33) = false := toN 33 e1
          have n1 : (r[0] == 33) = false := by simpa using e1
          clear e1
          by_cases e2 : r[0] = 60 ∨ r[0] = 62
          · have h2 : (r[0] == 60 || r[0] == 62) = true := by rcases e2 with e | e <;> rw [e] <;> rfl
            cases hl : longerP r with
            | true =>
              have HE : Hid (firstP r = (5, 2)) := by show _ = _; rw [H3.out, n1, h2, hl]; rfl
              rw [hl] at hpre
              clear n1 h2 hl
              rcases e2 with e2 | e2
              · have b2 : ((r[0].toNat : Int) == 60) = true := toI 60 e2
                clear toI toN e2
                go_enter Tryz.func81, Tryz.ntmps81
                go_wp2_with (first
                  | (go_at_call 124; refine (hpre _).mono ?_; rintro e w' ⟨rfl, rfl⟩)
                  | (go_at_call 125; refine (hc1 _).mono ?_; rintro e w' ⟨rfl, rfl⟩)
                  | (go_at_call 127; refine (hc2 _).mono ?_; rintro e w' ⟨rfl, rfl⟩))
                go_ret2
                rw [HE.out]; exact ⟨rfl, rfl⟩
              · have b2 : ((r[0].toNat : Int) == 60) = false := toN 60 (by rw [e2]; decide)
                have b3 : ((r[0].toNat : Int) == 62) = true := toI 62 e2
                clear toI toN e2
                go_enter Tryz.func81, Tryz.ntmps81
                go_wp2_with (first
                  | (go_at_call 124; refine (hpre _).mono ?_; rintro e w' ⟨rfl, rfl⟩)
                  | (go_at_call 125; refine (hc1 _).mono ?_; rintro e w' ⟨rfl, rfl⟩)
                  | (go_at_call 127; refine (hc2 _).mono ?_; rintro e w' ⟨rfl, rfl⟩))
                go_ret2
                rw [HE.out]; exact ⟨rfl, rfl⟩
            | false =>
              have HE : Hid (firstP r = (5, 1)) := by show _ = _; rw [H3.out, n1, h2, hl]; rfl
              rw [hl] at hpre
              clear n1 h2 hl
              rcases e2 with e2 | e2
              · have b2 : ((r[0].toNat : Int) == 60) = true := toI 60 e2
                clear toI toN e2
                go_enter Tryz.func81, Tryz.ntmps81
                go_wp2_with (first
                  | (go_at_call 124; refine (hpre _).mono ?_; rintro e w' ⟨rfl, rfl⟩)
                  | (go_at_call 125; refine (hc1 _).mono ?_; rintro e w' ⟨rfl, rfl⟩)
                  | (go_at_call 127; refine (hc2 _).mono ?_; rintro e w' ⟨rfl, rfl⟩))
                go_ret2
                rw [HE.out]; exact ⟨rfl, rfl⟩
              · have b2 : ((r[0].toNat : Int) == 60) = false := toN 60 (by rw [e2]; decide)
                have b3 : ((r[0].toNat : Int) == 62) = true := toI 62 e2
                clear toI toN e2
                go_enter Tryz.func81, Tryz.ntmps81
                go_wp2_with (first
                  | (go_at_call 124; refine (hpre _).mono ?_; rintro e w' ⟨rfl, rfl⟩)
                  | (go_at_call 125; refine (hc1 _).mono ?_; rintro e w' ⟨rfl, rfl⟩)
                  | (go_at_call 127; refine (hc2 _).mono ?_; rintro e w' ⟨rfl, rfl⟩))
                go_ret2
                rw [HE.out]; exact ⟨rfl, rfl⟩
          · have n60 : ¬ r[0] = 60 := fun e => e2 (.inl e)
            have n62 : ¬ r[0] = 62 := fun e => e2 (.inr e)
            have h2 : (r[0] == 60 || r[0] == 62) = false := by simp [n60, n62]
            have b2 : ((r[0].toNat : Int) == 60) = false := toN 60 n60
            have b3 : ((r[0].toNat : Int) == 62) = false := toN 62 n62
            have H4 : Hid (firstP r = if memB r[0] signsP then (5, 1) else (0, 1)) := by show _ = _; rw [H3.out, n1, h2]; rfl
            clear toI toN e2 n60 n62 h2 n1 H3
            by_cases hm : (0 : Int) ≤ signIdx r[0]
            · have HE : Hid (firstP r = (5, 1)) := by show _ = _; rw [H4.out, ← HM.out]; simp [hm]
              go_enter Tryz.func81, Tryz.ntmps81
              go_wp2_with (first
                | (go_at_call 124; refine (hpre _).mono ?_; rintro e w' ⟨rfl, rfl⟩)
                | (go_at_call 125; refine (hc1 _).mono ?_; rintro e w' ⟨rfl, rfl⟩)
                | (go_at_call 127; refine (hc2 _).mono ?_; rintro e w' ⟨rfl, rfl⟩)
                | (go_at_call 129; refine (hc3 _).mono ?_; rintro e w' ⟨rfl, rfl⟩))
              go_ret2
              rw [HE.out]; exact ⟨rfl, rfl⟩
            · have HE : Hid (firstP r = (0, 1)) := by show _ = _; rw [H4.out, ← HM.out]; simp [hm]
              go_enter Tryz.func81, Tryz.ntmps81
              go_wp2_with (first
                | (go_at_call 124; refine (hpre _).mono ?_; rintro e w' ⟨rfl, rfl⟩)
                | (go_at_call 125; refine (hc1 _).mono ?_; rintro e w' ⟨rfl, rfl⟩)
                | (go_at_call 127; refine (hc2 _).mono ?_; rintro e w' ⟨rfl, rfl⟩)
                | (go_at_call 129; refine (hc3 _).mono ?_; rintro e w' ⟨rfl, rfl⟩))
              go_ret2
              rw [HE.out]; exact ⟨rfl, rfl⟩
end Go.Proofs.YtddbjcfdmdbmkaaGreatDoor

namespace Go.Proofs.YtddbjcfdmdbmkaaGreatDoor
open Go.RowKit

theorem Tryz.infoSTok : (Tryz.prog.info? 141).map (fun i => (i.zero, i.size, i.bytes)) = some (some (.agg #[.int .i64 0, .int .i64 0, .string ⟨#[]⟩]), 3, 32) := by kernel_rfl

theorem span_from (p : UInt8 → Bool) (s : ByteArray) (i : Nat) : spanTo p s i = i + spanP p (s.extract i s.size) := by
  rw [span0, ex_list]
  unfold spanTo
  rw [List.take_of_length_le (by simp)]

theorem tokensP_def (s : ByteArray) : tokensP s = stoks s (s.size + 1) 0 := rfl
theorem stoks_last {s : ByteArray} {k i : Nat} {t : STok} (ht : stokAt s i = t) (h : t.kind ≤ 1) : stoks s (k + 1) i = [t] := by
  subst ht; rw [stoks, if_pos h]
theorem stoks_more {s : ByteArray} {k i : Nat} {t : STok} (ht : stokAt s i = t) (h : ¬ t.kind ≤ 1) : stoks s (k + 1) i = t :: stoks s k (t.place + t.text.size) := by
  subst ht; rw [stoks, if_neg h]
structure NewToks (w : World) (v : Value) (l : List STok) (w' : World) : Prop where
  row : w'.ownsRow w.heap.size 141 3 v l.length (flat STok.cells l)
  below : Below w.heap.size w w'
def TLs (s : ByteArray) (out : List STok) (w : World) (k : Nat) (v c : Value) (wr : World) : Prop :=
  ∃ (acc : List STok) (i : Nat), i ≤ s.size ∧ c = .int .i64 i ∧ s.size - i < k ∧ Hid (acc ++ stoks s k i = out) ∧ NewToks w v acc wr
theorem below_grown {w w1 w2 : World} {row : Option Nat} (h : Below w.heap.size w w1) (hg : w1.grownBy w2 row) (hr : ∀ g, row = some g → w.heap.size ≤ g) : Below w.heap.size w w2 :=
  ⟨hg.os.trans h.os, hg.tape.trans h.tape, hg.output.trans h.output, Nat.le_trans h.size hg.size, fun k hk => (hg.block k (Nat.lt_of_lt_of_le hk h.size) (fun e => by have := hr k e.symm; omega)).trans (h.block k hk)⟩

set_option maxRecDepth 100000 in
set_option maxHeartbeats 8000000 in
theorem tokens_scan (s : ByteArray) (w : World) (hs : s.size ≤ 1000) :
    Calls Tryz.prog 53 #[.string s] w fun e w' => ∃ v, e = .returned v ∧ NewToks w v (tokensP s) w' := by
  obtain ⟨out, HO⟩ : ∃ out, Hid (tokensP s = out) := ⟨_, rfl⟩
  have HG : Hid (out.length ≤ s.size + 1) := by show _ ≤ _; rw [← HO.out]; exact (tokensP_good s).2
  rw [HO.out]
  have hS0 : TLs s out w (s.size + 1) (.slice none 0 0) (.int .i64 0) w := ⟨[], 0, Nat.zero_le _, rfl, by omega, (List.nil_append _).trans ((tokensP_def s).symm.trans HO.out), World.ownsRow_nil _ _ _ _, Below.refl _ _⟩
  clear HO
  go_enter Tryz.func53, Tryz.ntmps53
  go_wp2_with fail
  go_loopw [3, 4, 5, 6] (fun v c _ _ wr => ∃ gk, TLs s out w gk v c wr) (fun _ c _ _ _ => s.size + 1 - (intOf c).toNat)
  case atStart => exact ⟨_, hS0⟩
  case round =>
    obtain ⟨gk, acc, i, hi, rfl, hk, HA, hrow, hbel⟩ := hrel
    clear hS0
    obtain ⟨k, rfl⟩ : ∃ k, gk = k + 1 := ⟨gk - 1, by omega⟩
    have hz : (s.extract i s.size).size ≤ 1000000 := by rw [ex_size]; omega
    have hsp := fun w => span_any class_blank (s.extract i s.size) w hz
    have HD : Hid (spanTo isBlankB s i = i + spanP isBlankB (s.extract i s.size)) := span_from _ _ _
    have hd : i + spanP isBlankB (s.extract i s.size) ≤ s.size := by rw [← HD.out]; exact span_le _ _ _ hi
    clear hz
    obtain ⟨d, HDd⟩ : ∃ d, Hid (spanP isBlankB (s.extract i s.size) = d) := ⟨_, rfl⟩
    rw [HDd.out] at hsp hd HD
    obtain ⟨q, hqn⟩ : ∃ q, q = i + d := ⟨_, rfl⟩
    rw [← hqn] at hd HD
    have hq : (i : Int) + (d : Int) = (q : Int) := by omega
    have hz : (s.extract q s.size).size ≤ 1000000 := by rw [ex_size]; omega
    have hf := fun w => first_any (s.extract q s.size) w hz
    have HT : Hid (stokAt s i = ⟨(firstP (s.extract q s.size)).1, q, s.extract q (q + (firstP (s.extract q s.size)).2)⟩) := by
      show _ = _; unfold stokAt; simp only; rw [HD.out]
    have HL : Hid (q + (firstP (s.extract q s.size)).2 ≤ s.size) := by
      show _ ≤ _
      unfold firstP
      split
      · exact hd
      · rename_i h0
        have := (headP_len (r := s.extract q s.size) (by omega)).2
        rw [ex_size] at this
        omega
    clear hz HDd
    obtain ⟨⟨kd, ln⟩, HF⟩ : ∃ x, Hid (firstP (s.extract q s.size) = x) := ⟨_, rfl⟩
    rw [HF.out] at hf HT HL
    have hl : q + ln ≤ s.size := HL.out
    clear HL HF
    simp only at hf HT
    obtain ⟨r, hrn⟩ : ∃ r, r = q + ln := ⟨_, rfl⟩
    rw [← hrn] at hl HT
    have hr : (q : Int) + (ln : Int) = (r : Int) := by omega
    have hqr : q ≤ r := by omega
    have Hlen : Hid (acc.length + (stoks s (k + 1) i).length ≤ s.size + 1) := by
      show _ ≤ _
      have := HG.out; rw [← HA.out, List.length_append] at this; exact this
    have hacc : acc.length ≤ 1001 := by have := Hlen.out; omega
    obtain ⟨j0, hj0, hy0, hy1, hy2⟩ := info_parts Tryz.infoSTok
    have HQ : Hid (q = i + d ∧ r = q + ln) := ⟨hqn, hrn⟩
    clear hqn hrn HG
    by_cases h0 : kd ≤ 1
    · have HE : Hid (acc ++ [⟨kd, q, s.extract q r⟩] = out) := by
        show _ = _
        rw [← HA.out, stoks_last HT.out h0]
      have hbs := hbel.size
      rcases (by omega : kd = 0 ∨ kd = 1) with rfl | rfl
      · go_wp2_with (first
          | (go_at_call 79; refine (hsp _).mono ?_; rintro e w' ⟨rfl, he⟩; rw [he]; clear he)
          | (go_at_call 81; refine (hf _).mono ?_; rintro e w' ⟨rfl, he⟩; rw [he]; clear he)
          | (at_builtin; refine wpList_append_lies _ rfl (.tmp 20) (.tmp 30) 64 rfl w.heap.size 141 j0 _ 3 32 Tryz.underlying64 hj0 hy0 hy1 hy2 rfl (by decide) u3 acc.length (flat STok.cells acc) (by rfl) (hrow.alloc _) ⟨wr.heap.size, 0, none⟩ 1 1 (STok.cells ⟨0, q, s.extract q r⟩) (by rfl) rfl (World.news_of_block (alloc_at _ _ _ (by simp))) (by simp [STok.cells, Value.oneCell']) (by decide) (by unfold maxLen; omega) (by omega) (by simp; omega) (wr.heap.size + 1) (by simp) ?_; intro g cap w1 hown hgrow hat hlt))
        go_ret
        refine ⟨_, rfl, ?_, below_grown (hbel.alloc (by exact hbel.size) _) hgrow (fun k hk => (hrow.lt k hk).1)⟩
        rw [← HE.out, flat_snoc, List.length_append]
        exact hown
      · go_wp2_with (first
          | (go_at_call 79; refine (hsp _).mono ?_; rintro e w' ⟨rfl, he⟩; rw [he]; clear he)
          | (go_at_call 81; refine (hf _).mono ?_; rintro e w' ⟨rfl, he⟩; rw [he]; clear he)
          | (at_builtin; refine wpList_append_lies _ rfl (.tmp 20) (.tmp 30) 64 rfl w.heap.size 141 j0 _ 3 32 Tryz.underlying64 hj0 hy0 hy1 hy2 rfl (by decide) u3 acc.length (flat STok.cells acc) (by rfl) (hrow.alloc _) ⟨wr.heap.size, 0, none⟩ 1 1 (STok.cells ⟨1, q, s.extract q r⟩) (by rfl) rfl (World.news_of_block (alloc_at _ _ _ (by simp))) (by simp [STok.cells, Value.oneCell']) (by decide) (by unfold maxLen; omega) (by omega) (by simp; omega) (wr.heap.size + 1) (by simp) ?_; intro g cap w1 hown hgrow hat hlt))
        go_ret
        refine ⟨_, rfl, ?_, below_grown (hbel.alloc (by exact hbel.size) _) hgrow (fun k hk => (hrow.lt k hk).1)⟩
        rw [← HE.out, flat_snoc, List.length_append]
        exact hown
    · have hbs := hbel.size
      have hk0 : ((kd : Int) == 0) = false := by rw [beq_eq_false_iff_ne]; omega
      have hk1 : ((kd : Int) == 1) = false := by rw [beq_eq_false_iff_ne]; omega
      have HE : Hid ((acc ++ [⟨kd, q, s.extract q r⟩]) ++ stoks s k (q + (s.extract q r).size) = out) := by
        show _ = _
        rw [← HA.out, stoks_more HT.out h0, List.append_assoc]; rfl
      have HZ : Hid ((s.extract q r).size = ln ∧ 1 ≤ ln) := by
        have e : (s.extract q r).size = r - q := by rw [ex_size]; omega
        have := HQ.out
        refine ⟨by omega, ?_⟩
        have p := (stokAt_spec s i hi).2.2.2
        rw [HT.out] at p
        have := (p (by show 2 ≤ kd; omega)).2
        simp only at this
        omega
      clear h0
      go_wp2_with (first
        | (go_at_call 79; refine (hsp _).mono ?_; rintro e w' ⟨rfl, he⟩; rw [he]; clear he)
        | (go_at_call 81; refine (hf _).mono ?_; rintro e w' ⟨rfl, he⟩; rw [he]; clear he)
        | (at_builtin; refine wpList_append_lies _ rfl (.tmp 20) (.tmp 30) 64 rfl w.heap.size 141 j0 _ 3 32 Tryz.underlying64 hj0 hy0 hy1 hy2 rfl (by decide) u3 acc.length (flat STok.cells acc) (by rfl) (hrow.alloc _) ⟨wr.heap.size, 0, none⟩ 1 1 (STok.cells ⟨kd, q, s.extract q r⟩) (by rfl) rfl (World.news_of_block (alloc_at _ _ _ (by simp))) (by simp [STok.cells, Value.oneCell']) (by decide) (by unfold maxLen; omega) (by omega) (by simp; omega) (wr.heap.size + 1) (by simp) ?_; intro g cap w1 hown hgrow hat hlt))
      go_roundw
      case rel =>
        refine ⟨k, acc ++ [⟨kd, q, s.extract q r⟩], r, hl, rfl, ?_, ?_, ?_, below_grown (hbel.alloc (by exact hbel.size) _) hgrow (fun k hk => (hrow.lt k hk).1)⟩
        · have := HZ.out; have := HQ.out; omega
        · have e : q + (s.extract q r).size = r := by have := HZ.out; have := HQ.out; omega
          have := HE.out
          rw [e] at this
          exact this
        · rw [flat_snoc, List.length_append]; exact hown
      case measure =>
        have := HZ.out; have := HQ.out
        simp [intOf]; omega
end Go.Proofs.YtddbjcfdmdbmkaaGreatDoor

namespace Go.Proofs.YtddbjcfdmdbmkaaGreatDoor
open Go.RowKit

theorem stok_field1 (k p : Int) (t : ByteArray) (w : World) : (Instr.field 141 (.agg #[.int .i64 k, .int .i64 p, .string t]) 1).run Tryz.prog w = .ok (.int .i64 p) w := by kernel_rfl
theorem stok_field2 (k p : Int) (t : ByteArray) (w : World) : (Instr.field 141 (.agg #[.int .i64 k, .int .i64 p, .string t]) 2).run Tryz.prog w = .ok (.string t) w := by kernel_rfl

set_option maxHeartbeats 400000 in
theorem now_p {own : Nat → Nat} {w : World} {b : Nat} {m : RM} {σ : Rd} (h : RSt own w b m σ) (hp : 0 < σ.ahead.length) :
    Calls Tryz.prog 83 #[.pointer (some ⟨b, 0, none⟩)] w fun e w' => e = .returned (.agg #[.int .i64 σ.now.kind, .int .i64 σ.now.place, .string σ.now.text]) ∧ ∃ o, w' = w.alloc o := by
  obtain ⟨h0, h1, h2⟩ := h.tok hp
  have hT := h.cell 0
  simp [RCells] at hT
  have hlen : (0 : Int) < (σ.ahead.length : Int) := by omega
  have hbw := h.blk.lt
  have htw := h.toks.lt
  generalize σ.now.kind = k at *
  generalize σ.now.place = p at *
  generalize σ.now.text = t at *
  generalize σ.ahead.length = len at *
  generalize m.tcap = cap at *
  generalize m.toff * 3 = off at *
  generalize m.tg = tb at *
  clear h
  go_enter Tryz.func83, Tryz.ntmps83
  go_wp2
  exact bodyPost_ret (v := .agg #[.int .i64 k, .int .i64 p, .string t]) (by simp [results, Tryz.results83, go_sem]) rfl ⟨rfl, _, rfl⟩

set_option maxHeartbeats 400000 in
theorem skip_p {own : Nat → Nat} {w : World} {b : Nat} {m : RM} {σ : Rd} (h : RSt own w b m σ) (h2 : 2 ≤ σ.ahead.length) :
    Calls Tryz.prog 164 #[.pointer (some ⟨b, 0, none⟩)] w fun e w' => e = .returned (.tuple #[]) ∧ RSt own w' b { m with toff := m.toff + 1, tcap := m.tcap - 1 } σ.skip ∧ Ext own w own w' := by
  have hT := h.cell 0
  simp [RCells] at hT
  have hf := h.blk.frozen 0
  have hcap := h.cap
  have HE : Hid (RSt own (w.setCell ⟨b, 0, none⟩ (.slice (some ⟨m.tg, m.toff * 3 + 3, none⟩) (σ.ahead.length - 1) (m.tcap - 1))) b { m with toff := m.toff + 1, tcap := m.tcap - 1 } σ.skip) := by
    refine h.store (m' := { m with toff := m.toff + 1, tcap := m.tcap - 1 }) (σ' := σ.skip) 0 _ ?_ h.toks.tail h.ot (by rw [skip_len]; show _ ≤ m.tcap - 1; omega) h.live
    simp [RCells, Rd.skip, Nat.add_mul]
  have HX : Hid (Ext own w own (w.setCell ⟨b, 0, none⟩ (.slice (some ⟨m.tg, m.toff * 3 + 3, none⟩) (σ.ahead.length - 1) (m.tcap - 1)))) := (Ext.refl own w).setCell (p := ⟨b, 0, none⟩) h.own7 _
  have hl1 : (1 : Int) ≤ (σ.ahead.length : Int) := by omega
  have hc1 : (1 : Int) ≤ (m.tcap : Int) := by omega
  generalize m.toff * 3 = off at *
  go_enter Tryz.func164, Tryz.ntmps164
  go_wp2
  go_end0
  exact ⟨rfl, HE.out, HX.out⟩

theorem tokRow_one {w : World} {g : Nat} {k p : Nat} {t : ByteArray} {ty : TypeId} (h : Blk w g #[.int .i64 k, .int .i64 p, .string t] ty) : TokRow w g 0 [⟨k, p, t⟩] := by
  refine ⟨h.lt, fun j hj => ?_, fun j hj => ?_, fun j hj => ?_⟩ <;> (have e : j = 0 := by simpa using hj) <;> subst e
  · rw [show (0 + 0) * 3 = 0 from rfl, h.cell]; rfl
  · rw [show (0 + 0) * 3 + 1 = 1 from rfl, h.cell]; rfl
  · rw [show (0 + 0) * 3 + 2 = 2 from rfl, h.cell]; rfl

set_option maxHeartbeats 400000 in
theorem fail_p {own : Nat → Nat} {w : World} {b : Nat} {m : RM} {σ : Rd} (h : RSt own w b m σ) (hp : 0 < σ.ahead.length) :
    Calls Tryz.prog 163 #[.pointer (some ⟨b, 0, none⟩)] w fun e w' => e = .returned (.tuple #[]) ∧ AfterR own w b σ.fail w' := by
  have hfld := stok_field1
  have hbw := h.blk.lt
  have hf := h.blk.frozen 0
  have hT := h.cell 0
  simp [RCells] at hT
  have HE : ∀ o, Hid (AfterR own w b σ.fail (((w.alloc o).alloc (.cells #[.int .i64 0, .int .i64 σ.now.place, .string ⟨#[]⟩] 141)).setCell ⟨b, 0, none⟩ (.slice (some ⟨w.heap.size + 1, 0, none⟩) 1 1))) := by
    intro o
    have hk : Blk ((w.alloc o).alloc (.cells #[.int .i64 0, .int .i64 σ.now.place, .string ⟨#[]⟩] 141)) (w.heap.size + 1) #[.int .i64 (0 : Nat), .int .i64 σ.now.place, .string ⟨#[]⟩] 141 := alloc_at _ _ _ (by simp)
    have hr := tokRow_one hk
    have h1 : RSt (put own (w.heap.size + 1) 7) ((w.alloc o).alloc (.cells #[.int .i64 0, .int .i64 σ.now.place, .string ⟨#[]⟩] 141)) b m σ :=
      ((h.owner (own' := put own (w.heap.size + 1) 7) (fun k hk => put_other _ _ _ _ (by omega))).alloc o).alloc _
    refine ⟨put own (w.heap.size + 1) 7, { m with tg := w.heap.size + 1, toff := 0, tcap := 1 }, h1.store 0 _ ?_ hr (put_same _ _ _) (by simp [Rd.fail]) h1.live, ?_⟩
    · simp [RCells, Rd.fail]
    · have e0 : Ext own w (put own (w.heap.size + 1) 7) ((w.alloc o).alloc (.cells #[.int .i64 0, .int .i64 σ.now.place, .string ⟨#[]⟩] 141)) :=
        ⟨fun k hk => put_other _ _ _ _ (by omega), (((Ext.refl own w).alloc o).alloc _).kept⟩
      exact e0.setCell (p := ⟨b, 0, none⟩) h1.own7 _
  go_enter Tryz.func163, Tryz.ntmps163
  go_wp2_with (go_at_call 83; refine (now_p h hp).mono ?_; rintro e w' ⟨rfl, o, rfl⟩)
  go_end0
  have hE := (HE o).out
  rw [World.setCell_alloc_past _ _ _ _ (by simp; omega), World.setCell_alloc_past _ _ _ _ hbw] at hE
  exact ⟨rfl, hE⟩

def textRow (ts : List ByteArray) : Array Value := (ts.map Value.string).toArray
theorem textRow_get (ts : List ByteArray) (j : Nat) (h : j < ts.length) : (textRow ts)[j]? = some (.string (ts.getD j ByteArray.empty)) := by
  simp [textRow, h, List.getD]
theorem least_of {p : Nat → Prop} (h : ∃ n, p n) : ∃ n, p n ∧ ∀ m, m < n → ¬ p m := by
  obtain ⟨n, hn⟩ := h
  induction n using Nat.strongRecOn with
  | _ n ih =>
    by_cases hx : ∃ m, m < n ∧ p m
    · obtain ⟨m, hm, hp⟩ := hx; exact ih m hm hp
    · exact ⟨n, hn, fun m hm hp => hx ⟨m, hm, hp⟩⟩
theorem ba_ext {a b : ByteArray} (h : a.toList = b.toList) : a = b := by
  rw [toList_data, toList_data] at h
  exact ByteArray.ext (Array.toList_inj.1 h)
theorem idx_cases (ts : List ByteArray) (x : ByteArray) :
    ((ts.any fun t => t.toList == x.toList) = false ∧ Lib.idxOfS ts x = -1) ∨ ((ts.any fun t => t.toList == x.toList) = true ∧ ∃ k : Nat, k < ts.length ∧ Lib.idxOfS ts x = (k : Int) ∧ ts.getD k ByteArray.empty = x) := by
  by_cases h : ∃ j, j < ts.length ∧ ts.getD j ByteArray.empty = x
  · obtain ⟨k, ⟨hk, hx⟩, hm⟩ := least_of h
    right
    refine ⟨?_, k, hk, ?_, hx⟩
    · rw [List.any_eq_true]
      refine ⟨x, ?_, by simp⟩
      rw [← hx, List.getD_eq_getElem?_getD, List.getElem?_eq_getElem hk]
      exact List.getElem_mem hk
    · have := Lib.idxOfS_hit ts ts.length k x hk (Nat.le_refl _) hx (fun j hj e => hm j hj ⟨by omega, e⟩)
      rw [List.take_length] at this
      exact this
  · left
    refine ⟨?_, ?_⟩
    · rw [List.any_eq_false]
      intro t ht e
      obtain ⟨j, hj, e'⟩ := List.getElem_of_mem ht
      refine h ⟨j, hj, ?_⟩
      rw [List.getD_eq_getElem?_getD, List.getElem?_eq_getElem hj]
      show ts[j] = x
      rw [e']; exact ba_ext (by simpa using e)
    · have := Lib.idxOfS_miss ts ts.length x (fun j hj e => h ⟨j, hj, e⟩)
      rw [List.take_length] at this
      exact this
theorem index_any (g n c : Nat) (ts : List ByteArray) (x : ByteArray) (w : World) (hn : n = ts.length) (hb : n ≤ 1000) (hc : ∀ j, j < ts.length → w.cell? ⟨g, 0 + j, none⟩ = some (.string (ts.getD j ByteArray.empty))) :
    Calls Tryz.prog 197 #[.slice (some ⟨g, 0, none⟩) n c, .string x] w fun e w' => e = .returned (.int .i64 (Lib.idxOfS ts x)) ∧ w' = w := by
  have h := Any.slices_Index_string Tryz.lays109 g 0 n c ts x w (by omega) (by omega) hc
  rw [hn, List.take_length] at h
  rw [hn]; exact h

set_option maxHeartbeats 400000 in
theorem which_p {own : Nat → Nat} {w : World} {b : Nat} {m : RM} {σ : Rd} (h : RSt own w b m σ) (hG : SGood σ.ahead) {ts : List ByteArray} (hts : ∀ t ∈ ts, t ∈ KW) (hl : ts.length ≤ 10) {g n : Nat} (hn : n = ts.length) {ty : TypeId} (ht : Blk w g (textRow ts) ty) (hg : own g = 8) :
    Calls Tryz.prog 162 #[.pointer (some ⟨b, 0, none⟩), .slice (some ⟨g, 0, none⟩) n n] w fun e w' => e = .returned (.string (σ.whichV ts)) ∧ AfterR own w b (σ.which ts) w' := by
  subst hn
  have hfld := stok_field2
  have hbw := h.blk.lt
  have hgw := ht.lt
  rcases idx_cases ts σ.now.text with ⟨hno, hix⟩ | ⟨hyes, k, hk, hix, hx⟩
  · have HV : Hid (σ.whichV ts = ⟨#[]⟩ ∧ σ.which ts = σ) := by
      have : σ.has ts = false := hno
      exact ⟨by simp [Rd.whichV, this], by simp [Rd.which, this]⟩
    have HA : ∀ o, Hid (AfterR own w b σ (w.alloc o)) := fun o => ⟨own, m, h.alloc o, (Ext.refl own w).alloc o⟩
    have hcall := fun o => index_any g ts.length ts.length ts σ.now.text (w.alloc o) rfl (by omega) (fun j hj => ((ht.alloc o).cell _).trans (by rw [Nat.zero_add]; exact textRow_get ts j hj))
    rw [hix] at hcall
    clear hno hix
    go_enter Tryz.func162, Tryz.ntmps162
    go_wp2_with (first
      | (go_at_call 83; refine (now_p h hG.pos).mono ?_; rintro e w' ⟨rfl, o, rfl⟩)
      | (go_at_call 197; refine (hcall o).mono ?_; rintro e w' ⟨rfl, rfl⟩))
    go_ret
    rw [HV.out.1, HV.out.2]
    exact ⟨rfl, (HA o).out⟩
  · have h2 : 2 ≤ σ.ahead.length := hG.has hts hyes
    have HV : Hid (σ.whichV ts = σ.now.text ∧ σ.which ts = σ.skip) := by
      have : σ.has ts = true := hyes
      exact ⟨by simp [Rd.whichV, this], by simp [Rd.which, this]⟩
    have hcall := fun o => index_any g ts.length ts.length ts σ.now.text (w.alloc o) rfl (by omega) (fun j hj => ((ht.alloc o).cell _).trans (by rw [Nat.zero_add]; exact textRow_get ts j hj))
    rw [hix] at hcall
    have hskip := fun o => skip_p (h.alloc o) h2
    have hkn : (k : Int) < (ts.length : Int) := by omega
    have Hx : Hid ((textRow ts)[k]? = some (.string σ.now.text)) := by show _ = _; rw [textRow_get ts k hk, hx]
    clear hyes hix hx
    go_enter Tryz.func162, Tryz.ntmps162
    go_wp2_with (first
      | (go_at_call 83; refine (now_p h hG.pos).mono ?_; rintro e w' ⟨rfl, o, rfl⟩)
      | (go_at_call 197; refine (hcall o).mono ?_; rintro e w' ⟨rfl, rfl⟩)
      | (go_at_call 164; refine (hskip o).mono ?_; rintro e w1 ⟨rfl, hs1, he1⟩; have hcell := ((he1.blk8 hg (ht.alloc o)).cell k).trans Hx.out))
    go_ret
    rw [HV.out.1, HV.out.2]
    exact ⟨rfl, _, _, hs1, ((Ext.refl own w).alloc o).trans he1⟩
end Go.Proofs.YtddbjcfdmdbmkaaGreatDoor

namespace Go.Proofs.YtddbjcfdmdbmkaaGreatDoor
open Go.RowKit

theorem kw_ne {σ : Rd} {ts : List ByteArray} (hts : ∀ t ∈ ts, t ∈ KW) : ((σ.whichV ts).toList == []) = !σ.has ts := by
  unfold Rd.whichV
  cases hh : σ.has ts with
  | false => simp [toList_data]
  | true =>
    simp only [Bool.not_true, if_true]
    simp only [Rd.has, List.any_eq_true] at hh
    obtain ⟨t, ht, e⟩ := hh
    have e' : t.toList = σ.now.text.toList := by simpa using e
    rw [← e']
    have := List.all_eq_true.1 kw_some t (hts t ht)
    simpa [toList_data] using this

set_option maxHeartbeats 400000 in
theorem take_p {own : Nat → Nat} {w : World} {b : Nat} {m : RM} {σ : Rd} (h : RSt own w b m σ) (hG : SGood σ.ahead) {ts : List ByteArray} (hts : ∀ t ∈ ts, t ∈ KW) (hl : ts.length ≤ 10) {g n : Nat} (hn : n = ts.length) {ty : TypeId} (ht : Blk w g (textRow ts) ty) (hg : own g = 8) :
    Calls Tryz.prog 168 #[.pointer (some ⟨b, 0, none⟩), .slice (some ⟨g, 0, none⟩) n n] w fun e w' => e = .returned (.bool (σ.has ts)) ∧ AfterR own w b (σ.which ts) w' := by
  subst hn
  have HB : Hid (((σ.whichV ts).toList == []) = !σ.has ts) := kw_ne hts
  go_enter Tryz.func168, Tryz.ntmps168
  go_wp2_with (go_at_call 162; refine (which_p h hG hts hl rfl ht hg).mono ?_; rintro e w' ⟨rfl, ha⟩)
  go_ret
  refine ⟨ret_bool ?_, ha⟩
  have e : ∀ l : List UInt8, l.isEmpty = (l == []) := fun l => by cases l <;> rfl
  rw [e, HB.out]; simp

set_option maxHeartbeats 400000 in
theorem expect_p {own : Nat → Nat} {w : World} {b : Nat} {m : RM} {σ : Rd} (h : RSt own w b m σ) (hG : SGood σ.ahead) {ts : List ByteArray} (hts : ∀ t ∈ ts, t ∈ KW) (hl : ts.length ≤ 10) {g n : Nat} (hn : n = ts.length) {ty : TypeId} (ht : Blk w g (textRow ts) ty) (hg : own g = 8) :
    Calls Tryz.prog 130 #[.pointer (some ⟨b, 0, none⟩), .slice (some ⟨g, 0, none⟩) n n] w fun e w' => e = .returned (.string (σ.whichV ts)) ∧ AfterR own w b (σ.expect ts) w' := by
  subst hn
  have hk := kw_ne (σ := σ) hts
  cases hh : σ.has ts with
  | true =>
    rw [hh] at hk
    simp only [Bool.not_true] at hk
    have HX : Hid (σ.expect ts = σ.which ts) := by show _ = _; simp [Rd.expect, Rd.which, hh]
    clear hh
    go_enter Tryz.func130, Tryz.ntmps130
    go_wp2_with (go_at_call 162; refine (which_p h hG hts hl rfl ht hg).mono ?_; rintro e w' ⟨rfl, ha⟩)
    go_ret
    rw [HX.out]
    exact ⟨rfl, ha⟩
  | false =>
    rw [hh] at hk
    simp only [Bool.not_false] at hk
    have HX : Hid (σ.expect ts = σ.fail ∧ σ.which ts = σ) := ⟨by simp [Rd.expect, hh], by simp [Rd.which, hh]⟩
    clear hh
    go_enter Tryz.func130, Tryz.ntmps130
    go_wp2_with (first
      | (go_at_call 162; refine (which_p h hG hts hl rfl ht hg).mono ?_; rintro e w' ⟨rfl, own1, m1, hs1, he1⟩; rw [HX.out.2] at hs1)
      | (go_at_call 163; refine (fail_p hs1 hG.pos).mono ?_; rintro e w2 ⟨rfl, own2, m2, hs2, he2⟩))
    go_ret
    rw [HX.out.1]
    exact ⟨rfl, own2, m2, hs2, he1.trans he2⟩

theorem RSt.texts {own : Nat → Nat} {w : World} {b : Nat} {m : RM} {σ : Rd} (h : RSt own w b m σ) (o : Obj) : RSt (put own w.heap.size 8) (w.alloc o) b m σ ∧ Ext own w (put own w.heap.size 8) (w.alloc o) :=
  ⟨(h.owner (fun k hk => put_other _ _ _ _ (by omega))).alloc o, (Ext.refl own w).allocAs o 8⟩
theorem take_new {own : Nat → Nat} {w : World} {b : Nat} {m : RM} {σ : Rd} (h : RSt own w b m σ) (hG : SGood σ.ahead) (ts : List ByteArray) (hts : ∀ t ∈ ts, t ∈ KW) (hl : ts.length ≤ 10) (n : Nat) (hn : n = ts.length) :
    Calls Tryz.prog 168 #[.pointer (some ⟨b, 0, none⟩), .slice (some ⟨w.heap.size, 0, none⟩) n n] (w.alloc (.cells (textRow ts) 9)) fun e w' => e = .returned (.bool (σ.has ts)) ∧ AfterR own w b (σ.which ts) w' := by
  obtain ⟨h1, e1⟩ := h.texts (.cells (textRow ts) 9)
  refine (take_p h1 hG hts hl hn (Blk.new w _ _) (put_same _ _ _)).mono ?_
  rintro e w' ⟨rfl, own2, m2, hs2, he2⟩
  exact ⟨rfl, own2, m2, hs2, e1.trans he2⟩
theorem expect_new {own : Nat → Nat} {w : World} {b : Nat} {m : RM} {σ : Rd} (h : RSt own w b m σ) (hG : SGood σ.ahead) (ts : List ByteArray) (hts : ∀ t ∈ ts, t ∈ KW) (hl : ts.length ≤ 10) (n : Nat) (hn : n = ts.length) :
    Calls Tryz.prog 130 #[.pointer (some ⟨b, 0, none⟩), .slice (some ⟨w.heap.size, 0, none⟩) n n] (w.alloc (.cells (textRow ts) 9)) fun e w' => e = .returned (.string (σ.whichV ts)) ∧ AfterR own w b (σ.expect ts) w' := by
  obtain ⟨h1, e1⟩ := h.texts (.cells (textRow ts) 9)
  refine (expect_p h1 hG hts hl hn (Blk.new w _ _) (put_same _ _ _)).mono ?_
  rintro e w' ⟨rfl, own2, m2, hs2, he2⟩
  exact ⟨rfl, own2, m2, hs2, e1.trans he2⟩
end Go.Proofs.YtddbjcfdmdbmkaaGreatDoor

namespace Go.Proofs.YtddbjcfdmdbmkaaGreatDoor
open Go.RowKit
attribute [local go_sem ↓] Go.wp_at_zero Go.wp_at_succ

set_option maxHeartbeats 400000 in
theorem leave_p {own : Nat → Nat} {w : World} {b : Nat} {m : RM} {σ : Rd} (h : RSt own w b m σ) (hd : 1 ≤ σ.deep) (hd2 : σ.deep ≤ 1000000) :
    Calls Tryz.prog 226 #[.pointer (some ⟨b, 0, none⟩)] w fun e w' => e = .returned (.tuple #[]) ∧ AfterR own w b σ.leave w' := by
  have hT := h.cell 1
  simp [RCells] at hT
  have hf := h.blk.frozen 1
  have HE : Hid (RSt own (w.setCell ⟨b, 1, none⟩ (.int .i64 ((σ.deep : Int) - 1))) b m σ.leave) := by
    refine h.store1 1 _ ?_ rfl rfl
    have : ((σ.deep : Int) - 1) = ((σ.deep - 1 : Nat) : Int) := by omega
    simp [RCells, Rd.leave, this]
  have HX : Hid (Ext own w own (w.setCell ⟨b, 1, none⟩ (.int .i64 ((σ.deep : Int) - 1)))) := (Ext.refl own w).setCell (p := ⟨b, 1, none⟩) h.own7 _
  go_enter Tryz.func226, Tryz.ntmps226
  go_wp2
  go_end0
  exact ⟨rfl, own, m, HE.out, HX.out⟩


set_option maxHeartbeats 400000 in
theorem mark_td {own : Nat → Nat} {w : World} {b : Nat} {m : RM} {σ : Rd} (h : RSt own w b m σ) (p : Nat) :
    Calls Tryz.prog 166 #[.pointer (some ⟨b, 2, none⟩), .int .i64 p] w fun e w' => e = .returned (.tuple #[]) ∧ AfterR own w b { σ with td := markPut σ.td p } w' := by
  have hT := h.cell 2
  have hT3 := h.cell 3
  simp [RCells] at hT hT3
  have hf := h.blk.frozen 2
  have hf3 := h.blk.frozen 3
  cases htd : σ.td with
  | none =>
    rw [htd] at hT hT3
    have HE : Hid (RSt own ((w.setCell ⟨b, 2, none⟩ (.bool true)).setCell ⟨b, 3, none⟩ (.int .i64 p)) b m { σ with td := some p }) := by
      have h1 : RSt own (w.setCell ⟨b, 2, none⟩ (.bool true)) b m { σ with td := some 0 } := h.store1 2 _ (by simp [RCells, htd]) rfl rfl
      exact h1.store1 3 _ (by simp [RCells]) rfl rfl
    have HX : Hid (Ext own w own ((w.setCell ⟨b, 2, none⟩ (.bool true)).setCell ⟨b, 3, none⟩ (.int .i64 p))) := ((Ext.refl own w).setCell (p := ⟨b, 2, none⟩) h.own7 _).setCell (p := ⟨b, 3, none⟩) h.own7 _
    clear htd
    simp at hT hT3
    go_enter Tryz.func166, Tryz.ntmps166
    go_wp2
    go_end0
    exact ⟨rfl, own, m, HE.out, HX.out⟩
  | some q =>
    rw [htd] at hT hT3
    have HE : Hid (RSt own w b m { σ with td := some q }) := by show RSt _ _ _ _ _; rw [← htd]; exact h
    clear htd
    simp at hT hT3
    go_enter Tryz.func166, Tryz.ntmps166
    go_wp2
    go_end0
    exact ⟨rfl, own, m, HE.out, Ext.refl _ _⟩
set_option maxHeartbeats 400000 in
theorem mark_bn {own : Nat → Nat} {w : World} {b : Nat} {m : RM} {σ : Rd} (h : RSt own w b m σ) (p : Nat) :
    Calls Tryz.prog 166 #[.pointer (some ⟨b, 4, none⟩), .int .i64 p] w fun e w' => e = .returned (.tuple #[]) ∧ AfterR own w b { σ with bn := markPut σ.bn p } w' := by
  have hT := h.cell 4
  have hT3 := h.cell 5
  simp [RCells] at hT hT3
  have hf := h.blk.frozen 4
  have hf3 := h.blk.frozen 5
  cases htd : σ.bn with
  | none =>
    rw [htd] at hT hT3
    have HE : Hid (RSt own ((w.setCell ⟨b, 4, none⟩ (.bool true)).setCell ⟨b, 5, none⟩ (.int .i64 p)) b m { σ with bn := some p }) := by
      have h1 : RSt own (w.setCell ⟨b, 4, none⟩ (.bool true)) b m { σ with bn := some 0 } := h.store1 4 _ (by simp [RCells, htd]) rfl rfl
      exact h1.store1 5 _ (by simp [RCells]) rfl rfl
    have HX : Hid (Ext own w own ((w.setCell ⟨b, 4, none⟩ (.bool true)).setCell ⟨b, 5, none⟩ (.int .i64 p))) := ((Ext.refl own w).setCell (p := ⟨b, 4, none⟩) h.own7 _).setCell (p := ⟨b, 5, none⟩) h.own7 _
    clear htd
    simp at hT hT3
    go_enter Tryz.func166, Tryz.ntmps166
    go_wp2
    go_end0
    exact ⟨rfl, own, m, HE.out, HX.out⟩
  | some q =>
    rw [htd] at hT hT3
    have HE : Hid (RSt own w b m { σ with bn := some q }) := by show RSt _ _ _ _ _; rw [← htd]; exact h
    clear htd
    simp at hT hT3
    go_enter Tryz.func166, Tryz.ntmps166
    go_wp2
    go_end0
    exact ⟨rfl, own, m, HE.out, Ext.refl _ _⟩
end Go.Proofs.YtddbjcfdmdbmkaaGreatDoor
