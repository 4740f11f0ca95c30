import Derived.Test.YtddbjcfdmdbmkaaGreatDoorB13
set_option linter.unusedVariables false
set_option linter.unusedSimpArgs false
/-
  Both readers, plain: the tokens of a text.
-/
namespace Go.Proofs.YtddbjcfdmdbmkaaGreatDoor
open Go.RowKit

theorem rest_list (s : ByteArray) (i : Nat) : (s.extract i s.size).data.toList = s.data.toList.drop i := by
  rw [ex_list]
  apply List.take_of_length_le
  simp
theorem rest_span (p : UInt8 → Bool) (s : ByteArray) (i : Nat) : spanP p (s.extract i s.size) = spanTo p s i - i := by
  rw [span0, rest_list]; unfold spanTo; omega
theorem rest_byte (s : ByteArray) (i j : Nat) : (s.extract i s.size).data.toList.getD j 0 = s.data.toList.getD (i + j) 0 := by
  rw [rest_list]; simp [List.getD_eq_getElem?_getD]
theorem resv_short : (resv.all fun k => decide (k.size ≤ 8)) = true := by kernel_rfl
theorem isResv_size {t : ByteArray} (h : isResv t = true) : t.size ≤ 8 := by
  unfold isResv at h
  rw [List.any_eq_true] at h
  obtain ⟨k, hk, he⟩ := h
  rw [beq_iff_eq] at he
  have := List.all_eq_true.1 resv_short k hk
  rw [bytes_ext he]; simpa using this
theorem byte0_ex (s : ByteArray) (i n : Nat) (hn : 0 < n) : byte0 (s.extract i (i + n)) = s.data.toList.getD i 0 := by
  unfold byte0
  rw [ex_list, show i + n - i = n by omega]
  simp only [List.getD_eq_getElem?_getD, List.getElem?_take, hn, if_true, List.getElem?_drop, Nat.add_zero]
theorem sign_eq (b : UInt8) (h33 : (b == 33) = false) (h60 : (b == 60 || b == 62) = false) : memB b signs1 = memB b signsP ∧ memB b [33, 60, 62] = false := by
  have h60' := h60
  rw [Bool.or_eq_false_iff] at h60'
  rw [beq_eq_false_iff_ne] at h33
  rw [beq_eq_false_iff_ne, beq_eq_false_iff_ne] at h60'
  constructor
  · simp only [memB, signs1, signsP, List.any_cons, List.any_nil, Bool.or_false]
    have a : ((60 : UInt8) == b) = false := beq_eq_false_iff_ne.2 (Ne.symm h60'.1)
    have c : ((62 : UInt8) == b) = false := beq_eq_false_iff_ne.2 (Ne.symm h60'.2)
    simp [a, c]
  · simp only [memB, List.any_cons, List.any_nil, Bool.or_false]
    have z : ((33 : UInt8) == b) = false := beq_eq_false_iff_ne.2 (Ne.symm h33)
    have a : ((60 : UInt8) == b) = false := beq_eq_false_iff_ne.2 (Ne.symm h60'.1)
    have c : ((62 : UInt8) == b) = false := beq_eq_false_iff_ne.2 (Ne.symm h60'.2)
    simp [a, c, z]
theorem nval_text (s : ByteArray) (i n : Nat) (hn : n ≤ 9) : nvS s i n = numVal (s.extract i (i + n)) := by
  unfold nvS nval numVal
  rw [ex_list, show i + n - i = n by omega, List.take_take, show min 9 n = n by omega]

/-- One token of both. -/
theorem tok_rel (s : ByteArray) (at_ : Nat) (h : at_ ≤ s.size) : (∃ k, (lexStep s at_).2 = some k ∧ LiveT (stokAt s at_) (lexStep s at_).1 ∧ 2 ≤ (stokAt s at_).kind ∧ k = (stokAt s at_).place + (stokAt s at_).text.size) ∨
    (LastT (stokAt s at_) (lexStep s at_).1 ∧ (stokAt s at_).kind ≤ 1) := by
  obtain ⟨p1, p2, p3, p4⟩ := stokAt_spec s at_ h
  have h1 := span_ge isBlankB s at_
  have h2 := span_le isBlankB s at_ h
  unfold stokAt at *
  unfold lexStep
  simp only at *
  generalize spanTo isBlankB s at_ = i at *
  have hz : (s.extract i s.size).size = s.size - i := by rw [ex_size]; omega
  by_cases he : s.size ≤ i
  · rw [if_pos he]
    have e : firstP (s.extract i s.size) = (1, 0) := by unfold firstP; rw [if_pos (by omega)]
    rw [e] at p3 ⊢
    exact .inr ⟨⟨rfl, .inl ⟨rfl, rfl⟩, (p3 (by simp)).2⟩, by simp⟩
  · rw [if_neg he]
    have e : firstP (s.extract i s.size) = headP (s.extract i s.size) := by unfold firstP; rw [if_neg (by omega)]
    rw [e] at p2 p3 p4 ⊢
    have hl := headP_len (r := s.extract i s.size) (by omega)
    rw [hz] at hl
    have eb : (s.extract i s.size).data.toList.getD 0 0 = s.data.toList.getD i 0 := by rw [rest_byte]; rfl
    have hsz : ∀ n, i + n ≤ s.size → (s.extract i (i + n)).size = n := fun n hn => by rw [ex_size]; omega
    revert p4 p3 p2 p1 hl
    unfold headP
    simp only [eb]
    by_cases hs : isSmallB (s.data.toList.getD i 0) = true
    · rw [if_pos hs, if_pos hs]
      unfold wordP
      have hsp := rest_span isSmallB s i
      have hge := span_ge isSmallB s i
      have hle := span_le isSmallB s i h2
      rw [hsp]
      have hpos : 0 < spanTo isSmallB s i - i := by
        have hi : i < s.size := by omega
        rw [byte_at s i hi] at hs
        have := span_step isSmallB s i hi hs
        have := span_ge isSmallB s (i + 1)
        omega
      have eE : s.extract i (spanTo isSmallB s i) = s.extract i (i + (spanTo isSmallB s i - i)) := by congr 1; omega
      have hx := ex_ex s i (spanTo isSmallB s i - i) (by omega)
      rw [hx]
      have hb0 := byte0_ex s i (spanTo isSmallB s i - i) hpos
      have htz := hsz (spanTo isSmallB s i - i) (by omega)
      by_cases hr : isResv (s.extract i (i + (spanTo isSmallB s i - i))) = true
      · rw [if_pos hr]
        intro _ _ _ _ _
        refine .inl ⟨_, rfl, ⟨rfl, .inr (.inr (.inl ⟨rfl, rfl, eE, hr, ?_⟩))⟩, by simp, ?_⟩
        · rw [hb0]; exact hs
        · simp only; rw [htz]; omega
      · rw [if_neg hr]
        by_cases h8 : 8 < spanTo isSmallB s i - i
        · rw [if_pos h8]
          intro _ _ p3 _ _
          refine .inr ⟨⟨rfl, .inr ⟨rfl, .inr ⟨rfl, ?_⟩⟩, (p3 (by simp)).2⟩, by simp⟩
          simp only; rw [eE, htz]; exact h8
        · rw [if_neg h8]
          intro _ _ _ _ _
          refine .inl ⟨_, rfl, ⟨rfl, .inr (.inl ⟨rfl, rfl, eE, ?_, ?_⟩)⟩, by simp, ?_⟩
          · unfold RTok.isName
            simp only
            rw [eE, htz]
            unfold isResv at hr
            rw [Bool.not_eq_true, List.any_eq_false] at hr
            rw [Bool.and_eq_true, Bool.and_eq_true, List.all_eq_true]
            refine ⟨⟨rfl, by simp; omega⟩, fun k hk => ?_⟩
            have := hr k hk
            simpa using this
          · rw [hb0]; exact hs
          · simp only; rw [htz]; omega
    · rw [if_neg hs, if_neg hs]
      by_cases hd : isDigitB (s.data.toList.getD i 0) = true
      · rw [if_pos hd, if_pos hd]
        unfold numberP
        have hsp := rest_span isDigitB s i
        have hge := span_ge isDigitB s i
        have hle := span_le isDigitB s i h2
        rw [hsp]
        by_cases h9 : 9 < spanTo isDigitB s i - i
        · rw [if_pos h9, if_pos h9]
          intro _ _ p3 _ _
          exact .inr ⟨⟨rfl, .inr ⟨rfl, .inl rfl⟩, (p3 (by simp)).2⟩, by simp⟩
        · rw [if_neg h9, if_neg h9]
          intro _ _ _ p4 _
          have eE : s.extract i (spanTo isDigitB s i) = s.extract i (i + (spanTo isDigitB s i - i)) := by congr 1; omega
          have htz := hsz (spanTo isDigitB s i - i) (by omega)
          refine .inl ⟨_, rfl, ⟨rfl, .inl ⟨rfl, rfl, ?_, ((p4 (by simp)).1).2 rfl⟩⟩, by simp, ?_⟩
          · exact nval_text s i _ (by omega)
          · simp only; rw [htz]; omega
      · rw [if_neg hd, if_neg hd]
        have hlong : longerP (s.extract i s.size) = (decide (i + 1 < s.size) && (s.data.toList.getD (i + 1) 0 == 61)) := by
          unfold longerP
          rw [rest_byte, hz]
          congr 1
          simp only [decide_eq_decide]; omega
        have two : ∀ n, 0 < n → i + n ≤ s.size → ∀ (t : RTok), t = ⟨2, s.extract i (i + n), i, 0⟩ → LiveT ⟨5, i, s.extract i (i + n)⟩ t := by
          intro n hn hle t e
          subst e
          exact ⟨rfl, .inr (.inr (.inr ⟨rfl, rfl, rfl, by rw [byte0_ex s i n hn]; exact Bool.eq_false_iff.2 hs⟩))⟩
        generalize hb : s.data.toList.getD i 0 = b at *
        by_cases h33 : (b == 33) = true
        · rw [if_pos h33]
          have e33 : b = 33 := by simpa using h33
          have eT : isTwoB s i = longerP (s.extract i s.size) := by
            unfold isTwoB; rw [hlong, hb, e33]
            rw [show memB (33 : UInt8) [33, 60, 62] = true by decide, Bool.and_true]
          have eO : isOneB s i = false := by unfold isOneB; rw [hb, e33]; decide
          rw [eT, eO]
          by_cases hL : longerP (s.extract i s.size) = true
          · rw [if_pos hL, if_pos hL]
            intro _ p2 _ _ hl
            have : i + 2 ≤ s.size := by omega
            refine .inl ⟨_, rfl, two 2 (by omega) this _ rfl, by simp, ?_⟩
            simp only; rw [hsz 2 this]
          · rw [if_neg hL, if_neg hL]
            intro _ _ p3 _ hl
            simp only [Bool.false_eq_true, if_false]
            exact .inr ⟨⟨rfl, .inr ⟨rfl, .inl rfl⟩, (p3 (by simp)).2⟩, by simp⟩
        · rw [if_neg h33]
          by_cases h60 : (b == 60 || b == 62) = true
          · rw [if_pos h60]
            have hm : memB b [33, 60, 62] = true := by
              rw [Bool.or_eq_true, beq_iff_eq, beq_iff_eq] at h60
              rcases h60 with e | e <;> (rw [e]; decide)
            have hm1 : memB b signs1 = true := by
              rw [Bool.or_eq_true, beq_iff_eq, beq_iff_eq] at h60
              rcases h60 with e | e <;> (rw [e]; decide)
            have eT : isTwoB s i = longerP (s.extract i s.size) := by
              unfold isTwoB; rw [hlong, hb, hm, Bool.and_true]
            have eO : isOneB s i = true := by unfold isOneB; rw [hb, hm1]
            rw [eT, eO]
            by_cases hL : longerP (s.extract i s.size) = true
            · rw [if_pos hL, if_pos hL]
              intro _ p2 _ _ hl
              have : i + 2 ≤ s.size := by omega
              refine .inl ⟨_, rfl, two 2 (by omega) this _ rfl, by simp, ?_⟩
              simp only; rw [hsz 2 this]
            · rw [if_neg hL, if_neg hL]
              intro _ p2 _ _ hl
              have : i + 1 ≤ s.size := by omega
              rw [if_pos rfl]
              refine .inl ⟨_, rfl, two 1 (by omega) this _ rfl, by simp, ?_⟩
              simp only; rw [hsz 1 this]
          · rw [if_neg h60]
            obtain ⟨m1, m2⟩ := sign_eq b (Bool.eq_false_iff.2 h33) (Bool.eq_false_iff.2 h60)
            have eT : isTwoB s i = false := by unfold isTwoB; rw [hb, m2, Bool.and_false]
            have eO : isOneB s i = memB b signsP := by unfold isOneB; rw [hb, m1]
            rw [eT, eO]
            simp only [Bool.false_eq_true, if_false]
            by_cases hS : memB b signsP = true
            · rw [if_pos hS, if_pos hS]
              intro _ p2 _ _ hl
              have : i + 1 ≤ s.size := by omega
              refine .inl ⟨_, rfl, two 1 (by omega) this _ rfl, by simp, ?_⟩
              simp only; rw [hsz 1 this]
            · rw [if_neg hS, if_neg hS]
              intro _ _ p3 _ hl
              exact .inr ⟨⟨rfl, .inr ⟨rfl, .inl rfl⟩, (p3 (by simp)).2⟩, by simp⟩
theorem toks_rel (s : ByteArray) {at_ : Nat} {l : List RTok} (hL : LX s at_ l) : ∀ n, at_ ≤ s.size → s.size - at_ < n → TR (stoks s n at_) l ∧ ((stoks s n at_).headD default) = stokAt s at_ := by
  induction hL with
  | @last at_ t hl =>
    intro n h hn
    cases n with
    | zero => omega
    | succ n =>
      rcases tok_rel s at_ h with ⟨k, h1, _⟩ | ⟨h1, h2⟩
      · rw [hl] at h1; cases h1
      · unfold stoks; rw [if_pos h2, hl] at *; exact ⟨h1, rfl⟩
  | @more at_ k t l hl hL ih =>
    intro n h hn
    cases n with
    | zero => omega
    | succ n =>
      rcases tok_rel s at_ h with ⟨k', h1, h2, h3, h4⟩ | ⟨h1, h2⟩
      · rw [hl] at h1 h2
        simp only [Option.some.injEq] at h1
        subst h1
        unfold stoks
        rw [if_neg (by omega)]
        obtain ⟨p1, p2, _, p4⟩ := stokAt_spec s at_ h
        have p5 := (p4 h3).2
        rw [← h4] at p2 ⊢
        obtain ⟨i1, i2⟩ := ih n p2 (by omega)
        refine ⟨?_, rfl⟩
        obtain ⟨q1, _⟩ := stokAt_spec s k p2
        cases hc : stoks s n k with
        | nil => rw [hc] at i1; exact absurd i1.len.1 (by simp)
        | cons a rest =>
          rw [hc] at i1 i2
          simp only [List.headD_cons] at i2
          exact ⟨h2, by rw [i2]; omega, i1⟩
      · unfold stoks
        rw [if_pos h2]
        rw [hl] at h1
        exact ⟨h1, rfl⟩
end Go.Proofs.YtddbjcfdmdbmkaaGreatDoor
