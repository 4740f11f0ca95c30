import Derived.Test.YtddbjcfdmdbmkaaGreatDoorB04
import Derived.Lib.Strings
set_option linter.unusedVariables false
set_option linter.unusedSimpArgs false
namespace Go.Proofs.YtddbjcfdmdbmkaaGreatDoor
open Go.RowKit

theorem span0 (p : UInt8 → Bool) (s : ByteArray) : spanP p s = (s.data.toList.takeWhile p).length := by simp [spanP, spanTo]
theorem spanP_le (p : UInt8 → Bool) (s : ByteArray) : spanP p s ≤ s.size := span_le p s 0 (Nat.zero_le _)
theorem spanP_pos (p : UInt8 → Bool) (s : ByteArray) (h : 0 < s.size) (hp : p (s.data.toList.getD 0 0) = true) : 1 ≤ spanP p s := by
  rw [byte_at s 0 h] at hp
  have := span_step p s 0 h hp
  have := span_ge p s (0 + 1)
  unfold spanP; omega
theorem ex_list (s : ByteArray) (a b : Nat) : (s.extract a b).data.toList = (s.data.toList.drop a).take (b - a) := by
  simp [ByteArray.data_extract, List.take_drop]
theorem ex_size (s : ByteArray) (a b : Nat) : (s.extract a b).size = min b s.size - a := by simp
theorem toList_data (s : ByteArray) : s.toList = s.data.toList := Lib.toList_data s
theorem kw_short : (KW.all fun k => decide (k.data.toList.length ≤ 6) && (decide (k.data.toList.length ≠ 1) || memB (k.data.toList.getD 0 0) ([40, 41, 124, 58, 46, 43, 45, 42, 47, 61, 60, 62, 97, 98, 99, 116] : List UInt8))) = true := by kernel_rfl
theorem kw_not_long {k t : ByteArray} (hk : k ∈ KW) (ht : 6 < t.size) : (k.toList == t.toList) = false := by
  have := List.all_eq_true.1 kw_short k hk
  simp only [Bool.and_eq_true, decide_eq_true_eq] at this
  rw [beq_eq_false_iff_ne, toList_data, toList_data]
  intro e
  have e' := congrArg List.length e
  have hs : t.data.toList.length = t.size := by simp
  omega
theorem kw_not_byte {k t : ByteArray} (hk : k ∈ KW) (ht : t.size = 1) (hb : memB (t.data.toList.getD 0 0) ([40, 41, 124, 58, 46, 43, 45, 42, 47, 61, 60, 62, 97, 98, 99, 116] : List UInt8) = false) : (k.toList == t.toList) = false := by
  have := List.all_eq_true.1 kw_short k hk
  simp only [Bool.and_eq_true, Bool.or_eq_true, decide_eq_true_eq] at this
  rw [beq_eq_false_iff_ne, toList_data, toList_data]
  intro e
  have hs : t.data.toList.length = t.size := by simp
  rw [e] at this
  rcases this.2 with h | h
  · omega
  · rw [hb] at h; cases h
theorem kw_not_empty {k t : ByteArray} (hk : k ∈ KW) (ht : t.size = 0) : (k.toList == t.toList) = false := by
  have := List.all_eq_true.1 kw_some k hk
  have hs : t.data.toList = [] := List.eq_nil_of_length_eq_zero (by rw [← ht]; simp)
  rw [beq_eq_false_iff_ne, toList_data, toList_data, hs]
  intro e
  rw [toList_data, e] at this
  simp at this

theorem headP_len {r : ByteArray} (h : 0 < r.size) : 1 ≤ (headP r).2 ∧ (headP r).2 ≤ r.size := by
  unfold headP wordP numberP longerP
  simp only
  split
  · rename_i hs
    have h1 := spanP_pos isSmallB r h hs; have h2 := spanP_le isSmallB r
    split
    · exact ⟨h1, h2⟩
    · split <;> exact ⟨h1, h2⟩
  split
  · rename_i hs
    have h1 := spanP_pos isDigitB r h hs; have h2 := spanP_le isDigitB r
    split <;> exact ⟨h1, h2⟩
  split
  · split
    · rename_i hl; simp only [Bool.and_eq_true, decide_eq_true_eq] at hl; exact ⟨by omega, by omega⟩
    · exact ⟨by omega, by omega⟩
  split
  · split
    · rename_i hl; simp only [Bool.and_eq_true, decide_eq_true_eq] at hl; exact ⟨by omega, by omega⟩
    · exact ⟨by omega, by omega⟩
  split <;> exact ⟨by omega, by omega⟩
theorem headP_wrong {r : ByteArray} (hk : (headP r).1 ≤ 1) :
    8 < (headP r).2 ∨ ((headP r).2 = 1 ∧ memB (r.data.toList.getD 0 0) ([40, 41, 124, 58, 46, 43, 45, 42, 47, 61, 60, 62, 97, 98, 99, 116] : List UInt8) = false) := by
  revert hk
  unfold headP wordP numberP
  simp only
  generalize r.data.toList.getD 0 0 = b
  split
  · split
    · intro hk; simp at hk
    · split
      · rename_i h8; intro _; exact .inl h8
      · intro hk; simp at hk
  rename_i hs
  split
  · split
    · rename_i h8; intro _; left; show 8 < _; omega
    · intro hk; simp at hk
  split
  · split
    · intro hk; simp at hk
    · rename_i e _; intro _; right; have e' : b = 33 := by simpa using e
      subst e'; exact ⟨rfl, by decide⟩
  split
  · split <;> (intro hk; simp at hk)
  split
  · intro hk; simp at hk
  · rename_i h1 h2 h3 h4
    intro _; right; refine ⟨rfl, ?_⟩
    simp only [memB, signsP, List.any_cons, List.any_nil, Bool.or_false, Bool.or_eq_true, not_or, beq_iff_eq] at h3 h4 ⊢
    simp only [isSmallB, Bool.and_eq_true, decide_eq_true_eq, not_and] at hs
    have ne : ∀ c : UInt8, 97 ≤ c.toNat → c.toNat ≤ 122 → ¬ c = b := fun c h1 h2 e => hs (e ▸ h1) (e ▸ h2)
    have n1 := ne 97 (by decide) (by decide); have n2 := ne 98 (by decide) (by decide); have n3 := ne 99 (by decide) (by decide); have n4 := ne 116 (by decide) (by decide)
    have m1 : ¬ (60 : UInt8) = b := fun e => h3.1 e.symm
    have m2 : ¬ (62 : UInt8) = b := fun e => h3.2 e.symm
    simp [h4, n1, n2, n3, n4, m1, m2]
theorem headP_number {r : ByteArray} (h : 0 < r.size) (hk : (headP r).1 = 2) : digitsOK (r.extract 0 (headP r).2) := by
  revert hk
  unfold headP wordP numberP
  simp only
  split
  · split
    · intro hk; simp at hk
    · split <;> (intro hk; simp at hk)
  split
  · rename_i hd
    split
    · intro hk; simp at hk
    · rename_i h9
      intro _
      have h1 := spanP_pos isDigitB r h hd; have h2 := spanP_le isDigitB r
      refine ⟨by rw [ex_size]; show 1 ≤ min (spanP isDigitB r) r.size - 0; omega, by rw [ex_size]; show min (spanP isDigitB r) r.size - 0 ≤ 9; omega, ?_⟩
      intro c hc
      rw [ex_list, List.drop_zero, Nat.sub_zero] at hc
      have e : r.data.toList.take (spanP isDigitB r) = r.data.toList.takeWhile isDigitB := by
        rw [span0]; exact (List.prefix_iff_eq_take.1 (List.takeWhile_prefix _)).symm
      rw [e] at hc
      have all : ∀ l : List UInt8, ∀ c ∈ l.takeWhile isDigitB, isDigitB c = true := by
        intro l
        induction l with
        | nil => intro c hc; simp at hc
        | cons x l ih =>
          intro c hc
          rw [List.takeWhile_cons] at hc
          split at hc
          · rename_i hx
            rcases List.mem_cons.1 hc with e | hc
            · exact e ▸ hx
            · exact ih c hc
          · simp at hc
      exact all _ c hc
  split
  · split <;> (intro hk; simp at hk)
  split
  · split <;> (intro hk; simp at hk)
  split <;> (intro hk; simp at hk)

theorem headP_kind (r : ByteArray) : (headP r).1 = 0 ∨ 2 ≤ (headP r).1 := by
  unfold headP wordP numberP
  simp only
  repeat' split
  all_goals first | exact .inl rfl | exact .inr (by simp)
theorem ex_ex (s : ByteArray) (i n : Nat) (h : i + n ≤ s.size) : (s.extract i s.size).extract 0 n = s.extract i (i + n) := by
  apply ByteArray.ext
  apply Array.toList_inj.1
  rw [ex_list, ex_list, ex_list]
  simp only [List.drop_zero, Nat.sub_zero, List.take_take]
  congr 1
  omega
theorem stokAt_spec (s : ByteArray) (at_ : Nat) (h : at_ ≤ s.size) :
    at_ ≤ (stokAt s at_).place ∧ (stokAt s at_).place + (stokAt s at_).text.size ≤ s.size ∧
    ((stokAt s at_).kind ≤ 1 → EndOK (stokAt s at_)) ∧ (2 ≤ (stokAt s at_).kind → TokOK (stokAt s at_) ∧ 1 ≤ (stokAt s at_).text.size) := by
  have h1 := span_ge isBlankB s at_
  have h2 := span_le isBlankB s at_ h
  unfold stokAt
  simp only
  generalize spanTo isBlankB s at_ = i at *
  by_cases he : (s.extract i s.size).size = 0
  · have e : firstP (s.extract i s.size) = (1, 0) := by unfold firstP; rw [if_pos he]
    rw [e]
    refine ⟨h1, by rw [ex_size]; show i + (min (i + 0) s.size - i) ≤ _; omega, fun _ => ⟨by show (1 : Nat) ≤ 1; omega, fun k hk => kw_not_empty hk (by rw [ex_size]; show min (i + 0) s.size - i = 0; omega)⟩, fun hh => absurd hh (by show ¬ 2 ≤ 1; omega)⟩
  · have hpos : 0 < (s.extract i s.size).size := by omega
    have e : firstP (s.extract i s.size) = headP (s.extract i s.size) := by unfold firstP; rw [if_neg he]
    rw [e]
    have hl := headP_len hpos
    have hz : (s.extract i s.size).size = s.size - i := by rw [ex_size]; omega
    have hx := ex_ex s i (headP (s.extract i s.size)).2 (by omega)
    have hts : (s.extract i (i + (headP (s.extract i s.size)).2)).size = (headP (s.extract i s.size)).2 := by rw [ex_size]; omega
    refine ⟨h1, by rw [hts]; show i + _ ≤ _; omega, fun hk => ⟨hk, fun k hkk => ?_⟩, fun hk => ⟨⟨hk, fun h2k => ?_⟩, by rw [hts]; exact hl.1⟩⟩
    · show (k.toList == (s.extract i (i + (headP (s.extract i s.size)).2)).toList) = false
      rcases headP_wrong hk with h8 | ⟨h1', hm⟩
      · exact kw_not_long hkk (by rw [hts]; omega)
      · refine kw_not_byte hkk (by rw [hts]; exact h1') ?_
        rw [← hx, h1', ex_list]
        have : ∀ l : List UInt8, (List.take (1 - 0) (l.drop 0)).getD 0 0 = l.getD 0 0 := fun l => by cases l <;> rfl
        rw [this]; exact hm
    · show digitsOK (s.extract i (i + (headP (s.extract i s.size)).2))
      rw [← hx]; exact headP_number hpos h2k
theorem stoks_good (s : ByteArray) : ∀ n at_, at_ ≤ s.size → s.size - at_ < n → SGood (stoks s n at_) ∧ (stoks s n at_).length ≤ s.size - at_ + 1 := by
  intro n
  induction n with
  | zero => intro at_ _ h; omega
  | succ n ih =>
    intro at_ h hn
    obtain ⟨p1, p2, p3, p4⟩ := stokAt_spec s at_ h
    unfold stoks
    split
    · rename_i hk; exact ⟨p3 hk, by simp⟩
    · rename_i hk
      obtain ⟨q1, q2⟩ := p4 (by omega)
      have r := ih ((stokAt s at_).place + (stokAt s at_).text.size) p2 (by omega)
      refine ⟨?_, by rw [List.length_cons]; omega⟩
      cases hl : stoks s n ((stokAt s at_).place + (stokAt s at_).text.size) with
      | nil => rw [hl] at r; exact r.1.elim
      | cons a l => rw [hl] at r; exact ⟨q1, r.1⟩
theorem tokensP_good (s : ByteArray) : SGood (tokensP s) ∧ (tokensP s).length ≤ s.size + 1 := stoks_good s _ 0 (Nat.zero_le _) (by omega)
end Go.Proofs.YtddbjcfdmdbmkaaGreatDoor

namespace Go.Proofs.YtddbjcfdmdbmkaaGreatDoor
open Go.RowKit

structure Pc where
  gap : List UInt8
  k : Nat
  w : List UInt8
def txt (w : List UInt8) : ByteArray := ⟨w.toArray⟩
def layL : List Pc → List UInt8
  | [] => []
  | p :: l => p.gap ++ (p.w ++ layL l)
def pcB (k : Nat) (w : List UInt8) (nx : UInt8) : Bool :=
  if k = 2 then decide (1 ≤ w.length) && decide (w.length ≤ 9) && w.all isDigitB && !isDigitB nx
  else if k = 3 then decide (1 ≤ w.length) && decide (w.length ≤ 8) && w.all isSmallB && !isSmallB nx && !isResv (txt w)
  else if k = 4 then decide (1 ≤ w.length) && w.all isSmallB && !isSmallB nx && isResv (txt w)
  else if k = 5 then (match w with
    | [b] => memB b signsP || ((b == 60 || b == 62) && !(nx == 61))
    | [b, c] => c == 61 && (b == 33 || b == 60 || b == 62)
    | _ => false)
  else false
def okN (nb : UInt8) : List Pc → Bool
  | [] => true
  | p :: l => p.gap.all isBlankB && pcB p.k p.w ((layL l).headD nb) && okN nb l
theorem lay_app (a b : List Pc) : layL (a ++ b) = layL a ++ layL b := by
  induction a with
  | nil => rfl
  | cons p a ih => simp [layL, ih]
theorem headD_app (a b : List UInt8) (x : UInt8) : (a ++ b).headD x = a.headD (b.headD x) := by cases a <;> rfl
theorem ok_app (nb : UInt8) (a b : List Pc) : okN nb (a ++ b) = (okN ((layL b).headD nb) a && okN nb b) := by
  induction a with
  | nil => rfl
  | cons p a ih => simp only [List.cons_append, okN, ih, lay_app, headD_app, Bool.and_assoc]
def toksAt : Nat → List Pc → List STok
  | i, [] => [⟨1, i, ⟨#[]⟩⟩]
  | i, p :: l => ⟨p.k, i + p.gap.length, txt p.w⟩ :: toksAt (i + p.gap.length + p.w.length) l
theorem takeWhile_halt {p : UInt8 → Bool} {w rest : List UInt8} (h : w.all p = true) (hn : p (rest.headD 0) = false) : (w ++ rest).takeWhile p = w := by
  induction w with
  | nil => cases rest with
    | nil => rfl
    | cons c rest => simp only [List.headD_cons] at hn; simp [List.takeWhile_cons, hn]
  | cons c w ih =>
    simp only [List.all_cons, Bool.and_eq_true] at h
    simp [h.1, ih h.2]
theorem ex_txt {r : ByteArray} {w rest : List UInt8} (h : r.data.toList = w ++ rest) : r.extract 0 w.length = txt w := by
  apply ByteArray.ext
  apply Array.toList_inj.1
  rw [ex_list, h]
  simp [txt]
theorem pc_head {r : ByteArray} {k : Nat} {w rest : List UInt8} (h : r.data.toList = w ++ rest) (hp : pcB k w (rest.headD 0) = true) : headP r = (k, w.length) := by
  have hsz : r.size = (w ++ rest).length := by rw [← h]; simp
  unfold pcB at hp
  unfold headP
  rw [h]
  have ds : ∀ c : UInt8, isDigitB c = true → isSmallB c = false := fun c hc => by
    unfold isDigitB at hc; unfold isSmallB
    simp only [Bool.and_eq_true, decide_eq_true_eq] at hc
    simp; omega
  split at hp
  · rename_i hk
    simp only [Bool.and_eq_true, decide_eq_true_eq, Bool.not_eq_true'] at hp
    obtain ⟨⟨⟨h1, h2⟩, h3⟩, h4⟩ := hp
    match w, h1 with
    | b :: w, _ =>
      have hb : isDigitB b = true := by simp only [List.all_cons, Bool.and_eq_true] at h3; exact h3.1
      have hs : spanP isDigitB r = (b :: w).length := by rw [span0, h, takeWhile_halt h3 h4]
      simp only [List.cons_append, List.getD_cons_zero, ds b hb, hb, if_true, Bool.false_eq_true, if_false]
      unfold numberP
      rw [hs, if_neg (by omega), hk]
  split at hp
  · rename_i hk
    simp only [Bool.and_eq_true, decide_eq_true_eq, Bool.not_eq_true'] at hp
    obtain ⟨⟨⟨⟨h1, h2⟩, h3⟩, h4⟩, h5⟩ := hp
    have hs : spanP isSmallB r = w.length := by rw [span0, h, takeWhile_halt h3 h4]
    have he := ex_txt h
    match w, h1 with
    | b :: w, _ =>
      have hb : isSmallB b = true := by simp only [List.all_cons, Bool.and_eq_true] at h3; exact h3.1
      simp only [List.cons_append, List.getD_cons_zero, hb, if_true]
      unfold wordP
      rw [hs, he, h5, if_neg (by simp), if_neg (by omega), hk]
  split at hp
  · rename_i hk
    simp only [Bool.and_eq_true, decide_eq_true_eq, Bool.not_eq_true'] at hp
    obtain ⟨⟨⟨h1, h3⟩, h4⟩, h5⟩ := hp
    have hs : spanP isSmallB r = w.length := by rw [span0, h, takeWhile_halt h3 h4]
    have he := ex_txt h
    match w, h1 with
    | b :: w, _ =>
      have hb : isSmallB b = true := by simp only [List.all_cons, Bool.and_eq_true] at h3; exact h3.1
      simp only [List.cons_append, List.getD_cons_zero, hb, if_true]
      unfold wordP
      rw [hs, he, h5, if_pos rfl, hk]
  split at hp
  · rename_i hk
    have sg : ∀ b ∈ signsP, isSmallB b = false ∧ isDigitB b = false ∧ (b == 33) = false ∧ (b == 60 || b == 62) = false := by decide
    have mm : ∀ b : UInt8, memB b signsP = true → b ∈ signsP := fun b hb => by
      unfold memB at hb
      rw [List.any_eq_true] at hb
      obtain ⟨x, hx, e⟩ := hb
      rw [beq_iff_eq] at e
      exact e ▸ hx
    have lo : longerP r = (rest.headD 0 == 61 && w.length == 1 || (w.length == 2 && w.getD 1 0 == 61)) ∨ 2 < w.length ∨ w = [] := by
      unfold longerP
      rw [hsz, h]
      match w with
      | [] => exact .inr (.inr rfl)
      | [b] => left; cases rest <;> simp
      | [b, c] => left; simp
      | b :: c :: d :: w => right; left; simp
    match w, hp with
    | [b], hp =>
      simp only [Bool.or_eq_true, Bool.and_eq_true, beq_iff_eq, Bool.not_eq_true', List.cons_append, List.nil_append, List.getD_cons_zero] at hp ⊢
      rcases hp with hp | ⟨hb, hn⟩
      · obtain ⟨q1, q2, q3, q4⟩ := sg b (mm b hp)
        rw [q1, q2]
        simp only [Bool.false_eq_true, if_false]
        rw [if_neg (by simpa using q3), if_neg (by simpa using q4), if_pos hp, hk]
        rfl
      · have hl : longerP r = false := by
          rcases lo with lo | lo | lo
          · rw [lo, hn]; rfl
          · simp at lo
          · cases lo
        rcases hb with rfl | rfl
        · rw [hl, hk]; rfl
        · rw [hl, hk]; rfl
    | [b, c], hp =>
      simp only [Bool.or_eq_true, Bool.and_eq_true, beq_iff_eq] at hp
      obtain ⟨rfl, hb⟩ := hp
      have hl : longerP r = true := by
        rcases lo with lo | lo | lo
        · rw [lo]; simp
        · simp at lo
        · cases lo
      simp only [List.cons_append, List.nil_append, List.getD_cons_zero]
      rcases hb with (rfl | rfl) | rfl
      · rw [hl, hk]; rfl
      · rw [hl, hk]; rfl
      · rw [hl, hk]; rfl
  · simp at hp
theorem pc_first {k : Nat} {w : List UInt8} {nx : UInt8} (hp : pcB k w nx = true) : 2 ≤ k ∧ ∃ b l, w = b :: l ∧ isBlankB b = false := by
  have nb : ∀ b : UInt8, isSmallB b = true ∨ isDigitB b = true → isBlankB b = false := fun b hb => by
    cases hx : isBlankB b with
    | false => rfl
    | true =>
      unfold isBlankB at hx
      simp only [Bool.or_eq_true, beq_iff_eq] at hx
      rcases hx with rfl | rfl <;> rcases hb with hb | hb <;> revert hb <;> decide
  unfold pcB at hp
  split at hp
  · simp only [Bool.and_eq_true, decide_eq_true_eq] at hp
    match w, hp.1.1.1 with
    | b :: w, _ => exact ⟨by omega, b, w, rfl, nb b (.inr (by have := hp.1.2; simp only [List.all_cons, Bool.and_eq_true] at this; exact this.1))⟩
  split at hp
  · simp only [Bool.and_eq_true, decide_eq_true_eq] at hp
    match w, hp.1.1.1.1 with
    | b :: w, _ => exact ⟨by omega, b, w, rfl, nb b (.inl (by have := hp.1.1.2; simp only [List.all_cons, Bool.and_eq_true] at this; exact this.1))⟩
  split at hp
  · simp only [Bool.and_eq_true, decide_eq_true_eq] at hp
    match w, hp.1.1.1 with
    | b :: w, _ => exact ⟨by omega, b, w, rfl, nb b (.inl (by have := hp.1.1.2; simp only [List.all_cons, Bool.and_eq_true] at this; exact this.1))⟩
  split at hp
  · have sg : ∀ b ∈ signsP, isBlankB b = false := by decide
    match w, hp with
    | [b], hp =>
      refine ⟨by omega, b, [], rfl, ?_⟩
      simp only [Bool.or_eq_true, Bool.and_eq_true, beq_iff_eq] at hp
      rcases hp with hp | ⟨rfl | rfl, _⟩
      · unfold memB at hp
        rw [List.any_eq_true] at hp
        obtain ⟨x, hx, e⟩ := hp
        rw [beq_iff_eq] at e
        exact sg b (e ▸ hx)
      · rfl
      · rfl
    | [b, c], hp =>
      refine ⟨by omega, b, [c], rfl, ?_⟩
      simp only [Bool.or_eq_true, Bool.and_eq_true, beq_iff_eq] at hp
      rcases hp.2 with (rfl | rfl) | rfl <;> rfl
  · simp at hp
theorem scan_lay (S : ByteArray) : ∀ (L : List Pc) (at_ n : Nat), at_ ≤ S.size → S.data.toList.drop at_ = layL L → okN 0 L = true → (layL L).length < n → stoks S n at_ = toksAt at_ L := by
  have hSl : S.data.toList.length = S.size := by simp
  intro L
  induction L with
  | nil =>
    intro at_ n hat hd _ hn
    cases n with
    | zero => omega
    | succ n =>
      have hend : at_ = S.size := by
        have := congrArg List.length hd
        rw [List.length_drop, hSl] at this
        simp only [layL, List.length_nil] at this; omega
      have hsp : spanTo isBlankB S at_ = at_ := span_end _ _ _ (by omega)
      have hx : ∀ b, S.extract at_ b = ⟨#[]⟩ := by
        intro b
        apply ByteArray.ext
        apply Array.toList_inj.1
        rw [ex_list, hd]; simp [layL]
      have hst : stokAt S at_ = ⟨1, at_, ⟨#[]⟩⟩ := by
        unfold stokAt
        simp only [hsp, hx]
        rfl
      unfold stoks
      rw [hst, if_pos (by show (1 : Nat) ≤ 1; omega)]
      rfl
  | cons p L ih =>
    intro at_ n hat hd hok hn
    cases n with
    | zero => omega
    | succ n =>
      simp only [okN, Bool.and_eq_true] at hok
      obtain ⟨⟨hg, hp⟩, hok⟩ := hok
      obtain ⟨hk2, b, l, hwb, hbb⟩ := pc_first hp
      simp only [layL] at hd hn
      have hw1 : 1 ≤ p.w.length := by rw [hwb]; simp
      have hsp : spanTo isBlankB S at_ = at_ + p.gap.length := by
        unfold spanTo
        rw [hd, takeWhile_halt hg (by rw [hwb]; exact hbb)]
      rw [List.length_append, List.length_append] at hn
      have hlen : at_ + p.gap.length + p.w.length + (layL L).length = S.size := by
        have := congrArg List.length hd
        rw [List.length_drop, hSl, List.length_append, List.length_append] at this
        omega
      have hd2 : S.data.toList.drop (at_ + p.gap.length) = p.w ++ layL L := by
        rw [← List.drop_drop, hd, List.drop_left]
      have hd3 : S.data.toList.drop (at_ + p.gap.length + p.w.length) = layL L := by
        rw [← List.drop_drop, hd2, List.drop_left]
      have hxl : (S.extract (at_ + p.gap.length) S.size).data.toList = p.w ++ layL L := by
        rw [ex_list, hd2, List.take_of_length_le]
        rw [List.length_append]; omega
      have hh := pc_head hxl hp
      have hf : firstP (S.extract (at_ + p.gap.length) S.size) = (p.k, p.w.length) := by
        unfold firstP
        rw [if_neg, hh]
        have : (S.extract (at_ + p.gap.length) S.size).data.toList.length = (S.extract (at_ + p.gap.length) S.size).size := by simp
        rw [hxl, List.length_append] at this
        omega
      have hst : stokAt S at_ = ⟨p.k, at_ + p.gap.length, txt p.w⟩ := by
        unfold stokAt
        simp only [hsp, hf]
        congr 1
        apply ByteArray.ext
        apply Array.toList_inj.1
        rw [ex_list, hd2]
        simp [txt]
      have hsz : (txt p.w).size = p.w.length := by show p.w.toArray.size = _; simp
      unfold stoks
      rw [hst, if_neg (by show ¬ p.k ≤ 1; omega)]
      simp only
      rw [hsz]
      show _ = _ :: _
      congr 1
      exact ih (at_ + p.gap.length + p.w.length) n (by omega) hd3 hok (by omega)
theorem tokens_lay {S : ByteArray} {L : List Pc} (h : S.data.toList = layL L) (hok : okN 0 L = true) : tokensP S = toksAt 0 L := by
  have hSl : S.data.toList.length = S.size := by simp
  unfold tokensP
  exact scan_lay S L 0 _ (Nat.zero_le _) (by rw [List.drop_zero]; exact h) hok (by rw [← h, hSl]; omega)
end Go.Proofs.YtddbjcfdmdbmkaaGreatDoor

namespace Go.Proofs.YtddbjcfdmdbmkaaGreatDoor
open Go.RowKit

abbrev BOp := ByteArray × Nat × ByteArray
def POp.bare (o : POp) : BOp := (o.act, o.number, o.name)
def TM (ts : List STok) (L : List Pc) : Prop := ts.map (fun t => (t.kind, t.text)) = L.map (fun p => (p.k, txt p.w))
theorem TM.nil {ts : List STok} (h : TM ts []) : ts = [] := by unfold TM at h; simpa using h
theorem TM.cons {ts : List STok} {p : Pc} {L : List Pc} (h : TM ts (p :: L)) : ∃ i ts', ts = ⟨p.k, i, txt p.w⟩ :: ts' ∧ TM ts' L := by
  unfold TM at h
  cases ts with
  | nil => simp at h
  | cons t ts =>
    simp only [List.map_cons, List.cons.injEq, Prod.mk.injEq] at h
    obtain ⟨⟨h1, h2⟩, h3⟩ := h
    obtain ⟨k, i, x⟩ := t
    simp only at h1 h2
    subst h1 h2
    exact ⟨i, ts, rfl, h3⟩
theorem TM.app {ts : List STok} {a b : List Pc} (h : TM ts (a ++ b)) : ∃ t1 t2, ts = t1 ++ t2 ∧ TM t1 a ∧ TM t2 b := by
  unfold TM at h
  rw [List.map_append] at h
  obtain ⟨t1, t2, h1, h2, h3⟩ := List.map_eq_append_iff.1 h
  exact ⟨t1, t2, h1, h2, h3⟩
theorem toks_tm (L : List Pc) : ∀ i, ∃ ts e, toksAt i L = ts ++ [⟨1, e, ⟨#[]⟩⟩] ∧ TM ts L := by
  induction L with
  | nil => intro i; exact ⟨[], i, rfl, rfl⟩
  | cons p L ih =>
    intro i
    obtain ⟨ts, e, h1, h2⟩ := ih (i + p.gap.length + p.w.length)
    refine ⟨⟨p.k, i + p.gap.length, txt p.w⟩ :: ts, e, by rw [List.cons_append, ← h1]; rfl, ?_⟩
    unfold TM at h2 ⊢
    simp [h2]
def off (ts : List ByteArray) (t : ByteArray) : Bool := ts.all fun s => !(s.toList == t.toList)
theorem off_app (a b : List ByteArray) (t : ByteArray) : off (a ++ b) t = (off a t && off b t) := by unfold off; exact List.all_append
theorem has_cons (t : STok) (l : List STok) (d : Nat) (td bn : Option Nat) (o : Option (List POp)) (ts : List ByteArray) : Rd.has ⟨t :: l, d, td, bn, o⟩ ts = !off ts t.text := by
  simp [Rd.has, off, Rd.now, List.not_all_eq_any_not]
def Rds (m : Nat) (P : Rd → Rd) (L : List Pc) (bo : List BOp) (stop : List ByteArray) : Prop :=
  ∀ ts, TM ts L → ∀ (r : STok) (rest : List STok) (d : Nat) (o : List POp), d + m ≤ 8 → off stop r.text = true → ∃ ops, ops.map POp.bare = bo ∧ P ⟨ts ++ r :: rest, d, none, none, some o⟩ = ⟨r :: rest, d, none, none, some (o ++ ops)⟩
theorem Rds.stop {m : Nat} {P : Rd → Rd} {L : List Pc} {bo : List BOp} {s s' : List ByteArray} (h : Rds m P L bo s) (hs : ∀ t, off s' t = true → off s t = true) : Rds m P L bo s' := fun ts ht r rest d o hd ho => h ts ht r rest d o hd (hs _ ho)
theorem Rds.deep {m m' : Nat} {P : Rd → Rd} {L : List Pc} {bo : List BOp} {s : List ByteArray} (h : Rds m P L bo s) (hs : m ≤ m') : Rds m' P L bo s := fun ts ht r rest d o hd ho => h ts ht r rest d o (by omega) ho
theorem rds_num {g w : List UInt8} {n : Nat} (hv : numVal (txt w) ≤ 999999999) : Rds 0 (factorP (n + 1)) [⟨g, 2, w⟩] [(tPush, numVal (txt w), ⟨#[]⟩)] [] := by
  intro ts ht r rest d o _ _
  obtain ⟨i, ts', rfl, h⟩ := ht.cons
  rw [h.nil]
  refine ⟨[⟨tPush, numVal (txt w), ⟨#[]⟩, 0⟩], rfl, ?_⟩
  simp [factorP, Rd.now, Rd.num, Rd.numV, Rd.skip, Rd.put]
  omega
theorem exp_ok {t : STok} {l : List STok} {d : Nat} {td bn : Option Nat} {o : Option (List POp)} {ts : List ByteArray} (h : off ts t.text = false) : Rd.expect ⟨t :: l, d, td, bn, o⟩ ts = ⟨l, d, td, bn, o⟩ := by
  unfold Rd.expect
  rw [has_cons, h]
  rfl
theorem off_mem {ts : List ByteArray} {t : ByteArray} (h : t ∈ ts) : off ts t = false := by
  unfold off
  rw [List.all_eq_false]
  exact ⟨t, h, by simp⟩
theorem field_ok {σ : Rd} {t : STok} {i j : Nat} {f : ByteArray} {k : Nat} {l : List STok} {d : Nat} {td bn : Option Nat} {o : Option (List POp)} (e : σ = ⟨t :: ⟨5, i, tDot⟩ :: ⟨k, j, f⟩ :: l, d, td, bn, o⟩) (hf : f ∈ sField) (nm : ByteArray) (pl : Nat) : fieldP σ nm pl = ⟨l, d, td, bn, o.map (· ++ [⟨f, 0, nm, pl⟩])⟩ := by
  subst e
  have e1 : Rd.expect (Rd.skip ⟨t :: ⟨5, i, tDot⟩ :: ⟨k, j, f⟩ :: l, d, td, bn, o⟩) [tDot] = ⟨⟨k, j, f⟩ :: l, d, td, bn, o⟩ := exp_ok (off_mem (by simp))
  unfold fieldP
  rw [e1, exp_ok (off_mem hf)]
  unfold Rd.whichV
  rw [has_cons, off_mem hf]
  rfl
theorem is_off {t : STok} {s : ByteArray} (h : off [s] t.text = true) : t.is s = false := by
  unfold off at h
  unfold STok.is
  simp only [List.all_cons, List.all_nil, Bool.and_true, Bool.not_eq_true', beq_eq_false_iff_ne] at h ⊢
  exact fun e => h e.symm
theorem fac_name {t : STok} {l : List STok} {d n : Nat} {td bn : Option Nat} {o : Option (List POp)} (hk : t.kind = 3) (h1 : t.is tMinus = false) (h2 : t.is tOpen = false) : factorP (n + 1) ⟨t :: l, d, td, bn, o⟩ = fieldP ⟨t :: l, d, td, bn, o⟩ t.text t.place := by
  unfold factorP
  have hn : Rd.now ⟨t :: l, d, td, bn, o⟩ = t := rfl
  rw [hn, if_neg (by omega), h1, h2, if_neg (by decide), if_neg (by decide), if_pos hk]
theorem fac_it {t : STok} {l : List STok} {d n : Nat} {td bn : Option Nat} {o : Option (List POp)} (hk : t.kind = 4) (h1 : t.is tMinus = false) (h2 : t.is tOpen = false) (h3 : t.is tIt = true) : factorP (n + 1) ⟨t :: l, d, td, bn, o⟩ = fieldP ⟨t :: l, d, td, bn, o⟩ ⟨#[]⟩ 0 := by
  unfold factorP
  have hn : Rd.now ⟨t :: l, d, td, bn, o⟩ = t := rfl
  rw [hn, if_neg (by omega), h1, h2, if_neg (by decide), if_neg (by decide), if_neg (by omega), if_pos h3]
theorem fac_neg {t : STok} {l : List STok} {d n : Nat} {td bn : Option Nat} {o : Option (List POp)} (hk : t.kind = 5) (h1 : t.is tMinus = true) : factorP (n + 1) ⟨t :: l, d, td, bn, o⟩ = (factorP n (Rd.enter ⟨t :: l, d, td, bn, o⟩)).leave.put ⟨tOpp, 0, ⟨#[]⟩, 0⟩ := by
  conv => lhs; unfold factorP
  have hn : Rd.now ⟨t :: l, d, td, bn, o⟩ = t := rfl
  rw [hn, if_neg (by omega), if_pos h1]
theorem fac_par {t : STok} {l : List STok} {d n : Nat} {td bn : Option Nat} {o : Option (List POp)} (hk : t.kind = 5) (h1 : t.is tMinus = false) (h2 : t.is tOpen = true) : factorP (n + 1) ⟨t :: l, d, td, bn, o⟩ = ((sumP (factorP n) (Rd.enter ⟨t :: l, d, td, bn, o⟩)).expect [tClose]).leave := by
  conv => lhs; unfold factorP
  have hn : Rd.now ⟨t :: l, d, td, bn, o⟩ = t := rfl
  rw [hn, if_neg (by omega), h1, if_neg (by decide), if_pos h2]
theorem rds_fld {g g1 g2 nm f : List UInt8} {n : Nat} (h1 : off [tMinus] (txt nm) = true) (h2 : off [tOpen] (txt nm) = true) (hf : txt f ∈ sField) : Rds 0 (factorP (n + 1)) [⟨g, 3, nm⟩, ⟨g1, 5, [46]⟩, ⟨g2, 3, f⟩] [(txt f, 0, txt nm)] [] := by
  intro ts ht r rest d o _ _
  obtain ⟨i, ts1, rfl, q1⟩ := ht.cons
  obtain ⟨i1, ts2, rfl, q2⟩ := q1.cons
  obtain ⟨i2, ts3, rfl, q3⟩ := q2.cons
  rw [q3.nil]
  refine ⟨[⟨txt f, 0, txt nm, i⟩], rfl, ?_⟩
  show factorP (n + 1) ⟨(⟨3, i, txt nm⟩ : STok) :: ⟨5, i1, tDot⟩ :: ⟨3, i2, txt f⟩ :: r :: rest, d, none, none, some o⟩ = _
  rw [fac_name rfl (is_off h1) (is_off h2)]
  exact field_ok rfl hf _ _
theorem rds_it {g g1 g2 f : List UInt8} {n : Nat} (hf : txt f ∈ sField) : Rds 0 (factorP (n + 1)) [⟨g, 4, [105, 116]⟩, ⟨g1, 5, [46]⟩, ⟨g2, 3, f⟩] [(txt f, 0, ⟨#[]⟩)] [] := by
  intro ts ht r rest d o _ _
  obtain ⟨i, ts1, rfl, q1⟩ := ht.cons
  obtain ⟨i1, ts2, rfl, q2⟩ := q1.cons
  obtain ⟨i2, ts3, rfl, q3⟩ := q2.cons
  rw [q3.nil]
  refine ⟨[⟨txt f, 0, ⟨#[]⟩, 0⟩], rfl, ?_⟩
  show factorP (n + 1) ⟨(⟨4, i, tIt⟩ : STok) :: ⟨5, i1, tDot⟩ :: ⟨3, i2, txt f⟩ :: r :: rest, d, none, none, some o⟩ = _
  rw [fac_it rfl (is_off (by kernel_rfl)) (is_off (by kernel_rfl)) (by unfold STok.is; simp)]
  exact field_ok rfl hf _ _
theorem enter_ok {t : STok} {l : List STok} {d : Nat} {bn : Option Nat} {o : Option (List POp)} (h : d < 8) : Rd.enter ⟨t :: l, d, none, bn, o⟩ = ⟨l, d + 1, none, bn, o⟩ := by
  unfold Rd.enter
  simp only [Rd.skip, List.tail_cons]
  rw [if_neg (by omega)]
theorem rds_neg {m n : Nat} {g : List UInt8} {L : List Pc} {bo : List BOp} {stop : List ByteArray} (h : Rds m (factorP n) L bo stop) : Rds (m + 1) (factorP (n + 1)) (⟨g, 5, [45]⟩ :: L) (bo ++ [(tOpp, 0, ⟨#[]⟩)]) stop := by
  intro ts ht r rest d o hd hs
  obtain ⟨i, ts', rfl, q⟩ := ht.cons
  obtain ⟨ops, h1, h2⟩ := h ts' q r rest (d + 1) o (by omega) hs
  refine ⟨ops ++ [⟨tOpp, 0, ⟨#[]⟩, 0⟩], by rw [List.map_append, h1]; rfl, ?_⟩
  show factorP (n + 1) ⟨(⟨5, i, tMinus⟩ : STok) :: (ts' ++ r :: rest), d, none, none, some o⟩ = _
  rw [fac_neg rfl (by unfold STok.is; simp), enter_ok (by omega), h2]
  simp [Rd.leave, Rd.put]
theorem par_ok {n i j d : Nat} {t1 : List STok} {r : STok} {rest : List STok} {o ops : List POp} (hd : d < 8) (h2 : sumP (factorP n) ⟨t1 ++ ⟨5, j, tClose⟩ :: r :: rest, d + 1, none, none, some o⟩ = ⟨⟨5, j, tClose⟩ :: r :: rest, d + 1, none, none, some (o ++ ops)⟩) : factorP (n + 1) ⟨⟨5, i, tOpen⟩ :: (t1 ++ ⟨5, j, tClose⟩ :: r :: rest), d, none, none, some o⟩ = ⟨r :: rest, d, none, none, some (o ++ ops)⟩ := by
  have k1 : (⟨5, i, tOpen⟩ : STok).is tMinus = false := is_off (by kernel_rfl)
  have k2 : (⟨5, i, tOpen⟩ : STok).is tOpen = true := by unfold STok.is; simp
  rw [fac_par rfl k1 k2, enter_ok hd, h2]
  have e2 : Rd.expect ⟨(⟨5, j, tClose⟩ : STok) :: r :: rest, d + 1, none, none, some (o ++ ops)⟩ [tClose] = ⟨r :: rest, d + 1, none, none, some (o ++ ops)⟩ := exp_ok (off_mem (t := tClose) (by simp))
  rw [e2]
  simp [Rd.leave]
theorem rds_par {m n : Nat} {g g2 : List UInt8} {L : List Pc} {bo : List BOp} {stop : List ByteArray} (h : Rds m (sumP (factorP n)) L bo stop) (hc : off stop tClose = true) : Rds (m + 1) (factorP (n + 1)) (⟨g, 5, [40]⟩ :: (L ++ [⟨g2, 5, [41]⟩])) bo [] := by
  intro ts ht r rest d o hd hs
  obtain ⟨i, ts', rfl, q⟩ := ht.cons
  obtain ⟨t1, t2, rfl, ht1, ht2⟩ := q.app
  obtain ⟨j, t3, rfl, ht3⟩ := ht2.cons
  have e0 := ht3.nil
  subst e0
  obtain ⟨ops, h1, h2⟩ := h t1 ht1 ⟨5, j, tClose⟩ (r :: rest) (d + 1) o (by omega) hc
  refine ⟨ops, h1, ?_⟩
  have := par_ok (i := i) (by omega) h2
  rw [List.cons_append, List.append_assoc]
  exact this
inductive Items (m : Nat) (f : Rd → Rd) (signs stf : List ByteArray) : List Pc → List BOp → Prop
  | nil : Items m f signs stf [] []
  | cons {g : List UInt8} {k : Nat} {s : List UInt8} {L L' : List Pc} {bo bo' : List BOp} : txt s ∈ signs → Rds m f L bo stf → Items m f signs stf L' bo' → Items m f signs stf (⟨g, k, s⟩ :: (L ++ L')) (bo ++ (txt s, 0, ⟨#[]⟩) :: bo')
theorem items_len {m : Nat} {f : Rd → Rd} {signs stf : List ByteArray} {L : List Pc} {bo : List BOp} (h : Items m f signs stf L bo) (hs : ∀ s ∈ signs, off stf s = true) : ∀ ts, TM ts L → ∀ (r : STok) (rest : List STok) (d fuel : Nat) (o : List POp), d + m ≤ 8 → off stf r.text = true → off signs r.text = true → (ts ++ r :: rest).length ≤ fuel → (off stf ((ts ++ r :: rest).headD default).text = true) ∧ ∃ ops, ops.map POp.bare = bo ∧ chainL f signs fuel ⟨ts ++ r :: rest, d, none, none, some o⟩ = ⟨r :: rest, d, none, none, some (o ++ ops)⟩ := by
  induction h with
  | nil =>
    intro ts ht r rest d fuel o hd h1 h2 hf
    rw [ht.nil] at hf ⊢
    refine ⟨h1, [], rfl, ?_⟩
    cases fuel with
    | zero => simp at hf
    | succ fuel =>
      unfold chainL
      rw [List.nil_append, has_cons, h2]
      simp
  | @cons g k s L L' bo bo' hm hr _ ih =>
    intro ts ht r rest d fuel o hd h1 h2 hf
    obtain ⟨i, ts', rfl, q⟩ := ht.cons
    obtain ⟨t1, t2, rfl, ht1, ht2⟩ := q.app
    refine ⟨hs _ hm, ?_⟩
    cases fuel with
    | zero => simp at hf
    | succ fuel =>
      obtain ⟨u, us, hu⟩ : ∃ u us, t2 ++ r :: rest = u :: us := by cases t2 <;> exact ⟨_, _, rfl⟩
      have hl : (t2 ++ r :: rest).length ≤ fuel := by simp at hf ⊢; omega
      have hu1 := (ih t2 ht2 r rest d fuel [] hd h1 h2 hl).1
      rw [hu] at hu1
      obtain ⟨ops, e1, e2⟩ := hr t1 ht1 u us d o hd hu1
      obtain ⟨_, ops2, e3, e4⟩ := ih t2 ht2 r rest d fuel (o ++ (ops ++ [⟨txt s, 0, ⟨#[]⟩, 0⟩])) hd h1 h2 hl
      refine ⟨ops ++ ⟨txt s, 0, ⟨#[]⟩, 0⟩ :: ops2, by rw [List.map_append, List.map_cons, e1, e3]; rfl, ?_⟩
      unfold chainL
      rw [List.cons_append, has_cons, off_mem hm]
      simp only [Bool.not_false, if_true]
      have e5 : Rd.skip ⟨(⟨k, i, txt s⟩ : STok) :: (t1 ++ t2 ++ r :: rest), d, none, none, some o⟩ = ⟨t1 ++ u :: us, d, none, none, some o⟩ := by
        simp only [Rd.skip, List.tail_cons, List.append_assoc, hu]
      rw [e5, e2]
      show chainL f signs fuel ⟨u :: us, d, none, none, some (o ++ ops ++ [⟨txt s, 0, ⟨#[]⟩, 0⟩])⟩ = _
      rw [List.append_assoc, ← hu, e4]
      simp
theorem rds_chain {m : Nat} {f : Rd → Rd} {signs stf : List ByteArray} {L L' : List Pc} {bo bo' : List BOp} (h : Rds m f L bo stf) (h' : Items m f signs stf L' bo') (hs : ∀ s ∈ signs, off stf s = true) : Rds m (chainP f signs) (L ++ L') (bo ++ bo') (stf ++ signs) := by
  intro ts ht r rest d o hd ho
  rw [off_app, Bool.and_eq_true] at ho
  obtain ⟨t1, t2, rfl, ht1, ht2⟩ := ht.app
  obtain ⟨u, us, hu⟩ : ∃ u us, t2 ++ r :: rest = u :: us := by cases t2 <;> exact ⟨_, _, rfl⟩
  have hu1 := (items_len h' hs t2 ht2 r rest d _ [] hd ho.1 ho.2 (Nat.le_refl _)).1
  rw [hu] at hu1
  obtain ⟨ops, e1, e2⟩ := h t1 ht1 u us d o hd hu1
  obtain ⟨_, ops2, e3, e4⟩ := items_len h' hs t2 ht2 r rest d _ (o ++ ops) hd ho.1 ho.2 (Nat.le_refl _)
  refine ⟨ops ++ ops2, by rw [List.map_append, e1, e3], ?_⟩
  unfold chainP
  rw [List.append_assoc, hu, e2]
  simp only
  rw [← hu, e4, List.append_assoc]
theorem rds_one {m : Nat} {f : Rd → Rd} {signs stf : List ByteArray} {L : List Pc} {bo : List BOp} (h : Rds m f L bo stf) (hs : ∀ s ∈ signs, off stf s = true) : Rds m (chainP f signs) L bo (stf ++ signs) := by
  have := rds_chain h .nil hs
  rwa [List.append_nil, List.append_nil] at this
theorem rds_test {m : Nat} {f : Rd → Rd} {st : List ByteArray} {A B : List Pc} {g s : List UInt8} {k : Nat} {a b : List BOp} (ha : Rds m (sumP f) A a st) (hb : Rds m (sumP f) B b st) (hm : txt s ∈ sTest) (hs : ∀ s ∈ sTest, off st s = true) : Rds m (testP f) (A ++ ⟨g, k, s⟩ :: B) (a ++ (b ++ [(txt s, 0, ⟨#[]⟩)])) st := by
  intro ts ht r rest d o hd ho
  obtain ⟨t1, t2, rfl, ht1, ht2⟩ := ht.app
  obtain ⟨i, t3, rfl, ht3⟩ := ht2.cons
  obtain ⟨ops, e1, e2⟩ := ha t1 ht1 ⟨k, i, txt s⟩ (t3 ++ r :: rest) d o hd (hs _ hm)
  obtain ⟨ops2, e3, e4⟩ := hb t3 ht3 r rest d (o ++ ops) hd ho
  refine ⟨ops ++ (ops2 ++ [⟨txt s, 0, ⟨#[]⟩, 0⟩]), by rw [List.map_append, List.map_append, e1, e3]; rfl, ?_⟩
  unfold testP
  rw [List.append_assoc, List.cons_append, e2, exp_ok (off_mem hm), e4]
  unfold Rd.whichV
  rw [has_cons, off_mem hm]
  simp [Rd.put, Rd.now]
def RdC (m n : Nat) (L : List Pc) (bo : List BOp) (stop : List ByteArray) : Prop :=
  ∀ ts, TM ts L → ∀ (r : STok) (rest : List STok) (d : Nat) (o : Option (List POp)), d + m ≤ 8 → off stop r.text = true → ∃ ops, ops.map POp.bare = bo ∧ condP n ⟨ts ++ r :: rest, d, none, none, o⟩ = ⟨r :: rest, d, none, none, some ops⟩
theorem rdc_if {m n : Nat} {g : List UInt8} {L : List Pc} {bo : List BOp} {stop : List ByteArray} (h : Rds m (chainP (bothP (factorP n)) [tOr]) L bo stop) : RdC m n (⟨g, 4, [105, 102]⟩ :: L) bo stop := by
  intro ts ht r rest d o hd ho
  obtain ⟨i, ts1, rfl, q⟩ := ht.cons
  obtain ⟨ops, e1, e2⟩ := h ts1 q r rest d [] hd ho
  refine ⟨ops, e1, ?_⟩
  unfold condP
  have k : (⟨4, i, txt [105, 102]⟩ : STok).text = tIf := rfl
  rw [List.cons_append, has_cons, k, off_mem (by simp)]
  simp only [Bool.not_false, if_true, Rd.skip, List.tail_cons]
  rw [e2, List.nil_append]
theorem rdc_none {n : Nat} : RdC 0 n [] [] [tIf] := by
  intro ts ht r rest d o _ ho
  rw [ht.nil]
  refine ⟨[], rfl, ?_⟩
  unfold condP
  rw [List.nil_append, has_cons, ho]
  rfl
end Go.Proofs.YtddbjcfdmdbmkaaGreatDoor

namespace Go.Proofs.YtddbjcfdmdbmkaaGreatDoor
open Go.RowKit

structure Lf where
  name : ByteArray
  times : Nat
  kind : Nat
  cond : List BOp
def PPart.bare (p : PPart) : Lf := ⟨p.name, p.times, p.kind, p.cond.map POp.bare⟩
def stopAll : List ByteArray := [tStar, tSlash, tPlus, tMinus] ++ sTest ++ [tAnd, tOr, tIf, tTimes]
theorem off_sub {s s' : List ByteArray} (h : ∀ x ∈ s, x ∈ s') : ∀ t, off s' t = true → off s t = true := by
  intro t ht
  unfold off at ht ⊢
  rw [List.all_eq_true] at ht ⊢
  exact fun x hx => ht x (h x hx)
theorem num_okay {i : Nat} {t : ByteArray} {l : List STok} {d lo hi : Nat} {td bn : Option Nat} {o : Option (List POp)} (h1 : lo ≤ numVal t) (h2 : numVal t ≤ hi) : Rd.num ⟨⟨2, i, t⟩ :: l, d, td, bn, o⟩ lo hi = ⟨l, d, td, bn, o⟩ ∧ Rd.numV ⟨⟨2, i, t⟩ :: l, d, td, bn, o⟩ = numVal t := by
  refine ⟨?_, rfl⟩
  unfold Rd.num
  have hn : Rd.now ⟨(⟨2, i, t⟩ : STok) :: l, d, td, bn, o⟩ = ⟨2, i, t⟩ := rfl
  rw [hn, if_pos rfl, if_neg (by simp only; omega)]
  rfl
def IfHd (C : List Pc) : Prop := C = [] ∨ ∃ g C', C = ⟨g, 4, [105, 102]⟩ :: C'
theorem IfHd.next {C : List Pc} (h : IfHd C) {ts : List STok} (ht : TM ts C) {r : STok} (hr : off stopAll r.text = true) (rest : List STok) : ∃ u us, ts ++ r :: rest = u :: us ∧ off [tTimes] u.text = true := by
  rcases h with rfl | ⟨g, C', rfl⟩
  · rw [ht.nil]
    exact ⟨r, rest, rfl, off_sub (by simp [stopAll]) _ hr⟩
  · obtain ⟨i, ts', rfl, _⟩ := ht.cons
    exact ⟨_, _, rfl, by kernel_rfl⟩
def RdP (m n : Nat) (L : List Pc) (x : Lf) : Prop :=
  ∀ ts, TM ts L → ∀ (r : STok) (rest : List STok) (d : Nat) (o : Option (List POp)), d + m ≤ 8 → off stopAll r.text = true → ∃ p : PPart, p.bare = x ∧ p.choices = [] ∧ partP n ⟨ts ++ r :: rest, d, none, none, o⟩ = (⟨r :: rest, d, none, none, none⟩, p)
theorem step_at {n i j k : Nat} {nm kd : ByteArray} {l : List STok} {d : Nat} {o : Option (List POp)} {u : STok} (hu : off [tTimes] u.text = true) (hk : numVal kd ≤ 99) {σ : Rd} {ops : List POp} (hc : condP n ⟨u :: l, d, none, none, o⟩ = ⟨σ.ahead, d, none, none, some ops⟩) : partP (n + 1) ⟨⟨3, i, nm⟩ :: ⟨5, j, tColon⟩ :: ⟨2, k, kd⟩ :: u :: l, d, none, none, o⟩ = (⟨σ.ahead, d, none, none, none⟩, .mk nm i 1 (numVal kd) ops []) := by
  unfold partP
  have hn : Rd.now ⟨(⟨3, i, nm⟩ : STok) :: ⟨5, j, tColon⟩ :: ⟨2, k, kd⟩ :: u :: l, d, none, none, o⟩ = ⟨3, i, nm⟩ := rfl
  rw [hn, if_pos rfl]
  unfold stepP
  have e1 : Rd.expect (Rd.skip ⟨(⟨3, i, nm⟩ : STok) :: ⟨5, j, tColon⟩ :: ⟨2, k, kd⟩ :: u :: l, d, none, none, o⟩) [tColon] = ⟨⟨2, k, kd⟩ :: u :: l, d, none, none, o⟩ := exp_ok (off_mem (t := tColon) (by simp))
  obtain ⟨e2, e3⟩ := num_okay (i := k) (l := u :: l) (d := d) (td := none) (bn := none) (o := o) (Nat.zero_le _) hk
  simp only [e1, e2, e3, hn]
  rw [has_cons, hu]
  simp only [Bool.not_true, Bool.false_eq_true, if_false]
  rw [hc]
  rfl
theorem rdp_step {m n : Nat} {g g1 g2 nm kd : List UInt8} {C : List Pc} {bo : List BOp} (hC : RdC m n C bo stopAll) (hi : IfHd C) (hk : numVal (txt kd) ≤ 99) : RdP m (n + 1) (⟨g, 3, nm⟩ :: ⟨g1, 5, [58]⟩ :: ⟨g2, 2, kd⟩ :: C) ⟨txt nm, 1, numVal (txt kd), bo⟩ := by
  intro ts ht r rest d o hd hr
  obtain ⟨i1, ts1, rfl, q1⟩ := ht.cons
  obtain ⟨i2, ts2, rfl, q2⟩ := q1.cons
  obtain ⟨i3, ts3, rfl, q3⟩ := q2.cons
  obtain ⟨u, us, hu, hut⟩ := hi.next q3 hr rest
  obtain ⟨ops, e1, e2⟩ := hC ts3 q3 r rest d o hd hr
  rw [hu] at e2
  refine ⟨.mk (txt nm) i1 1 (numVal (txt kd)) ops [], by unfold PPart.bare; simp only [PPart.name, PPart.times, PPart.kind, PPart.cond, e1], rfl, ?_⟩
  have := step_at (i := i1) (j := i2) (k := i3) (nm := txt nm) hut hk (σ := ⟨r :: rest, 0, none, none, none⟩) e2
  rw [List.cons_append, List.cons_append, List.cons_append, hu]
  exact this
theorem step_times {n i j k a b : Nat} {nm kd tn : ByteArray} {l : List STok} {d : Nat} {o : Option (List POp)} (hk : numVal kd ≤ 99) (ht : 1 ≤ numVal tn ∧ numVal tn ≤ 4) {σ : Rd} {ops : List POp} (hc : condP n ⟨l, d, none, none, o⟩ = ⟨σ.ahead, d, none, none, some ops⟩) : partP (n + 1) ⟨⟨3, i, nm⟩ :: ⟨5, j, tColon⟩ :: ⟨2, k, kd⟩ :: ⟨4, a, tTimes⟩ :: ⟨2, b, tn⟩ :: l, d, none, none, o⟩ = (⟨σ.ahead, d, none, none, none⟩, .mk nm i (numVal tn) (numVal kd) ops []) := by
  unfold partP
  have hn : Rd.now ⟨(⟨3, i, nm⟩ : STok) :: ⟨5, j, tColon⟩ :: ⟨2, k, kd⟩ :: ⟨4, a, tTimes⟩ :: ⟨2, b, tn⟩ :: l, d, none, none, o⟩ = ⟨3, i, nm⟩ := rfl
  rw [hn, if_pos rfl]
  unfold stepP
  have e1 : Rd.expect (Rd.skip ⟨(⟨3, i, nm⟩ : STok) :: ⟨5, j, tColon⟩ :: ⟨2, k, kd⟩ :: ⟨4, a, tTimes⟩ :: ⟨2, b, tn⟩ :: l, d, none, none, o⟩) [tColon] = ⟨⟨2, k, kd⟩ :: ⟨4, a, tTimes⟩ :: ⟨2, b, tn⟩ :: l, d, none, none, o⟩ := exp_ok (off_mem (t := tColon) (by simp))
  obtain ⟨e2, e3⟩ := num_okay (i := k) (l := ⟨4, a, tTimes⟩ :: ⟨2, b, tn⟩ :: l) (d := d) (td := none) (bn := none) (o := o) (Nat.zero_le _) hk
  obtain ⟨e4, e5⟩ := num_okay (i := b) (l := l) (d := d) (td := none) (bn := none) (o := o) ht.1 ht.2
  simp only [e1, e2, e3, hn]
  have hx : off [tTimes] tTimes = false := off_mem (by simp)
  rw [has_cons, hx]
  simp only [Bool.not_false, if_true]
  have e6 : Rd.skip ⟨(⟨4, a, tTimes⟩ : STok) :: ⟨2, b, tn⟩ :: l, d, none, none, o⟩ = ⟨⟨2, b, tn⟩ :: l, d, none, none, o⟩ := rfl
  rw [e6, e4, e5, hc]
  rfl
theorem rdp_times {m n : Nat} {g g1 g2 g3 g4 nm kd tn : List UInt8} {C : List Pc} {bo : List BOp} (hC : RdC m n C bo stopAll) (hk : numVal (txt kd) ≤ 99) (ht : 1 ≤ numVal (txt tn) ∧ numVal (txt tn) ≤ 4) : RdP m (n + 1) (⟨g, 3, nm⟩ :: ⟨g1, 5, [58]⟩ :: ⟨g2, 2, kd⟩ :: ⟨g3, 4, [116, 105, 109, 101, 115]⟩ :: ⟨g4, 2, tn⟩ :: C) ⟨txt nm, numVal (txt tn), numVal (txt kd), bo⟩ := by
  intro ts htm r rest d o hd hr
  obtain ⟨i1, ts1, rfl, q1⟩ := htm.cons
  obtain ⟨i2, ts2, rfl, q2⟩ := q1.cons
  obtain ⟨i3, ts3, rfl, q3⟩ := q2.cons
  obtain ⟨i4, ts4, rfl, q4⟩ := q3.cons
  obtain ⟨i5, ts5, rfl, q5⟩ := q4.cons
  obtain ⟨ops, e1, e2⟩ := hC ts5 q5 r rest d o hd hr
  refine ⟨.mk (txt nm) i1 (numVal (txt tn)) (numVal (txt kd)) ops [], by unfold PPart.bare; simp only [PPart.name, PPart.times, PPart.kind, PPart.cond, e1], rfl, ?_⟩
  have := step_times (i := i1) (j := i2) (k := i3) (a := i4) (b := i5) (nm := txt nm) hk ht (σ := ⟨r :: rest, 0, none, none, none⟩) e2
  rw [List.cons_append, List.cons_append, List.cons_append, List.cons_append, List.cons_append]
  exact this
theorem guard_at {n i k : Nat} {kd : ByteArray} {l : List STok} {d : Nat} {o : Option (List POp)} (hk : numVal kd ≤ 99) {σ : Rd} {ops : List POp} (hc : condP n ⟨l, d, none, none, o⟩ = ⟨σ.ahead, d, none, none, some ops⟩) : partP (n + 1) ⟨⟨4, i, tNot⟩ :: ⟨2, k, kd⟩ :: l, d, none, none, o⟩ = (⟨σ.ahead, d, none, none, none⟩, .mk ⟨#[]⟩ i 0 (numVal kd) ops []) := by
  unfold partP
  have hn : Rd.now ⟨(⟨4, i, tNot⟩ : STok) :: ⟨2, k, kd⟩ :: l, d, none, none, o⟩ = ⟨4, i, tNot⟩ := rfl
  have k1 : (⟨4, i, tNot⟩ : STok).is tNot = true := by unfold STok.is; simp
  have k0 : ¬ (⟨4, i, tNot⟩ : STok).kind = 3 := by show ¬ (4 : Nat) = 3; omega
  rw [hn, if_neg k0, if_pos k1]
  unfold guardP
  obtain ⟨e2, e3⟩ := num_okay (i := k) (l := l) (d := d) (td := none) (bn := none) (o := o) (Nat.zero_le _) hk
  have e6 : Rd.skip ⟨(⟨4, i, tNot⟩ : STok) :: ⟨2, k, kd⟩ :: l, d, none, none, o⟩ = ⟨⟨2, k, kd⟩ :: l, d, none, none, o⟩ := rfl
  simp only [e6, e2, e3, hn, hc]
  rfl
theorem rdp_guard {m n : Nat} {g g2 kd : List UInt8} {C : List Pc} {bo : List BOp} (hC : RdC m n C bo stopAll) (hk : numVal (txt kd) ≤ 99) : RdP m (n + 1) (⟨g, 4, [110, 111, 116]⟩ :: ⟨g2, 2, kd⟩ :: C) ⟨⟨#[]⟩, 0, numVal (txt kd), bo⟩ := by
  intro ts htm r rest d o hd hr
  obtain ⟨i1, ts1, rfl, q1⟩ := htm.cons
  obtain ⟨i2, ts2, rfl, q2⟩ := q1.cons
  obtain ⟨ops, e1, e2⟩ := hC ts2 q2 r rest d o hd hr
  refine ⟨.mk ⟨#[]⟩ i1 0 (numVal (txt kd)) ops [], by unfold PPart.bare; simp only [PPart.name, PPart.times, PPart.kind, PPart.cond, e1], rfl, ?_⟩
  have := guard_at (i := i1) (k := i2) hk (σ := ⟨r :: rest, 0, none, none, none⟩) e2
  rw [List.cons_append, List.cons_append]
  exact this
inductive SeqT (m n : Nat) : List Pc → List Lf → Prop
  | nil : SeqT m n [] []
  | cons {g : List UInt8} {L L' : List Pc} {x : Lf} {xs : List Lf} : RdP m n L x → SeqT m n L' xs → SeqT m n (⟨g, 4, [116, 104, 101, 110]⟩ :: (L ++ L')) (x :: xs)
def RdQ (m n : Nat) (L : List Pc) (xs : List Lf) : Prop :=
  ∀ ts, TM ts L → ∀ (r : STok) (rest : List STok) (d : Nat) (o : Option (List POp)), d + m ≤ 8 → off stopAll r.text = true → off [tThen] r.text = true → ∃ ps : List PPart, ps.map PPart.bare = xs ∧ (∀ p ∈ ps, p.choices = []) ∧ seqP (partP n) ⟨ts ++ r :: rest, d, none, none, o⟩ = (⟨r :: rest, d, none, none, none⟩, ps)
theorem seqT_read {m n : Nat} {L : List Pc} {xs : List Lf} (h : SeqT m n L xs) : ∀ ts, TM ts L → ∀ (r : STok) (rest : List STok) (d fuel : Nat) (l : List PPart), d + m ≤ 8 → off stopAll r.text = true → off [tThen] r.text = true → (ts ++ r :: rest).length ≤ fuel → off stopAll ((ts ++ r :: rest).headD default).text = true ∧ ∃ ps : List PPart, ps.map PPart.bare = xs ∧ (∀ p ∈ ps, p.choices = []) ∧ seqL (partP n) fuel ⟨ts ++ r :: rest, d, none, none, none⟩ l = (⟨r :: rest, d, none, none, none⟩, l ++ ps) := by
  induction h with
  | nil =>
    intro ts ht r rest d fuel l hd h1 h2 hf
    rw [ht.nil] at hf ⊢
    refine ⟨h1, [], rfl, by simp, ?_⟩
    cases fuel with
    | zero => simp at hf
    | succ fuel =>
      unfold seqL
      rw [List.nil_append, has_cons, h2]
      simp
  | @cons g L L' x xs hr _ ih =>
    intro ts ht r rest d fuel l hd h1 h2 hf
    obtain ⟨i, ts', rfl, q⟩ := ht.cons
    obtain ⟨t1, t2, rfl, ht1, ht2⟩ := q.app
    have hth : off stopAll (txt [116, 104, 101, 110]) = true := by kernel_rfl
    refine ⟨hth, ?_⟩
    cases fuel with
    | zero => simp at hf
    | succ fuel =>
      obtain ⟨u, us, hu⟩ : ∃ u us, t2 ++ r :: rest = u :: us := by cases t2 <;> exact ⟨_, _, rfl⟩
      have hl : (t2 ++ r :: rest).length ≤ fuel := by simp at hf ⊢; omega
      have hu1 := (ih t2 ht2 r rest d fuel [] hd h1 h2 hl).1
      rw [hu] at hu1
      obtain ⟨p, e1, e2, e3⟩ := hr t1 ht1 u us d none hd hu1
      obtain ⟨_, ps, e4, e5, e6⟩ := ih t2 ht2 r rest d fuel (l ++ [p]) hd h1 h2 hl
      refine ⟨p :: ps, by rw [List.map_cons, e1, e4], fun y hy => ?_, ?_⟩
      · rcases List.mem_cons.1 hy with rfl | hy
        · exact e2
        · exact e5 y hy
      · unfold seqL
        have hx : off [tThen] (txt [116, 104, 101, 110]) = false := off_mem (t := tThen) (by simp)
        rw [List.cons_append, has_cons, hx]
        have e7 : Rd.skip ⟨(⟨4, i, txt [116, 104, 101, 110]⟩ : STok) :: (t1 ++ t2 ++ r :: rest), d, none, none, none⟩ = ⟨t1 ++ u :: us, d, none, none, none⟩ := by
          simp only [Rd.skip, List.tail_cons, List.append_assoc, hu]
        simp only [Bool.not_false, if_true]
        rw [e7, e3]
        simp only
        rw [← hu, e6, List.append_assoc]
        rfl
theorem rdq_seq {m n : Nat} {L L' : List Pc} {x : Lf} {xs : List Lf} (h : RdP m n L x) (h' : SeqT m n L' xs) : RdQ m n (L ++ L') (x :: xs) := by
  intro ts ht r rest d o hd h1 h2
  obtain ⟨t1, t2, rfl, ht1, ht2⟩ := ht.app
  obtain ⟨u, us, hu⟩ : ∃ u us, t2 ++ r :: rest = u :: us := by cases t2 <;> exact ⟨_, _, rfl⟩
  have hu1 := (seqT_read h' t2 ht2 r rest d _ [] hd h1 h2 (Nat.le_refl _)).1
  rw [hu] at hu1
  obtain ⟨p, e1, e2, e3⟩ := h t1 ht1 u us d o hd hu1
  obtain ⟨_, ps, e4, e5, e6⟩ := seqT_read h' t2 ht2 r rest d _ [p] hd h1 h2 (Nat.le_refl _)
  refine ⟨p :: ps, by rw [List.map_cons, e1, e4], fun y hy => ?_, ?_⟩
  · rcases List.mem_cons.1 hy with rfl | hy
    · exact e2
    · exact e5 y hy
  · unfold seqP
    rw [List.append_assoc, hu, e3]
    simp only
    rw [← hu, e6]
    rfl
end Go.Proofs.YtddbjcfdmdbmkaaGreatDoor

namespace Go.Proofs.YtddbjcfdmdbmkaaGreatDoor
open Go.RowKit

def RdG (m n : Nat) (L : List Pc) (Q : List PPart → Prop) : Prop :=
  ∀ ts, TM ts L → ∀ (r : STok) (rest : List STok) (d : Nat) (o : Option (List POp)), d + m ≤ 8 → off stopAll r.text = true → off [tThen] r.text = true → ∃ ps : List PPart, Q ps ∧ seqP (partP n) ⟨ts ++ r :: rest, d, none, none, o⟩ = (⟨r :: rest, d, none, none, none⟩, ps)
def Flat (xs : List Lf) (ps : List PPart) : Prop := ps.map PPart.bare = xs ∧ ∀ p ∈ ps, p.choices = []
theorem RdQ.rdg {m n : Nat} {L : List Pc} {xs : List Lf} (h : RdQ m n L xs) : RdG m n L (Flat xs) := by
  intro ts ht r rest d o hd h1 h2
  obtain ⟨ps, e1, e2, e3⟩ := h ts ht r rest d o hd h1 h2
  exact ⟨ps, ⟨e1, e2⟩, e3⟩
def TwoB (xs ys : List Lf) (ps : List PPart) : Prop := ∃ a b, Flat xs a ∧ Flat ys b ∧ ps = [.mk ⟨#[]⟩ 0 0 0 [] [a, b]]
theorem brackets_at {n i j k d : Nat} {ta tb : List STok} {r : STok} {rest : List STok} {o : Option (List POp)} {a b : List PPart} (hd : d < 8) (ha : seqP (partP n) ⟨ta ++ ⟨5, j, tBar⟩ :: (tb ++ ⟨5, k, tClose⟩ :: r :: rest), d + 1, none, none, o⟩ = (⟨⟨5, j, tBar⟩ :: (tb ++ ⟨5, k, tClose⟩ :: r :: rest), d + 1, none, none, none⟩, a)) (hb : seqP (partP n) ⟨tb ++ ⟨5, k, tClose⟩ :: r :: rest, d + 1, none, none, none⟩ = (⟨⟨5, k, tClose⟩ :: r :: rest, d + 1, none, none, none⟩, b)) (hr : off [tThen] r.text = true) :
    seqP (partP (n + 1)) ⟨⟨5, i, tOpen⟩ :: (ta ++ ⟨5, j, tBar⟩ :: (tb ++ ⟨5, k, tClose⟩ :: r :: rest)), d, none, none, o⟩ = (⟨r :: rest, d, none, none, none⟩, [.mk ⟨#[]⟩ 0 0 0 [] [a, b]]) := by
  have hp : partP (n + 1) ⟨⟨5, i, tOpen⟩ :: (ta ++ ⟨5, j, tBar⟩ :: (tb ++ ⟨5, k, tClose⟩ :: r :: rest)), d, none, none, o⟩ = (⟨r :: rest, d, none, none, none⟩, .mk ⟨#[]⟩ 0 0 0 [] [a, b]) := by
    unfold partP
    have hn : ∀ l : List STok, Rd.now ⟨(⟨5, i, tOpen⟩ : STok) :: l, d, none, none, o⟩ = ⟨5, i, tOpen⟩ := fun _ => rfl
    have k0 : ¬ (⟨5, i, tOpen⟩ : STok).kind = 3 := by show ¬ (5 : Nat) = 3; omega
    have k1 : (⟨5, i, tOpen⟩ : STok).is tNot = false := is_off (by kernel_rfl)
    have k2 : (⟨5, i, tOpen⟩ : STok).is tOpen = true := by unfold STok.is; simp
    rw [hn, if_neg k0, k1, if_neg (by decide), if_pos k2]
    unfold bracketsP
    have e1 : Rd.expect ⟨(⟨5, j, tBar⟩ : STok) :: (tb ++ ⟨5, k, tClose⟩ :: r :: rest), d + 1, none, none, none⟩ [tBar] = ⟨tb ++ ⟨5, k, tClose⟩ :: r :: rest, d + 1, none, none, none⟩ := exp_ok (off_mem (t := tBar) (by simp))
    have e2 : Rd.expect ⟨(⟨5, k, tClose⟩ : STok) :: r :: rest, d + 1, none, none, none⟩ [tClose] = ⟨r :: rest, d + 1, none, none, none⟩ := exp_ok (off_mem (t := tClose) (by simp))
    have hx : off [tBar] tClose = true := by kernel_rfl
    rw [enter_ok hd]
    simp only [ha, e1, hb]
    have e3 : barL (seqP (partP n)) ((⟨5, k, tClose⟩ : STok) :: r :: rest).length ⟨⟨5, k, tClose⟩ :: r :: rest, d + 1, none, none, none⟩ [a, b] = (⟨⟨5, k, tClose⟩ :: r :: rest, d + 1, none, none, none⟩, [a, b]) := by
      rw [List.length_cons]
      unfold barL
      rw [has_cons, hx]
      simp
    rw [e3]
    simp only [e2]
    simp [Rd.leave]
  unfold seqP
  rw [hp]
  simp only [List.length_cons]
  unfold seqL
  rw [has_cons, hr]
  simp
theorem rdg_two {m n : Nat} {A B : List Pc} {xs ys : List Lf} {g g1 g2 : List UInt8} (ha : RdQ m n A xs) (hb : RdQ m n B ys) : RdG (m + 1) (n + 1) (⟨g, 5, [40]⟩ :: (A ++ (⟨g1, 5, [124]⟩ :: (B ++ [⟨g2, 5, [41]⟩])))) (TwoB xs ys) := by
  intro ts ht r rest d o hd h1 h2
  obtain ⟨i, ts1, rfl, q1⟩ := ht.cons
  obtain ⟨ta, t2, rfl, qa, q2⟩ := q1.app
  obtain ⟨j, t3, rfl, q3⟩ := q2.cons
  obtain ⟨tb, t4, rfl, qb, q4⟩ := q3.app
  obtain ⟨k, t5, rfl, q5⟩ := q4.cons
  have e0 := q5.nil
  subst e0
  have b1 : off stopAll tBar = true := by kernel_rfl
  have b2 : off [tThen] tBar = true := by kernel_rfl
  have b3 : off stopAll tClose = true := by kernel_rfl
  have b4 : off [tThen] tClose = true := by kernel_rfl
  obtain ⟨pa, a1, a2, a3⟩ := ha ta qa ⟨5, j, tBar⟩ (tb ++ ⟨5, k, tClose⟩ :: r :: rest) (d + 1) o (by omega) b1 b2
  obtain ⟨pb, c1, c2, c3⟩ := hb tb qb ⟨5, k, tClose⟩ (r :: rest) (d + 1) none (by omega) b3 b4
  refine ⟨_, ⟨pa, pb, ⟨a1, a2⟩, ⟨c1, c2⟩, rfl⟩, ?_⟩
  have := brackets_at (i := i) (by omega) a3 c3 h2
  have e : (⟨5, i, tOpen⟩ : STok) :: (ta ++ ⟨5, j, tBar⟩ :: (tb ++ [⟨5, k, tClose⟩])) ++ r :: rest = ⟨5, i, tOpen⟩ :: (ta ++ ⟨5, j, tBar⟩ :: (tb ++ ⟨5, k, tClose⟩ :: r :: rest)) := by simp
  rw [← e] at this
  exact this
def headPc (g : List UInt8) (W R : List UInt8) : List Pc := [⟨g, 4, [119, 105, 116, 104, 105, 110]⟩, ⟨[32], 2, W⟩, ⟨[32], 4, [114, 97, 116, 101]⟩, ⟨[32], 2, R⟩]
theorem pat_at {n i1 i2 i3 i4 : Nat} {W R : ByteArray} (hW : 1 ≤ numVal W ∧ numVal W ≤ 1000000) (hR : 1 ≤ numVal R ∧ numVal R ≤ 12) {l : List STok} {e : STok} {body : List PPart} (hs : seqP (partP n) ⟨l, 0, none, none, some []⟩ = (⟨[e], 0, none, none, none⟩, body)) :
    patP n (rd0 (⟨4, i1, tWithin⟩ :: ⟨2, i2, W⟩ :: ⟨4, i3, tRate⟩ :: ⟨2, i4, R⟩ :: l)) = (⟨[e], 0, none, none, none⟩, ⟨numVal W, numVal R, body⟩) := by
  unfold patP rd0
  have e1 : Rd.expect ⟨(⟨4, i1, tWithin⟩ : STok) :: ⟨2, i2, W⟩ :: ⟨4, i3, tRate⟩ :: ⟨2, i4, R⟩ :: l, 0, none, none, some []⟩ [tWithin] = ⟨⟨2, i2, W⟩ :: ⟨4, i3, tRate⟩ :: ⟨2, i4, R⟩ :: l, 0, none, none, some []⟩ := exp_ok (off_mem (t := tWithin) (by simp))
  have e2 : Rd.expect ⟨(⟨4, i3, tRate⟩ : STok) :: ⟨2, i4, R⟩ :: l, 0, none, none, some []⟩ [tRate] = ⟨⟨2, i4, R⟩ :: l, 0, none, none, some []⟩ := exp_ok (off_mem (t := tRate) (by simp))
  obtain ⟨e3, e4⟩ := num_okay (i := i2) (l := ⟨4, i3, tRate⟩ :: ⟨2, i4, R⟩ :: l) (d := 0) (td := none) (bn := none) (o := some []) hW.1 hW.2
  obtain ⟨e5, e6⟩ := num_okay (i := i4) (l := l) (d := 0) (td := none) (bn := none) (o := some []) hR.1 hR.2
  simp only [e1, e3, e4, e2, e5, e6, hs]
theorem read_lay {m : Nat} {g W R : List UInt8} {L : List Pc} {Q : List PPart → Prop} (hm : m ≤ 8) (hW : 1 ≤ numVal (txt W) ∧ numVal (txt W) ≤ 1000000) (hR : 1 ≤ numVal (txt R) ∧ numVal (txt R) ≤ 12) (hL : 3 ≤ L.length) (hQ : ∀ n, RdG m (n + 8) L Q) (at_ : Nat) :
    ∃ body, Q body ∧ readP (toksAt at_ (headPc g W R ++ L)) = .inl (⟨numVal (txt W), numVal (txt R), body⟩, 0) := by
  obtain ⟨ts, e, h1, h2⟩ := toks_tm (headPc g W R ++ L) at_
  have hlen : ts.length = (headPc g W R ++ L).length := by have := congrArg List.length h2; simpa using this
  have hl2 : (headPc g W R ++ L).length = L.length + 4 := by simp [headPc]
  obtain ⟨i1, t1, rfl, q1⟩ := h2.cons
  obtain ⟨i2, t2, rfl, q2⟩ := q1.cons
  obtain ⟨i3, t3, rfl, q3⟩ := q2.cons
  obtain ⟨i4, t4, rfl, q4⟩ := q3.cons
  rw [h1]
  have f1 : off stopAll ⟨#[]⟩ = true := by kernel_rfl
  have f2 : off [tThen] ⟨#[]⟩ = true := by kernel_rfl
  obtain ⟨body, hq, hs⟩ := hQ (L.length - 3) t4 q4 ⟨1, e, ⟨#[]⟩⟩ [] 0 (some []) (by omega) f1 f2
  refine ⟨body, hq, ?_⟩
  have hp := pat_at (i1 := i1) (i2 := i2) (i3 := i3) (i4 := i4) hW hR hs
  generalize hT : (⟨4, i1, txt [119, 105, 116, 104, 105, 110]⟩ : STok) :: ⟨2, i2, txt W⟩ :: ⟨4, i3, txt [114, 97, 116, 101]⟩ :: ⟨2, i4, txt R⟩ :: t4 ++ [⟨1, e, ⟨#[]⟩⟩] = T
  have hT2 : (⟨4, i1, tWithin⟩ : STok) :: ⟨2, i2, txt W⟩ :: ⟨4, i3, tRate⟩ :: ⟨2, i4, txt R⟩ :: (t4 ++ [⟨1, e, ⟨#[]⟩⟩]) = T := hT
  have hTl : T.length = L.length - 3 + 8 := by
    rw [← hT]
    simp only [List.length_cons] at hlen
    simp only [List.length_append, List.length_cons, List.length_nil]
    omega
  rw [hT2] at hp
  show readP T = _
  unfold readP
  rw [hTl, hp]
  rfl
end Go.Proofs.YtddbjcfdmdbmkaaGreatDoor
