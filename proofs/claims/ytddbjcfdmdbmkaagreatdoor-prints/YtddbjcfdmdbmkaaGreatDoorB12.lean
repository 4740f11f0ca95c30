import Derived.Test.YtddbjcfdmdbmkaaGreatDoorB05
import Derived.Test.YtddbjcfdmdbmkaaGreatDoorB04
import Derived.Test.YtddbjcfdmdbmkaaGreatDoorB03
import Derived.Lib.Strings
set_option linter.unusedVariables false
set_option linter.unusedSimpArgs false
/-
  The program's scanner: its tokens are such as the reader wants.
-/
namespace Go.Proofs.YtddbjcfdmdbmkaaGreatDoor
open Go.RowKit

theorem span0 (p : UInt8 → Bool) (s : ByteArray) : spanP p s = (s.data.toList.takeWhile p).length := by simp [spanP, spanTo]
theorem spanP_le (p : UInt8 → Bool) (s : ByteArray) : spanP p s ≤ s.size := span_le p s 0 (Nat.zero_le _)
theorem spanP_pos (p : UInt8 → Bool) (s : ByteArray) (h : 0 < s.size) (hp : p (s.data.toList.getD 0 0) = true) : 1 ≤ spanP p s := by
  rw [byte_at s 0 h] at hp
  have := span_step p s 0 h hp
  have := span_ge p s (0 + 1)
  unfold spanP; omega
theorem ex_list (s : ByteArray) (a b : Nat) : (s.extract a b).data.toList = (s.data.toList.drop a).take (b - a) := by
  simp [ByteArray.data_extract, List.take_drop]
theorem ex_size (s : ByteArray) (a b : Nat) : (s.extract a b).size = min b s.size - a := by simp
theorem toList_data (s : ByteArray) : s.toList = s.data.toList := Lib.toList_data s
/-- what is asked for has no more than six bytes; of one byte it is one of these -/
theorem kw_short : (KW.all fun k => decide (k.data.toList.length ≤ 6) && (decide (k.data.toList.length ≠ 1) || memB (k.data.toList.getD 0 0) ([40, 41, 124, 58, 46, 43, 45, 42, 47, 61, 60, 62, 97, 98, 99, 116] : List UInt8))) = true := by kernel_rfl
theorem kw_not_long {k t : ByteArray} (hk : k ∈ KW) (ht : 6 < t.size) : (k.toList == t.toList) = false := by
  have := List.all_eq_true.1 kw_short k hk
  simp only [Bool.and_eq_true, decide_eq_true_eq] at this
  rw [beq_eq_false_iff_ne, toList_data, toList_data]
  intro e
  have e' := congrArg List.length e
  have hs : t.data.toList.length = t.size := by simp
  omega
theorem kw_not_byte {k t : ByteArray} (hk : k ∈ KW) (ht : t.size = 1) (hb : memB (t.data.toList.getD 0 0) ([40, 41, 124, 58, 46, 43, 45, 42, 47, 61, 60, 62, 97, 98, 99, 116] : List UInt8) = false) : (k.toList == t.toList) = false := by
  have := List.all_eq_true.1 kw_short k hk
  simp only [Bool.and_eq_true, Bool.or_eq_true, decide_eq_true_eq] at this
  rw [beq_eq_false_iff_ne, toList_data, toList_data]
  intro e
  have hs : t.data.toList.length = t.size := by simp
  rw [e] at this
  rcases this.2 with h | h
  · omega
  · rw [hb] at h; cases h
theorem kw_not_empty {k t : ByteArray} (hk : k ∈ KW) (ht : t.size = 0) : (k.toList == t.toList) = false := by
  have := List.all_eq_true.1 kw_some k hk
  have hs : t.data.toList = [] := List.eq_nil_of_length_eq_zero (by rw [← ht]; simp)
  rw [beq_eq_false_iff_ne, toList_data, toList_data, hs]
  intro e
  rw [toList_data, e] at this
  simp at this

theorem headP_len {r : ByteArray} (h : 0 < r.size) : 1 ≤ (headP r).2 ∧ (headP r).2 ≤ r.size := by
  unfold headP wordP numberP longerP
  simp only
  split
  · rename_i hs
    have h1 := spanP_pos isSmallB r h hs; have h2 := spanP_le isSmallB r
    split
    · exact ⟨h1, h2⟩
    · split <;> exact ⟨h1, h2⟩
  split
  · rename_i hs
    have h1 := spanP_pos isDigitB r h hs; have h2 := spanP_le isDigitB r
    split <;> exact ⟨h1, h2⟩
  split
  · split
    · rename_i hl; simp only [Bool.and_eq_true, decide_eq_true_eq] at hl; exact ⟨by omega, by omega⟩
    · exact ⟨by omega, by omega⟩
  split
  · split
    · rename_i hl; simp only [Bool.and_eq_true, decide_eq_true_eq] at hl; exact ⟨by omega, by omega⟩
    · exact ⟨by omega, by omega⟩
  split <;> exact ⟨by omega, by omega⟩
/-- a wrong token: long, or one byte that is none of those that are asked for -/
theorem headP_wrong {r : ByteArray} (hk : (headP r).1 ≤ 1) :
    8 < (headP r).2 ∨ ((headP r).2 = 1 ∧ memB (r.data.toList.getD 0 0) ([40, 41, 124, 58, 46, 43, 45, 42, 47, 61, 60, 62, 97, 98, 99, 116] : List UInt8) = false) := by
  revert hk
  unfold headP wordP numberP
  simp only
  generalize r.data.toList.getD 0 0 = b
  split
  · split
    · intro hk; simp at hk
    · split
      · rename_i h8; intro _; exact .inl h8
      · intro hk; simp at hk
  rename_i hs
  split
  · split
    · rename_i h8; intro _; left; show 8 < _; omega
    · intro hk; simp at hk
  split
  · split
    · intro hk; simp at hk
    · rename_i e _; intro _; right; have e' : b = 33 := by simpa using e
      subst e'; exact ⟨rfl, by decide⟩
  split
  · split <;> (intro hk; simp at hk)
  split
  · intro hk; simp at hk
  · rename_i h1 h2 h3 h4
    intro _; right; refine ⟨rfl, ?_⟩
    simp only [memB, signsP, List.any_cons, List.any_nil, Bool.or_false, Bool.or_eq_true, not_or, beq_iff_eq] at h3 h4 ⊢
    simp only [isSmallB, Bool.and_eq_true, decide_eq_true_eq, not_and] at hs
    have ne : ∀ c : UInt8, 97 ≤ c.toNat → c.toNat ≤ 122 → ¬ c = b := fun c h1 h2 e => hs (e ▸ h1) (e ▸ h2)
    have n1 := ne 97 (by decide) (by decide); have n2 := ne 98 (by decide) (by decide); have n3 := ne 99 (by decide) (by decide); have n4 := ne 116 (by decide) (by decide)
    have m1 : ¬ (60 : UInt8) = b := fun e => h3.1 e.symm
    have m2 : ¬ (62 : UInt8) = b := fun e => h3.2 e.symm
    simp [h4, n1, n2, n3, n4, m1, m2]
theorem headP_number {r : ByteArray} (h : 0 < r.size) (hk : (headP r).1 = 2) : digitsOK (r.extract 0 (headP r).2) := by
  revert hk
  unfold headP wordP numberP
  simp only
  split
  · split
    · intro hk; simp at hk
    · split <;> (intro hk; simp at hk)
  split
  · rename_i hd
    split
    · intro hk; simp at hk
    · rename_i h9
      intro _
      have h1 := spanP_pos isDigitB r h hd; have h2 := spanP_le isDigitB r
      refine ⟨by rw [ex_size]; show 1 ≤ min (spanP isDigitB r) r.size - 0; omega, by rw [ex_size]; show min (spanP isDigitB r) r.size - 0 ≤ 9; omega, ?_⟩
      intro c hc
      rw [ex_list, List.drop_zero, Nat.sub_zero] at hc
      have e : r.data.toList.take (spanP isDigitB r) = r.data.toList.takeWhile isDigitB := by
        rw [span0]; exact (List.prefix_iff_eq_take.1 (List.takeWhile_prefix _)).symm
      rw [e] at hc
      have all : ∀ l : List UInt8, ∀ c ∈ l.takeWhile isDigitB, isDigitB c = true := by
        intro l
        induction l with
        | nil => intro c hc; simp at hc
        | cons x l ih =>
          intro c hc
          rw [List.takeWhile_cons] at hc
          split at hc
          · rename_i hx
            rcases List.mem_cons.1 hc with e | hc
            · exact e ▸ hx
            · exact ih c hc
          · simp at hc
      exact all _ c hc
  split
  · split <;> (intro hk; simp at hk)
  split
  · split <;> (intro hk; simp at hk)
  split <;> (intro hk; simp at hk)

theorem headP_kind (r : ByteArray) : (headP r).1 = 0 ∨ 2 ≤ (headP r).1 := by
  unfold headP wordP numberP
  simp only
  repeat' split
  all_goals first | exact .inl rfl | exact .inr (by simp)
theorem ex_ex (s : ByteArray) (i n : Nat) (h : i + n ≤ s.size) : (s.extract i s.size).extract 0 n = s.extract i (i + n) := by
  apply ByteArray.ext
  apply Array.toList_inj.1
  rw [ex_list, ex_list, ex_list]
  simp only [List.drop_zero, Nat.sub_zero, List.take_take]
  congr 1
  omega
theorem stokAt_spec (s : ByteArray) (at_ : Nat) (h : at_ ≤ s.size) :
    at_ ≤ (stokAt s at_).place ∧ (stokAt s at_).place + (stokAt s at_).text.size ≤ s.size ∧
    ((stokAt s at_).kind ≤ 1 → EndOK (stokAt s at_)) ∧ (2 ≤ (stokAt s at_).kind → TokOK (stokAt s at_) ∧ 1 ≤ (stokAt s at_).text.size) := by
  have h1 := span_ge isBlankB s at_
  have h2 := span_le isBlankB s at_ h
  unfold stokAt
  simp only
  generalize spanTo isBlankB s at_ = i at *
  by_cases he : (s.extract i s.size).size = 0
  · have e : firstP (s.extract i s.size) = (1, 0) := by unfold firstP; rw [if_pos he]
    rw [e]
    refine ⟨h1, by rw [ex_size]; show i + (min (i + 0) s.size - i) ≤ _; omega, fun _ => ⟨by show (1 : Nat) ≤ 1; omega, fun k hk => kw_not_empty hk (by rw [ex_size]; show min (i + 0) s.size - i = 0; omega)⟩, fun hh => absurd hh (by show ¬ 2 ≤ 1; omega)⟩
  · have hpos : 0 < (s.extract i s.size).size := by omega
    have e : firstP (s.extract i s.size) = headP (s.extract i s.size) := by unfold firstP; rw [if_neg he]
    rw [e]
    have hl := headP_len hpos
    have hz : (s.extract i s.size).size = s.size - i := by rw [ex_size]; omega
    have hx := ex_ex s i (headP (s.extract i s.size)).2 (by omega)
    have hts : (s.extract i (i + (headP (s.extract i s.size)).2)).size = (headP (s.extract i s.size)).2 := by rw [ex_size]; omega
    refine ⟨h1, by rw [hts]; show i + _ ≤ _; omega, fun hk => ⟨hk, fun k hkk => ?_⟩, fun hk => ⟨⟨hk, fun h2k => ?_⟩, by rw [hts]; exact hl.1⟩⟩
    · show (k.toList == (s.extract i (i + (headP (s.extract i s.size)).2)).toList) = false
      rcases headP_wrong hk with h8 | ⟨h1', hm⟩
      · exact kw_not_long hkk (by rw [hts]; omega)
      · refine kw_not_byte hkk (by rw [hts]; exact h1') ?_
        rw [← hx, h1', ex_list]
        have : ∀ l : List UInt8, (List.take (1 - 0) (l.drop 0)).getD 0 0 = l.getD 0 0 := fun l => by cases l <;> rfl
        rw [this]; exact hm
    · show digitsOK (s.extract i (i + (headP (s.extract i s.size)).2))
      rw [← hx]; exact headP_number hpos h2k
theorem stoks_good (s : ByteArray) : ∀ n at_, at_ ≤ s.size → s.size - at_ < n → SGood (stoks s n at_) ∧ (stoks s n at_).length ≤ s.size - at_ + 1 := by
  intro n
  induction n with
  | zero => intro at_ _ h; omega
  | succ n ih =>
    intro at_ h hn
    obtain ⟨p1, p2, p3, p4⟩ := stokAt_spec s at_ h
    unfold stoks
    split
    · rename_i hk; exact ⟨p3 hk, by simp⟩
    · rename_i hk
      obtain ⟨q1, q2⟩ := p4 (by omega)
      have r := ih ((stokAt s at_).place + (stokAt s at_).text.size) p2 (by omega)
      refine ⟨?_, by rw [List.length_cons]; omega⟩
      cases hl : stoks s n ((stokAt s at_).place + (stokAt s at_).text.size) with
      | nil => rw [hl] at r; exact r.1.elim
      | cons a l => rw [hl] at r; exact ⟨q1, r.1⟩
theorem tokensP_good (s : ByteArray) : SGood (tokensP s) ∧ (tokensP s).length ≤ s.size + 1 := stoks_good s _ 0 (Nat.zero_le _) (by omega)
end Go.Proofs.YtddbjcfdmdbmkaaGreatDoor

/-
  Both readers, plain: tokens.
-/
namespace Go.Proofs.YtddbjcfdmdbmkaaGreatDoor
open Go.RowKit

/-- the first byte of a text -/
def byte0 (t : ByteArray) : UInt8 := t.data.toList.getD 0 0
/-- One token of the program against one of the document; neither is the last. -/
def LiveT (t : STok) (u : RTok) : Prop := t.place = u.pos ∧
  ((t.kind = 2 ∧ u.kind = 1 ∧ u.n = numVal t.text ∧ digitsOK t.text) ∨
   (t.kind = 3 ∧ u.kind = 0 ∧ u.s = t.text ∧ u.isName = true ∧ isSmallB (byte0 t.text) = true) ∨
   (t.kind = 4 ∧ u.kind = 0 ∧ u.s = t.text ∧ isResv t.text = true ∧ isSmallB (byte0 t.text) = true) ∨
   (t.kind = 5 ∧ u.kind = 2 ∧ u.s = t.text ∧ isSmallB (byte0 t.text) = false))
/-- the program's last token -/
def LastT (t : STok) (u : RTok) : Prop := t.place = u.pos ∧ ((t.kind = 1 ∧ u.kind = 3) ∨ (t.kind = 0 ∧ (u.kind = 4 ∨ (u.kind = 0 ∧ 8 < u.s.size)))) ∧ ∀ k ∈ KW, (k.toList == t.text.toList) = false
def TR : List STok → List RTok → Prop
  | [], _ => False
  | _, [] => False
  | [t], u :: _ => LastT t u
  | t :: t' :: l, u :: m => LiveT t u ∧ t.place < t'.place ∧ TR (t' :: l) m

theorem TR.len {l : List STok} {m : List RTok} (h : TR l m) : 0 < l.length ∧ 0 < m.length := by
  match l, m, h with
  | [], _, h => exact h.elim
  | [_], [], h => exact h.elim
  | _ :: _ :: _, [], h => exact h.elim
  | [_], _ :: _, _ => simp
  | _ :: _ :: _, _ :: _, _ => simp
/-- the heads, and what is behind them -/
theorem TR.head {l : List STok} {m : List RTok} (h : TR l m) : (l.length = 1 ∧ LastT (l.headD default) (m.headD default)) ∨
    (2 ≤ l.length ∧ LiveT (l.headD default) (m.headD default) ∧ (l.headD default).place < (l.tail.headD default).place ∧ TR l.tail m.tail) := by
  match l, m, h with
  | [], _, h => exact h.elim
  | [_], [], h => exact h.elim
  | _ :: _ :: _, [], h => exact h.elim
  | [_], _ :: _, h => exact .inl ⟨rfl, h⟩
  | _ :: _ :: _, _ :: _, h => exact .inr ⟨by simp, h.1, h.2.1, h.2.2⟩

theorem kw_first : (KW.all fun k => !(isDigitB (byte0 k))) = true := by kernel_rfl
theorem kw_not_digits {k t : ByteArray} (hk : k ∈ KW) (ht : digitsOK t) : (k.toList == t.toList) = false := by
  have := List.all_eq_true.1 kw_first k hk
  rw [beq_eq_false_iff_ne, toList_data, toList_data]
  intro e
  obtain ⟨h1, _, h3⟩ := ht
  have hs : t.data.toList.length = t.size := by simp
  simp only [byte0, e] at this
  have hm : t.data.toList.getD 0 0 ∈ t.data.toList := by
    rw [List.getD_eq_getElem?_getD, List.getElem?_eq_getElem (by omega)]
    simp only [Option.getD_some]
    exact List.getElem_mem _
  rw [h3 _ hm] at this
  cases this

theorem beq_comm' (a b : List UInt8) : (a == b) = (b == a) := by
  cases h : (a == b) with
  | true => rw [beq_iff_eq] at h; subst h; simp
  | false => rw [beq_eq_false_iff_ne] at h; exact (beq_eq_false_iff_ne.2 (Ne.symm h)).symm

/-- What is asked for: both say the same. -/
theorem is_last {t : STok} {u : RTok} (h : LastT t u) {k : ByteArray} (hk : k ∈ KW) : t.is k = false ∧ u.isS k = false := by
  obtain ⟨_, h1, h2⟩ := h
  refine ⟨by unfold STok.is; rw [beq_comm']; exact h2 k hk, ?_⟩
  unfold RTok.isS
  rcases h1 with ⟨_, h⟩ | ⟨_, h | ⟨h, h8⟩⟩
  · simp [h]
  · simp [h]
  · have := kw_not_long hk (t := u.s) (by omega)
    rw [beq_comm'] at this
    simp [this]
theorem is_live {t : STok} {u : RTok} (h : LiveT t u) {k : ByteArray} (hk : k ∈ KW) : t.is k = u.isS k := by
  unfold STok.is RTok.isS
  obtain ⟨_, ⟨_, h, _, hd⟩ | ⟨_, h, hs, _⟩ | ⟨_, h, hs, _⟩ | ⟨_, h, hs, _⟩⟩ := h
  · have := kw_not_digits hk hd
    rw [beq_comm'] at this
    simp [h, this]
  · simp [h, hs]
  · simp [h, hs]
  · simp [h, hs]
theorem TR.is {l : List STok} {m : List RTok} (h : TR l m) {k : ByteArray} (hk : k ∈ KW) : (l.headD default).is k = (m.headD default).isS k := by
  rcases h.head with ⟨_, h⟩ | ⟨_, h, _⟩
  · have := is_last h hk; rw [this.1, this.2]
  · exact is_live h hk
theorem TR.is2 {l : List STok} {m : List RTok} (h : TR l m) {k : ByteArray} (hk : k ∈ KW) (hh : (l.headD default).is k = true) : 2 ≤ l.length := by
  rcases h.head with ⟨_, h⟩ | ⟨h2, _⟩
  · have := is_last h hk; rw [this.1] at hh; cases hh
  · exact h2
theorem TR.num {l : List STok} {m : List RTok} (h : TR l m) : ((l.headD default).kind = 2 ↔ (m.headD default).kind = 1) ∧ ((l.headD default).kind = 2 → 2 ≤ l.length ∧ (m.headD default).n = numVal (l.headD default).text ∧ (m.headD default).pos = (l.headD default).place) := by
  rcases h.head with ⟨_, hp, h, _⟩ | ⟨h2, ⟨hp, h⟩, _⟩
  · rcases h with ⟨h, h'⟩ | ⟨h, h' | ⟨h', _⟩⟩ <;> refine ⟨by rw [h, h']; decide, fun e => by rw [h] at e; cases e⟩
  · rcases h with ⟨h, h', hn, _⟩ | ⟨h, h', _⟩ | ⟨h, h', _⟩ | ⟨h, h', _⟩
    · exact ⟨by rw [h, h']; decide, fun _ => ⟨h2, hn, hp.symm⟩⟩
    all_goals exact ⟨by rw [h, h']; decide, fun e => by rw [h] at e; cases e⟩
theorem notName {u : RTok} (h : u.kind ≠ 0 ∨ 8 < u.s.size) : u.isName = false := by
  unfold RTok.isName
  rcases h with h | h
  · simp [h]
  · have : decide (u.s.size ≤ 8) = false := by simp only [decide_eq_false_iff_not]; omega
    simp [this]
theorem TR.name {l : List STok} {m : List RTok} (h : TR l m) : ((l.headD default).kind = 3 ↔ (m.headD default).isName = true) ∧ ((l.headD default).kind = 3 → 2 ≤ l.length ∧ (m.headD default).s = (l.headD default).text) := by
  rcases h.head with ⟨_, hp, h, _⟩ | ⟨h2, ⟨hp, h⟩, _⟩
  · have hn : (m.headD default).isName = false := by
      refine notName ?_
      rcases h with ⟨_, h'⟩ | ⟨_, h' | ⟨h', h8⟩⟩
      · left; omega
      · left; omega
      · right; exact h8
    refine ⟨by rw [hn]; rcases h with ⟨h, _⟩ | ⟨h, _⟩ <;> rw [h] <;> decide, fun e => by rcases h with ⟨h, _⟩ | ⟨h, _⟩ <;> (rw [h] at e; cases e)⟩
  · rcases h with ⟨h, h', _⟩ | ⟨h, h', hs, hn, _⟩ | ⟨h, h', hs, hr, _⟩ | ⟨h, h', _⟩
    · have hn : (m.headD default).isName = false := notName (.inl (by omega))
      exact ⟨by rw [h, hn]; decide, fun e => by rw [h] at e; cases e⟩
    · exact ⟨by rw [h, hn]; decide, fun _ => ⟨h2, hs⟩⟩
    · have hn : (m.headD default).isName = false := by
        unfold RTok.isName
        unfold isResv at hr
        rw [List.any_eq_true] at hr
        obtain ⟨x, hx, he⟩ := hr
        rw [Bool.and_eq_false_iff]; right
        rw [List.all_eq_false]
        exact ⟨x, hx, by rw [hs, he]; decide⟩
      exact ⟨by rw [h, hn]; decide, fun e => by rw [h] at e; cases e⟩
    · have hn : (m.headD default).isName = false := notName (.inl (by omega))
      exact ⟨by rw [h, hn]; decide, fun e => by rw [h] at e; cases e⟩
theorem TR.end {l : List STok} {m : List RTok} (h : TR l m) : ((l.headD default).kind = 1 ↔ (m.headD default).kind = 3) := by
  rcases h.head with ⟨_, hp, h, _⟩ | ⟨h2, ⟨hp, h⟩, _⟩
  · rcases h with ⟨h, h'⟩ | ⟨h, h' | ⟨h', _⟩⟩ <;> (rw [h, h']; decide)
  · rcases h with ⟨h, h', hn, _⟩ | ⟨h, h', _⟩ | ⟨h, h', _⟩ | ⟨h, h', _⟩ <;> (rw [h, h']; decide)
theorem TR.place {l : List STok} {m : List RTok} (h : TR l m) : (l.headD default).place = (m.headD default).pos := by
  rcases h.head with ⟨_, hp, _⟩ | ⟨_, ⟨hp, _⟩, _⟩ <;> exact hp
/-- words and signs -/
theorem TR.small {l : List STok} {m : List RTok} (h : TR l m) {k : ByteArray} (hk : k ∈ KW) (hh : (l.headD default).is k = true) : (m.headD default).kind = if isSmallB (byte0 k) then 0 else 2 := by
  have e : byte0 (l.headD default).text = byte0 k := by
    unfold STok.is at hh
    rw [beq_iff_eq, toList_data, toList_data] at hh
    unfold byte0; rw [hh]
  rcases h.head with ⟨_, h⟩ | ⟨_, ⟨_, h⟩, _⟩
  · have := is_last h hk; rw [this.1] at hh; cases hh
  · rcases h with ⟨_, h', hn, hd⟩ | ⟨_, h', _, _, hb⟩ | ⟨_, h', _, _, hb⟩ | ⟨_, h', _, hb⟩
    · have := kw_not_digits hk hd
      unfold STok.is at hh
      rw [beq_comm', hh] at this; cases this
    all_goals rw [h', ← e, hb]; rfl
theorem TR.text {l : List STok} {m : List RTok} (h : TR l m) {k : ByteArray} (hk : k ∈ KW) (hh : (l.headD default).is k = true) : (m.headD default).s = (l.headD default).text := by
  rcases h.head with ⟨_, h⟩ | ⟨_, ⟨_, h⟩, _⟩
  · have := is_last h hk; rw [this.1] at hh; cases hh
  · rcases h with ⟨_, h', hn, hd⟩ | ⟨_, h', hs, _, hb⟩ | ⟨_, h', hs, _, hb⟩ | ⟨_, h', hs, hb⟩
    · have := kw_not_digits hk hd
      unfold STok.is at hh
      rw [beq_comm', hh] at this; cases this
    all_goals exact hs
end Go.Proofs.YtddbjcfdmdbmkaaGreatDoor

/-
  Both readers, plain: states and small steps.
-/
namespace Go.Proofs.YtddbjcfdmdbmkaaGreatDoor
open Go.RowKit

/-- the document's first number that is out of bounds -/
def outs (τ : PSt) : Option Nat := ((τ.nums.zip (τ.lo.zip τ.hi)).find? fun x => decide ((x.1.n : Int) < x.2.1 ∨ x.2.2 < (x.1.n : Int))).map fun x => x.1.pos
def DeepR (td : Option Nat) (d : Int) : Prop := match td with | none => d = -1 | some p => d = p
structure TInv (τ : PSt) : Prop where
  nodes : τ.nodes.length ≤ 2 * τ.i
  nums : τ.nums.length ≤ τ.i
  lo : τ.lo.length = τ.nums.length
  hi : τ.hi.length = τ.nums.length
  inside : τ.inside ≤ τ.i
  toks : τ.toks.length ≤ 601
  wlo : -1 ≤ τ.wrong
  ilt : τ.i < τ.toks.length
/-- Both readers stand at the same token, and have found the same; or both know that it is wrong. -/
structure Rel (σ : Rd) (τ : PSt) : Prop where
  inv : TInv τ
  alt : (τ.wrong < 0 ∧ TR σ.ahead (τ.toks.drop τ.i) ∧ σ.deep = τ.inside ∧ DeepR σ.td τ.deep ∧ σ.bn = outs τ) ∨ (0 ≤ τ.wrong ∧ σ.ahead = [⟨0, τ.wrong.toNat, ⟨#[]⟩⟩])
theorem now_drop (τ : PSt) : τ.now = (τ.toks.drop τ.i).headD default := by
  unfold PSt.now
  rw [List.headD_eq_head?_getD, List.head?_drop]
theorem Rel.tr {σ : Rd} {τ : PSt} (h : Rel σ τ) (hw : τ.wrong < 0) : TR σ.ahead (τ.toks.drop τ.i) := by
  rcases h.alt with h | h
  · exact h.2.1
  · omega
theorem Rel.dead {σ : Rd} {τ : PSt} (h : Rel σ τ) (hw : 0 ≤ τ.wrong) : σ.ahead = [⟨0, τ.wrong.toNat, ⟨#[]⟩⟩] := by
  rcases h.alt with h | h
  · omega
  · exact h.2
theorem dead_is {σ : Rd} {p : Nat} (h : σ.ahead = [⟨0, p, ⟨#[]⟩⟩]) {k : ByteArray} (hk : k ∈ KW) : σ.now.is k = false := by
  unfold Rd.now STok.is
  rw [h]
  simp only [List.headD]
  have := List.all_eq_true.1 kw_some k hk
  simp only [Bool.not_eq_true'] at this
  rw [beq_comm']; exact this
/-- is it this one? -/
theorem Rel.is {σ : Rd} {τ : PSt} (h : Rel σ τ) {k : ByteArray} (hk : k ∈ KW) : σ.now.is k = τ.isS k := by
  unfold PSt.isS
  by_cases hw : τ.wrong < 0
  · rw [now_drop]
    simp only [hw, decide_true, Bool.true_and]
    exact (h.tr hw).is hk
  · simp only [hw, decide_false, Bool.false_and]
    exact dead_is (h.dead (by omega)) hk
theorem has_is (σ : Rd) (k : ByteArray) : σ.has [k] = σ.now.is k := by
  simp only [Rd.has, List.any_cons, List.any_nil, Bool.or_false, STok.is]; exact beq_comm' _ _
theorem has_any (σ : Rd) (ts : List ByteArray) : σ.has ts = ts.any fun k => σ.now.is k := by
  unfold Rd.has STok.is
  congr 1; funext k; exact beq_comm' _ _
theorem isS_live {τ : PSt} {k : ByteArray} (h : τ.isS k = true) : τ.wrong < 0 := by
  unfold PSt.isS at h; simp only [Bool.and_eq_true, decide_eq_true_eq] at h; exact h.1

/-- What a step of both leaves as it was. -/
structure Go0 (σ : Rd) (τ : PSt) (σ' : Rd) (τ' : PSt) : Prop where
  len : σ'.ahead.length ≤ σ.ahead.length
  nodes : τ.nodes <+: τ'.nodes
  parts : τ'.parts = τ.parts
  toks : τ'.toks = τ.toks
  i : τ.i ≤ τ'.i
  window : τ'.window = τ.window
  rate : τ'.rate = τ.rate
  live : τ'.wrong < 0 → τ.wrong < 0 ∧ σ.now.place ≤ σ'.now.place
theorem Go0.refl (σ : Rd) (τ : PSt) : Go0 σ τ σ τ := ⟨Nat.le_refl _, List.prefix_refl _, rfl, rfl, Nat.le_refl _, rfl, rfl, fun h => ⟨h, Nat.le_refl _⟩⟩
theorem Go0.trans {σ σ1 σ2 : Rd} {τ τ1 τ2 : PSt} (a : Go0 σ τ σ1 τ1) (b : Go0 σ1 τ1 σ2 τ2) : Go0 σ τ σ2 τ2 :=
  ⟨Nat.le_trans b.len a.len, a.nodes.trans b.nodes, b.parts.trans a.parts, b.toks.trans a.toks, Nat.le_trans a.i b.i, b.window.trans a.window, b.rate.trans a.rate, fun h => ⟨(a.live (b.live h).1).1, Nat.le_trans (a.live (b.live h).1).2 (b.live h).2⟩⟩
structure GoR (σ : Rd) (τ : PSt) (σ' : Rd) (τ' : PSt) : Prop extends Go0 σ τ σ' τ' where
  rel : Rel σ' τ'
  inside : τ'.inside = τ.inside
theorem GoR.refl {σ : Rd} {τ : PSt} (h : Rel σ τ) : GoR σ τ σ τ := ⟨Go0.refl σ τ, h, rfl⟩
theorem GoR.trans {σ σ1 σ2 : Rd} {τ τ1 τ2 : PSt} (a : GoR σ τ σ1 τ1) (b : GoR σ1 τ1 σ2 τ2) : GoR σ τ σ2 τ2 := ⟨a.toGo0.trans b.toGo0, b.rel, b.inside.trans a.inside⟩

/-- the next token -/
theorem rel_skip {σ : Rd} {τ : PSt} (h : Rel σ τ) (hw : τ.wrong < 0) (h2 : 2 ≤ σ.ahead.length) : GoR σ τ σ.skip τ.adv ∧ σ.now.place < σ.skip.now.place ∧ σ.skip.ahead.length + 1 = σ.ahead.length := by
  have ht := h.tr hw
  obtain ⟨_, _, hin, hd, hb⟩ : τ.wrong < 0 ∧ TR σ.ahead (τ.toks.drop τ.i) ∧ σ.deep = τ.inside ∧ DeepR σ.td τ.deep ∧ σ.bn = outs τ := by
    rcases h.alt with h | h
    · exact h
    · omega
  rcases ht.head with ⟨h1, _⟩ | ⟨_, _, hp, ht'⟩
  · omega
  · rw [List.tail_drop] at ht'
    have hl := ht'.len.2
    rw [List.length_drop] at hl
    have iv := h.inv
    refine ⟨⟨⟨by simp [Rd.skip], List.prefix_refl _, rfl, rfl, Nat.le_succ _, rfl, rfl, fun _ => ⟨hw, Nat.le_of_lt hp⟩⟩, ⟨⟨?_, ?_, iv.lo, iv.hi, ?_, iv.toks, iv.wlo, ?_⟩, .inl ⟨hw, ht', hin, hd, hb⟩⟩, rfl⟩, hp, by simp [Rd.skip]; omega⟩
    · have := iv.nodes; show τ.nodes.length ≤ 2 * (τ.i + 1); omega
    · have := iv.nums; show τ.nums.length ≤ τ.i + 1; omega
    · have := iv.inside; show τ.inside ≤ τ.i + 1; omega
    · show τ.i + 1 < τ.toks.length; omega
/-- it cannot stand there -/
theorem rel_fail {σ : Rd} {τ : PSt} (h : Rel σ τ) : GoR σ τ σ.fail τ.bad ∧ 0 ≤ τ.bad.wrong := by
  have iv := h.inv
  have hl : 0 < σ.ahead.length := by
    rcases h.alt with h | h
    · exact h.2.1.len.1
    · rw [h.2]; simp
  by_cases hw : τ.wrong < 0
  · have ht := h.tr hw
    have e : τ.bad = { τ with wrong := τ.now.pos } := by unfold PSt.bad; rw [if_pos hw]
    have hp : σ.now.place = τ.now.pos := by rw [now_drop]; exact ht.place
    have h0 : 0 ≤ τ.bad.wrong := by rw [e]; show (0 : Int) ≤ (τ.now.pos : Int); omega
    refine ⟨⟨⟨by simp [Rd.fail]; omega, by rw [e]; exact List.prefix_refl _, by rw [e], by rw [e], by rw [e]; exact Nat.le_refl _, by rw [e], by rw [e], fun h => by omega⟩, ⟨?_, .inr ⟨h0, ?_⟩⟩, by rw [e]⟩, h0⟩
    · rw [e]; exact ⟨iv.nodes, iv.nums, iv.lo, iv.hi, iv.inside, iv.toks, by show -1 ≤ (τ.now.pos : Int); omega, iv.ilt⟩
    · unfold Rd.fail; rw [e, hp]; simp
  · have e : τ.bad = τ := by unfold PSt.bad; rw [if_neg hw]
    rw [e]
    have hd := h.dead (by omega)
    refine ⟨⟨⟨by simp [Rd.fail]; omega, List.prefix_refl _, rfl, rfl, Nat.le_refl _, rfl, rfl, fun h => absurd h hw⟩, ⟨iv, .inr ⟨by omega, ?_⟩⟩, rfl⟩, by omega⟩
    unfold Rd.fail Rd.now
    rw [hd]; simp
/-- it must be this one -/
theorem rel_want {σ : Rd} {τ : PSt} (h : Rel σ τ) {k : ByteArray} (hk : k ∈ KW) : GoR σ τ (σ.expect [k]) (τ.want k) := by
  unfold Rd.expect PSt.want
  rw [has_is, h.is hk]
  by_cases hh : τ.isS k = true
  · have hw := isS_live hh
    rw [if_pos hh, if_pos hh]
    refine (rel_skip h hw ?_).1
    rw [← h.is hk] at hh
    exact (h.tr hw).is2 hk hh
  · rw [if_neg hh, if_neg hh]
    exact (rel_fail h).1
theorem outs_snoc {τ : PSt} (iv : TInv τ) (u : RTok) (lo hi : Int) (τ' : PSt) (hn : τ'.nums = τ.nums ++ [u]) (hl : τ'.lo = τ.lo ++ [lo]) (hh : τ'.hi = τ.hi ++ [hi]) :
    outs τ' = (outs τ).or (if (u.n : Int) < lo ∨ hi < (u.n : Int) then some u.pos else none) := by
  unfold outs
  rw [hn, hl, hh, List.zip_append (by rw [iv.lo, iv.hi]), List.zip_append (by rw [List.length_zip, iv.lo, iv.hi]; simp), List.find?_append]
  cases (τ.nums.zip (τ.lo.zip τ.hi)).find? fun x => decide ((x.1.n : Int) < x.2.1 ∨ x.2.2 < (x.1.n : Int)) with
  | some x => simp
  | none => simp [List.find?_cons]; split <;> simp_all
theorem rel_num {σ : Rd} {τ : PSt} (h : Rel σ τ) (lo hi : Nat) : GoR σ τ (σ.num lo hi) (τ.num lo hi) ∧ (σ.numV : Int) = τ.numV ∧ (τ.isNum = true ↔ σ.now.kind = 2) ∧ (τ.isNum = true → (σ.num lo hi).ahead.length + 1 = σ.ahead.length) := by
  have iv := h.inv
  by_cases hw : τ.wrong < 0
  · have ht := h.tr hw
    have hn := ht.num
    have hnk : τ.isNum = true ↔ σ.now.kind = 2 := by
      unfold PSt.isNum
      simp only [hw, decide_true, Bool.and_true, beq_iff_eq]
      rw [now_drop]; exact hn.1.symm
    by_cases hk : σ.now.kind = 2
    · obtain ⟨h2, hv, hp⟩ := hn.2 hk
      obtain ⟨g, hpl, hlen⟩ := rel_skip h hw h2
      have hN := hnk.2 hk
      have eV : (τ.now.n : Int) = numVal σ.now.text := by rw [now_drop]; exact congrArg Int.ofNat hv
      have eP : τ.now.pos = σ.now.place := by rw [now_drop]; exact hp
      refine ⟨?_, by unfold Rd.numV PSt.numV; rw [if_pos hk, if_pos hN, eV], hnk, fun _ => by unfold Rd.num; rw [if_pos hk]; exact hlen⟩
      unfold Rd.num PSt.num
      rw [if_pos hk, if_pos hN]
      refine ⟨⟨g.len, g.nodes, rfl, rfl, g.i, rfl, rfl, g.live⟩, ⟨⟨g.rel.inv.nodes, ?_, ?_, ?_, g.rel.inv.inside, iv.toks, iv.wlo, g.rel.inv.ilt⟩, .inl ⟨hw, g.rel.tr hw, ?_, ?_, ?_⟩⟩, rfl⟩
      · simp only [List.length_append, List.length_cons, List.length_nil]; have := iv.nums; omega
      · simp only [List.length_append, List.length_cons, List.length_nil]; have := iv.lo; omega
      · simp only [List.length_append, List.length_cons, List.length_nil]; have := iv.hi; omega
      · rcases h.alt with h | h
        · exact h.2.2.1
        · omega
      · rcases h.alt with h | h
        · exact h.2.2.2.1
        · omega
      · have hb : σ.bn = outs τ := by
          rcases h.alt with h | h
          · exact h.2.2.2.2
          · omega
        rw [outs_snoc iv τ.now lo hi _ rfl rfl rfl, ← hb, eP, eV]
        have eC : ((numVal σ.now.text : Int) < (lo : Int) ∨ (hi : Int) < (numVal σ.now.text : Int)) ↔ (numVal σ.now.text < lo ∨ hi < numVal σ.now.text) := by omega
        show (if _ then _ else _) = _
        by_cases hc : numVal σ.now.text < lo ∨ hi < numVal σ.now.text
        · rw [if_pos hc, if_pos (eC.2 hc)]; cases σ.bn <;> rfl
        · rw [if_neg hc, if_neg (fun e => hc (eC.1 e))]; cases σ.bn <;> rfl
    · have hN : ¬ τ.isNum = true := fun e => hk (hnk.1 e)
      refine ⟨?_, by unfold Rd.numV PSt.numV; rw [if_neg hk, if_neg hN]; rfl, hnk, fun e => absurd e hN⟩
      unfold Rd.num PSt.num
      rw [if_neg hk, if_neg hN]
      exact (rel_fail h).1
  · have hd := h.dead (by omega)
    have hk : ¬ σ.now.kind = 2 := by unfold Rd.now; rw [hd]; simp
    have hN : ¬ τ.isNum = true := by unfold PSt.isNum; simp [hw]
    refine ⟨?_, by unfold Rd.numV PSt.numV; rw [if_neg hk, if_neg hN]; rfl, ⟨fun e => absurd e hN, fun e => absurd e hk⟩, fun e => absurd e hN⟩
    unfold Rd.num PSt.num
    rw [if_neg hk, if_neg hN]
    exact (rel_fail h).1
/-- something is opened -/
theorem rel_enter {σ : Rd} {τ : PSt} (h : Rel σ τ) {k : ByteArray} (hk : k ∈ KW) (hh : τ.isS k = true) : Go0 σ τ σ.enter (τ.adv.down τ.now.pos) ∧ Rel σ.enter (τ.adv.down τ.now.pos) ∧ (τ.adv.down τ.now.pos).inside = τ.inside + 1 ∧ σ.enter.ahead.length + 1 = σ.ahead.length ∧ τ.inside ≤ 601 := by
  have hw := isS_live hh
  have h2 : 2 ≤ σ.ahead.length := (h.tr hw).is2 hk (by rw [← h.is hk] at hh; exact hh)
  obtain ⟨g, hp, hl⟩ := rel_skip h hw h2
  have iv := h.inv
  have giv := g.rel.inv
  have eP : τ.now.pos = σ.now.place := by rw [now_drop]; exact (h.tr hw).place.symm
  obtain ⟨_, _, hin, hd, hb⟩ : τ.wrong < 0 ∧ TR σ.ahead (τ.toks.drop τ.i) ∧ σ.deep = τ.inside ∧ DeepR σ.td τ.deep ∧ σ.bn = outs τ := by
    rcases h.alt with h | h
    · exact h
    · omega
  refine ⟨⟨g.len, g.nodes, rfl, rfl, g.i, rfl, rfl, g.live⟩, ⟨⟨giv.nodes, giv.nums, iv.lo, iv.hi, ?_, iv.toks, iv.wlo, giv.ilt⟩, .inl ⟨hw, g.rel.tr hw, ?_, ?_, hb⟩⟩, rfl, hl, ?_⟩
  · show τ.inside + 1 ≤ τ.i + 1; have := iv.inside; omega
  · show σ.deep + 1 = τ.inside + 1; omega
  · show DeepR (if 8 ≤ σ.deep then markPut σ.td σ.now.place else σ.td) (if 8 ≤ τ.inside ∧ τ.deep < 0 then (τ.now.pos : Int) else τ.deep)
    rw [hin, eP]
    unfold DeepR at hd ⊢
    by_cases h8 : 8 ≤ τ.inside
    · cases ht : σ.td with
      | none => rw [ht] at hd; simp only at hd; simp [h8, markPut, hd]
      | some p => rw [ht] at hd; simp only at hd; simp [h8, markPut, hd]; intro hneg; omega
    · simp only [h8, if_false, false_and]; exact hd
  · have := iv.inside; have := iv.ilt; have := iv.toks; omega
theorem rel_leave {σ : Rd} {τ : PSt} (h : Rel σ τ) {k : Nat} (hk : τ.inside = k + 1) : Rel σ.leave { τ with inside := k } := by
  have iv := h.inv
  refine ⟨⟨iv.nodes, iv.nums, iv.lo, iv.hi, by have := iv.inside; show k ≤ τ.i; omega, iv.toks, iv.wlo, iv.ilt⟩, ?_⟩
  rcases h.alt with ⟨h1, h2, h3, h4⟩ | h
  · exact .inl ⟨h1, h2, by show σ.deep - 1 = k; omega, h4⟩
  · exact .inr h
/-- a node more -/
theorem rel_push {σ : Rd} {τ : PSt} (h : Rel σ τ) (x : RNode) (o : POp) (hn : τ.nodes.length + 1 ≤ 2 * τ.i) : GoR σ τ (σ.put o) (τ.push x) := by
  have iv := h.inv
  refine ⟨⟨Nat.le_refl _, List.prefix_append _ _, rfl, rfl, Nat.le_refl _, rfl, rfl, fun h => ⟨h, Nat.le_refl _⟩⟩, ⟨⟨by simp [PSt.push]; exact hn, iv.nums, iv.lo, iv.hi, iv.inside, iv.toks, iv.wlo, iv.ilt⟩, h.alt⟩, rfl⟩
end Go.Proofs.YtddbjcfdmdbmkaaGreatDoor

/-
  Both readers, plain: signs and what stands behind them.
-/
namespace Go.Proofs.YtddbjcfdmdbmkaaGreatDoor
open Go.RowKit

/-- A tree against what is put on the stack; b: is it true or false? -/
inductive PostR : Bool → Nd → List POp → Prop
  | num (n : Nat) : PostR false (.num n) [⟨tPush, n, ⟨#[]⟩, 0⟩]
  | fld {name field : ByteArray} {pos place : Nat} : field ∈ sField → (name.toList ≠ [] → place = pos) → PostR false (.fld name field pos) [⟨field, 0, name, place⟩]
  | neg {t : Nd} {l : List POp} : PostR false t l → PostR false (.bin tMinus (.num 0) t) (l ++ [⟨tOpp, 0, ⟨#[]⟩, 0⟩])
  | ari {op : ByteArray} {a b : Nd} {la lb : List POp} : op ∈ [tStar, tSlash, tPlus, tMinus] → PostR false a la → PostR false b lb → PostR false (.bin op a b) (la ++ lb ++ [⟨op, 0, ⟨#[]⟩, 0⟩])
  | tst {op : ByteArray} {a b : Nd} {la lb : List POp} : op ∈ sTest → PostR false a la → PostR false b lb → PostR true (.bin op a b) (la ++ lb ++ [⟨op, 0, ⟨#[]⟩, 0⟩])
  | log {op : ByteArray} {a b : Nd} {la lb : List POp} : op ∈ [tAnd, tOr] → PostR true a la → PostR true b lb → PostR true (.bin op a b) (la ++ lb ++ [⟨op, 0, ⟨#[]⟩, 0⟩])
/-- names stand one behind the other, from a place on, ahead of another -/
def OpsIn : Nat → Nat → List POp → Prop
  | lo, hi, [] => lo ≤ hi
  | lo, hi, o :: l => if o.name.toList = [] then OpsIn lo hi l else lo ≤ o.place ∧ OpsIn (o.place + 1) hi l
theorem OpsIn.le {lo hi : Nat} {l : List POp} (h : OpsIn lo hi l) : lo ≤ hi := by
  induction l generalizing lo with
  | nil => exact h
  | cons o l ih =>
    unfold OpsIn at h
    split at h
    · exact ih h
    · have := ih h.2; omega
theorem OpsIn.down {lo lo' hi : Nat} {l : List POp} (h : OpsIn lo hi l) (hl : lo' ≤ lo) : OpsIn lo' hi l := by
  induction l generalizing lo lo' with
  | nil => exact Nat.le_trans hl h
  | cons o l ih =>
    unfold OpsIn at h ⊢
    split
    · rename_i e; rw [if_pos e] at h; exact ih h hl
    · rename_i e; rw [if_neg e] at h; exact ⟨Nat.le_trans hl h.1, h.2⟩
theorem OpsIn.app {lo m hi : Nat} {l l' : List POp} (h : OpsIn lo m l) (h' : OpsIn m hi l') : OpsIn lo hi (l ++ l') := by
  induction l generalizing lo with
  | nil => exact h'.down h
  | cons o l ih =>
    rw [List.cons_append]
    unfold OpsIn at h ⊢
    split
    · rename_i e; rw [if_pos e] at h; exact ih h
    · rename_i e; rw [if_neg e] at h; exact ⟨h.1, ih h.2⟩
theorem mt_list : (⟨#[]⟩ : ByteArray).toList = [] := by kernel_rfl
theorem OpsIn.one {lo hi : Nat} {o : POp} (ho : o.name.toList = []) (h : lo ≤ hi) : OpsIn lo hi [o] := by
  unfold OpsIn; rw [if_pos ho]; exact h
theorem Rep.mono {nodes nodes' : List RNode} {k : Nat} {t : Nd} (h : Rep nodes k t) (hp : nodes <+: nodes') : Rep nodes' k t := by
  have get : ∀ {i : Nat} {x : RNode}, nodes[i]? = some x → nodes'[i]? = some x := by
    intro i x hx
    obtain ⟨m, rfl⟩ := hp
    obtain ⟨hi, rfl⟩ := List.getElem?_eq_some_iff.1 hx
    rw [List.getElem?_append_left hi]; exact hx
  induction h with
  | num h1 h2 => exact .num (get h1) h2
  | fld h1 h2 h3 => exact .fld (get h1) h2 h3
  | bin h1 h2 h3 h4 h5 _ _ i1 i2 => exact .bin (get h1) h2 h3 h4 h5 i1 i2

structure CPost (kind : Bool) (σ : Rd) (τ : PSt) (r : Int) (σ' : Rd) (τ' : PSt) : Prop extends GoR σ τ σ' τ' where
  cnt : τ'.nodes.length + 2 * τ.i ≤ τ.nodes.length + 2 * τ'.i
  ops : τ'.wrong < 0 → ∃ (l : List POp) (t : Nd) (k : Nat), r = k ∧ σ'.ops = σ.ops.map (· ++ l) ∧ Rep τ'.nodes k t ∧ PostR kind t l ∧ OpsIn σ.now.place σ'.now.place l
def DeadK (f : Rd → Rd) : Prop := ∀ (σ : Rd) (p : Nat), σ.ahead = [⟨0, p, ⟨#[]⟩⟩] → (f σ).ahead = [⟨0, p, ⟨#[]⟩⟩]
def JR (which : Nat) (kind : Bool) (f : Rd → Rd) (n : Nat) : Prop := ∀ (σ : Rd) (τ : PSt), Rel σ τ → σ.ahead.length ≤ n → ∃ r τ', R (.j which) τ r τ' ∧ CPost kind σ τ r (f σ) τ'
theorem dead_has {σ : Rd} {p : Nat} (h : σ.ahead = [⟨0, p, ⟨#[]⟩⟩]) {ts : List ByteArray} (hts : ∀ k ∈ ts, k ∈ KW) : σ.has ts = false := by
  rw [has_any, List.any_eq_false]
  intro k hk
  rw [dead_is h (hts k hk)]; decide
theorem dead_fail {σ : Rd} {p : Nat} (h : σ.ahead = [⟨0, p, ⟨#[]⟩⟩]) : σ.fail.ahead = [⟨0, p, ⟨#[]⟩⟩] := by unfold Rd.fail Rd.now; rw [h]; rfl
theorem dead_expect {σ : Rd} {p : Nat} (h : σ.ahead = [⟨0, p, ⟨#[]⟩⟩]) {ts : List ByteArray} (hts : ∀ k ∈ ts, k ∈ KW) : (σ.expect ts).ahead = [⟨0, p, ⟨#[]⟩⟩] := by
  unfold Rd.expect; rw [if_neg (by rw [dead_has h hts]; decide)]; exact dead_fail h
theorem dead_chainL {f : Rd → Rd} {ts : List ByteArray} (hts : ∀ k ∈ ts, k ∈ KW) (k : Nat) : DeadK (chainL f ts k) := by
  intro σ p h
  cases k with
  | zero => exact h
  | succ k => unfold chainL; rw [if_neg (by rw [dead_has h hts]; decide)]; exact h
theorem dead_chain {f : Rd → Rd} (hf : DeadK f) {ts : List ByteArray} (hts : ∀ k ∈ ts, k ∈ KW) : DeadK (chainP f ts) := fun σ p h => dead_chainL hts _ _ p (hf σ p h)
theorem kw_mul : ∀ k ∈ [tStar, tSlash], k ∈ KW := by simp [KW]
theorem kw_add : ∀ k ∈ [tPlus, tMinus], k ∈ KW := by simp [KW]
theorem kw_and : ∀ k ∈ [tAnd], k ∈ KW := by simp [KW]
theorem kw_or : ∀ k ∈ [tOr], k ∈ KW := by simp [KW]
theorem kw_test : ∀ k ∈ sTest, k ∈ KW := by simp [KW, sTest]
theorem kw_field : ∀ k ∈ sField, k ∈ KW := by simp [KW, sField]
theorem dead_sum {f : Rd → Rd} (hf : DeadK f) : DeadK (sumP f) := dead_chain (dead_chain hf kw_mul) kw_add
theorem dead_factor (n : Nat) : DeadK (factorP n) := by
  intro σ p h
  cases n with
  | zero => exact h
  | succ n =>
    have hk : σ.now.kind = 0 := by unfold Rd.now; rw [h]; rfl
    unfold factorP
    rw [if_neg (by omega), if_neg (by rw [dead_is h (by simp [KW])]; decide), if_neg (by rw [dead_is h (by simp [KW])]; decide), if_neg (by omega), if_neg (by rw [dead_is h (by simp [KW])]; decide)]
    exact dead_fail h
theorem dead_test {f : Rd → Rd} (hf : DeadK f) : DeadK (testP f) := by
  intro σ p h
  exact dead_sum hf _ p (dead_expect (dead_sum hf σ p h) kw_test)
theorem dead_both {f : Rd → Rd} (hf : DeadK f) : DeadK (bothP f) := dead_chain (dead_test hf) kw_and
/-- a call where it is wrong already -/
theorem rel_dead {σ σ' : Rd} {τ : PSt} (h : Rel σ τ) (hw : 0 ≤ τ.wrong) (hd : σ'.ahead = [⟨0, τ.wrong.toNat, ⟨#[]⟩⟩]) : GoR σ τ σ' τ := by
  have hs := h.dead hw
  exact ⟨⟨by rw [hs, hd]; exact Nat.le_refl _, List.prefix_refl _, rfl, rfl, Nat.le_refl _, rfl, rfl, fun h => by omega⟩, ⟨h.inv, .inr ⟨hw, hd⟩⟩, rfl⟩
theorem jr_dead {which : Nat} {kind : Bool} {f : Rd → Rd} (hf : DeadK f) {σ : Rd} {τ : PSt} (h : Rel σ τ) (hw : 0 ≤ τ.wrong) : ∃ r τ', R (.j which) τ r τ' ∧ CPost kind σ τ r (f σ) τ' :=
  ⟨0, τ, .j_bad hw, rel_dead h hw (hf σ _ (h.dead hw)), Nat.le_refl _, fun h => by omega⟩

theorem small_is {σ : Rd} {τ : PSt} (h : Rel σ τ) (hw : τ.wrong < 0) {ts : List ByteArray} (hts : ∀ k ∈ ts, k ∈ KW) (b : Bool) (hb : ∀ k ∈ ts, isSmallB (byte0 k) = b) :
    σ.has ts = ((τ.now.kind == (if b then 0 else 2)) && ts.any fun k => τ.now.s.toList == k.toList) := by
  have ht := h.tr hw
  rw [has_any]
  apply Bool.eq_iff_iff.2
  rw [List.any_eq_true, Bool.and_eq_true, List.any_eq_true]
  constructor
  · rintro ⟨k, hk, hi⟩
    have h1 := ht.small (hts k hk) hi
    have h2 := ht.text (hts k hk) hi
    rw [← now_drop] at h1 h2
    rw [hb k hk] at h1
    refine ⟨by rw [h1]; simp, k, hk, ?_⟩
    rw [h2]; exact hi
  · rintro ⟨h1, k, hk, hi⟩
    refine ⟨k, hk, ?_⟩
    rw [h.is (hts k hk)]
    unfold PSt.isS RTok.isS
    rw [beq_iff_eq] at h1
    rw [h1, hi]
    cases b <;> simp [hw]
theorem op_any (s : List UInt8) (ts : List ByteArray) : (ts.any fun k => s == k.toList) = (ts.map (·.toList)).any (s == ·) := by rw [List.any_map]; rfl
theorem has_or {σ : Rd} {τ : PSt} (h : Rel σ τ) (hw : τ.wrong < 0) : σ.has [tOr] = τ.now.isOp 0 := by
  rw [small_is h hw kw_or true (by intro k hk; simp at hk; subst hk; rfl), op_any, show [tOr].map (·.toList) = [[111, 114]] by kernel_rfl]
  simp [RTok.isOp]
theorem has_and {σ : Rd} {τ : PSt} (h : Rel σ τ) (hw : τ.wrong < 0) : σ.has [tAnd] = τ.now.isOp 1 := by
  rw [small_is h hw kw_and true (by intro k hk; simp at hk; subst hk; rfl), op_any, show [tAnd].map (·.toList) = [[97, 110, 100]] by kernel_rfl]
  simp [RTok.isOp]
theorem has_add {σ : Rd} {τ : PSt} (h : Rel σ τ) (hw : τ.wrong < 0) : σ.has [tPlus, tMinus] = τ.now.isOp 3 := by
  rw [small_is h hw kw_add false (by intro k hk; simp at hk; rcases hk with rfl | rfl <;> rfl), op_any, show [tPlus, tMinus].map (·.toList) = [[43], [45]] by kernel_rfl]
  simp [RTok.isOp]
theorem has_mul {σ : Rd} {τ : PSt} (h : Rel σ τ) (hw : τ.wrong < 0) : σ.has [tStar, tSlash] = τ.now.isOp 4 := by
  rw [small_is h hw kw_mul false (by intro k hk; simp at hk; rcases hk with rfl | rfl <;> rfl), op_any, show [tStar, tSlash].map (·.toList) = [[42], [47]] by kernel_rfl]
  simp [RTok.isOp]
theorem has_test {σ : Rd} {τ : PSt} (h : Rel σ τ) (hw : τ.wrong < 0) : σ.has sTest = τ.now.isSign := by
  rw [small_is h hw kw_test false (by intro k hk; simp [sTest] at hk; rcases hk with rfl | rfl | rfl | rfl | rfl | rfl <;> rfl), op_any, show sTest.map (·.toList) = [[61], [33, 61], [60], [60, 61], [62], [62, 61]] by kernel_rfl]
  simp [RTok.isSign, Bool.or_assoc]
theorem has_field {σ : Rd} {τ : PSt} (h : Rel σ τ) (hw : τ.wrong < 0) : σ.has sField = τ.now.isField := by
  rw [small_is h hw kw_field true (by intro k hk; simp [sField] at hk; rcases hk with rfl | rfl | rfl | rfl <;> rfl), op_any, show sField.map (·.toList) = [[97], [98], [99], [116]] by kernel_rfl]
  simp [RTok.isField, Bool.or_assoc]

theorem bytes_ext {a b : ByteArray} (h : a.toList = b.toList) : a = b := by
  rw [toList_data, toList_data] at h
  cases a; cases b
  simp only [ByteArray.mk.injEq]
  exact Array.toList_inj.1 h
/-- what was asked for and is there -/
theorem has_mem {σ : Rd} {τ : PSt} (h : Rel σ τ) (hw : τ.wrong < 0) {ts : List ByteArray} (hts : ∀ k ∈ ts, k ∈ KW) (hh : σ.has ts = true) : σ.now.text ∈ ts ∧ τ.now.s = σ.now.text ∧ 2 ≤ σ.ahead.length := by
  rw [has_any, List.any_eq_true] at hh
  obtain ⟨k, hk, hi⟩ := hh
  have h2 := (h.tr hw).text (hts k hk) hi
  rw [← now_drop] at h2
  refine ⟨?_, h2, (h.tr hw).is2 (hts k hk) hi⟩
  unfold STok.is at hi
  rw [beq_iff_eq] at hi
  rw [bytes_ext hi]; exact hk
theorem has_live {σ : Rd} {τ : PSt} (h : Rel σ τ) {ts : List ByteArray} (hts : ∀ k ∈ ts, k ∈ KW) (hh : σ.has ts = true) : τ.wrong < 0 := by
  apply Decidable.byContradiction
  intro hw
  rw [dead_has (h.dead (by omega)) hts] at hh; cases hh
theorem opt_app (o : Option (List POp)) (a b : List POp) : (o.map (· ++ a)).map (· ++ b) = o.map (· ++ (a ++ b)) := by cases o <;> simp
theorem op_known : (([tStar, tSlash, tPlus, tMinus, tAnd, tOr] ++ sTest).all fun k => !(k.toList == [110]) && !(k.toList == [102])) = true := by kernel_rfl
theorem rep_new {nodes : List RNode} {op : ByteArray} (hop : op ∈ [tStar, tSlash, tPlus, tMinus, tAnd, tOr] ++ sTest) {a b : Nat} {s t : Nd} (ha : Rep nodes a s) (hb : Rep nodes b t) (p : Int) : Rep (nodes ++ [⟨op, a, b, 0, mt, mt, p⟩]) nodes.length (.bin op s t) := by
  have hk := List.all_eq_true.1 op_known op hop
  simp only [Bool.and_eq_true, Bool.not_eq_true', beq_eq_false_iff_ne] at hk
  have := Rep.bin (nodes := nodes ++ [⟨op, a, b, 0, mt, mt, p⟩]) (i := nodes.length) (x := ⟨op, a, b, 0, mt, mt, p⟩) (by simp) hk.1 hk.2 rfl rfl (ha.mono (List.prefix_append _ _)) (hb.mono (List.prefix_append _ _))
  exact this

/-- signs and what stands behind them -/
theorem chain_loop {which : Nat} {kind : Bool} {f : Rd → Rd} {n : Nat} {ts : List ByteArray} (H : JR (which + 1) kind f n) (hts : ∀ k ∈ ts, k ∈ KW) (hop : ∀ (σ : Rd) (τ : PSt), Rel σ τ → τ.wrong < 0 → σ.has ts = τ.now.isOp which)
    (hkn : ∀ k ∈ ts, k ∈ [tStar, tSlash, tPlus, tMinus, tAnd, tOr] ++ sTest)
    (hp : ∀ {op : ByteArray} {a b : Nd} {la lb : List POp}, op ∈ ts → PostR kind a la → PostR kind b lb → PostR kind (.bin op a b) (la ++ lb ++ [⟨op, 0, ⟨#[]⟩, 0⟩])) {σ0 : Rd} {τ0 : PSt} :
    ∀ (k : Nat) (σ : Rd) (τ : PSt) (a : Int), CPost kind σ0 τ0 a σ τ → σ.ahead.length ≤ k → σ.ahead.length ≤ n → ∃ r τ', R (.l which a) τ r τ' ∧ CPost kind σ0 τ0 r (chainL f ts k σ) τ' := by
  intro k
  induction k with
  | zero =>
    intro σ τ a C h0 _
    have : 0 < σ.ahead.length := by
      rcases C.rel.alt with h | h
      · exact h.2.1.len.1
      · rw [h.2]; simp
    omega
  | succ k ih =>
    intro σ τ a C hk hn
    unfold chainL
    by_cases hh : σ.has ts = true
    · rw [if_pos hh]
      have hw := has_live C.rel hts hh
      obtain ⟨hm, hs, h2⟩ := has_mem C.rel hw hts hh
      obtain ⟨g, hpl, hlen⟩ := rel_skip C.rel hw h2
      obtain ⟨b, τ1, hR, D⟩ := H σ.skip τ.adv g.rel (by omega)
      have hcnt := D.cnt
      have hi1 : τ.adv.i = τ.i + 1 := rfl
      have hi2 : τ.adv.nodes = τ.nodes := rfl
      rw [hi1, hi2] at hcnt
      have hci := D.i
      rw [hi1] at hci
      have hC := C.cnt
      have hCi := C.i
      have hv := C.rel.inv.nodes
      have hpush := rel_push D.rel ⟨τ.now.s, a, b, 0, mt, mt, 0⟩ ⟨σ.now.text, 0, ⟨#[]⟩, 0⟩ (by omega)
      have hb := D.rel.inv
      have C2 : CPost kind σ0 τ0 τ1.nodes.length ((f σ.skip).put ⟨σ.now.text, 0, ⟨#[]⟩, 0⟩) (τ1.push ⟨τ.now.s, a, b, 0, mt, mt, 0⟩) := by
        refine ⟨((C.toGoR.trans g).trans D.toGoR).trans hpush, ?_, ?_⟩
        · simp only [PSt.push, List.length_append, List.length_cons, List.length_nil]; omega
        · intro hw2
          have hw1 : τ1.wrong < 0 := hw2
          obtain ⟨la, ta, ka, ha1, ha2, ha3, ha4, ha5⟩ := C.ops hw
          obtain ⟨lb, tb, kb, hb1, hb2, hb3, hb4, hb5⟩ := D.ops hw1
          subst ha1; subst hb1
          refine ⟨la ++ lb ++ [⟨σ.now.text, 0, ⟨#[]⟩, 0⟩], .bin σ.now.text ta tb, τ1.nodes.length, rfl, ?_, ?_, hp hm ha4 hb4, ?_⟩
          · show ((f σ.skip).ops.map _) = _
            rw [hb2, show σ.skip.ops = σ.ops from rfl, ha2, opt_app, opt_app, List.append_assoc]
          · rw [hs]
            exact rep_new (hkn _ hm) (ha3.mono (g.nodes.trans D.nodes)) hb3 0
          · exact (ha5.app (hb5.down (Nat.le_of_lt hpl))).app (OpsIn.one mt_list (Nat.le_refl _))
      have hle : ((f σ.skip).put ⟨σ.now.text, 0, ⟨#[]⟩, 0⟩).ahead.length ≤ σ.skip.ahead.length := D.len
      obtain ⟨r, τ', hR2, E⟩ := ih _ _ _ C2 (by omega) (by omega)
      refine ⟨r, τ', .l_more hw (by rw [← hop σ τ C.rel hw]; exact hh) hR ?_ hR2, E⟩
      have := hb.nodes; have := hb.ilt; have := hb.toks; omega
    · rw [if_neg hh]
      refine ⟨a, τ, .l_end ?_, C⟩
      by_cases hw : τ.wrong < 0
      · rw [← hop σ τ C.rel hw]; simp [hh]
      · simp [hw]
theorem chain_rel {which : Nat} {kind : Bool} {f : Rd → Rd} {n : Nat} {ts : List ByteArray} (hwh : which = 0 ∨ which = 1 ∨ which = 3 ∨ which = 4) (hd : DeadK f) (H : JR (which + 1) kind f n) (hts : ∀ k ∈ ts, k ∈ KW) (hop : ∀ (σ : Rd) (τ : PSt), Rel σ τ → τ.wrong < 0 → σ.has ts = τ.now.isOp which)
    (hkn : ∀ k ∈ ts, k ∈ [tStar, tSlash, tPlus, tMinus, tAnd, tOr] ++ sTest)
    (hp : ∀ {op : ByteArray} {a b : Nd} {la lb : List POp}, op ∈ ts → PostR kind a la → PostR kind b lb → PostR kind (.bin op a b) (la ++ lb ++ [⟨op, 0, ⟨#[]⟩, 0⟩])) : JR which kind (chainP f ts) n := by
  intro σ τ h hn
  by_cases hw : τ.wrong < 0
  · obtain ⟨a, τ1, hR, C⟩ := H σ τ h hn
    obtain ⟨r, τ', hR2, D⟩ := chain_loop H hts hop hkn hp (f σ).ahead.length (f σ) τ1 a C (Nat.le_refl _) (Nat.le_trans C.len hn)
    exact ⟨r, τ', .j_loop hw hwh hR hR2, D⟩
  · exact jr_dead (dead_chain hd hts) h (by omega)
theorem product_rel {f : Rd → Rd} {n : Nat} (hd : DeadK f) (H : JR 5 false f n) : JR 4 false (productP f) n :=
  chain_rel (by omega) hd H kw_mul (fun _ _ h hw => has_mul h hw) (by simp) (fun ho => .ari (by simp at ho ⊢; rcases ho with h | h <;> simp [h]))
theorem sum_rel {f : Rd → Rd} {n : Nat} (hd : DeadK f) (H : JR 5 false f n) : JR 3 false (sumP f) n :=
  chain_rel (by omega) (dead_chain hd kw_mul) (product_rel hd H) kw_add (fun _ _ h hw => has_add h hw) (by simp) (fun ho => .ari (by simp at ho ⊢; rcases ho with h | h <;> simp [h]))
end Go.Proofs.YtddbjcfdmdbmkaaGreatDoor
