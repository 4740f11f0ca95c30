import Derived.Test.YtddbjcfdmdbmkaaGreatDoorP00
import Derived.Test.YtddbjcfdmdbmkaaGreatDoorB14
set_option linter.unusedVariables false
set_option linter.unusedSimpArgs false
/-
  Printing, plain: what Print tells is told the same.
-/
namespace Go.Proofs.YtddbjcfdmdbmkaaGreatDoor
open Go.RowKit

/-- a place, where the tokens of one list stand as those of another -/
def mvAt : List STok → List STok → Nat → Nat
  | t :: ts, t' :: ts', p => if p = t.place then t'.place else mvAt ts ts' p
  | _, _, _ => 0
instance (t : ByteArray) : Decidable (digitsOK t) := by unfold digitsOK; infer_instance
def mvTok (f : Nat → Nat) (t : STok) : STok := ⟨t.kind, f t.place, if t.kind = 2 ∧ digitsOK t.text then ⟨(trimL t.text.data.toList).toArray⟩ else t.text⟩
theorem kw_first2 : (KW.all fun k => !(isDigitB (k.data.toList.getD 0 0))) = true := by kernel_rfl
theorem kw_no_digits {k t : ByteArray} (hk : k ∈ KW) (ht : digitsOK t) : (k.toList == t.toList) = false := by
  have := List.all_eq_true.1 kw_first2 k hk
  rw [beq_eq_false_iff_ne, toList_data, toList_data]
  intro e
  obtain ⟨h1, _, h3⟩ := ht
  have hs : t.data.toList.length = t.size := by simp
  simp only [e] at this
  have hm : t.data.toList.getD 0 0 ∈ t.data.toList := by
    rw [List.getD_eq_getElem?_getD, List.getElem?_eq_getElem (by omega)]
    simp only [Option.getD_some]
    exact List.getElem_mem _
  rw [h3 _ hm] at this
  cases this
theorem trim_digits {t : ByteArray} (h : digitsOK t) : digitsOK ⟨(trimL t.data.toList).toArray⟩ := by
  obtain ⟨h1, h2, h3⟩ := h
  have hs : t.data.toList.length = t.size := by simp
  have g := trim_good (w := t.data.toList) ⟨by omega, by omega, h3⟩
  have hz : (⟨(trimL t.data.toList).toArray⟩ : ByteArray).size = (trimL t.data.toList).length := by show (List.toArray _).size = _; simp
  refine ⟨by rw [hz]; exact g.1, by rw [hz]; exact g.2.1, ?_⟩
  intro c hc
  exact g.2.2 c (by simpa using hc)
theorem mv_is_mv {f : Nat → Nat} (hf : f 0 = 0) : Mv f (mvTok f) := by
  refine ⟨hf, fun p => ?_, fun t => rfl, fun t => rfl, fun t => rfl, fun t h => ?_, fun t k hk => ?_, fun t => ?_⟩
  · unfold mvTok; rw [if_neg (by intro h; exact absurd h.1 (by show ¬ (0 : Nat) = 2; decide))]
  · unfold mvTok; simp only; rw [if_neg (fun e => h e.1)]
  · unfold mvTok
    simp only
    split
    · rename_i h
      rw [kw_no_digits hk h.2, kw_no_digits hk (trim_digits h.2)]
    · rfl
  · unfold mvTok
    simp only
    split
    · exact val_trim t.text.data.toList
    · rfl
theorem good_digits {t : STok} (h : GoodW t.kind t.text.data.toList) (hk : t.kind = 2) : digitsOK t.text := by
  have hs : t.text.data.toList.length = t.text.size := by simp
  rcases h with ⟨_, h1, h2, h3⟩ | ⟨h, _⟩ | ⟨h, _⟩ | ⟨h, _⟩
  · exact ⟨by omega, by omega, h3⟩
  all_goals omega
theorem mvTok_text {f : Nat → Nat} {t : STok} (h : GoodW t.kind t.text.data.toList) : (mvTok f t).text = ⟨(plainL t).toArray⟩ := by
  unfold mvTok plainL
  simp only
  by_cases hk : t.kind = 2
  · rw [if_pos ⟨hk, good_digits h hk⟩, if_pos hk]
  · rw [if_neg (fun e => hk e.1), if_neg hk]
theorem mvTok_closes {f : Nat → Nat} (t : STok) : closesB (mvTok f t) = closesB t := by
  unfold closesB STok.is mvTok
  simp only
  split
  · rename_i h
    have a1 := kw_no_digits (k := tColon) (by simp [KW]) h.2; have a2 := kw_no_digits (k := tColon) (by simp [KW]) (trim_digits h.2)
    have b1 := kw_no_digits (k := tDot) (by simp [KW]) h.2; have b2 := kw_no_digits (k := tDot) (by simp [KW]) (trim_digits h.2)
    have c : ∀ a b : List UInt8, (a == b) = false → (b == a) = false := fun a b h => by rw [beq_eq_false_iff_ne] at h ⊢; exact Ne.symm h
    rw [c _ _ a1, c _ _ a2, c _ _ b1, c _ _ b2]
  · rfl
theorem mvTok_plain {f : Nat → Nat} {t : STok} (h : GoodW t.kind t.text.data.toList) : plainL (mvTok f t) = plainL t := by
  have e := mvTok_text (f := f) h
  unfold plainL at e ⊢
  rw [show (mvTok f t).kind = t.kind from rfl, e]
  split
  · simp only
    exact trim_trim _
  · rfl
theorem mv_join {f : Nat → Nat} : ∀ (ts : List STok) (tight : Bool), Toks ts → joinL tight (ts.map (mvTok f)) = joinL tight ts := by
  intro ts
  induction ts with
  | nil => intro _ h; exact h.elim
  | cons t ts ih =>
    intro tight hT
    cases ts with
    | nil =>
      obtain ⟨hk, _⟩ := hT
      show joinL tight [mvTok f t] = _
      unfold joinL
      rw [if_pos hk, if_pos (show (mvTok f t).kind = 1 from hk)]
    | cons u l =>
      obtain ⟨hg, _, hT'⟩ := hT
      have hk : ¬ t.kind = 1 := by have := (good_kind hg).1; omega
      rw [List.map_cons]
      unfold joinL
      rw [if_neg hk, if_neg (show ¬ (mvTok f t).kind = 1 from hk), mvTok_plain hg, mvTok_closes, ih _ hT']
      unfold gapL
      rw [mvTok_closes]
theorem mvToks_len : ∀ (ts : List STok) (at_ : Nat) (tight : Bool), Toks ts → (mvToks at_ tight ts).length = ts.length := by
  intro ts
  induction ts with
  | nil => intro _ _ h; exact h.elim
  | cons t ts ih =>
    intro at_ tight hT
    cases ts with
    | nil =>
      obtain ⟨hk, _⟩ := hT
      unfold mvToks; rw [if_pos hk]; rfl
    | cons u l =>
      obtain ⟨hg, _, hT'⟩ := hT
      have hk : ¬ t.kind = 1 := by have := (good_kind hg).1; omega
      unfold mvToks; rw [if_neg hk, List.length_cons, ih _ _ hT']; rfl
theorem mvToks_map {f : Nat → Nat} : ∀ (ts : List STok) (at_ : Nat) (tight : Bool), Toks ts → ts.map (fun t => f t.place) = (mvToks at_ tight ts).map STok.place → ts.map (mvTok f) = mvToks at_ tight ts := by
  intro ts
  induction ts with
  | nil => intro _ _ h; exact h.elim
  | cons t ts ih =>
    intro at_ tight hT he
    cases ts with
    | nil =>
      obtain ⟨hk, ht⟩ := hT
      unfold mvToks at he ⊢
      rw [if_pos hk] at he ⊢
      simp only [List.map_cons, List.map_nil, List.cons.injEq, and_true] at he
      show [mvTok f t] = _
      unfold mvTok
      rw [if_neg (by omega), he, hk, ht]
    | cons u l =>
      obtain ⟨hg, _, hT'⟩ := hT
      have hk : ¬ t.kind = 1 := by have := (good_kind hg).1; omega
      unfold mvToks at he ⊢
      rw [if_neg hk] at he ⊢
      rw [List.map_cons, List.map_cons] at he
      injection he with h1 h2
      rw [List.map_cons, ih _ _ hT' h2]
      congr 1
      have e := mvTok_text (f := f) hg
      show (⟨t.kind, f t.place, (mvTok f t).text⟩ : STok) = _
      rw [e, h1]
theorem toks_lt : ∀ {t : STok} {ts : List STok}, Toks (t :: ts) → ∀ u ∈ ts, t.place < u.place := by
  intro t ts
  induction ts generalizing t with
  | nil => intro _ u hu; simp at hu
  | cons v l ih =>
    intro h u hu
    obtain ⟨_, h1, h2⟩ := h
    rcases List.mem_cons.1 hu with rfl | hu
    · exact h1
    · exact Nat.lt_trans h1 (ih h2 u hu)
theorem mvAt_none : ∀ (ts ts' : List STok) (p : Nat), (∀ t ∈ ts, t.place ≠ p) → mvAt ts ts' p = 0 := by
  intro ts
  induction ts with
  | nil => intro ts' p _; unfold mvAt; rfl
  | cons t ts ih =>
    intro ts' p h
    cases ts' with
    | nil => unfold mvAt; rfl
    | cons t' ts' =>
      unfold mvAt
      rw [if_neg (fun e => h t (by simp) e.symm)]
      exact ih ts' p (fun u hu => h u (by simp [hu]))
theorem mvAt_map : ∀ (ts ts' : List STok), (ts = [] ∨ Toks ts) → ts'.length = ts.length → ts.map (fun t => mvAt ts ts' t.place) = ts'.map STok.place := by
  intro ts
  induction ts with
  | nil => intro ts' _ h; rw [List.length_eq_zero_iff.1 h]; rfl
  | cons t ts ih =>
    intro ts' hT hl
    cases ts' with
    | nil => simp at hl
    | cons t' ts' =>
      have hT : Toks (t :: ts) := by rcases hT with h | h; cases h; exact h
      rw [List.map_cons, List.map_cons]
      congr 1
      · unfold mvAt; rw [if_pos rfl]
      · rw [← ih ts' (by cases ts with | nil => exact .inl rfl | cons u l => exact .inr hT.2.2) (by simpa using hl)]
        refine List.map_congr_left fun u hu => ?_
        have := toks_lt hT u hu
        conv => lhs; unfold mvAt
        rw [if_neg (by omega)]
/-- What was read is read the same of what is joined of it. -/
theorem join_again {ts : List STok} (hT : Toks ts) : ∃ f : Nat → Nat, f 0 = 0 ∧ tokensP (joinP ts) = ts.map (mvTok f) := by
  have hz : (joinP ts).size = (joinL true ts).length := by show (List.toArray _).size = _; simp
  have hs : tokensP (joinP ts) = mvToks 0 true ts := by
    unfold tokensP
    refine scan_join (joinP ts) ts true 0 _ hT (Nat.zero_le _) ?_ (by rw [hz]; omega)
    unfold joinP; simp
  refine ⟨mvAt ts (mvToks 0 true ts), ?_, ?_⟩
  · cases ts with
    | nil => exact hT.elim
    | cons t ts =>
      have hm : ∃ a b l, mvToks 0 true (t :: ts) = ⟨a, 0, b⟩ :: l := by
        unfold mvToks
        split
        · exact ⟨_, _, _, rfl⟩
        · have : (gapL true t).length = 0 := by unfold gapL; simp
          rw [this]
          exact ⟨_, _, _, rfl⟩
      obtain ⟨a, b, l, hm⟩ := hm
      rw [hm]
      unfold mvAt
      split
      · rfl
      · refine mvAt_none _ _ _ (fun u hu => ?_)
        have := toks_lt hT u hu
        omega
  · rw [hs]
    exact (mvToks_map ts 0 true hT (mvAt_map ts _ (.inr hT) (mvToks_len ts 0 true hT))).symm
def herT (ts : List STok) : (PPat × Nat × List (List PPart)) ⊕ (Nat × Nat) := match readP ts with
    | .inr r => .inr r
    | .inl (pat, _) => match makeP (ts.length + 1) pat with
      | .inr r => .inr r
      | .inl (bd, ps) => .inl (pat, bd, ps)
theorem her_T {s : ByteArray} {ts : List STok} (e : tokensP s = ts) : herP s = if 600 < s.size then .inr (600, 1) else herT ts := by
  unfold herP
  rw [e]
  rfl
theorem herT_inl {ts : List STok} {x} (h : herT ts = .inl x) : ∃ pat z bd ps, readP ts = .inl (pat, z) ∧ makeP (ts.length + 1) pat = .inl (bd, ps) := by
  unfold herT at h
  cases hr : readP ts with
  | inr r => rw [hr] at h; cases h
  | inl r =>
    obtain ⟨pat, z⟩ := r
    rw [hr] at h
    simp only at h
    cases hm : makeP (ts.length + 1) pat with
    | inr r => rw [hm] at h; cases h
    | inl r => exact ⟨pat, z, r.1, r.2, rfl, hm⟩
theorem herT_mv {ts : List STok} {x} (h : herT ts = .inl x) {f : Nat → Nat} (hf : f 0 = 0) : ∃ y, herT (ts.map (mvTok f)) = .inl y := by
  obtain ⟨pat, z, bd, ps, hr, hm⟩ := herT_inl h
  unfold herT
  rw [mv_read (mv_is_mv hf) (fun t => rfl) hr]
  simp only
  rw [List.length_map, mv_make f hm]
  exact ⟨_, rfl⟩
theorem her_inl {s : ByteArray} {ts : List STok} (e : tokensP s = ts) {x} (h : herP s = .inl x) : herT ts = .inl x := by
  rw [her_T e] at h
  split at h
  · cases h
  · exact h
theorem her_toks1 {s : ByteArray} {ts : List STok} {n : Nat} (hn : n = s.size + 1) (e : stoks s n 0 = ts) {x} (h : herT ts = .inl x) : Toks ts := by
  obtain ⟨pat, z, _, _, hr, _⟩ := herT_inl h
  have := stoks_toks s n 0 (Nat.zero_le _) (by omega)
  rw [e] at this
  exact this (read_ends hr)
theorem her_toks {s : ByteArray} {ts : List STok} (e : tokensP s = ts) {x} (h : herP s = .inl x) : Toks ts := her_toks1 rfl e (her_inl e h)
theorem her_again {s : ByteArray} {ts : List STok} (e : tokensP s = ts) {x} (h : herP s = .inl x) : joinP (tokensP (joinP ts)) = joinP ts ∧ ((joinP ts).size ≤ 600 → ∃ y, herP (joinP ts) = .inl y) := by
  have hT := her_toks e h
  have hh := her_inl e h
  clear h e
  obtain ⟨f, hf, he⟩ := join_again hT
  refine ⟨?_, fun hs => ?_⟩
  · rw [he]
    unfold joinP
    rw [mv_join _ _ hT]
  · rw [her_T he, if_neg (Nat.not_lt.2 hs)]
    exact herT_mv hh hf
end Go.Proofs.YtddbjcfdmdbmkaaGreatDoor

/-
  Printing, plain: both writers.
-/
namespace Go.Proofs.YtddbjcfdmdbmkaaGreatDoor
open Go.RowKit

/-- a number's digits -/
def digitsN : Nat → Nat → List UInt8
  | 0, _ => []
  | f + 1, n => if n < 10 then [UInt8.ofNat (48 + n)] else digitsN f (n / 10) ++ [UInt8.ofNat (48 + n % 10)]
def digitsL (n : Nat) : List UInt8 := digitsN (n + 1) n
theorem digits_fuel : ∀ f g n, n < f → n < g → digitsN f n = digitsN g n := by
  intro f
  induction f with
  | zero => intro g n h; omega
  | succ f ih =>
    intro g n h1 h2
    cases g with
    | zero => omega
    | succ g =>
      unfold digitsN
      split
      · rfl
      · rw [ih g (n / 10) (by omega) (by omega)]
theorem digits_step (v d : Nat) (hv : 0 < v) (hd : d < 10) : digitsL (10 * v + d) = digitsL v ++ [UInt8.ofNat (48 + d)] := by
  unfold digitsL
  conv => lhs; unfold digitsN
  rw [if_neg (by omega), show (10 * v + d) / 10 = v by omega, show (10 * v + d) % 10 = d by omega, digits_fuel _ (v + 1) v (by omega) (by omega)]
theorem digit_byte {c : UInt8} (h : isDigitB c = true) : UInt8.ofNat (48 + (c.toNat - 48)) = c ∧ c.toNat - 48 < 10 ∧ (c ≠ 48 → 0 < c.toNat - 48) := by
  unfold isDigitB at h
  simp only [Bool.and_eq_true, decide_eq_true_eq] at h
  refine ⟨by rw [show 48 + (c.toNat - 48) = c.toNat by omega]; simp, by omega, fun hn => ?_⟩
  have : c.toNat ≠ 48 := fun e => hn (by have := congrArg UInt8.ofNat e; simpa using this)
  omega
theorem val_snoc (w : List UInt8) (c : UInt8) : valL (w ++ [c]) = 10 * valL w + (c.toNat - 48) := by unfold valL; rw [List.foldl_append]; rfl
theorem digits_val {b : UInt8} (hb : b ≠ 48) (hbd : isDigitB b = true) : ∀ l : List UInt8, (∀ c ∈ l, isDigitB c = true) → 0 < valL (b :: l.reverse) ∧ digitsL (valL (b :: l.reverse)) = b :: l.reverse := by
  obtain ⟨e, h1, h2⟩ := digit_byte hbd
  intro l
  induction l with
  | nil =>
    intro _
    have hv : valL [b] = b.toNat - 48 := by unfold valL; simp
    refine ⟨by rw [List.reverse_nil, hv]; exact h2 hb, ?_⟩
    rw [List.reverse_nil, hv]
    unfold digitsL digitsN
    rw [if_pos h1, e]
  | cons c l ih =>
    intro h
    obtain ⟨i1, i2⟩ := ih (fun x hx => h x (by simp [hx]))
    obtain ⟨e', g1, _⟩ := digit_byte (h c (by simp))
    have hv : valL (b :: (c :: l).reverse) = 10 * valL (b :: l.reverse) + (c.toNat - 48) := by
      rw [List.reverse_cons, ← List.cons_append, val_snoc]
    rw [hv]
    refine ⟨by omega, ?_⟩
    rw [digits_step _ _ i1 g1, i2, e', List.reverse_cons, List.cons_append]
theorem digits_trim {w : List UInt8} (h : ∀ c ∈ w, isDigitB c = true) : digitsL (valL w) = trimL w := by
  rcases trim_eq w with ⟨h1, h2⟩ | ⟨b, l, h1, h2, z, h3, h4⟩
  · have := val_zeros w [] h2
    rw [List.append_nil] at this
    rw [this, h1]; rfl
  · rw [h1]
    have hv : valL w = valL (b :: l) := by rw [h3]; exact val_zeros z _ h4
    have hbl : ∀ c ∈ b :: l, isDigitB c = true := fun c hc => h c (by rw [h3]; exact List.mem_append_right _ hc)
    have := (digits_val h2 (hbl b (by simp)) l.reverse (fun c hc => hbl c (by simp at hc; simp [hc]))).2
    rw [List.reverse_reverse] at this
    rw [hv, this]
/-- the document's word of a token -/
def wordD (u : RTok) : List UInt8 := if u.kind = 1 then digitsL u.n else u.s.data.toList
def closesD (u : RTok) : Bool := wordD u == [58] || wordD u == [46]
/-- the document's Print, of tokens -/
def docJ : Bool → List RTok → List UInt8
  | _, [] => []
  | _, [_] => []
  | tight, t :: u :: l => (if tight || closesD t then [] else [32]) ++ (wordD t ++ docJ (closesD t) (u :: l))
theorem live_word {t : STok} {u : RTok} (h : LiveT t u) : wordD u = plainL t ∧ closesD u = closesB t := by
  have key : wordD u = plainL t := by
    unfold wordD plainL
    obtain ⟨_, ⟨h1, h2, h3, h4⟩ | ⟨h1, h2, h3, _⟩ | ⟨h1, h2, h3, _⟩ | ⟨h1, h2, h3, _⟩⟩ := h
    · rw [if_pos h2, if_pos h1, h3]
      exact digits_trim h4.2.2
    all_goals rw [if_neg (by omega), if_neg (by omega), h3]
  refine ⟨key, ?_⟩
  unfold closesD
  rw [key]
  unfold closesB STok.is
  rw [toList_data, toList_data, toList_data, sign_bytes.1, sign_bytes.2]
  unfold plainL
  obtain ⟨_, ⟨h1, h2, h3, h4⟩ | ⟨h1, _⟩ | ⟨h1, _⟩ | ⟨h1, _⟩⟩ := h
  · rw [if_pos h1]
    have hs : t.text.data.toList.length = t.text.size := by simp
    have g := (trim_good (w := t.text.data.toList) ⟨by rw [hs]; exact h4.1, by rw [hs]; exact h4.2.1, h4.2.2⟩).2.2
    have no : ∀ (w : List UInt8) (b : UInt8), (∀ c ∈ w, isDigitB c = true) → isDigitB b = false → (w == [b]) = false := by
      intro w b hw hb
      rw [beq_eq_false_iff_ne]
      rintro rfl
      rw [hw b (by simp)] at hb; cases hb
    rw [no _ 58 g (by decide), no _ 46 g (by decide), no _ 58 h4.2.2 (by decide), no _ 46 h4.2.2 (by decide)]
  all_goals rw [if_neg (by omega)]
theorem lex_kind {s : ByteArray} {at_ k : Nat} {t : RTok} (h : lexStep s at_ = (t, some k)) : t.kind ≠ 3 := by
  unfold lexStep at h
  simp only at h
  generalize spanTo isBlankB s at_ = i at *
  repeat' split at h
  all_goals first
    | (injection h with h1 h2; cases h2; done)
    | (injection h with h1 h2; rw [← h1]; simp)
theorem doc_join {s : ByteArray} : ∀ (ts : List STok) (l : List RTok) (at_ : Nat) (tight : Bool), TR ts l → Toks ts → LX s at_ l → docJ tight l = joinL tight ts ∧ l.length = ts.length := by
  intro ts
  induction ts with
  | nil => intro _ _ _ h; exact h.elim
  | cons t ts ih =>
    intro l at_ tight hT hK hL
    cases l with
    | nil => exact absurd hT (by cases ts <;> exact id)
    | cons u m =>
      cases ts with
      | nil =>
        obtain ⟨hk, _⟩ := hK
        have h3 : u.kind = 3 := by
          obtain ⟨_, h | h, _⟩ := hT
          · exact h.2
          · omega
        have hm : m = [] := by
          cases hL with
          | last _ => rfl
          | more h _ => exact absurd h3 (lex_kind h)
        subst hm
        refine ⟨?_, rfl⟩
        unfold joinL
        rw [if_pos hk]; rfl
      | cons t' ts =>
        obtain ⟨hl, _, hT'⟩ := hT
        obtain ⟨hg, _, hK'⟩ := hK
        have hk : ¬ t.kind = 1 := by have := (good_kind hg).1; omega
        cases hL with
        | last _ => exact absurd hT' (by cases ts <;> exact id)
        | @more _ k _ _ h hL' =>
          obtain ⟨e1, e2⟩ := ih m k (closesB t) hT' hK' hL'
          cases m with
          | nil => exact absurd hT' (by cases ts <;> exact id)
          | cons u' m =>
            obtain ⟨w1, w2⟩ := live_word hl
            unfold docJ joinL
            rw [if_neg hk, w1, w2, e1]
            exact ⟨rfl, by rw [List.length_cons, e2]; rfl⟩
end Go.Proofs.YtddbjcfdmdbmkaaGreatDoor

/-
  The document's Print: digits.
-/
namespace Go.Proofs.YtddbjcfdmdbmkaaGreatDoor
open Go.RowKit

def tenB : ByteArray := ⟨#[48, 49, 50, 51, 52, 53, 54, 55, 56, 57]⟩
theorem ten_at (d : Nat) (h : d < 10) : tenB.extract d (d + 1) = ⟨[UInt8.ofNat (48 + d)].toArray⟩ := by
  have key : ∀ d : Fin 10, (tenB.extract d.val (d.val + 1)).data.toList = [UInt8.ofNat (48 + d.val)] := by decide +kernel
  apply ByteArray.ext
  apply Array.toList_inj.1
  have := key ⟨d, h⟩
  simpa using this
/-- the digits that are still to be written, and those that were -/
def digR (n : Nat) (v : Nat) (m : List UInt8) : Prop := (if v = 0 then m else digitsL v ++ m) = digitsL n
theorem digR_start (n : Nat) : digR n (n / 10) [UInt8.ofNat (48 + n % 10)] := by
  unfold digR
  split
  · rename_i h
    have hn : n < 10 := by omega
    unfold digitsL digitsN
    rw [if_pos hn, Nat.mod_eq_of_lt hn]
  · rename_i h
    have := digits_step (n / 10) (n % 10) (by omega) (by omega)
    rw [show 10 * (n / 10) + n % 10 = n by omega] at this
    exact this.symm
theorem digR_step {n v : Nat} {m : List UInt8} (h : digR n v m) (hv : 0 < v) : digR n (v / 10) (UInt8.ofNat (48 + v % 10) :: m) := by
  have := digR_start v
  unfold digR at h this ⊢
  rw [if_neg (by omega)] at h
  rw [← h, ← this]
  split
  · simp
  · simp
theorem digits_len : ∀ f n, (digitsN f n).length ≤ f := by
  intro f
  induction f with
  | zero => intro n; simp [digitsN]
  | succ f ih =>
    intro n
    unfold digitsN
    split
    · simp
    · have := ih (n / 10); simp; omega
theorem digR_len {n v : Nat} {m : List UInt8} (h : digR n v m) : m.length ≤ n + 1 := by
  have h1 := digits_len (n + 1) n
  have h2 := congrArg List.length h
  unfold digitsL at h2
  split at h2
  · omega
  · rw [List.length_append] at h2; omega
set_option maxRecDepth 100000 in
set_option maxHeartbeats 1600000 in
theorem digits_p (n : Nat) (hn : n ≤ 1000000000000) (w : World) : Calls Tryz.prog 68 #[.int .i64 n] w fun e w' => e = .returned (.string ⟨(digitsL n).toArray⟩) ∧ w' = w := by
  have hs := digR_start n
  have hx := ten_at (n % 10) (by omega)
  unfold tenB at hx
  have h0 : (0 : Int) ≤ (n : Int) := by omega
  go_enter Tryz.func68, Tryz.ntmps68
  go_wp2
  go_loopw [0, 4] (fun a b wr => ∃ (v : Nat) (m : List UInt8), v ≤ 1000000000000 ∧ a = .int .i64 v ∧ b = .string ⟨m.toArray⟩ ∧ digR n v m ∧ wr = w) (fun a _ _ => (intOf a).toNat)
  case atStart => exact ⟨n / 10, _, by omega, by simp, by rw [hx], hs, rfl⟩
  case round =>
    obtain ⟨v, m, hv, rfl, rfl, hr, rfl⟩ := hrel
    clear hs hx
    by_cases hp : 0 < v
    · have hp' : (0 : Int) < (v : Int) := by omega
      have h0v : (0 : Int) ≤ (v : Int) := by omega
      have hx := ten_at (v % 10) (by omega)
      unfold tenB at hx
      have hst := digR_step hr hp
      have hml : ¬ 9223372036854775807 < 1 + m.length := by have := digR_len hr; omega
      go_wp2
      go_roundw
      case rel => exact ⟨v / 10, UInt8.ofNat (48 + v % 10) :: m, by omega, by simp, by congr 1; apply ByteArray.ext; simp, hst, trivial⟩
      case measure => simp [intOf]; omega
    · have hp' : v = 0 := by omega
      subst hp'
      go_wp2
      go_ret
      have : digitsL n = m := by unfold digR at hr; rw [if_pos rfl] at hr; exact hr.symm
      rw [this]; exact ⟨rfl, rfl⟩
end Go.Proofs.YtddbjcfdmdbmkaaGreatDoor
