import Derived.Test.YtddbjcfdmdbmkaaGreatDoorB03
import Derived.Test.YtddbjcfdmdbmkaaGreatDoorB02
set_option linter.unusedVariables false
set_option linter.unusedSimpArgs false
/-
  sequence and part, as a relation.
-/
namespace Go.Proofs.YtddbjcfdmdbmkaaGreatDoor
open Go.RowKit

/-- number, whatever stands there. -/
theorem number_any {own : Nat → Nat} {w : World} {b : Nat} {m : PM} {σ : PSt} (h : St own w b m σ) (hg : Good σ.toks) (lo hi : Int)
    (b1 : σ.nums.length ≤ 10000) (b2 : σ.lo.length ≤ 10000) (b3 : σ.hi.length ≤ 10000) :
    Calls Tryz.prog 94 #[.pointer (some ⟨b, 0, none⟩), .int .i64 lo, .int .i64 hi] w fun e w' => e = .returned (.int .i64 σ.numV) ∧ After own w b (σ.num lo hi) w' := by
  cases hn : σ.isNum with
  | true =>
    refine (number_good h hg.inv lo hi hn b1 b2 b3).mono ?_
    rintro e w' ⟨rfl, ha⟩
    exact ⟨by simp [PSt.numV, hn], by simpa [PSt.num, hn] using ha⟩
  | false =>
    refine (number_bad h lo hi hn).mono ?_
    rintro e w' ⟨rfl, hs, he⟩
    exact ⟨by simp [PSt.numV, hn], own, m, by simpa [PSt.num, hn] using hs, he⟩

def bNot : ByteArray := ⟨#[110, 111, 116]⟩
def bTimes : ByteArray := ⟨#[116, 105, 109, 101, 115]⟩
def bIf : ByteArray := ⟨#[105, 102]⟩
def bThen : ByteArray := ⟨#[116, 104, 101, 110]⟩

/-- A step's or a guard's head: its name, the state behind it. -/
def PSt.hName (σ : PSt) : ByteArray := if σ.isS bNot then mt else σ.nameV
def PSt.hSt (σ : PSt) : PSt := if σ.isS bNot then σ.adv else σ.nam.want ⟨#[58]⟩
/-- its kind -/
def PSt.kSt (σ : PSt) : PSt := σ.hSt.num 0 99
/-- how often -/
def PSt.hasT (σ : PSt) : Bool := !σ.isS bNot && σ.kSt.isS bTimes
def PSt.tVal (σ : PSt) : Int := if σ.hasT then σ.kSt.adv.numV else 1
def PSt.tSt (σ : PSt) : PSt := if σ.hasT then σ.kSt.adv.num 1 4 else σ.kSt

inductive QFn where
  | part (r : Nat)
  | seq (acc out : List Nat)
  | brk (acc out : List (List Nat))

def PSt.addPart (σ : PSt) (x : RPart) : PSt := { σ with parts := σ.parts ++ [x] }
def PSt.closed (σ : PSt) (ways : List (List Nat)) : PSt := (if ways.length < 2 then σ.bad else σ).want ⟨#[41]⟩
structure PSt.Small (σ : PSt) : Prop where
  nums : σ.nums.length ≤ 10000
  lo : σ.lo.length ≤ 10000
  hi : σ.hi.length ≤ 10000

inductive Q : QFn → PSt → PSt → Prop
  | seq_end {acc : List Nat} {r : Nat} {σ σ1 : PSt} : acc.length ≤ 10000 → Q (.part r) σ σ1 → σ1.isS bThen = false → Q (.seq acc (acc ++ [r])) σ σ1
  | seq_more {acc out : List Nat} {r : Nat} {σ σ1 σ' : PSt} : acc.length ≤ 10000 → Q (.part r) σ σ1 → σ1.isS bThen = true → Q (.seq (acc ++ [r]) out) σ1.adv σ' → Q (.seq acc out) σ σ'
  | brk_end {acc : List (List Nat)} {l : List Nat} {σ σ1 : PSt} : acc.length ≤ 10000 → Q (.seq [] l) σ σ1 → σ1.isS ⟨#[124]⟩ = false → Q (.brk acc (acc ++ [l])) σ σ1
  | brk_more {acc out : List (List Nat)} {l : List Nat} {σ σ1 σ' : PSt} : acc.length ≤ 10000 → Q (.seq [] l) σ σ1 → σ1.isS ⟨#[124]⟩ = true → Q (.brk (acc ++ [l]) out) σ1.adv σ' → Q (.brk acc out) σ σ'
  | part_brk {ways : List (List Nat)} {σ σ1 : PSt} {k : Nat} : σ.isS ⟨#[40]⟩ = true → σ.inside ≤ 1000000 → Q (.brk [] ways) (σ.adv.down σ.now.pos) σ1 → σ1.inside = k + 1 → k ≤ 1000000 →
      σ1.parts.length ≤ 100000 →
      Q (.part σ1.parts.length) σ (({ σ1 with inside := k }.closed ways).addPart ⟨σ.now.pos, false, mt, 0, 1, -1, ways⟩)
  | part_plain {σ : PSt} : σ.isS ⟨#[40]⟩ = false → σ.hSt.Small → σ.kSt.adv.Small → σ.tSt.isS bIf = false → σ.tSt.parts.length ≤ 100000 →
      Q (.part σ.tSt.parts.length) σ (σ.tSt.addPart ⟨σ.now.pos, σ.isS bNot, σ.hName, σ.hSt.numV, σ.tVal, -1, []⟩)
  | part_cond {σ σ1 : PSt} {c : Int} : σ.isS ⟨#[40]⟩ = false → σ.hSt.Small → σ.kSt.adv.Small → σ.tSt.isS bIf = true → R (.j 0) σ.tSt.adv c σ1 → σ1.parts.length ≤ 100000 →
      Q (.part σ1.parts.length) σ (σ1.addPart ⟨σ.now.pos, σ.isS bNot, σ.hName, σ.hSt.numV, σ.tVal, c, []⟩)

def PartCd (r : Nat) (σ σ' : PSt) : Prop := ∀ (own : Nat → Nat) (w : World) (b : Nat) (m : PM), St own w b m σ →
  Calls Tryz.prog 143 #[.pointer (some ⟨b, 0, none⟩)] w fun e w' => e = .returned (.int .i64 r) ∧ After own w b σ' w'

theorem closed_toks (σ : PSt) (ways : List (List Nat)) : (σ.closed ways).toks = σ.toks := by unfold PSt.closed; rw [want_toks]; split; exact bad_toks σ; rfl
theorem hSt_toks (σ : PSt) : σ.hSt.toks = σ.toks := by unfold PSt.hSt; split; rfl; rw [want_toks, nam_toks]
theorem kSt_toks (σ : PSt) : σ.kSt.toks = σ.toks := by unfold PSt.kSt; rw [num_toks, hSt_toks]
theorem tSt_toks (σ : PSt) : σ.tSt.toks = σ.toks := by unfold PSt.tSt; split; rw [num_toks]; exact kSt_toks σ; exact kSt_toks σ

theorem Q.toks {fn : QFn} {σ σ' : PSt} (h : Q fn σ σ') : σ'.toks = σ.toks := by
  induction h with
  | seq_end _ _ _ ih => exact ih
  | seq_more _ _ _ _ ih1 ih2 => exact ih2.trans ih1
  | brk_end _ _ _ ih => exact ih
  | brk_more _ _ _ _ ih1 ih2 => exact ih2.trans ih1
  | part_brk _ _ _ _ _ _ ih => exact (closed_toks _ _).trans ih
  | part_plain _ _ _ _ _ => exact tSt_toks _
  | part_cond _ _ _ _ hr _ => exact (R.toks hr).trans (tSt_toks _)
end Go.Proofs.YtddbjcfdmdbmkaaGreatDoor

/-
  tokens: what it tells; plain laws.
-/
namespace Go.Proofs.YtddbjcfdmdbmkaaGreatDoor
open Go.RowKit

def isBlankB (c : UInt8) : Bool := c == 32 || c == 10
def isSmallB (c : UInt8) : Bool := decide (97 ≤ c.toNat) && decide (c.toNat ≤ 122)
def isDigitB (c : UInt8) : Bool := decide (48 ≤ c.toNat) && decide (c.toNat ≤ 57)
/-- where the bytes of one class that stand from i on end -/
def spanTo (p : UInt8 → Bool) (s : ByteArray) (i : Nat) : Nat := i + ((s.data.toList.drop i).takeWhile p).length
theorem drop_cons (s : ByteArray) (k : Nat) (h : k < s.size) : s.data.toList.drop k = s[k] :: s.data.toList.drop (k + 1) := by
  rw [List.drop_eq_getElem_cons (by simpa using h)]; rfl
theorem span_step (p : UInt8 → Bool) (s : ByteArray) (k : Nat) (h : k < s.size) (hp : p s[k] = true) : spanTo p s (k + 1) = spanTo p s k := by
  unfold spanTo
  rw [drop_cons s k h, List.takeWhile_cons, if_pos hp]
  simp; omega
theorem span_stop (p : UInt8 → Bool) (s : ByteArray) (k : Nat) (h : k < s.size) (hp : p s[k] = false) : spanTo p s k = k := by
  unfold spanTo
  rw [drop_cons s k h, List.takeWhile_cons, if_neg (by simp [hp])]
  simp
theorem span_end (p : UInt8 → Bool) (s : ByteArray) (k : Nat) (h : s.size ≤ k) : spanTo p s k = k := by
  unfold spanTo
  rw [List.drop_eq_nil_of_le (by simpa using h)]
  simp
theorem span_ge (p : UInt8 → Bool) (s : ByteArray) (k : Nat) : k ≤ spanTo p s k := by unfold spanTo; omega
theorem span_le (p : UInt8 → Bool) (s : ByteArray) (k : Nat) (h : k ≤ s.size) : spanTo p s k ≤ s.size := by
  unfold spanTo
  have := (List.takeWhile_sublist p (l := s.data.toList.drop k)).length_le
  simp at this
  have e : s.data.size = s.size := rfl
  omega
theorem span_here (p : UInt8 → Bool) (s : ByteArray) (k : Nat) (h : k ≤ s.size) : spanTo p s (spanTo p s k) = spanTo p s k := by
  have key : ∀ n k, s.size - k = n → k ≤ s.size → spanTo p s (spanTo p s k) = spanTo p s k := by
    intro n
    induction n with
    | zero => intro k h1 h2; rw [span_end p s k (by omega), span_end p s k (by omega)]
    | succ n ih =>
      intro k h1 h2
      have hlt : k < s.size := by omega
      cases hp : p s[k] with
      | true => rw [← span_step p s k hlt hp]; exact ih (k + 1) (by omega) (by omega)
      | false => rw [span_stop p s k hlt hp, span_stop p s k hlt hp]
  exact key _ k rfl h

theorem byte_at (s : ByteArray) (i : Nat) (h : i < s.size) : s.data.toList.getD i 0 = s[i] := by
  have h' : i < s.data.toList.length := by simpa using h
  rw [List.getD_eq_getElem?_getD, List.getElem?_eq_getElem h']; rfl
/-- the value of the first nine digits -/
def nval (l : List UInt8) : Nat := (l.take 9).foldl (fun n c => 10 * n + (c.toNat - 48)) 0
/-- of the j bytes from k on -/
def nvS (s : ByteArray) (k j : Nat) : Nat := nval ((s.data.toList.drop k).take j)
theorem nvS_zero (s : ByteArray) (k : Nat) : nvS s k 0 = 0 := by simp [nvS, nval]
theorem nvS_lt (s : ByteArray) (k j : Nat) (h : k + j < s.size) (hj : j < 9) : nvS s k (j + 1) = 10 * nvS s k j + (s[k + j].toNat - 48) := by
  unfold nvS nval
  have hl : j < (s.data.toList.drop k).length := by
    have e : s.data.size = s.size := rfl
    simp; omega
  rw [List.take_take, List.take_take, Nat.min_eq_right (by omega), Nat.min_eq_right (by omega), List.take_succ_eq_append_getElem hl, List.foldl_append]
  simp only [List.foldl_cons, List.foldl_nil, List.getElem_drop]
  rfl
theorem nvS_ge (s : ByteArray) (k j : Nat) (hj : 9 ≤ j) : nvS s k (j + 1) = nvS s k j := by
  unfold nvS nval
  rw [List.take_take, List.take_take, Nat.min_eq_left (by omega), Nat.min_eq_left (by omega)]
theorem nvS_at (s : ByteArray) (k k2 : Nat) (h : k ≤ k2) (hlt : k2 < s.size) (h9 : k2 - k < 9) : nvS s k (k2 + 1 - k) = 10 * nvS s k (k2 - k) + (s[k2].toNat - 48) := by
  obtain ⟨j, rfl⟩ : ∃ j, k2 = k + j := ⟨k2 - k, by omega⟩
  rw [show k + j + 1 - k = j + 1 by omega, show k + j - k = j by omega]
  exact nvS_lt s k j hlt (by omega)
/-- no more than nine digits' worth -/
def Nine (v j : Nat) : Prop := v + 1 ≤ 10 ^ (min j 9)
theorem Nine.zero : Nine 0 0 := by simp [Nine]
theorem Nine.lt {v j d : Nat} (h : Nine v j) (hj : j < 9) (hd : d ≤ 9) : Nine (10 * v + d) (j + 1) := by
  unfold Nine at *
  rw [Nat.min_eq_left (by omega)] at *
  rw [Nat.pow_succ]
  generalize 10 ^ j = p at *
  omega
theorem Nine.ge {v j : Nat} (h : Nine v j) (hj : 9 ≤ j) : Nine v (j + 1) := by
  unfold Nine at *
  rw [Nat.min_eq_right (by omega)] at *
  exact h
theorem Nine.le {v j : Nat} (h : Nine v j) : v ≤ 999999999 := by
  unfold Nine at h
  have : 10 ^ (min j 9) ≤ 10 ^ 9 := Nat.pow_le_pow_right (by decide) (Nat.min_le_right _ _)
  omega
def signs1 : List UInt8 := [40, 41, 124, 58, 46, 43, 45, 42, 47, 61, 60, 62]
def isTwoB (s : ByteArray) (i : Nat) : Bool := decide (i + 1 < s.size) && (s.data.toList.getD (i + 1) 0 == 61) && memB (s.data.toList.getD i 0) [33, 60, 62]
def isOneB (s : ByteArray) (i : Nat) : Bool := memB (s.data.toList.getD i 0) signs1
/-- The token at or behind a place, and where to go on; none: it is the last. -/
def lexStep (s : ByteArray) (at_ : Nat) : RTok × Option Nat :=
  let i := spanTo isBlankB s at_
  if s.size ≤ i then (⟨3, ⟨#[]⟩, i, 0⟩, none)
  else if isSmallB (s.data.toList.getD i 0) then (⟨0, s.extract i (spanTo isSmallB s i), i, 0⟩, some (spanTo isSmallB s i))
  else if isDigitB (s.data.toList.getD i 0) then
    (if 9 < spanTo isDigitB s i - i then (⟨4, ⟨#[]⟩, i, nvS s i (spanTo isDigitB s i - i)⟩, none)
     else (⟨1, s.extract i (spanTo isDigitB s i), i, nvS s i (spanTo isDigitB s i - i)⟩, some (spanTo isDigitB s i)))
  else if isTwoB s i then (⟨2, s.extract i (i + 2), i, 0⟩, some (i + 2))
  else if isOneB s i then (⟨2, s.extract i (i + 1), i, 0⟩, some (i + 1))
  else (⟨4, ⟨#[]⟩, i, 0⟩, none)
/-- All tokens from a place on. -/
inductive LX (s : ByteArray) : Nat → List RTok → Prop
  | last {at_ : Nat} {t : RTok} : lexStep s at_ = (t, none) → LX s at_ [t]
  | more {at_ k : Nat} {t : RTok} {l : List RTok} : lexStep s at_ = (t, some k) → LX s k l → LX s at_ (t :: l)
theorem lexStep_lt {s : ByteArray} {at_ k : Nat} {t : RTok} (h : lexStep s at_ = (t, some k)) (ha : at_ ≤ s.size) : at_ < k ∧ k ≤ s.size := by
  have h1 := span_ge isBlankB s at_
  have h2 := span_le isBlankB s at_ ha
  unfold lexStep at h
  simp only at h
  generalize spanTo isBlankB s at_ = i at *
  split at h
  · cases h
  · have hi : i < s.size := by omega
    have hg := byte_at s i hi
    split at h
    · rename_i hs
      rw [hg] at hs
      have h3 := span_ge isSmallB s (i + 1)
      have h4 := span_step isSmallB s i hi hs
      have h5 := span_le isSmallB s i h2
      cases h; omega
    · split at h
      · rename_i hs
        rw [hg] at hs
        have h3 := span_ge isDigitB s (i + 1)
        have h4 := span_step isDigitB s i hi hs
        have h5 := span_le isDigitB s i h2
        split at h
        · cases h
        · cases h; omega
      · split at h
        · rename_i ht
          simp [isTwoB] at ht
          cases h; omega
        · split at h
          · cases h; omega
          · cases h
/-- There are always some. -/
theorem lex_total (s : ByteArray) : ∀ n at_, s.size - at_ = n → at_ ≤ s.size → ∃ l, LX s at_ l := by
  intro n
  induction n using Nat.strongRecOn with
  | _ n ih =>
    intro at_ h1 h2
    cases h : lexStep s at_ with
    | mk t k =>
      cases k with
      | none => exact ⟨[t], .last h⟩
      | some k =>
        have hk := lexStep_lt h h2
        obtain ⟨l, hl⟩ := ih (s.size - k) (by omega) k rfl hk.2
        exact ⟨t :: l, .more h hl⟩
end Go.Proofs.YtddbjcfdmdbmkaaGreatDoor

/-
  choose; names.
-/
namespace Go.Proofs.YtddbjcfdmdbmkaaGreatDoor
open Go.RowKit

/-- how many ways there are to take k out of n -/
def cho : Nat → Nat → Nat
  | _, 0 => 1
  | 0, _ + 1 => 0
  | n + 1, k + 1 => cho n k + cho n (k + 1)
theorem cho_le (n k : Nat) : cho n k ≤ 2 ^ n := by
  induction n generalizing k with
  | zero => cases k <;> simp [cho]
  | succ n ih =>
    cases k with
    | zero => simp only [cho]; exact Nat.one_le_two_pow
    | succ k => have h1 := ih k; have h2 := ih (k + 1); simp only [cho]; rw [Nat.pow_succ]; omega

set_option maxHeartbeats 400000 in
theorem choose_any (n : Nat) : ∀ (k : Nat) (w : World), n ≤ 20 → k ≤ 1000 →
    Calls Tryz.prog 62 #[.int .i64 n, .int .i64 k] w fun e w' => e = .returned (.int .i64 (cho n k)) ∧ w' = w := by
  induction n with
  | zero =>
    intro k w _ hk
    cases k with
    | zero =>
      go_enter Tryz.func62, Tryz.ntmps62
      go_wp2_with fail
      go_ret
      exact ⟨rfl, rfl⟩
    | succ k =>
      have h0 : ((k : Int) + 1 == 0) = false := by rw [beq_eq_false_iff_ne]; omega
      go_enter Tryz.func62, Tryz.ntmps62
      go_wp2_with fail
      go_ret
      exact ⟨rfl, rfl⟩
  | succ n ih =>
    intro k w hn hk
    cases k with
    | zero =>
      go_enter Tryz.func62, Tryz.ntmps62
      go_wp2_with fail
      go_ret
      exact ⟨by simp [cho], rfl⟩
    | succ k =>
      have h0 : ((k : Int) + 1 == 0) = false := by rw [beq_eq_false_iff_ne]; omega
      have h1 : ((n : Int) + 1 == 0) = false := by rw [beq_eq_false_iff_ne]; omega
      have hb1 := cho_le n k
      have hb2 := cho_le n (k + 1)
      have hp : 2 ^ n ≤ 2 ^ 20 := Nat.pow_le_pow_right (by decide) (by omega)
      have e1 : (2 : Nat) ^ 20 = 1048576 := by decide
      have hc1 : cho n k ≤ 1048576 := by omega
      have hc2 : cho n (k + 1) ≤ 1048576 := by omega
      have IH := ih
      have HI : Hid (∀ (k : Nat) (w : World), n ≤ 20 → k ≤ 1000 → Calls Tryz.prog 62 #[.int .i64 n, .int .i64 k] w fun e w' => e = .returned (.int .i64 (cho n k)) ∧ w' = w) := ih
      clear ih IH hb1 hb2 hp e1
      have HC : Hid (cho (n + 1) (k + 1) = cho n k + cho n (k + 1)) := rfl
      go_enter Tryz.func62, Tryz.ntmps62
      go_wp2_with fail
      refine (HI.out k _ (by omega) (by omega)).mono ?_
      rintro e w' ⟨rfl, rfl⟩
      go_wp2_with fail
      refine (HI.out (k + 1) _ (by omega) (by omega)).mono ?_
      rintro e w' ⟨rfl, rfl⟩
      go_wp2_with fail
      go_ret
      exact ⟨ret_int (by rw [HC.out]; omega), rfl⟩
end Go.Proofs.YtddbjcfdmdbmkaaGreatDoor

/-
  factor: a field.
-/
namespace Go.Proofs.YtddbjcfdmdbmkaaGreatDoor
open Go.RowKit

def NC (nm fl : ByteArray) (pos : Int) : Array Value := #[.string ⟨#[102]⟩, .int .i64 0, .int .i64 0, .int .i64 0, .string nm, .string fl, .int .i64 pos]

/-- The field's head is read: the state, the node's block. -/
structure FldAt (own : Nat → Nat) (w : World) (b : Nat) (nm : ByteArray) (pos : Int) (σ : PSt) (own4 : Nat → Nat) (m : PM) (N : Nat) (w4 : World) : Prop where
  st : St own4 w4 b m σ
  ext : Ext own w own4 w4
  blk : Blk w4 N (NC nm mt pos) 248
  own : own4 N = 8
  new : w.heap.size ≤ N

set_option maxRecDepth 100000 in
set_option maxHeartbeats 1600000 in
theorem f_fld_any {σ : PSt} (hg : Good σ.toks) (_hw : σ.wrong < 0) (hk : σ.now.kind ≠ 1) (h1 : σ.isS ⟨#[45]⟩ = false) (h2 : σ.isS ⟨#[40]⟩ = false) (own : Nat → Nat) (w : World) (b : Nat) (m : PM) (h : St own w b m σ)
    (hb : σ.fieldHead.nodes.length ≤ 100000) :
    Calls Tryz.prog 205 #[.pointer (some ⟨b, 0, none⟩)] w fun e w' =>
      ((σ.fieldHead.now.isField && decide (σ.fieldHead.wrong < 0)) = false ∧ e = .returned (.int .i64 0) ∧ After own w b σ.fieldHead.bad w') ∨
      ((σ.fieldHead.now.isField && decide (σ.fieldHead.wrong < 0)) = true ∧ e = .returned (.int .i64 σ.fieldHead.nodes.length) ∧ After own w b (σ.fieldHead.adv.push ⟨⟨#[102]⟩, 0, 0, 0, σ.fieldName, σ.fieldHead.now.s, σ.now.pos⟩) w') := by
  have hk' : ((σ.now.kind : Int) == 1) = false := by rw [beq_eq_false_iff_ne]; omega
  have HK : Hid (σ.now.kind ≠ 1) := hk
  have HS1 : Hid (σ.isS ⟨#[45]⟩ = false) := h1
  have HS2 : Hid (σ.isS ⟨#[40]⟩ = false) := h2
  have HM1 : Hid (σ.may ⟨#[45]⟩ = σ) := by show _ = _; simp [PSt.may, h1]
  have HM2 : Hid (σ.may ⟨#[40]⟩ = σ) := by show _ = _; simp [PSt.may, h2]
  have h0 := loc_st h (w.heap.size + 1) (by omega)
  have hoL : put own (w.heap.size + 1) 7 (w.heap.size + 1) = 7 := put_same _ _ _
  have hE0 := fun o => loc_ext own w o (.cells (TC σ) 150) (w.heap.size + 1) (by omega)
  have hL0 := fun o => loc_blk w o (TC σ) 150
  unfold TC at hE0 hL0
  clear h1 h2 hk
  go_enter Tryz.func205, Tryz.ntmps205
  go_wp2_with (first
    | (go_at_call 96; refine (now_any h).mono ?_; rintro e w' ⟨rfl, o, rfl⟩)
    | (go_at_call_of 142 (Value.string ⟨#[45]⟩); refine (may_any (((h0.alloc _).alloc _).drew) hg.inv _).mono ?_; rintro e w1 ⟨rfl, hS1, hE1⟩; rw [HS1.out]; rw [HM1.out] at hS1; have hL1 := hE1.blk hoL (hL0 o))
    | (go_at_call_of 142 (Value.string ⟨#[40]⟩); refine (may_any hS1 hg.inv _).mono ?_; rintro e w2 ⟨rfl, hS2, hE2⟩; rw [HS2.out]; rw [HM2.out] at hS2; have hL2 := hE2.blk hoL hL1; have l2 := hL2.cell 2; simp at l2))
  have hS2' := (h2st hS2 w2.heap.size (Nat.le_refl _)).alloc (.cells (NC mt mt σ.now.pos) 248)
  have hoN : put (put own (w.heap.size + 1) 7) w2.heap.size 8 w2.heap.size = 8 := put_same _ _ _
  have hN2 := Blk.new w2 (NC mt mt σ.now.pos) 248
  have hE2' := (((hE0 o).trans hE1).trans hE2).allocAs (.cells (NC mt mt σ.now.pos) 248) 8
  have hnew : w.heap.size ≤ w2.heap.size := (((hE0 o).trans hE1).trans hE2).size
  cases hit : σ.isS ⟨#[105, 116]⟩ with
  | true =>
    have HM3 : Hid (σ.may ⟨#[105, 116]⟩ = σ.adv) := by show _ = _; simp [PSt.may, hit, PSt.adv]
    have HF : Hid (σ.fieldHead = σ.adv.want ⟨#[46]⟩) := by show _ = _; simp [PSt.fieldHead, hit]
    have HNm : Hid (σ.fieldName = mt) := by show _ = _; simp [PSt.fieldName, hit]
    have HIt : Hid (σ.isS ⟨#[105, 116]⟩ = true) := hit
    clear hit hL1 hL2 hE1 hE2 hS1 hS2 l2
    refine (may_any hS2' hg.inv _).mono ?_
    rintro e w3 ⟨rfl, hS3, hE3⟩
    rw [HIt.out]
    rw [HM3.out] at hS3
    have hN3 := hE3.blk8 hoN hN2
    go_wp2_with fail
    refine (want_any hS3 hg.inv _).mono ?_
    rintro e w4 ⟨rfl, hS4, hE4⟩
    have hF4 : FldAt own w b σ.fieldName σ.now.pos σ.fieldHead _ _ _ w4 := ⟨HF.out ▸ hS4, (hE2'.trans hE3).trans hE4, by rw [HNm.out]; exact hE4.blk8 hoN hN3, hoN, hnew⟩
    go_wp2_with fail
    have hbF : σ.fieldHead.nodes.length ≤ 100000 := hb
    have hgF : Good σ.fieldHead.toks := by rw [fieldHead_toks]; exact hg
    have hGi : σ.fieldHead.now.kind ≤ 2 → σ.fieldHead.i + 1 < σ.fieldHead.toks.length := fun hk => hgF.inv.next hF4.st.ilt hk
    generalize hσF : σ.fieldHead = σF at *
    generalize hnm : σ.fieldName = nm at *
    have HσF : Hid (σ.fieldHead = σF) := hσF
    have Hnm : Hid (σ.fieldName = nm) := hnm
    clear hσF hnm
    generalize put (put own (w.heap.size + 1) 7) w2.heap.size 8 = own4 at *
    generalize w2.heap.size = N at *
    have c2 := hF4.st.cell 2
    have c1 := hF4.st.cell 1
    simp [PCells] at c2 c1
    have f1 := hF4.st.blk.frozen 1
    have hb4 := hF4.st.blk.lt
    have hN4 := hF4.blk.lt
    have hbN : b ≠ N := fun e => by have := hF4.st.ob; rw [e, hF4.own] at this; cases this
    have hNb := Ne.symm hbN
    have n0 := hF4.blk.cell 0
    have n1 := hF4.blk.cell 1
    have n2 := hF4.blk.cell 2
    have n3 := hF4.blk.cell 3
    have n4 := hF4.blk.cell 4
    have n5 := hF4.blk.cell 5
    have n6 := hF4.blk.cell 6
    have g5 := hF4.blk.frozen 5
    simp [NC] at n0 n1 n2 n3 n4 n5 n6
    have hil := hF4.st.ilt
    have htl := hF4.st.tlen
    have hN4' : N < w4.heap.size + 1 := by omega
    have hb4' : b < w4.heap.size + 1 := by omega
    clear hS4 hE4 hN3 hS3 hE3 hE2' hN2 hS2' HF HNm hb
    refine (now_any hF4.st).mono ?_
    rintro e w5 ⟨rfl, o5, rfl⟩
    have HX : Hid (∀ x : Bool, (σF.now.kind = 0 → σF.wrong < 0 → (σF.now.s.toList == [97] || σF.now.s.toList == [98] || σF.now.s.toList == [99] || σF.now.s.toList == [116]) = x) → (¬ σF.now.kind = 0 → x = false) → (¬ σF.wrong < 0 → x = false) → (σF.now.isField && decide (σF.wrong < 0)) = x) := by
      intro x h1 h2 h3
      by_cases hk : σF.now.kind = 0 <;> by_cases hw : σF.wrong < 0 <;> simp_all [RTok.isField]
    by_cases hkf : σF.now.kind = 0
    · have hkf' : ((σF.now.kind : Int) != 0) = false := by simp [hkf]
      have HKF : Hid (σF.now.kind = 0) := hkf
      clear hkf
      by_cases hwf : σF.wrong < 0
      · have HI5 : Hid (σF.i + 1 < σF.toks.length) := hGi (by rw [HKF.out]; decide)
        by_cases p97 : σF.now.s.toList = [97]
        · have q97 : (σF.now.s.toList == [97]) = true := by simp [p97]
          have HFl : Hid ((σF.now.isField && decide (σF.wrong < 0)) = true) := HX.out true (fun _ _ => by simp [p97]) (fun h => absurd HKF.out h) (fun h => absurd hwf h)
          clear p97
          go_wp2_with fail
          have hSA : St own4 (w4.setCell ⟨b, 1, none⟩ (.int .i64 (σF.i + 1))) b m σF.adv := hF4.st.store (σ' := σF.adv) 1 _ (by simp [PCells, PSt.adv]) rfl rfl rfl rfl rfl rfl HI5.out hF4.st.wlo
          have hSB := (((hSA.write8 (p := ⟨N, 5, none⟩) hF4.own (.string σF.now.s)).alloc o5).alloc (.cells (TC σF) 150)).drew
          have hEB := (((((hF4.ext.setCell (p := ⟨b, 1, none⟩) hF4.st.own7 (.int .i64 (σF.i + 1))).setNew (p := ⟨N, 5, none⟩) hF4.new (.string σF.now.s)).alloc o5).alloc (.cells (TC σF) 150)).drew)
          unfold TC at hSB hEB
          refine (node_any hSB _ _ _ _ _ _ _ (by show σF.nodes.length ≤ 100000; exact hbF)).mono ?_
          rintro e w6 ⟨rfl, own6, m6, hS6, hE6⟩
          go_wp2_with fail
          go_ret
          rw [HσF.out, Hnm.out]
          exact Or.inr ⟨HFl.out, rfl, own6, m6, hS6, hEB.trans hE6⟩
        have q97 : (σF.now.s.toList == [97]) = false := by simp [p97]
        by_cases p98 : σF.now.s.toList = [98]
        · have q98 : (σF.now.s.toList == [98]) = true := by simp [p98]
          have HFl : Hid ((σF.now.isField && decide (σF.wrong < 0)) = true) := HX.out true (fun _ _ => by simp [p98]) (fun h => absurd HKF.out h) (fun h => absurd hwf h)
          clear p98
          go_wp2_with fail
          have hSA : St own4 (w4.setCell ⟨b, 1, none⟩ (.int .i64 (σF.i + 1))) b m σF.adv := hF4.st.store (σ' := σF.adv) 1 _ (by simp [PCells, PSt.adv]) rfl rfl rfl rfl rfl rfl HI5.out hF4.st.wlo
          have hSB := (((hSA.write8 (p := ⟨N, 5, none⟩) hF4.own (.string σF.now.s)).alloc o5).alloc (.cells (TC σF) 150)).drew
          have hEB := (((((hF4.ext.setCell (p := ⟨b, 1, none⟩) hF4.st.own7 (.int .i64 (σF.i + 1))).setNew (p := ⟨N, 5, none⟩) hF4.new (.string σF.now.s)).alloc o5).alloc (.cells (TC σF) 150)).drew)
          unfold TC at hSB hEB
          refine (node_any hSB _ _ _ _ _ _ _ (by show σF.nodes.length ≤ 100000; exact hbF)).mono ?_
          rintro e w6 ⟨rfl, own6, m6, hS6, hE6⟩
          go_wp2_with fail
          go_ret
          rw [HσF.out, Hnm.out]
          exact Or.inr ⟨HFl.out, rfl, own6, m6, hS6, hEB.trans hE6⟩
        have q98 : (σF.now.s.toList == [98]) = false := by simp [p98]
        by_cases p99 : σF.now.s.toList = [99]
        · have q99 : (σF.now.s.toList == [99]) = true := by simp [p99]
          have HFl : Hid ((σF.now.isField && decide (σF.wrong < 0)) = true) := HX.out true (fun _ _ => by simp [p99]) (fun h => absurd HKF.out h) (fun h => absurd hwf h)
          clear p99
          go_wp2_with fail
          have hSA : St own4 (w4.setCell ⟨b, 1, none⟩ (.int .i64 (σF.i + 1))) b m σF.adv := hF4.st.store (σ' := σF.adv) 1 _ (by simp [PCells, PSt.adv]) rfl rfl rfl rfl rfl rfl HI5.out hF4.st.wlo
          have hSB := (((hSA.write8 (p := ⟨N, 5, none⟩) hF4.own (.string σF.now.s)).alloc o5).alloc (.cells (TC σF) 150)).drew
          have hEB := (((((hF4.ext.setCell (p := ⟨b, 1, none⟩) hF4.st.own7 (.int .i64 (σF.i + 1))).setNew (p := ⟨N, 5, none⟩) hF4.new (.string σF.now.s)).alloc o5).alloc (.cells (TC σF) 150)).drew)
          unfold TC at hSB hEB
          refine (node_any hSB _ _ _ _ _ _ _ (by show σF.nodes.length ≤ 100000; exact hbF)).mono ?_
          rintro e w6 ⟨rfl, own6, m6, hS6, hE6⟩
          go_wp2_with fail
          go_ret
          rw [HσF.out, Hnm.out]
          exact Or.inr ⟨HFl.out, rfl, own6, m6, hS6, hEB.trans hE6⟩
        have q99 : (σF.now.s.toList == [99]) = false := by simp [p99]
        by_cases p116 : σF.now.s.toList = [116]
        · have q116 : (σF.now.s.toList == [116]) = true := by simp [p116]
          have HFl : Hid ((σF.now.isField && decide (σF.wrong < 0)) = true) := HX.out true (fun _ _ => by simp [p116]) (fun h => absurd HKF.out h) (fun h => absurd hwf h)
          clear p116
          go_wp2_with fail
          have hSA : St own4 (w4.setCell ⟨b, 1, none⟩ (.int .i64 (σF.i + 1))) b m σF.adv := hF4.st.store (σ' := σF.adv) 1 _ (by simp [PCells, PSt.adv]) rfl rfl rfl rfl rfl rfl HI5.out hF4.st.wlo
          have hSB := (((hSA.write8 (p := ⟨N, 5, none⟩) hF4.own (.string σF.now.s)).alloc o5).alloc (.cells (TC σF) 150)).drew
          have hEB := (((((hF4.ext.setCell (p := ⟨b, 1, none⟩) hF4.st.own7 (.int .i64 (σF.i + 1))).setNew (p := ⟨N, 5, none⟩) hF4.new (.string σF.now.s)).alloc o5).alloc (.cells (TC σF) 150)).drew)
          unfold TC at hSB hEB
          refine (node_any hSB _ _ _ _ _ _ _ (by show σF.nodes.length ≤ 100000; exact hbF)).mono ?_
          rintro e w6 ⟨rfl, own6, m6, hS6, hE6⟩
          go_wp2_with fail
          go_ret
          rw [HσF.out, Hnm.out]
          exact Or.inr ⟨HFl.out, rfl, own6, m6, hS6, hEB.trans hE6⟩
        have q116 : (σF.now.s.toList == [116]) = false := by simp [p116]
        have HFl : Hid ((σF.now.isField && decide (σF.wrong < 0)) = false) := HX.out false (fun _ _ => by simp [p97, p98, p99, p116]) (fun _ => rfl) (fun _ => rfl)
        clear p97 p98 p99 p116
        go_wp2_with (go_at_call 97; refine (bad_any ((hF4.st.alloc _).alloc _).drew).mono ?_; rintro e w6 ⟨rfl, hS6, hE6⟩)
        go_ret
        rw [HσF.out]
        exact Or.inl ⟨HFl.out, rfl, own4, m, hS6, (((hF4.ext.alloc _).alloc _).drew).trans hE6⟩
      · have HFl : Hid ((σF.now.isField && decide (σF.wrong < 0)) = false) := HX.out false (fun _ h => absurd h hwf) (fun _ => rfl) (fun _ => rfl)
        have hwf' : 0 ≤ σF.wrong := by omega
        clear hwf
        go_wp2_with (go_at_call 97; refine (bad_any ((hF4.st.alloc _).alloc _).drew).mono ?_; rintro e w6 ⟨rfl, hS6, hE6⟩)
        go_ret
        rw [HσF.out]
        exact Or.inl ⟨HFl.out, rfl, own4, m, hS6, (((hF4.ext.alloc _).alloc _).drew).trans hE6⟩
    · have HFl : Hid ((σF.now.isField && decide (σF.wrong < 0)) = false) := HX.out false (fun h => absurd h hkf) (fun _ => rfl) (fun _ => rfl)
      have hkf' : ((σF.now.kind : Int) != 0) = true := by rw [bne_iff_ne]; omega
      have HKF : Hid (¬ σF.now.kind = 0) := hkf
      clear hkf
      go_wp2_with (go_at_call 97; refine (bad_any ((hF4.st.alloc _).alloc _).drew).mono ?_; rintro e w6 ⟨rfl, hS6, hE6⟩)
      go_ret
      rw [HσF.out]
      exact Or.inl ⟨HFl.out, rfl, own4, m, hS6, (((hF4.ext.alloc _).alloc _).drew).trans hE6⟩
  | false =>
    have HM3 : Hid (σ.may ⟨#[105, 116]⟩ = σ) := by show _ = _; simp [PSt.may, hit]
    have HF : Hid (σ.fieldHead = σ.nam.want ⟨#[46]⟩) := by show _ = _; simp [PSt.fieldHead, hit]
    have HNm : Hid (σ.fieldName = σ.nameV) := by show _ = _; simp [PSt.fieldName, hit]
    have HIt : Hid (σ.isS ⟨#[105, 116]⟩ = false) := hit
    clear hit hL1 hL2 hE1 hE2 hS1 hS2 l2
    refine (may_any hS2' hg.inv _).mono ?_
    rintro e w3 ⟨rfl, hS3, hE3⟩
    rw [HIt.out]
    rw [HM3.out] at hS3
    have hN3 := hE3.blk8 hoN hN2
    go_wp2_with fail
    refine (name_any hS3 hg.inv hg.size).mono ?_
    rintro e w3' ⟨rfl, hS3', hE3'⟩
    have hN3' := hE3'.blk8 hoN hN3
    have m4 := hN3'.cell 4
    have mf := hN3'.frozen 4
    simp [NC] at m4
    go_wp2_with fail
    have hS3b := hS3'.write8 (p := ⟨w2.heap.size, 4, none⟩) hoN (.string σ.nameV)
    have hN3b := hN3'.set 4 (.string σ.nameV)
    have hE3b := ((hE2'.trans hE3).trans hE3').setNew (p := ⟨w2.heap.size, 4, none⟩) hnew (.string σ.nameV)
    have hgn : Good σ.nam.toks := by rw [nam_toks]; exact hg
    clear hE3' hN3' hS3' m4 mf hN3
    refine (want_any hS3b hgn.inv _).mono ?_
    rintro e w4 ⟨rfl, hS4, hE4⟩
    have hF4 : FldAt own w b σ.fieldName σ.now.pos σ.fieldHead _ _ _ w4 := ⟨HF.out ▸ hS4, hE3b.trans hE4, by rw [HNm.out]; have := hE4.blk8 hoN hN3b; simpa [NC] using this, hoN, hnew⟩
    clear hS3b hE3b
    have hN3 := hN3b
    clear hN3b
    go_wp2_with fail
    have hbF : σ.fieldHead.nodes.length ≤ 100000 := hb
    have hgF : Good σ.fieldHead.toks := by rw [fieldHead_toks]; exact hg
    have hGi : σ.fieldHead.now.kind ≤ 2 → σ.fieldHead.i + 1 < σ.fieldHead.toks.length := fun hk => hgF.inv.next hF4.st.ilt hk
    generalize hσF : σ.fieldHead = σF at *
    generalize hnm : σ.fieldName = nm at *
    have HσF : Hid (σ.fieldHead = σF) := hσF
    have Hnm : Hid (σ.fieldName = nm) := hnm
    clear hσF hnm
    generalize put (put own (w.heap.size + 1) 7) w2.heap.size 8 = own4 at *
    generalize w2.heap.size = N at *
    have c2 := hF4.st.cell 2
    have c1 := hF4.st.cell 1
    simp [PCells] at c2 c1
    have f1 := hF4.st.blk.frozen 1
    have hb4 := hF4.st.blk.lt
    have hN4 := hF4.blk.lt
    have hbN : b ≠ N := fun e => by have := hF4.st.ob; rw [e, hF4.own] at this; cases this
    have hNb := Ne.symm hbN
    have n0 := hF4.blk.cell 0
    have n1 := hF4.blk.cell 1
    have n2 := hF4.blk.cell 2
    have n3 := hF4.blk.cell 3
    have n4 := hF4.blk.cell 4
    have n5 := hF4.blk.cell 5
    have n6 := hF4.blk.cell 6
    have g5 := hF4.blk.frozen 5
    simp [NC] at n0 n1 n2 n3 n4 n5 n6
    have hil := hF4.st.ilt
    have htl := hF4.st.tlen
    have hN4' : N < w4.heap.size + 1 := by omega
    have hb4' : b < w4.heap.size + 1 := by omega
    clear hS4 hE4 hN3 hS3 hE3 hE2' hN2 hS2' HF HNm hb
    refine (now_any hF4.st).mono ?_
    rintro e w5 ⟨rfl, o5, rfl⟩
    have HX : Hid (∀ x : Bool, (σF.now.kind = 0 → σF.wrong < 0 → (σF.now.s.toList == [97] || σF.now.s.toList == [98] || σF.now.s.toList == [99] || σF.now.s.toList == [116]) = x) → (¬ σF.now.kind = 0 → x = false) → (¬ σF.wrong < 0 → x = false) → (σF.now.isField && decide (σF.wrong < 0)) = x) := by
      intro x h1 h2 h3
      by_cases hk : σF.now.kind = 0 <;> by_cases hw : σF.wrong < 0 <;> simp_all [RTok.isField]
    by_cases hkf : σF.now.kind = 0
    · have hkf' : ((σF.now.kind : Int) != 0) = false := by simp [hkf]
      have HKF : Hid (σF.now.kind = 0) := hkf
      clear hkf
      by_cases hwf : σF.wrong < 0
      · have HI5 : Hid (σF.i + 1 < σF.toks.length) := hGi (by rw [HKF.out]; decide)
        by_cases p97 : σF.now.s.toList = [97]
        · have q97 : (σF.now.s.toList == [97]) = true := by simp [p97]
          have HFl : Hid ((σF.now.isField && decide (σF.wrong < 0)) = true) := HX.out true (fun _ _ => by simp [p97]) (fun h => absurd HKF.out h) (fun h => absurd hwf h)
          clear p97
          go_wp2_with fail
          have hSA : St own4 (w4.setCell ⟨b, 1, none⟩ (.int .i64 (σF.i + 1))) b m σF.adv := hF4.st.store (σ' := σF.adv) 1 _ (by simp [PCells, PSt.adv]) rfl rfl rfl rfl rfl rfl HI5.out hF4.st.wlo
          have hSB := (((hSA.write8 (p := ⟨N, 5, none⟩) hF4.own (.string σF.now.s)).alloc o5).alloc (.cells (TC σF) 150)).drew
          have hEB := (((((hF4.ext.setCell (p := ⟨b, 1, none⟩) hF4.st.own7 (.int .i64 (σF.i + 1))).setNew (p := ⟨N, 5, none⟩) hF4.new (.string σF.now.s)).alloc o5).alloc (.cells (TC σF) 150)).drew)
          unfold TC at hSB hEB
          refine (node_any hSB _ _ _ _ _ _ _ (by show σF.nodes.length ≤ 100000; exact hbF)).mono ?_
          rintro e w6 ⟨rfl, own6, m6, hS6, hE6⟩
          go_wp2_with fail
          go_ret
          rw [HσF.out, Hnm.out]
          exact Or.inr ⟨HFl.out, rfl, own6, m6, hS6, hEB.trans hE6⟩
        have q97 : (σF.now.s.toList == [97]) = false := by simp [p97]
        by_cases p98 : σF.now.s.toList = [98]
        · have q98 : (σF.now.s.toList == [98]) = true := by simp [p98]
          have HFl : Hid ((σF.now.isField && decide (σF.wrong < 0)) = true) := HX.out true (fun _ _ => by simp [p98]) (fun h => absurd HKF.out h) (fun h => absurd hwf h)
          clear p98
          go_wp2_with fail
          have hSA : St own4 (w4.setCell ⟨b, 1, none⟩ (.int .i64 (σF.i + 1))) b m σF.adv := hF4.st.store (σ' := σF.adv) 1 _ (by simp [PCells, PSt.adv]) rfl rfl rfl rfl rfl rfl HI5.out hF4.st.wlo
          have hSB := (((hSA.write8 (p := ⟨N, 5, none⟩) hF4.own (.string σF.now.s)).alloc o5).alloc (.cells (TC σF) 150)).drew
          have hEB := (((((hF4.ext.setCell (p := ⟨b, 1, none⟩) hF4.st.own7 (.int .i64 (σF.i + 1))).setNew (p := ⟨N, 5, none⟩) hF4.new (.string σF.now.s)).alloc o5).alloc (.cells (TC σF) 150)).drew)
          unfold TC at hSB hEB
          refine (node_any hSB _ _ _ _ _ _ _ (by show σF.nodes.length ≤ 100000; exact hbF)).mono ?_
          rintro e w6 ⟨rfl, own6, m6, hS6, hE6⟩
          go_wp2_with fail
          go_ret
          rw [HσF.out, Hnm.out]
          exact Or.inr ⟨HFl.out, rfl, own6, m6, hS6, hEB.trans hE6⟩
        have q98 : (σF.now.s.toList == [98]) = false := by simp [p98]
        by_cases p99 : σF.now.s.toList = [99]
        · have q99 : (σF.now.s.toList == [99]) = true := by simp [p99]
          have HFl : Hid ((σF.now.isField && decide (σF.wrong < 0)) = true) := HX.out true (fun _ _ => by simp [p99]) (fun h => absurd HKF.out h) (fun h => absurd hwf h)
          clear p99
          go_wp2_with fail
          have hSA : St own4 (w4.setCell ⟨b, 1, none⟩ (.int .i64 (σF.i + 1))) b m σF.adv := hF4.st.store (σ' := σF.adv) 1 _ (by simp [PCells, PSt.adv]) rfl rfl rfl rfl rfl rfl HI5.out hF4.st.wlo
          have hSB := (((hSA.write8 (p := ⟨N, 5, none⟩) hF4.own (.string σF.now.s)).alloc o5).alloc (.cells (TC σF) 150)).drew
          have hEB := (((((hF4.ext.setCell (p := ⟨b, 1, none⟩) hF4.st.own7 (.int .i64 (σF.i + 1))).setNew (p := ⟨N, 5, none⟩) hF4.new (.string σF.now.s)).alloc o5).alloc (.cells (TC σF) 150)).drew)
          unfold TC at hSB hEB
          refine (node_any hSB _ _ _ _ _ _ _ (by show σF.nodes.length ≤ 100000; exact hbF)).mono ?_
          rintro e w6 ⟨rfl, own6, m6, hS6, hE6⟩
          go_wp2_with fail
          go_ret
          rw [HσF.out, Hnm.out]
          exact Or.inr ⟨HFl.out, rfl, own6, m6, hS6, hEB.trans hE6⟩
        have q99 : (σF.now.s.toList == [99]) = false := by simp [p99]
        by_cases p116 : σF.now.s.toList = [116]
        · have q116 : (σF.now.s.toList == [116]) = true := by simp [p116]
          have HFl : Hid ((σF.now.isField && decide (σF.wrong < 0)) = true) := HX.out true (fun _ _ => by simp [p116]) (fun h => absurd HKF.out h) (fun h => absurd hwf h)
          clear p116
          go_wp2_with fail
          have hSA : St own4 (w4.setCell ⟨b, 1, none⟩ (.int .i64 (σF.i + 1))) b m σF.adv := hF4.st.store (σ' := σF.adv) 1 _ (by simp [PCells, PSt.adv]) rfl rfl rfl rfl rfl rfl HI5.out hF4.st.wlo
          have hSB := (((hSA.write8 (p := ⟨N, 5, none⟩) hF4.own (.string σF.now.s)).alloc o5).alloc (.cells (TC σF) 150)).drew
          have hEB := (((((hF4.ext.setCell (p := ⟨b, 1, none⟩) hF4.st.own7 (.int .i64 (σF.i + 1))).setNew (p := ⟨N, 5, none⟩) hF4.new (.string σF.now.s)).alloc o5).alloc (.cells (TC σF) 150)).drew)
          unfold TC at hSB hEB
          refine (node_any hSB _ _ _ _ _ _ _ (by show σF.nodes.length ≤ 100000; exact hbF)).mono ?_
          rintro e w6 ⟨rfl, own6, m6, hS6, hE6⟩
          go_wp2_with fail
          go_ret
          rw [HσF.out, Hnm.out]
          exact Or.inr ⟨HFl.out, rfl, own6, m6, hS6, hEB.trans hE6⟩
        have q116 : (σF.now.s.toList == [116]) = false := by simp [p116]
        have HFl : Hid ((σF.now.isField && decide (σF.wrong < 0)) = false) := HX.out false (fun _ _ => by simp [p97, p98, p99, p116]) (fun _ => rfl) (fun _ => rfl)
        clear p97 p98 p99 p116
        go_wp2_with (go_at_call 97; refine (bad_any ((hF4.st.alloc _).alloc _).drew).mono ?_; rintro e w6 ⟨rfl, hS6, hE6⟩)
        go_ret
        rw [HσF.out]
        exact Or.inl ⟨HFl.out, rfl, own4, m, hS6, (((hF4.ext.alloc _).alloc _).drew).trans hE6⟩
      · have HFl : Hid ((σF.now.isField && decide (σF.wrong < 0)) = false) := HX.out false (fun _ h => absurd h hwf) (fun _ => rfl) (fun _ => rfl)
        have hwf' : 0 ≤ σF.wrong := by omega
        clear hwf
        go_wp2_with (go_at_call 97; refine (bad_any ((hF4.st.alloc _).alloc _).drew).mono ?_; rintro e w6 ⟨rfl, hS6, hE6⟩)
        go_ret
        rw [HσF.out]
        exact Or.inl ⟨HFl.out, rfl, own4, m, hS6, (((hF4.ext.alloc _).alloc _).drew).trans hE6⟩
    · have HFl : Hid ((σF.now.isField && decide (σF.wrong < 0)) = false) := HX.out false (fun h => absurd h hkf) (fun _ => rfl) (fun _ => rfl)
      have hkf' : ((σF.now.kind : Int) != 0) = true := by rw [bne_iff_ne]; omega
      have HKF : Hid (¬ σF.now.kind = 0) := hkf
      clear hkf
      go_wp2_with (go_at_call 97; refine (bad_any ((hF4.st.alloc _).alloc _).drew).mono ?_; rintro e w6 ⟨rfl, hS6, hE6⟩)
      go_ret
      rw [HσF.out]
      exact Or.inl ⟨HFl.out, rfl, own4, m, hS6, (((hF4.ext.alloc _).alloc _).drew).trans hE6⟩
end Go.Proofs.YtddbjcfdmdbmkaaGreatDoor
