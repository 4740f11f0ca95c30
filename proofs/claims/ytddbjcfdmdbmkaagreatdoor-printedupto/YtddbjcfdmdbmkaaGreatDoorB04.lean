import Derived.Test.YtddbjcfdmdbmkaaGreatDoorB03
set_option linter.unusedVariables false
set_option linter.unusedSimpArgs false
namespace Go.Proofs.YtddbjcfdmdbmkaaGreatDoor
open Go.RowKit

structure STok where
  kind : Nat
  place : Nat
  text : ByteArray
def STok.cells (t : STok) : List Value := [.int .i64 t.kind, .int .i64 t.place, .string t.text]
instance : Inhabited STok := ⟨⟨0, 0, ByteArray.empty⟩⟩

def signsP : List UInt8 := [40, 41, 124, 58, 46, 43, 45, 42, 47, 61]
def isResv (t : ByteArray) : Bool := resv.any fun r => t.toList == r.toList
def spanP (p : UInt8 → Bool) (s : ByteArray) : Nat := spanTo p s 0
def wordP (r : ByteArray) : Nat × Nat :=
  if isResv (r.extract 0 (spanP isSmallB r)) then (4, spanP isSmallB r) else if 8 < spanP isSmallB r then (0, spanP isSmallB r) else (3, spanP isSmallB r)
def numberP (r : ByteArray) : Nat × Nat := if 9 < spanP isDigitB r then (0, spanP isDigitB r) else (2, spanP isDigitB r)
def longerP (r : ByteArray) : Bool := decide (1 < r.size) && (r.data.toList.getD 1 0 == 61)
def headP (r : ByteArray) : Nat × Nat :=
  let b := r.data.toList.getD 0 0
  if isSmallB b then wordP r
  else if isDigitB b then numberP r
  else if b == 33 then (if longerP r then (5, 2) else (0, 1))
  else if b == 60 || b == 62 then (if longerP r then (5, 2) else (5, 1))
  else if memB b signsP then (5, 1) else (0, 1)
def firstP (r : ByteArray) : Nat × Nat := if r.size = 0 then (1, 0) else headP r

def stokAt (s : ByteArray) (at_ : Nat) : STok :=
  let i := spanTo isBlankB s at_
  ⟨(firstP (s.extract i s.size)).1, i, s.extract i (i + (firstP (s.extract i s.size)).2)⟩
def stoks (s : ByteArray) : Nat → Nat → List STok
  | 0, _ => []
  | n + 1, at_ => if (stokAt s at_).kind ≤ 1 then [stokAt s at_] else stokAt s at_ :: stoks s n ((stokAt s at_).place + (stokAt s at_).text.size)
def tokensP (s : ByteArray) : List STok := stoks s (s.size + 1) 0
end Go.Proofs.YtddbjcfdmdbmkaaGreatDoor

namespace Go.Proofs.YtddbjcfdmdbmkaaGreatDoor
open Go.RowKit

structure POp where
  act : ByteArray
  number : Nat
  name : ByteArray
  place : Nat
def POp.cells (o : POp) : List Value := [.string o.act, .int .i64 o.number, .string o.name, .int .i64 o.place]
instance : Inhabited POp := ⟨⟨⟨#[]⟩, 0, ⟨#[]⟩, 0⟩⟩

inductive PPart where
  | mk (name : ByteArray) (place times kind : Nat) (cond : List POp) (choices : List (List PPart)) : PPart
def PPart.name : PPart → ByteArray | .mk n _ _ _ _ _ => n
def PPart.place : PPart → Nat | .mk _ p _ _ _ _ => p
def PPart.times : PPart → Nat | .mk _ _ t _ _ _ => t
def PPart.kind : PPart → Nat | .mk _ _ _ k _ _ => k
def PPart.cond : PPart → List POp | .mk _ _ _ _ c _ => c
def PPart.choices : PPart → List (List PPart) | .mk _ _ _ _ _ c => c
instance : Inhabited PPart := ⟨.mk ⟨#[]⟩ 0 0 0 [] []⟩

structure Rd where
  ahead : List STok
  deep : Nat
  td : Option Nat
  bn : Option Nat
  ops : Option (List POp)

def Rd.now (σ : Rd) : STok := σ.ahead.headD default
def Rd.skip (σ : Rd) : Rd := { σ with ahead := σ.ahead.tail }
def Rd.fail (σ : Rd) : Rd := { σ with ahead := [⟨0, σ.now.place, ⟨#[]⟩⟩] }
def Rd.has (σ : Rd) (ts : List ByteArray) : Bool := ts.any fun t => t.toList == σ.now.text.toList
def Rd.which (σ : Rd) (ts : List ByteArray) : Rd := if σ.has ts then σ.skip else σ
def Rd.whichV (σ : Rd) (ts : List ByteArray) : ByteArray := if σ.has ts then σ.now.text else ⟨#[]⟩
def Rd.expect (σ : Rd) (ts : List ByteArray) : Rd := if σ.has ts then σ.skip else σ.fail
def markPut (m : Option Nat) (p : Nat) : Option Nat := match m with | none => some p | some q => some q
def numVal (t : ByteArray) : Nat := t.data.toList.foldl (fun n c => 10 * n + (c.toNat - 48)) 0
def Rd.numV (σ : Rd) : Nat := if σ.now.kind = 2 then numVal σ.now.text else 0
def Rd.num (σ : Rd) (lo hi : Nat) : Rd :=
  if σ.now.kind = 2 then { σ.skip with bn := if numVal σ.now.text < lo ∨ hi < numVal σ.now.text then markPut σ.bn σ.now.place else σ.bn } else σ.fail
def Rd.enter (σ : Rd) : Rd := { σ.skip with deep := σ.deep + 1, td := if 8 ≤ σ.deep then markPut σ.td σ.now.place else σ.td }
def Rd.leave (σ : Rd) : Rd := { σ with deep := σ.deep - 1 }
def Rd.put (σ : Rd) (o : POp) : Rd := { σ with ops := σ.ops.map (· ++ [o]) }

def tOr : ByteArray := ⟨#[111, 114]⟩
def tAnd : ByteArray := ⟨#[97, 110, 100]⟩
def tIf : ByteArray := ⟨#[105, 102]⟩
def tThen : ByteArray := ⟨#[116, 104, 101, 110]⟩
def tTimes : ByteArray := ⟨#[116, 105, 109, 101, 115]⟩
def tNot : ByteArray := ⟨#[110, 111, 116]⟩
def tIt : ByteArray := ⟨#[105, 116]⟩
def tWithin : ByteArray := ⟨#[119, 105, 116, 104, 105, 110]⟩
def tRate : ByteArray := ⟨#[114, 97, 116, 101]⟩
def tMinus : ByteArray := ⟨#[45]⟩
def tPlus : ByteArray := ⟨#[43]⟩
def tStar : ByteArray := ⟨#[42]⟩
def tSlash : ByteArray := ⟨#[47]⟩
def tOpen : ByteArray := ⟨#[40]⟩
def tClose : ByteArray := ⟨#[41]⟩
def tBar : ByteArray := ⟨#[124]⟩
def tColon : ByteArray := ⟨#[58]⟩
def tDot : ByteArray := ⟨#[46]⟩
def tPush : ByteArray := ⟨#[112, 117, 115, 104]⟩
def tOpp : ByteArray := ⟨#[111, 112, 112, 111, 115, 105, 116, 101]⟩
def sTest : List ByteArray := [⟨#[61]⟩, ⟨#[33, 61]⟩, ⟨#[60]⟩, ⟨#[60, 61]⟩, ⟨#[62]⟩, ⟨#[62, 61]⟩]
def sField : List ByteArray := [⟨#[97]⟩, ⟨#[98]⟩, ⟨#[99]⟩, ⟨#[116]⟩]
def STok.is (t : STok) (s : ByteArray) : Bool := t.text.toList == s.toList

def chainL (part : Rd → Rd) (ts : List ByteArray) : Nat → Rd → Rd
  | 0, σ => σ
  | n + 1, σ => if σ.has ts then chainL part ts n ((part σ.skip).put ⟨σ.now.text, 0, ⟨#[]⟩, 0⟩) else σ
def chainP (part : Rd → Rd) (ts : List ByteArray) (σ : Rd) : Rd := chainL part ts (part σ).ahead.length (part σ)
def fieldP (σ : Rd) (name : ByteArray) (place : Nat) : Rd :=
  (σ.skip.expect [tDot] |>.expect sField).put ⟨(σ.skip.expect [tDot]).whichV sField, 0, name, place⟩
def productP (f : Rd → Rd) : Rd → Rd := chainP f [tStar, tSlash]
def sumP (f : Rd → Rd) : Rd → Rd := chainP (productP f) [tPlus, tMinus]
def factorP : Nat → Rd → Rd
  | 0, σ => σ
  | n + 1, σ =>
    if σ.now.kind = 2 then (σ.num 0 999999999).put ⟨tPush, σ.numV, ⟨#[]⟩, 0⟩
    else if σ.now.is tMinus then (factorP n σ.enter).leave.put ⟨tOpp, 0, ⟨#[]⟩, 0⟩
    else if σ.now.is tOpen then ((sumP (factorP n) σ.enter).expect [tClose]).leave
    else if σ.now.kind = 3 then fieldP σ σ.now.text σ.now.place
    else if σ.now.is tIt then fieldP σ ⟨#[]⟩ 0
    else σ.fail
def testP (f : Rd → Rd) (σ : Rd) : Rd :=
  (sumP f ((sumP f σ).expect sTest)).put ⟨(sumP f σ).whichV sTest, 0, ⟨#[]⟩, 0⟩
def bothP (f : Rd → Rd) : Rd → Rd := chainP (testP f) [tAnd]
def condP (n : Nat) (σ : Rd) : Rd :=
  if σ.has [tIf] then chainP (bothP (factorP n)) [tOr] { σ.skip with ops := some [] } else { σ with ops := some [] }
def Rd.dead (σ : Rd) : Rd := { σ with ops := none }
def Rd.opsL (σ : Rd) : List POp := σ.ops.getD []

def stepP (n : Nat) (σ : Rd) : Rd × PPart :=
  let a := (σ.skip.expect [tColon]).num 0 99
  let k := (σ.skip.expect [tColon]).numV
  let b := if a.has [tTimes] then a.skip.num 1 4 else a
  let t := if a.has [tTimes] then a.skip.numV else 1
  ((condP n b).dead, .mk σ.now.text σ.now.place t k (condP n b).opsL [])
def guardP (n : Nat) (σ : Rd) : Rd × PPart :=
  let a := σ.skip.num 0 99
  ((condP n a).dead, .mk ⟨#[]⟩ σ.now.place 0 σ.skip.numV (condP n a).opsL [])
def seqL (part : Rd → Rd × PPart) : Nat → Rd → List PPart → Rd × List PPart
  | 0, σ, l => (σ, l)
  | n + 1, σ, l => if σ.has [tThen] then seqL part n (part σ.skip).1 (l ++ [(part σ.skip).2]) else (σ, l)
def seqP (part : Rd → Rd × PPart) (σ : Rd) : Rd × List PPart := seqL part (part σ).1.ahead.length (part σ).1 [(part σ).2]
def barL (seq : Rd → Rd × List PPart) : Nat → Rd → List (List PPart) → Rd × List (List PPart)
  | 0, σ, l => (σ, l)
  | n + 1, σ, l => if σ.has [tBar] then barL seq n (seq σ.skip).1 (l ++ [(seq σ.skip).2]) else (σ, l)
def bracketsP (seq : Rd → Rd × List PPart) (σ : Rd) : Rd × PPart :=
  let a := seq σ.enter
  let b := seq (a.1.expect [tBar])
  let c := barL seq b.1.ahead.length b.1 [a.2, b.2]
  ((c.1.expect [tClose]).leave, .mk ⟨#[]⟩ 0 0 0 [] c.2)
def partP : Nat → Rd → Rd × PPart
  | 0, σ => (σ, default)
  | n + 1, σ =>
    if σ.now.kind = 3 then stepP n σ
    else if σ.now.is tNot then guardP n σ
    else if σ.now.is tOpen then bracketsP (seqP (partP n)) σ
    else (σ.fail, default)
structure PPat where
  window : Nat
  rate : Nat
  body : List PPart
def patP (n : Nat) (σ : Rd) : Rd × PPat :=
  let a := σ.expect [tWithin]
  let b := (a.num 1 1000000).expect [tRate]
  let c := seqP (partP n) (b.num 1 12)
  (c.1, ⟨a.numV, b.numV, c.2⟩)
def rd0 (ts : List STok) : Rd := ⟨ts, 0, none, none, some []⟩
def readP (ts : List STok) : (PPat × Nat) ⊕ (Nat × Nat) :=
  let r := patP ts.length (rd0 ts)
  if r.1.now.kind ≠ 1 then .inr (r.1.now.place, 1)
  else match r.1.td with
    | some p => .inr (p, 2)
    | none => match r.1.bn with
      | some p => .inr (p, 3)
      | none => .inl (r.2, 0)
end Go.Proofs.YtddbjcfdmdbmkaaGreatDoor

namespace Go.Proofs.YtddbjcfdmdbmkaaGreatDoor
open Go.RowKit

def KW : List ByteArray := [tOr, tAnd, tIf, tThen, tTimes, tNot, tIt, tWithin, tRate, tMinus, tPlus, tStar, tSlash, tOpen, tClose, tBar, tColon, tDot] ++ sTest ++ sField
def digitsOK (t : ByteArray) : Prop := 1 ≤ t.size ∧ t.size ≤ 9 ∧ ∀ c ∈ t.data.toList, isDigitB c = true
def TokOK (t : STok) : Prop := 2 ≤ t.kind ∧ (t.kind = 2 → digitsOK t.text)
def EndOK (t : STok) : Prop := t.kind ≤ 1 ∧ ∀ k ∈ KW, (k.toList == t.text.toList) = false
def SGood : List STok → Prop
  | [] => False
  | [t] => EndOK t
  | t :: u :: l => TokOK t ∧ SGood (u :: l)

theorem SGood.pos {l : List STok} (h : SGood l) : 0 < l.length := by cases l with | nil => exact h.elim | cons _ _ => simp
theorem SGood.tail {l : List STok} (h : SGood l) (h2 : 2 ≤ l.length) : SGood l.tail := by
  match l, h with
  | [_], _ => simp at h2
  | _ :: _ :: _, h => exact h.2
theorem SGood.more {l : List STok} (h : SGood l) (hk : 2 ≤ (l.headD default).kind) : 2 ≤ l.length := by
  match l, h with
  | [t], h => have := h.1; simp at hk; omega
  | _ :: _ :: _, _ => simp
theorem SGood.digits {l : List STok} (h : SGood l) (hk : (l.headD default).kind = 2) : digitsOK (l.headD default).text := by
  match l, h with
  | [t], h => have := h.1; simp at hk; omega
  | _ :: _ :: _, h => exact h.1.2 hk
theorem SGood.has {σ : Rd} (h : SGood σ.ahead) {ts : List ByteArray} (hts : ∀ t ∈ ts, t ∈ KW) (hh : σ.has ts = true) : 2 ≤ σ.ahead.length := by
  obtain ⟨ah, _, _, _, _⟩ := σ
  match ah, h with
  | [t], h =>
    simp only [Rd.has, List.any_eq_true, Rd.now, List.headD] at hh
    obtain ⟨x, hx, he⟩ := hh
    rw [h.2 x (hts x hx)] at he; cases he
  | _ :: _ :: _, _ => simp
theorem SGood.is {σ : Rd} (h : SGood σ.ahead) {t : ByteArray} (ht : t ∈ KW) (hh : σ.now.is t = true) : 2 ≤ σ.ahead.length := by
  refine h.has (ts := [t]) (by simpa using ht) ?_
  simp only [Rd.has, List.any_cons, List.any_nil, Bool.or_false]
  simp only [STok.is, beq_iff_eq] at hh ⊢; exact hh.symm
theorem kw_some : (KW.all fun k => !(k.toList == ByteArray.toList ⟨#[]⟩)) = true := by kernel_rfl
theorem good_end (p : Nat) : SGood [⟨0, p, ⟨#[]⟩⟩] := ⟨by simp, fun k hk => by have := List.all_eq_true.1 kw_some k hk; simpa using this⟩

def Rd.phi (σ : Rd) : Nat := σ.opsL.length + 2 * σ.ahead.length
structure Ok (d : Nat) (σ σ' : Rd) : Prop where
  good : SGood σ'.ahead
  le : σ'.ahead.length ≤ σ.ahead.length
  phi : σ'.phi ≤ σ.phi + d
  deep : σ'.deep = σ.deep
  live : σ.ops.isSome = true → σ'.ops.isSome = true
theorem Ok.refl {σ : Rd} (h : SGood σ.ahead) : Ok 0 σ σ := ⟨h, Nat.le_refl _, by omega, rfl, id⟩
theorem Ok.trans {d e : Nat} {a b c : Rd} (h : Ok d a b) (k : Ok e b c) : Ok (d + e) a c :=
  ⟨k.good, Nat.le_trans k.le h.le, by have := h.phi; have := k.phi; omega, k.deep.trans h.deep, fun x => k.live (h.live x)⟩
theorem Ok.mono {d e : Nat} {a b : Rd} (h : Ok d a b) (hd : d ≤ e) : Ok e a b := ⟨h.good, h.le, by have := h.phi; omega, h.deep, h.live⟩

theorem skip_len (σ : Rd) : σ.skip.ahead.length = σ.ahead.length - 1 := by simp [Rd.skip]
theorem skip_phi {σ : Rd} (h2 : 2 ≤ σ.ahead.length) : σ.skip.phi + 2 = σ.phi := by
  simp only [Rd.phi, Rd.opsL, Rd.skip, List.length_tail]; omega
theorem skip_ok {σ : Rd} (h : SGood σ.ahead) (h2 : 2 ≤ σ.ahead.length) : Ok 0 σ σ.skip :=
  ⟨h.tail h2, by rw [skip_len]; omega, by have := skip_phi h2; omega, rfl, id⟩
theorem fail_ok {σ : Rd} (h : SGood σ.ahead) : Ok 0 σ σ.fail :=
  ⟨good_end _, h.pos, by have := h.pos; simp only [Rd.phi, Rd.opsL, Rd.fail, List.length_cons, List.length_nil]; omega, rfl, id⟩
theorem expect_ok {σ : Rd} (h : SGood σ.ahead) {ts : List ByteArray} (hts : ∀ t ∈ ts, t ∈ KW) : Ok 0 σ (σ.expect ts) := by
  unfold Rd.expect; split
  · rename_i hh; exact skip_ok h (h.has hts hh)
  · exact fail_ok h
theorem num_ok {σ : Rd} (h : SGood σ.ahead) (lo hi : Nat) : Ok 0 σ (σ.num lo hi) := by
  unfold Rd.num; split
  · rename_i hk
    have s := skip_ok h (h.more (by show 2 ≤ σ.now.kind; omega))
    exact ⟨s.good, s.le, s.phi, s.deep, s.live⟩
  · exact fail_ok h
theorem num_phi {σ : Rd} (h : SGood σ.ahead) (lo hi : Nat) (hk : σ.now.kind = 2) : (σ.num lo hi).phi + 2 = σ.phi := by
  have := skip_phi (h.more (by show 2 ≤ σ.now.kind; omega))
  unfold Rd.num; rw [if_pos hk]; exact this
theorem put_phi (σ : Rd) (o : POp) : (σ.put o).phi ≤ σ.phi + 1 := by
  unfold Rd.phi Rd.opsL Rd.put
  cases σ.ops <;> simp <;> omega
theorem put_ok {σ : Rd} (h : SGood σ.ahead) (o : POp) : Ok 1 σ (σ.put o) :=
  ⟨h, Nat.le_refl _, put_phi σ o, rfl, fun x => by simpa [Rd.put] using x⟩

def Keeps (n d : Nat) (part : Rd → Rd) : Prop := ∀ σ, SGood σ.ahead → σ.ahead.length ≤ n → Ok d σ (part σ)

theorem chainL_ok {n d : Nat} {part : Rd → Rd} (hp : Keeps n d part) (hd : d ≤ 1) {ts : List ByteArray} (hts : ∀ t ∈ ts, t ∈ KW) :
    ∀ k σ, SGood σ.ahead → σ.ahead.length ≤ n → Ok 0 σ (chainL part ts k σ) := by
  intro k
  induction k with
  | zero => intro σ h _; exact Ok.refl h
  | succ k ih =>
    intro σ h hl
    unfold chainL; split
    · rename_i hh
      have h2 := h.has hts hh
      have s := skip_ok h h2
      have p := hp _ s.good (Nat.le_trans s.le hl)
      have q := put_ok p.good ⟨σ.now.text, 0, ⟨#[]⟩, 0⟩
      have r := ih _ q.good (Nat.le_trans q.le (Nat.le_trans p.le (Nat.le_trans s.le hl)))
      have a := (s.trans p).trans (q.trans r)
      refine ⟨a.good, a.le, ?_, a.deep, a.live⟩
      have := skip_phi h2; have := p.phi; have := q.phi; have := r.phi
      omega
    · exact Ok.refl h
theorem chainP_ok {n d : Nat} {part : Rd → Rd} (hp : Keeps n d part) (hd : d ≤ 1) {ts : List ByteArray} (hts : ∀ t ∈ ts, t ∈ KW) : Keeps n d (chainP part ts) := by
  intro σ h hl
  have p := hp σ h hl
  have q := chainL_ok hp hd hts (part σ).ahead.length (part σ) p.good (Nat.le_trans p.le hl)
  exact (p.trans q).mono (by omega)

theorem fieldP_ok {σ : Rd} (h : SGood σ.ahead) (h2 : 2 ≤ σ.ahead.length) (name : ByteArray) (place : Nat) : Ok 0 σ (fieldP σ name place) := by
  have s := skip_ok h h2
  have a := expect_ok s.good (ts := [tDot]) (by simp [KW])
  have b := expect_ok a.good (ts := sField) (by simp [KW, sField])
  have p := put_ok b.good ⟨(σ.skip.expect [tDot]).whichV sField, 0, name, place⟩
  have t := (s.trans a).trans (b.trans p)
  refine ⟨t.good, t.le, ?_, t.deep, t.live⟩
  have := skip_phi h2; have := a.phi; have := b.phi; have := p.phi
  show (Rd.put _ _).phi ≤ _
  omega
theorem enter_len {σ : Rd} : σ.enter.ahead.length = σ.ahead.length - 1 := by simp [Rd.enter, Rd.skip]
theorem enter_phi {σ : Rd} (h2 : 2 ≤ σ.ahead.length) : σ.enter.phi + 2 = σ.phi := skip_phi (σ := σ) h2
theorem leave_phi (σ : Rd) : σ.leave.phi = σ.phi := rfl
theorem productP_ok {n : Nat} {f : Rd → Rd} (hf : Keeps n 0 f) : Keeps n 0 (productP f) := chainP_ok hf (by omega) (by simp [KW])
theorem sumP_ok {n : Nat} {f : Rd → Rd} (hf : Keeps n 0 f) : Keeps n 0 (sumP f) := chainP_ok (productP_ok hf) (by omega) (by simp [KW])
theorem factorP_ok : ∀ n, Keeps n 0 (factorP n) := by
  intro n
  induction n with
  | zero => intro σ h hl; have := h.pos; omega
  | succ n ih =>
    intro σ h hl
    unfold factorP
    split
    · rename_i hk
      have a := num_ok h 0 999999999
      have p := put_ok a.good ⟨tPush, σ.numV, ⟨#[]⟩, 0⟩
      have t := a.trans p
      exact ⟨t.good, t.le, by have := num_phi h 0 999999999 hk; have := p.phi; omega, t.deep, t.live⟩
    split
    · rename_i hm
      have h2 := h.is (by simp [KW]) hm
      have f := ih σ.enter (h.tail h2) (by rw [enter_len]; omega)
      have p := put_ok (σ := (factorP n σ.enter).leave) f.good ⟨tOpp, 0, ⟨#[]⟩, 0⟩
      refine ⟨p.good, ?_, ?_, ?_, fun x => p.live (f.live x)⟩
      · have := p.le; have := f.le; rw [enter_len] at this; simp only [Rd.leave] at *; omega
      · have := p.phi; have := f.phi; have := enter_phi h2; have := leave_phi (factorP n σ.enter); omega
      · have := f.deep; have := p.deep; simp only [Rd.leave, Rd.enter] at *; omega
    split
    · rename_i hm
      have h2 := h.is (by simp [KW]) hm
      have f := sumP_ok ih σ.enter (h.tail h2) (by rw [enter_len]; omega)
      have e := expect_ok f.good (ts := [tClose]) (by simp [KW])
      have t := f.trans e
      refine ⟨t.good, ?_, ?_, ?_, fun x => t.live x⟩
      · have := t.le; rw [enter_len] at this; simp only [Rd.leave] at *; omega
      · have := t.phi; have := enter_phi h2; rw [leave_phi]; omega
      · have := t.deep; simp only [Rd.leave, Rd.enter] at *; omega
    split
    · rename_i hk
      exact fieldP_ok h (h.more (by show 2 ≤ σ.now.kind; omega)) _ _
    split
    · rename_i hm
      exact fieldP_ok h (h.is (by simp [KW]) hm) _ _
    · exact fail_ok h
theorem testP_ok {n : Nat} {f : Rd → Rd} (hf : Keeps n 0 f) : Keeps n 1 (testP f) := by
  intro σ h hl
  have a := sumP_ok hf σ h hl
  have b := expect_ok a.good (ts := sTest) (by simp [KW, sTest])
  have c := sumP_ok hf _ b.good (Nat.le_trans b.le (Nat.le_trans a.le hl))
  have p := put_ok c.good ⟨(sumP f σ).whichV sTest, 0, ⟨#[]⟩, 0⟩
  exact ((a.trans b).trans (c.trans p)).mono (by omega)
theorem bothP_ok {n : Nat} {f : Rd → Rd} (hf : Keeps n 0 f) : Keeps n 1 (bothP f) := chainP_ok (testP_ok hf) (by omega) (by simp [KW])
end Go.Proofs.YtddbjcfdmdbmkaaGreatDoor

namespace Go.Proofs.YtddbjcfdmdbmkaaGreatDoor
open Go.RowKit

structure Ok2 (σ σ' : Rd) : Prop where
  good : SGood σ'.ahead
  le : σ'.ahead.length ≤ σ.ahead.length
  deep : σ'.deep = σ.deep
theorem Ok.ok2 {d : Nat} {a b : Rd} (h : Ok d a b) : Ok2 a b := ⟨h.good, h.le, h.deep⟩
theorem Ok2.refl {σ : Rd} (h : SGood σ.ahead) : Ok2 σ σ := ⟨h, Nat.le_refl _, rfl⟩
theorem Ok2.trans {a b c : Rd} (h : Ok2 a b) (k : Ok2 b c) : Ok2 a c := ⟨k.good, Nat.le_trans k.le h.le, k.deep.trans h.deep⟩
theorem condP_ok {n : Nat} {σ : Rd} (h : SGood σ.ahead) (hl : σ.ahead.length ≤ n) : Ok2 σ (condP n σ) ∧ (condP n σ).ops.isSome = true := by
  unfold condP; split
  · rename_i hh
    have h2 := h.has (ts := [tIf]) (by simp [KW]) hh
    have c := chainP_ok (bothP_ok (factorP_ok n)) (by omega) (ts := [tOr]) (by simp [KW]) { σ.skip with ops := some [] } (h.tail h2) (by simp only [Rd.skip, List.length_tail]; omega)
    exact ⟨⟨c.good, Nat.le_trans c.le (by show σ.ahead.tail.length ≤ _; rw [List.length_tail]; omega), c.deep⟩, c.live rfl⟩
  · exact ⟨⟨h, Nat.le_refl _, rfl⟩, rfl⟩
theorem dead_ok {σ : Rd} (h : SGood σ.ahead) : Ok2 σ σ.dead := ⟨h, Nat.le_refl _, rfl⟩
def KeepsP {α : Type} (n : Nat) (part : Rd → Rd × α) : Prop := ∀ σ, SGood σ.ahead → σ.ahead.length ≤ n → Ok2 σ (part σ).1
theorem stepP_ok {n : Nat} {σ : Rd} (h : SGood σ.ahead) (h2 : 2 ≤ σ.ahead.length) (hl : σ.ahead.length ≤ n + 1) : Ok2 σ (stepP n σ).1 := by
  have s := skip_ok h h2
  have c := expect_ok s.good (ts := [tColon]) (by simp [KW])
  have a := num_ok c.good 0 99
  have t := ((s.trans c).trans a).ok2
  have hle : ((σ.skip.expect [tColon]).num 0 99).ahead.length ≤ n := by
    have := a.le; have := c.le; rw [skip_len] at this; omega
  unfold stepP
  simp only
  by_cases hh : ((σ.skip.expect [tColon]).num 0 99).has [tTimes] = true
  · simp only [hh, if_true]
    have h3 := a.good.has (ts := [tTimes]) (by simp [KW]) hh
    have s2 := skip_ok a.good h3
    have n2 := num_ok s2.good 1 4
    have k := condP_ok (n := n) n2.good (Nat.le_trans n2.le (Nat.le_trans s2.le hle))
    exact (t.trans ((s2.trans n2).ok2.trans k.1)).trans (dead_ok k.1.good)
  · simp only [hh]
    have k := condP_ok (n := n) a.good hle
    exact (t.trans k.1).trans (dead_ok k.1.good)
theorem guardP_ok {n : Nat} {σ : Rd} (h : SGood σ.ahead) (h2 : 2 ≤ σ.ahead.length) (hl : σ.ahead.length ≤ n + 1) : Ok2 σ (guardP n σ).1 := by
  have s := skip_ok h h2
  have a := num_ok s.good 0 99
  have k := condP_ok (n := n) a.good (by have := a.le; rw [skip_len] at this; omega)
  exact ((s.trans a).ok2.trans k.1).trans (dead_ok k.1.good)
theorem seqL_ok {n : Nat} {part : Rd → Rd × PPart} (hp : KeepsP n part) : ∀ k σ l, SGood σ.ahead → σ.ahead.length ≤ n → Ok2 σ (seqL part k σ l).1 := by
  intro k
  induction k with
  | zero => intro σ l h _; exact Ok2.refl h
  | succ k ih =>
    intro σ l h hl
    unfold seqL; split
    · rename_i hh
      have h2 := h.has (ts := [tThen]) (by simp [KW]) hh
      have s := skip_ok h h2
      have p := hp _ s.good (Nat.le_trans s.le hl)
      exact (s.ok2.trans p).trans (ih _ _ p.good (Nat.le_trans p.le (Nat.le_trans s.le hl)))
    · exact Ok2.refl h
theorem seqP_ok {n : Nat} {part : Rd → Rd × PPart} (hp : KeepsP n part) : KeepsP n (seqP part) := by
  intro σ h hl
  have p := hp σ h hl
  exact p.trans (seqL_ok hp _ _ _ p.good (Nat.le_trans p.le hl))
theorem barL_ok {n : Nat} {seq : Rd → Rd × List PPart} (hp : KeepsP n seq) : ∀ k σ l, SGood σ.ahead → σ.ahead.length ≤ n → Ok2 σ (barL seq k σ l).1 := by
  intro k
  induction k with
  | zero => intro σ l h _; exact Ok2.refl h
  | succ k ih =>
    intro σ l h hl
    unfold barL; split
    · rename_i hh
      have h2 := h.has (ts := [tBar]) (by simp [KW]) hh
      have s := skip_ok h h2
      have p := hp _ s.good (Nat.le_trans s.le hl)
      exact (s.ok2.trans p).trans (ih _ _ p.good (Nat.le_trans p.le (Nat.le_trans s.le hl)))
    · exact Ok2.refl h
theorem bracketsP_ok {n : Nat} {seq : Rd → Rd × List PPart} (hp : KeepsP n seq) {σ : Rd} (h : SGood σ.ahead) (h2 : 2 ≤ σ.ahead.length) (hl : σ.ahead.length ≤ n + 1) : Ok2 σ (bracketsP seq σ).1 := by
  have hle : σ.enter.ahead.length ≤ n := by rw [enter_len]; omega
  have a := hp σ.enter (h.tail h2) hle
  have b := expect_ok a.good (ts := [tBar]) (by simp [KW])
  have hb := Nat.le_trans b.le (Nat.le_trans a.le hle)
  have c := hp _ b.good hb
  have d := barL_ok hp (seq ((seq σ.enter).1.expect [tBar])).1.ahead.length _ [(seq σ.enter).2, (seq ((seq σ.enter).1.expect [tBar])).2] c.good (Nat.le_trans c.le hb)
  have e := expect_ok d.good (ts := [tClose]) (by simp [KW])
  have t := ((a.trans b.ok2).trans (c.trans d)).trans e.ok2
  refine ⟨t.good, ?_, ?_⟩
  · have := t.le; rw [enter_len] at this; show _ ≤ _; simp only [bracketsP, Rd.leave] at *; omega
  · have := t.deep; simp only [bracketsP, Rd.leave, Rd.enter] at *; omega
theorem partP_ok : ∀ n, KeepsP n (partP n) := by
  intro n
  induction n with
  | zero => intro σ h hl; have := h.pos; omega
  | succ n ih =>
    intro σ h hl
    unfold partP
    split
    · rename_i hk; exact stepP_ok h (h.more (by show 2 ≤ σ.now.kind; omega)) hl
    split
    · rename_i hm; exact guardP_ok h (h.is (by simp [KW]) hm) hl
    split
    · rename_i hm; exact bracketsP_ok (seqP_ok ih) h (h.is (by simp [KW]) hm) hl
    · exact (fail_ok h).ok2
end Go.Proofs.YtddbjcfdmdbmkaaGreatDoor

namespace Go.Proofs.YtddbjcfdmdbmkaaGreatDoor
open Go.RowKit

theorem cell_eq {w w' : World} {b : Nat} (h : w'.heap[b]? = w.heap[b]?) (k : Nat) : w'.cell? ⟨b, k, none⟩ = w.cell? ⟨b, k, none⟩ := by
  unfold World.cell?; simp only [h]

structure TokRow (w : World) (tg toff : Nat) (l : List STok) : Prop where
  lt : tg < w.heap.size
  c0 : ∀ j, (h : j < l.length) → w.cell? ⟨tg, (toff + j) * 3, none⟩ = some (.int .i64 l[j].kind)
  c1 : ∀ j, (h : j < l.length) → w.cell? ⟨tg, (toff + j) * 3 + 1, none⟩ = some (.int .i64 l[j].place)
  c2 : ∀ j, (h : j < l.length) → w.cell? ⟨tg, (toff + j) * 3 + 2, none⟩ = some (.string l[j].text)
theorem TokRow.of_eq {w w' : World} {tg toff : Nat} {l : List STok} (h : TokRow w tg toff l) (e : w'.heap[tg]? = w.heap[tg]?) (hs : w.heap.size ≤ w'.heap.size) : TokRow w' tg toff l :=
  ⟨Nat.lt_of_lt_of_le h.lt hs, fun j hj => (cell_eq e _).trans (h.c0 j hj), fun j hj => (cell_eq e _).trans (h.c1 j hj), fun j hj => (cell_eq e _).trans (h.c2 j hj)⟩
theorem TokRow.tail {w : World} {tg toff : Nat} {l : List STok} (h : TokRow w tg toff l) : TokRow w tg (toff + 1) l.tail := by
  have e : ∀ j, toff + 1 + j = toff + (j + 1) := fun j => by omega
  refine ⟨h.lt, fun j hj => ?_, fun j hj => ?_, fun j hj => ?_⟩ <;> (rw [List.length_tail] at hj; rw [e, List.getElem_tail])
  · exact h.c0 (j + 1) (by omega)
  · exact h.c1 (j + 1) (by omega)
  · exact h.c2 (j + 1) (by omega)

structure RM where
  tg : Nat
  toff : Nat
  tcap : Nat
  ov : Value
def RCells (m : RM) (σ : Rd) : Array Value :=
  #[.slice (some ⟨m.tg, m.toff * 3, none⟩) σ.ahead.length m.tcap, .int .i64 σ.deep, .bool σ.td.isSome, .int .i64 (σ.td.getD 0 : Nat), .bool σ.bn.isSome, .int .i64 (σ.bn.getD 0 : Nat), m.ov]

structure RSt (own : Nat → Nat) (w : World) (b : Nat) (m : RM) (σ : Rd) : Prop where
  blk : Blk w b (RCells m σ) 177
  ob : own b = 1
  toks : TokRow w m.tg m.toff σ.ahead
  ot : own m.tg = 7
  cap : σ.ahead.length ≤ m.tcap
  live : ∀ l, σ.ops = some l → w.ownsRow 0 241 4 m.ov l.length (flat POp.cells l) ∧ ∀ g, m.ov.ownBlock = some g → own g = 2

def AfterR (own : Nat → Nat) (w : World) (b : Nat) (σ : Rd) (w' : World) : Prop := ∃ own' m', RSt own' w' b m' σ ∧ Ext own w own' w'

theorem RSt.own7 {own : Nat → Nat} {w : World} {b : Nat} {m : RM} {σ : Rd} (h : RSt own w b m σ) : own b < 7 := by rw [h.ob]; decide
theorem RSt.tgne {own : Nat → Nat} {w : World} {b : Nat} {m : RM} {σ : Rd} (h : RSt own w b m σ) : m.tg ≠ b := fun e => by have := h.ot; rw [e, h.ob] at this; cases this
theorem RSt.cell {own : Nat → Nat} {w : World} {b : Nat} {m : RM} {σ : Rd} (h : RSt own w b m σ) (k : Nat) : w.cell? ⟨b, k, none⟩ = (RCells m σ)[k]? := h.blk.cell k

theorem RSt.grow {own : Nat → Nat} {w w' : World} {b : Nat} {m : RM} {σ : Rd} (h : RSt own w b m σ) (hg : w.grownBy w' none) : RSt own w' b m σ := by
  have hn : ∀ (c : Nat) (g : Nat), (none : Option Nat) = some g → own g ≠ c := fun _ _ e => by cases e
  exact ⟨h.blk.of_eq (hg.block b h.blk.lt (by simp)), h.ob, h.toks.of_eq (hg.block _ h.toks.lt (by simp)) hg.size, h.ot, h.cap, fun l hl => ⟨row_kept 2 (h.live l hl).1 (h.live l hl).2 hg (hn 2), (h.live l hl).2⟩⟩
theorem RSt.alloc {own : Nat → Nat} {w : World} {b : Nat} {m : RM} {σ : Rd} (h : RSt own w b m σ) (o : Obj) : RSt own (w.alloc o) b m σ := h.grow (World.grownBy_alloc w o none)
theorem RSt.drew {own : Nat → Nat} {w : World} {b : Nat} {m : RM} {σ : Rd} (h : RSt own w b m σ) : RSt own w.drew b m σ := h.grow (grownBy_drew w none)
theorem RSt.drewN {own : Nat → Nat} {w : World} {b : Nat} {m : RM} {σ : Rd} (h : RSt own w b m σ) (n : Nat) : RSt own (w.drewN n) b m σ := h.grow (grownBy_drewN w n none)
theorem RSt.owner {own own' : Nat → Nat} {w : World} {b : Nat} {m : RM} {σ : Rd} (h : RSt own w b m σ) (he : ∀ k, k < w.heap.size → own' k = own k) : RSt own' w b m σ :=
  ⟨h.blk, (he b h.blk.lt).trans h.ob, h.toks, (he _ h.toks.lt).trans h.ot, h.cap, fun l hl => ⟨(h.live l hl).1, fun g hg => (he g ((h.live l hl).1.lt g hg).2).trans ((h.live l hl).2 g hg)⟩⟩
theorem RSt.store {own : Nat → Nat} {w : World} {b : Nat} {m m' : RM} {σ σ' : Rd} (h : RSt own w b m σ) (k : Nat) (v : Value) (hc : (RCells m σ).setIfInBounds k v = RCells m' σ')
    (ht : TokRow w m'.tg m'.toff σ'.ahead) (hot : own m'.tg = 7) (hcap : σ'.ahead.length ≤ m'.tcap)
    (hl : ∀ l, σ'.ops = some l → w.ownsRow 0 241 4 m'.ov l.length (flat POp.cells l) ∧ ∀ g, m'.ov.ownBlock = some g → own g = 2) : RSt own (w.setCell ⟨b, k, none⟩ v) b m' σ' := by
  have hg := grownBy_setCell w ⟨b, k, none⟩ v
  have ho : ∀ (c : Nat), c ≠ 1 → ∀ (g : Nat), some b = some g → own g ≠ c := fun c hc g e => by cases e; rw [h.ob]; exact Ne.symm hc
  have hne : m'.tg ≠ b := fun e => by rw [e, h.ob] at hot; cases hot
  exact ⟨by rw [← hc]; exact h.blk.set k v, h.ob, ht.of_eq (hg.block _ ht.lt (fun e => hne (Option.some.inj e))) hg.size, hot, hcap, fun l e => ⟨row_kept 2 (hl l e).1 (hl l e).2 hg (ho 2 (by decide)), (hl l e).2⟩⟩
theorem RSt.store1 {own : Nat → Nat} {w : World} {b : Nat} {m : RM} {σ σ' : Rd} (h : RSt own w b m σ) (k : Nat) (v : Value) (hc : (RCells m σ).setIfInBounds k v = RCells m σ')
    (ha : σ'.ahead = σ.ahead) (ho : σ'.ops = σ.ops) : RSt own (w.setCell ⟨b, k, none⟩ v) b m σ' :=
  h.store k v hc (by rw [ha]; exact h.toks) h.ot (by rw [ha]; exact h.cap) (by rw [ho]; exact h.live)
theorem RSt.write8 {own : Nat → Nat} {w : World} {b : Nat} {m : RM} {σ : Rd} (h : RSt own w b m σ) {p : Addr} (hp : own p.block = 8) (v : Value) : RSt own (w.setCell p v) b m σ := by
  have hg := grownBy_setCell w p v
  have ho : ∀ (c : Nat), c ≠ 8 → ∀ (g : Nat), some p.block = some g → own g ≠ c := fun c hc g e => by cases e; rw [hp]; exact Ne.symm hc
  have hne : m.tg ≠ p.block := fun e => by have := h.ot; rw [e, hp] at this; cases this
  exact ⟨h.blk.other p v (fun e => by rw [e, h.ob] at hp; cases hp), h.ob, h.toks.of_eq (hg.block _ h.toks.lt (fun e => hne (Option.some.inj e))) hg.size, h.ot, h.cap, fun l hl => ⟨row_kept 2 (h.live l hl).1 (h.live l hl).2 hg (ho 2 (by decide)), (h.live l hl).2⟩⟩
theorem RSt.far {own : Nat → Nat} {w w1 : World} {b : Nat} {m : RM} {σ : Rd} {row : Option Nat} {c0 : Nat} (h : RSt own w b m σ) (hg : w.grownBy w1 row) (hr : ∀ k, row = some k → own k = c0) (hc : 1 ≠ c0) : Blk w1 b (RCells m σ) 177 :=
  h.blk.of_eq (hg.block b h.blk.lt (fun e => by have := hr b e.symm; rw [h.ob] at this; exact hc this))
theorem RSt.app {own : Nat → Nat} {w w1 : World} {b : Nat} {m : RM} {σ : Rd} {l : List POp} {g cap : Nat} (h : RSt own w b m σ) (hl : σ.ops = some l) (x : POp)
    (hown : w1.ownsRow 0 241 4 (.slice (some ⟨g, 0, none⟩) (l.length + 1) cap) (l.length + 1) (flat POp.cells l ++ POp.cells x))
    (hg : w.grownBy w1 m.ov.ownBlock) (hat : m.ov.ownBlock = some g ∨ g = w.heap.size) :
    RSt (Go.Proofs.YtddbjcfdmdbmkaaGreatDoor.put own g 2) (w1.setCell ⟨b, 6, none⟩ (.slice (some ⟨g, 0, none⟩) (l.length + 1) cap)) b { m with ov := .slice (some ⟨g, 0, none⟩) (l.length + 1) cap } (σ.put x) ∧
    Ext own w (Go.Proofs.YtddbjcfdmdbmkaaGreatDoor.put own g 2) (w1.setCell ⟨b, 6, none⟩ (.slice (some ⟨g, 0, none⟩) (l.length + 1) cap)) := by
  have hr := (h.live l hl).2
  have hob : Go.Proofs.YtddbjcfdmdbmkaaGreatDoor.put own g 2 b = 1 := (put_old 2 hr hat b h.blk.lt).trans h.ob
  have hblk := h.far hg hr (by decide)
  have hgb := grownBy_setCell w1 ⟨b, 6, none⟩ (.slice (some ⟨g, 0, none⟩) (l.length + 1) cap)
  have ho : ∀ (c : Nat), c ≠ 1 → ∀ (k : Nat), some b = some k → Go.Proofs.YtddbjcfdmdbmkaaGreatDoor.put own g 2 k ≠ c := fun c hc k e => by cases e; rw [hob]; exact Ne.symm hc
  have htg : m.ov.ownBlock ≠ some m.tg := fun e => by have := hr _ e; rw [h.ot] at this; cases this
  have htk := h.toks.of_eq (hg.block _ h.toks.lt (fun e => htg e.symm)) hg.size
  have hot : Go.Proofs.YtddbjcfdmdbmkaaGreatDoor.put own g 2 m.tg = 7 := (put_old 2 hr hat _ h.toks.lt).trans h.ot
  have hne : m.tg ≠ b := h.tgne
  refine ⟨⟨?_, hob, htk.of_eq (hgb.block _ htk.lt (fun e => hne (Option.some.inj e))) hgb.size, hot, h.cap, ?_⟩, (Ext.grown (g := g) 2 hg hr (by decide) hat).setCell (p := ⟨b, 6, none⟩) (by rw [hob]; decide) _⟩
  · have := hblk.set 6 (.slice (some ⟨g, 0, none⟩) (l.length + 1) cap)
    simpa [RCells, Rd.put] using this
  · intro l' e
    simp only [Rd.put, hl, Option.map_some] at e
    cases e
    refine ⟨?_, fun k e => by cases e; exact put_same _ _ _⟩
    simp only [flat_snoc, List.length_append, List.length_cons, List.length_nil, Nat.zero_add]
    exact row_kept 2 hown (own := Go.Proofs.YtddbjcfdmdbmkaaGreatDoor.put own g 2) (fun k e => by cases e; exact put_same _ _ _) hgb (ho 2 (by decide))
theorem AfterR.of {own own' : Nat → Nat} {w w' : World} {b : Nat} {m : RM} {σ : Rd} (h : RSt own' w' b m σ) (e : Ext own w own' w') : AfterR own w b σ w' := ⟨own', m, h, e⟩
theorem headD_eq {l : List STok} (h : 0 < l.length) : l.headD default = l[0] := by
  cases l with
  | nil => simp at h
  | cons a l => rfl
theorem RSt.tok {own : Nat → Nat} {w : World} {b : Nat} {m : RM} {σ : Rd} (h : RSt own w b m σ) (hp : 0 < σ.ahead.length) :
    w.cell? ⟨m.tg, m.toff * 3, none⟩ = some (.int .i64 σ.now.kind) ∧ w.cell? ⟨m.tg, m.toff * 3 + 1, none⟩ = some (.int .i64 σ.now.place) ∧ w.cell? ⟨m.tg, m.toff * 3 + 2, none⟩ = some (.string σ.now.text) := by
  have e : σ.now = σ.ahead[0] := headD_eq hp
  have h0 := h.toks.c0 0 hp; have h1 := h.toks.c1 0 hp; have h2 := h.toks.c2 0 hp
  rw [Nat.add_zero] at h0 h1 h2
  rw [e]; exact ⟨h0, h1, h2⟩
end Go.Proofs.YtddbjcfdmdbmkaaGreatDoor
