import Derived.Test.YtddbjcfdmdbmkaaGreatDoorB24
import Derived.Test.YtddbjcfdmdbmkaaGreatDoorB30
import Derived.Test.YtddbjcfdmdbmkaaGreatDoorB10
import Derived.Test.YtddbjcfdmdbmkaaGreatDoorB04
import Derived.Test.YtddbjcfdmdbmkaaGreatDoorB07
set_option linter.unusedVariables false
set_option linter.unusedSimpArgs false
/-
  Both readers, plain: .
-/
namespace Go.Proofs.YtddbjcfdmdbmkaaGreatDoor
open Go.RowKit

/-- one by one -/
inductive Pw {α β : Type} (r : α → β → Prop) : List α → List β → Prop
  | nil : Pw r [] []
  | cons {a : α} {b : β} {l : List α} {m : List β} : r a b → Pw r l m → Pw r (a :: l) (b :: m)
theorem Pw.length {α β : Type} {r : α → β → Prop} {l : List α} {m : List β} (h : Pw r l m) : l.length = m.length := by
  induction h with
  | nil => rfl
  | cons _ _ ih => simp [ih]
theorem Pw.imp {α β : Type} {r r' : α → β → Prop} {l : List α} {m : List β} (h : Pw r l m) (hr : ∀ a b, a ∈ l → b ∈ m → r a b → r' a b) : Pw r' l m := by
  induction h with
  | nil => exact .nil
  | cons h1 _ ih => exact .cons (hr _ _ (by simp) (by simp) h1) (ih fun a b ha hb => hr a b (by simp [ha]) (by simp [hb]))
theorem Pw.app {α β : Type} {r : α → β → Prop} {l l' : List α} {m m' : List β} (h : Pw r l m) (h' : Pw r l' m') : Pw r (l ++ l') (m ++ m') := by
  induction h with
  | nil => exact h'
  | cons h1 _ ih => exact .cons h1 ih
theorem Pw.map {α β γ δ : Type} {r : α → β → Prop} {r' : γ → δ → Prop} {f : α → γ} {g : β → δ} {l : List α} {m : List β} (h : Pw r l m) (hf : ∀ a b, r a b → r' (f a) (g b)) : Pw r' (l.map f) (m.map g) := by
  induction h with
  | nil => exact .nil
  | cons h1 _ ih => exact .cons (hf _ _ h1) ih
theorem Pw.flatMap {α β γ δ : Type} {r : α → β → Prop} {r' : γ → δ → Prop} {f : α → List γ} {g : β → List δ} {l : List α} {m : List β} (h : Pw r l m) (hf : ∀ a b, r a b → Pw r' (f a) (g b)) : Pw r' (l.flatMap f) (m.flatMap g) := by
  induction h with
  | nil => exact .nil
  | cons h1 _ ih => rw [List.flatMap_cons, List.flatMap_cons]; exact (hf _ _ h1).app ih
theorem SeqR.pw {r : Nat → PPart → Prop} {l : List Nat} {ps : List PPart} (h : SeqR r l ps) : Pw r l ps := by
  induction l generalizing ps with
  | nil =>
    cases ps with
    | nil => exact .nil
    | cons _ _ => have := h.1; simp at this
  | cons j l ih =>
    cases ps with
    | nil => have := h.1; simp at this
    | cons p ps =>
      refine .cons (h.2 0 j p rfl rfl) (ih ⟨by have := h.1; simpa using this, fun i j' p' h1 h2 => h.2 (i + 1) j' p' (by simpa using h1) (by simpa using h2)⟩)
theorem WaysR.pw {r : Nat → PPart → Prop} {l : List (List Nat)} {ps : List (List PPart)} (h : WaysR r l ps) : Pw (Pw r) l ps := by
  induction l generalizing ps with
  | nil =>
    cases ps with
    | nil => exact .nil
    | cons _ _ => have := h.1; simp at this
  | cons j l ih =>
    cases ps with
    | nil => have := h.1; simp at this
    | cons p ps =>
      refine .cons (h.2 0 j p rfl rfl).pw (ih ⟨by have := h.1; simpa using this, fun i j' p' h1 h2 => h.2 (i + 1) j' p' (by simpa using h1) (by simpa using h2)⟩)

/-- equal, or both more than m -/
def Agree (m a b : Nat) : Prop := a = b ∨ (m < a ∧ m < b)
theorem Agree.add {m a b c d : Nat} (h : Agree m a b) (k : Agree m c d) : Agree m (a + c) (b + d) := by unfold Agree at *; omega
theorem Agree.mul {m a b c d : Nat} (h : Agree m a b) (k : Agree m c d) (ha : 1 ≤ a) (hb : 1 ≤ b) (hc : 1 ≤ c) (hd : 1 ≤ d) : Agree m (a * c) (b * d) := by
  have h1 : a ≤ a * c := Nat.le_mul_of_pos_right _ hc
  have h2 : b ≤ b * d := Nat.le_mul_of_pos_right _ hd
  have h3 : c ≤ a * c := Nat.le_mul_of_pos_left _ ha
  have h4 : d ≤ b * d := Nat.le_mul_of_pos_left _ hb
  rcases h with h | h
  · rcases k with k | k
    · left; rw [h, k]
    · right; omega
  · right; omega
def AgS (a b : Nat × Nat) : Prop := Agree 16 a.1 b.1 ∧ Agree 8 a.2 b.2 ∧ 1 ≤ a.1 ∧ 1 ≤ b.1
theorem ways_agree {f : List Nat → Nat × Nat} {g : List PPart → Nat × Nat} {r : Nat → PPart → Prop} {ways : List (List Nat)} {cs : List (List PPart)} (h : Pw (Pw r) ways cs) (hf : ∀ l c, l ∈ ways → c ∈ cs → Pw r l c → AgS (f l) (g c)) :
    ∀ a b : Nat × Nat, Agree 16 a.1 b.1 → Agree 8 a.2 b.2 → Agree 16 (ways.foldl (wayStep f) a).1 (cs.foldl (fun a c => (a.1 + (g c).1, max a.2 (g c).2)) b).1 ∧ Agree 8 (ways.foldl (wayStep f) a).2 (cs.foldl (fun a c => (a.1 + (g c).1, max a.2 (g c).2)) b).2 ∧
      a.1 ≤ (ways.foldl (wayStep f) a).1 ∧ b.1 ≤ (cs.foldl (fun a c => (a.1 + (g c).1, max a.2 (g c).2)) b).1 ∧ (ways ≠ [] → a.1 + 1 ≤ (ways.foldl (wayStep f) a).1 ∧ b.1 + 1 ≤ (cs.foldl (fun a c => (a.1 + (g c).1, max a.2 (g c).2)) b).1) := by
  induction h with
  | nil => intro a b h1 h2; exact ⟨h1, h2, Nat.le_refl _, Nat.le_refl _, fun e => absurd rfl e⟩
  | @cons l c ways cs h1 _ ih =>
    intro a b ha hb
    rw [List.foldl_cons, List.foldl_cons]
    obtain ⟨q1, q2, q3, q4⟩ := hf l c (by simp) (by simp) h1
    have k1 : Agree 16 (wayStep f a l).1 (b.1 + (g c).1) := ha.add q1
    have k2 : Agree 8 (wayStep f a l).2 (max b.2 (g c).2) := by
      unfold wayStep; simp only
      unfold Agree at *
      split <;> omega
    obtain ⟨i1, i2, i3, i4, _⟩ := ih (fun l c hl hc => hf l c (by simp [hl]) (by simp [hc])) (wayStep f a l) (b.1 + (g c).1, max b.2 (g c).2) k1 k2
    have e1 : (wayStep f a l).1 = a.1 + (f l).1 := rfl
    have e2 : (b.1 + (g c).1, max b.2 (g c).2).1 = b.1 + (g c).1 := rfl
    rw [e1] at i3
    rw [e2] at i4
    exact ⟨i1, i2, by omega, by omega, fun _ => ⟨by omega, by omega⟩⟩
theorem seq_agree {parts : List RPart} {f : List Nat → Nat × Nat} {g : List PPart → Nat × Nat} {r : Nat → PPart → Prop} (hr : ∀ j p, r j p → ∃ x, parts[j]? = some x ∧ ((x.ways = [] ∧ p.choices = [] ∧ ((x.guard = true ∧ p.times = 0) ∨ (x.guard = false ∧ x.times = p.times))) ∨
      (x.ways ≠ [] ∧ ∃ r', Pw (Pw r') x.ways p.choices ∧ ∀ l c, l ∈ x.ways → c ∈ p.choices → Pw r' l c → AgS (f l) (g c)))) {l : List Nat} {ps : List PPart} (h : Pw r l ps) :
    ∀ a b : Nat × Nat, AgS a b → AgS (l.foldl (partStep parts f) a) (ps.foldl (sizeStep g) b) := by
  induction h with
  | nil => intro a b h; exact h
  | @cons j p l ps h1 _ ih =>
    intro a b hab
    rw [List.foldl_cons, List.foldl_cons]
    apply ih
    obtain ⟨x, hx, hc⟩ := hr j p h1
    obtain ⟨p1, p2, p3, p4⟩ := hab
    rcases hc with ⟨hw, hcs, hg⟩ | ⟨hw, r', hpw, hag⟩
    · rw [partStep_leaf hx (by rw [hw]; rfl)]
      have eP : sizePartP g p = (1, p.times) := by unfold sizePartP; rw [if_pos (by rw [hcs]; rfl)]
      unfold sizeStep
      rw [eP]
      simp only [Nat.mul_one]
      refine ⟨?_, ?_, p3, by show 1 ≤ min b.1 17; omega⟩
      · unfold Agree at *; show _ ∨ _; omega
      · rcases hg with ⟨hg, ht⟩ | ⟨hg, ht⟩
        · rw [hg, ht]; simpa using p2
        · rw [hg, ht]
          simp only [Bool.false_eq_true, if_false, Int.toNat_natCast]
          exact p2.add (.inl rfl)
    · have hne : ¬ x.ways.length = 0 := by simpa using hw
      rw [partStep_alt hx hne]
      have hce : p.choices.isEmpty = false := by
        have := hpw.length
        cases hcc : p.choices with
        | nil => rw [hcc] at this; simp at this; exact absurd this hw
        | cons _ _ => rfl
      have eP : sizePartP g p = p.choices.foldl (fun a c => (a.1 + (g c).1, max a.2 (g c).2)) (0, 0) := by unfold sizePartP; rw [if_neg (by rw [hce]; decide)]
      unfold sizeStep
      rw [eP]
      obtain ⟨q1, q2, _, _, q5⟩ := ways_agree hpw hag (0, 0) (0, 0) (.inl rfl) (.inl rfl)
      obtain ⟨q6, q7⟩ := q5 hw
      generalize x.ways.foldl (wayStep f) (0, 0) = W at *
      generalize p.choices.foldl (fun a c => (a.1 + (g c).1, max a.2 (g c).2)) (0, 0) = C at *
      have hm := p1.mul q1 p3 p4 (by omega) (by omega)
      have hm1 : 1 ≤ a.1 * W.1 := Nat.mul_pos (by omega) (by omega)
      have hm2 : 1 ≤ b.1 * C.1 := Nat.mul_pos (by omega) (by omega)
      have hs := p2.add q2
      refine ⟨?_, ?_, ?_, ?_⟩
      · simp only; unfold Agree at *; split <;> omega
      · simp only; unfold Agree at *; split <;> omega
      · simp only; split <;> omega
      · simp only; omega
theorem size_agree {nodes : List RNode} {parts : List RPart} (hlt : ∀ (i : Nat) (x : RPart), parts[i]? = some x → ∀ l ∈ x.ways, ∀ j ∈ l, j < i) : ∀ (n N : Nat) (l : List Nat) (ps : List PPart), Pw (PR nodes parts n) l ps → (∀ j ∈ l, j < N) → AgS (sizeF parts N l) (sizeP (n + 1) ps) := by
  intro n
  induction n with
  | zero =>
    intro N l ps h _
    cases h with
    | nil => cases N <;> exact ⟨.inl rfl, .inl rfl, by simp [sizeF], by simp [sizeP]⟩
    | cons h _ => exact h.elim
  | succ n ih =>
    intro N l ps h hN
    cases N with
    | zero =>
      cases h with
      | nil => exact ⟨.inl rfl, .inl rfl, by simp [sizeF], by simp [sizeP]⟩
      | @cons j _ _ _ _ _ => have := hN j (by simp); omega
    | succ N =>
      show AgS (l.foldl (partStep parts (sizeF parts N)) (1, 0)) (ps.foldl (sizeStep (sizeP (n + 1))) (1, 0))
      have h' : Pw (fun j p => PR nodes parts (n + 1) j p ∧ j < N + 1) l ps := h.imp (fun j p hj _ hr => ⟨hr, hN j hj⟩)
      refine seq_agree ?_ h' _ _ ⟨.inl rfl, .inl rfl, by simp, by simp⟩
      rintro j p ⟨⟨x, hx, hc⟩, hjN⟩
      refine ⟨x, hx, ?_⟩
      rcases hc with L | ⟨_, _, h2, hw⟩
      · refine .inl ⟨L.ways, L.choices, ?_⟩
        rcases L.alt with ⟨a, _, b, _⟩ | ⟨a, _, b⟩
        · exact .inl ⟨a, b⟩
        · exact .inr ⟨a, b⟩
      · refine .inr ⟨fun e => by rw [e] at h2; simp at h2, _, hw.pw, fun l c hl _ hpw => ih N l c hpw (fun k hk => ?_)⟩
        have := hlt j x hx l hl k hk
        omega
theorem big_agree {nodes : List RNode} {parts : List RPart} (hlt : ∀ (i : Nat) (x : RPart), parts[i]? = some x → ∀ l ∈ x.ways, ∀ j ∈ l, j < i) {n N : Nat} {l : List Nat} {ps : List PPart} (h : SeqR (PR nodes parts n) l ps) (hN : ∀ j ∈ l, j < N) :
    isBigP (n + 1) ps = (decide (16 < (sizeF parts N l).1) || decide (8 < (sizeF parts N l).2)) := by
  obtain ⟨h1, h2, _⟩ := size_agree hlt n N l ps h.pw hN
  unfold isBigP
  unfold Agree at h1 h2
  congr 1 <;> (simp only [decide_eq_decide]; omega)
end Go.Proofs.YtddbjcfdmdbmkaaGreatDoor

/-
  Both readers, plain: .
-/
namespace Go.Proofs.YtddbjcfdmdbmkaaGreatDoor
open Go.RowKit

/-- each behind each -/
def eachL (hs ts : List (List Nat)) : List (List Nat) := hs.flatMap fun a => ts.map fun b => a ++ b
/-- the rows that a part adds -/
def nextF (rec : List Nat → List (List Nat)) (parts : List RPart) (j : Nat) : List (List Nat) :=
  match parts[j]? with
  | none => [[j]]
  | some x => if x.ways.length = 0 then [[j]] else x.ways.flatMap rec
/-- what ways tells -/
def waysF (parts : List RPart) : Nat → List Nat → List (List Nat)
  | 0, _ => [[]]
  | n + 1, l => l.foldl (fun out j => eachL out (nextF (waysF parts n) parts j)) [[]]
/-- a part's steps in a path of the program -/
def expand (p : PPart) : List PPart := if isStepB p then List.replicate p.times p else [p]
def LeafJ (nodes : List RNode) (parts : List RPart) (j : Nat) (p : PPart) : Prop := ∃ x, parts[j]? = some x ∧ LeafR nodes x p
/-- a row of the document against a path of the program -/
def RowR (nodes : List RNode) (parts : List RPart) (row : List Nat) (path : List PPart) : Prop := ∃ ps, Pw (LeafJ nodes parts) row ps ∧ path = ps.flatMap expand
theorem each_rel {nodes : List RNode} {parts : List RPart} {hs ts : List (List Nat)} {hs' ts' : List (List PPart)} (h : Pw (RowR nodes parts) hs hs') (h' : Pw (RowR nodes parts) ts ts') : Pw (RowR nodes parts) (eachL hs ts) (eachP hs' ts') := by
  unfold eachL eachP
  refine h.flatMap (fun a a' ha => h'.map (fun b b' hb => ?_))
  obtain ⟨ps, h1, rfl⟩ := ha
  obtain ⟨qs, h2, rfl⟩ := hb
  exact ⟨ps ++ qs, h1.app h2, by rw [List.flatMap_append]⟩
theorem leaf_rows {nodes : List RNode} {x : RPart} {p : PPart} (L : LeafR nodes x p) (rec : List PPart → List (List PPart)) : ofPartP rec p = [expand p] := by
  unfold ofPartP expand
  by_cases hs : isStepB p = true
  · rw [if_pos hs, if_pos hs]
  · rw [if_neg hs, if_neg hs, if_pos (by rw [L.choices]; rfl)]
theorem ways_rel {nodes : List RNode} {parts : List RPart} (hlt : ∀ (i : Nat) (x : RPart), parts[i]? = some x → ∀ l ∈ x.ways, ∀ j ∈ l, j < i) : ∀ (n N : Nat) (l : List Nat) (ps : List PPart), Pw (PR nodes parts n) l ps → (∀ j ∈ l, j < N) → Pw (RowR nodes parts) (waysF parts N l) (ofSeqP (n + 1) ps) := by
  have base : Pw (RowR nodes parts) [[]] [[]] := .cons ⟨[], .nil, rfl⟩ .nil
  intro n
  induction n with
  | zero =>
    intro N l ps h _
    cases h with
    | nil => cases N <;> exact base
    | cons h _ => exact h.elim
  | succ n ih =>
    intro N l ps h hN
    cases N with
    | zero =>
      cases h with
      | nil => exact base
      | @cons j _ _ _ _ _ => have := hN j (by simp); omega
    | succ N =>
      show Pw (RowR nodes parts) (l.foldl (fun out j => eachL out (nextF (waysF parts N) parts j)) [[]]) (ps.foldl (fun all p => eachP all (ofPartP (ofSeqP (n + 1)) p)) [[]])
      have h' : Pw (fun j p => PR nodes parts (n + 1) j p ∧ j < N + 1) l ps := h.imp (fun j p hj _ hr => ⟨hr, hN j hj⟩)
      clear h hN
      suffices H : ∀ a b, Pw (RowR nodes parts) a b → Pw (RowR nodes parts) (l.foldl (fun out j => eachL out (nextF (waysF parts N) parts j)) a) (ps.foldl (fun all p => eachP all (ofPartP (ofSeqP (n + 1)) p)) b) from H _ _ base
      induction h' with
      | nil => intro a b h; exact h
      | @cons j p l ps h1 _ ih2 =>
        intro a b hab
        rw [List.foldl_cons, List.foldl_cons]
        refine ih2 _ _ (each_rel hab ?_)
        obtain ⟨⟨x, hx, hc⟩, hj⟩ := h1
        unfold nextF
        rw [hx]
        simp only
        rcases hc with L | ⟨_, hnm, h2, hw⟩
        · rw [if_pos (by rw [L.ways]; rfl), leaf_rows L]
          exact .cons ⟨[p], .cons ⟨x, hx, L⟩ .nil, by simp⟩ .nil
        · rw [if_neg (by omega)]
          have hs : isStepB p = false := by unfold isStepB; rw [hnm]; rfl
          have hce : p.choices.isEmpty = false := by
            have := hw.1
            cases hcc : p.choices with
            | nil => rw [hcc] at this; simp at this; rw [this] at h2; simp at h2
            | cons _ _ => rfl
          unfold ofPartP
          rw [if_neg (by rw [hs]; decide), if_neg (by rw [hce]; decide)]
          have hw' : Pw (fun l c => Pw (PR nodes parts n) l c ∧ ∀ k ∈ l, k < N) x.ways p.choices := hw.pw.imp (fun l c hl _ hpw => ⟨hpw, fun k hk => by have := hlt j x hx l hl k hk; omega⟩)
          exact hw'.flatMap (fun l c h => ih N l c h.1 h.2)

/-- the least place, and what it is -/
def upd (a : Int × Nat) (c : Int × Nat) : Int × Nat := if 0 ≤ c.1 ∧ (a.1 < 0 ∨ c.1 < a.1) then c else a
def IsMin (C : Int × Nat → Prop) (r : Int × Nat) : Prop := (r.1 < 0 ∧ ∀ c, C c → c.1 < 0) ∨ (0 ≤ r.1 ∧ C r ∧ ∀ c, C c → 0 ≤ c.1 → r.1 ≤ c.1)
theorem upd_min {C : Int × Nat → Prop} {a : Int × Nat} (h : IsMin C a) (c : Int × Nat) : IsMin (fun x => C x ∨ x = c) (upd a c) := by
  unfold upd
  split
  · rename_i hc
    refine .inr ⟨hc.1, .inr rfl, fun x hx h0 => ?_⟩
    rcases hx with hx | rfl
    · rcases h with ⟨_, h⟩ | ⟨_, _, h⟩
      · have := h x hx; omega
      · have := h x hx h0; omega
    · omega
  · rename_i hc
    rcases h with ⟨h1, h2⟩ | ⟨h1, h2, h3⟩
    · refine .inl ⟨h1, fun x hx => ?_⟩
      rcases hx with hx | rfl
      · exact h2 x hx
      · omega
    · refine .inr ⟨h1, .inl h2, fun x hx h0 => ?_⟩
      rcases hx with hx | rfl
      · exact h3 x hx h0
      · omega
theorem IsMin.congr {C D : Int × Nat → Prop} {r : Int × Nat} (h : IsMin C r) (hc : ∀ x, C x ↔ D x) : IsMin D r := by
  rcases h with ⟨h1, h2⟩ | ⟨h1, h2, h3⟩
  · exact .inl ⟨h1, fun x hx => h2 x ((hc x).2 hx)⟩
  · exact .inr ⟨h1, (hc r).1 h2, fun x hx => h3 x ((hc x).2 hx)⟩
theorem fold_min {C : Int × Nat → Prop} {a : Int × Nat} (h : IsMin C a) (l : List (Int × Nat)) : IsMin (fun x => C x ∨ x ∈ l) (l.foldl upd a) := by
  induction l generalizing C a with
  | nil => exact h.congr (by simp)
  | cons c l ih => rw [List.foldl_cons]; exact (ih (upd_min h c)).congr (by intro x; simp [or_assoc])
theorem min_nil : IsMin (fun _ => False) ((-1 : Int), 0) := .inl ⟨by simp, fun _ h => h.elim⟩
theorem fold_min0 (l : List (Int × Nat)) : IsMin (fun x => x ∈ l) (l.foldl upd (-1, 0)) := (fold_min min_nil l).congr (by simp)
/-- a candidate that is itself the least of others -/
theorem upd_min2 {C D : Int × Nat → Prop} {a c : Int × Nat} (h : IsMin C a) (hd : IsMin D c) : IsMin (fun x => C x ∨ D x) (upd a c) := by
  have hu := upd_min h c
  rcases hu with ⟨h1, h2⟩ | ⟨h1, h2, h3⟩
  · refine .inl ⟨h1, fun x hx => ?_⟩
    rcases hx with hx | hx
    · exact h2 x (.inl hx)
    · rcases hd with ⟨_, d2⟩ | ⟨d1, _, _⟩
      · exact d2 x hx
      · have := h2 c (.inr rfl); omega
  · refine .inr ⟨h1, ?_, fun x hx h0 => ?_⟩
    · rcases h2 with h2 | h2
      · exact .inl h2
      · rcases hd with ⟨d1, _⟩ | ⟨_, d2, _⟩
        · rw [h2] at h1; omega
        · rw [h2]; exact .inr d2
    · rcases hx with hx | hx
      · exact h3 x (.inl hx) h0
      · rcases hd with ⟨_, d2⟩ | ⟨d1, _, d3⟩
        · have := d2 x hx; omega
        · have := h3 c (.inr rfl) d1; have := d3 x hx h0; omega
/-- the program's -/
def IsMinP (C : Nat × Nat → Prop) (r : Nat × Nat) : Prop := (r = (0, 0) ∧ ∀ c, C c → c.2 = 0) ∨ (r.2 ≠ 0 ∧ C r ∧ ∀ c, C c → c.2 ≠ 0 → r.1 ≤ c.1)
theorem ffNew_min {C : Nat × Nat → Prop} {a : Nat × Nat} (h : IsMinP C a) (c : Nat × Nat) : IsMinP (fun x => C x ∨ x = c) (ffNew a c) := by
  unfold ffNew
  split
  · rename_i hc
    refine .inr ⟨hc.1, .inr rfl, fun x hx h0 => ?_⟩
    rcases hx with hx | rfl
    · rcases h with ⟨h1, h⟩ | ⟨h1, _, h⟩
      · exact absurd (h x hx) h0
      · have := h x hx h0; omega
    · omega
  · rename_i hc
    rcases h with ⟨h1, h2⟩ | ⟨h1, h2, h3⟩
    · refine .inl ⟨h1, fun x hx => ?_⟩
      rcases hx with hx | rfl
      · exact h2 x hx
      · rw [h1] at hc
        apply Decidable.byContradiction
        intro hn
        exact hc ⟨hn, .inl rfl⟩
    · refine .inr ⟨h1, .inl h2, fun x hx h0 => ?_⟩
      rcases hx with hx | rfl
      · exact h3 x hx h0
      · apply Decidable.byContradiction
        intro hn
        exact hc ⟨h0, .inr (by omega)⟩
theorem IsMinP.congr {C D : Nat × Nat → Prop} {r : Nat × Nat} (h : IsMinP C r) (hc : ∀ x, C x ↔ D x) : IsMinP D r := by
  rcases h with ⟨h1, h2⟩ | ⟨h1, h2, h3⟩
  · exact .inl ⟨h1, fun x hx => h2 x ((hc x).2 hx)⟩
  · exact .inr ⟨h1, (hc r).1 h2, fun x hx => h3 x ((hc x).2 hx)⟩
theorem ffPath_min (f : List PPart → Nat → Nat × Nat) (l : List PPart) {C : Nat × Nat → Prop} {a : Nat × Nat} (h : IsMinP C a) : ∀ k, IsMinP (fun x => C x ∨ ∃ i, i < k ∧ x = f l i) (ffPath f l a k) := by
  intro k
  induction k with
  | zero => exact h.congr (by simp)
  | succ k ih =>
    refine (ffNew_min ih (f l k)).congr (fun x => ?_)
    constructor
    · rintro ((hx | ⟨i, hi, hx⟩) | hx)
      · exact .inl hx
      · exact .inr ⟨i, by omega, hx⟩
      · exact .inr ⟨k, by omega, hx⟩
    · rintro (hx | ⟨i, hi, hx⟩)
      · exact .inl (.inl hx)
      · by_cases e : i = k
        · subst e; exact .inr hx
        · exact .inl (.inr ⟨i, by omega, hx⟩)
theorem firstFP_min (f : List PPart → Nat → Nat × Nat) (ps : List (List PPart)) : IsMinP (fun x => ∃ l ∈ ps, ∃ i, i < l.length ∧ x = f l i) (firstFP f ps) := by
  unfold firstFP ffAcc
  rw [List.take_length]
  have H : ∀ (ps : List (List PPart)) (C : Nat × Nat → Prop) (a : Nat × Nat), IsMinP C a → IsMinP (fun x => C x ∨ ∃ l ∈ ps, ∃ i, i < l.length ∧ x = f l i) (ps.foldl (fun a l => ffPath f l a l.length) a) := by
    intro ps
    induction ps with
    | nil => intro C a h; exact h.congr (by simp)
    | cons l ps ih =>
      intro C a h
      rw [List.foldl_cons]
      refine (ih _ _ (ffPath_min f l h l.length)).congr (fun x => ?_)
      simp only [List.mem_cons, exists_eq_or_imp, or_assoc]
  exact (H ps (fun _ => False) (0, 0) (.inl ⟨rfl, fun _ h => h.elim⟩)).congr (by simp)
/-- Both find the same. -/
theorem min_same {C : Int × Nat → Prop} {D : Nat × Nat → Prop} {r : Int × Nat} {q : Nat × Nat} (h : IsMin C r) (k : IsMinP D q)
    (h1 : ∀ d, D d → d.2 ≠ 0 → C ((d.1 : Int), d.2)) (h2 : ∀ c, C c → 0 ≤ c.1 → ∃ d, D d ∧ d.2 ≠ 0 ∧ (d.1 : Int) ≤ c.1)
    (h3 : ∀ c c', C c → C c' → 0 ≤ c.1 → c.1 = c'.1 → c.2 = c'.2) : (r.1 < 0 ∧ q.2 = 0) ∨ (0 ≤ r.1 ∧ q.2 ≠ 0 ∧ r = ((q.1 : Int), q.2)) := by
  rcases h with ⟨r1, r2⟩ | ⟨r1, r2, r3⟩
  · left
    refine ⟨r1, ?_⟩
    rcases k with ⟨k1, _⟩ | ⟨k1, k2, _⟩
    · rw [k1]
    · have := r2 _ (h1 q k2 k1); simp at this; omega
  · right
    obtain ⟨d, hd, hd0, hle⟩ := h2 r r2 r1
    rcases k with ⟨k1, k2⟩ | ⟨k1, k2, k3⟩
    · exact absurd (k2 d hd) hd0
    · refine ⟨r1, k1, ?_⟩
      have a := k3 d hd hd0
      have b := r3 _ (h1 q k2 k1) (by simp)
      simp only at b
      have e : r.1 = (q.1 : Int) := by omega
      have e2 := h3 r _ r2 (h1 q k2 k1) r1 e
      exact Prod.ext e e2
end Go.Proofs.YtddbjcfdmdbmkaaGreatDoor

/-
  The document's ways: memory.
-/
namespace Go.Proofs.YtddbjcfdmdbmkaaGreatDoor
open Go.RowKit

/-- What is of colour 7 stays, and is so still. -/
def K7 (own : Nat → Nat) (w : World) (own' : Nat → Nat) (w' : World) : Prop := w.heap.size ≤ w'.heap.size ∧ ∀ k, k < w.heap.size → own k = 7 → own' k = 7 ∧ w'.heap[k]? = w.heap[k]?
theorem K7.refl (own : Nat → Nat) (w : World) : K7 own w own w := ⟨Nat.le_refl _, fun _ _ h => ⟨h, rfl⟩⟩
theorem K7.trans {a b c : Nat → Nat} {w w' w'' : World} (h : K7 a w b w') (k : K7 b w' c w'') : K7 a w c w'' :=
  ⟨Nat.le_trans h.1 k.1, fun i hi hc => ⟨(k.2 i (Nat.lt_of_lt_of_le hi h.1) (h.2 i hi hc).1).1, ((k.2 i (Nat.lt_of_lt_of_le hi h.1) (h.2 i hi hc).1).2).trans (h.2 i hi hc).2⟩⟩
theorem Ext.k7 {own own' : Nat → Nat} {w w' : World} (h : Ext own w own' w') : K7 own w own' w' := ⟨h.size, fun k hk hc => ⟨(h.same k hk).trans hc, h.kept.block k ⟨hk, by rw [hc]; exact Nat.le_refl _⟩⟩⟩
theorem Ints.k7 {own own' : Nat → Nat} {w w' : World} {v : Value} {l : List Nat} (h : Ints own w v l) (k : K7 own w own' w') : Ints own' w' v l := by
  obtain ⟨⟨n, h⟩, ho⟩ := h
  exact ⟨⟨n, row_of_blk h fun g hg => (k.2 g (h.lt g hg).2 (ho g hg)).2⟩, fun g hg => (k.2 g (h.lt g hg).2 (ho g hg)).1⟩
theorem Wayz.k7 {own own' : Nat → Nat} {w w' : World} {v : Value} {l : List (List Nat)} (h : Wayz own w v l) (k : K7 own w own' w') : Wayz own' w' v l := by
  obtain ⟨vs, h, ho, hl, hi⟩ := h
  exact ⟨vs, row_of_blk h fun g hg => (k.2 g (h.lt g hg).2 (ho g hg)).2, fun g hg => (k.2 g (h.lt g hg).2 (ho g hg)).1, hl, fun i h1 h2 => (hi i h1 h2).k7 k⟩
theorem Blk.k7 {own own' : Nat → Nat} {w w' : World} {b : Nat} {cs : Array Value} {t : TypeId} (h : Blk w b cs t) (hc : own b = 7) (k : K7 own w own' w') : Blk w' b cs t ∧ own' b = 7 := ⟨h.of_eq (k.2 b h.lt hc).2, (k.2 b h.lt hc).1⟩
/-- what the walk of ways stands on -/
structure WS (own : Nat → Nat) (w : World) (b : Nat) (m : PM) (σ : PSt) (own' : Nat → Nat) (wr : World) : Prop where
  st : St own' wr b m σ
  ext : Ext own w own' wr
/-- New blocks, and one more of colour c. -/
theorem WS.new {own own' : Nat → Nat} {w wr w' : World} {b : Nat} {m : PM} {σ : PSt} (h : WS own w b m σ own' wr) (hg : wr.grownBy w' none) {g : Nat} (hgn : wr.heap.size ≤ g) (c : Nat) : WS own w b m σ (put own' g c) w' ∧ K7 own' wr (put own' g c) w' := by
  have ho : ∀ k, k < wr.heap.size → put own' g c k = own' k := fun k hk => put_other _ _ _ _ (by omega)
  have hb : ∀ k, k < wr.heap.size → w'.heap[k]? = wr.heap[k]? := fun k hk => hg.block k hk (by simp)
  refine ⟨⟨(h.st.owner ho).grow hg, ⟨fun k hk => (ho k (Nat.lt_of_lt_of_le hk h.ext.size)).trans (h.ext.same k hk), ?_⟩⟩, hg.size, fun k hk hc => ⟨(ho k hk).trans hc, hb k hk⟩⟩
  exact h.ext.kept.grown hg (fun k hk => Nat.lt_of_lt_of_le hk.1 h.ext.size) (fun k e => by cases e)
theorem WS.keep {own own' : Nat → Nat} {w wr w' : World} {b : Nat} {m : PM} {σ : PSt} (h : WS own w b m σ own' wr) (hg : wr.grownBy w' none) : WS own w b m σ own' w' ∧ K7 own' wr own' w' :=
  ⟨⟨h.st.grow hg, ⟨h.ext.same, h.ext.kept.grown hg (fun k hk => Nat.lt_of_lt_of_le hk.1 h.ext.size) (fun k e => by cases e)⟩⟩, hg.size, fun k hk hc => ⟨hc, hg.block k hk (by simp)⟩⟩
theorem Way9.new {own own' : Nat → Nat} {wr w' : World} {v : Value} {l : List (List Nat)} {lo : Nat} (h : Way9 own wr v l lo) (ho : ∀ k, k < wr.heap.size → own' k = own k) (hb : ∀ k, k < wr.heap.size → w'.heap[k]? = wr.heap[k]?) (hk : K7 own wr own' w') : Way9 own' w' v l lo := by
  obtain ⟨vs, h, hc, hl, hi⟩ := h
  exact ⟨vs, row_of_blk h fun g hg => hb g (h.lt g hg).2, fun g hg => ⟨(ho g (h.lt g hg).2).trans (hc g hg).1, (hc g hg).2⟩, hl, fun i h1 h2 => (hi i h1 h2).k7 hk⟩
/-- An append to a list that is being made. -/
theorem WS.app {own own' : Nat → Nat} {w wr w' : World} {b : Nat} {m : PM} {σ : PSt} (h : WS own w b m σ own' wr) {v : Value} {acc : List (List Nat)} {vs : List Value} (_hrow : wr.ownsRow 0 48 1 v acc.length vs) (hcol : ∀ g, v.ownBlock = some g → own' g = 9 ∧ w.heap.size ≤ g) (hvl : vs.length = acc.length)
    (hvi : ∀ i, (h : i < vs.length) → (h' : i < acc.length) → Ints own' wr vs[i] acc[i]) {us : List Value} {ls : List (List Nat)} (hul : us.length = ls.length) (hui : ∀ i, (h : i < us.length) → (h' : i < ls.length) → Ints own' wr us[i] ls[i]) {g cap : Nat}
    (hown : w'.ownsRow 0 48 1 (.slice (some ⟨g, 0, none⟩) (acc.length + ls.length) cap) (acc.length + ls.length) (vs ++ us)) (hg : wr.grownBy w' v.ownBlock) (hat : v.ownBlock = some g ∨ g = wr.heap.size) :
    WS own w b m σ (put own' g 9) w' ∧ K7 own' wr (put own' g 9) w' ∧ Way9 (put own' g 9) w' (.slice (some ⟨g, 0, none⟩) (acc.length + ls.length) cap) (acc ++ ls) w.heap.size := by
  have hr : ∀ k, v.ownBlock = some k → own' k = 9 := fun k hk => (hcol k hk).1
  have hgw : w.heap.size ≤ g := by
    rcases hat with e | e
    · exact (hcol g e).2
    · have := h.ext.size; omega
  have hk : K7 own' wr (put own' g 9) w' := by
    refine ⟨hg.size, fun k hk hc => ?_⟩
    have hkg : k ≠ g := fun e => by
      rcases hat with e' | e'
      · have := hr g e'; rw [← e, hc] at this; cases this
      · omega
    refine ⟨(put_other _ _ _ _ hkg).trans hc, hg.block k hk (fun e => ?_)⟩
    have := hr k e.symm; rw [hc] at this; cases this
  refine ⟨⟨h.st.appD 9 (by decide) hr hg hat, h.ext.appD 9 hg (fun k hk => (hcol k hk).2) hat⟩, hk, vs ++ us, by simpa using hown, fun k e => by cases e; exact ⟨put_same _ _ _, hgw⟩, by simp [hvl, hul], ?_⟩
  intro i h1 h2
  by_cases hi : i < vs.length
  · have hi2 : i < acc.length := by omega
    rw [List.getElem_append_left hi, List.getElem_append_left hi2]
    exact (hvi i hi hi2).k7 hk
  · simp only [List.length_append] at h1 h2
    rw [List.getElem_append_right (by omega), List.getElem_append_right (by omega)]
    have e : i - vs.length = i - acc.length := by omega
    simp only [e]
    exact (hui (i - acc.length) (by omega) (by omega)).k7 hk
/-- It is made: nobody writes it any more. -/
theorem WS.done {own own' : Nat → Nat} {w wr : World} {b : Nat} {m : PM} {σ : PSt} (h : WS own w b m σ own' wr) {v : Value} {l : List (List Nat)} (h9 : Way9 own' wr v l w.heap.size) : ∃ own2, WS own w b m σ own2 wr ∧ K7 own' wr own2 wr ∧ Wayz own2 wr v l := by
  obtain ⟨vs, hrow, hc, hl, hi⟩ := h9
  cases hv : v.ownBlock with
  | none => exact ⟨own', h, K7.refl _ _, vs, hrow, (fun g e => by rw [hv] at e; cases e), hl, hi⟩
  | some g =>
    obtain ⟨c9, hgw⟩ := hc g hv
    have hk : K7 own' wr (put own' g 7) wr := ⟨Nat.le_refl _, fun k _ hkc => ⟨by
      by_cases e : k = g
      · subst e; exact put_same _ _ _
      · rw [put_other _ _ _ _ e]; exact hkc, rfl⟩⟩
    refine ⟨put own' g 7, ⟨h.st.recolor 7 (by omega), ⟨fun k hk => (put_other _ _ _ _ (by omega)).trans (h.ext.same k hk), h.ext.kept⟩⟩, hk, vs, hrow, (fun g' e => by rw [hv] at e; cases e; exact put_same _ _ _), hl, fun i h1 h2 => (hi i h1 h2).k7 hk⟩
theorem grownBy_new {w w1 w2 : World} {g : Nat} (h1 : w.grownBy w1 none) (h2 : w1.grownBy w2 (some g)) (hg : w.heap.size ≤ g) : w.grownBy w2 none :=
  ⟨h2.os.trans h1.os, h2.tape.trans h1.tape, h2.output.trans h1.output, Nat.le_trans h1.size h2.size, fun k hk _ => (h2.block k (Nat.lt_of_lt_of_le hk h1.size) (by simp; omega)).trans (h1.block k hk (by simp))⟩
/-- A list of numbers that was made now. -/
theorem WS.ints {own own' : Nat → Nat} {w wr w' : World} {b : Nat} {m : PM} {σ : PSt} (h : WS own w b m σ own' wr) (hg : wr.grownBy w' none) {g n cap : Nat} {l : List Nat} (hgn : wr.heap.size ≤ g) (hown : w'.ownsRow 0 3 1 (.slice (some ⟨g, 0, none⟩) n cap) n (l.map fun n : Nat => Value.int .i64 (n : Int))) :
    WS own w b m σ (put own' g 7) w' ∧ K7 own' wr (put own' g 7) w' ∧ Ints (put own' g 7) w' (.slice (some ⟨g, 0, none⟩) n cap) l := by
  obtain ⟨a, k⟩ := h.new hg hgn 7
  exact ⟨a, k, ⟨n, hown⟩, fun k e => by cases e; exact put_same _ _ _⟩
/-- where a list lies -/
theorem Ints.at0 {own : Nat → Nat} {w : World} {v : Value} {l : List Nat} (h : Ints own w v l) (h0 : l ≠ []) : ∃ g c, v = .slice (some ⟨g, 0, none⟩) l.length c ∧ g < w.heap.size ∧ ∀ j u, (l.map fun n : Nat => Value.int .i64 (n : Int))[j]? = some u → w.cell? ((⟨g, 0, none⟩ : Addr).add j) = some u := by
  obtain ⟨⟨n, h⟩, _⟩ := h
  have hn : n = l.length := by have := h.1; simp at this; exact this.symm
  subst hn
  obtain ⟨g, c, rfl, _, hlt⟩ := h.form (List.length_pos_iff.2 h0)
  exact ⟨g, c, rfl, hlt, fun j u hu => h.cells (g := g) rfl j u hu⟩
theorem Wayz.at0 {own : Nat → Nat} {w : World} {v : Value} {l : List (List Nat)} (h : Wayz own w v l) (h0 : 0 < l.length) : ∃ g c, ∃ vs : List Value, v = .slice (some ⟨g, 0, none⟩) l.length c ∧ g < w.heap.size ∧ vs.length = l.length ∧ (∀ j u, vs[j]? = some u → w.cell? ((⟨g, 0, none⟩ : Addr).add j) = some u) ∧ (∀ u ∈ vs, u.oneCell' = true) ∧ ∀ i, (h : i < vs.length) → (h' : i < l.length) → Ints own w vs[i] l[i] := by
  obtain ⟨vs, h, ho, hl, hi⟩ := h
  obtain ⟨g, c, rfl, _, hlt⟩ := h.form h0
  refine ⟨g, c, vs, rfl, hlt, hl, fun j u hu => h.cells (g := g) rfl j u hu, fun u hu => ?_, hi⟩
  obtain ⟨i, hi', rfl⟩ := List.mem_iff_getElem.1 hu
  exact (hi i hi' (by omega)).one
/-- A row more in a list that is being made. -/
theorem WS.row {own own4 own6 : Nat → Nat} {w wr w6 w7 : World} {b : Nat} {m : PM} {σ : PSt} (h6 : WS own w b m σ own6 w6) (hK6 : K7 own4 wr own6 w6) (hsame : ∀ k, k < wr.heap.size → own6 k = own4 k) {v : Value} {acc : List (List Nat)} {vs : List Value} (hrow9 : wr.ownsRow 0 48 1 v acc.length vs)
    (hrow6 : w6.ownsRow 0 48 1 v acc.length vs) (hcol : ∀ g, v.ownBlock = some g → own4 g = 9 ∧ w.heap.size ≤ g) (hvl : vs.length = acc.length) (hvi : ∀ i, (h : i < vs.length) → (h' : i < acc.length) → Ints own4 wr vs[i] acc[i])
    {rowv : Value} {r : List Nat} (hI6 : Ints own6 w6 rowv r) {o : Obj} {g9 cap9 : Nat} (hown : w7.ownsRow 0 48 1 (.slice (some ⟨g9, 0, none⟩) (acc.length + 1) cap9) (acc.length + 1) (vs ++ [rowv])) (hgrow : (w6.alloc o).grownBy w7 v.ownBlock) (hat : v.ownBlock = some g9 ∨ g9 = w6.heap.size + 1) :
    ∃ own7, WS own w b m σ own7 w7 ∧ K7 own4 wr own7 w7 ∧ Way9 own7 w7 (.slice (some ⟨g9, 0, none⟩) (acc.length + 1) cap9) (acc ++ [r]) w.heap.size := by
  obtain ⟨hW, hK⟩ := h6.keep (World.grownBy_alloc w6 o none)
  have hcol6 : ∀ g, v.ownBlock = some g → own6 g = 9 ∧ w.heap.size ≤ g := fun g hg => ⟨(hsame g (hrow9.lt g hg).2).trans (hcol g hg).1, (hcol g hg).2⟩
  obtain ⟨a, k, c⟩ := hW.app (hrow6.alloc o) hcol6 hvl (fun i h1 h2 => ((hvi i h1 h2).k7 hK6).k7 hK) (us := [rowv]) (ls := [r]) rfl (fun i h1 h2 => by
    have : i = 0 := by simp at h1; exact h1
    subst this; exact hI6.k7 hK) hown hgrow (by rw [alloc_size]; exact hat)
  exact ⟨_, a, (hK6.trans hK).trans k, c⟩
end Go.Proofs.YtddbjcfdmdbmkaaGreatDoor

/-
  Both readers, plain: .
-/
namespace Go.Proofs.YtddbjcfdmdbmkaaGreatDoor
open Go.RowKit

/-- the lesser of two places -/
def minW (w p : Int) : Int := if w < 0 ∨ p < w then p else w
theorem minW_upd (w p : Int) (hp : 0 ≤ p) : minW w p = (upd (w, 0) (p, 0)).1 := by
  unfold minW upd
  simp only [hp, true_and]
  split <;> rfl
/-- a step more, k times: the guards ahead of it are the first one's -/
def repF (j : Nat) : Nat → List (Nat × List Nat) × List Nat → List (Nat × List Nat) × List Nat
  | 0, s => s
  | k + 1, s => ((repF j k s).1 ++ [(j, (repF j k s).2)], [])
def pathStep (parts : List RPart) (s : List (Nat × List Nat) × List Nat × Int) (j : Nat) : List (Nat × List Nat) × List Nat × Int :=
  match parts[j]? with
  | none => s
  | some x => if x.guard then (s.1, s.2.1 ++ [j], if s.1.length = 0 then minW s.2.2 x.pos else s.2.2)
    else ((repF j x.times.toNat (s.1, s.2.1)).1, (repF j x.times.toNat (s.1, s.2.1)).2, s.2.2)
def tailW (parts : List RPart) (w : Int) (g : Nat) : Int := match parts[g]? with | none => w | some x => minW w x.pos
/-- what path tells -/
def pathF (parts : List RPart) (row : List Nat) : List (Nat × List Nat) × Int :=
  ((row.foldl (pathStep parts) ([], [], -1)).1, (row.foldl (pathStep parts) ([], [], -1)).2.1.foldl (tailW parts) (row.foldl (pathStep parts) ([], [], -1)).2.2)

/-- the program's: steps with the guards ahead of each; guards that have no step behind them -/
def wstep (s : List (PPart × List PPart) × List PPart) (p : PPart) : List (PPart × List PPart) × List PPart := if isStepB p then (s.1 ++ [(p, s.2)], []) else (s.1, s.2 ++ [p])
def wfold (l : List PPart) : List (PPart × List PPart) × List PPart := l.foldl wstep ([], [])
def StepR (nodes : List RNode) (parts : List RPart) (e' : Nat × List Nat) (e : PPart × List PPart) : Prop := LeafJ nodes parts e'.1 e.1 ∧ Pw (LeafJ nodes parts) e'.2 e.2
def headG (s : List (PPart × List PPart) × List PPart) : List PPart := match s.1 with | [] => s.2 | e :: _ => e.2
structure PthR (nodes : List RNode) (parts : List RPart) (s' : List (Nat × List Nat) × List Nat × Int) (s : List (PPart × List PPart) × List PPart) : Prop where
  steps : Pw (StepR nodes parts) s'.1 s.1
  left : Pw (LeafJ nodes parts) s'.2.1 s.2
  bad : IsMin (fun c => c.2 = 0 ∧ ∃ g ∈ headG s, c.1 = (g.place : Int)) (s'.2.2, 0)
theorem headG_snoc (es : List (PPart × List PPart)) (p : PPart) (left l2 : List PPart) : headG (es ++ [(p, left)], l2) = headG (es, left) := by
  cases es <;> rfl
theorem rep_rel {nodes : List RNode} {parts : List RPart} {j : Nat} {p : PPart} (hp : LeafJ nodes parts j p) (hs : isStepB p = true) {s' : List (Nat × List Nat) × List Nat × Int} {s : List (PPart × List PPart) × List PPart} (h : PthR nodes parts s' s) :
    ∀ k, PthR nodes parts ((repF j k (s'.1, s'.2.1)).1, (repF j k (s'.1, s'.2.1)).2, s'.2.2) ((List.replicate k p).foldl wstep s) := by
  intro k
  induction k with
  | zero => exact h
  | succ k ih =>
    rw [List.replicate_succ', List.foldl_append]
    show PthR nodes parts _ (wstep ((List.replicate k p).foldl wstep s) p)
    generalize (List.replicate k p).foldl wstep s = t at *
    unfold wstep
    rw [if_pos hs]
    refine ⟨ih.steps.app (.cons ⟨hp, ih.left⟩ .nil), .nil, ?_⟩
    rw [headG_snoc]; exact ih.bad
theorem path_fold {nodes : List RNode} {parts : List RPart} {row : List Nat} {ps : List PPart} (h : Pw (LeafJ nodes parts) row ps) : ∀ s' s, PthR nodes parts s' s → PthR nodes parts (row.foldl (pathStep parts) s') ((ps.flatMap expand).foldl wstep s) := by
  induction h with
  | nil => intro s' s h; exact h
  | @cons j p row ps h1 _ ih =>
    intro s' s hs
    rw [List.foldl_cons, List.flatMap_cons, List.foldl_append]
    apply ih
    obtain ⟨x, hx, L⟩ := h1
    unfold pathStep
    rw [hx]
    simp only
    rcases L.alt with ⟨hg, hn, _, _⟩ | ⟨hg, hn, ht⟩
    · rw [if_pos hg]
      have hsb : isStepB p = false := by unfold isStepB; rw [hn]; rfl
      have ee : expand p = [p] := by unfold expand; rw [if_neg (by rw [hsb]; decide)]
      rw [ee]
      have eW : wstep s p = (s.1, s.2 ++ [p]) := by unfold wstep; rw [if_neg (by rw [hsb]; decide)]
      show PthR nodes parts _ (wstep s p)
      rw [eW]
      refine ⟨hs.steps, hs.left.app (.cons ⟨x, hx, L⟩ .nil), ?_⟩
      have hlen := hs.steps.length
      by_cases h0 : s'.1.length = 0
      · have e0 : s.1 = [] := List.eq_nil_of_length_eq_zero (by omega)
        simp only [h0, if_true]
        have hb := hs.bad
        have eh : headG s = s.2 := by unfold headG; rw [e0]
        have eh2 : headG (s.1, s.2 ++ [p]) = s.2 ++ [p] := by unfold headG; rw [e0]
        rw [eh] at hb
        rw [eh2, minW_upd _ _ (by rw [L.pos]; omega)]
        have hu := upd_min hb (x.pos, 0)
        have e2 : upd (s'.2.2, 0) (x.pos, 0) = ((upd (s'.2.2, 0) (x.pos, 0)).1, 0) := by unfold upd; split <;> rfl
        rw [e2] at hu
        refine hu.congr (fun c => ?_)
        rw [L.pos]
        constructor
        · rintro (⟨h1, g, hg, h2⟩ | e)
          · exact ⟨h1, g, List.mem_append_left _ hg, h2⟩
          · rw [e]; exact ⟨rfl, p, by simp, rfl⟩
        · rintro ⟨h1, g, hg, h2⟩
          rcases List.mem_append.1 hg with hg | hg
          · exact .inl ⟨h1, g, hg, h2⟩
          · simp at hg; subst hg; exact .inr (Prod.ext h2 h1)
      · simp only [h0, if_false]
        have eh : headG (s.1, s.2 ++ [p]) = headG s := by
          unfold headG
          cases hes : s.1 with
          | nil => rw [hes] at hlen; simp at hlen; rw [hlen] at h0; simp at h0
          | cons _ _ => rfl
        rw [eh]; exact hs.bad
    · rw [if_neg (by rw [hg]; decide)]
      have hsb : isStepB p = true := by
        unfold isStepB
        have : (p.name.toList == []) = false := beq_eq_false_iff_ne.2 hn
        rw [this]; rfl
      have ee : expand p = List.replicate p.times p := by unfold expand; rw [if_pos hsb]
      rw [ee, ht, Int.toNat_natCast]
      exact rep_rel ⟨x, hx, L⟩ hsb hs p.times
theorem tail_rel {nodes : List RNode} {parts : List RPart} {gs' : List Nat} {gs : List PPart} (h : Pw (LeafJ nodes parts) gs' gs) : ∀ (C : Int × Nat → Prop) (w : Int), IsMin C (w, 0) → (∀ c, C c → c.2 = 0) → IsMin (fun c => C c ∨ (c.2 = 0 ∧ ∃ g ∈ gs, c.1 = (g.place : Int))) (gs'.foldl (tailW parts) w, 0) := by
  induction h with
  | nil => intro C w h _; exact h.congr (by simp)
  | @cons j p gs' gs h1 _ ih =>
    intro C w hC h0
    rw [List.foldl_cons]
    obtain ⟨x, hx, L⟩ := h1
    have et : tailW parts w j = (upd (w, 0) (x.pos, 0)).1 := by unfold tailW; rw [hx]; exact minW_upd _ _ (by rw [L.pos]; omega)
    rw [et]
    have hu := upd_min hC (x.pos, 0)
    have e2 : upd (w, 0) (x.pos, 0) = ((upd (w, 0) (x.pos, 0)).1, 0) := by unfold upd; split <;> rfl
    rw [e2] at hu
    refine (ih _ _ hu (fun c hc => by rcases hc with hc | hc; exact h0 c hc; rw [hc])).congr (fun c => ?_)
    rw [L.pos]
    constructor
    · rintro ((h1 | e) | ⟨h1, g, hg, h2⟩)
      · exact .inl h1
      · rw [e]; exact .inr ⟨rfl, p, by simp, rfl⟩
      · exact .inr ⟨h1, g, by simp [hg], h2⟩
    · rintro (h1 | ⟨h1, g, hg, h2⟩)
      · exact .inl (.inl h1)
      · rcases List.mem_cons.1 hg with rfl | hg
        · exact .inl (.inr (Prod.ext h2 h1))
        · exact .inr ⟨h1, g, hg, h2⟩
/-- A row of the document and a path of the program: the same steps and guards; the first guard that may not stand there. -/
theorem path_rel {nodes : List RNode} {parts : List RPart} {row : List Nat} {path : List PPart} (h : RowR nodes parts row path) : Pw (StepR nodes parts) (pathF parts row).1 (wfold path).1 ∧
    IsMin (fun c => c.2 = 0 ∧ ∃ g ∈ headG (wfold path) ++ (wfold path).2, c.1 = (g.place : Int)) ((pathF parts row).2, 0) := by
  obtain ⟨ps, h1, rfl⟩ := h
  have hp := path_fold h1 ([], [], -1) ([], []) ⟨.nil, .nil, .inl ⟨by simp, fun c hc => by obtain ⟨_, g, hg, _⟩ := hc; simp [headG] at hg⟩⟩
  refine ⟨hp.steps, ?_⟩
  have := tail_rel hp.left _ _ hp.bad (fun c hc => hc.1)
  refine this.congr (fun c => ?_)
  unfold wfold
  constructor
  · rintro (⟨h1, g, hg, h2⟩ | ⟨h1, g, hg, h2⟩)
    · exact ⟨h1, g, List.mem_append_left _ hg, h2⟩
    · exact ⟨h1, g, List.mem_append_right _ hg, h2⟩
  · rintro ⟨h1, g, hg, h2⟩
    rcases List.mem_append.1 hg with hg | hg
    · exact .inl ⟨h1, g, hg, h2⟩
    · exact .inr ⟨h1, g, hg, h2⟩
/-- what wfold tells of a path -/
structure WF2 (l : List PPart) (s : List (PPart × List PPart) × List PPart) : Prop where
  eq : l = s.1.flatMap (fun e => e.2 ++ [e.1]) ++ s.2
  steps : ∀ e ∈ s.1, isStepB e.1 = true ∧ ∀ g ∈ e.2, isStepB g = false
  left : ∀ g ∈ s.2, isStepB g = false
theorem wfold_spec (l : List PPart) : WF2 l (wfold l) := by
  have H : ∀ (l l0 : List PPart) s, WF2 l0 s → WF2 (l0 ++ l) (l.foldl wstep s) := by
    intro l
    induction l with
    | nil => intro l0 s h; rw [List.append_nil]; exact h
    | cons p l ih =>
      intro l0 s h
      rw [List.foldl_cons, show l0 ++ p :: l = (l0 ++ [p]) ++ l by simp]
      apply ih
      unfold wstep
      split
      · rename_i hs
        refine ⟨by rw [h.eq]; simp, fun e he => ?_, by simp⟩
        rcases List.mem_append.1 he with he | he
        · exact h.steps e he
        · simp at he; subst he; exact ⟨hs, h.left⟩
      · rename_i hs
        refine ⟨by rw [h.eq]; simp, h.steps, fun g hg => ?_⟩
        rcases List.mem_append.1 hg with hg | hg
        · exact h.left g hg
        · simp at hg; subst hg; simpa using hs
  have := H l [] ([], []) ⟨rfl, by simp, by simp⟩
  simpa [wfold] using this
theorem filter_guards (gs : List PPart) (h : ∀ g ∈ gs, isStepB g = false) : gs.filter isStepB = [] := List.filter_eq_nil_iff.2 (fun g hg => by rw [h g hg]; decide)
theorem wfold_steps (l : List PPart) : l.filter isStepB = (wfold l).1.map (·.1) := by
  have h := wfold_spec l
  generalize wfold l = s at h
  rw [h.eq, List.filter_append, filter_guards _ h.left, List.append_nil]
  have hst := h.steps
  clear h
  generalize s.1 = es at hst ⊢
  induction es with
  | nil => rfl
  | cons e es ih =>
    rw [List.flatMap_cons, List.filter_append, ih (fun e he => hst e (by simp [he])), List.filter_append, filter_guards _ (hst e (by simp)).2]
    simp [(hst e (by simp)).1]
end Go.Proofs.YtddbjcfdmdbmkaaGreatDoor
