import Derived.Test.YtddbjcfdmdbmkaaGreatDoorB01
set_option linter.unusedVariables false
set_option linter.unusedSimpArgs false
namespace Go.Proofs.YtddbjcfdmdbmkaaGreatDoor

def cmpL : List Nat → List Nat → Int
  | [], [] => 0
  | [], _ :: _ => -1
  | _ :: _, [] => 1
  | a :: l, b :: m => if a < b then -1 else if b < a then 1 else cmpL l m
theorem cmpL_self (a : List Nat) : cmpL a a = 0 := by
  induction a with
  | nil => rfl
  | cons x a ih => simp [cmpL, ih]
theorem cmpL_eq : ∀ {a b : List Nat}, cmpL a b = 0 → a = b := by
  intro a
  induction a with
  | nil => intro b h; cases b with
    | nil => rfl
    | cons y b => simp [cmpL] at h
  | cons x a ih =>
    intro b h
    cases b with
    | nil => simp [cmpL] at h
    | cons y b =>
      unfold cmpL at h
      split at h
      · simp at h
      · split at h
        · simp at h
        · rw [ih h, show x = y by omega]
theorem cmpL_swap : ∀ (a b : List Nat), cmpL b a = - cmpL a b := by
  intro a
  induction a with
  | nil => intro b; cases b <;> simp [cmpL]
  | cons x a ih =>
    intro b
    cases b with
    | nil => simp [cmpL]
    | cons y b =>
      unfold cmpL
      by_cases h1 : x < y
      · rw [if_pos h1, if_neg (by omega), if_pos h1]; rfl
      · by_cases h2 : y < x
        · rw [if_pos h2, if_neg h1, if_pos h2]
        · rw [if_neg h2, if_neg h1, if_neg h1, if_neg h2, ih]
theorem cmpL_range : ∀ (a b : List Nat), cmpL a b = -1 ∨ cmpL a b = 0 ∨ cmpL a b = 1 := by
  intro a
  induction a with
  | nil => intro b; cases b <;> simp [cmpL]
  | cons x a ih =>
    intro b
    cases b with
    | nil => simp [cmpL]
    | cons y b =>
      unfold cmpL
      split
      · exact .inl rfl
      · split
        · exact .inr (.inr rfl)
        · exact ih b
def ltL (a b : List Nat) : Prop := cmpL a b < 0
instance (a b : List Nat) : Decidable (ltL a b) := inferInstanceAs (Decidable (cmpL a b < 0))
theorem ltL_irrefl (a : List Nat) : ¬ ltL a a := by unfold ltL; rw [cmpL_self]; omega
theorem ltL_trans : ∀ {a b c : List Nat}, ltL a b → ltL b c → ltL a c := by
  unfold ltL
  intro a
  induction a with
  | nil =>
    intro b c h1 h2
    cases b with
    | nil => simp [cmpL] at h1
    | cons y b =>
      cases c with
      | nil => simp [cmpL] at h2
      | cons z c => simp [cmpL]
  | cons x a ih =>
    intro b c h1 h2
    cases b with
    | nil => simp [cmpL] at h1
    | cons y b =>
      cases c with
      | nil => simp [cmpL] at h2
      | cons z c =>
        unfold cmpL at h1 h2 ⊢
        split at h1
        · split at h2
          · rw [if_pos (by omega)]; omega
          · split at h2
            · omega
            · rw [if_pos (by omega)]; omega
        · split at h1
          · omega
          · split at h2
            · rw [if_pos (by omega)]; omega
            · split at h2
              · omega
              · rw [if_neg (by omega), if_neg (by omega)]; exact ih h1 h2
theorem ltL_total (a b : List Nat) : ltL a b ∨ a = b ∨ ltL b a := by
  unfold ltL
  rcases cmpL_range a b with h | h | h
  · left; omega
  · right; left; exact cmpL_eq h
  · right; right; rw [cmpL_swap, h]; omega
theorem not_ltL {a b : List Nat} (h : ¬ ltL a b) (hne : a ≠ b) : ltL b a := by
  rcases ltL_total a b with h1 | h1 | h1
  · exact absurd h1 h
  · exact absurd h1 hne
  · exact h1
def SortedL (l : List (List Nat)) : Prop := l.Pairwise ltL
theorem sorted_uniq : ∀ {l m : List (List Nat)}, SortedL l → SortedL m → (∀ x, x ∈ l ↔ x ∈ m) → l = m := by
  intro l
  induction l with
  | nil =>
    intro m _ _ h
    cases m with
    | nil => rfl
    | cons y m => have := (h y).2 (by simp); simp at this
  | cons x l ih =>
    intro m h1 h2 h
    cases m with
    | nil => have := (h x).1 (by simp); simp at this
    | cons y m =>
      obtain ⟨a1, a2⟩ := List.pairwise_cons.1 h1
      obtain ⟨b1, b2⟩ := List.pairwise_cons.1 h2
      have hxy : x = y := by
        rcases List.mem_cons.1 ((h x).1 (by simp)) with e | e
        · exact e
        · rcases List.mem_cons.1 ((h y).2 (by simp)) with e' | e'
          · exact e'.symm
          · exact absurd (ltL_trans (a1 y e') (b1 x e)) (ltL_irrefl _)
      subst hxy
      rw [ih a2 b2 (fun z => ?_)]
      constructor
      · intro hz
        rcases List.mem_cons.1 ((h z).1 (by simp [hz])) with e | e
        · exact absurd (a1 z hz) (e ▸ ltL_irrefl _)
        · exact e
      · intro hz
        rcases List.mem_cons.1 ((h z).2 (by simp [hz])) with e | e
        · exact absurd (b1 z hz) (e ▸ ltL_irrefl _)
        · exact e
def dedupFrom (p : List Nat) : List (List Nat) → List (List Nat)
  | [] => []
  | x :: l => if x = p then dedupFrom x l else x :: dedupFrom x l
def dedupL : List (List Nat) → List (List Nat)
  | [] => []
  | x :: l => x :: dedupFrom x l
theorem dedupFrom_mem : ∀ (l : List (List Nat)) (p x : List Nat), (x = p ∨ x ∈ l) ↔ (x = p ∨ x ∈ dedupFrom p l) := by
  intro l
  induction l with
  | nil => intro p x; simp [dedupFrom]
  | cons y l ih =>
    intro p x
    unfold dedupFrom
    by_cases e : y = p
    · subst e
      rw [if_pos rfl, ← ih]
      simp
    · rw [if_neg e, List.mem_cons, List.mem_cons, ih]
theorem dedupL_mem (l : List (List Nat)) (x : List Nat) : x ∈ dedupL l ↔ x ∈ l := by
  cases l with
  | nil => rfl
  | cons y l => unfold dedupL; rw [List.mem_cons, List.mem_cons]; exact (dedupFrom_mem l y x).symm
theorem dedupFrom_sub : ∀ (l : List (List Nat)) (p x : List Nat), x ∈ dedupFrom p l → x ∈ l := by
  intro l
  induction l with
  | nil => intro p x h; simp [dedupFrom] at h
  | cons y l ih =>
    intro p x h
    unfold dedupFrom at h
    split at h
    · exact List.mem_cons_of_mem _ (ih _ _ h)
    · rcases List.mem_cons.1 h with e | e
      · rw [e]; simp
      · exact List.mem_cons_of_mem _ (ih _ _ e)
theorem dedupFrom_sorted : ∀ (l : List (List Nat)) (p : List Nat), (p :: l).Pairwise (fun a b => ¬ ltL b a) → (p :: dedupFrom p l).Pairwise ltL := by
  intro l
  induction l with
  | nil => intro p _; simp [dedupFrom]
  | cons y l ih =>
    intro p h
    obtain ⟨h1, h2⟩ := List.pairwise_cons.1 h
    obtain ⟨h3, h4⟩ := List.pairwise_cons.1 h2
    unfold dedupFrom
    by_cases e : y = p
    · subst e; rw [if_pos rfl]; exact ih y h2
    · rw [if_neg e]
      have hpy : ltL p y := not_ltL (h1 y (by simp)) e
      have hs := ih y h2
      obtain ⟨h5, h6⟩ := List.pairwise_cons.1 hs
      rw [List.pairwise_cons]
      refine ⟨fun z hz => ?_, hs⟩
      rcases List.mem_cons.1 hz with rfl | hz
      · exact hpy
      · exact ltL_trans hpy (h5 z hz)
theorem dedupL_sorted (l : List (List Nat)) (h : l.Pairwise (fun a b => ¬ ltL b a)) : SortedL (dedupL l) := by
  cases l with
  | nil => exact List.Pairwise.nil
  | cons y l => exact dedupFrom_sorted l y h
def aboveL (o : Option (List Nat)) (x : List Nat) : Prop := match o with | none => True | some y => ltL y x
instance (o : Option (List Nat)) (x : List Nat) : Decidable (aboveL o x) := by unfold aboveL; cases o <;> infer_instance
end Go.Proofs.YtddbjcfdmdbmkaaGreatDoor

namespace Go.Proofs.YtddbjcfdmdbmkaaGreatDoor

structure Win (win : Int) (evs : List Ev) (now : Int) (lo : Nat) : Prop where
  le : lo ≤ evs.length
  far : ∀ i, i < lo → ¬ now - (evAt evs i).time < win
  near : ∀ i, lo ≤ i → i < evs.length → now - (evAt evs i).time < win
def cntNear (win : Int) (evs : List Ev) (now : Int) : Nat := evs.countP fun e => decide (now - e.time < win)
theorem evAt_get {evs : List Ev} {i : Nat} (h : i < evs.length) : evAt evs i = evs[i] := by simp [evAt, List.getD, h]
theorem Win.cnt {win : Int} {evs : List Ev} {now : Int} {lo : Nat} (h : Win win evs now lo) : cntNear win evs now = evs.length - lo := by
  unfold cntNear
  conv => lhs; rw [← List.take_append_drop lo evs]
  rw [List.countP_append]
  have h1 : (evs.take lo).countP (fun e => decide (now - e.time < win)) = 0 := by
    rw [List.countP_eq_zero]
    intro e he
    obtain ⟨i, hi, rfl⟩ := List.getElem_of_mem he
    simp only [List.length_take] at hi
    have := h.far i (by omega)
    rw [evAt_get (by omega)] at this
    simpa using this
  have h2 : (evs.drop lo).countP (fun e => decide (now - e.time < win)) = (evs.drop lo).length := by
    rw [List.countP_eq_length]
    intro e he
    obtain ⟨i, hi, rfl⟩ := List.getElem_of_mem he
    simp only [List.length_drop] at hi
    have := h.near (lo + i) (by omega) (by omega)
    rw [evAt_get (by omega)] at this
    simpa using this
  rw [h1, h2, List.length_drop]; omega
def passedP (win : Int) (now : Int) : List Int → Nat
  | [] => 0
  | t :: l => if now - t < win then 0 else passedP win now l + 1
theorem passedP_le (win now : Int) (l : List Int) : passedP win now l ≤ l.length := by
  induction l with
  | nil => exact Nat.le_refl _
  | cons t l ih => unfold passedP; split <;> simp; omega
theorem passedP_far (win now : Int) : ∀ (l : List Int) (i : Nat), (h : i < l.length) → i < passedP win now l → ¬ now - l[i] < win := by
  intro l
  induction l with
  | nil => intro i h; simp at h
  | cons t l ih =>
    intro i h hp
    unfold passedP at hp
    split at hp
    · omega
    · cases i with
      | zero => assumption
      | succ i => exact ih i (by simpa using h) (by omega)
theorem passedP_at (win now : Int) : ∀ (l : List Int), (h : passedP win now l < l.length) → now - l[passedP win now l] < win := by
  intro l
  induction l with
  | nil => intro h; simp at h
  | cons t l ih =>
    intro h
    by_cases hc : now - t < win
    · have e : passedP win now (t :: l) = 0 := by unfold passedP; rw [if_pos hc]
      simp only [e, List.getElem_cons_zero]; exact hc
    · have e : passedP win now (t :: l) = passedP win now l + 1 := by
        show (if now - t < win then 0 else passedP win now l + 1) = _
        rw [if_neg hc]
      simp only [e, List.getElem_cons_succ]
      exact ih (by rw [e] at h; simpa using h)
theorem passedP_step (win now : Int) (l : List Int) (n : Nat) (hn : n < l.length) (hf : ∀ i, (h : i < n) → ¬ now - l[i]'(by omega) < win) (hat : now - l[n] < win) : passedP win now l = n := by
  have h1 : ¬ passedP win now l < n := fun h => hf _ h (passedP_at win now l (by omega))
  have h2 : ¬ n < passedP win now l := fun h => passedP_far win now l n hn h hat
  omega
theorem passedP_all (win now : Int) (l : List Int) (hf : ∀ i, (h : i < l.length) → ¬ now - l[i] < win) : passedP win now l = l.length := by
  have h1 : ¬ passedP win now l < l.length := fun h => hf _ h (passedP_at win now l h)
  have := passedP_le win now l
  omega
def timesP (evs : List Ev) (lo : Nat) : List Int := (evs.drop lo).map (·.time)
theorem timesP_len (evs : List Ev) (lo : Nat) : (timesP evs lo).length = evs.length - lo := by simp [timesP]
theorem timesP_get {evs : List Ev} {lo i : Nat} (h : i < (timesP evs lo).length) : (timesP evs lo)[i] = (evAt evs (lo + i)).time := by
  have h' : lo + i < evs.length := by rw [timesP_len] at h; omega
  simp [timesP, evAt_get h']
theorem timesP_drop (evs : List Ev) (lo k : Nat) : (timesP evs lo).drop k = timesP evs (lo + k) := by
  simp [timesP, ← List.map_drop]
theorem Win.later {win : Int} {evs : List Ev} {now later : Int} {lo : Nat} (h : Win win evs now lo) (hm : Mono evs) (hl : now ≤ later) : Win win evs later (lo + passedP win later (timesP evs lo)) := by
  have hp := passedP_le win later (timesP evs lo)
  rw [timesP_len] at hp
  have hle := h.le
  refine ⟨by omega, fun i hi => ?_, fun i h1 h2 => ?_⟩
  · by_cases hlo : i < lo
    · have := h.far i hlo; omega
    · have := passedP_far win later (timesP evs lo) (i - lo) (by rw [timesP_len]; omega) (by omega)
      rw [timesP_get, show lo + (i - lo) = i by omega] at this
      exact this
  · have := passedP_at win later (timesP evs lo) (by rw [timesP_len]; omega)
    rw [timesP_get] at this
    have := hm _ _ h1 h2
    omega
theorem Win.snoc {win : Int} {evs : List Ev} {e : Ev} {lo : Nat} (h : Win win evs e.time lo) (hw : 0 < win) : Win win (evs ++ [e]) e.time lo := by
  refine ⟨by have := h.le; simp; omega, fun i hi => ?_, fun i h1 h2 => ?_⟩
  · rw [evAt_app (by have := h.le; omega)]; exact h.far i hi
  · by_cases hi : i < evs.length
    · rw [evAt_app hi]; exact h.near i h1 hi
    · have : i = evs.length := by simp at h2; omega
      subst this
      rw [evAt_new]; omega
theorem Win.start (win now : Int) : Win win [] now 0 := ⟨Nat.le_refl _, fun i h => by omega, fun i _ h => by simp at h⟩
theorem timesP_snoc (evs : List Ev) (e : Ev) (lo : Nat) (h : lo ≤ evs.length) : timesP (evs ++ [e]) lo = timesP evs lo ++ [e.time] := by
  unfold timesP
  rw [List.drop_append_of_le_length h, List.map_append]; rfl
theorem Mono.snoc {evs : List Ev} {e : Ev} (h : Mono evs) (hl : evs = [] ∨ lastT evs ≤ e.time) : Mono (evs ++ [e]) := by
  intro i j hij hj
  simp only [List.length_append, List.length_cons, List.length_nil] at hj
  by_cases hj' : j < evs.length
  · rw [evAt_app hj', evAt_app (by omega)]; exact h i j hij hj'
  · have : j = evs.length := by omega
    subst this
    rw [evAt_new]
    by_cases hi : i < evs.length
    · rw [evAt_app hi]
      rcases hl with rfl | hl
      · simp at hi
      · have := h i (evs.length - 1) (by omega) (by omega)
        unfold lastT at hl
        omega
    · rw [show i = evs.length by omega, evAt_new]; exact Int.le_refl _
def feedFP (win : Int) (rate : Nat) (evs : List Ev) (now : Int) : Nat := if evs ≠ [] ∧ now < lastT evs then 7 else if rate < cntNear win evs now + 1 then 8 else 0
theorem feedF0 {win : Int} {rate : Nat} {evs : List Ev} {now : Int} (h : feedFP win rate evs now = 0) : (evs = [] ∨ lastT evs ≤ now) ∧ cntNear win evs now + 1 ≤ rate := by
  unfold feedFP at h
  split at h
  · simp at h
  · rename_i h1
    split at h
    · simp at h
    · refine ⟨?_, by omega⟩
      by_cases e : evs = []
      · exact .inl e
      · exact .inr (by
          have : ¬ now < lastT evs := fun h2 => h1 ⟨e, h2⟩
          omega)
end Go.Proofs.YtddbjcfdmdbmkaaGreatDoor

namespace Go.Proofs.YtddbjcfdmdbmkaaGreatDoor

theorem combs_spec : ∀ m lo k (t : List Nat), t ∈ combs lo m k ↔ t.Pairwise (· < ·) ∧ (∀ i ∈ t, lo ≤ i ∧ i < lo + m) ∧ t.length = k := by
  intro m
  induction m with
  | zero =>
    intro lo k t
    cases k with
    | zero => simp only [combs, List.mem_singleton]; constructor
              · rintro rfl; simp
              · rintro ⟨_, _, h⟩; exact List.length_eq_zero_iff.1 h
    | succ k =>
      simp only [combs, List.not_mem_nil, false_iff]
      rintro ⟨_, h, hl⟩
      cases t with
      | nil => simp at hl
      | cons i t => have := h i (by simp); omega
  | succ m ih =>
    intro lo k t
    cases k with
    | zero => simp only [combs, List.mem_singleton]; constructor
              · rintro rfl; simp
              · rintro ⟨_, _, h⟩; exact List.length_eq_zero_iff.1 h
    | succ k =>
      constructor
      · intro h
        have h' : t ∈ (combs (lo + 1) m k).map (lo :: ·) ++ combs (lo + 1) m (k + 1) := h
        rcases List.mem_append.1 h' with h | h
        · obtain ⟨u, hu, rfl⟩ := List.mem_map.1 h
          obtain ⟨h1, h2, h3⟩ := (ih _ _ _).1 hu
          refine ⟨List.pairwise_cons.2 ⟨fun j hj => by have := (h2 j hj).1; omega, h1⟩, fun i hi => ?_, by simp [h3]⟩
          rcases List.mem_cons.1 hi with rfl | hi
          · omega
          · have := h2 i hi; omega
        · obtain ⟨h1, h2, h3⟩ := (ih _ _ _).1 h
          exact ⟨h1, fun i hi => by have := h2 i hi; omega, h3⟩
      · rintro ⟨h1, h2, h3⟩
        have := combs_mem (m + 1) lo t h1 h2
        rwa [h3] at this
theorem combs_nodup : ∀ m lo k, (combs lo m k).Nodup := by
  intro m
  induction m with
  | zero => intro lo k; cases k <;> simp [combs]
  | succ m ih =>
    intro lo k
    cases k with
    | zero => simp [combs]
    | succ k =>
      show ((combs (lo + 1) m k).map (lo :: ·) ++ combs (lo + 1) m (k + 1)).Nodup
      rw [List.nodup_append]
      refine ⟨List.Pairwise.map _ (fun a b (hab : a ≠ b) he => hab (by simpa using he)) (ih _ _), ih _ _, fun a ha b hb e => ?_⟩
      obtain ⟨u, hu, rfl⟩ := List.mem_map.1 ha
      subst e
      have := ((combs_spec _ _ _ _).1 hb).2.1 lo (by simp)
      omega
theorem sorted_nodup {l : List (List Nat)} (h : SortedL l) : l.Nodup := by
  unfold List.Nodup
  refine List.Pairwise.imp ?_ h
  intro a b hab e
  rw [e] at hab
  exact ltL_irrefl b hab
theorem same_len {α : Type} [DecidableEq α] {l m : List α} (hl : l.Nodup) (hm : m.Nodup) (h : ∀ x, x ∈ l ↔ x ∈ m) : l.length = m.length := Nat.le_antisymm (nodup_len l m hl (fun x hx => (h x).1 hx)) (nodup_len m l hm (fun x hx => (h x).2 hx))
structure AnySt (evs : List Ev) (st : ASt) : Prop where
  fits : ∀ es, ∀ i, i < evs.length → st.fits es (evAt evs i) = true
  stops : ∀ es e, st.stops es e = false
theorem ext_any {evs : List Ev} {st : ASt} (h : AnySt evs st) : ∀ (suf : List Nat) (k : Nat) (pre : List Nat), ExtE evs pre (List.replicate k st) suf ↔ suf.length ≤ k ∧ (∀ i ∈ suf, i < evs.length) ∧ suf.Pairwise (· < ·) ∧ ∀ i ∈ suf, startP pre ≤ i := by
  intro suf
  induction suf with
  | nil => intro k pre; unfold ExtE; simp
  | cons i suf ih =>
    intro k pre
    cases k with
    | zero =>
      rw [List.replicate_zero]
      unfold ExtE
      simp
    | succ k =>
      rw [List.replicate_succ]
      unfold ExtE
      rw [ih]
      have hs : startP (pre ++ [i]) = i + 1 := by
        unfold startP
        rw [if_neg (by simp), last_snoc]
      rw [hs]
      constructor
      · rintro ⟨⟨g1, g2, _, _⟩, h1, h2, h3, h4⟩
        refine ⟨by simp; omega, fun j hj => ?_, List.pairwise_cons.2 ⟨fun j hj => by have := h4 j hj; omega, h3⟩, fun j hj => ?_⟩
        · rcases List.mem_cons.1 hj with rfl | hj
          · exact g2
          · exact h2 j hj
        · rcases List.mem_cons.1 hj with rfl | hj
          · exact g1
          · have := h4 j hj; omega
      · rintro ⟨h1, h2, h3, h4⟩
        obtain ⟨h5, h6⟩ := List.pairwise_cons.1 h3
        refine ⟨⟨h4 i (by simp), h2 i (by simp), h.fits _ _ (h2 i (by simp)), .inr (fun j _ _ => h.stops _ _)⟩, by simp at h1; omega, fun j hj => h2 j (by simp [hj]), h6, fun j hj => ?_⟩
        have := h5 j hj; omega
theorem any_matches {evs : List Ev} {e : Ev} {st : ASt} {k : Nat} {win : Int} (h : AnySt (evs ++ [e]) st) (hk : 1 ≤ k) (hnear : ∀ i, i < (evs ++ [e]).length → lastT (evs ++ [e]) - (evAt (evs ++ [e]) i).time < win) {ys : List (List Nat)} (hs : SortedL ys) (hm : ∀ t, t ∈ ys ↔ MatchOK [List.replicate k st] win (evs ++ [e]) t) : ys.length = cho evs.length (k - 1) := by
  have hlen : (evs ++ [e]).length = evs.length + 1 := by simp
  have key : ∀ t, t ∈ ys ↔ t ∈ (combs 0 evs.length (k - 1)).map (· ++ [evs.length]) := by
    intro t
    rw [hm]
    constructor
    · rintro ⟨i, hi, ⟨h1, h2, h3, h4⟩, _⟩
      have hi0 : i = 0 := by simpa using hi
      subst hi0
      have h2' : ExtE (evs ++ [e]) [] (List.replicate k st) t := h2
      have h3' : t.length = (List.replicate k st).length := h3
      rw [List.length_replicate] at h3'
      obtain ⟨_, g2, g3, _⟩ := (ext_any h t k []).1 h2'
      obtain ⟨u, x, rfl⟩ : ∃ u x, t = u ++ [x] := ⟨t.dropLast, t.getLast h1, (List.dropLast_concat_getLast h1).symm⟩
      rw [last_snoc, hlen] at h4
      have hx : x = evs.length := by omega
      subst hx
      refine List.mem_map.2 ⟨u, (combs_spec _ _ _ _).2 ⟨(List.pairwise_append.1 g3).1, fun j hj => ?_, by simp at h3'; omega⟩, rfl⟩
      have := (List.pairwise_append.1 g3).2.2 j hj evs.length (by simp)
      omega
    · intro ht
      obtain ⟨u, hu, rfl⟩ := List.mem_map.1 ht
      obtain ⟨g1, g2, g3⟩ := (combs_spec _ _ _ _).1 hu
      refine ⟨0, by simp, ⟨by simp, ?_, ?_, ?_⟩, ?_⟩
      · show ExtE (evs ++ [e]) [] (List.replicate k st) _
        rw [ext_any h]
        refine ⟨by simp; omega, fun i hi => ?_, List.pairwise_append.2 ⟨g1, by simp, fun a ha b hb => ?_⟩, fun i _ => Nat.zero_le _⟩
        · rcases List.mem_append.1 hi with hi | hi
          · have := g2 i hi; omega
          · rw [List.mem_singleton.1 hi]; omega
        · rw [List.mem_singleton.1 hb]; have := g2 a ha; omega
      · show _ = (List.replicate k st).length
        rw [List.length_replicate]; simp; omega
      · rw [last_snoc, hlen]
      · unfold firstT
        refine hnear _ ?_
        cases u with
        | nil => simp
        | cons a u => have := g2 a (by simp); simp; omega
  rw [same_len (sorted_nodup hs) (List.Pairwise.map _ (fun a b (hab : a ≠ b) he => hab (by simpa using he)) (combs_nodup _ _ _)) key, List.length_map, combs_len]
theorem any_runs {evs : List Ev} {st : ASt} {k : Nat} {win now : Int} (h : AnySt evs st) (hnear : ∀ i, i < evs.length → now - (evAt evs i).time < win) {rl : List (Nat × List Nat)} (hr : Kept1 [List.replicate k st] win evs now rl) : rl.length = sumCho evs.length (k - 1) := by
  have hnd : (allRuns [List.replicate k st] 0 evs.length).Nodup := by
    unfold allRuns
    refine nodup_flatMap List.nodup_range (fun i _ => nodup_flatMap List.nodup_range (fun j _ => List.Pairwise.map _ (fun a b (hab : a ≠ b) he => hab (by simpa using he)) (combs_nodup _ _ _)) (fun a _ b _ x hx hy => ?_)) (fun a _ b _ x hx hy => ?_)
    · obtain ⟨u, hu, rfl⟩ := List.mem_map.1 hx
      obtain ⟨v, hv, e⟩ := List.mem_map.1 hy
      have e2 : v = u := by simpa using e
      have h1 := ((combs_spec _ _ _ _).1 hu).2.2
      have h2 := ((combs_spec _ _ _ _).1 hv).2.2
      rw [e2] at h2; omega
    · obtain ⟨j, _, hx⟩ := List.mem_flatMap.1 hx
      obtain ⟨j', _, hy⟩ := List.mem_flatMap.1 hy
      obtain ⟨u, _, rfl⟩ := List.mem_map.1 hx
      obtain ⟨v, _, e⟩ := List.mem_map.1 hy
      have : b = a := by have := congrArg Prod.fst e; simpa using this
      exact this.symm
  rw [same_len hr.nodup hnd (fun r => ?_), allRuns_len]
  · simp
  rw [hr.mem]
  obtain ⟨i, t⟩ := r
  unfold allRuns
  simp only [List.length_singleton, List.mem_flatMap, List.mem_range, List.mem_map, Prod.mk.injEq]
  constructor
  · rintro ⟨hi, ⟨h1, h2, st', h3, _⟩, _⟩
    have hi0 : i = 0 := by omega
    subst hi0
    have h2' : ExtE evs [] (List.replicate k st) t := h2
    obtain ⟨g1, g2, g3, _⟩ := (ext_any h t k []).1 h2'
    have h3' : (List.replicate k st)[t.length]? = some st' := h3
    have hlt : t.length < k := by
      have := (List.getElem?_eq_some_iff.1 h3').1
      simpa using this
    have hpos : 0 < t.length := List.length_pos_iff.2 h1
    refine ⟨0, by omega, t.length - 1, ?_, t, (combs_spec _ _ _ _).2 ⟨g3, fun j hj => ?_, by omega⟩, rfl, rfl⟩
    · show t.length - 1 < (List.replicate k st).length - 1
      rw [List.length_replicate]; omega
    · have := g2 j hj; omega
  · rintro ⟨i', hi', j, hj, u, hu, rfl, rfl⟩
    have hi0 : i' = 0 := by omega
    subst hi0
    have hj' : j < (List.replicate k st).length - 1 := hj
    rw [List.length_replicate] at hj'
    obtain ⟨g1, g2, g3⟩ := (combs_spec _ _ _ _).1 hu
    have hne : u ≠ [] := by intro e; rw [e] at g3; simp at g3
    refine ⟨by omega, ⟨hne, ?_, st, ?_, fun _ _ _ => h.stops _ _⟩, ?_⟩
    · show ExtE evs [] (List.replicate k st) u
      rw [ext_any h]
      exact ⟨by omega, fun i hi => by have := g2 i hi; omega, g1, fun i _ => Nat.zero_le _⟩
    · show (List.replicate k st)[u.length]? = some st
      rw [List.getElem?_replicate, if_pos (by omega)]
    · unfold firstT
      refine hnear _ ?_
      cases u with
      | nil => exact absurd rfl hne
      | cons a u => have := g2 a (by simp); simp; omega
end Go.Proofs.YtddbjcfdmdbmkaaGreatDoor

namespace Go.Proofs.YtddbjcfdmdbmkaaGreatDoor

def clkT (W : Int) (R : Nat) (ts : List Int) (t : Int) : Int := if R ≤ ts.length ∧ t - ts.getD (ts.length - R) 0 < W then ts.getD (ts.length - R) 0 + W else t
def evM (n : Nat) (time : Int) : Ev := ⟨time + (n % 4 : Nat), (n / 4 % 3 : Nat), ((n / 12 % 5 : Nat) : Int) - 1, ((n / 60 % 4 : Nat) : Int) - 1, (n / 240 % 4 : Nat)⟩
def nowOf (evs : List Ev) : Int := if evs = [] then 0 else lastT evs
def clkE (W : Int) (R : Nat) (evs : List Ev) (n : Nat) : Ev := { evM n 0 with time := clkT W R (evs.map (·.time)) (nowOf evs + (n % 4 : Nat)) }
def clkStep (W : Int) (R : Nat) (evs : List Ev) (n : Nat) : List Ev := evs ++ [clkE W R evs n]
def clkEvs (W : Int) (R : Nat) (ns : List Nat) : List Ev := ns.foldl (clkStep W R) []
theorem clk_snoc (W : Int) (R : Nat) (ns : List Nat) (n : Nat) : clkEvs W R (ns ++ [n]) = clkEvs W R ns ++ [clkE W R (clkEvs W R ns) n] := by
  unfold clkEvs
  rw [List.foldl_append]; rfl
theorem clk_len0 (W : Int) (R : Nat) : ∀ (ns : List Nat) (acc : List Ev), (ns.foldl (clkStep W R) acc).length = acc.length + ns.length := by
  intro ns
  induction ns with
  | nil => intro acc; rfl
  | cons n ns ih => intro acc; rw [List.foldl_cons, ih]; simp [clkStep]; omega
theorem clk_len (W : Int) (R : Nat) (ns : List Nat) : (clkEvs W R ns).length = ns.length := by
  unfold clkEvs; rw [clk_len0]; simp
theorem clk_pre (W : Int) (R : Nat) : ∀ (ns : List Nat) (acc : List Ev), (ns.foldl (clkStep W R) acc).take acc.length = acc := by
  intro ns
  induction ns with
  | nil => intro acc; simp
  | cons n ns ih =>
    intro acc
    rw [List.foldl_cons]
    have h := ih (clkStep W R acc n)
    have h2 := congrArg (List.take acc.length) h
    rw [List.take_take] at h2
    have e1 : min acc.length (clkStep W R acc n).length = acc.length := by simp [clkStep]
    rw [e1] at h2
    rw [h2]
    simp [clkStep]
theorem clk_take (W : Int) (R : Nat) (ns : List Nat) (i : Nat) (hi : i ≤ ns.length) : (clkEvs W R ns).take i = clkEvs W R (ns.take i) := by
  have h : clkEvs W R ns = (ns.drop i).foldl (clkStep W R) (clkEvs W R (ns.take i)) := by
    unfold clkEvs
    rw [← List.foldl_append, List.take_append_drop]
  have hl : (clkEvs W R (ns.take i)).length = i := by rw [clk_len]; simp; omega
  have := clk_pre W R (ns.drop i) (clkEvs W R (ns.take i))
  rw [hl, ← h] at this
  exact this
structure ClkOK (W : Int) (evs : List Ev) : Prop where
  mono : Mono evs
  low : ∀ i, i < evs.length → 0 ≤ (evAt evs i).time
  high : ∀ i, i < evs.length → (evAt evs i).time ≤ (W + 3) * (i + 1)
theorem ClkOK.now {W : Int} {evs : List Ev} (h : ClkOK W evs) (hW : 0 ≤ W) : 0 ≤ nowOf evs ∧ nowOf evs ≤ (W + 3) * evs.length := by
  unfold nowOf lastT
  by_cases he : evs = []
  · subst he; simp
  · rw [if_neg he]
    have hl : 0 < evs.length := by cases evs with | nil => exact absurd rfl he | cons a l => simp
    have h1 := h.low (evs.length - 1) (by omega)
    have h2 := h.high (evs.length - 1) (by omega)
    have e : ((evs.length - 1 : Nat) : Int) + 1 = evs.length := by omega
    rw [e] at h2
    exact ⟨h1, h2⟩
theorem times_getD {evs : List Ev} {i : Nat} (h : i < evs.length) : (evs.map (·.time)).getD i 0 = (evAt evs i).time := by
  unfold evAt
  simp [List.getD, h]
theorem nowOf_max {evs : List Ev} {W : Int} (h : ClkOK W evs) {i : Nat} (hi : i < evs.length) : (evAt evs i).time ≤ nowOf evs := by
  unfold nowOf lastT
  have he : evs ≠ [] := by rintro rfl; simp at hi
  rw [if_neg he]
  exact h.mono i (evs.length - 1) (by omega) (by omega)
theorem clkT_low {W : Int} {R : Nat} {evs : List Ev} {t : Int} : t ≤ clkT W R (evs.map (·.time)) t := by
  unfold clkT
  split
  · rename_i h; omega
  · exact Int.le_refl _
theorem clkT_high {W : Int} (hW : 0 ≤ W) {R : Nat} (hR : 1 ≤ R) {evs : List Ev} (h : ClkOK W evs) {n : Nat} : clkT W R (evs.map (·.time)) (nowOf evs + (n % 4 : Nat)) ≤ nowOf evs + (W + 3) := by
  unfold clkT
  split
  · rename_i hc
    rw [List.length_map] at hc
    rw [List.length_map, times_getD (by omega)]
    have := nowOf_max h (i := evs.length - R) (by omega)
    omega
  · omega
theorem ClkOK.next {W : Int} (hW : 0 ≤ W) {R : Nat} (hR : 1 ≤ R) {evs : List Ev} (h : ClkOK W evs) (n : Nat) : ClkOK W (evs ++ [clkE W R evs n]) := by
  have hn := h.now hW
  have hlow : nowOf evs + (n % 4 : Nat) ≤ (clkE W R evs n).time := clkT_low
  have hhigh : (clkE W R evs n).time ≤ nowOf evs + (W + 3) := clkT_high hW hR h
  refine ⟨h.mono.snoc ?_, fun i hi => ?_, fun i hi => ?_⟩
  · by_cases he : evs = []
    · exact .inl he
    · right
      have e : nowOf evs = lastT evs := by unfold nowOf; rw [if_neg he]
      omega
  · by_cases hi' : i < evs.length
    · rw [evAt_app hi']; exact h.low i hi'
    · have : i = evs.length := by simp at hi; omega
      subst this
      rw [evAt_new]; omega
  · by_cases hi' : i < evs.length
    · rw [evAt_app hi']; exact h.high i hi'
    · have : i = evs.length := by simp at hi; omega
      subst this
      rw [evAt_new, Int.mul_add]; omega
theorem clk_ok {W : Int} (hW : 0 ≤ W) {R : Nat} (hR : 1 ≤ R) : ∀ (ns : List Nat) (acc : List Ev), ClkOK W acc → ClkOK W (ns.foldl (clkStep W R) acc) := by
  intro ns
  induction ns with
  | nil => intro acc h; exact h
  | cons n ns ih => intro acc h; exact ih _ (h.next hW hR n)
theorem clk_all {W : Int} (hW : 0 ≤ W) {R : Nat} (hR : 1 ≤ R) (ns : List Nat) : ClkOK W (clkEvs W R ns) :=
  clk_ok hW hR ns [] ⟨fun i j _ h => by simp at h, fun i h => by simp at h, fun i h => by simp at h⟩
theorem clk_free {W : Int} (hW : 0 ≤ W) {R : Nat} (hR : 1 ≤ R) {evs : List Ev} (h : ClkOK W evs) (n : Nat) : feedFP W R evs (clkE W R evs n).time = 0 := by
  have hlow : nowOf evs + (n % 4 : Nat) ≤ (clkE W R evs n).time := clkT_low
  unfold feedFP
  rw [if_neg, if_neg]
  · intro hc
    by_cases hl : evs.length < R
    · have : cntNear W evs (clkE W R evs n).time ≤ evs.length := List.countP_le_length
      omega
    · have hfar : ∀ i, i ≤ evs.length - R → ¬ (clkE W R evs n).time - (evAt evs i).time < W := by
        intro i hi
        have h1 := h.mono i (evs.length - R) hi (by omega)
        have h2 : ¬ (clkE W R evs n).time - (evAt evs (evs.length - R)).time < W := by
          show ¬ clkT W R (evs.map (·.time)) (nowOf evs + (n % 4 : Nat)) - _ < W
          unfold clkT
          rw [List.length_map, times_getD (by omega)]
          split
          · omega
          · rename_i hc; omega
        omega
      have hcnt : cntNear W evs (clkE W R evs n).time ≤ R - 1 := by
        unfold cntNear
        rw [← List.take_append_drop (evs.length - R + 1) evs, List.countP_append]
        have z : (evs.take (evs.length - R + 1)).countP (fun e => decide ((clkE W R evs n).time - e.time < W)) = 0 := by
          rw [List.countP_eq_zero]
          intro e he
          obtain ⟨i, hi, rfl⟩ := List.mem_iff_getElem.1 he
          rw [List.length_take] at hi
          have := hfar i (by omega)
          rw [evAt_get (by omega)] at this
          rw [List.getElem_take]
          simpa using this
        rw [List.take_append_drop, z]
        have := List.countP_le_length (p := fun e => decide ((clkE W R evs n).time - e.time < W)) (l := evs.drop (evs.length - R + 1))
        rw [List.length_drop] at this
        omega
      omega
  · rintro ⟨he, h2⟩
    have e : nowOf evs = lastT evs := by unfold nowOf; rw [if_neg he]
    omega
theorem clk_at {W : Int} {R : Nat} (ns : List Nat) {i : Nat} (hi : i < ns.length) : evAt (clkEvs W R ns) i = clkE W R (clkEvs W R (ns.take i)) ns[i] ∧ clkEvs W R (ns.take (i + 1)) = clkEvs W R (ns.take i) ++ [evAt (clkEvs W R ns) i] := by
  have h1 : ns.take (i + 1) = ns.take i ++ [ns[i]] := by rw [List.take_succ_eq_append_getElem hi]
  have h2 := clk_take W R ns (i + 1) (by omega)
  have h3 : evAt (clkEvs W R ns) i = clkE W R (clkEvs W R (ns.take i)) ns[i] := by
    have hl : i < (clkEvs W R ns).length := by rw [clk_len]; exact hi
    rw [evAt_get hl]
    have h4 : ((clkEvs W R ns).take (i + 1))[i]? = some (clkEvs W R ns)[i] := by
      rw [List.getElem?_take, if_pos (by omega), List.getElem?_eq_getElem hl]
    rw [h2, h1, clk_snoc] at h4
    have hl2 : (clkEvs W R (ns.take i)).length = i := by rw [clk_len]; simp; omega
    rw [List.getElem?_append_right (by omega)] at h4
    simp [hl2] at h4
    exact h4.symm
  exact ⟨h3, by rw [h3, h1, clk_snoc]⟩
theorem clk_feed {W : Int} (hW : 0 ≤ W) {R : Nat} (hR : 1 ≤ R) (ns : List Nat) {i : Nat} (hi : i < ns.length) : feedFP W R (clkEvs W R (ns.take i)) (evAt (clkEvs W R ns) i).time = 0 := by
  rw [(clk_at ns hi).1]
  exact clk_free hW hR (clk_all hW hR _) _
end Go.Proofs.YtddbjcfdmdbmkaaGreatDoor
