import Derived.Test.YtddbjcfdmdbmkaaGreatDoorB01
set_option linter.unusedVariables false
set_option linter.unusedSimpArgs false
namespace Go.Proofs.YtddbjcfdmdbmkaaGreatDoor

def combs : Nat → Nat → Nat → List (List Nat)
  | _, _, 0 => [[]]
  | _, 0, _ + 1 => []
  | lo, m + 1, k + 1 => (combs (lo + 1) m k).map (lo :: ·) ++ combs (lo + 1) m (k + 1)
theorem combs_len : ∀ m lo k, (combs lo m k).length = cho m k := by
  intro m
  induction m with
  | zero => intro lo k; cases k <;> simp [combs, cho]
  | succ m ih => intro lo k; cases k <;> simp [combs, cho, ih]
theorem combs_mem : ∀ m lo (t : List Nat), t.Pairwise (· < ·) → (∀ i ∈ t, lo ≤ i ∧ i < lo + m) → t ∈ combs lo m t.length := by
  intro m
  induction m with
  | zero =>
    intro lo t _ h
    cases t with
    | nil => simp [combs]
    | cons i t => have := h i (by simp); omega
  | succ m ih =>
    intro lo t hp h
    cases t with
    | nil => simp [combs]
    | cons i t =>
      obtain ⟨h1, h2⟩ := List.pairwise_cons.1 hp
      show i :: t ∈ (combs (lo + 1) m t.length).map (lo :: ·) ++ combs (lo + 1) m (t.length + 1)
      rw [List.mem_append]
      have hi := h i (by simp)
      by_cases e : i = lo
      · left
        subst e
        refine List.mem_map.2 ⟨t, ih (i + 1) t h2 (fun j hj => ?_), rfl⟩
        have := h1 j hj; have := h j (by simp [hj]); omega
      · right
        refine ih (lo + 1) (i :: t) hp (fun j hj => ?_)
        have := h j hj
        rcases List.mem_cons.1 hj with rfl | hj
        · omega
        · have := h1 j hj; omega
theorem nodup_len {α : Type} [DecidableEq α] : ∀ (l m : List α), l.Nodup → (∀ x ∈ l, x ∈ m) → l.length ≤ m.length := by
  intro l
  induction l with
  | nil => intro m _ _; exact Nat.zero_le _
  | cons x l ih =>
    intro m hn h
    obtain ⟨h1, h2⟩ := List.nodup_cons.1 hn
    have hx : x ∈ m := h x (by simp)
    have := ih (m.erase x) h2 (fun y hy => by
      have hne : y ≠ x := fun e => h1 (by rw [← e]; exact hy)
      rw [List.mem_erase_of_ne hne]
      exact h y (by simp [hy]))
    rw [List.length_erase_of_mem hx] at this
    have : 0 < m.length := List.length_pos_of_mem hx
    simp; omega
theorem cho_mono {m m' : Nat} (h : m ≤ m') (k : Nat) : cho m k ≤ cho m' k := by
  induction h with
  | refl => exact Nat.le_refl _
  | step h ih =>
    refine Nat.le_trans ih ?_
    cases k with
    | zero => simp [cho]
    | succ k => simp [cho]
theorem sumCho_mono {m m' : Nat} (h : m ≤ m') : ∀ k, sumCho m k ≤ sumCho m' k := by
  intro k
  induction k with
  | zero => exact Nat.le_refl _
  | succ k ih => exact Nat.add_le_add ih (cho_mono h _)
theorem ext_rising {evs : List Ev} {path : List ASt} : ∀ {t : List Nat}, ExtE evs [] path t → t.Pairwise (· < ·) := by
  intro t
  induction hn : t.length generalizing t with
  | zero => intro _; rw [List.length_eq_zero_iff.1 hn]; exact List.Pairwise.nil
  | succ n ih =>
    intro h
    rcases List.eq_nil_or_concat t with h0 | ⟨r, k, h0⟩
    · rw [h0] at hn; simp at hn
    · have h0' : t = r ++ [k] := by simpa using h0
      subst h0'
      have hr := ih (t := r) (by simpa using hn) (ext_snoc.1 h).1
      rw [List.pairwise_append]
      refine ⟨hr, List.pairwise_singleton _ _, fun a ha b hb => ?_⟩
      rw [List.mem_singleton.1 hb]
      rcases ext_last h with h1 | h1
      · rw [h1] at ha; simp at ha
      · rcases List.eq_nil_or_concat r with h2 | ⟨q, j, h2⟩
        · rw [h2] at ha; simp at ha
        · have h2' : r = q ++ [j] := by simpa using h2
          subst h2'
          rw [last_snoc] at h1
          rcases List.mem_append.1 ha with ha | ha
          · have := (List.pairwise_append.1 hr).2.2 a ha j (by simp); omega
          · rw [List.mem_singleton.1 ha]; exact h1
def Mono (evs : List Ev) : Prop := ∀ i j, i ≤ j → j < evs.length → (evAt evs i).time ≤ (evAt evs j).time
theorem head_le {t : List Nat} (h : t.Pairwise (· < ·)) : ∀ i ∈ t, t.headD 0 ≤ i := by
  intro i hi
  cases t with
  | nil => simp at hi
  | cons j t =>
    rw [List.headD_cons]
    rcases List.mem_cons.1 hi with rfl | hi
    · exact Nat.le_refl _
    · exact Nat.le_of_lt ((List.pairwise_cons.1 h).1 i hi)
theorem run_window {evs : List Ev} {path : List ASt} {t : List Nat} {now win : Int} (h : RunP evs path t) (hm : Mono evs) (hn : now - firstT evs t < win) : ∀ i ∈ t, now - (evAt evs i).time < win := by
  intro i hi
  have h1 := head_le (ext_rising h.2.1) i hi
  have h2 := hm _ _ h1 (run_lt h i hi)
  unfold firstT at hn
  omega
def allRuns (paths : List (List ASt)) (lo m : Nat) : List (Nat × List Nat) := (List.range paths.length).flatMap fun i => (List.range ((pathAt paths i).length - 1)).flatMap fun k => (combs lo m (k + 1)).map fun t => (i, t)
theorem sum_cho (m k : Nat) : ((List.range k).map fun j => cho m (j + 1)).sum = sumCho m k := by
  induction k with
  | zero => rfl
  | succ k ih => rw [List.range_succ, List.map_append, List.sum_append, ih]; simp [sumCho]
theorem allRuns_len (paths : List (List ASt)) (lo m : Nat) : (allRuns paths lo m).length = (paths.map fun p => sumCho m (p.length - 1)).sum := by
  unfold allRuns
  rw [List.length_flatMap]
  have h : ∀ i, ((List.range ((pathAt paths i).length - 1)).flatMap fun k => (combs lo m (k + 1)).map fun t => (i, t)).length = sumCho m ((pathAt paths i).length - 1) := by
    intro i
    rw [List.length_flatMap, ← sum_cho]
    congr 1
    exact List.map_congr_left fun k _ => by rw [List.length_map, combs_len]
  rw [List.map_congr_left (fun i _ => h i)]
  congr 1
  apply List.ext_getElem
  · simp
  · intro i h1 h2
    simp at h1 h2
    simp [pathAt, h1]
def boundA (rate : Nat) (paths : List (List ASt)) : Nat := (paths.map fun p => sumCho rate (p.length - 1)).sum
theorem sum_le_sum {α : Type} {f g : α → Nat} : ∀ (l : List α), (∀ x ∈ l, f x ≤ g x) → (l.map f).sum ≤ (l.map g).sum := by
  intro l
  induction l with
  | nil => intro _; exact Nat.le_refl _
  | cons x l ih => intro h; simp only [List.map_cons, List.sum_cons]; exact Nat.add_le_add (h x (by simp)) (ih fun y hy => h y (by simp [hy]))
theorem Kept1.bound {paths : List (List ASt)} {win : Int} {evs : List Ev} {now : Int} {rl : List (Nat × List Nat)} (h : Kept1 paths win evs now rl) (hm : Mono evs) {lo rate : Nat} (hlo : ∀ i, i < evs.length → now - (evAt evs i).time < win → lo ≤ i) (hr : evs.length - lo ≤ rate) : rl.length ≤ boundA rate paths := by
  have h1 : rl.length ≤ (allRuns paths lo (evs.length - lo)).length := by
    refine nodup_len _ _ h.nodup (fun r hr => ?_)
    obtain ⟨a, b, c⟩ := (h.mem r).1 hr
    unfold allRuns
    rw [List.mem_flatMap]
    refine ⟨r.1, List.mem_range.2 a, List.mem_flatMap.2 ⟨r.2.length - 1, List.mem_range.2 ?_, List.mem_map.2 ⟨r.2, ?_, rfl⟩⟩⟩
    · have := run_len b
      have : 0 < r.2.length := List.length_pos_iff.2 b.1
      omega
    · have h0 : 0 < r.2.length := List.length_pos_iff.2 b.1
      rw [show r.2.length - 1 + 1 = r.2.length by omega]
      refine combs_mem _ _ _ (ext_rising b.2.1) (fun i hi => ?_)
      have := run_lt b i hi
      have := hlo i this (run_window b hm c i hi)
      omega
  rw [allRuns_len] at h1
  exact Nat.le_trans h1 (sum_le_sum _ fun p _ => sumCho_mono hr _)
end Go.Proofs.YtddbjcfdmdbmkaaGreatDoor

namespace Go.Proofs.YtddbjcfdmdbmkaaGreatDoor

def itsP (evs : List Ev) (win : Int) (st : ASt) (t : List Nat) : List Nat := (List.range evs.length).filter fun i => decide (startP t ≤ i) && decide (lastT evs - (evAt evs i).time < win) && st.fits (evsOf evs t) (evAt evs i) && decide (t = [] ∨ freeP evs st t i)
theorem its_mem {evs : List Ev} {win : Int} {st : ASt} {t : List Nat} {i : Nat} : i ∈ itsP evs win st t ↔ goodP evs st t i ∧ lastT evs - (evAt evs i).time < win := by
  unfold itsP goodP
  rw [List.mem_filter, List.mem_range]
  simp only [Bool.and_eq_true, decide_eq_true_eq]
  exact ⟨fun ⟨a, ⟨⟨b, c⟩, d⟩, e⟩ => ⟨⟨b, a, d, e⟩, c⟩, fun ⟨⟨b, a, d, e⟩, c⟩ => ⟨a, ⟨⟨b, c⟩, d⟩, e⟩⟩
theorem its_nodup (evs : List Ev) (win : Int) (st : ASt) (t : List Nat) : (itsP evs win st t).Nodup := List.Pairwise.filter _ List.nodup_range
def lookRuns (evs : List Ev) (win : Int) : List ASt → List Nat → List (List Nat)
  | [], _ => []
  | st :: rest, t => (if t ≠ [] ∧ freeP evs st t evs.length then [t] else []) ++ (itsP evs win st t).flatMap fun i => lookRuns evs win rest (t ++ [i])
def lookMatches (evs : List Ev) (win : Int) : List ASt → List Nat → List (List Nat)
  | [], t => if t.getLastD 0 + 1 = evs.length then [t] else []
  | st :: rest, t => (itsP evs win st t).flatMap fun i => lookMatches evs win rest (t ++ [i])
def NearAll (evs : List Ev) (win : Int) (t : List Nat) : Prop := ∀ i ∈ t, lastT evs - (evAt evs i).time < win
theorem lookRuns_mem {evs : List Ev} {win : Int} : ∀ (rest : List ASt) (pre t : List Nat), t ∈ lookRuns evs win rest pre ↔ ∃ suf, t = pre ++ suf ∧ t ≠ [] ∧ ExtE evs pre rest suf ∧ NearAll evs win suf ∧ ∃ st, rest[suf.length]? = some st ∧ freeP evs st t evs.length := by
  intro rest
  induction rest with
  | nil => intro pre t; simp [lookRuns]
  | cons st rest ih =>
    intro pre t
    unfold lookRuns
    rw [List.mem_append, List.mem_flatMap]
    constructor
    · rintro (h | ⟨i, hi, h⟩)
      · split at h
        · rename_i hc
          rw [List.mem_singleton.1 h]
          exact ⟨[], by simp, hc.1, trivial, fun i hi => by simp at hi, st, rfl, hc.2⟩
        · simp at h
      · obtain ⟨suf, rfl, h0, h1, h2, st', h3, h4⟩ := (ih _ _).1 h
        obtain ⟨hg, hn⟩ := its_mem.1 hi
        refine ⟨i :: suf, by simp, h0, ⟨hg, h1⟩, fun j hj => ?_, st', by simpa using h3, h4⟩
        rcases List.mem_cons.1 hj with rfl | hj
        · exact hn
        · exact h2 j hj
    · rintro ⟨suf, rfl, h0, h1, h2, st', h3, h4⟩
      cases suf with
      | nil =>
        left
        simp only [List.append_nil] at *
        simp at h3
        subst h3
        rw [if_pos ⟨h0, h4⟩]; simp
      | cons i suf =>
        right
        refine ⟨i, its_mem.2 ⟨h1.1, h2 i (by simp)⟩, (ih _ _).2 ⟨suf, by simp, h0, h1.2, fun j hj => h2 j (by simp [hj]), st', by simpa using h3, by simpa using h4⟩⟩
theorem lookMatches_mem {evs : List Ev} {win : Int} : ∀ (rest : List ASt) (pre t : List Nat), t ∈ lookMatches evs win rest pre ↔ ∃ suf, t = pre ++ suf ∧ ExtE evs pre rest suf ∧ NearAll evs win suf ∧ suf.length = rest.length ∧ t.getLastD 0 + 1 = evs.length := by
  intro rest
  induction rest with
  | nil =>
    intro pre t
    unfold lookMatches
    constructor
    · intro h
      split at h
      · rw [List.mem_singleton.1 h]; exact ⟨[], by simp, trivial, fun i hi => by simp at hi, rfl, by assumption⟩
      · simp at h
    · rintro ⟨suf, rfl, _, _, h1, h2⟩
      have : suf = [] := List.length_eq_zero_iff.1 h1
      subst this
      simp only [List.append_nil] at *
      rw [if_pos h2]; simp
  | cons st rest ih =>
    intro pre t
    unfold lookMatches
    rw [List.mem_flatMap]
    constructor
    · rintro ⟨i, hi, h⟩
      obtain ⟨suf, rfl, h1, h2, h3, h4⟩ := (ih _ _).1 h
      obtain ⟨hg, hn⟩ := its_mem.1 hi
      refine ⟨i :: suf, by simp, ⟨hg, h1⟩, fun j hj => ?_, by simp [h3], h4⟩
      rcases List.mem_cons.1 hj with rfl | hj
      · exact hn
      · exact h2 j hj
    · rintro ⟨suf, rfl, h1, h2, h3, h4⟩
      cases suf with
      | nil => simp at h3
      | cons i suf => exact ⟨i, its_mem.2 ⟨h1.1, h2 i (by simp)⟩, (ih _ _).2 ⟨suf, by simp, h1.2, fun j hj => h2 j (by simp [hj]), by simpa using h3, by simpa using h4⟩⟩
theorem nodup_flatMap {α β : Type} {f : α → List β} : ∀ {l : List α}, l.Nodup → (∀ a ∈ l, (f a).Nodup) → (∀ a ∈ l, ∀ b ∈ l, ∀ x, x ∈ f a → x ∈ f b → a = b) → (l.flatMap f).Nodup := by
  intro l
  induction l with
  | nil => intros; simp
  | cons a l ih =>
    intro h1 h2 h3
    obtain ⟨ha, hl⟩ := List.nodup_cons.1 h1
    rw [List.flatMap_cons, List.nodup_append]
    refine ⟨h2 a (by simp), ih hl (fun b hb => h2 b (by simp [hb])) (fun b hb c hc => h3 b (by simp [hb]) c (by simp [hc])), fun x hx y hy e => ?_⟩
    subst e
    obtain ⟨b, hb, hxb⟩ := List.mem_flatMap.1 hy
    have := h3 a (by simp) b (by simp [hb]) x hx hxb
    exact ha (this ▸ hb)
theorem lookRuns_nodup {evs : List Ev} {win : Int} : ∀ (rest : List ASt) (pre : List Nat), (lookRuns evs win rest pre).Nodup := by
  intro rest
  induction rest with
  | nil => intro pre; simp [lookRuns]
  | cons st rest ih =>
    intro pre
    unfold lookRuns
    rw [List.nodup_append]
    refine ⟨by split <;> simp, nodup_flatMap (its_nodup _ _ _ _) (fun i _ => ih _) (fun i _ j _ x hx hy => ?_), fun x hx y hy e => ?_⟩
    · obtain ⟨s1, h1, _⟩ := (lookRuns_mem _ _ _).1 hx
      obtain ⟨s2, h2, _⟩ := (lookRuns_mem _ _ _).1 hy
      rw [h1] at h2
      simp at h2
      exact h2.1
    · subst e
      obtain ⟨i, _, h⟩ := List.mem_flatMap.1 hy
      obtain ⟨s1, h1, _⟩ := (lookRuns_mem _ _ _).1 h
      split at hx
      · rw [List.mem_singleton.1 hx] at h1
        have := congrArg List.length h1
        simp at this
      · simp at hx
theorem near_all {evs : List Ev} {path : List ASt} {t : List Nat} {win : Int} (h : ExtE evs [] path t) (h0 : t ≠ []) (hm : Mono evs) : NearAll evs win t ↔ lastT evs - firstT evs t < win := by
  have hl := ext_lt h (by simp)
  rw [List.nil_append] at hl
  constructor
  · intro hn
    cases t with
    | nil => exact absurd rfl h0
    | cons i t => exact hn i (by simp)
  · intro hn i hi
    have h2 := hm _ _ (head_le (ext_rising h) i hi) (hl i hi)
    unfold firstT at hn
    omega
def allLook (paths : List (List ASt)) (win : Int) (evs : List Ev) : List (Nat × List Nat) := (List.range paths.length).flatMap fun i => (lookRuns evs win (pathAt paths i) []).map fun t => (i, t)
theorem allLook_len (paths : List (List ASt)) (win : Int) (evs : List Ev) : (allLook paths win evs).length = (paths.map fun p => (lookRuns evs win p []).length).sum := by
  unfold allLook
  rw [List.length_flatMap]
  congr 1
  apply List.ext_getElem
  · simp
  · intro i h1 h2
    simp at h1 h2
    simp [pathAt, h1]
theorem look_kept {paths : List (List ASt)} {win : Int} {evs : List Ev} (hm : Mono evs) : Kept1 paths win evs (lastT evs) (allLook paths win evs) := by
  refine ⟨?_, fun r => ?_⟩
  · unfold allLook
    refine nodup_flatMap List.nodup_range (fun i _ => ?_) (fun i _ j _ x hx hy => ?_)
    · exact List.Pairwise.map _ (fun (a b : List Nat) (hab : a ≠ b) he => hab (by simpa using he)) (lookRuns_nodup _ _)
    · obtain ⟨_, _, rfl⟩ := List.mem_map.1 hx
      obtain ⟨_, _, h⟩ := List.mem_map.1 hy
      simpa using (congrArg Prod.fst h).symm
  · unfold allLook
    rw [List.mem_flatMap]
    constructor
    · rintro ⟨i, hi, h⟩
      obtain ⟨t, ht, rfl⟩ := List.mem_map.1 h
      obtain ⟨suf, h1, h0, h2, h3, h4⟩ := (lookRuns_mem _ _ _).1 ht
      rw [List.nil_append] at h1
      subst h1
      exact ⟨List.mem_range.1 hi, ⟨h0, h2, h4⟩, (near_all h2 h0 hm).1 h3⟩
    · rintro ⟨h1, ⟨h0, h2, h4⟩, h3⟩
      exact ⟨r.1, List.mem_range.2 h1, List.mem_map.2 ⟨r.2, (lookRuns_mem _ _ _).2 ⟨r.2, by simp, h0, h2, (near_all h2 h0 hm).2 h3, h4⟩, rfl⟩⟩
def allMatches (paths : List (List ASt)) (win : Int) (evs : List Ev) : List (List Nat) := paths.flatMap fun p => lookMatches evs win p []
theorem match_mem {paths : List (List ASt)} {win : Int} {evs : List Ev} (hm : Mono evs) (hp : ∀ p ∈ paths, p ≠ []) (t : List Nat) : t ∈ allMatches paths win evs ↔ MatchOK paths win evs t := by
  unfold allMatches MatchOK
  rw [List.mem_flatMap]
  constructor
  · rintro ⟨p, hp1, h⟩
    obtain ⟨i, hi, rfl⟩ := List.getElem_of_mem hp1
    obtain ⟨suf, h1, h2, h3, h4, h5⟩ := (lookMatches_mem _ _ _).1 h
    rw [List.nil_append] at h1
    subst h1
    have h0 : t ≠ [] := by
      intro e
      rw [e] at h4
      exact hp _ hp1 (List.length_eq_zero_iff.1 h4.symm)
    have he : pathAt paths i = paths[i] := by simp [pathAt, hi]
    exact ⟨i, hi, by rw [he]; exact ⟨h0, h2, h4, h5⟩, (near_all h2 h0 hm).1 h3⟩
  · rintro ⟨i, hi, ⟨h0, h2, h4, h5⟩, h3⟩
    have he : pathAt paths i = paths[i] := by simp [pathAt, hi]
    rw [he] at h2 h4
    exact ⟨paths[i], List.getElem_mem hi, (lookMatches_mem _ _ _).2 ⟨t, by simp, h2, (near_all h2 h0 hm).2 h3, h4, h5⟩⟩
theorem Kept1.same_len {paths : List (List ASt)} {win : Int} {evs : List Ev} {now : Int} {rl rl' : List (Nat × List Nat)} (h : Kept1 paths win evs now rl) (h' : Kept1 paths win evs now rl') : rl.length = rl'.length :=
  Nat.le_antisymm (nodup_len _ _ h.nodup fun r hr => (h'.mem r).2 ((h.mem r).1 hr)) (nodup_len _ _ h'.nodup fun r hr => (h.mem r).2 ((h'.mem r).1 hr))
end Go.Proofs.YtddbjcfdmdbmkaaGreatDoor

namespace Go.Proofs.YtddbjcfdmdbmkaaGreatDoor

def cmpL : List Nat → List Nat → Int
  | [], [] => 0
  | [], _ :: _ => -1
  | _ :: _, [] => 1
  | a :: l, b :: m => if a < b then -1 else if b < a then 1 else cmpL l m
theorem cmpL_self (a : List Nat) : cmpL a a = 0 := by
  induction a with
  | nil => rfl
  | cons x a ih => simp [cmpL, ih]
theorem cmpL_eq : ∀ {a b : List Nat}, cmpL a b = 0 → a = b := by
  intro a
  induction a with
  | nil => intro b h; cases b with
    | nil => rfl
    | cons y b => simp [cmpL] at h
  | cons x a ih =>
    intro b h
    cases b with
    | nil => simp [cmpL] at h
    | cons y b =>
      unfold cmpL at h
      split at h
      · simp at h
      · split at h
        · simp at h
        · rw [ih h, show x = y by omega]
theorem cmpL_swap : ∀ (a b : List Nat), cmpL b a = - cmpL a b := by
  intro a
  induction a with
  | nil => intro b; cases b <;> simp [cmpL]
  | cons x a ih =>
    intro b
    cases b with
    | nil => simp [cmpL]
    | cons y b =>
      unfold cmpL
      by_cases h1 : x < y
      · rw [if_pos h1, if_neg (by omega), if_pos h1]; rfl
      · by_cases h2 : y < x
        · rw [if_pos h2, if_neg h1, if_pos h2]
        · rw [if_neg h2, if_neg h1, if_neg h1, if_neg h2, ih]
theorem cmpL_range : ∀ (a b : List Nat), cmpL a b = -1 ∨ cmpL a b = 0 ∨ cmpL a b = 1 := by
  intro a
  induction a with
  | nil => intro b; cases b <;> simp [cmpL]
  | cons x a ih =>
    intro b
    cases b with
    | nil => simp [cmpL]
    | cons y b =>
      unfold cmpL
      split
      · exact .inl rfl
      · split
        · exact .inr (.inr rfl)
        · exact ih b
def ltL (a b : List Nat) : Prop := cmpL a b < 0
instance (a b : List Nat) : Decidable (ltL a b) := inferInstanceAs (Decidable (cmpL a b < 0))
theorem ltL_irrefl (a : List Nat) : ¬ ltL a a := by unfold ltL; rw [cmpL_self]; omega
theorem ltL_trans : ∀ {a b c : List Nat}, ltL a b → ltL b c → ltL a c := by
  unfold ltL
  intro a
  induction a with
  | nil =>
    intro b c h1 h2
    cases b with
    | nil => simp [cmpL] at h1
    | cons y b =>
      cases c with
      | nil => simp [cmpL] at h2
      | cons z c => simp [cmpL]
  | cons x a ih =>
    intro b c h1 h2
    cases b with
    | nil => simp [cmpL] at h1
    | cons y b =>
      cases c with
      | nil => simp [cmpL] at h2
      | cons z c =>
        unfold cmpL at h1 h2 ⊢
        split at h1
        · split at h2
          · rw [if_pos (by omega)]; omega
          · split at h2
            · omega
            · rw [if_pos (by omega)]; omega
        · split at h1
          · omega
          · split at h2
            · rw [if_pos (by omega)]; omega
            · split at h2
              · omega
              · rw [if_neg (by omega), if_neg (by omega)]; exact ih h1 h2
theorem ltL_total (a b : List Nat) : ltL a b ∨ a = b ∨ ltL b a := by
  unfold ltL
  rcases cmpL_range a b with h | h | h
  · left; omega
  · right; left; exact cmpL_eq h
  · right; right; rw [cmpL_swap, h]; omega
theorem not_ltL {a b : List Nat} (h : ¬ ltL a b) (hne : a ≠ b) : ltL b a := by
  rcases ltL_total a b with h1 | h1 | h1
  · exact absurd h1 h
  · exact absurd h1 hne
  · exact h1
def SortedL (l : List (List Nat)) : Prop := l.Pairwise ltL
theorem sorted_uniq : ∀ {l m : List (List Nat)}, SortedL l → SortedL m → (∀ x, x ∈ l ↔ x ∈ m) → l = m := by
  intro l
  induction l with
  | nil =>
    intro m _ _ h
    cases m with
    | nil => rfl
    | cons y m => have := (h y).2 (by simp); simp at this
  | cons x l ih =>
    intro m h1 h2 h
    cases m with
    | nil => have := (h x).1 (by simp); simp at this
    | cons y m =>
      obtain ⟨a1, a2⟩ := List.pairwise_cons.1 h1
      obtain ⟨b1, b2⟩ := List.pairwise_cons.1 h2
      have hxy : x = y := by
        rcases List.mem_cons.1 ((h x).1 (by simp)) with e | e
        · exact e
        · rcases List.mem_cons.1 ((h y).2 (by simp)) with e' | e'
          · exact e'.symm
          · exact absurd (ltL_trans (a1 y e') (b1 x e)) (ltL_irrefl _)
      subst hxy
      rw [ih a2 b2 (fun z => ?_)]
      constructor
      · intro hz
        rcases List.mem_cons.1 ((h z).1 (by simp [hz])) with e | e
        · exact absurd (a1 z hz) (e ▸ ltL_irrefl _)
        · exact e
      · intro hz
        rcases List.mem_cons.1 ((h z).2 (by simp [hz])) with e | e
        · exact absurd (b1 z hz) (e ▸ ltL_irrefl _)
        · exact e
def dedupFrom (p : List Nat) : List (List Nat) → List (List Nat)
  | [] => []
  | x :: l => if x = p then dedupFrom x l else x :: dedupFrom x l
def dedupL : List (List Nat) → List (List Nat)
  | [] => []
  | x :: l => x :: dedupFrom x l
theorem dedupFrom_mem : ∀ (l : List (List Nat)) (p x : List Nat), (x = p ∨ x ∈ l) ↔ (x = p ∨ x ∈ dedupFrom p l) := by
  intro l
  induction l with
  | nil => intro p x; simp [dedupFrom]
  | cons y l ih =>
    intro p x
    unfold dedupFrom
    by_cases e : y = p
    · subst e
      rw [if_pos rfl, ← ih]
      simp
    · rw [if_neg e, List.mem_cons, List.mem_cons, ih]
theorem dedupL_mem (l : List (List Nat)) (x : List Nat) : x ∈ dedupL l ↔ x ∈ l := by
  cases l with
  | nil => rfl
  | cons y l => unfold dedupL; rw [List.mem_cons, List.mem_cons]; exact (dedupFrom_mem l y x).symm
theorem dedupFrom_sub : ∀ (l : List (List Nat)) (p x : List Nat), x ∈ dedupFrom p l → x ∈ l := by
  intro l
  induction l with
  | nil => intro p x h; simp [dedupFrom] at h
  | cons y l ih =>
    intro p x h
    unfold dedupFrom at h
    split at h
    · exact List.mem_cons_of_mem _ (ih _ _ h)
    · rcases List.mem_cons.1 h with e | e
      · rw [e]; simp
      · exact List.mem_cons_of_mem _ (ih _ _ e)
theorem dedupFrom_sorted : ∀ (l : List (List Nat)) (p : List Nat), (p :: l).Pairwise (fun a b => ¬ ltL b a) → (p :: dedupFrom p l).Pairwise ltL := by
  intro l
  induction l with
  | nil => intro p _; simp [dedupFrom]
  | cons y l ih =>
    intro p h
    obtain ⟨h1, h2⟩ := List.pairwise_cons.1 h
    obtain ⟨h3, h4⟩ := List.pairwise_cons.1 h2
    unfold dedupFrom
    by_cases e : y = p
    · subst e; rw [if_pos rfl]; exact ih y h2
    · rw [if_neg e]
      have hpy : ltL p y := not_ltL (h1 y (by simp)) e
      have hs := ih y h2
      obtain ⟨h5, h6⟩ := List.pairwise_cons.1 hs
      rw [List.pairwise_cons]
      refine ⟨fun z hz => ?_, hs⟩
      rcases List.mem_cons.1 hz with rfl | hz
      · exact hpy
      · exact ltL_trans hpy (h5 z hz)
theorem dedupL_sorted (l : List (List Nat)) (h : l.Pairwise (fun a b => ¬ ltL b a)) : SortedL (dedupL l) := by
  cases l with
  | nil => exact List.Pairwise.nil
  | cons y l => exact dedupFrom_sorted l y h
def aboveL (o : Option (List Nat)) (x : List Nat) : Prop := match o with | none => True | some y => ltL y x
instance (o : Option (List Nat)) (x : List Nat) : Decidable (aboveL o x) := by unfold aboveL; cases o <;> infer_instance
end Go.Proofs.YtddbjcfdmdbmkaaGreatDoor

namespace Go.Proofs.YtddbjcfdmdbmkaaGreatDoor

structure Win (win : Int) (evs : List Ev) (now : Int) (lo : Nat) : Prop where
  le : lo ≤ evs.length
  far : ∀ i, i < lo → ¬ now - (evAt evs i).time < win
  near : ∀ i, lo ≤ i → i < evs.length → now - (evAt evs i).time < win
def cntNear (win : Int) (evs : List Ev) (now : Int) : Nat := evs.countP fun e => decide (now - e.time < win)
theorem evAt_get {evs : List Ev} {i : Nat} (h : i < evs.length) : evAt evs i = evs[i] := by simp [evAt, List.getD, h]
theorem Win.cnt {win : Int} {evs : List Ev} {now : Int} {lo : Nat} (h : Win win evs now lo) : cntNear win evs now = evs.length - lo := by
  unfold cntNear
  conv => lhs; rw [← List.take_append_drop lo evs]
  rw [List.countP_append]
  have h1 : (evs.take lo).countP (fun e => decide (now - e.time < win)) = 0 := by
    rw [List.countP_eq_zero]
    intro e he
    obtain ⟨i, hi, rfl⟩ := List.getElem_of_mem he
    simp only [List.length_take] at hi
    have := h.far i (by omega)
    rw [evAt_get (by omega)] at this
    simpa using this
  have h2 : (evs.drop lo).countP (fun e => decide (now - e.time < win)) = (evs.drop lo).length := by
    rw [List.countP_eq_length]
    intro e he
    obtain ⟨i, hi, rfl⟩ := List.getElem_of_mem he
    simp only [List.length_drop] at hi
    have := h.near (lo + i) (by omega) (by omega)
    rw [evAt_get (by omega)] at this
    simpa using this
  rw [h1, h2, List.length_drop]; omega
def passedP (win : Int) (now : Int) : List Int → Nat
  | [] => 0
  | t :: l => if now - t < win then 0 else passedP win now l + 1
theorem passedP_le (win now : Int) (l : List Int) : passedP win now l ≤ l.length := by
  induction l with
  | nil => exact Nat.le_refl _
  | cons t l ih => unfold passedP; split <;> simp; omega
theorem passedP_far (win now : Int) : ∀ (l : List Int) (i : Nat), (h : i < l.length) → i < passedP win now l → ¬ now - l[i] < win := by
  intro l
  induction l with
  | nil => intro i h; simp at h
  | cons t l ih =>
    intro i h hp
    unfold passedP at hp
    split at hp
    · omega
    · cases i with
      | zero => assumption
      | succ i => exact ih i (by simpa using h) (by omega)
theorem passedP_at (win now : Int) : ∀ (l : List Int), (h : passedP win now l < l.length) → now - l[passedP win now l] < win := by
  intro l
  induction l with
  | nil => intro h; simp at h
  | cons t l ih =>
    intro h
    by_cases hc : now - t < win
    · have e : passedP win now (t :: l) = 0 := by unfold passedP; rw [if_pos hc]
      simp only [e, List.getElem_cons_zero]; exact hc
    · have e : passedP win now (t :: l) = passedP win now l + 1 := by
        show (if now - t < win then 0 else passedP win now l + 1) = _
        rw [if_neg hc]
      simp only [e, List.getElem_cons_succ]
      exact ih (by rw [e] at h; simpa using h)
theorem passedP_step (win now : Int) (l : List Int) (n : Nat) (hn : n < l.length) (hf : ∀ i, (h : i < n) → ¬ now - l[i]'(by omega) < win) (hat : now - l[n] < win) : passedP win now l = n := by
  have h1 : ¬ passedP win now l < n := fun h => hf _ h (passedP_at win now l (by omega))
  have h2 : ¬ n < passedP win now l := fun h => passedP_far win now l n hn h hat
  omega
theorem passedP_all (win now : Int) (l : List Int) (hf : ∀ i, (h : i < l.length) → ¬ now - l[i] < win) : passedP win now l = l.length := by
  have h1 : ¬ passedP win now l < l.length := fun h => hf _ h (passedP_at win now l h)
  have := passedP_le win now l
  omega
def timesP (evs : List Ev) (lo : Nat) : List Int := (evs.drop lo).map (·.time)
theorem timesP_len (evs : List Ev) (lo : Nat) : (timesP evs lo).length = evs.length - lo := by simp [timesP]
theorem timesP_get {evs : List Ev} {lo i : Nat} (h : i < (timesP evs lo).length) : (timesP evs lo)[i] = (evAt evs (lo + i)).time := by
  have h' : lo + i < evs.length := by rw [timesP_len] at h; omega
  simp [timesP, evAt_get h']
theorem timesP_drop (evs : List Ev) (lo k : Nat) : (timesP evs lo).drop k = timesP evs (lo + k) := by
  simp [timesP, ← List.map_drop]
theorem Win.later {win : Int} {evs : List Ev} {now later : Int} {lo : Nat} (h : Win win evs now lo) (hm : Mono evs) (hl : now ≤ later) : Win win evs later (lo + passedP win later (timesP evs lo)) := by
  have hp := passedP_le win later (timesP evs lo)
  rw [timesP_len] at hp
  have hle := h.le
  refine ⟨by omega, fun i hi => ?_, fun i h1 h2 => ?_⟩
  · by_cases hlo : i < lo
    · have := h.far i hlo; omega
    · have := passedP_far win later (timesP evs lo) (i - lo) (by rw [timesP_len]; omega) (by omega)
      rw [timesP_get, show lo + (i - lo) = i by omega] at this
      exact this
  · have := passedP_at win later (timesP evs lo) (by rw [timesP_len]; omega)
    rw [timesP_get] at this
    have := hm _ _ h1 h2
    omega
theorem Win.snoc {win : Int} {evs : List Ev} {e : Ev} {lo : Nat} (h : Win win evs e.time lo) (hw : 0 < win) : Win win (evs ++ [e]) e.time lo := by
  refine ⟨by have := h.le; simp; omega, fun i hi => ?_, fun i h1 h2 => ?_⟩
  · rw [evAt_app (by have := h.le; omega)]; exact h.far i hi
  · by_cases hi : i < evs.length
    · rw [evAt_app hi]; exact h.near i h1 hi
    · have : i = evs.length := by simp at h2; omega
      subst this
      rw [evAt_new]; omega
theorem Win.start (win now : Int) : Win win [] now 0 := ⟨Nat.le_refl _, fun i h => by omega, fun i _ h => by simp at h⟩
theorem timesP_snoc (evs : List Ev) (e : Ev) (lo : Nat) (h : lo ≤ evs.length) : timesP (evs ++ [e]) lo = timesP evs lo ++ [e.time] := by
  unfold timesP
  rw [List.drop_append_of_le_length h, List.map_append]; rfl
theorem Mono.snoc {evs : List Ev} {e : Ev} (h : Mono evs) (hl : evs = [] ∨ lastT evs ≤ e.time) : Mono (evs ++ [e]) := by
  intro i j hij hj
  simp only [List.length_append, List.length_cons, List.length_nil] at hj
  by_cases hj' : j < evs.length
  · rw [evAt_app hj', evAt_app (by omega)]; exact h i j hij hj'
  · have : j = evs.length := by omega
    subst this
    rw [evAt_new]
    by_cases hi : i < evs.length
    · rw [evAt_app hi]
      rcases hl with rfl | hl
      · simp at hi
      · have := h i (evs.length - 1) (by omega) (by omega)
        unfold lastT at hl
        omega
    · rw [show i = evs.length by omega, evAt_new]; exact Int.le_refl _
def feedFP (win : Int) (rate : Nat) (evs : List Ev) (now : Int) : Nat := if evs ≠ [] ∧ now < lastT evs then 7 else if rate < cntNear win evs now + 1 then 8 else 0
theorem feedF0 {win : Int} {rate : Nat} {evs : List Ev} {now : Int} (h : feedFP win rate evs now = 0) : (evs = [] ∨ lastT evs ≤ now) ∧ cntNear win evs now + 1 ≤ rate := by
  unfold feedFP at h
  split at h
  · simp at h
  · rename_i h1
    split at h
    · simp at h
    · refine ⟨?_, by omega⟩
      by_cases e : evs = []
      · exact .inl e
      · exact .inr (by
          have : ¬ now < lastT evs := fun h2 => h1 ⟨e, h2⟩
          omega)
end Go.Proofs.YtddbjcfdmdbmkaaGreatDoor

namespace Go.Proofs.YtddbjcfdmdbmkaaGreatDoor

theorem combs_spec : ∀ m lo k (t : List Nat), t ∈ combs lo m k ↔ t.Pairwise (· < ·) ∧ (∀ i ∈ t, lo ≤ i ∧ i < lo + m) ∧ t.length = k := by
  intro m
  induction m with
  | zero =>
    intro lo k t
    cases k with
    | zero => simp only [combs, List.mem_singleton]; constructor
              · rintro rfl; simp
              · rintro ⟨_, _, h⟩; exact List.length_eq_zero_iff.1 h
    | succ k =>
      simp only [combs, List.not_mem_nil, false_iff]
      rintro ⟨_, h, hl⟩
      cases t with
      | nil => simp at hl
      | cons i t => have := h i (by simp); omega
  | succ m ih =>
    intro lo k t
    cases k with
    | zero => simp only [combs, List.mem_singleton]; constructor
              · rintro rfl; simp
              · rintro ⟨_, _, h⟩; exact List.length_eq_zero_iff.1 h
    | succ k =>
      constructor
      · intro h
        have h' : t ∈ (combs (lo + 1) m k).map (lo :: ·) ++ combs (lo + 1) m (k + 1) := h
        rcases List.mem_append.1 h' with h | h
        · obtain ⟨u, hu, rfl⟩ := List.mem_map.1 h
          obtain ⟨h1, h2, h3⟩ := (ih _ _ _).1 hu
          refine ⟨List.pairwise_cons.2 ⟨fun j hj => by have := (h2 j hj).1; omega, h1⟩, fun i hi => ?_, by simp [h3]⟩
          rcases List.mem_cons.1 hi with rfl | hi
          · omega
          · have := h2 i hi; omega
        · obtain ⟨h1, h2, h3⟩ := (ih _ _ _).1 h
          exact ⟨h1, fun i hi => by have := h2 i hi; omega, h3⟩
      · rintro ⟨h1, h2, h3⟩
        have := combs_mem (m + 1) lo t h1 h2
        rwa [h3] at this
theorem combs_nodup : ∀ m lo k, (combs lo m k).Nodup := by
  intro m
  induction m with
  | zero => intro lo k; cases k <;> simp [combs]
  | succ m ih =>
    intro lo k
    cases k with
    | zero => simp [combs]
    | succ k =>
      show ((combs (lo + 1) m k).map (lo :: ·) ++ combs (lo + 1) m (k + 1)).Nodup
      rw [List.nodup_append]
      refine ⟨List.Pairwise.map _ (fun a b (hab : a ≠ b) he => hab (by simpa using he)) (ih _ _), ih _ _, fun a ha b hb e => ?_⟩
      obtain ⟨u, hu, rfl⟩ := List.mem_map.1 ha
      subst e
      have := ((combs_spec _ _ _ _).1 hb).2.1 lo (by simp)
      omega
theorem sorted_nodup {l : List (List Nat)} (h : SortedL l) : l.Nodup := by
  unfold List.Nodup
  refine List.Pairwise.imp ?_ h
  intro a b hab e
  rw [e] at hab
  exact ltL_irrefl b hab
theorem same_len {α : Type} [DecidableEq α] {l m : List α} (hl : l.Nodup) (hm : m.Nodup) (h : ∀ x, x ∈ l ↔ x ∈ m) : l.length = m.length := Nat.le_antisymm (nodup_len l m hl (fun x hx => (h x).1 hx)) (nodup_len m l hm (fun x hx => (h x).2 hx))
structure AnySt (evs : List Ev) (st : ASt) : Prop where
  fits : ∀ es, ∀ i, i < evs.length → st.fits es (evAt evs i) = true
  stops : ∀ es e, st.stops es e = false
theorem ext_any {evs : List Ev} {st : ASt} (h : AnySt evs st) : ∀ (suf : List Nat) (k : Nat) (pre : List Nat), ExtE evs pre (List.replicate k st) suf ↔ suf.length ≤ k ∧ (∀ i ∈ suf, i < evs.length) ∧ suf.Pairwise (· < ·) ∧ ∀ i ∈ suf, startP pre ≤ i := by
  intro suf
  induction suf with
  | nil => intro k pre; unfold ExtE; simp
  | cons i suf ih =>
    intro k pre
    cases k with
    | zero =>
      rw [List.replicate_zero]
      unfold ExtE
      simp
    | succ k =>
      rw [List.replicate_succ]
      unfold ExtE
      rw [ih]
      have hs : startP (pre ++ [i]) = i + 1 := by
        unfold startP
        rw [if_neg (by simp), last_snoc]
      rw [hs]
      constructor
      · rintro ⟨⟨g1, g2, _, _⟩, h1, h2, h3, h4⟩
        refine ⟨by simp; omega, fun j hj => ?_, List.pairwise_cons.2 ⟨fun j hj => by have := h4 j hj; omega, h3⟩, fun j hj => ?_⟩
        · rcases List.mem_cons.1 hj with rfl | hj
          · exact g2
          · exact h2 j hj
        · rcases List.mem_cons.1 hj with rfl | hj
          · exact g1
          · have := h4 j hj; omega
      · rintro ⟨h1, h2, h3, h4⟩
        obtain ⟨h5, h6⟩ := List.pairwise_cons.1 h3
        refine ⟨⟨h4 i (by simp), h2 i (by simp), h.fits _ _ (h2 i (by simp)), .inr (fun j _ _ => h.stops _ _)⟩, by simp at h1; omega, fun j hj => h2 j (by simp [hj]), h6, fun j hj => ?_⟩
        have := h5 j hj; omega
theorem any_matches {evs : List Ev} {e : Ev} {st : ASt} {k : Nat} {win : Int} (h : AnySt (evs ++ [e]) st) (hk : 1 ≤ k) (hnear : ∀ i, i < (evs ++ [e]).length → lastT (evs ++ [e]) - (evAt (evs ++ [e]) i).time < win) {ys : List (List Nat)} (hs : SortedL ys) (hm : ∀ t, t ∈ ys ↔ MatchOK [List.replicate k st] win (evs ++ [e]) t) : ys.length = cho evs.length (k - 1) := by
  have hlen : (evs ++ [e]).length = evs.length + 1 := by simp
  have key : ∀ t, t ∈ ys ↔ t ∈ (combs 0 evs.length (k - 1)).map (· ++ [evs.length]) := by
    intro t
    rw [hm]
    constructor
    · rintro ⟨i, hi, ⟨h1, h2, h3, h4⟩, _⟩
      have hi0 : i = 0 := by simpa using hi
      subst hi0
      have h2' : ExtE (evs ++ [e]) [] (List.replicate k st) t := h2
      have h3' : t.length = (List.replicate k st).length := h3
      rw [List.length_replicate] at h3'
      obtain ⟨_, g2, g3, _⟩ := (ext_any h t k []).1 h2'
      obtain ⟨u, x, rfl⟩ : ∃ u x, t = u ++ [x] := ⟨t.dropLast, t.getLast h1, (List.dropLast_concat_getLast h1).symm⟩
      rw [last_snoc, hlen] at h4
      have hx : x = evs.length := by omega
      subst hx
      refine List.mem_map.2 ⟨u, (combs_spec _ _ _ _).2 ⟨(List.pairwise_append.1 g3).1, fun j hj => ?_, by simp at h3'; omega⟩, rfl⟩
      have := (List.pairwise_append.1 g3).2.2 j hj evs.length (by simp)
      omega
    · intro ht
      obtain ⟨u, hu, rfl⟩ := List.mem_map.1 ht
      obtain ⟨g1, g2, g3⟩ := (combs_spec _ _ _ _).1 hu
      refine ⟨0, by simp, ⟨by simp, ?_, ?_, ?_⟩, ?_⟩
      · show ExtE (evs ++ [e]) [] (List.replicate k st) _
        rw [ext_any h]
        refine ⟨by simp; omega, fun i hi => ?_, List.pairwise_append.2 ⟨g1, by simp, fun a ha b hb => ?_⟩, fun i _ => Nat.zero_le _⟩
        · rcases List.mem_append.1 hi with hi | hi
          · have := g2 i hi; omega
          · rw [List.mem_singleton.1 hi]; omega
        · rw [List.mem_singleton.1 hb]; have := g2 a ha; omega
      · show _ = (List.replicate k st).length
        rw [List.length_replicate]; simp; omega
      · rw [last_snoc, hlen]
      · unfold firstT
        refine hnear _ ?_
        cases u with
        | nil => simp
        | cons a u => have := g2 a (by simp); simp; omega
  rw [same_len (sorted_nodup hs) (List.Pairwise.map _ (fun a b (hab : a ≠ b) he => hab (by simpa using he)) (combs_nodup _ _ _)) key, List.length_map, combs_len]
theorem any_runs {evs : List Ev} {st : ASt} {k : Nat} {win now : Int} (h : AnySt evs st) (hnear : ∀ i, i < evs.length → now - (evAt evs i).time < win) {rl : List (Nat × List Nat)} (hr : Kept1 [List.replicate k st] win evs now rl) : rl.length = sumCho evs.length (k - 1) := by
  have hnd : (allRuns [List.replicate k st] 0 evs.length).Nodup := by
    unfold allRuns
    refine nodup_flatMap List.nodup_range (fun i _ => nodup_flatMap List.nodup_range (fun j _ => List.Pairwise.map _ (fun a b (hab : a ≠ b) he => hab (by simpa using he)) (combs_nodup _ _ _)) (fun a _ b _ x hx hy => ?_)) (fun a _ b _ x hx hy => ?_)
    · obtain ⟨u, hu, rfl⟩ := List.mem_map.1 hx
      obtain ⟨v, hv, e⟩ := List.mem_map.1 hy
      have e2 : v = u := by simpa using e
      have h1 := ((combs_spec _ _ _ _).1 hu).2.2
      have h2 := ((combs_spec _ _ _ _).1 hv).2.2
      rw [e2] at h2; omega
    · obtain ⟨j, _, hx⟩ := List.mem_flatMap.1 hx
      obtain ⟨j', _, hy⟩ := List.mem_flatMap.1 hy
      obtain ⟨u, _, rfl⟩ := List.mem_map.1 hx
      obtain ⟨v, _, e⟩ := List.mem_map.1 hy
      have : b = a := by have := congrArg Prod.fst e; simpa using this
      exact this.symm
  rw [same_len hr.nodup hnd (fun r => ?_), allRuns_len]
  · simp
  rw [hr.mem]
  obtain ⟨i, t⟩ := r
  unfold allRuns
  simp only [List.length_singleton, List.mem_flatMap, List.mem_range, List.mem_map, Prod.mk.injEq]
  constructor
  · rintro ⟨hi, ⟨h1, h2, st', h3, _⟩, _⟩
    have hi0 : i = 0 := by omega
    subst hi0
    have h2' : ExtE evs [] (List.replicate k st) t := h2
    obtain ⟨g1, g2, g3, _⟩ := (ext_any h t k []).1 h2'
    have h3' : (List.replicate k st)[t.length]? = some st' := h3
    have hlt : t.length < k := by
      have := (List.getElem?_eq_some_iff.1 h3').1
      simpa using this
    have hpos : 0 < t.length := List.length_pos_iff.2 h1
    refine ⟨0, by omega, t.length - 1, ?_, t, (combs_spec _ _ _ _).2 ⟨g3, fun j hj => ?_, by omega⟩, rfl, rfl⟩
    · show t.length - 1 < (List.replicate k st).length - 1
      rw [List.length_replicate]; omega
    · have := g2 j hj; omega
  · rintro ⟨i', hi', j, hj, u, hu, rfl, rfl⟩
    have hi0 : i' = 0 := by omega
    subst hi0
    have hj' : j < (List.replicate k st).length - 1 := hj
    rw [List.length_replicate] at hj'
    obtain ⟨g1, g2, g3⟩ := (combs_spec _ _ _ _).1 hu
    have hne : u ≠ [] := by intro e; rw [e] at g3; simp at g3
    refine ⟨by omega, ⟨hne, ?_, st, ?_, fun _ _ _ => h.stops _ _⟩, ?_⟩
    · show ExtE evs [] (List.replicate k st) u
      rw [ext_any h]
      exact ⟨by omega, fun i hi => by have := g2 i hi; omega, g1, fun i _ => Nat.zero_le _⟩
    · show (List.replicate k st)[u.length]? = some st
      rw [List.getElem?_replicate, if_pos (by omega)]
    · unfold firstT
      refine hnear _ ?_
      cases u with
      | nil => exact absurd rfl hne
      | cons a u => have := g2 a (by simp); simp; omega
end Go.Proofs.YtddbjcfdmdbmkaaGreatDoor
