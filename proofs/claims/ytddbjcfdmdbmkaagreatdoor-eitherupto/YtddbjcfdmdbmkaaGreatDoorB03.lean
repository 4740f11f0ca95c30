import Derived.Test.YtddbjcfdmdbmkaaGreatDoorB02
set_option linter.unusedVariables false
set_option linter.unusedSimpArgs false
namespace Go.Proofs.YtddbjcfdmdbmkaaGreatDoor

theorem combs_spec : ∀ m lo k (t : List Nat), t ∈ combs lo m k ↔ t.Pairwise (· < ·) ∧ (∀ i ∈ t, lo ≤ i ∧ i < lo + m) ∧ t.length = k := by
  intro m
  induction m with
  | zero =>
    intro lo k t
    cases k with
    | zero => simp only [combs, List.mem_singleton]; constructor
              · rintro rfl; simp
              · rintro ⟨_, _, h⟩; exact List.length_eq_zero_iff.1 h
    | succ k =>
      simp only [combs, List.not_mem_nil, false_iff]
      rintro ⟨_, h, hl⟩
      cases t with
      | nil => simp at hl
      | cons i t => have := h i (by simp); omega
  | succ m ih =>
    intro lo k t
    cases k with
    | zero => simp only [combs, List.mem_singleton]; constructor
              · rintro rfl; simp
              · rintro ⟨_, _, h⟩; exact List.length_eq_zero_iff.1 h
    | succ k =>
      constructor
      · intro h
        have h' : t ∈ (combs (lo + 1) m k).map (lo :: ·) ++ combs (lo + 1) m (k + 1) := h
        rcases List.mem_append.1 h' with h | h
        · obtain ⟨u, hu, rfl⟩ := List.mem_map.1 h
          obtain ⟨h1, h2, h3⟩ := (ih _ _ _).1 hu
          refine ⟨List.pairwise_cons.2 ⟨fun j hj => by have := (h2 j hj).1; omega, h1⟩, fun i hi => ?_, by simp [h3]⟩
          rcases List.mem_cons.1 hi with rfl | hi
          · omega
          · have := h2 i hi; omega
        · obtain ⟨h1, h2, h3⟩ := (ih _ _ _).1 h
          exact ⟨h1, fun i hi => by have := h2 i hi; omega, h3⟩
      · rintro ⟨h1, h2, h3⟩
        have := combs_mem (m + 1) lo t h1 h2
        rwa [h3] at this
theorem combs_nodup : ∀ m lo k, (combs lo m k).Nodup := by
  intro m
  induction m with
  | zero => intro lo k; cases k <;> simp [combs]
  | succ m ih =>
    intro lo k
    cases k with
    | zero => simp [combs]
    | succ k =>
      show ((combs (lo + 1) m k).map (lo :: ·) ++ combs (lo + 1) m (k + 1)).Nodup
      rw [List.nodup_append]
      refine ⟨List.Pairwise.map _ (fun a b (hab : a ≠ b) he => hab (by simpa using he)) (ih _ _), ih _ _, fun a ha b hb e => ?_⟩
      obtain ⟨u, hu, rfl⟩ := List.mem_map.1 ha
      subst e
      have := ((combs_spec _ _ _ _).1 hb).2.1 lo (by simp)
      omega
theorem sorted_nodup {l : List (List Nat)} (h : SortedL l) : l.Nodup := by
  unfold List.Nodup
  refine List.Pairwise.imp ?_ h
  intro a b hab e
  rw [e] at hab
  exact ltL_irrefl b hab
theorem same_len {α : Type} [DecidableEq α] {l m : List α} (hl : l.Nodup) (hm : m.Nodup) (h : ∀ x, x ∈ l ↔ x ∈ m) : l.length = m.length := Nat.le_antisymm (nodup_len l m hl (fun x hx => (h x).1 hx)) (nodup_len m l hm (fun x hx => (h x).2 hx))
structure AnySt (evs : List Ev) (st : ASt) : Prop where
  fits : ∀ es, ∀ i, i < evs.length → st.fits es (evAt evs i) = true
  stops : ∀ es e, st.stops es e = false
theorem ext_any {evs : List Ev} {st : ASt} (h : AnySt evs st) : ∀ (suf : List Nat) (k : Nat) (pre : List Nat), ExtE evs pre (List.replicate k st) suf ↔ suf.length ≤ k ∧ (∀ i ∈ suf, i < evs.length) ∧ suf.Pairwise (· < ·) ∧ ∀ i ∈ suf, startP pre ≤ i := by
  intro suf
  induction suf with
  | nil => intro k pre; unfold ExtE; simp
  | cons i suf ih =>
    intro k pre
    cases k with
    | zero =>
      rw [List.replicate_zero]
      unfold ExtE
      simp
    | succ k =>
      rw [List.replicate_succ]
      unfold ExtE
      rw [ih]
      have hs : startP (pre ++ [i]) = i + 1 := by
        unfold startP
        rw [if_neg (by simp), last_snoc]
      rw [hs]
      constructor
      · rintro ⟨⟨g1, g2, _, _⟩, h1, h2, h3, h4⟩
        refine ⟨by simp; omega, fun j hj => ?_, List.pairwise_cons.2 ⟨fun j hj => by have := h4 j hj; omega, h3⟩, fun j hj => ?_⟩
        · rcases List.mem_cons.1 hj with rfl | hj
          · exact g2
          · exact h2 j hj
        · rcases List.mem_cons.1 hj with rfl | hj
          · exact g1
          · have := h4 j hj; omega
      · rintro ⟨h1, h2, h3, h4⟩
        obtain ⟨h5, h6⟩ := List.pairwise_cons.1 h3
        refine ⟨⟨h4 i (by simp), h2 i (by simp), h.fits _ _ (h2 i (by simp)), .inr (fun j _ _ => h.stops _ _)⟩, by simp at h1; omega, fun j hj => h2 j (by simp [hj]), h6, fun j hj => ?_⟩
        have := h5 j hj; omega
theorem any_matches {evs : List Ev} {e : Ev} {st : ASt} {k : Nat} {win : Int} (h : AnySt (evs ++ [e]) st) (hk : 1 ≤ k) (hnear : ∀ i, i < (evs ++ [e]).length → lastT (evs ++ [e]) - (evAt (evs ++ [e]) i).time < win) {ys : List (List Nat)} (hs : SortedL ys) (hm : ∀ t, t ∈ ys ↔ MatchOK [List.replicate k st] win (evs ++ [e]) t) : ys.length = cho evs.length (k - 1) := by
  have hlen : (evs ++ [e]).length = evs.length + 1 := by simp
  have key : ∀ t, t ∈ ys ↔ t ∈ (combs 0 evs.length (k - 1)).map (· ++ [evs.length]) := by
    intro t
    rw [hm]
    constructor
    · rintro ⟨i, hi, ⟨h1, h2, h3, h4⟩, _⟩
      have hi0 : i = 0 := by simpa using hi
      subst hi0
      have h2' : ExtE (evs ++ [e]) [] (List.replicate k st) t := h2
      have h3' : t.length = (List.replicate k st).length := h3
      rw [List.length_replicate] at h3'
      obtain ⟨_, g2, g3, _⟩ := (ext_any h t k []).1 h2'
      obtain ⟨u, x, rfl⟩ : ∃ u x, t = u ++ [x] := ⟨t.dropLast, t.getLast h1, (List.dropLast_concat_getLast h1).symm⟩
      rw [last_snoc, hlen] at h4
      have hx : x = evs.length := by omega
      subst hx
      refine List.mem_map.2 ⟨u, (combs_spec _ _ _ _).2 ⟨(List.pairwise_append.1 g3).1, fun j hj => ?_, by simp at h3'; omega⟩, rfl⟩
      have := (List.pairwise_append.1 g3).2.2 j hj evs.length (by simp)
      omega
    · intro ht
      obtain ⟨u, hu, rfl⟩ := List.mem_map.1 ht
      obtain ⟨g1, g2, g3⟩ := (combs_spec _ _ _ _).1 hu
      refine ⟨0, by simp, ⟨by simp, ?_, ?_, ?_⟩, ?_⟩
      · show ExtE (evs ++ [e]) [] (List.replicate k st) _
        rw [ext_any h]
        refine ⟨by simp; omega, fun i hi => ?_, List.pairwise_append.2 ⟨g1, by simp, fun a ha b hb => ?_⟩, fun i _ => Nat.zero_le _⟩
        · rcases List.mem_append.1 hi with hi | hi
          · have := g2 i hi; omega
          · rw [List.mem_singleton.1 hi]; omega
        · rw [List.mem_singleton.1 hb]; have := g2 a ha; omega
      · show _ = (List.replicate k st).length
        rw [List.length_replicate]; simp; omega
      · rw [last_snoc, hlen]
      · unfold firstT
        refine hnear _ ?_
        cases u with
        | nil => simp
        | cons a u => have := g2 a (by simp); simp; omega
  rw [same_len (sorted_nodup hs) (List.Pairwise.map _ (fun a b (hab : a ≠ b) he => hab (by simpa using he)) (combs_nodup _ _ _)) key, List.length_map, combs_len]
theorem any_runs {evs : List Ev} {st : ASt} {k : Nat} {win now : Int} (h : AnySt evs st) (hnear : ∀ i, i < evs.length → now - (evAt evs i).time < win) {rl : List (Nat × List Nat)} (hr : Kept1 [List.replicate k st] win evs now rl) : rl.length = sumCho evs.length (k - 1) := by
  have hnd : (allRuns [List.replicate k st] 0 evs.length).Nodup := by
    unfold allRuns
    refine nodup_flatMap List.nodup_range (fun i _ => nodup_flatMap List.nodup_range (fun j _ => List.Pairwise.map _ (fun a b (hab : a ≠ b) he => hab (by simpa using he)) (combs_nodup _ _ _)) (fun a _ b _ x hx hy => ?_)) (fun a _ b _ x hx hy => ?_)
    · obtain ⟨u, hu, rfl⟩ := List.mem_map.1 hx
      obtain ⟨v, hv, e⟩ := List.mem_map.1 hy
      have e2 : v = u := by simpa using e
      have h1 := ((combs_spec _ _ _ _).1 hu).2.2
      have h2 := ((combs_spec _ _ _ _).1 hv).2.2
      rw [e2] at h2; omega
    · obtain ⟨j, _, hx⟩ := List.mem_flatMap.1 hx
      obtain ⟨j', _, hy⟩ := List.mem_flatMap.1 hy
      obtain ⟨u, _, rfl⟩ := List.mem_map.1 hx
      obtain ⟨v, _, e⟩ := List.mem_map.1 hy
      have : b = a := by have := congrArg Prod.fst e; simpa using this
      exact this.symm
  rw [same_len hr.nodup hnd (fun r => ?_), allRuns_len]
  · simp
  rw [hr.mem]
  obtain ⟨i, t⟩ := r
  unfold allRuns
  simp only [List.length_singleton, List.mem_flatMap, List.mem_range, List.mem_map, Prod.mk.injEq]
  constructor
  · rintro ⟨hi, ⟨h1, h2, st', h3, _⟩, _⟩
    have hi0 : i = 0 := by omega
    subst hi0
    have h2' : ExtE evs [] (List.replicate k st) t := h2
    obtain ⟨g1, g2, g3, _⟩ := (ext_any h t k []).1 h2'
    have h3' : (List.replicate k st)[t.length]? = some st' := h3
    have hlt : t.length < k := by
      have := (List.getElem?_eq_some_iff.1 h3').1
      simpa using this
    have hpos : 0 < t.length := List.length_pos_iff.2 h1
    refine ⟨0, by omega, t.length - 1, ?_, t, (combs_spec _ _ _ _).2 ⟨g3, fun j hj => ?_, by omega⟩, rfl, rfl⟩
    · show t.length - 1 < (List.replicate k st).length - 1
      rw [List.length_replicate]; omega
    · have := g2 j hj; omega
  · rintro ⟨i', hi', j, hj, u, hu, rfl, rfl⟩
    have hi0 : i' = 0 := by omega
    subst hi0
    have hj' : j < (List.replicate k st).length - 1 := hj
    rw [List.length_replicate] at hj'
    obtain ⟨g1, g2, g3⟩ := (combs_spec _ _ _ _).1 hu
    have hne : u ≠ [] := by intro e; rw [e] at g3; simp at g3
    refine ⟨by omega, ⟨hne, ?_, st, ?_, fun _ _ _ => h.stops _ _⟩, ?_⟩
    · show ExtE evs [] (List.replicate k st) u
      rw [ext_any h]
      exact ⟨by omega, fun i hi => by have := g2 i hi; omega, g1, fun i _ => Nat.zero_le _⟩
    · show (List.replicate k st)[u.length]? = some st
      rw [List.getElem?_replicate, if_pos (by omega)]
    · unfold firstT
      refine hnear _ ?_
      cases u with
      | nil => exact absurd rfl hne
      | cons a u => have := g2 a (by simp); simp; omega
end Go.Proofs.YtddbjcfdmdbmkaaGreatDoor

namespace Go.Proofs.YtddbjcfdmdbmkaaGreatDoor

def shE (d : Int) (e : Ev) : Ev := { e with time := e.time + d }
def shL (d : Int) (evs : List Ev) : List Ev := evs.map (shE d)
theorem sh_len (d : Int) (evs : List Ev) : (shL d evs).length = evs.length := by simp [shL]
theorem sh_at {d : Int} {evs : List Ev} {i : Nat} (h : i < evs.length) : evAt (shL d evs) i = shE d (evAt evs i) := by
  rw [evAt_get (by rw [sh_len]; exact h), evAt_get h]
  simp [shL]
structure ShSt (d : Int) (st : ASt) : Prop where
  fits : ∀ es e, st.fits (es.map (shE d)) (shE d e) = st.fits es e
  stops : ∀ es e, st.stops (es.map (shE d)) (shE d e) = st.stops es e
theorem sh_of {d : Int} {evs : List Ev} {t : List Nat} (h : ∀ i ∈ t, i < evs.length) : evsOf (shL d evs) t = (evsOf evs t).map (shE d) := by
  unfold evsOf
  rw [List.map_map]
  exact List.map_congr_left fun i hi => sh_at (h i hi)
theorem sh_free {d : Int} {evs : List Ev} {st : ASt} (hs : ShSt d st) {t : List Nat} {hi : Nat} (h : ∀ i ∈ t, i < evs.length) (hh : hi ≤ evs.length) : freeP (shL d evs) st t hi ↔ freeP evs st t hi := by
  unfold freeP
  rw [sh_of h]
  constructor
  · intro hf i h1 h2; have := hf i h1 h2; rwa [sh_at (by omega), hs.stops] at this
  · intro hf i h1 h2; rw [sh_at (by omega), hs.stops]; exact hf i h1 h2
theorem sh_good {d : Int} {evs : List Ev} {st : ASt} (hs : ShSt d st) {t : List Nat} {i : Nat} (h : ∀ j ∈ t, j < evs.length) : goodP (shL d evs) st t i ↔ goodP evs st t i := by
  unfold goodP
  rw [sh_len]
  constructor
  · rintro ⟨a, b, c, e⟩
    rw [sh_of h, sh_at b, hs.fits] at c
    rw [sh_free hs h (by omega)] at e
    exact ⟨a, b, c, e⟩
  · rintro ⟨a, b, c, e⟩
    refine ⟨a, b, ?_, ?_⟩
    · rw [sh_of h, sh_at b, hs.fits]; exact c
    · rw [sh_free hs h (by omega)]; exact e
theorem sh_ext {d : Int} {evs : List Ev} : ∀ {suf pre : List Nat} {rest : List ASt}, (∀ st ∈ rest, ShSt d st) → (∀ j ∈ pre, j < evs.length) → (ExtE (shL d evs) pre rest suf ↔ ExtE evs pre rest suf) := by
  intro suf
  induction suf with
  | nil => intros; simp [ExtE]
  | cons i suf ih =>
    intro pre rest hr hp
    cases rest with
    | nil => simp [ExtE]
    | cons st rest =>
      show goodP _ _ _ _ ∧ _ ↔ goodP _ _ _ _ ∧ _
      rw [sh_good (hr st (by simp)) hp]
      refine and_congr_right fun hg => ih (fun s hs => hr s (by simp [hs])) (fun j hj => ?_)
      rcases List.mem_append.1 hj with hj | hj
      · exact hp j hj
      · rw [List.mem_singleton.1 hj]; exact hg.2.1
theorem sh_run {d : Int} {evs : List Ev} {path : List ASt} (hr : ∀ st ∈ path, ShSt d st) {t : List Nat} : RunP (shL d evs) path t ↔ RunP evs path t := by
  unfold RunP
  refine and_congr_right fun _ => ?_
  rw [sh_ext hr (by simp), sh_len]
  refine and_congr_right fun he => ?_
  have hl : ∀ j ∈ t, j < evs.length := by simpa using ext_lt he (by simp)
  constructor
  · rintro ⟨st, h1, h2⟩; exact ⟨st, h1, (sh_free (hr st (List.mem_of_getElem? h1)) hl (Nat.le_refl _)).1 h2⟩
  · rintro ⟨st, h1, h2⟩; exact ⟨st, h1, (sh_free (hr st (List.mem_of_getElem? h1)) hl (Nat.le_refl _)).2 h2⟩
theorem sh_match {d : Int} {evs : List Ev} {path : List ASt} (hr : ∀ st ∈ path, ShSt d st) {t : List Nat} : MatchP (shL d evs) path t ↔ MatchP evs path t := by
  unfold MatchP
  rw [sh_ext hr (by simp), sh_len]
theorem sh_last {d : Int} {evs : List Ev} (h : evs ≠ []) : lastT (shL d evs) = lastT evs + d := by
  unfold lastT
  have : 0 < evs.length := by cases evs with | nil => exact absurd rfl h | cons a l => simp
  rw [sh_len, sh_at (by omega)]; rfl
theorem sh_first {d : Int} {evs : List Ev} {t : List Nat} (h : t ≠ []) (hl : ∀ i ∈ t, i < evs.length) : firstT (shL d evs) t = firstT evs t + d := by
  unfold firstT
  cases t with
  | nil => exact absurd rfl h
  | cons i t => rw [List.headD_cons, sh_at (hl i (by simp))]; rfl
theorem path_mem {paths : List (List ASt)} {i : Nat} (h : i < paths.length) : pathAt paths i ∈ paths := by
  unfold pathAt
  simp [List.getD, h]
theorem sh_matchOK {d : Int} {evs : List Ev} {paths : List (List ASt)} {win : Int} (hr : ∀ p ∈ paths, ∀ st ∈ p, ShSt d st) {t : List Nat} : MatchOK paths win (shL d evs) t ↔ MatchOK paths win evs t := by
  unfold MatchOK
  refine exists_congr fun i => and_congr_right fun hi => ?_
  rw [sh_match (hr _ (path_mem hi))]
  refine and_congr_right fun hm => ?_
  have hl : ∀ j ∈ t, j < evs.length := by simpa using ext_lt hm.2.1 (by simp)
  have hne : evs ≠ [] := by
    rintro rfl
    cases t with
    | nil => exact hm.1 rfl
    | cons a t => have := hl a (by simp); simp at this
  rw [sh_last hne, sh_first hm.1 hl]
  omega
theorem sh_kept {d : Int} {evs : List Ev} {paths : List (List ASt)} {win now : Int} (hr : ∀ p ∈ paths, ∀ st ∈ p, ShSt d st) {rl : List (Nat × List Nat)} (h : Kept1 paths win evs now rl) : Kept1 paths win (shL d evs) (now + d) rl := by
  refine ⟨h.nodup, fun r => ?_⟩
  rw [h.mem]
  refine and_congr_right fun hi => ?_
  rw [sh_run (hr _ (path_mem hi))]
  refine and_congr_right fun hm => ?_
  have hl : ∀ j ∈ r.2, j < evs.length := by simpa using ext_lt hm.2.1 (by simp)
  rw [sh_first hm.1 hl]
  omega
theorem sh_runs {d : Int} {evs : List Ev} {paths : List (List ASt)} {win : Int} (hr : ∀ p ∈ paths, ∀ st ∈ p, ShSt d st) (hne : evs ≠ []) {rl rl' : List (Nat × List Nat)} (h : Kept1 paths win evs (lastT evs) rl) (h' : Kept1 paths win (shL d evs) (lastT (shL d evs)) rl') : rl'.length = rl.length := by
  have k := sh_kept hr h
  rw [← sh_last hne] at k
  exact h'.same_len k
theorem sh_snoc (d : Int) (evs : List Ev) (e : Ev) : shL d (evs ++ [e]) = shL d evs ++ [shE d e] := by simp [shL]
theorem sh_feed {d win : Int} {rate : Nat} {evs : List Ev} {now : Int} : feedFP win rate (shL d evs) (now + d) = feedFP win rate evs now := by
  have hc : cntNear win (shL d evs) (now + d) = cntNear win evs now := by
    unfold cntNear shL
    rw [List.countP_map]
    congr 1
    funext e
    show decide (now + d - (e.time + d) < win) = _
    rw [show now + d - (e.time + d) = now - e.time by omega]
  have hn : shL d evs = [] ↔ evs = [] := by simp [shL]
  unfold feedFP
  by_cases he : evs = []
  · subst he; rw [hc]; simp [shL]
  · rw [hc, sh_last he]
    have : shL d evs ≠ [] := fun h => he (hn.1 h)
    simp only [ne_eq, he, this, not_false_eq_true, true_and]
    have e : (now + d < lastT evs + d) ↔ (now < lastT evs) := by omega
    simp only [e]
end Go.Proofs.YtddbjcfdmdbmkaaGreatDoor

namespace Go.Proofs.YtddbjcfdmdbmkaaGreatDoor

theorem two_match {evs : List Ev} {p q : ASt} {win : Int} {t : List Nat} : MatchOK [[p, q]] win evs t ↔ ∃ i, t = [i, evs.length - 1] ∧ i < evs.length - 1 ∧ p.fits [] (evAt evs i) = true ∧ q.fits [evAt evs i] (evAt evs (evs.length - 1)) = true ∧ (∀ h, i < h → h < evs.length - 1 → q.stops [evAt evs i] (evAt evs h) = false) ∧ lastT evs - (evAt evs i).time < win := by
  unfold MatchOK
  constructor
  · rintro ⟨k, hk, hm, hw⟩
    have : k = 0 := by simp at hk; exact hk
    subst this
    obtain ⟨h1, h2, h3, h4⟩ := hm
    have h3' : t.length = 2 := h3
    obtain ⟨i, j, rfl⟩ : ∃ i j, t = [i, j] := by
      match t, h3' with
      | [i, j], _ => exact ⟨i, j, rfl⟩
    obtain ⟨g1, g2, _⟩ := h2
    have e4 : j + 1 = evs.length := h4
    have ej : j = evs.length - 1 := by omega
    obtain ⟨_, a2, a3, _⟩ := g1
    obtain ⟨b1, b2, b3, b4⟩ := g2
    have b1' : i + 1 ≤ j := b1
    subst ej
    refine ⟨i, rfl, by omega, a3, b3, fun h x y => ?_, hw⟩
    rcases b4 with b4 | b4
    · simp at b4
    · exact b4 h x y
  · rintro ⟨i, rfl, h1, h2, h3, h4, h5⟩
    refine ⟨0, by simp, ⟨by simp, ⟨⟨by simp [startP], by omega, h2, .inl rfl⟩, ⟨?_, by omega, h3, .inr (fun h x y => h4 h x y)⟩, trivial⟩, rfl, ?_⟩, h5⟩
    · show i + 1 ≤ _
      omega
    · show evs.length - 1 + 1 = _
      omega
theorem guard_left {evs : List Ev} {p q g : ASt} {win : Int} (hq : ∀ es e, q.stops es e = false) (hg : ∀ es e, g.fits es e = q.fits es e) {xs ys : List (List Nat)} (hx : SortedL xs) (hy : SortedL ys) (mx : ∀ t, t ∈ xs ↔ MatchOK [[p, q]] win evs t) (my : ∀ t, t ∈ ys ↔ MatchOK [[p, g]] win evs t) (f : List Nat → Bool) (hf : ∀ i, i < evs.length - 1 → (f [i, evs.length - 1] = true ↔ ∀ h, i < h → h < evs.length - 1 → g.stops [evAt evs i] (evAt evs h) = false)) : ys = xs.filter f := by
  refine sorted_uniq hy (List.Pairwise.filter _ hx) (fun t => ?_)
  rw [my, List.mem_filter, mx, two_match, two_match]
  constructor
  · rintro ⟨i, rfl, h1, h2, h3, h4, h5⟩
    rw [hg] at h3
    exact ⟨⟨i, rfl, h1, h2, h3, fun h _ _ => hq _ _, h5⟩, (hf i h1).2 h4⟩
  · rintro ⟨⟨i, rfl, h1, h2, h3, h4, h5⟩, h6⟩
    exact ⟨i, rfl, h1, h2, by rw [hg]; exact h3, (hf i h1).1 h6, h5⟩
theorem two_shape {evs : List Ev} {p q : ASt} {win : Int} {xs : List (List Nat)} (mx : ∀ t, t ∈ xs ↔ MatchOK [[p, q]] win evs t) {n : Nat} (hn : n < xs.length) : ∃ i, xs[n] = [i, evs.length - 1] ∧ i < evs.length - 1 := by
  obtain ⟨i, h1, h2, _⟩ := two_match.1 ((mx xs[n]).1 (List.getElem_mem hn))
  exact ⟨i, h1, h2⟩
end Go.Proofs.YtddbjcfdmdbmkaaGreatDoor

namespace Go.Proofs.YtddbjcfdmdbmkaaGreatDoor

theorem either_match {pa pb : List (List ASt)} {win : Int} {evs : List Ev} {t : List Nat} : MatchOK (pa ++ pb) win evs t ↔ MatchOK pa win evs t ∨ MatchOK pb win evs t := by
  have hL : ∀ i, i < pa.length → pathAt (pa ++ pb) i = pathAt pa i := fun i hi => by
    unfold pathAt; rw [List.getD_eq_getElem?_getD, List.getD_eq_getElem?_getD, List.getElem?_append_left hi]
  have hR : ∀ i, pathAt (pa ++ pb) (pa.length + i) = pathAt pb i := fun i => by
    unfold pathAt; rw [List.getD_eq_getElem?_getD, List.getD_eq_getElem?_getD, List.getElem?_append_right (by omega), Nat.add_sub_cancel_left]
  unfold MatchOK
  constructor
  · rintro ⟨i, hi, hm, hw⟩
    by_cases h : i < pa.length
    · left; rw [hL i h] at hm; exact ⟨i, h, hm, hw⟩
    · right
      obtain ⟨j, rfl⟩ : ∃ j, i = pa.length + j := ⟨i - pa.length, by omega⟩
      rw [hR] at hm
      rw [List.length_append] at hi
      exact ⟨j, by omega, hm, hw⟩
  · rintro (⟨i, hi, hm, hw⟩ | ⟨i, hi, hm, hw⟩)
    · exact ⟨i, by rw [List.length_append]; omega, by rw [hL i hi]; exact hm, hw⟩
    · exact ⟨pa.length + i, by rw [List.length_append]; omega, by rw [hR]; exact hm, hw⟩
theorem either_runs {pa pb : List (List ASt)} {win : Int} {evs : List Ev} (hm : Mono evs) {ra rb rc : List (Nat × List Nat)} (ha : Kept1 pa win evs (lastT evs) ra) (hb : Kept1 pb win evs (lastT evs) rb) (hc : Kept1 (pa ++ pb) win evs (lastT evs) rc) : rc.length = ra.length + rb.length := by
  rw [ha.same_len (look_kept hm), hb.same_len (look_kept hm), hc.same_len (look_kept hm), allLook_len, allLook_len, allLook_len, List.map_append, List.sum_append]
structure UnI (a b out : List (List Nat)) (i k : Nat) : Prop where
  ha : i ≤ a.length
  hb : k ≤ b.length
  sorted : SortedL out
  mem : ∀ t, t ∈ out ↔ t ∈ a.take i ∨ t ∈ b.take k
  below : ∀ x ∈ out, ∀ y, y ∈ a.drop i ∨ y ∈ b.drop k → ltL x y
theorem UnI.start (a b : List (List Nat)) : UnI a b [] 0 0 := ⟨by omega, by omega, List.Pairwise.nil, by simp, by simp⟩
theorem sorted_drop {l : List (List Nat)} (h : SortedL l) {i : Nat} (hi : i < l.length) : ∀ y ∈ l.drop (i + 1), ltL l[i] y := by
  intro y hy
  have h1 : l.drop i = l[i] :: l.drop (i + 1) := List.drop_eq_getElem_cons hi
  have h2 : (l.drop i).Pairwise ltL := List.Pairwise.drop h
  rw [h1] at h2
  exact (List.pairwise_cons.1 h2).1 y hy
theorem mem_take1 {l : List (List Nat)} {i : Nat} (hi : i < l.length) {t : List Nat} : t ∈ l.take (i + 1) ↔ t ∈ l.take i ∨ t = l[i] := by
  rw [List.take_succ_eq_append_getElem hi, List.mem_append, List.mem_singleton]
theorem mem_drop1 {l : List (List Nat)} {i : Nat} (hi : i < l.length) {t : List Nat} : t ∈ l.drop i ↔ t = l[i] ∨ t ∈ l.drop (i + 1) := by
  rw [List.drop_eq_getElem_cons hi, List.mem_cons]
theorem sorted_snoc {l : List (List Nat)} {x : List Nat} (h : SortedL l) (hx : ∀ y ∈ l, ltL y x) : SortedL (l ++ [x]) := by
  unfold SortedL
  rw [List.pairwise_append]
  exact ⟨h, List.pairwise_singleton _ _, fun a ha b hb => by rw [List.mem_singleton.1 hb]; exact hx a ha⟩
theorem UnI.left {a b out : List (List Nat)} {i k : Nat} (h : UnI a b out i k) (sa : SortedL a) (sb : SortedL b) (hi : i < a.length) (hl : ∀ hk : k < b.length, ltL a[i] b[k]) : UnI a b (out ++ [a[i]]) (i + 1) k := by
  refine ⟨hi, h.hb, sorted_snoc h.sorted (fun y hy => h.below y hy _ (.inl ((mem_drop1 hi).2 (.inl rfl)))), fun t => ?_, fun x hx y hy => ?_⟩
  · rw [List.mem_append, h.mem, mem_take1 hi, List.mem_singleton]
    constructor
    · rintro ((p | p) | p) <;> simp [p]
    · rintro ((p | p) | p) <;> simp [p]
  · rcases List.mem_append.1 hx with hx | hx
    · refine h.below x hx y ?_
      rcases hy with hy | hy
      · exact .inl ((mem_drop1 hi).2 (.inr hy))
      · exact .inr hy
    · rw [List.mem_singleton.1 hx]
      rcases hy with hy | hy
      · exact sorted_drop sa hi y hy
      · by_cases hk : k < b.length
        · rcases (mem_drop1 hk).1 hy with rfl | hy
          · exact hl hk
          · exact ltL_trans (hl hk) (sorted_drop sb hk y hy)
        · rw [List.drop_eq_nil_of_le (by omega)] at hy; simp at hy
theorem UnI.right {a b out : List (List Nat)} {i k : Nat} (h : UnI a b out i k) (sa : SortedL a) (sb : SortedL b) (hk : k < b.length) (hl : ∀ hi : i < a.length, ltL b[k] a[i]) : UnI a b (out ++ [b[k]]) i (k + 1) := by
  have h' : UnI b a out k i := ⟨h.hb, h.ha, h.sorted, fun t => by rw [h.mem]; exact Or.comm, fun x hx y hy => h.below x hx y hy.symm⟩
  have := h'.left sb sa hk hl
  exact ⟨this.hb, this.ha, this.sorted, fun t => by rw [this.mem]; exact Or.comm, fun x hx y hy => this.below x hx y hy.symm⟩
theorem UnI.both {a b out : List (List Nat)} {i k : Nat} (h : UnI a b out i k) (sa : SortedL a) (sb : SortedL b) (hi : i < a.length) (hk : k < b.length) (e : a[i] = b[k]) : UnI a b (out ++ [a[i]]) (i + 1) (k + 1) := by
  refine ⟨hi, hk, sorted_snoc h.sorted (fun y hy => h.below y hy _ (.inl ((mem_drop1 hi).2 (.inl rfl)))), fun t => ?_, fun x hx y hy => ?_⟩
  · rw [List.mem_append, h.mem, mem_take1 hi, mem_take1 hk, List.mem_singleton, ← e]
    constructor
    · rintro ((p | p) | p) <;> simp [p]
    · rintro ((p | p) | (p | p)) <;> simp [p]
  · rcases List.mem_append.1 hx with hx | hx
    · refine h.below x hx y ?_
      rcases hy with hy | hy
      · exact .inl ((mem_drop1 hi).2 (.inr hy))
      · exact .inr ((mem_drop1 hk).2 (.inr hy))
    · rw [List.mem_singleton.1 hx]
      rcases hy with hy | hy
      · exact sorted_drop sa hi y hy
      · rw [e]; exact sorted_drop sb hk y hy
theorem UnI.all {a b out z : List (List Nat)} (h : UnI a b out a.length b.length) (hz : SortedL z) (hm : ∀ t, t ∈ z ↔ t ∈ a ∨ t ∈ b) : out = z := by
  refine sorted_uniq h.sorted hz (fun t => ?_)
  rw [h.mem, hm, List.take_length, List.take_length]
end Go.Proofs.YtddbjcfdmdbmkaaGreatDoor

namespace Go.Proofs.YtddbjcfdmdbmkaaGreatDoor

theorem cho_tab : ((List.range 9).all fun m => (List.range 9).all fun k => decide (cho m k ≤ 1000)) = true := by decide
theorem cho_few {m k : Nat} (hm : m ≤ 8) (hk : k ≤ 8) : cho m k ≤ 1000 := by
  have := List.all_eq_true.1 cho_tab m (List.mem_range.2 (by omega))
  have := List.all_eq_true.1 this k (List.mem_range.2 (by omega))
  simpa using this
theorem win_ex {win : Int} (hw : 0 < win) {evs : List Ev} (hm : Mono evs) (hne : evs ≠ []) : ∃ lo, Win win evs (lastT evs) lo := by
  have hp : 0 < evs.length := List.length_pos_iff.2 hne
  have h0 : Win win evs (evAt evs 0).time 0 := ⟨Nat.zero_le _, fun i h => by omega, fun i _ h => by
    have := hm 0 i (Nat.zero_le _) h
    omega⟩
  exact ⟨_, h0.later hm (hm 0 (evs.length - 1) (Nat.zero_le _) (by omega))⟩
theorem match_few {p : List ASt} {win : Int} {evs : List Ev} {e : Ev} {rate : Nat} {ys : List (List Nat)} (hw : 0 < win) (hm : Mono (evs ++ [e])) (hf : feedFP win rate evs e.time = 0) (hr : rate ≤ 8) (hp : p.length ≤ 8) (s : SortedL ys) (hmem : ∀ t, t ∈ ys ↔ MatchOK [p] win (evs ++ [e]) t) : ys.length ≤ 1000 := by
  have hne : evs ++ [e] ≠ [] := by simp
  have hlast : lastT (evs ++ [e]) = e.time := by
    unfold lastT
    rw [List.length_append, List.length_singleton, Nat.add_sub_cancel, evAt_new]
  obtain ⟨lo, hW⟩ := win_ex hw hm hne
  have hc := hW.cnt
  have hc2 : cntNear win (evs ++ [e]) e.time = cntNear win evs e.time + 1 := by
    unfold cntNear
    rw [List.countP_append]
    simp [hw]
  have hc3 := (feedF0 hf).2
  rw [hlast, hc2] at hc
  have hlen : (evs ++ [e]).length - lo ≤ rate := by omega
  have hsub : ∀ t ∈ ys, t ∈ combs lo ((evs ++ [e]).length - lo) p.length := by
    intro t ht
    obtain ⟨i, hi, ⟨h1, h2, h3, h4⟩, h5⟩ := (hmem t).1 ht
    have hi0 : i = 0 := by simpa using hi
    subst hi0
    have h3' : t.length = p.length := h3
    have hn := (near_all h2 h1 hm).2 h5
    have hlt : ∀ j ∈ t, j < (evs ++ [e]).length := by simpa using ext_lt h2 (by simp)
    have := combs_mem ((evs ++ [e]).length - lo) lo t (ext_rising h2) (fun j hj => by
      have h6 : lo ≤ j := by
        by_cases hjl : lo ≤ j
        · exact hjl
        · exact absurd (hn j hj) (hW.2 j (by omega))
      have h7 := hlt j hj
      exact ⟨h6, by omega⟩)
    rwa [h3'] at this
  have h1 := nodup_len ys _ (sorted_nodup s) hsub
  rw [combs_len] at h1
  have h2 := cho_few (m := (evs ++ [e]).length - lo) (k := p.length) (by omega) hp
  omega
theorem match_small {p : List ASt} {win : Int} {evs : List Ev} {t : List Nat} (h : MatchOK [p] win evs t) : t.length = p.length ∧ ∀ z ∈ t, z < evs.length := by
  obtain ⟨i, hi, ⟨h1, h2, h3, h4⟩, h5⟩ := h
  have hi0 : i = 0 := by simpa using hi
  subst hi0
  exact ⟨h3, by simpa using ext_lt h2 (by simp)⟩
end Go.Proofs.YtddbjcfdmdbmkaaGreatDoor
