import Derived.Test.YtddbjcfdmdbmkaaGreatDoorB30
set_option linter.unusedVariables false
set_option linter.unusedSimpArgs false
/-
  Printing, plain: what is read alike at other places.
-/
namespace Go.Proofs.YtddbjcfdmdbmkaaGreatDoor
open Go.RowKit

/-- Tokens that are read alike, at other places. -/
structure Mv (f : Nat → Nat) (g : STok → STok) : Prop where
  zero : f 0 = 0
  none : ∀ p, g ⟨0, p, ⟨#[]⟩⟩ = ⟨0, f p, ⟨#[]⟩⟩
  two : ∀ t, ((g t).kind = 2) = (t.kind = 2)
  three : ∀ t, ((g t).kind = 3) = (t.kind = 3)
  place : ∀ t, (g t).place = f t.place
  text : ∀ t, t.kind ≠ 2 → (g t).text = t.text
  kw : ∀ t, ∀ k ∈ KW, (k.toList == (g t).text.toList) = (k.toList == t.text.toList)
  val : ∀ t, numVal (g t).text = numVal t.text
def mvOp (f : Nat → Nat) (o : POp) : POp := { o with place := f o.place }
mutual
def mvPart (f : Nat → Nat) : PPart → PPart
  | .mk n p t k c ch => .mk n (f p) t k (c.map (mvOp f)) (mvLL f ch)
def mvL (f : Nat → Nat) : List PPart → List PPart
  | [] => []
  | p :: l => mvPart f p :: mvL f l
def mvLL (f : Nat → Nat) : List (List PPart) → List (List PPart)
  | [] => []
  | l :: r => mvL f l :: mvLL f r
end
theorem mvL_map (f : Nat → Nat) (l : List PPart) : mvL f l = l.map (mvPart f) := by
  induction l with
  | nil => rw [mvL]; rfl
  | cons p l ih => rw [mvL, ih]; rfl
theorem mvLL_map (f : Nat → Nat) (l : List (List PPart)) : mvLL f l = l.map (List.map (mvPart f)) := by
  induction l with
  | nil => rw [mvLL]; rfl
  | cons p l ih => rw [mvLL, ih, mvL_map]; rfl
theorem mvPart_eq (f : Nat → Nat) (n : ByteArray) (p t k : Nat) (c : List POp) (ch : List (List PPart)) : mvPart f (.mk n p t k c ch) = .mk n (f p) t k (c.map (mvOp f)) (ch.map (List.map (mvPart f))) := by rw [mvPart, mvLL_map]
theorem mv_name (f : Nat → Nat) (p : PPart) : (mvPart f p).name = p.name := by cases p; rw [mvPart_eq]; rfl
theorem mv_place (f : Nat → Nat) (p : PPart) : (mvPart f p).place = f p.place := by cases p; rw [mvPart_eq]; rfl
theorem mv_times (f : Nat → Nat) (p : PPart) : (mvPart f p).times = p.times := by cases p; rw [mvPart_eq]; rfl
theorem mv_cond (f : Nat → Nat) (p : PPart) : (mvPart f p).cond = p.cond.map (mvOp f) := by cases p; rw [mvPart_eq]; rfl
theorem mv_choices (f : Nat → Nat) (p : PPart) : (mvPart f p).choices = p.choices.map (List.map (mvPart f)) := by cases p; rw [mvPart_eq]; rfl
def mvRd (f : Nat → Nat) (g : STok → STok) (σ : Rd) : Rd := ⟨σ.ahead.map g, σ.deep, σ.td.map f, σ.bn.map f, σ.ops.map (·.map (mvOp f))⟩
theorem bytes_eq {a b : ByteArray} (h : a.toList = b.toList) : a = b := by
  rw [toList_data, toList_data] at h
  cases a; cases b
  simp only at h
  congr 1
  exact Array.toList_inj.1 h
section
variable {f : Nat → Nat} {g : STok → STok} (M : Mv f g)
include M
theorem mv_tok0 (p : Nat) : g ⟨0, p, ⟨#[]⟩⟩ = ⟨0, f p, ⟨#[]⟩⟩ := M.none p
theorem mv_now (σ : Rd) : (mvRd f g σ).now = g σ.now := by
  cases σ with | mk a d t b o =>
  cases a with
  | nil =>
    show default = g default
    have := mv_tok0 M 0
    rw [M.zero] at this
    exact this.symm
  | cons _ _ => rfl
omit M in
theorem mv_skip (σ : Rd) : (mvRd f g σ).skip = mvRd f g σ.skip := by
  cases σ with | mk a d t b o => cases a <;> rfl
theorem mv_fail (σ : Rd) : (mvRd f g σ).fail = mvRd f g σ.fail := by
  unfold Rd.fail
  rw [mv_now M, M.place]
  unfold mvRd
  simp only [List.map_cons, List.map_nil]
  rw [mv_tok0 M]
theorem mv_has (σ : Rd) {ts : List ByteArray} (h : ∀ t ∈ ts, t ∈ KW) : (mvRd f g σ).has ts = σ.has ts := by
  unfold Rd.has
  rw [mv_now M]
  rw [Bool.eq_iff_iff, List.any_eq_true, List.any_eq_true]
  constructor
  · rintro ⟨x, hx, he⟩; exact ⟨x, hx, by rw [← M.kw _ _ (h x hx)]; exact he⟩
  · rintro ⟨x, hx, he⟩; exact ⟨x, hx, by rw [M.kw _ _ (h x hx)]; exact he⟩
theorem mv_same (σ : Rd) {ts : List ByteArray} (h : ∀ t ∈ ts, t ∈ KW) (hh : σ.has ts = true) : (g σ.now).text = σ.now.text := by
  unfold Rd.has at hh
  rw [List.any_eq_true] at hh
  obtain ⟨x, hx, he⟩ := hh
  have := M.kw σ.now x (h x hx)
  rw [he] at this
  exact bytes_eq ((beq_iff_eq.1 this).symm.trans (beq_iff_eq.1 he))
theorem mv_is (σ : Rd) {t : ByteArray} (h : t ∈ KW) : (mvRd f g σ).now.is t = σ.now.is t := by
  have := mv_has M σ (ts := [t]) (by simpa using h)
  unfold Rd.has at this
  simp only [List.any_cons, List.any_nil, Bool.or_false] at this
  unfold STok.is
  rw [Bool.eq_iff_iff] at this ⊢
  simp only [beq_iff_eq] at this ⊢
  exact ⟨fun e => (this.1 e.symm).symm, fun e => (this.2 e.symm).symm⟩
theorem mv_two (σ : Rd) : ((mvRd f g σ).now.kind = 2) = (σ.now.kind = 2) := by rw [mv_now M, M.two]
theorem mv_three (σ : Rd) : ((mvRd f g σ).now.kind = 3) = (σ.now.kind = 3) := by rw [mv_now M, M.three]
theorem mv_whichV (σ : Rd) {ts : List ByteArray} (h : ∀ t ∈ ts, t ∈ KW) : (mvRd f g σ).whichV ts = σ.whichV ts := by
  unfold Rd.whichV
  rw [mv_has M σ h]
  split
  · rename_i hh; rw [mv_now M, mv_same M σ h hh]
  · rfl
theorem mv_expect (σ : Rd) {ts : List ByteArray} (h : ∀ t ∈ ts, t ∈ KW) : (mvRd f g σ).expect ts = mvRd f g (σ.expect ts) := by
  unfold Rd.expect
  rw [mv_has M σ h]
  split
  · exact mv_skip σ
  · exact mv_fail M σ
omit M in
theorem mv_mark (m : Option Nat) (p : Nat) : markPut (m.map f) (f p) = (markPut m p).map f := by cases m <;> rfl
theorem mv_numV (σ : Rd) : (mvRd f g σ).numV = σ.numV := by
  unfold Rd.numV
  simp only [mv_now M, M.two, M.val]
theorem mv_num (σ : Rd) (lo hi : Nat) : (mvRd f g σ).num lo hi = mvRd f g (σ.num lo hi) := by
  unfold Rd.num
  simp only [mv_now M, M.two, M.val, M.place, mv_skip]
  split
  · unfold mvRd
    simp only
    congr 1
    show (if _ then markPut (σ.bn.map f) (f σ.now.place) else σ.bn.map f) = _
    rw [mv_mark]
    split <;> rfl
  · exact mv_fail M σ
theorem mv_enter (σ : Rd) : (mvRd f g σ).enter = mvRd f g σ.enter := by
  unfold Rd.enter
  rw [mv_now M, M.place, mv_skip]
  unfold mvRd
  simp only
  congr 1
  show (if _ then markPut (σ.td.map f) (f σ.now.place) else σ.td.map f) = _
  rw [mv_mark]
  split <;> rfl
omit M in
theorem mv_leave (σ : Rd) : (mvRd f g σ).leave = mvRd f g σ.leave := rfl
omit M in
theorem mv_put (σ : Rd) (o : POp) : (mvRd f g σ).put (mvOp f o) = mvRd f g (σ.put o) := by
  unfold Rd.put mvRd
  simp only
  congr 1
  cases σ.ops <;> simp
theorem mv_op0 (a : ByteArray) (n : Nat) (b : ByteArray) : mvOp f ⟨a, n, b, 0⟩ = ⟨a, n, b, 0⟩ := by unfold mvOp; rw [M.zero]
theorem mv_put0 (σ : Rd) (a : ByteArray) (n : Nat) (b : ByteArray) : (mvRd f g σ).put ⟨a, n, b, 0⟩ = mvRd f g (σ.put ⟨a, n, b, 0⟩) := by
  have := mv_put (f := f) (g := g) σ ⟨a, n, b, 0⟩
  rw [mv_op0 M] at this
  exact this
omit M in
theorem mv_len (σ : Rd) : (mvRd f g σ).ahead.length = σ.ahead.length := by unfold mvRd; simp
/-- what moves with its tokens -/
def Moves (f : Nat → Nat) (g : STok → STok) (part : Rd → Rd) : Prop := ∀ σ, part (mvRd f g σ) = mvRd f g (part σ)
theorem mv_chainL {part : Rd → Rd} (hp : Moves f g part) {ts : List ByteArray} (h : ∀ t ∈ ts, t ∈ KW) : ∀ n, Moves f g (chainL part ts n) := by
  intro n
  induction n with
  | zero => intro σ; rfl
  | succ n ih =>
    intro σ
    unfold chainL
    rw [mv_has M σ h]
    split
    · rename_i hh
      rw [mv_now M, mv_same M σ h hh, mv_skip, hp, mv_put0 M, ih]
    · rfl
theorem mv_chain {part : Rd → Rd} (hp : Moves f g part) {ts : List ByteArray} (h : ∀ t ∈ ts, t ∈ KW) : Moves f g (chainP part ts) := by
  intro σ
  unfold chainP
  rw [hp, mv_len, mv_chainL M hp h]
theorem mv_field (σ : Rd) (name : ByteArray) (place : Nat) : fieldP (mvRd f g σ) name (f place) = mvRd f g (fieldP σ name place) := by
  unfold fieldP
  rw [mv_skip, mv_expect M _ (by simp [KW]), mv_expect M _ (by intro t ht; simp only [KW, List.mem_append]; exact .inr ht), mv_whichV M _ (by intro t ht; simp only [KW, List.mem_append]; exact .inr ht)]
  rw [← mv_put]
  rfl
theorem mv_sum {part : Rd → Rd} (hp : Moves f g part) : Moves f g (sumP part) :=
  mv_chain M (mv_chain M hp (by simp [KW])) (by simp [KW])
theorem mv_factor : ∀ n, Moves f g (factorP n) := by
  intro n
  induction n with
  | zero => intro σ; rfl
  | succ n ih =>
    intro σ
    unfold factorP
    simp only [mv_two M, mv_three M]
    rw [mv_is M σ (t := tMinus) (by simp [KW]), mv_is M σ (t := tOpen) (by simp [KW]), mv_is M σ (t := tIt) (by simp [KW])]
    split
    · rw [mv_num M, mv_numV M, mv_put0 M]
    · split
      · rw [mv_enter M, ih, mv_leave, mv_put0 M]
      · split
        · rw [mv_enter M, mv_sum M ih, mv_expect M _ (by simp [KW]), mv_leave]
        · split
          · rename_i hk
            rw [mv_now M, M.text _ (by omega), M.place, mv_field M]
          · split
            · have := mv_field M σ ⟨#[]⟩ 0
              rw [M.zero] at this
              exact this
            · exact mv_fail M σ
theorem mv_test {part : Rd → Rd} (hp : Moves f g part) : Moves f g (testP part) := by
  intro σ
  have hk : ∀ t ∈ sTest, t ∈ KW := by intro t ht; simp only [KW, List.mem_append]; exact .inl (.inr ht)
  unfold testP
  rw [mv_sum M hp, mv_expect M _ hk, mv_whichV M _ hk, mv_sum M hp, mv_put0 M]
theorem mv_condP (n : Nat) : Moves f g (condP n) := by
  intro σ
  unfold condP
  rw [mv_has M σ (by simp [KW])]
  split
  · have := mv_chain M (mv_chain M (mv_test M (mv_factor M n)) (ts := [tAnd]) (by simp [KW])) (ts := [tOr]) (by simp [KW]) { σ.skip with ops := some [] }
    show chainP (bothP (factorP n)) [tOr] _ = _
    unfold bothP
    rw [← this]
    congr 1
    rw [mv_skip]; rfl
  · rfl
omit M in
theorem mv_opsL (σ : Rd) : (mvRd f g σ).opsL = σ.opsL.map (mvOp f) := by
  unfold Rd.opsL mvRd
  simp only
  cases σ.ops <;> simp
omit M in
theorem mv_dead (σ : Rd) : (mvRd f g σ).dead = mvRd f g σ.dead := rfl
def MovesP (f : Nat → Nat) (g : STok → STok) (part : Rd → Rd × PPart) : Prop := ∀ σ, part (mvRd f g σ) = (mvRd f g (part σ).1, mvPart f (part σ).2)
def MovesS (f : Nat → Nat) (g : STok → STok) (seq : Rd → Rd × List PPart) : Prop := ∀ σ, seq (mvRd f g σ) = (mvRd f g (seq σ).1, (seq σ).2.map (mvPart f))
theorem mv_step (n : Nat) (σ : Rd) (hk : σ.now.kind = 3) : stepP n (mvRd f g σ) = (mvRd f g (stepP n σ).1, mvPart f (stepP n σ).2) := by
  unfold stepP
  simp only
  rw [mv_now M, M.text _ (by omega), M.place, mv_skip, mv_expect M _ (by simp [KW]), mv_num M, mv_numV M, mv_has M _ (by simp [KW])]
  split
  · rw [mv_skip, mv_num M, mv_numV M, mv_condP M, mv_opsL, mv_dead, mvPart_eq]; rfl
  · rw [mv_condP M, mv_opsL, mv_dead, mvPart_eq]; rfl
theorem mv_guard (n : Nat) (σ : Rd) : guardP n (mvRd f g σ) = (mvRd f g (guardP n σ).1, mvPart f (guardP n σ).2) := by
  unfold guardP
  simp only
  rw [mv_now M, M.place, mv_skip, mv_num M, mv_numV M, mv_condP M, mv_opsL, mv_dead, mvPart_eq]; rfl
theorem mv_seqL {part : Rd → Rd × PPart} (hp : MovesP f g part) : ∀ n σ l, seqL part n (mvRd f g σ) (l.map (mvPart f)) = (mvRd f g (seqL part n σ l).1, (seqL part n σ l).2.map (mvPart f)) := by
  intro n
  induction n with
  | zero => intro σ l; rfl
  | succ n ih =>
    intro σ l
    unfold seqL
    rw [mv_has M σ (by simp [KW])]
    split
    · rw [mv_skip, hp]
      simp only
      rw [← ih, List.map_append]; rfl
    · rfl
theorem mv_seq {part : Rd → Rd × PPart} (hp : MovesP f g part) : MovesS f g (seqP part) := by
  intro σ
  unfold seqP
  rw [hp]
  simp only
  rw [mv_len]
  exact mv_seqL M hp _ _ [(part σ).2]
theorem mv_barL {seq : Rd → Rd × List PPart} (hp : MovesS f g seq) : ∀ n σ l, barL seq n (mvRd f g σ) (l.map (List.map (mvPart f))) = (mvRd f g (barL seq n σ l).1, (barL seq n σ l).2.map (List.map (mvPart f))) := by
  intro n
  induction n with
  | zero => intro σ l; rfl
  | succ n ih =>
    intro σ l
    unfold barL
    rw [mv_has M σ (by simp [KW])]
    split
    · rw [mv_skip, hp]
      simp only
      rw [← ih, List.map_append]; rfl
    · rfl
theorem mv_brackets {seq : Rd → Rd × List PPart} (hp : MovesS f g seq) : MovesP f g (bracketsP seq) := by
  intro σ
  unfold bracketsP
  simp only
  rw [mv_enter M, hp]
  simp only
  rw [mv_expect M _ (by simp [KW]), hp]
  simp only
  rw [mv_len]
  have := mv_barL M hp (seq ((seq σ.enter).1.expect [tBar])).1.ahead.length (seq ((seq σ.enter).1.expect [tBar])).1 [(seq σ.enter).2, (seq ((seq σ.enter).1.expect [tBar])).2]
  simp only [List.map_cons, List.map_nil] at this
  rw [this]
  simp only
  rw [mv_expect M _ (by simp [KW]), mv_leave, mvPart_eq, M.zero]
  rfl
theorem mv_default : mvPart f default = default := by
  show mvPart f (.mk ⟨#[]⟩ 0 0 0 [] []) = _
  rw [mvPart_eq, M.zero]; rfl
theorem mv_part : ∀ n, MovesP f g (partP n) := by
  intro n
  induction n with
  | zero => intro σ; show (mvRd f g σ, default) = (mvRd f g σ, mvPart f default); rw [mv_default M]
  | succ n ih =>
    intro σ
    unfold partP
    simp only [mv_three M]
    rw [mv_is M σ (t := tNot) (by simp [KW]), mv_is M σ (t := tOpen) (by simp [KW])]
    split
    · rename_i hk; exact mv_step M n σ hk
    · split
      · exact mv_guard M n σ
      · split
        · exact mv_brackets M (mv_seq M ih) σ
        · rw [mv_fail M, mv_default M]
theorem mv_pat (n : Nat) (σ : Rd) : patP n (mvRd f g σ) = (mvRd f g (patP n σ).1, ⟨(patP n σ).2.window, (patP n σ).2.rate, (patP n σ).2.body.map (mvPart f)⟩) := by
  unfold patP
  simp only
  rw [mv_expect M _ (by simp [KW]), mv_num M, mv_expect M _ (by simp [KW]), mv_num M, mv_numV M, mv_numV M, mv_seq M (mv_part M n)]
/-- what was read without an error is so at other places, too -/
theorem mv_read (h1 : ∀ t, ((g t).kind = 1) = (t.kind = 1)) {ts : List STok} {pat : PPat} {z : Nat} (h : readP ts = .inl (pat, z)) : readP (ts.map g) = .inl (⟨pat.window, pat.rate, pat.body.map (mvPart f)⟩, z) := by
  have e : rd0 (ts.map g) = mvRd f g (rd0 ts) := rfl
  unfold readP at h ⊢
  simp only at h ⊢
  rw [List.length_map, e, mv_pat M]
  simp only
  have hk1 : ((mvRd f g (patP ts.length (rd0 ts)).1).now.kind = 1) = ((patP ts.length (rd0 ts)).1.now.kind = 1) := by rw [mv_now M, h1]
  simp only [ne_eq, hk1] at h ⊢
  split at h
  · cases h
  · rename_i hk
    rw [if_neg hk]
    cases htd : (patP ts.length (rd0 ts)).1.td with
    | some p => rw [htd] at h; cases h
    | none =>
      rw [htd] at h
      simp only at h
      cases hbn : (patP ts.length (rd0 ts)).1.bn with
      | some p => rw [hbn] at h; cases h
      | none =>
        rw [hbn] at h
        simp only at h
        have h1 : (mvRd f g (patP ts.length (rd0 ts)).1).td = none := by show Option.map f _ = _; rw [htd]; rfl
        have h2 : (mvRd f g (patP ts.length (rd0 ts)).1).bn = none := by show Option.map f _ = _; rw [hbn]; rfl
        rw [h1, h2]
        simp only
        injection h with h
        injection h with ha hb
        rw [← ha, ← hb]
end
/-- What was read without an error was read to an end. -/
theorem read_ends {ts : List STok} {pat : PPat} {z : Nat} (h : readP ts = .inl (pat, z)) : ∃ t ∈ ts, t.kind = 1 := by
  by_cases hn : ∃ t ∈ ts, t.kind = 1
  · exact hn
  exfalso
  have M : Mv id (fun t => if t.kind = 1 then { t with kind := 0 } else t) := by
    refine ⟨rfl, fun p => rfl, fun t => ?_, fun t => ?_, fun t => ?_, fun t => ?_, fun t k _ => ?_, fun t => ?_⟩
    · split
      · rename_i h; simp [h]
      · rfl
    · split
      · rename_i h; simp [h]
      · rfl
    all_goals first | (intro _; split <;> rfl) | (split <;> rfl)
  have e : ts.map (fun t => if t.kind = 1 then { t with kind := 0 } else t) = ts := by
    refine (List.map_congr_left (g := id) fun t ht => ?_).trans (List.map_id _)
    rw [if_neg (fun e => hn ⟨t, ht, e⟩)]; rfl
  have := mv_pat M ts.length (rd0 ts)
  have e2 : mvRd id (fun t => if t.kind = 1 then { t with kind := 0 } else t) (rd0 ts) = rd0 ts := by
    show (⟨ts.map _, 0, none, none, some []⟩ : Rd) = _
    rw [e]; rfl
  rw [e2] at this
  have hnow := mv_now M (patP ts.length (rd0 ts)).1
  have h1 := congrArg Prod.fst this
  simp only at h1
  rw [← h1] at hnow
  unfold readP at h
  simp only at h
  split at h
  · cases h
  · rename_i hk
    have hk : (patP ts.length (rd0 ts)).1.now.kind = 1 := by omega
    rw [if_pos hk] at hnow
    have := congrArg STok.kind hnow
    simp only at this
    omega
end Go.Proofs.YtddbjcfdmdbmkaaGreatDoor

/-
  Printing, plain: what is made of it, too.
-/
namespace Go.Proofs.YtddbjcfdmdbmkaaGreatDoor
open Go.RowKit

theorem mv_isStep (f : Nat → Nat) (p : PPart) : isStepB (mvPart f p) = isStepB p := by unfold isStepB; rw [mv_name]
theorem mv_stepsN (f : Nat → Nat) (l : List PPart) : stepsN (l.map (mvPart f)) = stepsN l := by
  unfold stepsN
  rw [List.filter_map, List.length_map]
  congr 2
  funext p
  exact mv_isStep f p
theorem mv_sizePart (f : Nat → Nat) {rec : List PPart → Nat × Nat} (hr : ∀ l, rec (l.map (mvPart f)) = rec l) (p : PPart) : sizePartP rec (mvPart f p) = sizePartP rec p := by
  unfold sizePartP
  rw [mv_choices, mv_times, List.isEmpty_map]
  split
  · rfl
  · rw [List.foldl_map]
    simp only [hr]
theorem mv_size (f : Nat → Nat) : ∀ n l, sizeP n (l.map (mvPart f)) = sizeP n l := by
  intro n
  induction n with
  | zero => intro l; rfl
  | succ n ih =>
    intro l
    unfold sizeP
    rw [List.foldl_map]
    congr 1
    funext a p
    unfold sizeStep
    rw [mv_sizePart f ih]
theorem mv_each (f : Nat → Nat) (a b : List (List PPart)) : eachP (a.map (List.map (mvPart f))) (b.map (List.map (mvPart f))) = (eachP a b).map (List.map (mvPart f)) := by
  unfold eachP
  rw [List.flatMap_map, List.map_flatMap]
  congr 1
  funext x
  rw [List.map_map, List.map_map]
  congr 1
  funext y
  simp
theorem mv_ofPart (f : Nat → Nat) {rec : List PPart → List (List PPart)} (hr : ∀ l, rec (l.map (mvPart f)) = (rec l).map (List.map (mvPart f))) (p : PPart) : ofPartP rec (mvPart f p) = (ofPartP rec p).map (List.map (mvPart f)) := by
  unfold ofPartP
  rw [mv_isStep, mv_choices, mv_times, List.isEmpty_map]
  split
  · simp
  · split
    · rfl
    · rw [List.flatMap_map, List.map_flatMap]
      congr 1
      funext x
      exact hr x
theorem mv_ofSeq (f : Nat → Nat) : ∀ n l, ofSeqP n (l.map (mvPart f)) = (ofSeqP n l).map (List.map (mvPart f)) := by
  intro n
  induction n with
  | zero => intro l; rfl
  | succ n ih =>
    intro l
    unfold ofSeqP
    rw [List.foldl_map]
    have : ∀ (l : List PPart) (a : List (List PPart)), l.foldl (fun all p => eachP all (ofPartP (ofSeqP n) (mvPart f p))) (a.map (List.map (mvPart f))) = (l.foldl (fun all p => eachP all (ofPartP (ofSeqP n) p)) a).map (List.map (mvPart f)) := by
      intro l
      induction l with
      | nil => intro a; rfl
      | cons p l ihl =>
        intro a
        rw [List.foldl_cons, List.foldl_cons, mv_ofPart f ih, mv_each, ihl]
    exact this l [[]]
/-- no fault, if there is none at any place -/
theorem ffPath_zero {h : List PPart → Nat → Nat × Nat} {l : List PPart} {a : Nat × Nat} (ha : a.2 = 0) : ∀ k, (∀ i, i < k → (h l i).2 = 0) → (ffPath h l a k).2 = 0 := by
  intro k
  induction k with
  | zero => intro _; exact ha
  | succ k ih =>
    intro hk
    have h1 := ih (fun i hi => hk i (by omega))
    have h2 := hk k (by omega)
    show (ffNew _ _).2 = 0
    unfold ffNew
    split
    · exact h2
    · exact h1
theorem firstFP_zero {h : List PPart → Nat → Nat × Nat} {ps : List (List PPart)} (hn : ∀ x ∈ ps, ∀ i, i < x.length → (h x i).2 = 0) : (firstFP h ps).2 = 0 := by
  unfold firstFP ffAcc
  rw [List.take_length]
  have : ∀ (ps : List (List PPart)) (a : Nat × Nat), (∀ x ∈ ps, ∀ i, i < x.length → (h x i).2 = 0) → a.2 = 0 → (ps.foldl (fun a l => ffPath h l a l.length) a).2 = 0 := by
    intro ps
    induction ps with
    | nil => intro a _ ha; exact ha
    | cons l ps ih =>
      intro a hp ha
      rw [List.foldl_cons]
      exact ih _ (fun x hx => hp x (List.mem_cons_of_mem _ hx)) (ffPath_zero ha _ (hp l (List.mem_cons_self ..)))
  exact this ps (0, 0) hn rfl
theorem mv_getD {f : Nat → Nat} {l : List PPart} {i : Nat} (hi : i < l.length) : (l.map (mvPart f)).getD i default = mvPart f (l.getD i default) := by
  simp [List.getD, hi]
theorem mv_guardF (f : Nat → Nat) (l : List PPart) (i : Nat) (hi : i < l.length) (h : (guardFP l i).2 = 0) : (guardFP (l.map (mvPart f)) i).2 = 0 := by
  unfold guardFP at h ⊢
  rw [mv_getD hi, mv_isStep, ← List.map_take, ← List.map_drop, mv_stepsN, mv_stepsN]
  split
  · rfl
  · rename_i hh
    rw [if_neg hh] at h
    cases h
theorem mv_badOp (f : Nat → Nat) (o : PPart) (l : List PPart) (x : POp) : badOp (mvPart f o) (l.map (mvPart f)) (mvOp f x) = badOp o l x := by
  unfold badOp
  rw [mv_name, List.any_map]
  have : (fun y => namedB (mvOp f x).name (mvPart f y)) = namedB x.name := by funext y; unfold namedB; rw [mv_name]; rfl
  show (!(x.name.toList == []) && !(x.name.toList == o.name.toList) && !(l.any (namedB (mvOp f x).name ∘ mvPart f))) = _
  rw [show namedB (mvOp f x).name ∘ mvPart f = namedB x.name from this]
theorem mv_nameF (f : Nat → Nat) (l : List PPart) (i : Nat) (hi : i < l.length) (h : (nameFP l i).2 = 0) : (nameFP (l.map (mvPart f)) i).2 = 0 := by
  unfold nameFP at h ⊢
  simp only at h ⊢
  rw [mv_getD hi, mv_isStep, ← List.map_take, mv_cond]
  generalize l.getD i default = o at *
  have htw : (isStepB o && ((l.take i).map (mvPart f)).any (twiceB (mvPart f o))) = true → (isStepB o && (l.take i).any (twiceB o)) = true := by
    simp only [Bool.and_eq_true, List.any_eq_true]
    rintro ⟨h1, y, hy, h2⟩
    obtain ⟨x, hx, rfl⟩ := List.mem_map.1 hy
    refine ⟨h1, x, hx, ?_⟩
    unfold twiceB at h2 ⊢
    rw [mv_name, mv_name, mv_place, mv_place] at h2
    simp only [Bool.and_eq_true, Bool.not_eq_true', beq_eq_false_iff_ne] at h2 ⊢
    exact ⟨h2.1, fun e => h2.2 (congrArg f e)⟩
  split at h
  · cases h
  · rename_i hh
    rw [if_neg (fun e => hh (htw e))]
    rw [List.find?_map]
    have e : badOp (mvPart f o) ((l.take i).map (mvPart f)) ∘ mvOp f = badOp o (l.take i) := by funext x; exact mv_badOp f o _ x
    rw [e]
    cases hf : o.cond.find? (badOp o (l.take i)) with
    | none => rfl
    | some x => rw [hf] at h; cases h
/-- what is made of a pattern without an error is so at other places, too -/
theorem mv_make (f : Nat → Nat) {n : Nat} {pat : PPat} {bd : Nat} {ps : List (List PPart)} (h : makeP n pat = .inl (bd, ps)) : makeP n ⟨pat.window, pat.rate, pat.body.map (mvPart f)⟩ = .inl (bd, ps.map (List.map (mvPart f))) := by
  unfold makeP at h ⊢
  simp only at h ⊢
  rw [mv_ofSeq]
  have hb : isBigP n (pat.body.map (mvPart f)) = isBigP n pat.body := by unfold isBigP; rw [mv_size]
  have hbd : boundP pat.rate ((ofSeqP n pat.body).map (List.map (mvPart f))) = boundP pat.rate (ofSeqP n pat.body) := by
    unfold boundP
    rw [List.map_map]
    congr 2
    funext x
    show mostP _ (stepsN (x.map _)) = _
    rw [mv_stepsN]
  rw [hb, hbd]
  split at h
  · cases h
  · rename_i h1
    rw [if_neg h1]
    split at h
    · cases h
    · rename_i h2
      have h2' : (firstFP guardFP ((ofSeqP n pat.body).map (List.map (mvPart f)))).2 = 0 := by
        refine firstFP_zero (fun x hx i hi => ?_)
        obtain ⟨y, hy, rfl⟩ := List.mem_map.1 hx
        rw [List.length_map] at hi
        exact mv_guardF f y i hi (firstFP_none (by omega) y hy i hi)
      rw [if_neg (by omega)]
      split at h
      · cases h
      · rename_i h3
        have h3' : (firstFP nameFP ((ofSeqP n pat.body).map (List.map (mvPart f)))).2 = 0 := by
          refine firstFP_zero (fun x hx i hi => ?_)
          obtain ⟨y, hy, rfl⟩ := List.mem_map.1 hx
          rw [List.length_map] at hi
          exact mv_nameF f y i hi (firstFP_none (by omega) y hy i hi)
        rw [if_neg (by omega)]
        split at h
        · cases h
        · rename_i h4
          rw [if_neg h4]
          injection h with h
          injection h with ha hb
          rw [← ha, ← hb]
end Go.Proofs.YtddbjcfdmdbmkaaGreatDoor

/-
  Printing, plain: Join, plain.
-/
namespace Go.Proofs.YtddbjcfdmdbmkaaGreatDoor
open Go.RowKit

def signsL : List (List UInt8) := signsP.map ([·]) ++ [[60], [62], [33, 61], [60, 61], [62, 61]]
/-- a token's text, by its kind -/
def GoodW (k : Nat) (w : List UInt8) : Prop :=
  (k = 2 ∧ 1 ≤ w.length ∧ w.length ≤ 9 ∧ ∀ c ∈ w, isDigitB c = true) ∨
  (k = 3 ∧ 1 ≤ w.length ∧ w.length ≤ 8 ∧ (∀ c ∈ w, isSmallB c = true) ∧ isResv ⟨w.toArray⟩ = false) ∨
  (k = 4 ∧ 1 ≤ w.length ∧ (∀ c ∈ w, isSmallB c = true) ∧ isResv ⟨w.toArray⟩ = true) ∨
  (k = 5 ∧ w ∈ signsL)
theorem takeWhile_all {p : UInt8 → Bool} (l : List UInt8) : ∀ c ∈ l.takeWhile p, p c = true := by
  induction l with
  | nil => intro c hc; simp at hc
  | cons x l ih =>
    intro c hc
    rw [List.takeWhile_cons] at hc
    split at hc
    · rename_i hx
      rcases List.mem_cons.1 hc with e | hc
      · exact e ▸ hx
      · exact ih c hc
    · simp at hc
theorem take_span (p : UInt8 → Bool) (r : ByteArray) : r.data.toList.take (spanP p r) = r.data.toList.takeWhile p := by
  rw [span0]; exact (List.prefix_iff_eq_take.1 (List.takeWhile_prefix _)).symm
theorem ex0 (r : ByteArray) (n : Nat) : r.extract 0 n = ⟨(r.data.toList.take n).toArray⟩ := by
  apply ByteArray.ext
  apply Array.toList_inj.1
  rw [ex_list]
  simp
theorem list1 {l : List UInt8} (h : 0 < l.length) : l.take 1 = [l.getD 0 0] := by cases l with | nil => simp at h | cons a l => simp
theorem list2 {l : List UInt8} (h : 1 < l.length) : l.take 2 = [l.getD 0 0, l.getD 1 0] := by
  match l, h with
  | a :: b :: l, _ => simp
theorem head_good {r : ByteArray} (h : 0 < r.size) (hk : 2 ≤ (headP r).1) : GoodW (headP r).1 (r.data.toList.take (headP r).2) := by
  have hl : r.data.toList.length = r.size := by simp
  revert hk
  unfold headP wordP numberP
  simp only
  split
  · rename_i hs
    have h1 := spanP_pos isSmallB r h hs
    have e := take_span isSmallB r
    have hlen : (r.data.toList.takeWhile isSmallB).length = spanP isSmallB r := (span0 _ _).symm
    split
    · rename_i hr
      intro _
      refine .inr (.inr (.inl ⟨rfl, ?_, ?_, ?_⟩))
      · simp only; rw [e, hlen]; exact h1
      · simp only; rw [e]; exact takeWhile_all _
      · simp only; rw [ex0] at hr; exact hr
    · rename_i hr
      split
      · intro hk; simp at hk
      · rename_i h8
        intro _
        refine .inr (.inl ⟨rfl, ?_, ?_, ?_, ?_⟩)
        · simp only; rw [e, hlen]; exact h1
        · simp only; rw [e, hlen]; omega
        · simp only; rw [e]; exact takeWhile_all _
        · simp only; rw [ex0] at hr; exact Bool.eq_false_iff.2 hr
  split
  · rename_i hs
    have h1 := spanP_pos isDigitB r h hs
    have e := take_span isDigitB r
    have hlen : (r.data.toList.takeWhile isDigitB).length = spanP isDigitB r := (span0 _ _).symm
    split
    · intro hk; simp at hk
    · intro _
      refine .inl ⟨rfl, ?_, ?_, ?_⟩
      · simp only; rw [e, hlen]; exact h1
      · simp only; rw [e, hlen]; omega
      · simp only; rw [e]; exact takeWhile_all _
  have two : ∀ b : UInt8, longerP r = true → r.data.toList.getD 0 0 = b → [b, 61] ∈ signsL → GoodW 5 (r.data.toList.take 2) := by
    intro b hL hb hm
    unfold longerP at hL
    simp only [Bool.and_eq_true, decide_eq_true_eq, beq_iff_eq] at hL
    rw [list2 (by omega), hb, hL.2]
    exact .inr (.inr (.inr ⟨rfl, hm⟩))
  split
  · rename_i h33
    rw [beq_iff_eq] at h33
    split
    · rename_i hL; intro _; exact two _ hL h33 (by decide)
    · intro hk; simp at hk
  split
  · rename_i h60
    simp only [Bool.or_eq_true, beq_iff_eq] at h60
    split
    · rename_i hL
      intro _
      rcases h60 with h60 | h60
      · exact two _ hL h60 (by decide)
      · exact two _ hL h60 (by decide)
    · intro _
      simp only
      rw [list1 (by omega)]
      refine .inr (.inr (.inr ⟨rfl, ?_⟩))
      rcases h60 with h60 | h60 <;> (rw [h60]; decide)
  split
  · rename_i hm
    intro _
    simp only
    rw [list1 (by omega)]
    refine .inr (.inr (.inr ⟨rfl, ?_⟩))
    unfold memB at hm
    rw [List.any_eq_true] at hm
    obtain ⟨x, hx, he⟩ := hm
    rw [beq_iff_eq] at he
    rw [← he]
    unfold signsL
    exact List.mem_append_left _ (List.mem_map.2 ⟨x, hx, rfl⟩)
  · intro hk; simp at hk
/-- what stands behind a token that is no colon and no dot -/
def Stops (rest : List UInt8) : Prop := rest = [] ∨ ∃ b l, rest = b :: l ∧ (b = 32 ∨ b = 58 ∨ b = 46)
theorem takeWhile_stop {p : UInt8 → Bool} {w rest : List UInt8} (hw : ∀ c ∈ w, p c = true) (hr : Stops rest) (hp : p 32 = false ∧ p 58 = false ∧ p 46 = false) : (w ++ rest).takeWhile p = w := by
  induction w with
  | nil =>
    rcases hr with rfl | ⟨b, l, rfl, h⟩
    · rfl
    · have : p b = false := by rcases h with rfl | rfl | rfl; exact hp.1; exact hp.2.1; exact hp.2.2
      simp [this]
  | cons c w ih =>
    rw [List.cons_append, List.takeWhile_cons, if_pos (hw c (by simp)), ih (fun d hd => hw d (by simp [hd]))]
theorem small_not_digit {b : UInt8} (h : isDigitB b = true) : isSmallB b = false := by
  unfold isDigitB at h; unfold isSmallB
  simp only [Bool.and_eq_true, decide_eq_true_eq] at h
  simp only [Bool.and_eq_false_iff, decide_eq_false_iff_not]
  omega
theorem head_back {r : ByteArray} {k : Nat} {w rest : List UInt8} (hg : GoodW k w) (hr : r.data.toList = w ++ rest) (hs : w = [58] ∨ w = [46] ∨ Stops rest) : headP r = (k, w.length) := by
  have hsz : r.size = w.length + rest.length := by
    have : r.data.toList.length = r.size := by simp
    rw [← this, hr, List.length_append]
  have hex : r.extract 0 w.length = ⟨w.toArray⟩ := by rw [ex0, hr, List.take_left]
  have nostop : ∀ p : UInt8 → Bool, (∀ c ∈ w, p c = true) → p 58 = false → p 46 = false → 1 ≤ w.length → Stops rest := by
    intro p hp h1 h2 _
    rcases hs with rfl | rfl | hs
    · have := hp 58 (by simp); rw [h1] at this; cases this
    · have := hp 46 (by simp); rw [h2] at this; cases this
    · exact hs
  have first : 1 ≤ w.length → ∃ b l, w = b :: l ∧ r.data.toList.getD 0 0 = b := by
    intro h
    cases w with
    | nil => simp at h
    | cons b l => exact ⟨b, l, rfl, by rw [hr]; simp⟩
  rcases hg with ⟨rfl, h1, h9, hd⟩ | ⟨rfl, h1, h8, hd, hn⟩ | ⟨rfl, h1, hd, hn⟩ | ⟨rfl, hm⟩
  · obtain ⟨b, l, e, hb⟩ := first h1
    have hbd : isDigitB b = true := hd b (by rw [e]; simp)
    have hst := nostop isDigitB hd (by decide) (by decide) h1
    have hsp : spanP isDigitB r = w.length := by rw [span0, hr, takeWhile_stop hd hst (by decide)]
    unfold headP
    simp only [hb, small_not_digit hbd, hbd, if_true, Bool.false_eq_true, if_false]
    unfold numberP
    rw [hsp, if_neg (by omega)]
  · obtain ⟨b, l, e, hb⟩ := first h1
    have hbd : isSmallB b = true := hd b (by rw [e]; simp)
    have hst := nostop isSmallB hd (by decide) (by decide) h1
    have hsp : spanP isSmallB r = w.length := by rw [span0, hr, takeWhile_stop hd hst (by decide)]
    unfold headP
    simp only [hb, hbd, if_true]
    unfold wordP
    rw [hsp, hex, hn, if_neg (by decide), if_neg (by omega)]
  · obtain ⟨b, l, e, hb⟩ := first h1
    have hbd : isSmallB b = true := hd b (by rw [e]; simp)
    have hst := nostop isSmallB hd (by decide) (by decide) h1
    have hsp : spanP isSmallB r = w.length := by rw [span0, hr, takeWhile_stop hd hst (by decide)]
    unfold headP
    simp only [hb, hbd, if_true]
    unfold wordP
    rw [hsp, hex, hn, if_pos rfl]
  · have lg : ∀ b : UInt8, w = [b, 61] → longerP r = true := by
      intro b e
      unfold longerP
      rw [hr, e]
      rw [e] at hsz
      simp only [List.length_cons, List.length_nil] at hsz
      simp [hsz]
      omega
    have sh : ∀ b : UInt8, w = [b] → b ≠ 58 → b ≠ 46 → longerP r = false := by
      intro b e h1 h2
      have hst : Stops rest := by
        rcases hs with hs | hs | hs
        · rw [e] at hs; injection hs with hs; exact absurd hs h1
        · rw [e] at hs; injection hs with hs; exact absurd hs h2
        · exact hs
      unfold longerP
      rw [hr, e]
      rcases hst with rfl | ⟨c, l, rfl, hc⟩
      · rw [e] at hsz; simp at hsz; simp [hsz]
      · rcases hc with rfl | rfl | rfl <;> simp
    have hb : r.data.toList.getD 0 0 = w.getD 0 0 := by
      rw [hr]
      cases w with
      | nil => exact absurd hm (by decide)
      | cons b l => simp
    unfold headP
    simp only [hb]
    simp only [signsL, signsP, List.map_cons, List.map_nil, List.cons_append, List.nil_append, List.mem_cons, List.not_mem_nil, or_false] at hm
    rcases hm with rfl | rfl | rfl | rfl | rfl | rfl | rfl | rfl | rfl | rfl | rfl | rfl | rfl | rfl | rfl
    all_goals first
      | (rw [lg _ rfl]; rfl)
      | (rw [sh _ rfl (by decide) (by decide)]; rfl)
      | (cases longerP r <;> rfl)
end Go.Proofs.YtddbjcfdmdbmkaaGreatDoor

/-
  Printing, plain: the tokens of what was joined.
-/
namespace Go.Proofs.YtddbjcfdmdbmkaaGreatDoor
open Go.RowKit

/-- a number without noughts ahead -/
def trimL (w : List UInt8) : List UInt8 := if (w.dropWhile (· == 48)).isEmpty then [48] else w.dropWhile (· == 48)
def plainL (t : STok) : List UInt8 := if t.kind = 2 then trimL t.text.data.toList else t.text.data.toList
def closesB (t : STok) : Bool := t.is tColon || t.is tDot
def gapL (tight : Bool) (t : STok) : List UInt8 := if tight || closesB t then [] else [32]
/-- tokens, joined -/
def joinL : Bool → List STok → List UInt8
  | _, [] => []
  | tight, t :: ts => if t.kind = 1 then [] else gapL tight t ++ (plainL t ++ joinL (closesB t) ts)
def joinP (ts : List STok) : ByteArray := ⟨(joinL true ts).toArray⟩
/-- tokens as they stand in what is joined -/
def mvToks : Nat → Bool → List STok → List STok
  | _, _, [] => []
  | at_, tight, t :: ts => if t.kind = 1 then [⟨1, at_, ⟨#[]⟩⟩] else ⟨t.kind, at_ + (gapL tight t).length, ⟨(plainL t).toArray⟩⟩ :: mvToks (at_ + (gapL tight t).length + (plainL t).length) (closesB t) ts
/-- tokens of a text that has an end -/
def Toks : List STok → Prop
  | [] => False
  | [t] => t.kind = 1 ∧ t.text = ⟨#[]⟩
  | t :: u :: l => GoodW t.kind t.text.data.toList ∧ t.place < u.place ∧ Toks (u :: l)

theorem Toks.more {t u : STok} {l : List STok} (h1 : GoodW t.kind t.text.data.toList) (h2 : t.place < u.place) (h3 : Toks (u :: l)) : Toks (t :: u :: l) := ⟨h1, h2, h3⟩
theorem Toks.more2 {t u : STok} {L : List STok} (e : ∃ l, L = u :: l) (h1 : GoodW t.kind t.text.data.toList) (h2 : t.place < u.place) (h3 : Toks L) : Toks (t :: L) := by
  obtain ⟨l, rfl⟩ := e
  exact ⟨h1, h2, h3⟩
theorem stoks_cons (s : ByteArray) (n i : Nat) : ∃ l, stoks s (n + 1) i = stokAt s i :: l := by
  unfold stoks
  generalize stokAt s i = t
  split
  · exact ⟨_, rfl⟩
  · exact ⟨_, rfl⟩
theorem good_kind {k : Nat} {w : List UInt8} (h : GoodW k w) : 2 ≤ k ∧ 1 ≤ w.length := by
  rcases h with ⟨rfl, h, _⟩ | ⟨rfl, h, _⟩ | ⟨rfl, h, _⟩ | ⟨rfl, h⟩
  · exact ⟨by omega, h⟩
  · exact ⟨by omega, h⟩
  · exact ⟨by omega, h⟩
  · refine ⟨by omega, ?_⟩
    have : ∀ w ∈ signsL, 1 ≤ w.length := by decide
    exact this w h
theorem stok_good (s : ByteArray) (at_ : Nat) (h : at_ ≤ s.size) : (2 ≤ (stokAt s at_).kind → GoodW (stokAt s at_).kind (stokAt s at_).text.data.toList) ∧ ((stokAt s at_).kind = 1 → (stokAt s at_).text = ⟨#[]⟩) := by
  have h2 := span_le isBlankB s at_ h
  unfold stokAt
  simp only
  generalize spanTo isBlankB s at_ = i at *
  by_cases he : (s.extract i s.size).size = 0
  · have e : firstP (s.extract i s.size) = (1, 0) := by unfold firstP; rw [if_pos he]
    rw [e]
    refine ⟨fun hh => absurd hh (by show ¬ 2 ≤ 1; omega), fun _ => ?_⟩
    apply ByteArray.ext
    apply Array.toList_inj.1
    rw [ex_list]
    simp
  · have hpos : 0 < (s.extract i s.size).size := by omega
    have e : firstP (s.extract i s.size) = headP (s.extract i s.size) := by unfold firstP; rw [if_neg he]
    rw [e]
    have hl := headP_len hpos
    have hz : (s.extract i s.size).size = s.size - i := by rw [ex_size]; omega
    have hx := ex_ex s i (headP (s.extract i s.size)).2 (by omega)
    refine ⟨fun hk => ?_, fun hk => ?_⟩
    · have := head_good hpos hk
      rw [← hx, ex_list, List.drop_zero, Nat.sub_zero]
      exact this
    · rcases headP_kind (s.extract i s.size) with h | h <;> omega
theorem stoks_toks (s : ByteArray) : ∀ n at_, at_ ≤ s.size → s.size - at_ < n → (∃ t ∈ stoks s n at_, t.kind = 1) → Toks (stoks s n at_) := by
  intro n
  induction n with
  | zero => intro at_ _ h; omega
  | succ n ih =>
    intro at_ h hn
    obtain ⟨p1, p2, p3, p4⟩ := stokAt_spec s at_ h
    obtain ⟨g1, g2⟩ := stok_good s at_ h
    unfold stoks
    split
    · rename_i hk
      rintro ⟨t, ht, h1⟩
      rw [List.mem_singleton.1 ht] at h1
      exact ⟨h1, g2 h1⟩
    · rename_i hk
      rintro ⟨t, ht, h1⟩
      obtain ⟨q1, q2⟩ := p4 (by omega)
      have hm : t ∈ stoks s n ((stokAt s at_).place + (stokAt s at_).text.size) := by
        rcases List.mem_cons.1 ht with rfl | ht
        · omega
        · exact ht
      have r := ih ((stokAt s at_).place + (stokAt s at_).text.size) p2 (by omega) ⟨t, hm, h1⟩
      cases n with
      | zero => simp [stoks] at hm
      | succ n =>
        have hp := (stokAt_spec s _ p2).1
        have e := stoks_cons s n ((stokAt s at_).place + (stokAt s at_).text.size)
        clear hm ih p3 p4
        generalize stoks s (n + 1) ((stokAt s at_).place + (stokAt s at_).text.size) = L at *
        generalize stokAt s ((stokAt s at_).place + (stokAt s at_).text.size) = u at *
        generalize stokAt s at_ = a at *
        exact Toks.more2 e (g1 (Nat.lt_of_not_le hk)) (by omega) r
theorem trim_eq (w : List UInt8) : (trimL w = [48] ∧ ∀ c ∈ w, c = 48) ∨ (∃ b l, trimL w = b :: l ∧ b ≠ 48 ∧ ∃ z, w = z ++ b :: l ∧ ∀ c ∈ z, c = 48) := by
  unfold trimL
  induction w with
  | nil => exact .inl ⟨rfl, by simp⟩
  | cons c w ih =>
    by_cases hc : c = 48
    · subst hc
      rw [List.dropWhile_cons_of_pos (by rfl)]
      rcases ih with ⟨h1, h2⟩ | ⟨b, l, h1, h2, z, h3, h4⟩
      · refine .inl ⟨h1, fun c hc => ?_⟩
        rcases List.mem_cons.1 hc with rfl | hc
        · rfl
        · exact h2 c hc
      · refine .inr ⟨b, l, h1, h2, 48 :: z, by rw [h3]; rfl, fun c hc => ?_⟩
        rcases List.mem_cons.1 hc with rfl | hc
        · rfl
        · exact h4 c hc
    · rw [List.dropWhile_cons_of_neg (by simpa using hc)]
      exact .inr ⟨c, w, rfl, hc, [], rfl, by simp⟩
def valL (w : List UInt8) : Nat := w.foldl (fun n c => 10 * n + (c.toNat - 48)) 0
theorem val_zeros (z l : List UInt8) (hz : ∀ c ∈ z, c = 48) : valL (z ++ l) = valL l := by
  induction z with
  | nil => rfl
  | cons c z ih =>
    rw [hz c (by simp)]
    exact ih (fun c hc => hz c (by simp [hc]))
theorem val_trim (w : List UInt8) : valL (trimL w) = valL w := by
  rcases trim_eq w with ⟨h1, h2⟩ | ⟨b, l, h1, _, z, h3, h4⟩
  · rw [h1]
    have := val_zeros w [] h2
    rw [List.append_nil] at this
    rw [this]; rfl
  · rw [h1]
    conv => rhs; rw [h3]
    rw [val_zeros z _ h4]
theorem trim_trim (w : List UInt8) : trimL (trimL w) = trimL w := by
  rcases trim_eq w with ⟨h1, _⟩ | ⟨b, l, h1, h2, _⟩
  · rw [h1]; rfl
  · rw [h1]; unfold trimL; rw [List.dropWhile_cons_of_neg (by simpa using h2)]; rfl
theorem trim_good {w : List UInt8} (h : 1 ≤ w.length ∧ w.length ≤ 9 ∧ ∀ c ∈ w, isDigitB c = true) : 1 ≤ (trimL w).length ∧ (trimL w).length ≤ 9 ∧ ∀ c ∈ trimL w, isDigitB c = true := by
  rcases trim_eq w with ⟨h1, _⟩ | ⟨b, l, h1, h2, z, h3, _⟩
  · rw [h1]; refine ⟨by decide, by decide, fun c hc => ?_⟩
    rw [List.mem_singleton.1 hc]; decide
  · rw [h1]
    have hl := congrArg List.length h3
    rw [List.length_append] at hl
    refine ⟨by simp, by omega, fun c hc => h.2.2 c (by rw [h3]; exact List.mem_append_right _ hc)⟩
theorem plain_good {t : STok} (h : GoodW t.kind t.text.data.toList) : GoodW t.kind (plainL t) := by
  unfold plainL
  split
  · rename_i hk
    rcases h with ⟨_, h⟩ | ⟨h, _⟩ | ⟨h, _⟩ | ⟨h, _⟩
    · exact .inl ⟨hk, trim_good h⟩
    all_goals omega
  · exact h
theorem sign_bytes : tColon.data.toList = [58] ∧ tDot.data.toList = [46] := ⟨rfl, rfl⟩
theorem closes_plain {t : STok} (h : GoodW t.kind t.text.data.toList) (hc : closesB t = true) : plainL t = [58] ∨ plainL t = [46] := by
  unfold closesB STok.is at hc
  simp only [Bool.or_eq_true, beq_iff_eq, toList_data] at hc
  rw [sign_bytes.1, sign_bytes.2] at hc
  have hk : t.kind ≠ 2 := by
    intro e
    rcases h with ⟨_, _, _, h⟩ | ⟨h, _⟩ | ⟨h, _⟩ | ⟨h, _⟩
    · rcases hc with hc | hc
      · have := h 58 (by rw [hc]; simp); revert this; decide
      · have := h 46 (by rw [hc]; simp); revert this; decide
    all_goals omega
  unfold plainL
  rw [if_neg hk]
  exact hc
theorem good_blank {k : Nat} {w : List UInt8} (h : GoodW k w) : ∃ b l, w = b :: l ∧ isBlankB b = false := by
  have h1 := (good_kind h).2
  cases w with
  | nil => simp at h1
  | cons b l =>
    refine ⟨b, l, rfl, ?_⟩
    have nb : isSmallB b = true ∨ isDigitB b = true ∨ [b] ++ l ∈ signsL → isBlankB b = false := by
      intro hb
      cases hx : isBlankB b with
      | false => rfl
      | true =>
        exfalso
        unfold isBlankB at hx
        simp only [Bool.or_eq_true, beq_iff_eq] at hx
        have hs : ∀ w ∈ signsL, w.headD 0 ≠ 32 ∧ w.headD 0 ≠ 10 := by decide
        rcases hx with rfl | rfl
        · rcases hb with hb | hb | hb
          · exact absurd hb (by decide)
          · exact absurd hb (by decide)
          · exact (hs _ hb).1 rfl
        · rcases hb with hb | hb | hb
          · exact absurd hb (by decide)
          · exact absurd hb (by decide)
          · exact (hs _ hb).2 rfl
    refine nb ?_
    rcases h with ⟨_, _, _, h⟩ | ⟨_, _, _, h, _⟩ | ⟨_, _, h, _⟩ | ⟨_, h⟩
    · exact .inr (.inl (h b (by simp)))
    · exact .inl (h b (by simp))
    · exact .inl (h b (by simp))
    · exact .inr (.inr h)
theorem toks_stops {t : STok} {l : List STok} (h : Toks (t :: l)) : Stops (joinL false (t :: l)) := by
  unfold joinL
  split
  · exact .inl rfl
  · rename_i hk
    right
    have hg : GoodW t.kind t.text.data.toList := by
      cases l with
      | nil => exact absurd h.1 hk
      | cons u l => exact h.1
    unfold gapL
    cases hc : closesB t with
    | true =>
      simp only [Bool.or_true, if_true, List.nil_append]
      rcases closes_plain hg hc with e | e <;> rw [e]
      · exact ⟨58, _, rfl, .inr (.inl rfl)⟩
      · exact ⟨46, _, rfl, .inr (.inr rfl)⟩
    | false =>
      simp only [Bool.or_false, Bool.false_eq_true, if_false]
      exact ⟨32, _, rfl, .inl rfl⟩
theorem span_gap {S : ByteArray} {at_ : Nat} {gap w rest : List UInt8} (hd : S.data.toList.drop at_ = gap ++ (w ++ rest)) (hg : gap = [] ∨ gap = [32]) (hw : ∃ b l, w = b :: l ∧ isBlankB b = false) : spanTo isBlankB S at_ = at_ + gap.length := by
  unfold spanTo
  rw [hd]
  obtain ⟨b, l, rfl, hb⟩ := hw
  rcases hg with rfl | rfl
  · simp [hb]
  · have : isBlankB 32 = true := by decide
    simp [hb, this]
theorem gap_two (tight : Bool) (t : STok) : gapL tight t = [] ∨ gapL tight t = [32] := by unfold gapL; split; exact .inl rfl; exact .inr rfl
/-- The tokens of what was joined. -/
theorem scan_join (S : ByteArray) : ∀ (ts : List STok) (tight : Bool) (at_ n : Nat), Toks ts → at_ ≤ S.size → S.data.toList.drop at_ = joinL tight ts → (joinL tight ts).length < n → stoks S n at_ = mvToks at_ tight ts := by
  have hSl : S.data.toList.length = S.size := by simp
  intro ts
  induction ts with
  | nil => intro _ _ _ h; exact h.elim
  | cons t ts ih =>
    intro tight at_ n hT hat hd hn
    cases n with
    | zero => omega
    | succ n =>
    cases ts with
    | nil =>
      obtain ⟨hk, _⟩ := hT
      have hj : joinL tight [t] = [] := by unfold joinL; rw [if_pos hk]
      have hm : mvToks at_ tight [t] = [⟨1, at_, ⟨#[]⟩⟩] := by unfold mvToks; rw [if_pos hk]
      rw [hj] at hd
      have hend : at_ = S.size := by
        have := congrArg List.length hd
        rw [List.length_drop, hSl, List.length_nil] at this; omega
      have hsp : spanTo isBlankB S at_ = at_ := span_end _ _ _ (by omega)
      have hx : ∀ b, S.extract at_ b = ⟨#[]⟩ := by
        intro b
        apply ByteArray.ext
        apply Array.toList_inj.1
        rw [ex_list, hd]; simp
      have hst : stokAt S at_ = ⟨1, at_, ⟨#[]⟩⟩ := by
        unfold stokAt
        simp only [hsp, hx]
        rfl
      rw [hm]
      unfold stoks
      rw [hst, if_pos (by show (1 : Nat) ≤ 1; omega)]
    | cons u l =>
      obtain ⟨hg, _, hT'⟩ := hT
      have hk : ¬ t.kind = 1 := by have := (good_kind hg).1; omega
      have hgp := plain_good hg
      have hj : joinL tight (t :: u :: l) = gapL tight t ++ (plainL t ++ joinL (closesB t) (u :: l)) := by
        conv => lhs; unfold joinL
        rw [if_neg hk]
      have hm : mvToks at_ tight (t :: u :: l) = ⟨t.kind, at_ + (gapL tight t).length, ⟨(plainL t).toArray⟩⟩ :: mvToks (at_ + (gapL tight t).length + (plainL t).length) (closesB t) (u :: l) := by
        conv => lhs; unfold mvToks
        rw [if_neg hk]
      rw [hj] at hd hn
      rw [hm]
      have hsp := span_gap hd (gap_two tight t) (good_blank hgp)
      generalize hgap : gapL tight t = gap at *
      generalize hw : plainL t = w at *
      have hlen : at_ + gap.length + w.length + (joinL (closesB t) (u :: l)).length = S.size := by
        have := congrArg List.length hd
        rw [List.length_drop, hSl, List.length_append, List.length_append] at this
        have := (good_kind hgp).2
        omega
      have hd2 : S.data.toList.drop (at_ + gap.length) = w ++ joinL (closesB t) (u :: l) := by
        rw [← List.drop_drop, hd, List.drop_left]
      have hd3 : S.data.toList.drop (at_ + gap.length + w.length) = joinL (closesB t) (u :: l) := by
        rw [← List.drop_drop, hd2, List.drop_left]
      have hxl : (S.extract (at_ + gap.length) S.size).data.toList = w ++ joinL (closesB t) (u :: l) := by
        rw [ex_list, hd2, List.take_of_length_le]
        rw [List.length_append]; omega
      have hstop : w = [58] ∨ w = [46] ∨ Stops (joinL (closesB t) (u :: l)) := by
        cases hc : closesB t with
        | true => rcases closes_plain hg hc with e | e
                  · exact .inl (hw ▸ e)
                  · exact .inr (.inl (hw ▸ e))
        | false => exact .inr (.inr (toks_stops hT'))
      have hh := head_back hgp hxl hstop
      have hwl := (good_kind hgp).2
      have hf : firstP (S.extract (at_ + gap.length) S.size) = (t.kind, w.length) := by
        unfold firstP
        rw [if_neg, hh]
        have : (S.extract (at_ + gap.length) S.size).data.toList.length = (S.extract (at_ + gap.length) S.size).size := by simp
        rw [hxl, List.length_append] at this
        omega
      have hst : stokAt S at_ = ⟨t.kind, at_ + gap.length, ⟨w.toArray⟩⟩ := by
        unfold stokAt
        simp only [hsp, hf]
        congr 1
        apply ByteArray.ext
        apply Array.toList_inj.1
        rw [ex_list, hd2]
        simp
      have hsz : (⟨w.toArray⟩ : ByteArray).size = w.length := by show w.toArray.size = _; simp
      unfold stoks
      rw [hst, if_neg (by show ¬ t.kind ≤ 1; have := (good_kind hg).1; omega)]
      simp only
      rw [hsz]
      congr 1
      refine ih (closesB t) (at_ + gap.length + w.length) n hT' (by omega) hd3 ?_
      rw [List.length_append, List.length_append] at hn
      omega
end Go.Proofs.YtddbjcfdmdbmkaaGreatDoor
