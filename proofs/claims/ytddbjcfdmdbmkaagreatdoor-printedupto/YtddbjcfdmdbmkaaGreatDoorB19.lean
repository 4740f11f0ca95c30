import Derived.Test.YtddbjcfdmdbmkaaGreatDoorB18
import Derived.Test.YtddbjcfdmdbmkaaGreatDoorB12
import Derived.Test.YtddbjcfdmdbmkaaGreatDoorB05
set_option linter.unusedVariables false
set_option linter.unusedSimpArgs false
namespace Go.Proofs.YtddbjcfdmdbmkaaGreatDoor
open Go.RowKit

def SW : Nat → List PPart → Prop
  | 0, _ => False
  | n + 1, l => l ≠ [] ∧ ∀ p ∈ l, (isStepB p = true → 1 ≤ p.times ∧ p.times ≤ 4 ∧ p.choices = []) ∧ ∀ c ∈ p.choices, SW n c
def SWp (n : Nat) (p : PPart) : Prop := (isStepB p = true → 1 ≤ p.times ∧ p.times ≤ 4 ∧ p.choices = []) ∧ ∀ c ∈ p.choices, SW n c
def wt (n : Nat) (p : PPart) : Nat := p.times + 1 + (p.choices.map fun c => bnd n c + 1).sum
theorem bnd_wt (n : Nat) (l : List PPart) : bnd (n + 1) l = (l.map (wt n)).sum := rfl

theorem fold_count' (c : List (List PPart)) (f : List PPart → Nat × Nat) : (c.foldl (fun a c => (a.1 + (f c).1, max a.2 (f c).2)) (0, 0)).1 = (c.map fun x => (f x).1).sum := by rw [fold_count]; simp
theorem sw_pos : ∀ n l, SW n l → 1 ≤ (sizeP n l).1 := by
  intro n
  induction n with
  | zero => intro l h; exact h.elim
  | succ n ih =>
    rintro l ⟨_, hp⟩
    have key : ∀ (l : List PPart) (a : Nat × Nat), (∀ p ∈ l, ∀ c ∈ p.choices, SW n c) → 1 ≤ a.1 → 1 ≤ (l.foldl (sizeStep (sizeP n)) a).1 := by
      intro l
      induction l with
      | nil => intro a _ h; exact h
      | cons p l ihl =>
        intro a hl ha
        refine ihl _ (fun q hq => hl q (List.mem_cons_of_mem _ hq)) ?_
        have hpp : 1 ≤ (sizePartP (sizeP n) p).1 := by
          unfold sizePartP
          by_cases hc : p.choices.isEmpty = true
          · rw [if_pos hc]; exact Nat.le_refl 1
          · rw [if_neg hc, fold_count']
            obtain ⟨c, r, e⟩ := List.exists_cons_of_ne_nil (show p.choices ≠ [] by simpa using hc)
            have hm : c ∈ p.choices := by rw [e]; simp
            exact Nat.le_trans (ih c (hl p (List.mem_cons_self ..) c hm)) (mem_le_sum (List.mem_map.2 ⟨c, hm, rfl⟩))
        show 1 ≤ min (a.1 * (sizePartP (sizeP n) p).1) 17
        have := Nat.mul_le_mul ha hpp
        omega
    exact key l (1, 0) (fun p hpm => (hp p hpm).2) (Nat.le_refl 1)
theorem sw_part {n : Nat} {p : PPart} (h : SWp n p) : 1 ≤ (sizePartP (sizeP n) p).1 := by
  unfold sizePartP
  by_cases hc : p.choices.isEmpty = true
  · rw [if_pos hc]; exact Nat.le_refl 1
  · rw [if_neg hc, fold_count']
    obtain ⟨c, r, e⟩ := List.exists_cons_of_ne_nil (show p.choices ≠ [] by simpa using hc)
    have hm : c ∈ p.choices := by rw [e]; simp
    exact Nat.le_trans (sw_pos n c (h.2 c hm)) (mem_le_sum (List.mem_map.2 ⟨c, hm, rfl⟩))
theorem part_le {n : Nat} {l : List PPart} (hp : ∀ p ∈ l, SWp n p) : ∀ k, k ≤ l.length → (seqAcc (sizeP n) l k).1 ≤ 16 → 1 ≤ (seqAcc (sizeP n) l k).1 ∧ ∀ j, (hj : j < l.length) → j < k → (sizePartP (sizeP n) l[j]).1 ≤ 16 := by
  intro k
  induction k with
  | zero => intro _ _; exact ⟨by show 1 ≤ 1; omega, fun j _ hj => absurd hj (by omega)⟩
  | succ k ih =>
    intro hk h
    rw [seqAcc_succ (sizeP n) l k (by omega)] at h ⊢
    have hm : min ((seqAcc (sizeP n) l k).1 * (sizePartP (sizeP n) l[k]).1) 17 ≤ 16 := h
    have h1 := sw_part (hp _ (List.getElem_mem (show k < l.length by omega)))
    have hprod : (seqAcc (sizeP n) l k).1 * (sizePartP (sizeP n) l[k]).1 ≤ 16 := by omega
    have hle : (seqAcc (sizeP n) l k).1 ≤ 16 := Nat.le_trans (Nat.le_mul_of_pos_right _ h1) hprod
    obtain ⟨i1, i2⟩ := ih (by omega) hle
    have hpp := Nat.mul_le_mul i1 h1
    refine ⟨by show 1 ≤ min _ 17; omega, fun j hjl hj => ?_⟩
    by_cases e : j = k
    · subst e; exact Nat.le_trans (Nat.le_mul_of_pos_left _ i1) hprod
    · exact i2 j hjl (by omega)
theorem sw_wf : ∀ n l, SW n l → (sizeP n l).1 ≤ 16 → bnd n l ≤ 100000 → WF n l := by
  intro n
  induction n with
  | zero => intro l h; exact h.elim
  | succ n ih =>
    rintro l ⟨hne, hp⟩ h16 hb
    refine ⟨hne, h16, hb, fun p hpm => ⟨(hp p hpm).1, fun c hc => ?_⟩⟩
    have e : seqAcc (sizeP n) l l.length = sizeP (n + 1) l := by unfold seqAcc; rw [List.take_length]; rfl
    obtain ⟨j, hj, rfl⟩ := List.getElem_of_mem hpm
    have hp16 := (part_le (n := n) (l := l) (fun p hpm => hp p hpm) l.length (Nat.le_refl _) (by rw [e]; exact h16)).2 j hj hj
    have hbp : wt n l[j] ≤ 100000 := Nat.le_trans (bnd_choices (List.getElem_mem hj)) hb
    refine ih c ((hp _ hpm).2 c hc) ?_ ?_
    · unfold sizePartP at hp16
      have hne2 : l[j].choices.isEmpty = false := by cases h : l[j].choices with | nil => rw [h] at hc; simp at hc | cons _ _ => rfl
      rw [if_neg (by simp [hne2]), fold_count'] at hp16
      exact Nat.le_trans (mem_le_sum (l := l[j].choices.map fun x => (sizeP n x).1) (List.mem_map.2 ⟨c, hc, rfl⟩)) hp16
    · have : bnd n c + 1 ≤ (l[j].choices.map fun c => bnd n c + 1).sum := mem_le_sum (List.mem_map.2 ⟨c, hc, rfl⟩)
      unfold wt at hbp; omega

theorem nil_bytes : ByteArray.toList ⟨#[]⟩ = [] := by kernel_rfl
theorem noname (a b c : Nat) (d : List POp) (e : List (List PPart)) : isStepB (.mk ⟨#[]⟩ a b c d e) = false := by unfold isStepB PPart.name; simp only; rw [nil_bytes]; rfl
def PartG (m n : Nat) (part : Rd → Rd × PPart) : Prop := ∀ σ, SGood σ.ahead → σ.ahead.length ≤ m → ¬ Bad (part σ).1 → SWp n (part σ).2 ∧ wt n (part σ).2 + 2 * (part σ).1.ahead.length ≤ 2 * σ.ahead.length
def SeqG (m n : Nat) (seq : Rd → Rd × List PPart) : Prop := ∀ σ, SGood σ.ahead → σ.ahead.length ≤ m → ¬ Bad (seq σ).1 → SW n (seq σ).2 ∧ bnd n (seq σ).2 + 2 * (seq σ).1.ahead.length ≤ 2 * σ.ahead.length
theorem bnd_app (n : Nat) (l : List PPart) (p : PPart) : bnd (n + 1) (l ++ [p]) = bnd (n + 1) l + wt n p := by rw [bnd_wt, bnd_wt, List.map_append, List.sum_append]; simp
theorem seqL_g {m n : Nat} {part : Rd → Rd × PPart} (kp : KeepsP m part) (kb : KBadP part) (hp : PartG m n part) : ∀ k σ l, SGood σ.ahead → σ.ahead.length ≤ m → ¬ Bad (seqL part k σ l).1 → l ≠ [] → (∀ p ∈ l, SWp n p) →
    (seqL part k σ l).2 ≠ [] ∧ (∀ p ∈ (seqL part k σ l).2, SWp n p) ∧ bnd (n + 1) (seqL part k σ l).2 + 2 * (seqL part k σ l).1.ahead.length ≤ bnd (n + 1) l + 2 * σ.ahead.length := by
  intro k
  induction k with
  | zero => intro σ l _ _ _ hl hs; exact ⟨hl, hs, Nat.le_refl _⟩
  | succ k ih =>
    intro σ l h hm hb hl hs
    unfold seqL at hb ⊢
    by_cases hh : σ.has [tThen] = true
    · simp only [hh, if_true] at hb ⊢
      have h2 := h.has (ts := [tThen]) (by simp [KW]) hh
      have s := skip_ok h h2
      have p := kp _ s.good (Nat.le_trans s.le hm)
      have hnb : ¬ Bad (part σ.skip).1 := fun hx => hb (bad_seqL kb _ _ _ hx)
      obtain ⟨g1, g2⟩ := hp σ.skip s.good (Nat.le_trans s.le hm) hnb
      obtain ⟨r1, r2, r3⟩ := ih _ _ p.good (Nat.le_trans p.le (Nat.le_trans s.le hm)) hb (by simp) (fun q hq => by
        rcases List.mem_append.1 hq with hq | hq
        · exact hs q hq
        · simp only [List.mem_singleton] at hq; subst hq; exact g1)
      refine ⟨r1, r2, ?_⟩
      rw [bnd_app] at r3
      have := s.le
      omega
    · simp only [hh] at hb ⊢
      exact ⟨hl, hs, Nat.le_refl _⟩
theorem seqP_g {m n : Nat} {part : Rd → Rd × PPart} (kp : KeepsP m part) (kb : KBadP part) (hp : PartG m n part) : SeqG m (n + 1) (seqP part) := by
  intro σ h hm hb
  have p := kp σ h hm
  have hnb : ¬ Bad (part σ).1 := fun hx => hb (bad_seqL kb _ _ _ hx)
  obtain ⟨g1, g2⟩ := hp σ h hm hnb
  obtain ⟨r1, r2, r3⟩ := seqL_g kp kb hp (part σ).1.ahead.length (part σ).1 [(part σ).2] p.good (Nat.le_trans p.le hm) hb (by simp) (fun q hq => by simp only [List.mem_singleton] at hq; subst hq; exact g1)
  refine ⟨⟨r1, r2⟩, ?_⟩
  have e : bnd (n + 1) [(part σ).2] = wt n (part σ).2 := by rw [bnd_wt]; simp
  rw [e] at r3
  show bnd (n + 1) (seqL part _ _ _).2 + 2 * (seqL part _ _ _).1.ahead.length ≤ _
  omega
def wts (n : Nat) (c : List (List PPart)) : Nat := (c.map fun c => bnd n c + 1).sum
theorem barL_g {m n : Nat} {seq : Rd → Rd × List PPart} (kp : KeepsP m seq) (kb : KBadP seq) (hp : SeqG m n seq) : ∀ k σ l, SGood σ.ahead → σ.ahead.length ≤ m → ¬ Bad (barL seq k σ l).1 → (∀ c ∈ l, SW n c) →
    (∀ c ∈ (barL seq k σ l).2, SW n c) ∧ wts n (barL seq k σ l).2 + 2 * (barL seq k σ l).1.ahead.length ≤ wts n l + 2 * σ.ahead.length := by
  intro k
  induction k with
  | zero => intro σ l _ _ _ hs; exact ⟨hs, Nat.le_refl _⟩
  | succ k ih =>
    intro σ l h hm hb hs
    unfold barL at hb ⊢
    by_cases hh : σ.has [tBar] = true
    · simp only [hh, if_true] at hb ⊢
      have h2 := h.has (ts := [tBar]) (by simp [KW]) hh
      have s := skip_ok h h2
      have p := kp _ s.good (Nat.le_trans s.le hm)
      have hnb : ¬ Bad (seq σ.skip).1 := fun hx => hb (bad_barL kb _ _ _ hx)
      obtain ⟨g1, g2⟩ := hp σ.skip s.good (Nat.le_trans s.le hm) hnb
      obtain ⟨r2, r3⟩ := ih _ _ p.good (Nat.le_trans p.le (Nat.le_trans s.le hm)) hb (fun q hq => by
        rcases List.mem_append.1 hq with hq | hq
        · exact hs q hq
        · simp only [List.mem_singleton] at hq; subst hq; exact g1)
      refine ⟨r2, ?_⟩
      have e : wts n (l ++ [(seq σ.skip).2]) = wts n l + (bnd n (seq σ.skip).2 + 1) := by unfold wts; rw [List.map_append, List.sum_append]; simp
      rw [e] at r3
      rw [skip_len] at g2
      omega
    · simp only [hh] at hb ⊢
      exact ⟨hs, Nat.le_refl _⟩
theorem brackets_g {m n : Nat} {seq : Rd → Rd × List PPart} (kp : KeepsP m seq) (kb : KBadP seq) (hp : SeqG m n seq) {σ : Rd} (h : SGood σ.ahead) (h2 : 2 ≤ σ.ahead.length) (hm : σ.ahead.length ≤ m + 1) (hb : ¬ Bad (bracketsP seq σ).1) :
    SWp n (bracketsP seq σ).2 ∧ wt n (bracketsP seq σ).2 + 2 * (bracketsP seq σ).1.ahead.length ≤ 2 * σ.ahead.length := by
  have hle : σ.enter.ahead.length ≤ m := by rw [enter_len]; omega
  have hel := enter_len (σ := σ)
  have ka := kp σ.enter (h.tail h2) hle
  unfold bracketsP at hb ⊢
  simp only at hb ⊢
  generalize ea : seq σ.enter = a at *
  have kb1 := expect_ok ka.good (ts := [tBar]) (by simp [KW])
  have hb1 := Nat.le_trans kb1.le (Nat.le_trans ka.le hle)
  have kc := kp _ kb1.good hb1
  generalize eb : seq (a.1.expect [tBar]) = b at *
  have kd := barL_ok kp b.1.ahead.length b.1 [a.2, b.2] kc.good (Nat.le_trans kc.le hb1)
  have n3 : ¬ Bad ((barL seq b.1.ahead.length b.1 [a.2, b.2]).1.expect [tClose]) := hb
  have n2 : ¬ Bad (barL seq b.1.ahead.length b.1 [a.2, b.2]).1 := fun hx => n3 (bad_expect (by simp [KW]) hx)
  have n1 : ¬ Bad b.1 := fun hx => n2 (bad_barL kb _ _ _ hx)
  have n0 : ¬ Bad (a.1.expect [tBar]) := fun hx => n1 (by rw [← eb]; exact kb _ hx)
  have na : ¬ Bad a.1 := fun hx => n0 (bad_expect (by simp [KW]) hx)
  have ga := hp σ.enter (h.tail h2) hle (by rw [ea]; exact na)
  rw [ea] at ga
  have gb := hp _ kb1.good hb1 (by rw [eb]; exact n1)
  rw [eb] at gb
  obtain ⟨hhb, heb⟩ := fine_expect n0
  obtain ⟨hhc, hec⟩ := fine_expect n3
  have la := ka.good.has (ts := [tBar]) (by simp [KW]) hhb
  have lc := kd.good.has (ts := [tClose]) (by simp [KW]) hhc
  obtain ⟨d1, d2⟩ := barL_g kp kb hp b.1.ahead.length b.1 [a.2, b.2] kc.good (Nat.le_trans kc.le hb1) n2 (fun c hc => by
    simp only [List.mem_cons, List.not_mem_nil, or_false] at hc
    rcases hc with rfl | rfl
    · exact ga.1
    · exact gb.1)
  refine ⟨⟨fun hs => (by rw [noname] at hs; cases hs), d1⟩, ?_⟩
  have e2 : wts n [a.2, b.2] = bnd n a.2 + 1 + (bnd n b.2 + 1) := by unfold wts; simp
  have g1 := ga.2
  have g2 := gb.2
  rw [heb, skip_len] at g2
  rw [hec]
  show 0 + 1 + wts n (barL seq b.1.ahead.length b.1 [a.2, b.2]).2 + 2 * (barL seq b.1.ahead.length b.1 [a.2, b.2]).1.skip.ahead.length ≤ _
  rw [skip_len]
  omega
theorem step_g {m n : Nat} {σ : Rd} (h : SGood σ.ahead) (hk : σ.now.kind = 3) (hm : σ.ahead.length ≤ m + 1) (hb : ¬ Bad (stepP m σ).1) :
    SWp n (stepP m σ).2 ∧ wt n (stepP m σ).2 + 2 * (stepP m σ).1.ahead.length ≤ 2 * σ.ahead.length := by
  have h2 := h.more (by show 2 ≤ σ.now.kind; omega)
  have s := skip_ok h h2
  have c := expect_ok s.good (ts := [tColon]) (by simp [KW])
  have a := num_ok c.good 0 99
  have hle : ((σ.skip.expect [tColon]).num 0 99).ahead.length ≤ m := by
    have := a.le; have := c.le; rw [skip_len] at this; omega
  unfold stepP at hb ⊢
  simp only at hb ⊢
  by_cases hh : ((σ.skip.expect [tColon]).num 0 99).has [tTimes] = true
  · simp only [hh, if_true] at hb ⊢
    have h3 := a.good.has (ts := [tTimes]) (by simp [KW]) hh
    have s2 := skip_ok a.good h3
    have n2 := num_ok s2.good 1 4
    have k := condP_ok (n := m) n2.good (Nat.le_trans n2.le (Nat.le_trans s2.le hle))
    have x2 : ¬ Bad (((σ.skip.expect [tColon]).num 0 99).skip.num 1 4) := fun hx => hb (bad_cond _ hx)
    obtain ⟨_, t1, t4, e4⟩ := fine_num x2
    have x1 : ¬ Bad ((σ.skip.expect [tColon]).num 0 99) := fun hx => x2 (bad_num 1 4 (bad_of (σ := (σ.skip.expect [tColon]).num 0 99) (σ' := ((σ.skip.expect [tColon]).num 0 99).skip) rfl (bad_has (by simp [KW]) hh hx)))
    obtain ⟨_, _, _, e1⟩ := fine_num x1
    have x0 : ¬ Bad (σ.skip.expect [tColon]) := fun hx => x1 (bad_num 0 99 hx)
    obtain ⟨hh0, e0⟩ := fine_expect x0
    have l0 := s.good.has (ts := [tColon]) (by simp [KW]) hh0
    refine ⟨⟨fun _ => ⟨t1, t4, rfl⟩, fun c hc => by simp [PPart.choices] at hc⟩, ?_⟩
    have hk := k.1.le
    have h5 := n2.le; have h6 := skip_len ((σ.skip.expect [tColon]).num 0 99); have h7 := congrArg List.length e1; have h8 := skip_len (σ.skip.expect [tColon]); have h9 := congrArg (fun x => x.ahead.length) e0; have h10 := skip_len σ.skip; have h11 := skip_len σ
    show (((σ.skip.expect [tColon]).num 0 99).skip).numV + 1 + 0 + 2 * (condP m _).ahead.length ≤ _
    omega
  · simp only [hh] at hb ⊢
    have k := condP_ok (n := m) a.good hle
    have x1 : ¬ Bad ((σ.skip.expect [tColon]).num 0 99) := fun hx => hb (bad_cond _ hx)
    obtain ⟨_, _, _, e1⟩ := fine_num x1
    have x0 : ¬ Bad (σ.skip.expect [tColon]) := fun hx => x1 (bad_num 0 99 hx)
    obtain ⟨hh0, e0⟩ := fine_expect x0
    have l0 := s.good.has (ts := [tColon]) (by simp [KW]) hh0
    refine ⟨⟨fun _ => ⟨Nat.le_refl 1, by show 1 ≤ 4; omega, rfl⟩, fun c hc => by simp [PPart.choices] at hc⟩, ?_⟩
    have hk := k.1.le
    have h7 := congrArg List.length e1; have h8 := skip_len (σ.skip.expect [tColon]); have h9 := congrArg (fun x => x.ahead.length) e0; have h10 := skip_len σ.skip; have h11 := skip_len σ
    show 1 + 1 + 0 + 2 * (condP m ((σ.skip.expect [tColon]).num 0 99)).ahead.length ≤ _
    omega
theorem guard_g {m n : Nat} {σ : Rd} (h : SGood σ.ahead) (h2 : 2 ≤ σ.ahead.length) (hm : σ.ahead.length ≤ m + 1) : SWp n (guardP m σ).2 ∧ wt n (guardP m σ).2 + 2 * (guardP m σ).1.ahead.length ≤ 2 * σ.ahead.length := by
  have s := skip_ok h h2
  have a := num_ok s.good 0 99
  have k := condP_ok (n := m) a.good (by have := a.le; rw [skip_len] at this; omega)
  refine ⟨⟨fun hs => (by unfold guardP at hs; rw [noname] at hs; cases hs), fun c hc => by simp [guardP, PPart.choices] at hc⟩, ?_⟩
  have h1 := k.1.le; have h3 := a.le; have h4 := skip_len σ
  show 0 + 1 + 0 + 2 * (condP m _).ahead.length ≤ _
  omega
theorem part_g : ∀ n, PartG n n (partP n) := by
  intro n
  induction n with
  | zero => intro σ h hl; have := h.pos; omega
  | succ n ih =>
    intro σ h hm hb
    unfold partP at hb ⊢
    by_cases hk : σ.now.kind = 3
    · simp only [hk, if_true] at hb ⊢
      exact step_g h hk hm hb
    · simp only [hk, if_false] at hb ⊢
      by_cases hn : σ.now.is tNot = true
      · simp only [hn, if_true] at hb ⊢
        exact guard_g h (h.is (by simp [KW]) hn) hm
      · simp only [hn] at hb ⊢
        by_cases ho : σ.now.is tOpen = true
        · simp only [ho, if_true] at hb ⊢
          exact brackets_g (seqP_ok (partP_ok n)) (bad_seq (bad_part n)) (seqP_g (partP_ok n) (bad_part n) ih) h (h.is (by simp [KW]) ho) hm hb
        · simp only [ho] at hb
          exact absurd (bad_fail σ) hb
theorem read_fine {l : List STok} (hG : SGood l) (hl : l.length ≤ 2000) {pat : PPat} {z : Nat} (h : readP l = .inl (pat, z)) :
    SW (l.length + 1) pat.body ∧ bnd (l.length + 1) pat.body ≤ 4000 ∧ 1 ≤ pat.window ∧ pat.window ≤ 1000000 ∧ 1 ≤ pat.rate ∧ pat.rate ≤ 12 := by
  have hb : ¬ Bad (patP l.length (rd0 l)).1 ∧ pat = (patP l.length (rd0 l)).2 := by
    unfold readP at h
    simp only at h
    split at h
    · cases h
    · rename_i hk
      split at h
      · cases h
      · split at h
        · cases h
        · rename_i hbn
          injection h with h; injection h with h _
          refine ⟨fun hx => ?_, h.symm⟩
          rcases hx with hx | ⟨t, ha, h0, _⟩
          · exact hx hbn
          · simp only [Rd.now, ha, List.headD] at hk; omega
  obtain ⟨hb, rfl⟩ := hb
  rw [patP_def] at hb ⊢
  simp only at hb ⊢
  have a := expect_ok (σ := rd0 l) hG (ts := [tWithin]) (by simp [KW])
  have b := num_ok a.good 1 1000000
  have c := expect_ok b.good (ts := [tRate]) (by simp [KW])
  have d := num_ok c.good 1 12
  have hle : ((((rd0 l).expect [tWithin]).num 1 1000000).expect [tRate] |>.num 1 12).ahead.length ≤ l.length := Nat.le_trans d.le (Nat.le_trans c.le (Nat.le_trans b.le a.le))
  obtain ⟨g1, g2⟩ := seqP_g (partP_ok l.length) (bad_part l.length) (part_g l.length) _ d.good hle hb
  have x3 : ¬ Bad ((((rd0 l).expect [tWithin]).num 1 1000000).expect [tRate] |>.num 1 12) := fun hx => hb (bad_seq (bad_part _) _ hx)
  have x2 : ¬ Bad (((rd0 l).expect [tWithin]).num 1 1000000 |>.expect [tRate]) := fun hx => x3 (bad_num 1 12 hx)
  have x1 : ¬ Bad (((rd0 l).expect [tWithin]).num 1 1000000) := fun hx => x2 (bad_expect (by simp [KW]) hx)
  obtain ⟨_, r1, r2, _⟩ := fine_num x3
  obtain ⟨_, w1, w2, _⟩ := fine_num x1
  exact ⟨g1, by omega, w1, w2, r1, r2⟩
end Go.Proofs.YtddbjcfdmdbmkaaGreatDoor

namespace Go.Proofs.YtddbjcfdmdbmkaaGreatDoor
open Go.RowKit

def herP (s : ByteArray) : (PPat × Nat × List (List PPart)) ⊕ (Nat × Nat) :=
  if 600 < s.size then .inr (600, 1) else match readP (tokensP s) with
    | .inr r => .inr r
    | .inl (pat, _) => match makeP ((tokensP s).length + 1) pat with
      | .inr r => .inr r
      | .inl (bd, ps) => .inl (pat, bd, ps)
def HerPost (w : World) (s : ByteArray) (v : Value) (w' : World) : Prop := Below w.heap.size w w' ∧ match herP s with
  | .inr (pl, er) => ∃ tv, v = .tuple #[tv, .agg zeroPlan, .int .i64 pl, .int .i64 er]
  | .inl (pat, bd, ps) => ∃ tv sv, v = .tuple #[tv, .agg #[.int .i64 pat.window, .int .i64 pat.rate, .int .i64 bd, sv], .int .i64 0, .int .i64 0] ∧ PathsLie all7 w' sv ps ∧ w'.ownsRow 0 141 3 tv (tokensP s).length (flat STok.cells (tokensP s))
def ownHr (N : Nat) : Nat → Nat := put all7 N 8
theorem ownHr_ge (N k : Nat) : 7 ≤ ownHr N k := by unfold ownHr put all7; split <;> omega
theorem Ext.below7 {own own' : Nat → Nat} {w w' : World} (h : Ext own w own' w') (h7 : ∀ k, 7 ≤ own k) : Below w.heap.size w w' := ⟨h.kept.os, h.kept.tape, h.kept.output, h.size, fun k hk => h.kept.block k ⟨hk, h7 k⟩⟩
theorem below_start {w w' : World} {o : Obj} (h : Below (w.alloc o).heap.size (w.alloc o) w') : Below w.heap.size w w' := ((Below.refl _ w).alloc (Nat.le_refl _) o).trans (h.mono (by simp))

set_option maxRecDepth 100000 in
set_option maxHeartbeats 800000 in
theorem read_long (s : ByteArray) (w : World) (hs : 600 < s.size) :
    Calls Tryz.prog 35 #[.string s] w fun e w' => ∃ v, e = .returned v ∧ HerPost w s v w' := by
  have HP : Hid (herP s = .inr (600, 1)) := by show _ = _; unfold herP; rw [if_pos hs]
  have hpl := Blk.new w zeroPlan 67
  have hsi : (600 : Int) < (s.size : Int) := by omega
  clear hs
  have z0 := hpl.cell 0; have z1 := hpl.cell 1; have z2 := hpl.cell 2; have z3 := hpl.cell 3; have g0 := hpl.frozen 0; have g1 := hpl.frozen 1; have g2 := hpl.frozen 2; have g3 := hpl.frozen 3
  simp [zeroPlan] at z0 z1 z2 z3
  go_enter Tryz.func35, Tryz.ntmps35
  go_wp2
  have k0 := hpl.cell 0; have k1 := hpl.cell 1; have k2 := hpl.cell 2; have k3 := hpl.cell 3
  simp [zeroPlan] at k0 k1 k2 k3
  refine bodyPost_ret (v := .tuple #[.slice none 0 0, .agg zeroPlan, .int .i64 600, .int .i64 1]) (by simp [results, Tryz.results35, go_sem, k0, k1, k2, k3, zeroPlan]) rfl ⟨_, rfl, (Below.refl _ w).alloc (Nat.le_refl _) _, ?_⟩
  rw [HP.out]
  exact ⟨_, rfl⟩
end Go.Proofs.YtddbjcfdmdbmkaaGreatDoor

namespace Go.Proofs.YtddbjcfdmdbmkaaGreatDoor
open Go.RowKit

theorem readP_err {l : List STok} {p e : Nat} (h : readP l = .inr (p, e)) : e ≠ 0 := by
  unfold readP at h
  simp only at h
  split at h
  · injection h with h; injection h with _ h; omega
  · split at h
    · injection h with h; injection h with _ h; omega
    · split at h
      · injection h with h; injection h with _ h; omega
      · cases h
theorem makeP_err {n : Nat} {pat : PPat} {p e : Nat} (h : makeP n pat = .inr (p, e)) : e ≠ 0 := by
  unfold makeP at h
  split at h
  · injection h with h; injection h with _ h; omega
  · split at h
    · rename_i hne; injection h with h; rw [h] at hne; exact hne
    · split at h
      · rename_i hne; injection h with h; rw [h] at hne; exact hne
      · split at h
        · injection h with h; injection h with _ h; omega
        · cases h
theorem NewToks.form {w w' : World} {v : Value} {l : List STok} (h : NewToks w v l w') (h0 : 0 < l.length) : ∃ g cap, v = .slice (some ⟨g, 0, none⟩) l.length cap ∧ w.heap.size ≤ g := by
  rcases h.row.2 with ⟨_, h0'⟩ | ⟨g, cap, cur, rfl, hb, _⟩
  · omega
  · exact ⟨g, cap, rfl, hb⟩
theorem ownHr_tok {w : World} {o : Obj} {g : Nat} (h : (w.alloc o).heap.size ≤ g) : ownHr w.heap.size g = 7 := by
  rw [alloc_size] at h; unfold ownHr; rw [put_other _ _ _ _ (by omega)]; rfl
theorem read_pre0 {l : List STok} {n : Nat} (h : SGood l ∧ l.length ≤ n + 1) (hs : n ≤ 600) : SGood l ∧ l.length ≤ 2000 ∧ 0 < l.length := ⟨h.1, (by have := h.2; omega), h.1.pos⟩
theorem read_pre (s : ByteArray) (hs : s.size ≤ 600) : SGood (tokensP s) ∧ (tokensP s).length ≤ 2000 ∧ 0 < (tokensP s).length := read_pre0 (tokensP_good s) hs

set_option maxRecDepth 100000 in
set_option maxHeartbeats 800000 in
theorem read_bad (s : ByteArray) (w : World) (hs : s.size ≤ 600) {pl er : Nat} (hr : readP (tokensP s) = .inr (pl, er)) :
    Calls Tryz.prog 35 #[.string s] w fun e w' => ∃ v, e = .returned v ∧ HerPost w s v w' := by
  have HP : Hid (herP s = .inr (pl, er)) := by show _ = _; unfold herP; rw [if_neg (by omega), hr]
  have her := readP_err hr
  have b0 : ((er : Int) != 0) = true := by simp; omega
  have hGall := read_pre s hs
  have hpl := Blk.new w zeroPlan 67
  have hcall := tokens_scan s (w.alloc (.cells zeroPlan 67)) (by omega)
  have hsi : ¬ (600 : Int) < (s.size : Int) := by omega
  clear hs her
  obtain ⟨out, HO⟩ : ∃ out, Hid (tokensP s = out) := ⟨_, rfl⟩
  rw [HO.out] at hr hcall hGall
  obtain ⟨hG, hl, h0⟩ := hGall
  go_enter Tryz.func35, Tryz.ntmps35
  go_wp2_with (first
    | (go_at_call 54; refine hread.mono ?_; rintro e w3 ⟨v3, rfl, own3, hE3, hv3⟩; rw [hr] at hv3; simp only at hv3; subst hv3; have hpl3 := hE3.blk8 (put_same _ _ _) hpl2; have z0 := (hpl3.alloc (.cells #[.int .i64 0, .int .i64 0, .slice none 0 0] 101)).cell 0; have z1 := (hpl3.alloc (.cells #[.int .i64 0, .int .i64 0, .slice none 0 0] 101)).cell 1; have z2 := (hpl3.alloc (.cells #[.int .i64 0, .int .i64 0, .slice none 0 0] 101)).cell 2; have z3 := (hpl3.alloc (.cells #[.int .i64 0, .int .i64 0, .slice none 0 0] 101)).cell 3; have g0 := (hpl3.alloc (.cells #[.int .i64 0, .int .i64 0, .slice none 0 0] 101)).frozen 0; have g1 := (hpl3.alloc (.cells #[.int .i64 0, .int .i64 0, .slice none 0 0] 101)).frozen 1; have g2 := (hpl3.alloc (.cells #[.int .i64 0, .int .i64 0, .slice none 0 0] 101)).frozen 2; have g3 := (hpl3.alloc (.cells #[.int .i64 0, .int .i64 0, .slice none 0 0] 101)).frozen 3; simp [zeroPlan] at z0 z1 z2 z3)
    | (go_at_call 53; refine hcall.mono ?_; rintro e w2 ⟨v2, rfl, hT⟩; obtain ⟨g, cap, rfl, hg⟩ := hT.form h0; have hread := read_p hT.row hG hl (ownHr_tok hg); have hpl2 := (Ext.of_below (own := ownHr w.heap.size) hT.below).blk8 (put_same _ _ _) hpl))
  have hB3 : Below w.heap.size w w3 := (below_start hT.below).trans ((hE3.below7 (ownHr_ge _)).mono (below_start hT.below).size)
  have hEnd := (hpl3.alloc (.cells #[.int .i64 0, .int .i64 0, .slice none 0 0] 101)).fourP (.int .i64 0) (.int .i64 0) (.int .i64 0) (.slice none 0 0)
  have k0 := hEnd.cell 0; have k1 := hEnd.cell 1; have k2 := hEnd.cell 2; have k3 := hEnd.cell 3
  simp at k0 k1 k2 k3
  refine bodyPost_ret (v := .tuple #[.slice none 0 0, .agg zeroPlan, .int .i64 pl, .int .i64 er]) (by simp [results, Tryz.results35, go_sem, k0, k1, k2, k3, zeroPlan]) rfl ⟨_, rfl, below_grown (hB3.alloc hB3.size _) (grownBy_four _ _ _ _ _ _) (fun g e => by cases e; exact Nat.le_refl _), ?_⟩
  rw [HP.out]
  exact ⟨_, rfl⟩
theorem tup4 {A B C A' B' C' tv : Value} (e : Value.tuple #[A, B, C] = .tuple #[A', B', C']) : Value.tuple #[tv, A, B, C] = .tuple #[tv, A', B', C'] := by
  injection e with e
  have := congrArg Array.toList e
  simp at this
  obtain ⟨rfl, rfl, rfl⟩ := this
  rfl
theorem row_base {w : World} {base : Nat} {e : TypeId} {size : Nat} {v : Value} {n : Nat} {xs : List Value} (h : w.ownsRow base e size v n xs) : w.ownsRow 0 e size v n xs := by
  refine ⟨h.1, ?_⟩
  rcases h.2 with hn | ⟨g, cap, cur, e, _, r⟩
  · exact .inl hn
  · exact .inr ⟨g, cap, cur, e, Nat.zero_le _, r⟩
theorem MakePost.form {own : Nat → Nat} {w w' : World} {n : Nat} {p : PPat} {v : Value} (h : MakePost own w n p v w') : ∃ (a b c : Int) (x : Option Addr) (y z pl er : Nat), v = .tuple #[.agg #[.int .i64 a, .int .i64 b, .int .i64 c, .slice x y z], .int .i64 pl, .int .i64 er] := by
  obtain ⟨own', hE, hm⟩ := h
  revert hm
  cases makeP n p with
  | inr r => intro e; exact ⟨0, 0, 0, none, 0, 0, r.1, r.2, e⟩
  | inl r =>
    rintro ⟨sv, e, hL⟩
    obtain ⟨vs, _, hrow, _⟩ := hL
    obtain ⟨x, y, z, rfl⟩ := row_form hrow
    exact ⟨_, _, _, x, y, z, 0, 0, e⟩

theorem herP_both {s : ByteArray} (hs : s.size ≤ 600) {pat : PPat} {zz : Nat} (hr : readP (tokensP s) = .inl (pat, zz)) : (∀ r, makeP ((tokensP s).length + 1) pat = .inr r → herP s = .inr r) ∧ ∀ bd ps, makeP ((tokensP s).length + 1) pat = .inl (bd, ps) → herP s = .inl (pat, bd, ps) := by
  constructor
  · intro r hm; unfold herP; rw [if_neg (by omega), hr]; simp only; rw [hm]
  · intro bd ps hm; unfold herP; rw [if_neg (by omega), hr]; simp only; rw [hm]
set_option maxRecDepth 100000 in
set_option maxHeartbeats 1600000 in
theorem read_good (s : ByteArray) (w : World) (hs : s.size ≤ 600) {pat : PPat} {zz : Nat} (hr : readP (tokensP s) = .inl (pat, zz)) :
    Calls Tryz.prog 35 #[.string s] w fun e w' => ∃ v, e = .returned v ∧ HerPost w s v w' := by
  have HP := herP_both hs hr
  have hGall := read_pre s hs
  have hpl := Blk.new w zeroPlan 67
  have hcall := tokens_scan s (w.alloc (.cells zeroPlan 67)) (by omega)
  have hsi : ¬ (600 : Int) < (s.size : Int) := by omega
  clear hs
  obtain ⟨out, HO⟩ : ∃ out, Hid (tokensP s = out) := ⟨_, rfl⟩
  rw [HO.out] at hr hcall hGall
  rw [HO.out] at HP
  have HPo : Hid _ := HP
  clear HP
  obtain ⟨hG, hl, h0⟩ := hGall
  obtain ⟨f1, f2, _, _, _, f6⟩ := read_fine hG hl hr
  have hmake := fun own w sv (h : SeqLie own w (out.length + 1) sv pat.body) => make_p h (by omega) f6 (fun hb => sw_wf _ _ f1 (by unfold isBigP at hb; simp at hb; omega) (by omega))
  clear f1 f2 f6
  go_enter Tryz.func35, Tryz.ntmps35
  go_wp2_with (first
    | (go_at_call 55; refine (hmake own3 _ _ hS3).mono ?_; rintro e w4 ⟨v4, rfl, hM⟩; obtain ⟨ma, mb, mc, mx, my, mz, pl, er, rfl⟩ := hM.form; obtain ⟨own4, hE4, hv4⟩ := hM; have hpl4 := hE4.blk8 ho3 (hpl3.alloc _); have ho4 := (hE4.same _ (hpl3.alloc _).lt).trans ho3; have hN4 := hpl4.lt; have hN5 : w.heap.size < w4.heap.size + 1 := (by omega); have z0 := hpl4.cell 0; have z1 := hpl4.cell 1; have z2 := hpl4.cell 2; have z3 := hpl4.cell 3; have g0 := hpl4.frozen 0; have g1 := hpl4.frozen 1; have g2 := hpl4.frozen 2; have g3 := hpl4.frozen 3; simp [zeroPlan] at z0 z1 z2 z3)
    | (go_at_call 54; refine hread.mono ?_; rintro e w3 ⟨v3, rfl, own3, hE3, hv3⟩; rw [hr] at hv3; simp only at hv3; obtain ⟨sv, rfl, hS⟩ := hv3; obtain ⟨sa, sb, sc, rfl⟩ := hS.form; have hpl3 := hE3.blk8 (put_same _ _ _) hpl2; have ho3 : own3 w.heap.size = 8 := (hE3.same _ hpl2.lt).trans (put_same _ _ _); have hS3 := SeqLie.ext (Ext.of_below (own := own3) ((Below.refl _ w3).alloc (Nat.le_refl _) (.cells #[.int .i64 pat.window, .int .i64 pat.rate, .slice sa sb sc] 101))) _ _ _ hS)
    | (go_at_call 53; refine hcall.mono ?_; rintro e w2 ⟨v2, rfl, hT⟩; obtain ⟨g, cap, rfl, hg⟩ := hT.form h0; have hread := read_p hT.row hG hl (ownHr_tok hg); have hpl2 := (Ext.of_below (own := ownHr w.heap.size) hT.below).blk8 (put_same _ _ _) hpl))
  go_region
  go_wp2
  have hB3 : Below w.heap.size w w3 := (below_start hT.below).trans ((hE3.below7 (ownHr_ge _)).mono (below_start hT.below).size)
  have hEall := hE3.trans ((Ext.of_below (own := own3) ((Below.refl _ w3).alloc (Nat.le_refl _) (.cells #[.int .i64 pat.window, .int .i64 pat.rate, .slice sa sb sc] 101))).trans hE4)
  have hB4 : Below w.heap.size w w4 := (below_start hT.below).trans ((hEall.below7 (ownHr_ge _)).mono (below_start hT.below).size)
  have hEnd := (hpl4.fourP (.int .i64 ma) (.int .i64 mb) (.int .i64 mc) (.slice mx my mz)).alloc (.cells #[.int .i64 ma, .int .i64 mb, .int .i64 mc, .slice mx my mz] 67)
  have k0 := hEnd.drew.cell 0; have k1 := hEnd.drew.cell 1; have k2 := hEnd.drew.cell 2; have k3 := hEnd.drew.cell 3
  simp at k0 k1 k2 k3
  have hgr : w4.grownBy ((((((w4.setCell ⟨w.heap.size, 0, none⟩ (.int .i64 ma)).setCell ⟨w.heap.size, 1, none⟩ (.int .i64 mb)).setCell ⟨w.heap.size, 2, none⟩ (.int .i64 mc)).setCell ⟨w.heap.size, 3, none⟩ (.slice mx my mz)).alloc (.cells #[.int .i64 ma, .int .i64 mb, .int .i64 mc, .slice mx my mz] 67)).drew) (some w.heap.size) :=
    grownBy_trans (grownBy_trans (grownBy_four _ _ _ _ _ _) (World.grownBy_alloc _ _ (some w.heap.size))) (grownBy_drew _ _)
  refine bodyPost_ret (v := .tuple #[.slice (some ⟨g, 0, none⟩) out.length cap, .agg #[.int .i64 ma, .int .i64 mb, .int .i64 mc, .slice mx my mz], .int .i64 pl, .int .i64 er]) (by simp [results, Tryz.results35, go_sem, k0, k1, k2, k3]) rfl ⟨_, rfl, below_grown hB4 hgr (fun g e => by cases e; exact Nat.le_refl _), ?_⟩
  obtain ⟨H1, H2⟩ := HPo.out
  cases hm : makeP (out.length + 1) pat with
  | inr r =>
    rw [hm] at hv4
    rw [H1 r hm]
    exact ⟨_, tup4 hv4⟩
  | inl r =>
    obtain ⟨bd, ps⟩ := r
    rw [hm] at hv4
    rw [H2 bd ps hm]
    obtain ⟨sv, e, hL⟩ := hv4
    have hrow := hT.row
    have ht7 : own4 g = 7 := (hEall.same g (hrow.lt g rfl).2).trans (ownHr_tok hg)
    have r4 := (row_ext7 hrow (fun k hk => by cases hk; exact ownHr_tok hg) hEall).1
    have r5 := (row_ext7 r4 (own := no8 own4) (fun k hk => by cases hk; simp [no8, ht7]) (no8_ext (own' := own4) hgr (fun k e => by cases e; exact ho4) (fun _ _ _ => rfl))).1
    have hL5 := (hL.move (own' := own4) hgr (fun k e => by cases e; exact ho4) (fun _ _ _ => rfl)).colr (own' := all7) (fun _ _ _ => rfl)
    refine ⟨_, sv, tup4 e, hL5, ?_⟩
    rw [HO.out]
    exact row_base r5

theorem read_h (s : ByteArray) (w : World) : Calls Tryz.prog 35 #[.string s] w fun e w' => ∃ v, e = .returned v ∧ HerPost w s v w' := by
  by_cases hs : 600 < s.size
  · exact read_long s w hs
  · cases hr : readP (tokensP s) with
    | inr r => exact read_bad s w (by omega) (pl := r.1) (er := r.2) hr
    | inl r => exact read_good s w (by omega) (pat := r.1) (zz := r.2) hr
end Go.Proofs.YtddbjcfdmdbmkaaGreatDoor

namespace Go.Proofs.YtddbjcfdmdbmkaaGreatDoor
open Go.RowKit

instance : Inhabited Lf := ⟨⟨⟨#[]⟩, 0, 0, []⟩⟩
def Lf.step (x : Lf) : Bool := !(x.name.toList == [])
def expL (x : Lf) : List Lf := if x.step then List.replicate x.times x else [x]
def expP (p : PPart) : List PPart := if isStepB p then List.replicate p.times p else [p]
def rowL (xs : List Lf) : List Lf := xs.flatMap expL
def cntL (E : List Lf) : Nat := (E.filter Lf.step).length
def guardL (E : List Lf) (i : Nat) : Bool := (E.getD i default).step || (decide (0 < cntL (E.take i)) && decide (0 < cntL (E.drop (i + 1))))
def namesL (E : List Lf) (i : Nat) : Bool := (E.getD i default).cond.all fun o => o.2.2.toList == [] || o.2.2.toList == (E.getD i default).name.toList || (E.take i).any fun x => x.name.toList == o.2.2.toList
def okF (xs : List Lf) : Bool :=
  decide ((xs.map Lf.times).sum ≤ 8) && decide (((xs.filter Lf.step).map fun x => x.name.toList).Nodup) && (List.range (rowL xs).length).all fun i => guardL (rowL xs) i && namesL (rowL xs) i
theorem ffPath_free {f : List PPart → Nat → Nat × Nat} {l : List PPart} (h : ∀ i, i < l.length → (f l i).2 = 0) (a : Nat × Nat) : ∀ k, k ≤ l.length → ffPath f l a k = a := by
  intro k
  induction k with
  | zero => intro _; rfl
  | succ k ih =>
    intro hk
    unfold ffPath
    rw [ih (by omega)]
    unfold ffNew
    rw [if_neg (fun c => c.1 (h k hk))]
theorem first_none {f : List PPart → Nat → Nat × Nat} {ps : List (List PPart)} (h : ∀ l ∈ ps, ∀ i, i < l.length → (f l i).2 = 0) : firstFP f ps = (0, 0) := by
  unfold firstFP ffAcc
  rw [List.take_length]
  generalize (0, 0) = a
  induction ps generalizing a with
  | nil => rfl
  | cons l ps ih =>
    rw [List.foldl_cons, ffPath_free (h l (by simp)) a _ (Nat.le_refl _)]
    exact ih (fun l hl => h l (by simp [hl])) a
theorem step_bare (p : PPart) : p.bare.step = isStepB p := rfl
theorem exp_bare (p : PPart) : (expP p).map PPart.bare = expL p.bare := by
  unfold expP expL
  rw [step_bare]
  split
  · rw [List.map_replicate]; rfl
  · rfl
theorem row_bare (ps : List PPart) : (ps.flatMap expP).map PPart.bare = rowL (ps.map PPart.bare) := by
  unfold rowL
  induction ps with
  | nil => rfl
  | cons p ps ih => rw [List.flatMap_cons, List.map_append, ih, exp_bare, List.map_cons, List.flatMap_cons]
theorem of_part {rec : List PPart → List (List PPart)} {p : PPart} (h : p.choices = []) : ofPartP rec p = [expP p] := by
  unfold ofPartP expP
  split
  · rfl
  · rw [h]; rfl
theorem of_fold {rec : List PPart → List (List PPart)} (ps : List PPart) (h : ∀ p ∈ ps, p.choices = []) : ∀ a, ps.foldl (fun all p => eachP all (ofPartP rec p)) [a] = [a ++ ps.flatMap expP] := by
  induction ps with
  | nil => intro a; simp
  | cons p ps ih =>
    intro a
    rw [List.foldl_cons, of_part (h p (by simp))]
    have e : eachP [a] [expP p] = [a ++ expP p] := rfl
    rw [e, ih (fun q hq => h q (by simp [hq])), List.flatMap_cons, List.append_assoc]
theorem of_flat {n : Nat} {xs : List Lf} {ps : List PPart} (h : Flat xs ps) : ofSeqP (n + 1) ps = [ps.flatMap expP] := by
  unfold ofSeqP
  rw [of_fold ps h.2]
  simp
theorem size_fold {rec : List PPart → Nat × Nat} (ps : List PPart) (h : ∀ p ∈ ps, p.choices = []) : ∀ k, ps.foldl (sizeStep rec) (1, k) = (1, k + (ps.map PPart.times).sum) := by
  induction ps with
  | nil => intro k; rfl
  | cons p ps ih =>
    intro k
    rw [List.foldl_cons]
    have e : sizeStep rec (1, k) p = (1, k + p.times) := by
      unfold sizeStep sizePartP
      rw [h p (by simp)]
      simp
    rw [e, ih (fun q hq => h q (by simp [hq])), List.map_cons, List.sum_cons, Nat.add_assoc]
theorem size_flat {n : Nat} {xs : List Lf} {ps : List PPart} (h : Flat xs ps) : sizeP (n + 1) ps = (1, (xs.map Lf.times).sum) := by
  unfold sizeP
  rw [size_fold ps h.2, ← h.1, List.map_map]
  simp only [Nat.zero_add]
  rfl
theorem getD_map {l : List PPart} (i : Nat) (h : i < l.length) : (l.map PPart.bare).getD i default = (l.getD i default).bare := by
  rw [List.getD_eq_getElem?_getD, List.getD_eq_getElem?_getD, List.getElem?_map, List.getElem?_eq_getElem h]
  rfl
theorem cnt_bare (l : List PPart) : cntL (l.map PPart.bare) = stepsN l := by
  unfold cntL stepsN
  rw [List.filter_map, List.length_map]
  rfl
theorem guard_bare {l : List PPart} {i : Nat} (hi : i < l.length) (h : guardL (l.map PPart.bare) i = true) : (guardFP l i).2 = 0 := by
  unfold guardL at h
  rw [getD_map i hi, step_bare, ← List.map_take, ← List.map_drop, cnt_bare, cnt_bare] at h
  unfold guardFP
  rw [if_pos h]
theorem nodup_inj {α β : Type} {f : α → β} {l : List α} (h : (l.map f).Nodup) {a b : α} (ha : a ∈ l) (hb : b ∈ l) (e : f a = f b) : a = b := by
  induction l with
  | nil => simp at ha
  | cons x l ih =>
    rw [List.map_cons, List.nodup_cons] at h
    rcases List.mem_cons.1 ha with ea | ha'
    · rcases List.mem_cons.1 hb with eb | hb'
      · rw [ea, eb]
      · exact absurd (by rw [← ea, e]; exact List.mem_map_of_mem hb') h.1
    · rcases List.mem_cons.1 hb with eb | hb'
      · exact absurd (by rw [← eb, ← e]; exact List.mem_map_of_mem ha') h.1
      · exact ih h.2 ha' hb'
theorem exp_mem {ps : List PPart} {p : PPart} (h : p ∈ ps.flatMap expP) : p ∈ ps := by
  obtain ⟨q, hq, h⟩ := List.mem_flatMap.1 h
  unfold expP at h
  split at h
  · rw [(List.mem_replicate.1 h).2]; exact hq
  · rw [List.mem_singleton.1 h]; exact hq
theorem name_bare {ps : List PPart} (hn : (((ps.map PPart.bare).filter Lf.step).map fun x => x.name.toList).Nodup) {i : Nat} (hi : i < (ps.flatMap expP).length) (h : namesL ((ps.flatMap expP).map PPart.bare) i = true) : (nameFP (ps.flatMap expP) i).2 = 0 := by
  have hf : (((ps.filter isStepB).map fun x => x.name.toList)).Nodup := by
    rw [List.filter_map, List.map_map] at hn
    exact hn
  have hm : (ps.flatMap expP).getD i default ∈ ps := by
    rw [List.getD_eq_getElem?_getD, List.getElem?_eq_getElem hi]
    exact exp_mem (List.getElem_mem hi)
  have hsub : ∀ x ∈ (ps.flatMap expP).take i, x ∈ ps := fun x hx => exp_mem (List.mem_of_mem_take hx)
  unfold namesL at h
  rw [getD_map i hi, ← List.map_take] at h
  unfold nameFP
  simp only
  generalize (ps.flatMap expP).getD i default = o at *
  generalize (ps.flatMap expP).take i = A at *
  have h1 : (isStepB o && A.any (twiceB o)) = false := by
    cases hs : isStepB o with
    | false => rfl
    | true =>
      rw [Bool.true_and, List.any_eq_false]
      intro x hx ht
      unfold twiceB at ht
      simp only [Bool.and_eq_true, beq_iff_eq, Bool.not_eq_true', beq_eq_false_iff_ne] at ht
      have hxs : isStepB x = true := by
        unfold isStepB at hs ⊢
        rw [ht.1]; exact hs
      exact ht.2 (congrArg PPart.place (nodup_inj hf (List.mem_filter.2 ⟨hsub x hx, hxs⟩) (List.mem_filter.2 ⟨hm, hs⟩) ht.1))
  rw [h1]
  simp only [Bool.false_eq_true, if_false]
  have h2 : o.cond.find? (badOp o A) = none := by
    rw [List.find?_eq_none]
    intro x hx hb
    rw [List.all_eq_true] at h
    have := h x.bare (List.mem_map_of_mem hx)
    unfold badOp at hb
    simp only [Bool.and_eq_true, Bool.not_eq_true', Bool.or_eq_true] at hb this
    obtain ⟨⟨b1, b2⟩, b3⟩ := hb
    rcases this with (t | t) | t
    · rw [show x.bare.2.2 = x.name from rfl, b1] at t; cases t
    · rw [show x.bare.2.2 = x.name from rfl, show o.bare.name = o.name from rfl, b2] at t; cases t
    · rw [List.any_map, show x.bare.2.2 = x.name from rfl] at t
      rw [List.any_eq_false] at b3
      obtain ⟨y, hy, hyt⟩ := List.any_eq_true.1 t
      exact b3 y hy hyt
  rw [h2]
theorem flat_fine {xs : List Lf} {ps : List PPart} (h : Flat xs ps) (hx : okF xs = true) : (xs.map Lf.times).sum ≤ 8 ∧ (∀ i, i < (ps.flatMap expP).length → (guardFP (ps.flatMap expP) i).2 = 0) ∧ ∀ i, i < (ps.flatMap expP).length → (nameFP (ps.flatMap expP) i).2 = 0 := by
  unfold okF at hx
  simp only [Bool.and_eq_true, decide_eq_true_eq] at hx
  obtain ⟨⟨h1, h2⟩, h3⟩ := hx
  rw [List.all_eq_true] at h3
  have e := row_bare ps
  rw [h.1] at e
  have hl : (rowL xs).length = (ps.flatMap expP).length := by rw [← e, List.length_map]
  refine ⟨h1, fun i hi => ?_, fun i hi => ?_⟩
  · have := h3 i (List.mem_range.2 (by omega))
    rw [Bool.and_eq_true] at this
    exact guard_bare hi (e ▸ this.1)
  · have := h3 i (List.mem_range.2 (by omega))
    rw [Bool.and_eq_true] at this
    exact name_bare (by rw [h.1]; exact h2) hi (e ▸ this.2)
theorem her_flat {S : ByteArray} {m : Nat} {g W R : List UInt8} {L : List Pc} {xs : List Lf} (hS : S.data.toList = layL (headPc g W R ++ L)) (hok : okN 0 (headPc g W R ++ L) = true) (hz : S.size ≤ 600) (hm : m ≤ 8) (hW : 1 ≤ numVal (txt W) ∧ numVal (txt W) ≤ 1000000) (hR : 1 ≤ numVal (txt R) ∧ numVal (txt R) ≤ 12) (hL : 3 ≤ L.length) (hQ : ∀ n, RdQ m (n + 8) L xs) (hx : okF xs = true) (hb : mostP (numVal (txt R)) (cntL (rowL xs)) ≤ 4000) :
    ∃ body, Flat xs body ∧ herP S = .inl (⟨numVal (txt W), numVal (txt R), body⟩, mostP (numVal (txt R)) (cntL (rowL xs)), [body.flatMap expP]) := by
  obtain ⟨body, hf, hr⟩ := read_lay (g := g) hm hW hR hL (fun n => (hQ n).rdg) 0
  refine ⟨body, hf, ?_⟩
  obtain ⟨f1, f2, f3⟩ := flat_fine hf hx
  have ht := tokens_lay hS hok
  have e := row_bare body
  rw [hf.1] at e
  have hb2 : boundP (numVal (txt R)) [body.flatMap expP] = mostP (numVal (txt R)) (cntL (rowL xs)) := by
    unfold boundP
    rw [← e, cnt_bare]
    simp
  unfold herP
  rw [if_neg (by omega), ht, hr]
  simp only
  have hmk : makeP ((toksAt 0 (headPc g W R ++ L)).length + 1) ⟨numVal (txt W), numVal (txt R), body⟩ = .inl (mostP (numVal (txt R)) (cntL (rowL xs)), [body.flatMap expP]) := by
    unfold makeP isBigP
    simp only
    rw [size_flat hf, of_flat hf, first_none (f := guardFP) (by simpa using f2), first_none (f := nameFP) (by simpa using f3), hb2]
    simp only [Nat.not_lt.2 f1, ne_eq, not_true, if_false, Nat.not_lt.2 hb]
    simp
  rw [hmk]
theorem toks_len (L : List Pc) : ∀ i, (toksAt i L).length = L.length + 1 := by
  induction L with
  | nil => intro i; rfl
  | cons p L ih => intro i; show (toksAt _ L).length + 1 = _; rw [ih]; rfl
theorem her_two {S : ByteArray} {m : Nat} {g W R : List UInt8} {L : List Pc} {xs ys : List Lf} (hS : S.data.toList = layL (headPc g W R ++ L)) (hok : okN 0 (headPc g W R ++ L) = true) (hz : S.size ≤ 600) (hm : m ≤ 8) (hW : 1 ≤ numVal (txt W) ∧ numVal (txt W) ≤ 1000000) (hR : 1 ≤ numVal (txt R) ∧ numVal (txt R) ≤ 12) (hL : 3 ≤ L.length) (hQ : ∀ n, RdG m (n + 8) L (TwoB xs ys)) (hx : okF xs = true) (hy : okF ys = true) (hb : mostP (numVal (txt R)) (cntL (rowL xs)) + mostP (numVal (txt R)) (cntL (rowL ys)) ≤ 4000) :
    ∃ body a b, Flat xs a ∧ Flat ys b ∧ herP S = .inl (⟨numVal (txt W), numVal (txt R), body⟩, mostP (numVal (txt R)) (cntL (rowL xs)) + mostP (numVal (txt R)) (cntL (rowL ys)), [a.flatMap expP, b.flatMap expP]) := by
  obtain ⟨body, ⟨a, b, ha, hb1, hbody⟩, hr⟩ := read_lay (g := g) hm hW hR hL hQ 0
  refine ⟨body, a, b, ha, hb1, ?_⟩
  obtain ⟨f1, f2, f3⟩ := flat_fine ha hx
  obtain ⟨g1, g2, g3⟩ := flat_fine hb1 hy
  have ht := tokens_lay hS hok
  have e := row_bare a
  rw [ha.1] at e
  have e' := row_bare b
  rw [hb1.1] at e'
  have hb2 : boundP (numVal (txt R)) [a.flatMap expP, b.flatMap expP] = mostP (numVal (txt R)) (cntL (rowL xs)) + mostP (numVal (txt R)) (cntL (rowL ys)) := by
    unfold boundP
    rw [← e, ← e', cnt_bare, cnt_bare]
    simp
  unfold herP
  rw [if_neg (by omega), ht, hr]
  simp only
  have hn := toks_len (headPc g W R ++ L) 0
  have hmk : makeP ((toksAt 0 (headPc g W R ++ L)).length + 1) ⟨numVal (txt W), numVal (txt R), body⟩ = .inl (mostP (numVal (txt R)) (cntL (rowL xs)) + mostP (numVal (txt R)) (cntL (rowL ys)), [a.flatMap expP, b.flatMap expP]) := by
    rw [hn]
    have hof : ofSeqP ((headPc g W R ++ L).length + 1 + 1) body = [a.flatMap expP, b.flatMap expP] := by
      rw [hbody]
      unfold ofSeqP
      rw [List.foldl_cons, List.foldl_nil]
      have : ofPartP (ofSeqP ((headPc g W R ++ L).length + 1)) (.mk ⟨#[]⟩ 0 0 0 [] [a, b]) = [a.flatMap expP, b.flatMap expP] := by
        unfold ofPartP
        have hs : isStepB (.mk ⟨#[]⟩ 0 0 0 [] [a, b]) = false := by kernel_rfl
        rw [hs]
        simp only [Bool.false_eq_true, if_false, PPart.choices, List.isEmpty_cons, List.flatMap_cons, List.flatMap_nil]
        rw [of_flat ha, of_flat hb1]
        rfl
      rw [this]
      rfl
    have hsz : sizeP ((headPc g W R ++ L).length + 1 + 1) body = (2, max (xs.map Lf.times).sum (ys.map Lf.times).sum) := by
      rw [hbody]
      unfold sizeP
      rw [List.foldl_cons, List.foldl_nil]
      unfold sizeStep sizePartP
      simp only [PPart.choices, List.isEmpty_cons, Bool.false_eq_true, if_false, List.foldl_cons, List.foldl_nil, size_flat ha, size_flat hb1]
      simp
    unfold makeP isBigP
    simp only
    rw [hsz, hof, first_none (f := guardFP) (by simp only [List.mem_cons, List.not_mem_nil, or_false, forall_eq_or_imp, forall_eq]; exact ⟨f2, g2⟩), first_none (f := nameFP) (by simp only [List.mem_cons, List.not_mem_nil, or_false, forall_eq_or_imp, forall_eq]; exact ⟨f3, g3⟩), hb2]
    have h8 : ¬ 8 < max (xs.map Lf.times).sum (ys.map Lf.times).sum := by omega
    simp only [h8, ne_eq, not_true, if_false, Nat.not_lt.2 hb]
    simp
  rw [hmk]
end Go.Proofs.YtddbjcfdmdbmkaaGreatDoor

namespace Go.Proofs.YtddbjcfdmdbmkaaGreatDoor
open Go.RowKit

def stepAcc (name : ByteArray) (names : List ByteArray) : Nat → Nat
  | 0 => names.length - 1
  | k + 1 => if (names.getD k ⟨#[]⟩).toList == name.toList then k else stepAcc name names k
def stepOfP (name : ByteArray) (names : List ByteArray) : Nat := stepAcc name names names.length
theorem stepAcc_le (name : ByteArray) (names : List ByteArray) : ∀ k, k ≤ names.length → stepAcc name names k ≤ names.length := by
  intro k
  induction k with
  | zero => intro _; exact Nat.sub_le _ _
  | succ k ih => intro h; unfold stepAcc; split; exact Nat.le_of_lt h; exact ih (by omega)

set_option maxRecDepth 100000 in
set_option maxHeartbeats 800000 in
theorem stepOf_w {w : World} {name : ByteArray} {g cap : Nat} {names : List ByteArray} (hc : ∀ k, (hk : k < names.length) → w.cell? ⟨g, k, none⟩ = some (.string names[k])) (h1 : 1 ≤ names.length) (hl : names.length ≤ 1000000) :
    Calls Tryz.prog 140 #[.string name, .slice (some ⟨g, 0, none⟩) names.length cap] w fun e w' => e = .returned (.int .i64 (stepOfP name names)) ∧ w' = w := by
  have HP : Hid (stepOfP name names = stepAcc name names names.length) := rfl
  have e1 : ((names.length : Int) - 1) = ((names.length - 1 : Nat) : Int) := by omega
  go_enter Tryz.func140, Tryz.ntmps140
  go_wp2
  go_loopw [5, 13] (fun a i wr => ∃ k : Nat, k ≤ names.length ∧ i = .int .i64 k ∧ a = .int .i64 (stepAcc name names k) ∧ wr = w) (fun _ i _ => names.length - (intOf i).toNat)
  case atStart => exact ⟨0, Nat.zero_le _, rfl, by first | rfl | (congr 1), rfl⟩
  case round =>
    obtain ⟨k, hk, rfl, rfl, rfl⟩ := hrel
    by_cases hlt : k < names.length
    · have hck := hc k hlt
      have hki : (k : Int) < (names.length : Int) := by omega
      have hk0 : (0 : Int) ≤ (k : Int) := by omega
      have hget : names.getD k ⟨#[]⟩ = names[k] := by simp [List.getD, hlt]
      have HS : Hid (stepAcc name names (k + 1) = if names[k].toList == name.toList then k else stepAcc name names k) := by show _ = _; rw [← hget]; rfl
      generalize stepAcc name names k = acc at *
      cases hb : names[k].toList == name.toList with
      | true =>
        rw [hb] at HS
        go_wp2
        go_roundw
        case rel => exact ⟨k + 1, hlt, by go_num, by rw [HS.out]; rfl, trivial⟩
        case measure => simp [intOf]; omega
      | false =>
        rw [hb] at HS
        go_wp2
        go_roundw
        case rel => exact ⟨k + 1, hlt, by go_num, by rw [HS.out]; rfl, trivial⟩
        case measure => simp [intOf]; omega
    · have ek : k = names.length := by omega
      subst ek
      go_wp2
      go_ret
      rw [HP.out]
      exact ⟨rfl, rfl⟩
end Go.Proofs.YtddbjcfdmdbmkaaGreatDoor

namespace Go.Proofs.YtddbjcfdmdbmkaaGreatDoor
open Go.RowKit

theorem Tryz.infoWop : (Tryz.prog.info? 245).map (fun i => (i.zero, i.size, i.bytes)) = some (some (.agg #[.string ⟨#[]⟩, .int .i64 0]), 2, 24) := by kernel_rfl
def isFieldB (a : ByteArray) : Bool := a.toList == [97] || a.toList == [98] || a.toList == [99] || a.toList == [116]
def bindOp (names : List ByteArray) (o : POp) : ByteArray × Nat := (o.act, if isFieldB o.act then stepOfP o.name names else o.number)
def bcells (b : ByteArray × Nat) : List Value := [.string b.1, .int .i64 b.2]
theorem map_take (f : POp → ByteArray × Nat) (l : List POp) (k : Nat) (h : k < l.length) : (l.take (k + 1)).map f = (l.take k).map f ++ [f l[k]] := by
  rw [List.take_succ_eq_append_getElem h, List.map_append]; rfl

set_option maxRecDepth 100000 in
set_option maxHeartbeats 1600000 in
theorem bind_w {w : World} {g cap G C : Nat} {ops : List POp} {names : List ByteArray} (hG : G < w.heap.size) (hO : ∀ k, (hk : k < ops.length) → w.cell? ⟨G, k * 4, none⟩ = some (.string ops[k].act) ∧ w.cell? ⟨G, k * 4 + 1, none⟩ = some (.int .i64 ops[k].number) ∧ w.cell? ⟨G, k * 4 + 2, none⟩ = some (.string ops[k].name) ∧ w.cell? ⟨G, k * 4 + 3, none⟩ = some (.int .i64 ops[k].place)) (hol : ops.length ≤ 1000000)
    (hg : g < w.heap.size) (hN : ∀ k, (hk : k < names.length) → w.cell? ⟨g, k, none⟩ = some (.string names[k])) (h1 : 1 ≤ names.length) (hnl : names.length ≤ 1000000) :
    Calls Tryz.prog 90 #[.slice (some ⟨G, 0, none⟩) ops.length C, .slice (some ⟨g, 0, none⟩) names.length cap] w fun e w' => ∃ v, e = .returned v ∧ w'.ownsRow w.heap.size 245 2 v ops.length (flat bcells (ops.map (bindOp names))) ∧ Below w.heap.size w w' := by
  obtain ⟨i0, hi0, hz0, hz1, hz2⟩ := info_parts Tryz.infoWop
  go_enter Tryz.func90, Tryz.ntmps90
  go_wp2
  go_loopw [5, 11] (fun v i wr => ∃ (k : Nat) (acc : List (ByteArray × Nat)), k ≤ ops.length ∧ i = .int .i64 k ∧ acc = (ops.take k).map (bindOp names) ∧ wr.ownsRow w.heap.size 245 2 v acc.length (flat bcells acc) ∧ Below w.heap.size w wr) (fun _ i _ => ops.length - (intOf i).toNat)
  case atStart => exact ⟨0, [], Nat.zero_le _, rfl, rfl, World.ownsRow_nil _ _ _ _, Below.refl _ _⟩
  case round =>
    obtain ⟨k, acc, hk, rfl, hacc, hrow2, hbel⟩ := hrel
    have hal : acc.length = k := by rw [hacc, List.length_map, List.length_take]; omega
    obtain ⟨va, vb, vc, rfl⟩ := row_form hrow2
    have hws := hbel.size
    by_cases hlt : k < ops.length
    · obtain ⟨c0, c1, c2, c3⟩ := hO k hlt
      have tr : ∀ i u, w.cell? ⟨G, k * 4 + i, none⟩ = some u → wr.cell? ⟨G, k * 4 + i, none⟩ = some u := fun i u e => (hbel.cell (p := ⟨G, k * 4 + i, none⟩) hG).trans e
      have d0 := tr 0 _ c0; have d1 := tr 1 _ c1; have d2 := tr 2 _ c2; have d3 := tr 3 _ c3
      rw [Nat.add_zero] at d0
      have HT : Hid ((ops.take (k + 1)).map (bindOp names) = acc ++ [bindOp names ops[k]]) := by show _ = _; rw [map_take _ _ _ hlt, hacc]
      have hki : (k : Int) < (ops.length : Int) := by omega
      have hk0 : (0 : Int) ≤ (k : Int) := by omega
      have hstep := stepOf_w (w := wr.alloc (.cells #[.string ops[k].act, .int .i64 ops[k].number, .string ops[k].name, .int .i64 ops[k].place] 241)) (name := ops[k].name) (g := g) (cap := cap) (names := names) (fun j hj => ((hbel.alloc hbel.size _).cell (p := ⟨g, j, none⟩) hg).trans (hN j hj)) h1 hnl
      generalize ops[k] = o at *
      clear hO hN tr c0 c1 c2 c3 hacc
      have hal2 : acc.length ≤ 1000000 := by omega
      clear hal
      cases x1 : o.act.toList == [97] with
      | true =>
        have HV : Hid (bindOp names o = (o.act, (stepOfP o.name names))) := by show _ = _; unfold bindOp isFieldB; simp [x1]
        go_wp2_with (first
          | (go_at_call 140; refine hstep.mono ?_; rintro e w1 ⟨rfl, he⟩; rw [he]; clear he)
          | (at_builtin; refine wpList_append_lies _ rfl (.tmp 28) (.tmp 33) 191 rfl w.heap.size 245 i0 _ 2 24 Tryz.underlying191 hi0 hz0 hz1 hz2 rfl (by decide) _ acc.length (flat bcells acc) (by rfl) ((hrow2.alloc _).alloc _) ⟨wr.heap.size + 1, 0, none⟩ 1 1 (bcells (o.act, (stepOfP o.name names))) (by rfl) rfl (World.news_of_block (alloc_at _ _ _ (by simp))) (by simp [bcells, Value.oneCell']) (by decide) (by unfold maxLen; omega) (by omega) (by simp; omega) (wr.heap.size + 1 + 1) (by simp) ?_; intro g4 cap4 w4 hown hgrow hat hlt4))
        go_roundw
        case rel => exact ⟨k + 1, acc ++ [bindOp names o], hlt, by go_num, by rw [HT.out], (by rw [HV.out, flat_snoc, List.length_append]; exact hown), below_grown ((hbel.alloc hbel.size _).alloc (by simp; have := hbel.size; omega) _) hgrow (fun k hk => (hrow2.lt k hk).1)⟩
        case measure => simp [intOf]; omega
      | false =>
       cases x2 : o.act.toList == [98] with
       | true =>
        have HV : Hid (bindOp names o = (o.act, (stepOfP o.name names))) := by show _ = _; unfold bindOp isFieldB; simp [x1, x2]
        go_wp2_with (first
          | (go_at_call 140; refine hstep.mono ?_; rintro e w1 ⟨rfl, he⟩; rw [he]; clear he)
          | (at_builtin; refine wpList_append_lies _ rfl (.tmp 28) (.tmp 33) 191 rfl w.heap.size 245 i0 _ 2 24 Tryz.underlying191 hi0 hz0 hz1 hz2 rfl (by decide) _ acc.length (flat bcells acc) (by rfl) ((hrow2.alloc _).alloc _) ⟨wr.heap.size + 1, 0, none⟩ 1 1 (bcells (o.act, (stepOfP o.name names))) (by rfl) rfl (World.news_of_block (alloc_at _ _ _ (by simp))) (by simp [bcells, Value.oneCell']) (by decide) (by unfold maxLen; omega) (by omega) (by simp; omega) (wr.heap.size + 1 + 1) (by simp) ?_; intro g4 cap4 w4 hown hgrow hat hlt4))
        go_roundw
        case rel => exact ⟨k + 1, acc ++ [bindOp names o], hlt, by go_num, by rw [HT.out], (by rw [HV.out, flat_snoc, List.length_append]; exact hown), below_grown ((hbel.alloc hbel.size _).alloc (by simp; have := hbel.size; omega) _) hgrow (fun k hk => (hrow2.lt k hk).1)⟩
        case measure => simp [intOf]; omega
       | false =>
        cases x3 : o.act.toList == [99] with
        | true =>
         have HV : Hid (bindOp names o = (o.act, (stepOfP o.name names))) := by show _ = _; unfold bindOp isFieldB; simp [x1, x2, x3]
         go_wp2_with (first
           | (go_at_call 140; refine hstep.mono ?_; rintro e w1 ⟨rfl, he⟩; rw [he]; clear he)
           | (at_builtin; refine wpList_append_lies _ rfl (.tmp 28) (.tmp 33) 191 rfl w.heap.size 245 i0 _ 2 24 Tryz.underlying191 hi0 hz0 hz1 hz2 rfl (by decide) _ acc.length (flat bcells acc) (by rfl) ((hrow2.alloc _).alloc _) ⟨wr.heap.size + 1, 0, none⟩ 1 1 (bcells (o.act, (stepOfP o.name names))) (by rfl) rfl (World.news_of_block (alloc_at _ _ _ (by simp))) (by simp [bcells, Value.oneCell']) (by decide) (by unfold maxLen; omega) (by omega) (by simp; omega) (wr.heap.size + 1 + 1) (by simp) ?_; intro g4 cap4 w4 hown hgrow hat hlt4))
         go_roundw
         case rel => exact ⟨k + 1, acc ++ [bindOp names o], hlt, by go_num, by rw [HT.out], (by rw [HV.out, flat_snoc, List.length_append]; exact hown), below_grown ((hbel.alloc hbel.size _).alloc (by simp; have := hbel.size; omega) _) hgrow (fun k hk => (hrow2.lt k hk).1)⟩
         case measure => simp [intOf]; omega
        | false =>
         cases x4 : o.act.toList == [116] with
         | true =>
          have HV : Hid (bindOp names o = (o.act, (stepOfP o.name names))) := by show _ = _; unfold bindOp isFieldB; simp [x1, x2, x3, x4]
          go_wp2_with (first
            | (go_at_call 140; refine hstep.mono ?_; rintro e w1 ⟨rfl, he⟩; rw [he]; clear he)
            | (at_builtin; refine wpList_append_lies _ rfl (.tmp 28) (.tmp 33) 191 rfl w.heap.size 245 i0 _ 2 24 Tryz.underlying191 hi0 hz0 hz1 hz2 rfl (by decide) _ acc.length (flat bcells acc) (by rfl) ((hrow2.alloc _).alloc _) ⟨wr.heap.size + 1, 0, none⟩ 1 1 (bcells (o.act, (stepOfP o.name names))) (by rfl) rfl (World.news_of_block (alloc_at _ _ _ (by simp))) (by simp [bcells, Value.oneCell']) (by decide) (by unfold maxLen; omega) (by omega) (by simp; omega) (wr.heap.size + 1 + 1) (by simp) ?_; intro g4 cap4 w4 hown hgrow hat hlt4))
          go_roundw
          case rel => exact ⟨k + 1, acc ++ [bindOp names o], hlt, by go_num, by rw [HT.out], (by rw [HV.out, flat_snoc, List.length_append]; exact hown), below_grown ((hbel.alloc hbel.size _).alloc (by simp; have := hbel.size; omega) _) hgrow (fun k hk => (hrow2.lt k hk).1)⟩
          case measure => simp [intOf]; omega
         | false =>
          have HV : Hid (bindOp names o = (o.act, o.number)) := by show _ = _; unfold bindOp isFieldB; simp [x1, x2, x3, x4]
          go_wp2_with (first
            | (at_builtin; refine wpList_append_lies _ rfl (.tmp 28) (.tmp 33) 191 rfl w.heap.size 245 i0 _ 2 24 Tryz.underlying191 hi0 hz0 hz1 hz2 rfl (by decide) _ acc.length (flat bcells acc) (by rfl) ((hrow2.alloc _).alloc _) ⟨wr.heap.size + 1, 0, none⟩ 1 1 (bcells (o.act, o.number)) (by rfl) rfl (World.news_of_block (alloc_at _ _ _ (by simp))) (by simp [bcells, Value.oneCell']) (by decide) (by unfold maxLen; omega) (by omega) (by simp; omega) (wr.heap.size + 1 + 1) (by simp) ?_; intro g4 cap4 w4 hown hgrow hat hlt4))
          go_roundw
          case rel => exact ⟨k + 1, acc ++ [bindOp names o], hlt, by go_num, by rw [HT.out], (by rw [HV.out, flat_snoc, List.length_append]; exact hown), below_grown ((hbel.alloc hbel.size _).alloc (by simp; have := hbel.size; omega) _) hgrow (fun k hk => (hrow2.lt k hk).1)⟩
          case measure => simp [intOf]; omega
    · have ek : k = ops.length := by omega
      subst ek
      rw [List.take_length] at hacc
      have HA : Hid (acc = ops.map (bindOp names)) := hacc
      clear hacc
      go_wp2
      go_ret
      rw [← HA.out]
      rw [hal] at hrow2
      exact ⟨_, rfl, hrow2, hbel⟩
end Go.Proofs.YtddbjcfdmdbmkaaGreatDoor

namespace Go.Proofs.YtddbjcfdmdbmkaaGreatDoor
open Go.RowKit

def trimL (w : List UInt8) : List UInt8 := if (w.dropWhile (· == 48)).isEmpty then [48] else w.dropWhile (· == 48)
def plainL (t : STok) : List UInt8 := if t.kind = 2 then trimL t.text.data.toList else t.text.data.toList
def closesB (t : STok) : Bool := t.is tColon || t.is tDot
def gapL (tight : Bool) (t : STok) : List UInt8 := if tight || closesB t then [] else [32]
def joinL : Bool → List STok → List UInt8
  | _, [] => []
  | tight, t :: ts => if t.kind = 1 then [] else gapL tight t ++ (plainL t ++ joinL (closesB t) ts)
def joinP (ts : List STok) : ByteArray := ⟨(joinL true ts).toArray⟩
theorem stoks_cons (s : ByteArray) (n i : Nat) : ∃ l, stoks s (n + 1) i = stokAt s i :: l := by
  unfold stoks
  generalize stokAt s i = t
  split
  · exact ⟨_, rfl⟩
  · exact ⟨_, rfl⟩
theorem trim_eq (w : List UInt8) : (trimL w = [48] ∧ ∀ c ∈ w, c = 48) ∨ (∃ b l, trimL w = b :: l ∧ b ≠ 48 ∧ ∃ z, w = z ++ b :: l ∧ ∀ c ∈ z, c = 48) := by
  unfold trimL
  induction w with
  | nil => exact .inl ⟨rfl, by simp⟩
  | cons c w ih =>
    by_cases hc : c = 48
    · subst hc
      rw [List.dropWhile_cons_of_pos (by rfl)]
      rcases ih with ⟨h1, h2⟩ | ⟨b, l, h1, h2, z, h3, h4⟩
      · refine .inl ⟨h1, fun c hc => ?_⟩
        rcases List.mem_cons.1 hc with rfl | hc
        · rfl
        · exact h2 c hc
      · refine .inr ⟨b, l, h1, h2, 48 :: z, by rw [h3]; rfl, fun c hc => ?_⟩
        rcases List.mem_cons.1 hc with rfl | hc
        · rfl
        · exact h4 c hc
    · rw [List.dropWhile_cons_of_neg (by simpa using hc)]
      exact .inr ⟨c, w, rfl, hc, [], rfl, by simp⟩
end Go.Proofs.YtddbjcfdmdbmkaaGreatDoor
