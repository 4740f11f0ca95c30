import Derived.Test.YtddbjcfdmdbmkaaGreatDoorB24
set_option linter.unusedVariables false
set_option linter.unusedSimpArgs false
/-
  The program's paths: mostRuns.
-/
namespace Go.Proofs.YtddbjcfdmdbmkaaGreatDoor
open Go.RowKit

theorem wr64 {n : Int} (h : -9223372036854775808 ≤ n ∧ n ≤ 9223372036854775807) : wrap64 n = n := by unfold wrap64; omega
/-- in how many ways up to k things, and k things, are taken -/
def mostAcc (rate : Nat) : Nat → Nat × Nat
  | 0 => (0, 1)
  | k + 1 => ((mostAcc rate k).1 + (mostAcc rate k).2 * (rate - k) / (k + 1), (mostAcc rate k).2 * (rate - k) / (k + 1))
def mostP (rate steps : Nat) : Nat := (mostAcc rate (steps - 1)).1
theorem most_ways {rate : Nat} (hr : rate ≤ 12) : ∀ k, (mostAcc rate k).2 ≤ 12 ^ k := by
  intro k
  induction k with
  | zero => exact Nat.le_refl _
  | succ k ih =>
    show (mostAcc rate k).2 * (rate - k) / (k + 1) ≤ _
    refine Nat.le_trans (Nat.div_le_self _ _) ?_
    rw [Nat.pow_succ]
    exact Nat.mul_le_mul ih (by omega)
theorem most_zero {rate : Nat} : ∀ k, rate < k → (mostAcc rate k).2 = 0 := by
  intro k
  induction k with
  | zero => intro h; omega
  | succ k ih =>
    intro h
    show (mostAcc rate k).2 * (rate - k) / (k + 1) = 0
    by_cases e : rate < k
    · rw [ih e, Nat.zero_mul, Nat.zero_div]
    · rw [show rate - k = 0 by omega, Nat.mul_zero, Nat.zero_div]
theorem most_bounds {rate : Nat} (hr : rate ≤ 12) : ∀ k, k ≤ 8 → (mostAcc rate k).2 ≤ 429981696 ∧ (mostAcc rate k).1 ≤ 429981696 * k := by
  intro k
  induction k with
  | zero => intro _; exact ⟨by show 1 ≤ _; omega, by show 0 ≤ _; omega⟩
  | succ k ih =>
    intro hk
    have h := ih (by omega)
    have h2 : (mostAcc rate (k + 1)).2 ≤ 429981696 := Nat.le_trans (most_ways hr (k + 1)) (Nat.le_trans (Nat.pow_le_pow_right (by decide) hk) (by decide))
    exact ⟨h2, by show (mostAcc rate k).1 + (mostAcc rate (k + 1)).2 ≤ _; omega⟩

set_option maxRecDepth 100000 in
set_option maxHeartbeats 800000 in
theorem mostRuns_p {own : Nat → Nat} {w : World} {v : Value} {l : List PPart} (h : PathV own w v l) (hl : l.length ≤ 1000000) (h8 : stepsN l ≤ 8) (h1 : 1 ≤ stepsN l) {rate : Nat} (hr : rate ≤ 12) :
    Calls Tryz.prog 89 #[v, .int .i64 rate] w fun e w' => e = .returned (.int .i64 (mostP rate (stepsN l))) ∧ Below w.heap.size w w' := by
  have hcall := stepsOf_p h hl
  have hv : ∃ a b c, v = .slice a b c := by
    rcases h with ⟨_, p, c, rfl⟩ | ⟨g, off, cap, rfl, _⟩ <;> exact ⟨_, _, _, rfl⟩
  obtain ⟨va, vb, vc, rfl⟩ := hv
  clear h hl
  generalize stepsN l = s at *
  have HM : Hid (mostP rate s = (mostAcc rate (s - 1)).1) := rfl
  go_enter Tryz.func89, Tryz.ntmps89
  go_wp2_with (go_at_call 136; refine hcall.mono ?_; rintro e w1 ⟨rfl, hb1⟩)
  go_loop [5, 6, 11] (fun a b i => ∃ k : Nat, k ≤ s - 1 ∧ i = .int .i64 k ∧ a = .int .i64 (mostAcc rate k).1 ∧ b = .int .i64 (mostAcc rate k).2) (fun _ _ i => s - 1 - (intOf i).toNat)
  case atStart => exact ⟨0, Nat.zero_le _, rfl, rfl, rfl⟩
  case round =>
    obtain ⟨k, hk, rfl, rfl, rfl⟩ := hrel
    obtain ⟨b2, b1⟩ := most_bounds hr k (by omega)
    by_cases hlt : k < s - 1
    · have HA : Hid (mostAcc rate (k + 1) = ((mostAcc rate k).1 + (mostAcc rate k).2 * (rate - k) / (k + 1), (mostAcc rate k).2 * (rate - k) / (k + 1))) := rfl
      obtain ⟨b4, b3⟩ := most_bounds hr (k + 1) (by omega)
      rw [HA.out] at b3 b4
      simp only at b3 b4
      have hki : (k : Int) < (s : Int) - 1 := by omega
      have hz := most_zero (rate := rate) k
      have hmz : ((mostAcc rate k).2 : Int) * ((rate : Int) - (k : Int)) = (((mostAcc rate k).2 * (rate - k) : Nat) : Int) := by
        by_cases e : rate < k
        · rw [hz e]; simp
        · rw [Int.natCast_mul, Int.natCast_sub (by omega)]
      have hm1 : (mostAcc rate k).2 * (rate - k) ≤ 429981696 * 12 := Nat.mul_le_mul b2 (by omega)
      clear hz
      generalize (mostAcc rate k).2 = y2 at *
      generalize (mostAcc rate k).1 = y1 at *
      generalize hzz : y2 * (rate - k) = z at *
      have Hzz : Hid (y2 * (rate - k) = z) := hzz
      clear hzz
      have hq : (z : Int) / ((k : Int) + 1) = ((z / (k + 1) : Nat) : Int) := by simp
      generalize z / (k + 1) = q at *
      go_wp2
      go_round
      case rel => exact ⟨k + 1, by omega, by go_num, by rw [HA.out]; go_num, by rw [HA.out]⟩
      case measure => simp [intOf]; omega
    · have ek : k = s - 1 := by omega
      subst ek
      have hki : ¬ (((s - 1 : Nat)) : Int) < (s : Int) - 1 := by omega
      go_wp2
      go_ret
      rw [HM.out]
      exact ⟨rfl, hb1⟩
end Go.Proofs.YtddbjcfdmdbmkaaGreatDoor

/-
  The program's paths: guardFault.
-/
namespace Go.Proofs.YtddbjcfdmdbmkaaGreatDoor
open Go.RowKit

theorem PathAt.take {own : Nat → Nat} {w : World} {g off : Nat} {l : List PPart} (h : PathAt own w g off l) (i : Nat) : PathAt own w g off (l.take i) := by
  refine ⟨h.lt, h.col, fun k hk => ?_⟩
  rw [List.length_take] at hk
  rw [List.getElem_take]
  exact h.part k (by omega)
theorem PathAt.drop {own : Nat → Nat} {w : World} {g off : Nat} {l : List PPart} (h : PathAt own w g off l) (i : Nat) : PathAt own w g (off + i) (l.drop i) := by
  refine ⟨h.lt, h.col, fun k hk => ?_⟩
  rw [List.length_drop] at hk
  rw [List.getElem_drop, Nat.add_assoc]
  exact h.part (i + k) (by omega)
def guardFP (l : List PPart) (i : Nat) : Nat × Nat :=
  if isStepB (l.getD i default) || (decide (0 < stepsN (l.take i)) && decide (0 < stepsN (l.drop (i + 1)))) then (0, 0) else ((l.getD i default).place, 1)

set_option maxRecDepth 100000 in
set_option maxHeartbeats 800000 in
theorem guardFault_p {own : Nat → Nat} {w : World} {g off cap : Nat} {l : List PPart} (hP : PathAt own w g off l) (hcap : l.length ≤ cap) (hl : l.length ≤ 1000000) {i : Nat} (hi : i < l.length) :
    Calls Tryz.prog 87 #[.slice (some ⟨g, off * 6, none⟩) l.length cap, .int .i64 i] w fun e w' => e = .returned (.tuple #[.int .i64 (guardFP l i).1, .int .i64 (guardFP l i).2]) ∧ Below w.heap.size w w' := by
  obtain ⟨cv, hv, ho, hf, d0, d1, d2, d3, d4, d5⟩ := hP.part i hi
  have e6 : (off + i) * 6 = off * 6 + i * 6 := by omega
  rw [e6] at d0 d1 d2 d3 d4 d5
  have hg := hP.lt
  have hcall := fun w => isStep_p l[i] cv hv (row_form ho.1) hf w
  have hget : l.getD i default = l[i] := by simp [List.getD, hi]
  have HG : Hid (guardFP l i = if isStepB l[i] || (decide (0 < stepsN (l.take i)) && decide (0 < stepsN (l.drop (i + 1)))) then (0, 0) else (l[i].place, 1)) := by
    show _ = _; unfold guardFP; rw [hget]
  obtain ⟨cp, cn, cc, rfl⟩ := row_form ho.1
  obtain ⟨a', b', c', rfl⟩ := hf
  have hki : (i : Int) < (l.length : Int) := by omega
  have hk0 : (0 : Int) ≤ (i : Int) := by omega
  have hic : (i : Int) ≤ (cap : Int) := by omega
  have hic1 : (i : Int) + 1 ≤ (l.length : Int) := by omega
  simp only [partVal] at hcall
  cases hb : isStepB l[i] with
  | true =>
    have HE : Hid (guardFP l i = (0, 0)) := by show _ = _; rw [HG.out, hb]; rfl
    rw [hb] at hcall
    clear hb e6 hget HG ho
    go_enter Tryz.func87, Tryz.ntmps87
    go_wp2_with (go_at_call 91; refine (hcall _).mono ?_; rintro e w1 ⟨rfl, o, rfl⟩)
    go_ret2
    rw [HE.out]
    exact ⟨rfl, (Below.refl _ _).alloc (Nat.le_refl _) _⟩
  | false =>
    rw [hb] at hcall
    have hT : ∀ w', Below w.heap.size w w' → PathV own w' (.slice (some ⟨g, off * 6, none⟩) i cap) (l.take i) := fun w' hb' => by
      by_cases e : i = 0
      · subst e; exact .inl ⟨rfl, _, _, rfl⟩
      · exact .inr ⟨g, off, cap, by rw [List.length_take, Nat.min_eq_left (by omega)], by rw [List.length_take]; omega, (hP.take i).ext (Ext.of_below hb')⟩
    have hst := fun w' hb' => stepsOf_p (hT w' hb') (by rw [List.length_take]; omega)
    clear e6 hget ho
    generalize hoff : off * 6 = of6 at *
    by_cases h1 : 0 < stepsN (l.take i)
    · have hD : ∀ w' p c, Below w.heap.size w w' → (i + 1 < l.length → p = some ⟨g, of6 + (i + 1) * 6, none⟩ ∧ l.length - (i + 1) ≤ c) → PathV own w' (.slice p (l.length - (i + 1)) c) (l.drop (i + 1)) := fun w' p c hb' hpc => by
        by_cases e : i + 1 < l.length
        · obtain ⟨rfl, hc⟩ := hpc e
          refine .inr ⟨g, off + (i + 1), c, by rw [List.length_drop, ← hoff, show (off + (i + 1)) * 6 = off * 6 + (i + 1) * 6 by omega], by rw [List.length_drop]; exact hc, (hP.drop (i + 1)).ext (Ext.of_below hb')⟩
        · exact .inl ⟨List.drop_eq_nil_of_le (by omega), p, c, by rw [show l.length - (i + 1) = 0 by omega]⟩
      have h1' : (0 : Int) < (stepsN (l.take i) : Int) := by omega
      have h1d : decide ((0 : Int) < (stepsN (l.take i) : Int)) = true := by simpa using h1'
      have hdl : (l.drop (i + 1)).length ≤ 1000000 := by rw [List.length_drop]; omega
      by_cases hcc : cap = i + 1
      · subst hcc
        have hst2 := fun w' hB => stepsOf_p (hD w' (some ⟨g, of6, none⟩) 0 hB (fun e => absurd e (by omega))) hdl
        rw [show l.length - (i + 1) = 0 by omega] at hst2
        clear hD
        by_cases h2 : 0 < stepsN (l.drop (i + 1))
        · have HE : Hid (guardFP l i = (0, 0)) := by show _ = _; rw [HG.out, hb]; simp [h1, h2]
          have h2' : (0 : Int) < (stepsN (l.drop (i + 1)) : Int) := by omega
          clear hb HG hT
          generalize stepsN (l.take i) = s1 at *
          go_enter Tryz.func87, Tryz.ntmps87
          go_wp2_with (first
            | (go_at_call 91; refine (hcall _).mono ?_; rintro e w1 ⟨rfl, o, rfl⟩; have hb1 : Below w.heap.size w (w.alloc o) := (Below.refl _ _).alloc (Nat.le_refl _) _)
            | (go_at_call 136; have hB2 := hb1.trans (hb2.mono hb1.size); refine (hst2 w2 hB2).mono ?_; rintro e w3 ⟨rfl, hb3⟩)
            | (go_at_call 136; refine (hst _ hb1).mono ?_; rintro e w2 ⟨rfl, hb2⟩; clear hst))
          all_goals
            go_ret2
            rw [HE.out]
            exact ⟨rfl, hB2.trans (hb3.mono hB2.size)⟩
        · have HE : Hid (guardFP l i = (l[i].place, 1)) := by show _ = _; rw [HG.out, hb]; simp [h2]
          have h2' : ¬ (0 : Int) < (stepsN (l.drop (i + 1)) : Int) := by omega
          clear hb HG hT
          generalize stepsN (l.take i) = s1 at *
          go_enter Tryz.func87, Tryz.ntmps87
          go_wp2_with (first
            | (go_at_call 91; refine (hcall _).mono ?_; rintro e w1 ⟨rfl, o, rfl⟩; have hb1 : Below w.heap.size w (w.alloc o) := (Below.refl _ _).alloc (Nat.le_refl _) _)
            | (go_at_call 136; have hB2 := hb1.trans (hb2.mono hb1.size); refine (hst2 w2 hB2).mono ?_; rintro e w3 ⟨rfl, hb3⟩; have hB3 := hB2.trans (hb3.mono hB2.size); have q1 := (hB3.cell (p := ⟨g, of6 + i * 6 + 1, none⟩) hg).trans d1)
            | (go_at_call 136; refine (hst _ hb1).mono ?_; rintro e w2 ⟨rfl, hb2⟩; clear hst))
          all_goals
            go_ret2
            rw [HE.out]
            exact ⟨rfl, hB3⟩
      · have hst2 := fun w' hB => stepsOf_p (hD w' (some ⟨g, of6 + (i + 1) * 6, none⟩) (cap - (i + 1)) hB (fun _ => ⟨rfl, by omega⟩)) hdl
        clear hD
        by_cases h2 : 0 < stepsN (l.drop (i + 1))
        · have HE : Hid (guardFP l i = (0, 0)) := by show _ = _; rw [HG.out, hb]; simp [h1, h2]
          have h2' : (0 : Int) < (stepsN (l.drop (i + 1)) : Int) := by omega
          clear hb HG hT
          generalize stepsN (l.take i) = s1 at *
          go_enter Tryz.func87, Tryz.ntmps87
          go_wp2_with (first
            | (go_at_call 91; refine (hcall _).mono ?_; rintro e w1 ⟨rfl, o, rfl⟩; have hb1 : Below w.heap.size w (w.alloc o) := (Below.refl _ _).alloc (Nat.le_refl _) _)
            | (go_at_call 136; have hB2 := hb1.trans (hb2.mono hb1.size); refine (hst2 w2 hB2).mono ?_; rintro e w3 ⟨rfl, hb3⟩)
            | (go_at_call 136; refine (hst _ hb1).mono ?_; rintro e w2 ⟨rfl, hb2⟩; clear hst))
          all_goals
            go_ret2
            rw [HE.out]
            exact ⟨rfl, hB2.trans (hb3.mono hB2.size)⟩
        · have HE : Hid (guardFP l i = (l[i].place, 1)) := by show _ = _; rw [HG.out, hb]; simp [h2]
          have h2' : ¬ (0 : Int) < (stepsN (l.drop (i + 1)) : Int) := by omega
          clear hb HG hT
          generalize stepsN (l.take i) = s1 at *
          go_enter Tryz.func87, Tryz.ntmps87
          go_wp2_with (first
            | (go_at_call 91; refine (hcall _).mono ?_; rintro e w1 ⟨rfl, o, rfl⟩; have hb1 : Below w.heap.size w (w.alloc o) := (Below.refl _ _).alloc (Nat.le_refl _) _)
            | (go_at_call 136; have hB2 := hb1.trans (hb2.mono hb1.size); refine (hst2 w2 hB2).mono ?_; rintro e w3 ⟨rfl, hb3⟩; have hB3 := hB2.trans (hb3.mono hB2.size); have q1 := (hB3.cell (p := ⟨g, of6 + i * 6 + 1, none⟩) hg).trans d1)
            | (go_at_call 136; refine (hst _ hb1).mono ?_; rintro e w2 ⟨rfl, hb2⟩; clear hst))
          all_goals
            go_ret2
            rw [HE.out]
            exact ⟨rfl, hB3⟩
    · have HE : Hid (guardFP l i = (l[i].place, 1)) := by show _ = _; rw [HG.out, hb]; simp [h1]
      have h1' : ¬ (0 : Int) < (stepsN (l.take i) : Int) := by omega
      have h1d : decide ((0 : Int) < (stepsN (l.take i) : Int)) = false := by simpa using h1'
      clear hb HG hT
      generalize stepsN (l.take i) = s1 at *
      go_enter Tryz.func87, Tryz.ntmps87
      go_wp2_with (first
        | (go_at_call 91; refine (hcall _).mono ?_; rintro e w1 ⟨rfl, o, rfl⟩; have hb1 : Below w.heap.size w (w.alloc o) := (Below.refl _ _).alloc (Nat.le_refl _) _)
        | (go_at_call 136; refine (hst _ hb1).mono ?_; rintro e w2 ⟨rfl, hb2⟩; have hB2 := hb1.trans (hb2.mono hb1.size); have q1 := (hB2.cell (p := ⟨g, of6 + i * 6 + 1, none⟩) hg).trans d1; clear hst))
      go_ret2
      rw [HE.out]
      exact ⟨rfl, hB2⟩
end Go.Proofs.YtddbjcfdmdbmkaaGreatDoor

/-
  The program's paths: slices.IndexFunc and ContainsFunc at a path; isNamed.
-/
namespace Go.Proofs.YtddbjcfdmdbmkaaGreatDoor
open Go.RowKit

/-- A test of parts, as a function that is handed over: in every world that keeps w. -/
def TestAt (g : Nat) (lb : Array Value) (p : PPart → Bool) (w : World) : Prop := (∀ args w, (callFunc g args).run Tryz.prog w = .ok (.enter g args) w) ∧
  ∀ (w' : World) (x : PPart) (cv hv : Value), Below w.heap.size w w' → (∃ a b c, cv = .slice a b c) → (∃ a b c, hv = .slice a b c) → Calls Tryz.prog g (#[partVal x cv hv] ++ lb) w' fun e w'' => e = .returned (.bool (p x)) ∧ Below w'.heap.size w' w''
/-- where the first one stands -/
def idxP (p : PPart → Bool) (l : List PPart) : Int := match l.findIdx? p with | some k => (k : Int) | none => -1
theorem idxP_hit {p : PPart → Bool} {l : List PPart} {k : Nat} (hk : k < l.length) (h : p l[k] = true) (hn : ∀ j, (hj : j < k) → p (l[j]'(by omega)) = false) : idxP p l = k := by
  have : l.findIdx? p = some k := List.findIdx?_eq_some_iff_getElem.2 ⟨hk, h, fun j hj => by simp [hn j hj]⟩
  unfold idxP; rw [this]
theorem idxP_miss {p : PPart → Bool} {l : List PPart} (hn : ∀ j, (hj : j < l.length) → p l[j] = false) : idxP p l = -1 := by
  have : l.findIdx? p = none := List.findIdx?_eq_none_iff.2 (fun x hx => by obtain ⟨j, hj, rfl⟩ := List.getElem_of_mem hx; exact hn j hj)
  unfold idxP; rw [this]
theorem idxP_any (p : PPart → Bool) (l : List PPart) : decide ((0 : Int) ≤ idxP p l) = l.any p := by
  unfold idxP
  cases h : l.findIdx? p with
  | none =>
    have := List.findIdx?_eq_none_iff.1 h
    have e : l.any p = false := by rw [List.any_eq_false]; intro x hx; simp [this x hx]
    rw [e]; rfl
  | some k =>
    obtain ⟨hk, hp, _⟩ := List.findIdx?_eq_some_iff_getElem.1 h
    have e : l.any p = true := List.any_eq_true.2 ⟨_, List.getElem_mem hk, hp⟩
    rw [e]; simp

set_option maxRecDepth 100000 in
set_option maxHeartbeats 800000 in
theorem indexFunc_p {own : Nat → Nat} {w : World} {v : Value} {l : List PPart} (h : PathV own w v l) (hl : l.length ≤ 1000000) {g : Nat} {lb : Array Value} {p : PPart → Bool} (hp : TestAt g lb p w) :
    Calls Tryz.prog 172 #[v, .func (.func g) #[] lb] w fun e w' => e = .returned (.int .i64 (idxP p l)) ∧ Below w.heap.size w w' := by
  obtain ⟨eg, hpc⟩ := hp
  rcases h with ⟨rfl, p0, c0, rfl⟩ | ⟨gb, off, cap, rfl, hcap, hP⟩
  · go_enter Tryz.func172, Tryz.ntmps172
    go_wp2
    go_loopw [8] (fun i wr => i = .int .i64 0 ∧ wr = w) (fun _ _ => 0)
    case atStart => exact ⟨rfl, rfl⟩
    case round =>
      obtain ⟨rfl, rfl⟩ := hrel
      go_wp2
      go_ret
      exact ⟨rfl, Below.refl _ _⟩
  · go_enter Tryz.func172, Tryz.ntmps172
    go_wp2
    go_loopw [8] (fun i wr => ∃ k : Nat, k ≤ l.length ∧ i = .int .i64 k ∧ Below w.heap.size w wr ∧ Hid (∀ j, (hj : j < k) → (hj' : j < l.length) → p l[j] = false)) (fun i _ => l.length - (intOf i).toNat)
    case atStart => exact ⟨0, Nat.zero_le _, rfl, Below.refl _ _, fun j hj => absurd hj (Nat.not_lt_zero _)⟩
    case round =>
      obtain ⟨k, hk, rfl, hbel, HN⟩ := hrel
      by_cases hlt : k < l.length
      · obtain ⟨cv, hv, ho, hf, d0, d1, d2, d3, d4, d5⟩ := (hP.ext (Ext.of_below hbel)).part k hlt
        have e6 : (off + k) * 6 = off * 6 + k * 6 := by omega
        rw [e6] at d0 d1 d2 d3 d4 d5
        have hcall := hpc wr l[k] cv hv hbel (row_form ho.1) hf
        obtain ⟨cp, cn, cc, rfl⟩ := row_form ho.1
        obtain ⟨a', b', c', rfl⟩ := hf
        have hki : (k : Int) < (l.length : Int) := by omega
        have hk0 : (0 : Int) ≤ (k : Int) := by omega
        simp only [partVal] at hcall
        clear e6 ho hpc
        generalize off * 6 = of6 at *
        cases hb : p l[k] with
        | true =>
          rw [hb] at hcall
          have HI : Hid (idxP p l = (k : Int)) := idxP_hit hlt hb (fun j hj => HN.out j hj (by omega))
          clear hb
          go_wp2_with (go_at_fn g; refine hcall.mono ?_; rintro e w1 ⟨rfl, hb1⟩)
          go_ret
          rw [HI.out]
          exact ⟨rfl, hbel.trans (hb1.mono hbel.size)⟩
        | false =>
          rw [hb] at hcall
          have HN' : Hid (∀ j, (hj : j < k + 1) → (hj' : j < l.length) → p l[j] = false) := fun j hj hj' => by
            by_cases e : j = k
            · subst e; exact hb
            · exact HN.out j (by omega) hj'
          clear hb
          go_wp2_with (go_at_fn g; refine hcall.mono ?_; rintro e w1 ⟨rfl, hb1⟩)
          go_roundw
          case rel => exact ⟨k + 1, hlt, by go_num, hbel.trans (hb1.mono hbel.size), HN'⟩
          case measure => simp [intOf]; omega
      · have ek : k = l.length := by omega
        subst ek
        have HI : Hid (idxP p l = -1) := idxP_miss (fun j hj => HN.out j hj hj)
        go_wp2
        go_ret
        rw [HI.out]
        exact ⟨rfl, hbel⟩
set_option maxHeartbeats 400000 in
theorem containsFunc_p {own : Nat → Nat} {w : World} {v : Value} {l : List PPart} (h : PathV own w v l) (hl : l.length ≤ 1000000) {g : Nat} {lb : Array Value} {p : PPart → Bool} (hp : TestAt g lb p w) :
    Calls Tryz.prog 137 #[v, .func (.func g) #[] lb] w fun e w' => e = .returned (.bool (l.any p)) ∧ Below w.heap.size w w' := by
  have hc := indexFunc_p h hl hp
  have hv : ∃ a b c, v = .slice a b c := by
    rcases h with ⟨_, p, c, rfl⟩ | ⟨g, off, cap, rfl, _⟩ <;> exact ⟨_, _, _, rfl⟩
  obtain ⟨va, vb, vc, rfl⟩ := hv
  have HA : Hid (decide ((0 : Int) ≤ idxP p l) = l.any p) := idxP_any p l
  generalize idxP p l = r at *
  go_enter Tryz.func137, Tryz.ntmps137
  go_wp2_with (go_at_call 172; refine hc.mono ?_; rintro e w1 ⟨rfl, hb1⟩)
  go_ret
  exact ⟨ret_bool HA.out, hb1⟩

/-- of the name n -/
def namedB (n : ByteArray) (x : PPart) : Bool := x.name.toList == n.toList
set_option maxHeartbeats 400000 in
theorem test_named {w : World} {B : Nat} {n : ByteArray} (hB : B < w.heap.size) (hc : w.cell? ⟨B, 0, none⟩ = some (.string n)) : TestAt 173 #[.pointer (some ⟨B, 0, none⟩)] (namedB n) w := by
  refine ⟨Go.Proofs.enters_of Tryz.func173 (by kernel_rfl) rfl, fun w' x cv hv hbel hcf hhf => ?_⟩
  obtain ⟨a, b, c, rfl⟩ := hcf
  obtain ⟨a', b', c', rfl⟩ := hhf
  have hc' := (hbel.cell (p := ⟨B, 0, none⟩) hB).trans hc
  have hB' : B < w'.heap.size := Nat.lt_of_lt_of_le hB hbel.size
  have HN : Hid (namedB n x = (x.name.toList == n.toList)) := rfl
  simp only [partVal]
  show Calls Tryz.prog 173 #[.agg #[.string x.name, .int .i64 x.place, .int .i64 x.times, .int .i64 x.kind, .slice a b c, .slice a' b' c'], .pointer (some ⟨B, 0, none⟩)] w' _
  go_enter Tryz.func173, Tryz.ntmps173
  go_wp2
  go_ret
  exact ⟨ret_bool HN.out.symm, (Below.refl _ _).alloc (Nat.le_refl _) _⟩
end Go.Proofs.YtddbjcfdmdbmkaaGreatDoor

/-
  The program's paths: isNamed, nameFault.
-/
namespace Go.Proofs.YtddbjcfdmdbmkaaGreatDoor
open Go.RowKit

theorem PathV.form {own : Nat → Nat} {w : World} {v : Value} {l : List PPart} (h : PathV own w v l) : ∃ a b c, v = .slice a b c := by
  rcases h with ⟨_, p, c, rfl⟩ | ⟨g, off, cap, rfl, _⟩ <;> exact ⟨_, _, _, rfl⟩
set_option maxHeartbeats 400000 in
theorem isNamed_p {own : Nat → Nat} {w : World} {v : Value} {l : List PPart} (h : PathV own w v l) (hl : l.length ≤ 1000000) (n : ByteArray) :
    Calls Tryz.prog 139 #[v, .string n] w fun e w' => e = .returned (.bool (l.any (namedB n))) ∧ Below w.heap.size w w' := by
  have hmf : ∀ (fn : Fn) (first cap : Array Value) (w : World), (Instr.makeFunc fn first cap).run Tryz.prog w = .ok (.func fn first cap) w := fun _ _ _ _ => rfl
  have hb : Below w.heap.size w (w.alloc (.cells #[.string n] 9)) := (Below.refl _ _).alloc (Nat.le_refl _) _
  have ht : TestAt 173 #[.pointer (some ⟨w.heap.size, 0, none⟩)] (namedB n) (w.alloc (.cells #[.string n] 9)) := test_named (by simp) ((Blk.new w #[.string n] 9).cell 0)
  have hc := containsFunc_p (h.ext (Ext.of_below (own := own) hb)) hl ht
  obtain ⟨va, vb, vc, rfl⟩ := h.form
  generalize l.any (namedB n) = r at *
  go_enter Tryz.func139, Tryz.ntmps139
  go_wp2_with (go_at_call 137; refine hc.mono ?_; rintro e w1 ⟨rfl, hb1⟩)
  go_ret
  exact ⟨rfl, hb.trans (hb1.mono hb.size)⟩

/-- the same name at another place -/
def twiceB (o x : PPart) : Bool := (x.name.toList == o.name.toList) && !(x.place == o.place)
set_option maxHeartbeats 400000 in
theorem test_twice {w : World} {B : Nat} {o : PPart} (hB : B < w.heap.size) (hc : w.cell? ⟨B, 0, none⟩ = some (.string o.name)) (hp : w.cell? ⟨B, 1, none⟩ = some (.int .i64 o.place)) : TestAt 138 #[.pointer (some ⟨B, 0, none⟩)] (twiceB o) w := by
  refine ⟨Go.Proofs.enters_of Tryz.func138 (by kernel_rfl) rfl, fun w' x cv hv hbel hcf hhf => ?_⟩
  obtain ⟨a, b, c, rfl⟩ := hcf
  obtain ⟨a', b', c', rfl⟩ := hhf
  have hc' := (hbel.cell (p := ⟨B, 0, none⟩) hB).trans hc
  have hp' := (hbel.cell (p := ⟨B, 1, none⟩) hB).trans hp
  have hB' : B < w'.heap.size := Nat.lt_of_lt_of_le hB hbel.size
  simp only [partVal]
  show Calls Tryz.prog 138 #[.agg #[.string x.name, .int .i64 x.place, .int .i64 x.times, .int .i64 x.kind, .slice a b c, .slice a' b' c'], .pointer (some ⟨B, 0, none⟩)] w' _
  cases hn : (x.name.toList == o.name.toList) with
  | true =>
    have HN : Hid (twiceB o x = !(x.place == o.place)) := by show _ = _; unfold twiceB; rw [hn]; rfl
    have HP : Hid ((!(x.place == o.place)) = ((x.place : Int) != (o.place : Int))) := by
      show _ = _; rw [Bool.eq_iff_iff]; simp; omega
    go_enter Tryz.func138, Tryz.ntmps138
    go_wp2
    go_ret
    refine ⟨ret_bool ?_, (Below.refl _ _).alloc (Nat.le_refl _) _⟩
    rw [HN.out, HP.out]
    try simp
  | false =>
    have HN : Hid (twiceB o x = false) := by show _ = _; unfold twiceB; rw [hn]; rfl
    go_enter Tryz.func138, Tryz.ntmps138
    go_wp2
    go_ret
    exact ⟨ret_bool HN.out.symm, (Below.refl _ _).alloc (Nat.le_refl _) _⟩
end Go.Proofs.YtddbjcfdmdbmkaaGreatDoor
