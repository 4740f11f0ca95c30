import Derived.Test.YtddbjcfdmdbmkaaGreatDoorB02
set_option linter.unusedVariables false
set_option linter.unusedSimpArgs false
namespace Go.Proofs.YtddbjcfdmdbmkaaGreatDoor

def clkT (W : Int) (R : Nat) (ts : List Int) (t : Int) : Int := if R ≤ ts.length ∧ t - ts.getD (ts.length - R) 0 < W then ts.getD (ts.length - R) 0 + W else t
def evM (n : Nat) (time : Int) : Ev := ⟨time + (n % 4 : Nat), (n / 4 % 3 : Nat), ((n / 12 % 5 : Nat) : Int) - 1, ((n / 60 % 4 : Nat) : Int) - 1, (n / 240 % 4 : Nat)⟩
def nowOf (evs : List Ev) : Int := if evs = [] then 0 else lastT evs
def clkE (W : Int) (R : Nat) (evs : List Ev) (n : Nat) : Ev := { evM n 0 with time := clkT W R (evs.map (·.time)) (nowOf evs + (n % 4 : Nat)) }
def clkStep (W : Int) (R : Nat) (evs : List Ev) (n : Nat) : List Ev := evs ++ [clkE W R evs n]
def clkEvs (W : Int) (R : Nat) (ns : List Nat) : List Ev := ns.foldl (clkStep W R) []
theorem clk_snoc (W : Int) (R : Nat) (ns : List Nat) (n : Nat) : clkEvs W R (ns ++ [n]) = clkEvs W R ns ++ [clkE W R (clkEvs W R ns) n] := by
  unfold clkEvs
  rw [List.foldl_append]; rfl
theorem clk_len0 (W : Int) (R : Nat) : ∀ (ns : List Nat) (acc : List Ev), (ns.foldl (clkStep W R) acc).length = acc.length + ns.length := by
  intro ns
  induction ns with
  | nil => intro acc; rfl
  | cons n ns ih => intro acc; rw [List.foldl_cons, ih]; simp [clkStep]; omega
theorem clk_len (W : Int) (R : Nat) (ns : List Nat) : (clkEvs W R ns).length = ns.length := by
  unfold clkEvs; rw [clk_len0]; simp
theorem clk_pre (W : Int) (R : Nat) : ∀ (ns : List Nat) (acc : List Ev), (ns.foldl (clkStep W R) acc).take acc.length = acc := by
  intro ns
  induction ns with
  | nil => intro acc; simp
  | cons n ns ih =>
    intro acc
    rw [List.foldl_cons]
    have h := ih (clkStep W R acc n)
    have h2 := congrArg (List.take acc.length) h
    rw [List.take_take] at h2
    have e1 : min acc.length (clkStep W R acc n).length = acc.length := by simp [clkStep]
    rw [e1] at h2
    rw [h2]
    simp [clkStep]
theorem clk_take (W : Int) (R : Nat) (ns : List Nat) (i : Nat) (hi : i ≤ ns.length) : (clkEvs W R ns).take i = clkEvs W R (ns.take i) := by
  have h : clkEvs W R ns = (ns.drop i).foldl (clkStep W R) (clkEvs W R (ns.take i)) := by
    unfold clkEvs
    rw [← List.foldl_append, List.take_append_drop]
  have hl : (clkEvs W R (ns.take i)).length = i := by rw [clk_len]; simp; omega
  have := clk_pre W R (ns.drop i) (clkEvs W R (ns.take i))
  rw [hl, ← h] at this
  exact this
structure ClkOK (W : Int) (evs : List Ev) : Prop where
  mono : Mono evs
  low : ∀ i, i < evs.length → 0 ≤ (evAt evs i).time
  high : ∀ i, i < evs.length → (evAt evs i).time ≤ (W + 3) * (i + 1)
theorem ClkOK.now {W : Int} {evs : List Ev} (h : ClkOK W evs) (hW : 0 ≤ W) : 0 ≤ nowOf evs ∧ nowOf evs ≤ (W + 3) * evs.length := by
  unfold nowOf lastT
  by_cases he : evs = []
  · subst he; simp
  · rw [if_neg he]
    have hl : 0 < evs.length := by cases evs with | nil => exact absurd rfl he | cons a l => simp
    have h1 := h.low (evs.length - 1) (by omega)
    have h2 := h.high (evs.length - 1) (by omega)
    have e : ((evs.length - 1 : Nat) : Int) + 1 = evs.length := by omega
    rw [e] at h2
    exact ⟨h1, h2⟩
theorem times_getD {evs : List Ev} {i : Nat} (h : i < evs.length) : (evs.map (·.time)).getD i 0 = (evAt evs i).time := by
  unfold evAt
  simp [List.getD, h]
theorem nowOf_max {evs : List Ev} {W : Int} (h : ClkOK W evs) {i : Nat} (hi : i < evs.length) : (evAt evs i).time ≤ nowOf evs := by
  unfold nowOf lastT
  have he : evs ≠ [] := by rintro rfl; simp at hi
  rw [if_neg he]
  exact h.mono i (evs.length - 1) (by omega) (by omega)
theorem clkT_low {W : Int} {R : Nat} {evs : List Ev} {t : Int} : t ≤ clkT W R (evs.map (·.time)) t := by
  unfold clkT
  split
  · rename_i h; omega
  · exact Int.le_refl _
theorem clkT_high {W : Int} (hW : 0 ≤ W) {R : Nat} (hR : 1 ≤ R) {evs : List Ev} (h : ClkOK W evs) {n : Nat} : clkT W R (evs.map (·.time)) (nowOf evs + (n % 4 : Nat)) ≤ nowOf evs + (W + 3) := by
  unfold clkT
  split
  · rename_i hc
    rw [List.length_map] at hc
    rw [List.length_map, times_getD (by omega)]
    have := nowOf_max h (i := evs.length - R) (by omega)
    omega
  · omega
theorem ClkOK.next {W : Int} (hW : 0 ≤ W) {R : Nat} (hR : 1 ≤ R) {evs : List Ev} (h : ClkOK W evs) (n : Nat) : ClkOK W (evs ++ [clkE W R evs n]) := by
  have hn := h.now hW
  have hlow : nowOf evs + (n % 4 : Nat) ≤ (clkE W R evs n).time := clkT_low
  have hhigh : (clkE W R evs n).time ≤ nowOf evs + (W + 3) := clkT_high hW hR h
  refine ⟨h.mono.snoc ?_, fun i hi => ?_, fun i hi => ?_⟩
  · by_cases he : evs = []
    · exact .inl he
    · right
      have e : nowOf evs = lastT evs := by unfold nowOf; rw [if_neg he]
      omega
  · by_cases hi' : i < evs.length
    · rw [evAt_app hi']; exact h.low i hi'
    · have : i = evs.length := by simp at hi; omega
      subst this
      rw [evAt_new]; omega
  · by_cases hi' : i < evs.length
    · rw [evAt_app hi']; exact h.high i hi'
    · have : i = evs.length := by simp at hi; omega
      subst this
      rw [evAt_new, Int.mul_add]; omega
theorem clk_ok {W : Int} (hW : 0 ≤ W) {R : Nat} (hR : 1 ≤ R) : ∀ (ns : List Nat) (acc : List Ev), ClkOK W acc → ClkOK W (ns.foldl (clkStep W R) acc) := by
  intro ns
  induction ns with
  | nil => intro acc h; exact h
  | cons n ns ih => intro acc h; exact ih _ (h.next hW hR n)
theorem clk_all {W : Int} (hW : 0 ≤ W) {R : Nat} (hR : 1 ≤ R) (ns : List Nat) : ClkOK W (clkEvs W R ns) :=
  clk_ok hW hR ns [] ⟨fun i j _ h => by simp at h, fun i h => by simp at h, fun i h => by simp at h⟩
theorem clk_free {W : Int} (hW : 0 ≤ W) {R : Nat} (hR : 1 ≤ R) {evs : List Ev} (h : ClkOK W evs) (n : Nat) : feedFP W R evs (clkE W R evs n).time = 0 := by
  have hlow : nowOf evs + (n % 4 : Nat) ≤ (clkE W R evs n).time := clkT_low
  unfold feedFP
  rw [if_neg, if_neg]
  · intro hc
    by_cases hl : evs.length < R
    · have : cntNear W evs (clkE W R evs n).time ≤ evs.length := List.countP_le_length
      omega
    · have hfar : ∀ i, i ≤ evs.length - R → ¬ (clkE W R evs n).time - (evAt evs i).time < W := by
        intro i hi
        have h1 := h.mono i (evs.length - R) hi (by omega)
        have h2 : ¬ (clkE W R evs n).time - (evAt evs (evs.length - R)).time < W := by
          show ¬ clkT W R (evs.map (·.time)) (nowOf evs + (n % 4 : Nat)) - _ < W
          unfold clkT
          rw [List.length_map, times_getD (by omega)]
          split
          · omega
          · rename_i hc; omega
        omega
      have hcnt : cntNear W evs (clkE W R evs n).time ≤ R - 1 := by
        unfold cntNear
        rw [← List.take_append_drop (evs.length - R + 1) evs, List.countP_append]
        have z : (evs.take (evs.length - R + 1)).countP (fun e => decide ((clkE W R evs n).time - e.time < W)) = 0 := by
          rw [List.countP_eq_zero]
          intro e he
          obtain ⟨i, hi, rfl⟩ := List.mem_iff_getElem.1 he
          rw [List.length_take] at hi
          have := hfar i (by omega)
          rw [evAt_get (by omega)] at this
          rw [List.getElem_take]
          simpa using this
        rw [List.take_append_drop, z]
        have := List.countP_le_length (p := fun e => decide ((clkE W R evs n).time - e.time < W)) (l := evs.drop (evs.length - R + 1))
        rw [List.length_drop] at this
        omega
      omega
  · rintro ⟨he, h2⟩
    have e : nowOf evs = lastT evs := by unfold nowOf; rw [if_neg he]
    omega
theorem clk_at {W : Int} {R : Nat} (ns : List Nat) {i : Nat} (hi : i < ns.length) : evAt (clkEvs W R ns) i = clkE W R (clkEvs W R (ns.take i)) ns[i] ∧ clkEvs W R (ns.take (i + 1)) = clkEvs W R (ns.take i) ++ [evAt (clkEvs W R ns) i] := by
  have h1 : ns.take (i + 1) = ns.take i ++ [ns[i]] := by rw [List.take_succ_eq_append_getElem hi]
  have h2 := clk_take W R ns (i + 1) (by omega)
  have h3 : evAt (clkEvs W R ns) i = clkE W R (clkEvs W R (ns.take i)) ns[i] := by
    have hl : i < (clkEvs W R ns).length := by rw [clk_len]; exact hi
    rw [evAt_get hl]
    have h4 : ((clkEvs W R ns).take (i + 1))[i]? = some (clkEvs W R ns)[i] := by
      rw [List.getElem?_take, if_pos (by omega), List.getElem?_eq_getElem hl]
    rw [h2, h1, clk_snoc] at h4
    have hl2 : (clkEvs W R (ns.take i)).length = i := by rw [clk_len]; simp; omega
    rw [List.getElem?_append_right (by omega)] at h4
    simp [hl2] at h4
    exact h4.symm
  exact ⟨h3, by rw [h3, h1, clk_snoc]⟩
theorem clk_feed {W : Int} (hW : 0 ≤ W) {R : Nat} (hR : 1 ≤ R) (ns : List Nat) {i : Nat} (hi : i < ns.length) : feedFP W R (clkEvs W R (ns.take i)) (evAt (clkEvs W R ns) i).time = 0 := by
  rw [(clk_at ns hi).1]
  exact clk_free hW hR (clk_all hW hR _) _
end Go.Proofs.YtddbjcfdmdbmkaaGreatDoor
