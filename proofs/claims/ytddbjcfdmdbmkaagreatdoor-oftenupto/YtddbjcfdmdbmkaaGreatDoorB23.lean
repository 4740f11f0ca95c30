import Derived.Test.YtddbjcfdmdbmkaaGreatDoorB22
set_option linter.unusedVariables false
set_option linter.unusedSimpArgs false
namespace Go.Proofs.YtddbjcfdmdbmkaaGreatDoor
open Go.RowKit

theorem stepsN_append (a b : List PPart) : stepsN (a ++ b) = stepsN a + stepsN b := by unfold stepsN; rw [List.filter_append, List.length_append]
theorem fold_max (c : List (List PPart)) (f : List PPart → Nat × Nat) (a : Nat × Nat) : a.2 ≤ (c.foldl (fun a c => (a.1 + (f c).1, max a.2 (f c).2)) a).2 ∧ ∀ x ∈ c, (f x).2 ≤ (c.foldl (fun a c => (a.1 + (f c).1, max a.2 (f c).2)) a).2 := by
  induction c generalizing a with
  | nil => exact ⟨Nat.le_refl _, fun x hx => by simp at hx⟩
  | cons y c ih =>
    rw [List.foldl_cons]
    have h := ih (a.1 + (f y).1, max a.2 (f y).2)
    refine ⟨Nat.le_trans (Nat.le_max_left _ _) h.1, fun x hx => ?_⟩
    rcases List.mem_cons.1 hx with rfl | hx
    · exact Nat.le_trans (Nat.le_max_right _ _) h.1
    · exact h.2 x hx
theorem part_steps {n : Nat} {p : PPart} (hw : (isStepB p = true → 1 ≤ p.times ∧ p.times ≤ 4 ∧ p.choices = [])) (ih : ∀ c ∈ p.choices, ∀ x ∈ ofSeqP n c, stepsN x ≤ (sizeP n c).2) :
    ∀ x ∈ ofPartP (ofSeqP n) p, stepsN x ≤ (sizePartP (sizeP n) p).2 := by
  intro x hx
  unfold ofPartP at hx
  unfold sizePartP
  by_cases hs : isStepB p = true
  · obtain ⟨_, _, hc⟩ := hw hs
    rw [if_pos hs] at hx
    rw [if_pos (by simp [hc])]
    simp only [List.mem_singleton] at hx
    subst hx
    exact Nat.le_trans (stepsN_le _) (by simp)
  · rw [if_neg hs] at hx
    by_cases hc : p.choices.isEmpty = true
    · rw [if_pos hc] at hx
      simp only [List.mem_singleton] at hx
      subst hx
      have : stepsN [p] = 0 := by unfold stepsN; simp [hs]
      omega
    · rw [if_neg hc] at hx
      rw [if_neg hc]
      obtain ⟨c, hc, hx⟩ := List.mem_flatMap.1 hx
      exact Nat.le_trans (ih c hc x hx) ((fold_max p.choices (sizeP n) (0, 0)).2 c hc)
theorem acc_steps {n : Nat} {l : List PPart} (hp : ∀ p ∈ l, ∀ x ∈ ofPartP (ofSeqP n) p, stepsN x ≤ (sizePartP (sizeP n) p).2) : ∀ k, k ≤ l.length → ∀ x ∈ ofAcc n l k, stepsN x ≤ (seqAcc (sizeP n) l k).2 := by
  intro k
  induction k with
  | zero =>
    intro _ x hx
    have e : x = [] := by simpa [ofAcc] using hx
    subst e; exact Nat.zero_le _
  | succ k ih =>
    intro hk x hx
    rw [ofAcc_succ n l k (by omega)] at hx
    obtain ⟨a, ha, b, hb, rfl⟩ := eachP_mem hx
    rw [seqAcc_succ (sizeP n) l k (by omega), stepsN_append]
    exact Nat.add_le_add (ih (by omega) a ha) (hp _ (List.getElem_mem (by omega)) b hb)
theorem seq_steps : ∀ n l, WF n l → ∀ x ∈ ofSeqP n l, stepsN x ≤ (sizeP n l).2 := by
  intro n
  induction n with
  | zero => intro l h; exact h.elim
  | succ n ih =>
    rintro l ⟨_, _, _, hp⟩ x hx
    have e : seqAcc (sizeP n) l l.length = sizeP (n + 1) l := by unfold seqAcc; rw [List.take_length]; rfl
    rw [← ofAcc_all] at hx
    rw [← e]
    exact acc_steps (fun p hpm => part_steps (hp p hpm).1 (fun c hc => ih c ((hp p hpm).2 c hc))) _ (Nat.le_refl _) x hx

theorem ffNew_none {a r : Nat × Nat} (h : (ffNew a r).2 = 0) : a.2 = 0 ∧ r.2 = 0 := by
  unfold ffNew at h
  split at h
  · rename_i hc; exact absurd h hc.1
  · rename_i hc
    refine ⟨h, Decidable.byContradiction fun hr => hc ⟨hr, .inl h⟩⟩
theorem ffPath_none {f : List PPart → Nat → Nat × Nat} {l : List PPart} {a : Nat × Nat} : ∀ k, (ffPath f l a k).2 = 0 → a.2 = 0 ∧ ∀ i, i < k → (f l i).2 = 0 := by
  intro k
  induction k with
  | zero => intro h; exact ⟨h, fun i hi => absurd hi (by omega)⟩
  | succ k ih =>
    intro h
    obtain ⟨h1, h2⟩ := ffNew_none h
    obtain ⟨h3, h4⟩ := ih h1
    refine ⟨h3, fun i hi => ?_⟩
    by_cases e : i = k
    · subst e; exact h2
    · exact h4 i (by omega)
theorem ffAcc_none {f : List PPart → Nat → Nat × Nat} {ps : List (List PPart)} : ∀ k, k ≤ ps.length → (ffAcc f ps k).2 = 0 → ∀ j, (hj : j < ps.length) → j < k → ∀ i, i < ps[j].length → (f ps[j] i).2 = 0 := by
  intro k
  induction k with
  | zero => intro _ _ j _ hj; omega
  | succ k ih =>
    intro hk h j hjl hj i hi
    rw [ffAcc_succ f ps k (by omega)] at h
    obtain ⟨h1, h2⟩ := ffPath_none _ h
    by_cases e : j = k
    · subst e; exact h2 i hi
    · exact ih (by omega) h1 j hjl (by omega) i hi
theorem firstFP_none {f : List PPart → Nat → Nat × Nat} {ps : List (List PPart)} (h : (firstFP f ps).2 = 0) : ∀ x ∈ ps, ∀ i, i < x.length → (f x i).2 = 0 := by
  intro x hx i hi
  obtain ⟨j, hj, rfl⟩ := List.getElem_of_mem hx
  exact ffAcc_none ps.length (Nat.le_refl _) h j hj hj i hi
theorem guard_steps {x : List PPart} (hne : x ≠ []) (h : ∀ i, i < x.length → (guardFP x i).2 = 0) : 1 ≤ stepsN x := by
  obtain ⟨p, r, rfl⟩ := List.exists_cons_of_ne_nil hne
  have h0 := h 0 (by simp)
  unfold guardFP at h0
  have e : stepsN [] = 0 := rfl
  cases hs : isStepB p with
  | true => unfold stepsN; simp [hs]
  | false => simp [hs, e] at h0

theorem PathsLie.colr {own own' : Nat → Nat} {w : World} (he : ∀ k, k < w.heap.size → own k = 7 → own' k = 7) {v : Value} {ps : List (List PPart)} (h : PathsLie own w v ps) : PathsLie own' w v ps := by
  obtain ⟨vs, h1, h2, h3, h4⟩ := h
  exact ⟨vs, h1, h2, fun g hg => he g (h2.lt g hg).2 (h3 g hg), fun q hq => ⟨(h4 q hq).1.colr he, (h4 q hq).2⟩⟩
theorem PathsLie.move {own own' : Nat → Nat} {w w' : World} {row : Option Nat} (hg : w.grownBy w' row) (hr : ∀ k, row = some k → own k = 8) (he : ∀ k, k < w.heap.size → own k ≠ 8 → own' k = own k) {v : Value} {ps : List (List PPart)} (h : PathsLie own w v ps) : PathsLie own' w' v ps := by
  have h1 : PathsLie (no8 own) w v ps := h.colr (fun k _ e => by simp [no8, e])
  have h2 := h1.ext (no8_ext hg hr he)
  refine h2.colr (fun k _ e => ?_)
  by_cases hlt : k < w.heap.size
  · simp only [hlt, if_true] at e
    unfold no8 at e
    split at e
    · omega
    · rename_i hne; rw [he k hlt hne]; exact e
  · simp only [hlt, if_false] at e; exact e
theorem PathsLie.at {own : Nat → Nat} {w : World} {g cap len : Nat} {ps : List (List PPart)} (h : PathsLie own w (.slice (some ⟨g, 0, none⟩) len cap) ps) (h0 : 0 < ps.length) : PathsAt own w g ps := by
  obtain ⟨g', c', e, h1, h2, h3⟩ := h.open h0
  cases e
  exact ⟨h1, h2, fun k hk => by obtain ⟨v, a, b⟩ := h3 k hk; exact ⟨v, a, b.1⟩⟩

def boundP (rate : Nat) (ps : List (List PPart)) : Nat := (ps.map fun x => mostP rate (stepsN x)).sum
def makeP (n : Nat) (p : PPat) : (Nat × List (List PPart)) ⊕ (Nat × Nat) :=
  if isBigP n p.body then .inr (0, 6)
  else if (firstFP guardFP (ofSeqP n p.body)).2 ≠ 0 then .inr (firstFP guardFP (ofSeqP n p.body))
  else if (firstFP nameFP (ofSeqP n p.body)).2 ≠ 0 then .inr (firstFP nameFP (ofSeqP n p.body))
  else if 4000 < boundP p.rate (ofSeqP n p.body) then .inr (0, 6) else .inl (boundP p.rate (ofSeqP n p.body), ofSeqP n p.body)
def zeroPlan : Array Value := #[.int .i64 0, .int .i64 0, .int .i64 0, .slice none 0 0]
theorem Blk.fourP {w : World} {N : Nat} (h : Blk w N zeroPlan 67) (v0 v1 v2 v3 : Value) :
    Blk ((((w.setCell ⟨N, 0, none⟩ v0).setCell ⟨N, 1, none⟩ v1).setCell ⟨N, 2, none⟩ v2).setCell ⟨N, 3, none⟩ v3) N #[v0, v1, v2, v3] 67 := by
  have := (((h.set 0 v0).set 1 v1).set 2 v2).set 3 v3
  simpa [zeroPlan] using this
theorem grownBy_four (w : World) (N : Nat) (v0 v1 v2 v3 : Value) : w.grownBy ((((w.setCell ⟨N, 0, none⟩ v0).setCell ⟨N, 1, none⟩ v1).setCell ⟨N, 2, none⟩ v2).setCell ⟨N, 3, none⟩ v3) (some N) :=
  grownBy_trans (grownBy_three w N v0 v1 v2) (grownBy_setCell _ ⟨N, 3, none⟩ v3)
theorem boundP_take (rate : Nat) (ps : List (List PPart)) (k : Nat) (h : k < ps.length) : boundP rate (ps.take (k + 1)) = boundP rate (ps.take k) + mostP rate (stepsN ps[k]) := by
  unfold boundP; rw [List.take_succ_eq_append_getElem h, List.map_append, List.sum_append]; simp
theorem boundP_le {rate : Nat} (hr : rate ≤ 12) {ps : List (List PPart)} (h8 : ∀ x ∈ ps, stepsN x ≤ 8) : ∀ k, k ≤ ps.length → boundP rate (ps.take k) ≤ 3439853568 * k := by
  intro k
  induction k with
  | zero => intro _; show 0 ≤ _; omega
  | succ k ih =>
    intro hk
    rw [boundP_take rate ps k (by omega)]
    have h := ih (by omega)
    have hs := h8 ps[k] (List.getElem_mem (by omega))
    have hm : mostP rate (stepsN ps[k]) ≤ 3439853568 := by
      unfold mostP
      have := (most_bounds hr (stepsN ps[k] - 1) (by omega)).2
      omega
    omega
def ownMk (own : Nat → Nat) (N : Nat) : Nat → Nat := put (put own N 8) (N + 1) 8
theorem ownMk_old {own : Nat → Nat} {N k : Nat} (h : k < N) : ownMk own N k = own k := by unfold ownMk; rw [put_other _ _ _ _ (by omega), put_other _ _ _ _ (by omega)]
theorem ownMk_0 (own : Nat → Nat) (N : Nat) : ownMk own N N = 8 := by unfold ownMk; rw [put_other _ _ _ _ (by omega), put_same]
theorem ownMk_1 (own : Nat → Nat) (N : Nat) : ownMk own N (N + 1) = 8 := put_same _ _ _
theorem ownMk_ext (own : Nat → Nat) (w : World) (o1 o2 : Obj) : Ext own w (ownMk own w.heap.size) ((w.alloc o1).alloc o2) := by
  have := ((Ext.refl own w).allocAs o1 8).allocAs o2 8
  rw [alloc_size] at this; exact this
theorem make_ext {own own1 : Nat → Nat} {w w1 : World} {o1 o2 : Obj} (h : Ext (ownMk own w.heap.size) ((w.alloc o1).alloc o2) own1 w1) : Ext own w own1 w1 := (ownMk_ext own w o1 o2).trans h
end Go.Proofs.YtddbjcfdmdbmkaaGreatDoor

namespace Go.Proofs.YtddbjcfdmdbmkaaGreatDoor
open Go.RowKit

theorem Tryz.infoPlan : (Tryz.prog.info? 67).map (fun i => (i.zero, i.size, i.bytes)) = some (some (.agg #[.int .i64 0, .int .i64 0, .int .i64 0, .slice none 0 0]), 4, 48) := by kernel_rfl
def MakePost (own : Nat → Nat) (w : World) (n : Nat) (p : PPat) (v : Value) (w' : World) : Prop := ∃ own', Ext own w own' w' ∧ match makeP n p with
  | .inr (pl, er) => v = .tuple #[.agg zeroPlan, .int .i64 pl, .int .i64 er]
  | .inl (bd, ps) => ∃ sv, v = .tuple #[.agg #[.int .i64 p.window, .int .i64 p.rate, .int .i64 bd, sv], .int .i64 0, .int .i64 0] ∧ PathsLie own' w' sv ps
def patCells (p : PPat) (sv : Value) : Array Value := #[.int .i64 p.window, .int .i64 p.rate, sv]
theorem make_end0 {own own1 : Nat → Nat} {w w1 : World} (hb1 : Blk w1 (w.heap.size + 1) zeroPlan 67) (hB : Ext own w own1 w1) (v0 v1 v2 v3 : Value) :
    Blk ((((w1.setCell ⟨w.heap.size + 1, 0, none⟩ v0).setCell ⟨w.heap.size + 1, 1, none⟩ v1).setCell ⟨w.heap.size + 1, 2, none⟩ v2).setCell ⟨w.heap.size + 1, 3, none⟩ v3) (w.heap.size + 1) #[v0, v1, v2, v3] 67 ∧
    Ext own w own1 ((((w1.setCell ⟨w.heap.size + 1, 0, none⟩ v0).setCell ⟨w.heap.size + 1, 1, none⟩ v1).setCell ⟨w.heap.size + 1, 2, none⟩ v2).setCell ⟨w.heap.size + 1, 3, none⟩ v3) :=
  ⟨hb1.fourP v0 v1 v2 v3, (((hB.setNew (p := ⟨w.heap.size + 1, 0, none⟩) (Nat.le_succ _) v0).setNew (p := ⟨w.heap.size + 1, 1, none⟩) (Nat.le_succ _) v1).setNew (p := ⟨w.heap.size + 1, 2, none⟩) (Nat.le_succ _) v2).setNew (p := ⟨w.heap.size + 1, 3, none⟩) (Nat.le_succ _) v3⟩

set_option maxRecDepth 100000 in
set_option maxHeartbeats 800000 in
theorem make_big {own : Nat → Nat} {w : World} {n : Nat} {p : PPat} {sv : Value} (h : SeqLie own w n sv p.body) (hb : bnd n p.body ≤ 100000000000000) (hbig : isBigP n p.body = true) :
    Calls Tryz.prog 55 #[.agg #[.int .i64 p.window, .int .i64 p.rate, sv]] w fun e w' => ∃ v, e = .returned v ∧ MakePost own w n p v w' := by
  have HP : Hid (makeP n p = .inr (0, 6)) := by show _ = _; unfold makeP; rw [if_pos hbig]
  have hE0 := ownMk_ext own w (.cells #[.int .i64 p.window, .int .i64 p.rate, sv] 101) (.cells zeroPlan 67)
  have hbox : Blk ((w.alloc (.cells #[.int .i64 p.window, .int .i64 p.rate, sv] 101)).alloc (.cells zeroPlan 67)) w.heap.size #[.int .i64 p.window, .int .i64 p.rate, sv] 101 := (Blk.new w _ _).alloc _
  have hpl : Blk ((w.alloc (.cells #[.int .i64 p.window, .int .i64 p.rate, sv] 101)).alloc (.cells zeroPlan 67)) (w.heap.size + 1) zeroPlan 67 := alloc_at _ _ _ (by simp)
  have hcall := isBig_p (SeqLie.ext hE0 n _ _ h) hb
  rw [hbig] at hcall
  obtain ⟨sa, sb, sc, rfl⟩ := h.form
  clear h hb hbig
  go_enter Tryz.func55, Tryz.ntmps55
  go_wp2_with (go_at_call 84; refine hcall.mono ?_; rintro e w1 ⟨rfl, hb1⟩; have hE1 := (Ext.of_below (own := ownMk own w.heap.size) hb1); have hpl1 := hE1.blk8 (ownMk_1 _ _) hpl; have z0 := hpl1.cell 0; have z1 := hpl1.cell 1; have z2 := hpl1.cell 2; have z3 := hpl1.cell 3; have g0 := hpl1.frozen 0; have g1 := hpl1.frozen 1; have g2 := hpl1.frozen 2; have g3 := hpl1.frozen 3; simp [zeroPlan] at z0 z1 z2 z3)
  have hEnd := make_end0 hpl1 (make_ext hE1) (.int .i64 0) (.int .i64 0) (.int .i64 0) (.slice none 0 0)
  have k0 := hEnd.1.cell 0; have k1 := hEnd.1.cell 1; have k2 := hEnd.1.cell 2; have k3 := hEnd.1.cell 3
  simp at k0 k1 k2 k3
  refine bodyPost_ret (v := .tuple #[.agg zeroPlan, .int .i64 0, .int .i64 6]) (by simp [results, Tryz.results55, go_sem, k0, k1, k2, k3, zeroPlan]) rfl ⟨_, rfl, _, hEnd.2, ?_⟩
  rw [HP.out]; rfl

structure MkPre (n : Nat) (p : PPat) : Prop where
  bnd : bnd n p.body ≤ 100000000000000
  small : isBigP n p.body = false
  wf : WF n p.body
  rate : p.rate ≤ 12
theorem MkPre.facts {n : Nat} {p : PPat} (h : MkPre n p) : (ofSeqP n p.body).length ≤ 16 ∧ 0 < (ofSeqP n p.body).length ∧ ∀ x ∈ ofSeqP n p.body, x ≠ [] ∧ x.length ≤ 1000000 ∧ stepsN x ≤ 8 := by
  have f := seq_fit n p.body h.wf
  have hs := h.small
  unfold isBigP at hs
  simp at hs
  have hb : Go.Proofs.YtddbjcfdmdbmkaaGreatDoor.bnd n p.body ≤ 100000 := by
    have := h.wf
    cases n with
    | zero => exact this.elim
    | succ n => exact this.2.2.1
  refine ⟨by rw [f.cnt]; omega, f.pos, fun x hx => ⟨f.ne x hx, Nat.le_trans (f.len x hx) (by omega), ?_⟩⟩
  exact Nat.le_trans (seq_steps n p.body h.wf x hx) hs.2

set_option maxRecDepth 100000 in
set_option maxHeartbeats 800000 in
theorem make_guard {own : Nat → Nat} {w : World} {n : Nat} {p : PPat} {sv : Value} (h : SeqLie own w n sv p.body) (hpre : MkPre n p) (hbad : (firstFP guardFP (ofSeqP n p.body)).2 ≠ 0) :
    Calls Tryz.prog 55 #[.agg #[.int .i64 p.window, .int .i64 p.rate, sv]] w fun e w' => ∃ v, e = .returned v ∧ MakePost own w n p v w' := by
  have HP : Hid (makeP n p = .inr (firstFP guardFP (ofSeqP n p.body))) := by show _ = _; unfold makeP; rw [if_neg (by simp [hpre.small]), if_pos hbad]
  have hE0 := ownMk_ext own w (.cells #[.int .i64 p.window, .int .i64 p.rate, sv] 101) (.cells zeroPlan 67)
  have hbox : Blk ((w.alloc (.cells #[.int .i64 p.window, .int .i64 p.rate, sv] 101)).alloc (.cells zeroPlan 67)) w.heap.size #[.int .i64 p.window, .int .i64 p.rate, sv] 101 := (Blk.new w _ _).alloc _
  have hpl : Blk ((w.alloc (.cells #[.int .i64 p.window, .int .i64 p.rate, sv] 101)).alloc (.cells zeroPlan 67)) (w.heap.size + 1) zeroPlan 67 := alloc_at _ _ _ (by simp)
  have hS0 := SeqLie.ext hE0 n _ _ h
  have hcall := isBig_p hS0 hpre.bnd
  rw [hpre.small] at hcall
  have hcall2 := fun w1 hE => ofSequence_p n (ownMk own w.heap.size) w1 sv p.body (SeqLie.ext hE n _ _ hS0) hpre.wf
  obtain ⟨f1, f2, f3⟩ := hpre.facts
  obtain ⟨sa, sb, sc, rfl⟩ := h.form
  generalize ofSeqP n p.body = ps at *
  have hcall3 := fun (w2 : World) own2 gp cp (hL : PathsLie own2 w2 (.slice (some ⟨gp, 0, none⟩) ps.length cp) ps) => firstFault_p (cap := cp) look_guard (hL.at f2) (by omega) (fun x hx => (f3 x hx).2.1)
  generalize firstFP guardFP ps = r at *
  have b0 : ((r.2 : Int) != 0) = true := by simp; omega
  clear h hpre hbad hS0
  go_enter Tryz.func55, Tryz.ntmps55
  go_wp2_with (first
    | (go_at_call 86; refine (hcall3 _ _ _ _ hL2).mono ?_; rintro e w3 ⟨rfl, hb3⟩; have hE3 := hE2'.trans (Ext.of_below hb3); have hpl3 := hE3.blk8 (ownMk_1 _ _) hpl; have z0 := hpl3.cell 0; have z1 := hpl3.cell 1; have z2 := hpl3.cell 2; have z3 := hpl3.cell 3; have g0 := hpl3.frozen 0; have g1 := hpl3.frozen 1; have g2 := hpl3.frozen 2; have g3 := hpl3.frozen 3; simp [zeroPlan] at z0 z1 z2 z3)
    | (go_at_call 85; refine (hcall2 w1 hE1).mono ?_; rintro e w2 ⟨v2, rfl, own2, hE2, hL2⟩; obtain ⟨gp, cp, rfl, _⟩ := hL2.open f2; have hE2' := hE1.trans hE2)
    | (go_at_call 84; refine hcall.mono ?_; rintro e w1 ⟨rfl, hb1⟩; have hE1 := (Ext.of_below (own := ownMk own w.heap.size) hb1); have hbox1 := hE1.blk8 (ownMk_0 _ _) hbox; have y2 := hbox1.cell 2; simp at y2; have hlt1 := hbox1.lt))
  have hEnd := make_end0 hpl3 (make_ext hE3) (.int .i64 0) (.int .i64 0) (.int .i64 0) (.slice none 0 0)
  have k0 := hEnd.1.cell 0; have k1 := hEnd.1.cell 1; have k2 := hEnd.1.cell 2; have k3 := hEnd.1.cell 3
  simp at k0 k1 k2 k3
  refine bodyPost_ret (v := .tuple #[.agg zeroPlan, .int .i64 r.1, .int .i64 r.2]) (by simp [results, Tryz.results55, go_sem, k0, k1, k2, k3, zeroPlan]) rfl ⟨_, rfl, _, hEnd.2, ?_⟩
  rw [HP.out]
end Go.Proofs.YtddbjcfdmdbmkaaGreatDoor

namespace Go.Proofs.YtddbjcfdmdbmkaaGreatDoor
open Go.RowKit

set_option maxRecDepth 100000 in
set_option maxHeartbeats 800000 in
theorem make_name {own : Nat → Nat} {w : World} {n : Nat} {p : PPat} {sv : Value} (h : SeqLie own w n sv p.body) (hpre : MkPre n p) (hgood : (firstFP guardFP (ofSeqP n p.body)).2 = 0) (hbad : (firstFP nameFP (ofSeqP n p.body)).2 ≠ 0) :
    Calls Tryz.prog 55 #[.agg #[.int .i64 p.window, .int .i64 p.rate, sv]] w fun e w' => ∃ v, e = .returned v ∧ MakePost own w n p v w' := by
  have HP : Hid (makeP n p = .inr (firstFP nameFP (ofSeqP n p.body))) := by show _ = _; unfold makeP; rw [if_neg (by simp [hpre.small]), if_neg (by simp [hgood]), if_pos hbad]
  have hE0 := ownMk_ext own w (.cells #[.int .i64 p.window, .int .i64 p.rate, sv] 101) (.cells zeroPlan 67)
  have hbox : Blk ((w.alloc (.cells #[.int .i64 p.window, .int .i64 p.rate, sv] 101)).alloc (.cells zeroPlan 67)) w.heap.size #[.int .i64 p.window, .int .i64 p.rate, sv] 101 := (Blk.new w _ _).alloc _
  have hpl : Blk ((w.alloc (.cells #[.int .i64 p.window, .int .i64 p.rate, sv] 101)).alloc (.cells zeroPlan 67)) (w.heap.size + 1) zeroPlan 67 := alloc_at _ _ _ (by simp)
  have hS0 := SeqLie.ext hE0 n _ _ h
  have hcall := isBig_p hS0 hpre.bnd
  rw [hpre.small] at hcall
  have hcall2 := fun w1 hE => ofSequence_p n (ownMk own w.heap.size) w1 sv p.body (SeqLie.ext hE n _ _ hS0) hpre.wf
  obtain ⟨f1, f2, f3⟩ := hpre.facts
  obtain ⟨sa, sb, sc, rfl⟩ := h.form
  generalize ofSeqP n p.body = ps at *
  have hcall3 := fun (w2 : World) own2 gp cp (hL : PathsLie own2 w2 (.slice (some ⟨gp, 0, none⟩) ps.length cp) ps) => firstFault_p (cap := cp) look_guard (hL.at f2) (by omega) (fun x hx => (f3 x hx).2.1)
  have hcall4 := fun (w2 : World) own2 gp cp (hL : PathsLie own2 w2 (.slice (some ⟨gp, 0, none⟩) ps.length cp) ps) => firstFault_p (cap := cp) look_name (hL.at f2) (by omega) (fun x hx => (f3 x hx).2.1)
  rw [hgood] at hcall3
  generalize firstFP guardFP ps = r0 at *
  generalize firstFP nameFP ps = r at *
  have b0 : ((r.2 : Int) != 0) = true := by simp; omega
  clear h hpre hbad hS0 hgood
  go_enter Tryz.func55, Tryz.ntmps55
  go_wp2_with (first
    | (go_at_call 86; refine (hcall4 _ _ _ _ hL3).mono ?_; rintro e w4 ⟨rfl, hb4⟩; have hE4 := hE3.trans (Ext.of_below hb4); have hpl4 := hE4.blk8 (ownMk_1 _ _) hpl; have z0 := hpl4.cell 0; have z1 := hpl4.cell 1; have z2 := hpl4.cell 2; have z3 := hpl4.cell 3; have g0 := hpl4.frozen 0; have g1 := hpl4.frozen 1; have g2 := hpl4.frozen 2; have g3 := hpl4.frozen 3; simp [zeroPlan] at z0 z1 z2 z3)
    | (go_at_call 86; refine (hcall3 _ _ _ _ hL2).mono ?_; rintro e w3 ⟨rfl, hb3⟩; have hE3 := hE2'.trans (Ext.of_below hb3); have hL3 := hL2.ext (Ext.of_below hb3))
    | (go_at_call 85; refine (hcall2 w1 hE1).mono ?_; rintro e w2 ⟨v2, rfl, own2, hE2, hL2⟩; obtain ⟨gp, cp, rfl, _⟩ := hL2.open f2; have hE2' := hE1.trans hE2)
    | (go_at_call 84; refine hcall.mono ?_; rintro e w1 ⟨rfl, hb1⟩; have hE1 := (Ext.of_below (own := ownMk own w.heap.size) hb1); have hbox1 := hE1.blk8 (ownMk_0 _ _) hbox; have y2 := hbox1.cell 2; simp at y2; have hlt1 := hbox1.lt))
  have hEnd := make_end0 hpl4 (make_ext hE4) (.int .i64 0) (.int .i64 0) (.int .i64 0) (.slice none 0 0)
  have k0 := hEnd.1.cell 0; have k1 := hEnd.1.cell 1; have k2 := hEnd.1.cell 2; have k3 := hEnd.1.cell 3
  simp at k0 k1 k2 k3
  refine bodyPost_ret (v := .tuple #[.agg zeroPlan, .int .i64 r.1, .int .i64 r.2]) (by simp [results, Tryz.results55, go_sem, k0, k1, k2, k3, zeroPlan]) rfl ⟨_, rfl, _, hEnd.2, ?_⟩
  rw [HP.out]

set_option maxRecDepth 100000 in
set_option maxHeartbeats 1600000 in
theorem make_tail {own : Nat → Nat} {w : World} {n : Nat} {p : PPat} {sv : Value} (h : SeqLie own w n sv p.body) (hpre : MkPre n p) (hgood : (firstFP guardFP (ofSeqP n p.body)).2 = 0) (hgood2 : (firstFP nameFP (ofSeqP n p.body)).2 = 0) :
    Calls Tryz.prog 55 #[.agg #[.int .i64 p.window, .int .i64 p.rate, sv]] w fun e w' => ∃ v, e = .returned v ∧ MakePost own w n p v w' := by
  have HP : Hid (makeP n p = if 4000 < boundP p.rate (ofSeqP n p.body) then .inr (0, 6) else .inl (boundP p.rate (ofSeqP n p.body), ofSeqP n p.body)) := by show _ = _; unfold makeP; rw [if_neg (by simp [hpre.small]), if_neg (by simp [hgood]), if_neg (by simp [hgood2])]
  have hE0 := ownMk_ext own w (.cells #[.int .i64 p.window, .int .i64 p.rate, sv] 101) (.cells zeroPlan 67)
  have hbox : Blk ((w.alloc (.cells #[.int .i64 p.window, .int .i64 p.rate, sv] 101)).alloc (.cells zeroPlan 67)) w.heap.size #[.int .i64 p.window, .int .i64 p.rate, sv] 101 := (Blk.new w _ _).alloc _
  have hpl : Blk ((w.alloc (.cells #[.int .i64 p.window, .int .i64 p.rate, sv] 101)).alloc (.cells zeroPlan 67)) (w.heap.size + 1) zeroPlan 67 := alloc_at _ _ _ (by simp)
  have hS0 := SeqLie.ext hE0 n _ _ h
  have hcall := isBig_p hS0 hpre.bnd
  rw [hpre.small] at hcall
  have hcall2 := fun w1 hE => ofSequence_p n (ownMk own w.heap.size) w1 sv p.body (SeqLie.ext hE n _ _ hS0) hpre.wf
  obtain ⟨f1, f2, f3⟩ := hpre.facts
  have hr12 := hpre.rate
  obtain ⟨sa, sb, sc, rfl⟩ := h.form
  have hst : ∀ x ∈ ofSeqP n p.body, 1 ≤ stepsN x := fun x hx => guard_steps (f3 x hx).1 (firstFP_none hgood x hx)
  generalize ofSeqP n p.body = ps at *
  have hcall3 := fun (w2 : World) own2 gp cp (hL : PathsLie own2 w2 (.slice (some ⟨gp, 0, none⟩) ps.length cp) ps) => firstFault_p (cap := cp) look_guard (hL.at f2) (by omega) (fun x hx => (f3 x hx).2.1)
  have hcall4 := fun (w2 : World) own2 gp cp (hL : PathsLie own2 w2 (.slice (some ⟨gp, 0, none⟩) ps.length cp) ps) => firstFault_p (cap := cp) look_name (hL.at f2) (by omega) (fun x hx => (f3 x hx).2.1)
  have hcall5 := fun (w2 : World) own2 v k (hk : k < ps.length) (hV : PathV own2 w2 v ps[k]) => mostRuns_p hV (f3 _ (List.getElem_mem hk)).2.1 (f3 _ (List.getElem_mem hk)).2.2 (hst _ (List.getElem_mem hk)) hr12
  have HB : ∀ k, k ≤ ps.length → boundP p.rate (ps.take k) ≤ 3439853568 * k := boundP_le hr12 (fun x hx => (f3 x hx).2.2)
  have HT : Hid (boundP p.rate (ps.take ps.length) = boundP p.rate ps) := by show _ = _; rw [List.take_length]
  rw [hgood] at hcall3
  rw [hgood2] at hcall4
  clear h hpre hS0 hgood hgood2 f3 hst
  go_enter Tryz.func55, Tryz.ntmps55
  go_wp2_with (first
    | (go_at_call 86; refine (hcall4 _ _ _ _ hL3).mono ?_; rintro e w4 ⟨rfl, hb4⟩; have hE4 := hE3.trans (Ext.of_below hb4); have hL4 := hL3.ext (Ext.of_below hb4); have hb24 := hb3.trans (hb4.mono hb3.size))
    | (go_at_call 86; refine (hcall3 _ _ _ _ hL2).mono ?_; rintro e w3 ⟨rfl, hb3⟩; have hE3 := hE2'.trans (Ext.of_below hb3); have hL3 := hL2.ext (Ext.of_below hb3))
    | (go_at_call 85; refine (hcall2 w1 hE1).mono ?_; rintro e w2 ⟨v2, rfl, own2, hE2, hL2⟩; obtain ⟨gp, cp, rfl, _⟩ := hL2.open f2; have hE2' := hE1.trans hE2)
    | (go_at_call 84; refine hcall.mono ?_; rintro e w1 ⟨rfl, hb1⟩; have hE1 := (Ext.of_below (own := ownMk own w.heap.size) hb1); have hbox1 := hE1.blk8 (ownMk_0 _ _) hbox; have y2 := hbox1.cell 2; simp at y2; have hlt1 := hbox1.lt))
  have hbox4 := hE4.blk8 (ownMk_0 _ _) hbox
  have hpl4 := hE4.blk8 (ownMk_1 _ _) hpl
  have ho4 : own2 (w.heap.size + 1) = 8 := (hE4.same _ hpl.lt).trans (ownMk_1 _ _)
  have hB4 := make_ext hE4
  clear hcall hcall2 hcall3 hcall4 hL2 hL3 hE2' hE3 hE0 hE1 hE2 hb1 hb3 hb4 hb24 hbox hpl hbox1
  go_loopw [10, 42] (fun a i wr => ∃ k : Nat, k ≤ ps.length ∧ i = .int .i64 k ∧ a = .int .i64 (boundP p.rate (ps.take k)) ∧ Below w4.heap.size w4 wr) (fun _ i _ => ps.length - (intOf i).toNat)
  case atStart => exact ⟨0, Nat.zero_le _, rfl, rfl, Below.refl _ _⟩
  case round =>
    obtain ⟨k, hk, rfl, rfl, hbel⟩ := hrel
    have hEr := Ext.of_below (own := own2) hbel
    have hLr := hL4.ext hEr
    have hboxr := hEr.kept.blk ⟨hbox4.lt, by rw [(hE4.same _ (by simp; omega)).trans (ownMk_0 _ _)]; decide⟩ hbox4
    have hplr := hEr.blk8 ho4 hpl4
    have y0 := hboxr.cell 0; have y1 := hboxr.cell 1
    simp at y0 y1
    have hbk := HB k hk
    by_cases hlt : k < ps.length
    · obtain ⟨g', c', e', _, _, hcell⟩ := hLr.open f2
      cases e'
      obtain ⟨pv, hc, hN⟩ := hcell k hlt
      have hc5 := hcall5 wr own2 pv k hlt hN.1
      obtain ⟨pa, pb, pc, rfl⟩ := hN.1.form
      have HS : Hid (boundP p.rate (ps.take (k + 1)) = boundP p.rate (ps.take k) + mostP p.rate (stepsN ps[k])) := boundP_take p.rate ps k hlt
      have hbk1 := HB (k + 1) hlt
      rw [HS.out] at hbk1
      have hki : (k : Int) < (ps.length : Int) := by omega
      have hk0 : (0 : Int) ≤ (k : Int) := by omega
      generalize boundP p.rate (ps.take k) = acc at *
      generalize mostP p.rate (stepsN ps[k]) = more at *
      clear hcell HB hcall5 hN hL4 hLr
      go_wp2_with (go_at_call 89; refine hc5.mono ?_; rintro e w5 ⟨rfl, hb5⟩)
      go_roundw
      case rel => exact ⟨k + 1, hlt, by go_num, by rw [HS.out]; congr 1, hbel.trans (hb5.mono hbel.size)⟩
      case measure => simp [intOf]; omega
    · have ek : k = ps.length := by omega
      subst ek
      rw [HT.out] at hbk
      have HT' : Hid (Value.int .i64 (boundP p.rate (ps.take ps.length)) = Value.int .i64 (boundP p.rate ps)) := by show _ = _; rw [HT.out]
      rw [HT.out]
      generalize boundP p.rate ps = bd at *
      have z0 := hplr.cell 0; have z1 := hplr.cell 1; have z2 := hplr.cell 2; have z3 := hplr.cell 3; have g0 := hplr.frozen 0; have g1 := hplr.frozen 1; have g2 := hplr.frozen 2; have g3 := hplr.frozen 3
      simp [zeroPlan] at z0 z1 z2 z3
      have hBr : Ext own w own2 wr := hB4.trans hEr
      by_cases hbig : 4000 < bd
      · have hbi : (4000 : Int) < (bd : Int) := by omega
        have HQ : Hid (makeP n p = .inr (0, 6)) := by show _ = _; rw [HP.out, if_pos hbig]
        clear hbig HP
        go_wp2
        have hEnd := make_end0 hplr hBr (.int .i64 0) (.int .i64 0) (.int .i64 0) (.slice none 0 0)
        have k0 := hEnd.1.cell 0; have k1 := hEnd.1.cell 1; have k2 := hEnd.1.cell 2; have k3 := hEnd.1.cell 3
        simp at k0 k1 k2 k3
        refine bodyPost_ret (v := .tuple #[.agg zeroPlan, .int .i64 0, .int .i64 6]) (by simp [results, Tryz.results55, go_sem, k0, k1, k2, k3, zeroPlan]) rfl ⟨_, rfl, _, hEnd.2, ?_⟩
        rw [HQ.out]; rfl
      · have hbi : ¬ (4000 : Int) < (bd : Int) := by omega
        have HQ : Hid (makeP n p = .inl (bd, ps)) := by show _ = _; rw [HP.out, if_neg hbig]
        clear hbig HP
        go_wp2
        have hEnd := make_end0 hplr hBr (.int .i64 p.window) (.int .i64 p.rate) (.int .i64 bd) (.slice (some ⟨gp, 0, none⟩) ps.length cp)
        have k0 := hEnd.1.cell 0; have k1 := hEnd.1.cell 1; have k2 := hEnd.1.cell 2; have k3 := hEnd.1.cell 3
        simp at k0 k1 k2 k3
        refine bodyPost_ret (v := .tuple #[.agg #[.int .i64 p.window, .int .i64 p.rate, .int .i64 bd, .slice (some ⟨gp, 0, none⟩) ps.length cp], .int .i64 0, .int .i64 0]) (by simp [results, Tryz.results55, go_sem, k0, k1, k2, k3]) rfl ⟨_, rfl, _, hEnd.2, ?_⟩
        rw [HQ.out]
        exact ⟨_, rfl, (hLr.move (own' := own2) (grownBy_four wr (w.heap.size + 1) _ _ _ _) (fun k e => by cases e; exact ho4) (fun _ _ _ => rfl))⟩

theorem make_p {own : Nat → Nat} {w : World} {n : Nat} {p : PPat} {sv : Value} (h : SeqLie own w n sv p.body) (hb : bnd n p.body ≤ 100000000000000) (hr : p.rate ≤ 12) (hw : isBigP n p.body = false → WF n p.body) :
    Calls Tryz.prog 55 #[.agg #[.int .i64 p.window, .int .i64 p.rate, sv]] w fun e w' => ∃ v, e = .returned v ∧ MakePost own w n p v w' := by
  cases hbig : isBigP n p.body with
  | true => exact make_big h hb hbig
  | false =>
    have hpre : MkPre n p := ⟨hb, hbig, hw hbig, hr⟩
    by_cases h1 : (firstFP guardFP (ofSeqP n p.body)).2 = 0
    · by_cases h2 : (firstFP nameFP (ofSeqP n p.body)).2 = 0
      · exact make_tail h hpre h1 h2
      · exact make_name h hpre h1 h2
    · exact make_guard h hpre h1
end Go.Proofs.YtddbjcfdmdbmkaaGreatDoor

namespace Go.Proofs.YtddbjcfdmdbmkaaGreatDoor
open Go.RowKit

def Bad (σ : Rd) : Prop := σ.bn ≠ none ∨ ∃ t, σ.ahead = [t] ∧ t.kind = 0 ∧ ∀ k ∈ KW, (k.toList == t.text.toList) = false
theorem bad_fail (σ : Rd) : Bad σ.fail := .inr ⟨_, rfl, rfl, (good_end σ.now.place).2⟩
theorem bad_has {σ : Rd} {ts : List ByteArray} (hts : ∀ t ∈ ts, t ∈ KW) (hh : σ.has ts = true) (h : Bad σ) : σ.bn ≠ none := by
  rcases h with h | ⟨t, ha, _, ht⟩
  · exact h
  · simp only [Rd.has, List.any_eq_true, Rd.now, ha, List.headD] at hh
    obtain ⟨x, hx, he⟩ := hh
    rw [ht x (hts x hx)] at he; cases he
theorem bad_is {σ : Rd} {t : ByteArray} (ht : t ∈ KW) (hh : σ.now.is t = true) (h : Bad σ) : σ.bn ≠ none := by
  refine bad_has (ts := [t]) (by simpa using ht) ?_ h
  simp only [Rd.has, List.any_cons, List.any_nil, Bool.or_false]
  simp only [STok.is, beq_iff_eq] at hh ⊢; exact hh.symm
theorem bad_kind {σ : Rd} (hk : σ.now.kind ≠ 0) (h : Bad σ) : σ.bn ≠ none := by
  rcases h with h | ⟨t, ha, h0, _⟩
  · exact h
  · simp only [Rd.now, ha, List.headD] at hk; exact absurd h0 hk
theorem bad_of {σ σ' : Rd} (e : σ'.bn = σ.bn) (h : σ.bn ≠ none) : Bad σ' := .inl (by rw [e]; exact h)
theorem bad_expect {σ : Rd} {ts : List ByteArray} (hts : ∀ t ∈ ts, t ∈ KW) (h : Bad σ) : Bad (σ.expect ts) := by
  unfold Rd.expect; split
  · rename_i hh; exact bad_of (σ := σ) rfl (bad_has hts hh h)
  · exact bad_fail σ
theorem mark_some {m : Option Nat} {p : Nat} : markPut m p ≠ none := by cases m <;> simp [markPut]
theorem bad_num {σ : Rd} (lo hi : Nat) (h : Bad σ) : Bad (σ.num lo hi) := by
  unfold Rd.num; split
  · rename_i hk
    have hb := bad_kind (by omega) h
    refine .inl ?_
    show (if _ then _ else _) ≠ none
    split
    · exact mark_some
    · exact hb
  · exact bad_fail σ
def KBad (f : Rd → Rd) : Prop := ∀ σ, Bad σ → Bad (f σ)
theorem bad_chainL {f : Rd → Rd} (hf : KBad f) {ts : List ByteArray} (hts : ∀ t ∈ ts, t ∈ KW) : ∀ k, KBad (chainL f ts k) := by
  intro k
  induction k with
  | zero => intro σ h; exact h
  | succ k ih =>
    intro σ h
    unfold chainL; split
    · rename_i hh; exact ih _ (hf _ (bad_of (σ := σ) (σ' := σ.skip) rfl (bad_has hts hh h)))
    · exact h
theorem bad_chainP {f : Rd → Rd} (hf : KBad f) {ts : List ByteArray} (hts : ∀ t ∈ ts, t ∈ KW) : KBad (chainP f ts) := fun σ h => bad_chainL hf hts _ _ (hf σ h)
theorem bad_field {σ : Rd} (h : σ.bn ≠ none) (name : ByteArray) (place : Nat) : Bad (fieldP σ name place) :=
  bad_expect (ts := sField) (by simp [KW, sField]) (bad_expect (ts := [tDot]) (by simp [KW]) (bad_of (σ := σ) (σ' := σ.skip) rfl h))
theorem bad_sum {f : Rd → Rd} (hf : KBad f) : KBad (sumP f) := bad_chainP (bad_chainP hf (by simp [KW])) (by simp [KW])
theorem bad_factor : ∀ n, KBad (factorP n) := by
  intro n
  induction n with
  | zero => intro σ h; exact h
  | succ n ih =>
    intro σ h
    unfold factorP
    split
    · exact bad_num (σ := σ) 0 999999999 h
    split
    · rename_i hm; exact ih _ (bad_of (σ := σ) (σ' := σ.enter) rfl (bad_is (by simp [KW]) hm h))
    split
    · rename_i hm; exact bad_expect (ts := [tClose]) (by simp [KW]) (bad_sum ih _ (bad_of (σ := σ) (σ' := σ.enter) rfl (bad_is (by simp [KW]) hm h)))
    split
    · rename_i hk; exact bad_field (bad_kind (by omega) h) _ _
    split
    · rename_i hm; exact bad_field (bad_is (by simp [KW]) hm h) _ _
    · exact bad_fail σ
theorem bad_test {f : Rd → Rd} (hf : KBad f) : KBad (testP f) := fun σ h => bad_sum hf _ (bad_expect (ts := sTest) (by simp [KW, sTest]) (bad_sum hf σ h))
theorem bad_cond {n : Nat} : KBad (condP n) := by
  intro σ h
  unfold condP; split
  · rename_i hh
    exact bad_chainP (bad_chainP (bad_test (bad_factor n)) (by simp [KW])) (by simp [KW]) _ (bad_of (σ := σ) rfl (bad_has (by simp [KW]) hh h))
  · rcases h with h | h
    · exact .inl h
    · exact .inr h
def KBadP {α : Type} (f : Rd → Rd × α) : Prop := ∀ σ, Bad σ → Bad (f σ).1
theorem bad_step {n : Nat} {σ : Rd} (hk : σ.now.kind ≠ 0) (h : Bad σ) : Bad (stepP n σ).1 := by
  have a := bad_num 0 99 (bad_expect (ts := [tColon]) (by simp [KW]) (bad_of (σ := σ) (σ' := σ.skip) rfl (bad_kind hk h)))
  unfold stepP; simp only
  by_cases hh : ((σ.skip.expect [tColon]).num 0 99).has [tTimes] = true
  · simp only [hh, if_true]
    exact bad_cond _ (bad_num 1 4 (bad_of (σ := (σ.skip.expect [tColon]).num 0 99) (σ' := ((σ.skip.expect [tColon]).num 0 99).skip) rfl (bad_has (by simp [KW]) hh a)))
  · simp only [hh]
    exact bad_cond _ a
theorem bad_seqL {part : Rd → Rd × PPart} (hp : KBadP part) : ∀ k l, KBadP (fun σ => seqL part k σ l) := by
  intro k
  induction k with
  | zero => intro l σ h; exact h
  | succ k ih =>
    intro l σ h
    show Bad (seqL part (k + 1) σ l).1
    unfold seqL; split
    · rename_i hh; exact ih _ _ (hp _ (bad_of (σ := σ) (σ' := σ.skip) rfl (bad_has (by simp [KW]) hh h)))
    · exact h
theorem bad_seq {part : Rd → Rd × PPart} (hp : KBadP part) : KBadP (seqP part) := fun σ h => bad_seqL hp _ _ _ (hp σ h)
theorem bad_barL {seq : Rd → Rd × List PPart} (hp : KBadP seq) : ∀ k l, KBadP (fun σ => barL seq k σ l) := by
  intro k
  induction k with
  | zero => intro l σ h; exact h
  | succ k ih =>
    intro l σ h
    show Bad (barL seq (k + 1) σ l).1
    unfold barL; split
    · rename_i hh; exact ih _ _ (hp _ (bad_of (σ := σ) (σ' := σ.skip) rfl (bad_has (by simp [KW]) hh h)))
    · exact h
theorem bad_brackets {seq : Rd → Rd × List PPart} (hp : KBadP seq) {σ : Rd} (h : σ.bn ≠ none) : Bad (bracketsP seq σ).1 :=
  bad_expect (ts := [tClose]) (by simp [KW]) (bad_barL hp _ _ _ (hp _ (bad_expect (ts := [tBar]) (by simp [KW]) (hp _ (bad_of (σ := σ) (σ' := σ.enter) rfl h)))))
theorem bad_part : ∀ n, KBadP (partP n) := by
  intro n
  induction n with
  | zero => intro σ h; exact h
  | succ n ih =>
    intro σ h
    unfold partP
    split
    · rename_i hk; exact bad_step (by omega) h
    split
    · rename_i hm; exact bad_cond _ (bad_num 0 99 (bad_of (σ := σ) (σ' := σ.skip) rfl (bad_is (by simp [KW]) hm h)))
    split
    · rename_i hm; exact bad_brackets (bad_seq ih) (bad_is (by simp [KW]) hm h)
    · exact bad_fail σ
theorem fine_expect {σ : Rd} {ts : List ByteArray} (h : ¬ Bad (σ.expect ts)) : σ.has ts = true ∧ σ.expect ts = σ.skip := by
  unfold Rd.expect at h ⊢
  by_cases hh : σ.has ts = true
  · exact ⟨hh, if_pos hh⟩
  · rw [if_neg hh] at h; exact absurd (bad_fail σ) h
theorem fine_num {σ : Rd} {lo hi : Nat} (h : ¬ Bad (σ.num lo hi)) : σ.now.kind = 2 ∧ lo ≤ σ.numV ∧ σ.numV ≤ hi ∧ (σ.num lo hi).ahead = σ.skip.ahead := by
  by_cases hk : σ.now.kind = 2
  · unfold Rd.num at h ⊢
    rw [if_pos hk] at h ⊢
    unfold Rd.numV; rw [if_pos hk]
    by_cases hb : numVal σ.now.text < lo ∨ hi < numVal σ.now.text
    · refine absurd (.inl ?_) h
      simp only [hb, if_true]; exact mark_some
    · exact ⟨hk, by omega, by omega, rfl⟩
  · unfold Rd.num at h; rw [if_neg hk] at h; exact absurd (bad_fail σ) h
end Go.Proofs.YtddbjcfdmdbmkaaGreatDoor

namespace Go.Proofs.YtddbjcfdmdbmkaaGreatDoor
open Go.RowKit

def SW : Nat → List PPart → Prop
  | 0, _ => False
  | n + 1, l => l ≠ [] ∧ ∀ p ∈ l, (isStepB p = true → 1 ≤ p.times ∧ p.times ≤ 4 ∧ p.choices = []) ∧ ∀ c ∈ p.choices, SW n c
def SWp (n : Nat) (p : PPart) : Prop := (isStepB p = true → 1 ≤ p.times ∧ p.times ≤ 4 ∧ p.choices = []) ∧ ∀ c ∈ p.choices, SW n c
def wt (n : Nat) (p : PPart) : Nat := p.times + 1 + (p.choices.map fun c => bnd n c + 1).sum
theorem bnd_wt (n : Nat) (l : List PPart) : bnd (n + 1) l = (l.map (wt n)).sum := rfl

theorem fold_count' (c : List (List PPart)) (f : List PPart → Nat × Nat) : (c.foldl (fun a c => (a.1 + (f c).1, max a.2 (f c).2)) (0, 0)).1 = (c.map fun x => (f x).1).sum := by rw [fold_count]; simp
theorem sw_pos : ∀ n l, SW n l → 1 ≤ (sizeP n l).1 := by
  intro n
  induction n with
  | zero => intro l h; exact h.elim
  | succ n ih =>
    rintro l ⟨_, hp⟩
    have key : ∀ (l : List PPart) (a : Nat × Nat), (∀ p ∈ l, ∀ c ∈ p.choices, SW n c) → 1 ≤ a.1 → 1 ≤ (l.foldl (sizeStep (sizeP n)) a).1 := by
      intro l
      induction l with
      | nil => intro a _ h; exact h
      | cons p l ihl =>
        intro a hl ha
        refine ihl _ (fun q hq => hl q (List.mem_cons_of_mem _ hq)) ?_
        have hpp : 1 ≤ (sizePartP (sizeP n) p).1 := by
          unfold sizePartP
          by_cases hc : p.choices.isEmpty = true
          · rw [if_pos hc]; exact Nat.le_refl 1
          · rw [if_neg hc, fold_count']
            obtain ⟨c, r, e⟩ := List.exists_cons_of_ne_nil (show p.choices ≠ [] by simpa using hc)
            have hm : c ∈ p.choices := by rw [e]; simp
            exact Nat.le_trans (ih c (hl p (List.mem_cons_self ..) c hm)) (mem_le_sum (List.mem_map.2 ⟨c, hm, rfl⟩))
        show 1 ≤ min (a.1 * (sizePartP (sizeP n) p).1) 17
        have := Nat.mul_le_mul ha hpp
        omega
    exact key l (1, 0) (fun p hpm => (hp p hpm).2) (Nat.le_refl 1)
theorem sw_part {n : Nat} {p : PPart} (h : SWp n p) : 1 ≤ (sizePartP (sizeP n) p).1 := by
  unfold sizePartP
  by_cases hc : p.choices.isEmpty = true
  · rw [if_pos hc]; exact Nat.le_refl 1
  · rw [if_neg hc, fold_count']
    obtain ⟨c, r, e⟩ := List.exists_cons_of_ne_nil (show p.choices ≠ [] by simpa using hc)
    have hm : c ∈ p.choices := by rw [e]; simp
    exact Nat.le_trans (sw_pos n c (h.2 c hm)) (mem_le_sum (List.mem_map.2 ⟨c, hm, rfl⟩))
theorem part_le {n : Nat} {l : List PPart} (hp : ∀ p ∈ l, SWp n p) : ∀ k, k ≤ l.length → (seqAcc (sizeP n) l k).1 ≤ 16 → 1 ≤ (seqAcc (sizeP n) l k).1 ∧ ∀ j, (hj : j < l.length) → j < k → (sizePartP (sizeP n) l[j]).1 ≤ 16 := by
  intro k
  induction k with
  | zero => intro _ _; exact ⟨by show 1 ≤ 1; omega, fun j _ hj => absurd hj (by omega)⟩
  | succ k ih =>
    intro hk h
    rw [seqAcc_succ (sizeP n) l k (by omega)] at h ⊢
    have hm : min ((seqAcc (sizeP n) l k).1 * (sizePartP (sizeP n) l[k]).1) 17 ≤ 16 := h
    have h1 := sw_part (hp _ (List.getElem_mem (show k < l.length by omega)))
    have hprod : (seqAcc (sizeP n) l k).1 * (sizePartP (sizeP n) l[k]).1 ≤ 16 := by omega
    have hle : (seqAcc (sizeP n) l k).1 ≤ 16 := Nat.le_trans (Nat.le_mul_of_pos_right _ h1) hprod
    obtain ⟨i1, i2⟩ := ih (by omega) hle
    have hpp := Nat.mul_le_mul i1 h1
    refine ⟨by show 1 ≤ min _ 17; omega, fun j hjl hj => ?_⟩
    by_cases e : j = k
    · subst e; exact Nat.le_trans (Nat.le_mul_of_pos_left _ i1) hprod
    · exact i2 j hjl (by omega)
theorem sw_wf : ∀ n l, SW n l → (sizeP n l).1 ≤ 16 → bnd n l ≤ 100000 → WF n l := by
  intro n
  induction n with
  | zero => intro l h; exact h.elim
  | succ n ih =>
    rintro l ⟨hne, hp⟩ h16 hb
    refine ⟨hne, h16, hb, fun p hpm => ⟨(hp p hpm).1, fun c hc => ?_⟩⟩
    have e : seqAcc (sizeP n) l l.length = sizeP (n + 1) l := by unfold seqAcc; rw [List.take_length]; rfl
    obtain ⟨j, hj, rfl⟩ := List.getElem_of_mem hpm
    have hp16 := (part_le (n := n) (l := l) (fun p hpm => hp p hpm) l.length (Nat.le_refl _) (by rw [e]; exact h16)).2 j hj hj
    have hbp : wt n l[j] ≤ 100000 := Nat.le_trans (bnd_choices (List.getElem_mem hj)) hb
    refine ih c ((hp _ hpm).2 c hc) ?_ ?_
    · unfold sizePartP at hp16
      have hne2 : l[j].choices.isEmpty = false := by cases h : l[j].choices with | nil => rw [h] at hc; simp at hc | cons _ _ => rfl
      rw [if_neg (by simp [hne2]), fold_count'] at hp16
      exact Nat.le_trans (mem_le_sum (l := l[j].choices.map fun x => (sizeP n x).1) (List.mem_map.2 ⟨c, hc, rfl⟩)) hp16
    · have : bnd n c + 1 ≤ (l[j].choices.map fun c => bnd n c + 1).sum := mem_le_sum (List.mem_map.2 ⟨c, hc, rfl⟩)
      unfold wt at hbp; omega

theorem nil_bytes : ByteArray.toList ⟨#[]⟩ = [] := by kernel_rfl
theorem noname (a b c : Nat) (d : List POp) (e : List (List PPart)) : isStepB (.mk ⟨#[]⟩ a b c d e) = false := by unfold isStepB PPart.name; simp only; rw [nil_bytes]; rfl
def PartG (m n : Nat) (part : Rd → Rd × PPart) : Prop := ∀ σ, SGood σ.ahead → σ.ahead.length ≤ m → ¬ Bad (part σ).1 → SWp n (part σ).2 ∧ wt n (part σ).2 + 2 * (part σ).1.ahead.length ≤ 2 * σ.ahead.length
def SeqG (m n : Nat) (seq : Rd → Rd × List PPart) : Prop := ∀ σ, SGood σ.ahead → σ.ahead.length ≤ m → ¬ Bad (seq σ).1 → SW n (seq σ).2 ∧ bnd n (seq σ).2 + 2 * (seq σ).1.ahead.length ≤ 2 * σ.ahead.length
theorem bnd_app (n : Nat) (l : List PPart) (p : PPart) : bnd (n + 1) (l ++ [p]) = bnd (n + 1) l + wt n p := by rw [bnd_wt, bnd_wt, List.map_append, List.sum_append]; simp
theorem seqL_g {m n : Nat} {part : Rd → Rd × PPart} (kp : KeepsP m part) (kb : KBadP part) (hp : PartG m n part) : ∀ k σ l, SGood σ.ahead → σ.ahead.length ≤ m → ¬ Bad (seqL part k σ l).1 → l ≠ [] → (∀ p ∈ l, SWp n p) →
    (seqL part k σ l).2 ≠ [] ∧ (∀ p ∈ (seqL part k σ l).2, SWp n p) ∧ bnd (n + 1) (seqL part k σ l).2 + 2 * (seqL part k σ l).1.ahead.length ≤ bnd (n + 1) l + 2 * σ.ahead.length := by
  intro k
  induction k with
  | zero => intro σ l _ _ _ hl hs; exact ⟨hl, hs, Nat.le_refl _⟩
  | succ k ih =>
    intro σ l h hm hb hl hs
    unfold seqL at hb ⊢
    by_cases hh : σ.has [tThen] = true
    · simp only [hh, if_true] at hb ⊢
      have h2 := h.has (ts := [tThen]) (by simp [KW]) hh
      have s := skip_ok h h2
      have p := kp _ s.good (Nat.le_trans s.le hm)
      have hnb : ¬ Bad (part σ.skip).1 := fun hx => hb (bad_seqL kb _ _ _ hx)
      obtain ⟨g1, g2⟩ := hp σ.skip s.good (Nat.le_trans s.le hm) hnb
      obtain ⟨r1, r2, r3⟩ := ih _ _ p.good (Nat.le_trans p.le (Nat.le_trans s.le hm)) hb (by simp) (fun q hq => by
        rcases List.mem_append.1 hq with hq | hq
        · exact hs q hq
        · simp only [List.mem_singleton] at hq; subst hq; exact g1)
      refine ⟨r1, r2, ?_⟩
      rw [bnd_app] at r3
      have := s.le
      omega
    · simp only [hh] at hb ⊢
      exact ⟨hl, hs, Nat.le_refl _⟩
theorem seqP_g {m n : Nat} {part : Rd → Rd × PPart} (kp : KeepsP m part) (kb : KBadP part) (hp : PartG m n part) : SeqG m (n + 1) (seqP part) := by
  intro σ h hm hb
  have p := kp σ h hm
  have hnb : ¬ Bad (part σ).1 := fun hx => hb (bad_seqL kb _ _ _ hx)
  obtain ⟨g1, g2⟩ := hp σ h hm hnb
  obtain ⟨r1, r2, r3⟩ := seqL_g kp kb hp (part σ).1.ahead.length (part σ).1 [(part σ).2] p.good (Nat.le_trans p.le hm) hb (by simp) (fun q hq => by simp only [List.mem_singleton] at hq; subst hq; exact g1)
  refine ⟨⟨r1, r2⟩, ?_⟩
  have e : bnd (n + 1) [(part σ).2] = wt n (part σ).2 := by rw [bnd_wt]; simp
  rw [e] at r3
  show bnd (n + 1) (seqL part _ _ _).2 + 2 * (seqL part _ _ _).1.ahead.length ≤ _
  omega
def wts (n : Nat) (c : List (List PPart)) : Nat := (c.map fun c => bnd n c + 1).sum
theorem barL_g {m n : Nat} {seq : Rd → Rd × List PPart} (kp : KeepsP m seq) (kb : KBadP seq) (hp : SeqG m n seq) : ∀ k σ l, SGood σ.ahead → σ.ahead.length ≤ m → ¬ Bad (barL seq k σ l).1 → (∀ c ∈ l, SW n c) →
    (∀ c ∈ (barL seq k σ l).2, SW n c) ∧ wts n (barL seq k σ l).2 + 2 * (barL seq k σ l).1.ahead.length ≤ wts n l + 2 * σ.ahead.length := by
  intro k
  induction k with
  | zero => intro σ l _ _ _ hs; exact ⟨hs, Nat.le_refl _⟩
  | succ k ih =>
    intro σ l h hm hb hs
    unfold barL at hb ⊢
    by_cases hh : σ.has [tBar] = true
    · simp only [hh, if_true] at hb ⊢
      have h2 := h.has (ts := [tBar]) (by simp [KW]) hh
      have s := skip_ok h h2
      have p := kp _ s.good (Nat.le_trans s.le hm)
      have hnb : ¬ Bad (seq σ.skip).1 := fun hx => hb (bad_barL kb _ _ _ hx)
      obtain ⟨g1, g2⟩ := hp σ.skip s.good (Nat.le_trans s.le hm) hnb
      obtain ⟨r2, r3⟩ := ih _ _ p.good (Nat.le_trans p.le (Nat.le_trans s.le hm)) hb (fun q hq => by
        rcases List.mem_append.1 hq with hq | hq
        · exact hs q hq
        · simp only [List.mem_singleton] at hq; subst hq; exact g1)
      refine ⟨r2, ?_⟩
      have e : wts n (l ++ [(seq σ.skip).2]) = wts n l + (bnd n (seq σ.skip).2 + 1) := by unfold wts; rw [List.map_append, List.sum_append]; simp
      rw [e] at r3
      rw [skip_len] at g2
      omega
    · simp only [hh] at hb ⊢
      exact ⟨hs, Nat.le_refl _⟩
theorem brackets_g {m n : Nat} {seq : Rd → Rd × List PPart} (kp : KeepsP m seq) (kb : KBadP seq) (hp : SeqG m n seq) {σ : Rd} (h : SGood σ.ahead) (h2 : 2 ≤ σ.ahead.length) (hm : σ.ahead.length ≤ m + 1) (hb : ¬ Bad (bracketsP seq σ).1) :
    SWp n (bracketsP seq σ).2 ∧ wt n (bracketsP seq σ).2 + 2 * (bracketsP seq σ).1.ahead.length ≤ 2 * σ.ahead.length := by
  have hle : σ.enter.ahead.length ≤ m := by rw [enter_len]; omega
  have hel := enter_len (σ := σ)
  have ka := kp σ.enter (h.tail h2) hle
  unfold bracketsP at hb ⊢
  simp only at hb ⊢
  generalize ea : seq σ.enter = a at *
  have kb1 := expect_ok ka.good (ts := [tBar]) (by simp [KW])
  have hb1 := Nat.le_trans kb1.le (Nat.le_trans ka.le hle)
  have kc := kp _ kb1.good hb1
  generalize eb : seq (a.1.expect [tBar]) = b at *
  have kd := barL_ok kp b.1.ahead.length b.1 [a.2, b.2] kc.good (Nat.le_trans kc.le hb1)
  have n3 : ¬ Bad ((barL seq b.1.ahead.length b.1 [a.2, b.2]).1.expect [tClose]) := hb
  have n2 : ¬ Bad (barL seq b.1.ahead.length b.1 [a.2, b.2]).1 := fun hx => n3 (bad_expect (by simp [KW]) hx)
  have n1 : ¬ Bad b.1 := fun hx => n2 (bad_barL kb _ _ _ hx)
  have n0 : ¬ Bad (a.1.expect [tBar]) := fun hx => n1 (by rw [← eb]; exact kb _ hx)
  have na : ¬ Bad a.1 := fun hx => n0 (bad_expect (by simp [KW]) hx)
  have ga := hp σ.enter (h.tail h2) hle (by rw [ea]; exact na)
  rw [ea] at ga
  have gb := hp _ kb1.good hb1 (by rw [eb]; exact n1)
  rw [eb] at gb
  obtain ⟨hhb, heb⟩ := fine_expect n0
  obtain ⟨hhc, hec⟩ := fine_expect n3
  have la := ka.good.has (ts := [tBar]) (by simp [KW]) hhb
  have lc := kd.good.has (ts := [tClose]) (by simp [KW]) hhc
  obtain ⟨d1, d2⟩ := barL_g kp kb hp b.1.ahead.length b.1 [a.2, b.2] kc.good (Nat.le_trans kc.le hb1) n2 (fun c hc => by
    simp only [List.mem_cons, List.not_mem_nil, or_false] at hc
    rcases hc with rfl | rfl
    · exact ga.1
    · exact gb.1)
  refine ⟨⟨fun hs => (by rw [noname] at hs; cases hs), d1⟩, ?_⟩
  have e2 : wts n [a.2, b.2] = bnd n a.2 + 1 + (bnd n b.2 + 1) := by unfold wts; simp
  have g1 := ga.2
  have g2 := gb.2
  rw [heb, skip_len] at g2
  rw [hec]
  show 0 + 1 + wts n (barL seq b.1.ahead.length b.1 [a.2, b.2]).2 + 2 * (barL seq b.1.ahead.length b.1 [a.2, b.2]).1.skip.ahead.length ≤ _
  rw [skip_len]
  omega
theorem step_g {m n : Nat} {σ : Rd} (h : SGood σ.ahead) (hk : σ.now.kind = 3) (hm : σ.ahead.length ≤ m + 1) (hb : ¬ Bad (stepP m σ).1) :
    SWp n (stepP m σ).2 ∧ wt n (stepP m σ).2 + 2 * (stepP m σ).1.ahead.length ≤ 2 * σ.ahead.length := by
  have h2 := h.more (by show 2 ≤ σ.now.kind; omega)
  have s := skip_ok h h2
  have c := expect_ok s.good (ts := [tColon]) (by simp [KW])
  have a := num_ok c.good 0 99
  have hle : ((σ.skip.expect [tColon]).num 0 99).ahead.length ≤ m := by
    have := a.le; have := c.le; rw [skip_len] at this; omega
  unfold stepP at hb ⊢
  simp only at hb ⊢
  by_cases hh : ((σ.skip.expect [tColon]).num 0 99).has [tTimes] = true
  · simp only [hh, if_true] at hb ⊢
    have h3 := a.good.has (ts := [tTimes]) (by simp [KW]) hh
    have s2 := skip_ok a.good h3
    have n2 := num_ok s2.good 1 4
    have k := condP_ok (n := m) n2.good (Nat.le_trans n2.le (Nat.le_trans s2.le hle))
    have x2 : ¬ Bad (((σ.skip.expect [tColon]).num 0 99).skip.num 1 4) := fun hx => hb (bad_cond _ hx)
    obtain ⟨_, t1, t4, e4⟩ := fine_num x2
    have x1 : ¬ Bad ((σ.skip.expect [tColon]).num 0 99) := fun hx => x2 (bad_num 1 4 (bad_of (σ := (σ.skip.expect [tColon]).num 0 99) (σ' := ((σ.skip.expect [tColon]).num 0 99).skip) rfl (bad_has (by simp [KW]) hh hx)))
    obtain ⟨_, _, _, e1⟩ := fine_num x1
    have x0 : ¬ Bad (σ.skip.expect [tColon]) := fun hx => x1 (bad_num 0 99 hx)
    obtain ⟨hh0, e0⟩ := fine_expect x0
    have l0 := s.good.has (ts := [tColon]) (by simp [KW]) hh0
    refine ⟨⟨fun _ => ⟨t1, t4, rfl⟩, fun c hc => by simp [PPart.choices] at hc⟩, ?_⟩
    have hk := k.1.le
    have h5 := n2.le; have h6 := skip_len ((σ.skip.expect [tColon]).num 0 99); have h7 := congrArg List.length e1; have h8 := skip_len (σ.skip.expect [tColon]); have h9 := congrArg (fun x => x.ahead.length) e0; have h10 := skip_len σ.skip; have h11 := skip_len σ
    show (((σ.skip.expect [tColon]).num 0 99).skip).numV + 1 + 0 + 2 * (condP m _).ahead.length ≤ _
    omega
  · simp only [hh] at hb ⊢
    have k := condP_ok (n := m) a.good hle
    have x1 : ¬ Bad ((σ.skip.expect [tColon]).num 0 99) := fun hx => hb (bad_cond _ hx)
    obtain ⟨_, _, _, e1⟩ := fine_num x1
    have x0 : ¬ Bad (σ.skip.expect [tColon]) := fun hx => x1 (bad_num 0 99 hx)
    obtain ⟨hh0, e0⟩ := fine_expect x0
    have l0 := s.good.has (ts := [tColon]) (by simp [KW]) hh0
    refine ⟨⟨fun _ => ⟨Nat.le_refl 1, by show 1 ≤ 4; omega, rfl⟩, fun c hc => by simp [PPart.choices] at hc⟩, ?_⟩
    have hk := k.1.le
    have h7 := congrArg List.length e1; have h8 := skip_len (σ.skip.expect [tColon]); have h9 := congrArg (fun x => x.ahead.length) e0; have h10 := skip_len σ.skip; have h11 := skip_len σ
    show 1 + 1 + 0 + 2 * (condP m ((σ.skip.expect [tColon]).num 0 99)).ahead.length ≤ _
    omega
theorem guard_g {m n : Nat} {σ : Rd} (h : SGood σ.ahead) (h2 : 2 ≤ σ.ahead.length) (hm : σ.ahead.length ≤ m + 1) : SWp n (guardP m σ).2 ∧ wt n (guardP m σ).2 + 2 * (guardP m σ).1.ahead.length ≤ 2 * σ.ahead.length := by
  have s := skip_ok h h2
  have a := num_ok s.good 0 99
  have k := condP_ok (n := m) a.good (by have := a.le; rw [skip_len] at this; omega)
  refine ⟨⟨fun hs => (by unfold guardP at hs; rw [noname] at hs; cases hs), fun c hc => by simp [guardP, PPart.choices] at hc⟩, ?_⟩
  have h1 := k.1.le; have h3 := a.le; have h4 := skip_len σ
  show 0 + 1 + 0 + 2 * (condP m _).ahead.length ≤ _
  omega
theorem part_g : ∀ n, PartG n n (partP n) := by
  intro n
  induction n with
  | zero => intro σ h hl; have := h.pos; omega
  | succ n ih =>
    intro σ h hm hb
    unfold partP at hb ⊢
    by_cases hk : σ.now.kind = 3
    · simp only [hk, if_true] at hb ⊢
      exact step_g h hk hm hb
    · simp only [hk, if_false] at hb ⊢
      by_cases hn : σ.now.is tNot = true
      · simp only [hn, if_true] at hb ⊢
        exact guard_g h (h.is (by simp [KW]) hn) hm
      · simp only [hn] at hb ⊢
        by_cases ho : σ.now.is tOpen = true
        · simp only [ho, if_true] at hb ⊢
          exact brackets_g (seqP_ok (partP_ok n)) (bad_seq (bad_part n)) (seqP_g (partP_ok n) (bad_part n) ih) h (h.is (by simp [KW]) ho) hm hb
        · simp only [ho] at hb
          exact absurd (bad_fail σ) hb
theorem read_fine {l : List STok} (hG : SGood l) (hl : l.length ≤ 2000) {pat : PPat} {z : Nat} (h : readP l = .inl (pat, z)) :
    SW (l.length + 1) pat.body ∧ bnd (l.length + 1) pat.body ≤ 4000 ∧ 1 ≤ pat.window ∧ pat.window ≤ 1000000 ∧ 1 ≤ pat.rate ∧ pat.rate ≤ 12 := by
  have hb : ¬ Bad (patP l.length (rd0 l)).1 ∧ pat = (patP l.length (rd0 l)).2 := by
    unfold readP at h
    simp only at h
    split at h
    · cases h
    · rename_i hk
      split at h
      · cases h
      · split at h
        · cases h
        · rename_i hbn
          injection h with h; injection h with h _
          refine ⟨fun hx => ?_, h.symm⟩
          rcases hx with hx | ⟨t, ha, h0, _⟩
          · exact hx hbn
          · simp only [Rd.now, ha, List.headD] at hk; omega
  obtain ⟨hb, rfl⟩ := hb
  rw [patP_def] at hb ⊢
  simp only at hb ⊢
  have a := expect_ok (σ := rd0 l) hG (ts := [tWithin]) (by simp [KW])
  have b := num_ok a.good 1 1000000
  have c := expect_ok b.good (ts := [tRate]) (by simp [KW])
  have d := num_ok c.good 1 12
  have hle : ((((rd0 l).expect [tWithin]).num 1 1000000).expect [tRate] |>.num 1 12).ahead.length ≤ l.length := Nat.le_trans d.le (Nat.le_trans c.le (Nat.le_trans b.le a.le))
  obtain ⟨g1, g2⟩ := seqP_g (partP_ok l.length) (bad_part l.length) (part_g l.length) _ d.good hle hb
  have x3 : ¬ Bad ((((rd0 l).expect [tWithin]).num 1 1000000).expect [tRate] |>.num 1 12) := fun hx => hb (bad_seq (bad_part _) _ hx)
  have x2 : ¬ Bad (((rd0 l).expect [tWithin]).num 1 1000000 |>.expect [tRate]) := fun hx => x3 (bad_num 1 12 hx)
  have x1 : ¬ Bad (((rd0 l).expect [tWithin]).num 1 1000000) := fun hx => x2 (bad_expect (by simp [KW]) hx)
  obtain ⟨_, r1, r2, _⟩ := fine_num x3
  obtain ⟨_, w1, w2, _⟩ := fine_num x1
  exact ⟨g1, by omega, w1, w2, r1, r2⟩
end Go.Proofs.YtddbjcfdmdbmkaaGreatDoor
