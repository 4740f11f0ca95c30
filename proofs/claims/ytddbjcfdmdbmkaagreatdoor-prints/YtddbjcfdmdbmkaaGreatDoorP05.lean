import Derived.Test.YtddbjcfdmdbmkaaGreatDoorB40
import Derived.Test.YtddbjcfdmdbmkaaGreatDoorB31
import Derived.Test.YtddbjcfdmdbmkaaGreatDoorB38
set_option linter.unusedVariables false
set_option linter.unusedSimpArgs false
/-
  The document's Compile: memory.
-/
namespace Go.Proofs.YtddbjcfdmdbmkaaGreatDoor
open Go.RowKit

/-- paths that are being gathered, of colour 9 -/
def PathsC (own : Nat → Nat) (w : World) (v : Value) (ps : List (List (Nat × List Nat))) (lo : Nat) : Prop :=
  ∃ vs : List Value, vs.length = ps.length ∧ w.ownsRow 0 128 1 v ps.length vs ∧ (∀ g, v.ownBlock = some g → own g = 9 ∧ lo ≤ g) ∧ ∀ i, (h : i < vs.length) → (h' : i < ps.length) → StepC 7 own w vs[i] ps[i] 0
theorem PathsC.nil (own : Nat → Nat) (w : World) (lo : Nat) : PathsC own w (.slice none 0 0) [] lo := ⟨[], rfl, World.ownsRow_nil _ _ _ _, fun g hg => by simp [Value.ownBlock] at hg, fun i h => by simp at h⟩
theorem StepC.low {c : Nat} {own : Nat → Nat} {w : World} {v : Value} {es : List (Nat × List Nat)} {lo : Nat} (h : StepC c own w v es lo) : StepC c own w v es 0 := by
  obtain ⟨gvs, h1, h2, h3, h4⟩ := h
  exact ⟨gvs, h1, h2, fun g hg => ⟨(h3 g hg).1, Nat.zero_le _⟩, h4⟩
theorem PathsC.ext {own own' : Nat → Nat} {w w' : World} {v : Value} {ps : List (List (Nat × List Nat))} {lo : Nat} (h : PathsC own w v ps lo) (hE : Ext own w own' w') : PathsC own' w' v ps lo := by
  obtain ⟨vs, h1, h2, h3, h4⟩ := h
  exact ⟨vs, h1, row_ext h2 (fun g hg => by rw [(h3 g hg).1]; decide) hE, fun g hg => ⟨(hE.same g (h2.lt g hg).2).trans (h3 g hg).1, (h3 g hg).2⟩, fun i x y => (h4 i x y).k7 hE.k7⟩
theorem PathsC.keep {own own' : Nat → Nat} {w w' : World} {v : Value} {ps : List (List (Nat × List Nat))} {lo : Nat} (h : PathsC own w v ps lo) (hk : K7 own w own' w') (hb : ∀ k, k < w.heap.size → own k = 9 → own' k = 9 ∧ w'.heap[k]? = w.heap[k]?) : PathsC own' w' v ps lo := by
  obtain ⟨vs, h1, h2, h3, h4⟩ := h
  exact ⟨vs, h1, row_of_blk h2 fun g hg => (hb g (h2.lt g hg).2 (h3 g hg).1).2, fun g hg => ⟨(hb g (h2.lt g hg).2 (h3 g hg).1).1, (h3 g hg).2⟩, fun i x y => (h4 i x y).k7 hk⟩
def EngC (b : Nat) (pv : Value) (bd : Nat) : Array Value := #[.pointer (some ⟨b, 0, none⟩), pv, .int .i64 (bd : Nat), .slice none 0 0, .int .i64 0]
/-- the engine that is being made, in block X -/
structure EC (own : Nat → Nat) (w : World) (b : Nat) (m : PM) (τ : PSt) (X : Nat) (pv : Value) (ps : List (List (Nat × List Nat))) (bd : Nat) (own' : Nat → Nat) (wr : World) : Prop where
  ws : WS own w b m τ own' wr
  blk : Blk wr X (EngC b pv bd) 127
  col : own' X = 8
  new : w.heap.size ≤ X
  ps : PathsC own' wr pv ps w.heap.size
theorem EC.ext {own own' own2 : Nat → Nat} {w wr w2 : World} {b : Nat} {m : PM} {τ : PSt} {X : Nat} {pv : Value} {ps : List (List (Nat × List Nat))} {bd : Nat} (h : EC own w b m τ X pv ps bd own' wr) (hS : St own2 w2 b m τ) (hE : Ext own' wr own2 w2) : EC own w b m τ X pv ps bd own2 w2 :=
  ⟨⟨hS, h.ws.ext.trans hE⟩, hE.blk8 h.col h.blk, (hE.same X h.blk.lt).trans h.col, h.new, h.ps.ext hE⟩
theorem EC.grow {own own' : Nat → Nat} {w wr w2 : World} {b : Nat} {m : PM} {τ : PSt} {X : Nat} {pv : Value} {ps : List (List (Nat × List Nat))} {bd : Nat} (h : EC own w b m τ X pv ps bd own' wr) (hg : wr.grownBy w2 none) : EC own w b m τ X pv ps bd own' w2 := by
  obtain ⟨a, k⟩ := h.ws.keep hg
  exact ⟨a, h.blk.of_eq (hg.block X h.blk.lt (by simp)), h.col, h.new, h.ps.keep k (fun z hz hc => ⟨hc, hg.block z hz (by simp)⟩)⟩
/-- another bound -/
theorem EC.bound {own own' : Nat → Nat} {w wr : World} {b : Nat} {m : PM} {τ : PSt} {X : Nat} {pv : Value} {ps : List (List (Nat × List Nat))} {bd : Nat} (h : EC own w b m τ X pv ps bd own' wr) (bd' : Nat) : EC own w b m τ X pv ps bd' own' (wr.setCell ⟨X, 2, none⟩ (.int .i64 (bd' : Nat))) := by
  have hg := grownBy_setCell wr ⟨X, 2, none⟩ (.int .i64 (bd' : Nat))
  have hne : ∀ k, own' k ≠ 8 → k < wr.heap.size → (wr.setCell ⟨X, 2, none⟩ (.int .i64 (bd' : Nat))).heap[k]? = wr.heap[k]? := fun k hk hlt => hg.block k hlt (fun e => by simp at e; rw [e, h.col] at hk; exact hk rfl)
  have hk7 : K7 own' wr own' (wr.setCell ⟨X, 2, none⟩ (.int .i64 (bd' : Nat))) := ⟨hg.size, fun k hk hc => ⟨hc, hne k (by omega) hk⟩⟩
  refine ⟨⟨h.ws.st.write8 (p := ⟨X, 2, none⟩) h.col _, h.ws.ext.setNew (p := ⟨X, 2, none⟩) h.new _⟩, ?_, h.col, h.new, h.ps.keep hk7 (fun z hz hc => ⟨hc, hne z (by omega) hz⟩)⟩
  have := h.blk.set 2 (.int .i64 (bd' : Nat))
  simpa [EngC] using this
/-- a path more -/
theorem EC.app {own own' : Nat → Nat} {w wr w6 : World} {b : Nat} {m : PM} {τ : PSt} {X : Nat} {pv : Value} {ps : List (List (Nat × List Nat))} {bd : Nat} (h : EC own w b m τ X pv ps bd own' wr) {vs : List Value} (h1 : vs.length = ps.length) (hcol : ∀ g, pv.ownBlock = some g → own' g = 9 ∧ w.heap.size ≤ g) (h4 : ∀ i, (h : i < vs.length) → (h' : i < ps.length) → StepC 7 own' wr vs[i] ps[i] 0)
    {sv : Value} {p : List (Nat × List Nat)} (hp : StepC 7 own' wr sv p 0) {o : Obj} {g2 cap2 : Nat} (hown : w6.ownsRow 0 128 1 (.slice (some ⟨g2, 0, none⟩) (ps.length + 1) cap2) (ps.length + 1) (vs ++ [sv])) (hgrow : (wr.alloc o).grownBy w6 pv.ownBlock) (hat : pv.ownBlock = some g2 ∨ g2 = wr.heap.size + 1) :
    EC own w b m τ X (.slice (some ⟨g2, 0, none⟩) (ps.length + 1) cap2) (ps ++ [p]) bd (put own' g2 9) (w6.setCell ⟨X, 1, none⟩ (.slice (some ⟨g2, 0, none⟩) (ps.length + 1) cap2)) ∧ K7 own' wr (put own' g2 9) (w6.setCell ⟨X, 1, none⟩ (.slice (some ⟨g2, 0, none⟩) (ps.length + 1) cap2)) ∧ Blk w6 X (EngC b pv bd) 127 := by
  have h2 := h.grow (World.grownBy_alloc wr o none)
  have hat' : pv.ownBlock = some g2 ∨ g2 = (wr.alloc o).heap.size := by rw [alloc_size]; exact hat
  obtain ⟨hW3, hK3, hgw⟩ := h2.ws.appC 9 (by decide) hcol hgrow hat'
  have hXg : X ≠ g2 := fun e => by
    rcases hat with e' | e'
    · have := (hcol g2 e').1; rw [← e, h.col] at this; cases this
    · have := h.blk.lt; omega
  have hc8 : put own' g2 9 X = 8 := (put_other _ _ _ _ hXg).trans h.col
  have hB3 : Blk w6 X (EngC b pv bd) 127 := h2.blk.of_eq (hgrow.block X h2.blk.lt (fun e => by have := (hcol X e.symm).1; rw [h.col] at this; cases this))
  have hgs := grownBy_setCell w6 ⟨X, 1, none⟩ (.slice (some ⟨g2, 0, none⟩) (ps.length + 1) cap2)
  have hne : ∀ k, put own' g2 9 k ≠ 8 → k < w6.heap.size → (w6.setCell ⟨X, 1, none⟩ (.slice (some ⟨g2, 0, none⟩) (ps.length + 1) cap2)).heap[k]? = w6.heap[k]? := fun k hk hlt => hgs.block k hlt (fun e => by simp at e; rw [e, hc8] at hk; exact hk rfl)
  have hK4 : K7 (put own' g2 9) w6 (put own' g2 9) (w6.setCell ⟨X, 1, none⟩ (.slice (some ⟨g2, 0, none⟩) (ps.length + 1) cap2)) := ⟨hgs.size, fun k hk hc => ⟨hc, hne k (by omega) hk⟩⟩
  have hK0 : K7 own' wr own' (wr.alloc o) := ⟨by simp, fun k hk hc => ⟨hc, Below.heap_alloc _ _ _ hk⟩⟩
  have hKK := (hK0.trans hK3).trans hK4
  refine ⟨⟨⟨hW3.st.write8 (p := ⟨X, 1, none⟩) hc8 _, hW3.ext.setNew (p := ⟨X, 1, none⟩) h.new _⟩, ?_, hc8, h.new, vs ++ [sv], by simp [h1], ?_, fun k e => by cases e; exact ⟨put_same _ _ _, hgw⟩, ?_⟩, hKK, hB3⟩
  · have := hB3.set 1 (.slice (some ⟨g2, 0, none⟩) (ps.length + 1) cap2)
    simpa [EngC] using this
  · have := row_of_blk hown (w' := w6.setCell ⟨X, 1, none⟩ (.slice (some ⟨g2, 0, none⟩) (ps.length + 1) cap2)) (fun g hg => hne g (by cases hg; rw [put_same]; decide) (hown.lt g hg).2)
    simpa using this
  · intro i x y
    by_cases hi : i < vs.length
    · have hi2 : i < ps.length := by omega
      rw [List.getElem_append_left hi, List.getElem_append_left hi2]
      exact (h4 i hi hi2).k7 hKK
    · simp only [List.length_append, List.length_cons, List.length_nil] at x y
      rw [List.getElem_append_right (by omega), List.getElem_append_right (by omega)]
      have e1 : i - vs.length = 0 := by omega
      have e2 : i - ps.length = 0 := by omega
      simp only [e1, e2, List.getElem_cons_zero]
      exact hp.k7 hKK
theorem Tryz.infoSteps : (Tryz.prog.info? 128).map (fun i => (i.zero, i.size, i.bytes)) = some (some (.slice none 0 0), 1, 24) := by kernel_rfl
theorem fold_neg {α : Type} (f : α → Int × Nat) (l : List α) : ∀ a : Int × Nat, a.1 = -1 ∨ 0 ≤ a.1 → (l.foldl (fun a r => upd a (f r)) a).1 = -1 ∨ 0 ≤ (l.foldl (fun a r => upd a (f r)) a).1 := by
  induction l with
  | nil => intro a h; exact h
  | cons x l ih =>
    intro a h
    rw [List.foldl_cons]
    refine ih _ ?_
    unfold upd
    split
    · rename_i hc; exact .inr hc.1
    · exact h
theorem PathsC.at {own : Nat → Nat} {w : World} {a : Option Addr} {c : Nat} {ps : List (List (Nat × List Nat))} {lo : Nat} (h : PathsC own w (.slice a ps.length c) ps lo) (h0 : 0 < ps.length) : ∃ g, a = some ⟨g, 0, none⟩ ∧ g < w.heap.size ∧ ∀ k, (hk : k < ps.length) → ∃ sa sc, w.cell? ⟨g, k, none⟩ = some (.slice sa ps[k].length sc) ∧ StepC 7 own w (.slice sa ps[k].length sc) ps[k] 0 := by
  obtain ⟨vs, h1, h2, h3, h4⟩ := h
  obtain ⟨a', c', e, hc⟩ := row_at2 h2
  simp only [Value.slice.injEq] at e
  obtain ⟨rfl, _, rfl⟩ := e
  obtain ⟨g, rfl, hlt, hcell⟩ := hc h0
  refine ⟨g, rfl, hlt, fun k hk => ?_⟩
  have hst := h4 k (by omega) hk
  obtain ⟨sa, sc, es⟩ := hst.form
  rw [es] at hst
  exact ⟨sa, sc, (hcell k (vs[k]'(by omega)) (by simp)).trans (by rw [es]), hst⟩
theorem sumCho_le (r : Nat) (hr : r ≤ 12) (m : Nat) : sumCho r m ≤ 4096 * m := by
  induction m with
  | zero => simp [sumCho]
  | succ m ih =>
    have h1 := cho_le r (m + 1)
    have h2 : 2 ^ r ≤ 2 ^ 12 := Nat.pow_le_pow_right (by decide) hr
    have h3 : (2 : Nat) ^ 12 = 4096 := by decide
    simp only [sumCho]; omega
theorem sum_take_succ (f : List (Nat × List Nat) → Nat) (l : List (List (Nat × List Nat))) (k : Nat) (h : k < l.length) : ((l.take (k + 1)).map f).sum = ((l.take k).map f).sum + f l[k] := by
  rw [List.take_succ_eq_append_getElem h, List.map_append, List.sum_append]; simp
theorem sum_le (f : List (Nat × List Nat) → Nat) (c : Nat) (l : List (List (Nat × List Nat))) (h : ∀ p ∈ l, f p ≤ c) (k : Nat) : ((l.take k).map f).sum ≤ c * k := by
  induction k with
  | zero => simp
  | succ k ih =>
    by_cases hk : k < l.length
    · rw [sum_take_succ f l k hk]
      have := h _ (List.getElem_mem hk)
      rw [Nat.mul_add]; omega
    · rw [List.take_of_length_le (by omega)] at ih ⊢
      rw [Nat.mul_add]; omega
/-- what Compile leaves: the place and the error, or an engine -/
def DocComp (w : World) (τ : PSt) (r : (Nat × List (List (Nat × List Nat))) ⊕ (Int × Nat)) (v : Value) (w' : World) : Prop := Below w.heap.size w w' ∧ match r with
  | .inr (p, e) => v = .tuple #[.pointer none, .int .i64 p, .int .i64 (e : Nat)]
  | .inl (bd, q) => ∃ X b pa pc, v = .tuple #[.pointer (some ⟨X, 0, none⟩), .int .i64 0, .int .i64 0] ∧ w.heap.size ≤ X ∧ Blk w' X (EngC b (.slice pa q.length pc) bd) 127 ∧ ∃ own m lo, St own w' b m τ ∧ own X = 8 ∧ PathsC own w' (.slice pa q.length pc) q lo
/-- what Compile wants of what was read -/
structure CH (τ : PSt) (out : List Nat) : Prop where
  pwf : PWF τ.parts
  outs : out.length ≤ 1000 ∧ ∀ j ∈ out, j < τ.parts.length
  nodes : τ.nodes.length ≤ 100000
  rate : 0 ≤ τ.rate ∧ τ.rate ≤ 12
  rows : ¬ (16 < (sizeF τ.parts τ.parts.length out).1 ∨ 8 < (sizeF τ.parts τ.parts.length out).2) → WB τ.parts τ.parts.length out ∧ (waysF τ.parts τ.parts.length out).length ≤ 16 ∧
    ∀ r ∈ waysF τ.parts τ.parts.length out, r.length ≤ 100000 ∧ (∀ j ∈ r, ∃ x, τ.parts[j]? = some x) ∧ (pathF τ.parts r).1.length ≤ 8 ∧ ∀ e ∈ (pathF τ.parts r).1, PartOK τ e.1 ∧ e.2.length ≤ 100000 ∧ ∀ g ∈ e.2, PartOK τ g
end Go.Proofs.YtddbjcfdmdbmkaaGreatDoor
