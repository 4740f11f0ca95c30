import Derived.Test.YtddbjcfdmdbmkaaGreatDoorB43
import Derived.Test.YtddbjcfdmdbmkaaGreatDoorB38
set_option linter.unusedVariables false
set_option linter.unusedSimpArgs false
namespace Go.Proofs.YtddbjcfdmdbmkaaGreatDoor
open Go.ChangeShapes Go.WideShapes Go.ChangeAt Go.WideElems Go.RowKit Go

theorem bulk_lits {H : Type} (zs : List Int) : Rows.uptoBulkAll (lits (H := H) .i64 zs) = zs.length := by
  induction zs with
  | nil => rfl
  | cons z zs ih =>
    show 1 + Rows.uptoBulkAll (lits (H := H) .i64 zs) = zs.length + 1
    rw [ih]; omega
theorem laid_out : laidOutB Tryz.prog = true := by kernel_rfl
theorem read_int : Tryz.prog.readableRec 3 = true := by kernel_rfl
theorem read_ints : Tryz.prog.readableRec 48 = true := by kernel_rfl
theorem size_int : 3 < Tryz.prog.types.size := of_decide_eq_true (by kernel_rfl)
theorem size_ints : 48 < Tryz.prog.types.size := of_decide_eq_true (by kernel_rfl)
theorem cells_int : Tryz.prog.cellsOf 3 = 1 := by kernel_rfl
set_option maxRecDepth 100000 in
theorem open_raw {H : Type} {enc : TypeId × Value → H} {W : World} {base : Nat} {v : Value} {d : DataW H} {p : List MemPlace} (hok : Value.okWide Tryz.prog W .any base 48 v) (h : DataW.Trod enc Tryz.prog W 0 (fun _ => true) true 48 v d p) (hlt : ∀ x ∈ p, x.block < W.heap.size) : ∃ zs, RawAt W v zs ∧ zs.length ≤ Rows.uptoBulk d := by
  obtain ⟨a0, len, cap, rfl⟩ := okWide_slice Tryz.underlying48 hok
  obtain ⟨fuel, hf⟩ := h
  rcases open_ints Tryz.underlying48 Tryz.underlying3 cells_int hf with ⟨hcs, hx⟩ | ⟨a, len', cap', zs, hcs, _, hl, hm, hz, hx, hcell, hwz⟩
  · simp [Value.cells] at hcs
    obtain ⟨rfl, rfl, rfl⟩ := hcs
    exact ⟨[], ⟨⟨none, 0, rfl, fun h => by simp at h⟩, fun z hz => by simp at hz⟩, by simp⟩
  · simp [Value.cells] at hcs
    obtain ⟨rfl, rfl, rfl⟩ := hcs
    simp only [Prod.mk.injEq] at hx
    obtain ⟨rfl, rfl⟩ := hx
    simp only [if_true] at hz
    have htl : (zs.take len).length = len := by rw [List.length_take]; omega
    refine ⟨zs.take len, ⟨⟨some a, cap, by rw [htl], fun h0 => ⟨a, rfl, ?_, fun k hk => ?_⟩⟩, fun z hz2 => in64_of (hwz z (List.mem_of_mem_take hz2))⟩, ?_⟩
    · obtain ⟨b, off, spot⟩ := a
      exact hlt (.cell b off) (MemPlace.mem_row.2 ⟨0, by omega, by simp⟩)
    · rw [htl] at hk
      rw [hcell k (by omega), List.getElem_take]
      simp [List.getD, show k < zs.length by omega]
    · show _ ≤ Rows.uptoBulkAll (lits (H := H) .i64 (zs.take len)) + Rows.uptoBulkAll (lits (H := H) .i64 (zs.drop len)) + 1
      rw [bulk_lits]
      omega
theorem trodAll_stays {H : Type} {enc : TypeId × Value → H} {W W' : World} (hb : Below W.heap.size W W') : ∀ (ts : List TypeId) (vs : List Value) (ds : List (DataW H)) (ps : List MemPlace), (∀ t ∈ ts, t = 3 ∨ t = 48) → DataW.TrodAll enc Tryz.prog W 0 (fun _ => true) true ts vs ds ps → (∀ x ∈ ps, x.block < W.heap.size) → DataW.TrodAll enc Tryz.prog W' 0 (fun b => decide (b < W.heap.size)) true ts vs ds ps := by
  intro ts
  induction ts with
  | nil =>
    intro vs ds ps _ h _
    obtain ⟨rfl, rfl, rfl⟩ := trodAll_nil h
    exact h
  | cons t ts ih =>
    intro vs ds ps ht h hlt
    obtain ⟨v, vs', d, ds', p, q, rfl, rfl, rfl, h1, h2⟩ := trodAll_cons h
    refine trodAll_cons_mk ?_ (ih vs' ds' q (fun x hx => ht x (List.mem_cons_of_mem _ hx)) h2 (fun x hx => hlt x (List.mem_append.2 (.inr hx))))
    have hlt' : ∀ x ∈ p, x.block < W.heap.size := fun x hx => hlt x (List.mem_append.2 (.inl hx))
    rcases ht t List.mem_cons_self with rfl | rfl
    · exact Below.trod laid_out read_int size_int h1 hb hlt'
    · exact Below.trod laid_out read_ints size_ints h1 hb hlt'
end Go.Proofs.YtddbjcfdmdbmkaaGreatDoor
