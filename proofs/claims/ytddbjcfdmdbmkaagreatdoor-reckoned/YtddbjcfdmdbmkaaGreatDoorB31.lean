import Derived.Test.YtddbjcfdmdbmkaaGreatDoorB30
set_option linter.unusedVariables false
set_option linter.unusedSimpArgs false
/-
  The program's Look, where no event was fed.
-/
namespace Go.Proofs.YtddbjcfdmdbmkaaGreatDoor
open Go.RowKit

theorem below_set4 (W : World) (n : Nat) (a b c d : Value) : Below n W ((((W.setCell ⟨n, 0, none⟩ a).setCell ⟨n, 1, none⟩ b).setCell ⟨n, 2, none⟩ c).setCell ⟨n, 3, none⟩ d).drew :=
  ⟨rfl, rfl, rfl, by simp [World.setCell], fun k hk => by
    refine Eq.trans (Below.heap_setCell _ _ _ _ (Nat.ne_of_lt hk)) (Eq.trans (Below.heap_setCell _ _ _ _ (Nat.ne_of_lt hk)) (Eq.trans (Below.heap_setCell _ _ _ _ (Nat.ne_of_lt hk)) (Below.heap_setCell _ _ _ _ (Nat.ne_of_lt hk))))⟩

set_option maxRecDepth 100000 in
set_option maxHeartbeats 1600000 in
theorem look_p {w : World} {E X : Nat} {bd : Nat} {win rate : Int} {pv : Value} (hE : Blk w E (EngineC bd X) 73) (hX : Blk w X (WatchC win rate pv) 110) :
    Calls Tryz.prog 16 #[.pointer (some ⟨E, 0, none⟩)] w fun e w' => e = .returned (.agg #[.int .i64 0, .int .i64 0, .int .i64 (bd : Nat), .int .i64 0]) ∧ Below w.heap.size w w' := by
  have hE1 := hE.alloc (.cells #[.int .i64 0, .int .i64 0, .int .i64 0, .int .i64 0] 27)
  have hX1 := hX.alloc (.cells #[.int .i64 0, .int .i64 0, .int .i64 0, .int .i64 0] 27)
  have hN := Blk.new w #[.int .i64 0, .int .i64 0, .int .i64 0, .int .i64 0] 27
  have hbel : Below w.heap.size w (w.alloc (.cells #[.int .i64 0, .int .i64 0, .int .i64 0, .int .i64 0] 27)) := (Below.refl _ w).alloc (Nat.le_refl _) _
  go_enter Tryz.func16, Tryz.ntmps16
  go_upto_region 1 with fail
  have hb2 : ∀ W', Below w.heap.size (w.alloc (.cells #[.int .i64 0, .int .i64 0, .int .i64 0, .int .i64 0] 27)) W' → Below w.heap.size w W' := fun W' h => hbel.trans h
  generalize w.alloc (.cells #[.int .i64 0, .int .i64 0, .int .i64 0, .int .i64 0] 27) = W at *
  have e0 := hE1.cell 0; have e1 := hE1.cell 1; have e2 := hE1.cell 2; have l1 := hE1.lt; have l2 := hX1.lt; have l3 := hN.lt
  simp [EngineC] at e0 e1 e2
  have v0 := hN.cell 0; have v1 := hN.cell 1; have v2 := hN.cell 2; have v3 := hN.cell 3; have f0 := hN.frozen 0; have f1 := hN.frozen 1; have f2 := hN.frozen 2; have f3 := hN.frozen 3
  simp at v0 v1 v2 v3
  have hev := fun (w' : World) (h : Blk w' X (WatchC win rate pv) 110) => events_p (w := w') h
  have hru := fun (w' : World) (h : Blk w' X (WatchC win rate pv) 110) => runs_p (w := w') h
  have hne : ¬ E = w.heap.size := Nat.ne_of_lt hE.lt
  have hne' : ¬ w.heap.size = E := fun h => hne h.symm
  go_region_held3 (fun w' => w'.cell? ⟨E, 2, none⟩ = some (.pointer (some ⟨X, 0, none⟩)) ∧ w'.cell? ⟨E, 0, none⟩ = some (.int .i64 bd) ∧ w'.cell? ⟨E, 1, none⟩ = some (.int .i64 0)) (simp [*, World.cell?_setCell_other])
   (first
    | (go_at_call 38; refine (hru _ hX1.drew).mono ?_; rintro e w5 ⟨rfl, rfl⟩)
    | (go_at_call 37; refine (hev _ hX1.drew).mono ?_; rintro e w5 ⟨rfl, rfl⟩))
  all_goals
    go_wp2
    clear hev hru hE1 hX1 hE hX e0 e1 e2 hne hne'
    rename_i hheld
    clear hheld
    have hB : Below w.heap.size W ((((W.setCell ⟨w.heap.size, 0, none⟩ (.int .i64 0)).setCell ⟨w.heap.size, 1, none⟩ (.int .i64 0)).setCell ⟨w.heap.size, 2, none⟩ (.int .i64 (bd : Nat))).setCell ⟨w.heap.size, 3, none⟩ (.int .i64 0)).drew :=
      below_set4 _ _ _ _ _ _
    have g0 : ((((W.setCell ⟨w.heap.size, 0, none⟩ (.int .i64 0)).setCell ⟨w.heap.size, 1, none⟩ (.int .i64 0)).setCell ⟨w.heap.size, 2, none⟩ (.int .i64 (bd : Nat))).setCell ⟨w.heap.size, 3, none⟩ (.int .i64 0)).drew.cell? ⟨w.heap.size, 0, none⟩ = some (.int .i64 0) := by simp [World.cell?_setCell_other, v0, v1, v2, v3, go_sem]
    have g1 : ((((W.setCell ⟨w.heap.size, 0, none⟩ (.int .i64 0)).setCell ⟨w.heap.size, 1, none⟩ (.int .i64 0)).setCell ⟨w.heap.size, 2, none⟩ (.int .i64 (bd : Nat))).setCell ⟨w.heap.size, 3, none⟩ (.int .i64 0)).drew.cell? ⟨w.heap.size, 1, none⟩ = some (.int .i64 0) := by simp [World.cell?_setCell_other, v0, v1, v2, v3, go_sem]
    have g2 : ((((W.setCell ⟨w.heap.size, 0, none⟩ (.int .i64 0)).setCell ⟨w.heap.size, 1, none⟩ (.int .i64 0)).setCell ⟨w.heap.size, 2, none⟩ (.int .i64 (bd : Nat))).setCell ⟨w.heap.size, 3, none⟩ (.int .i64 0)).drew.cell? ⟨w.heap.size, 2, none⟩ = some (.int .i64 (bd : Nat)) := by simp [World.cell?_setCell_other, v0, v1, v2, v3, go_sem]
    have g3 : ((((W.setCell ⟨w.heap.size, 0, none⟩ (.int .i64 0)).setCell ⟨w.heap.size, 1, none⟩ (.int .i64 0)).setCell ⟨w.heap.size, 2, none⟩ (.int .i64 (bd : Nat))).setCell ⟨w.heap.size, 3, none⟩ (.int .i64 0)).drew.cell? ⟨w.heap.size, 3, none⟩ = some (.int .i64 0) := by simp [World.cell?_setCell_other, v0, v1, v2, v3, go_sem]
    generalize ((((W.setCell ⟨w.heap.size, 0, none⟩ (.int .i64 0)).setCell ⟨w.heap.size, 1, none⟩ (.int .i64 0)).setCell ⟨w.heap.size, 2, none⟩ (.int .i64 (bd : Nat))).setCell ⟨w.heap.size, 3, none⟩ (.int .i64 0)).drew = W4 at *
    refine bodyPost_ret (v := .agg #[.int .i64 0, .int .i64 0, .int .i64 (bd : Nat), .int .i64 0]) (by simp [results, Tryz.results16, go_sem, g0, g1, g2, g3]) rfl ⟨rfl, hb2 _ hB⟩
end Go.Proofs.YtddbjcfdmdbmkaaGreatDoor
