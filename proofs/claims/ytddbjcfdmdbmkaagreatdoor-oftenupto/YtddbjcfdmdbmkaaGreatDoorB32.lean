import Derived.Test.YtddbjcfdmdbmkaaGreatDoorB31
import Derived.Test.YtddbjcfdmdbmkaaGreatDoorB03
set_option linter.unusedVariables false
set_option linter.unusedSimpArgs false
namespace Go.Proofs.YtddbjcfdmdbmkaaGreatDoor
open Go.RowKit

theorem below_set4 (W : World) (n : Nat) (a b c d : Value) : Below n W ((((W.setCell ⟨n, 0, none⟩ a).setCell ⟨n, 1, none⟩ b).setCell ⟨n, 2, none⟩ c).setCell ⟨n, 3, none⟩ d).drew :=
  ⟨rfl, rfl, rfl, by simp [World.setCell], fun k hk => by
    refine Eq.trans (Below.heap_setCell _ _ _ _ (Nat.ne_of_lt hk)) (Eq.trans (Below.heap_setCell _ _ _ _ (Nat.ne_of_lt hk)) (Eq.trans (Below.heap_setCell _ _ _ _ (Nat.ne_of_lt hk)) (Below.heap_setCell _ _ _ _ (Nat.ne_of_lt hk))))⟩

set_option maxRecDepth 100000 in
set_option maxHeartbeats 1600000 in
theorem look_p {w : World} {E X : Nat} {bd : Nat} {win rate : Int} {pv : Value} (hE : Blk w E (EngineC bd X) 73) (hX : Blk w X (WatchC win rate pv) 110) :
    Calls Tryz.prog 16 #[.pointer (some ⟨E, 0, none⟩)] w fun e w' => e = .returned (.agg #[.int .i64 0, .int .i64 0, .int .i64 (bd : Nat), .int .i64 0]) ∧ Below w.heap.size w w' := by
  have hE1 := hE.alloc (.cells #[.int .i64 0, .int .i64 0, .int .i64 0, .int .i64 0] 27)
  have hX1 := hX.alloc (.cells #[.int .i64 0, .int .i64 0, .int .i64 0, .int .i64 0] 27)
  have hN := Blk.new w #[.int .i64 0, .int .i64 0, .int .i64 0, .int .i64 0] 27
  have hbel : Below w.heap.size w (w.alloc (.cells #[.int .i64 0, .int .i64 0, .int .i64 0, .int .i64 0] 27)) := (Below.refl _ w).alloc (Nat.le_refl _) _
  go_enter Tryz.func16, Tryz.ntmps16
  go_upto_region 1 with fail
  have hb2 : ∀ W', Below w.heap.size (w.alloc (.cells #[.int .i64 0, .int .i64 0, .int .i64 0, .int .i64 0] 27)) W' → Below w.heap.size w W' := fun W' h => hbel.trans h
  generalize w.alloc (.cells #[.int .i64 0, .int .i64 0, .int .i64 0, .int .i64 0] 27) = W at *
  have e0 := hE1.cell 0; have e1 := hE1.cell 1; have e2 := hE1.cell 2; have l1 := hE1.lt; have l2 := hX1.lt; have l3 := hN.lt
  simp [EngineC] at e0 e1 e2
  have v0 := hN.cell 0; have v1 := hN.cell 1; have v2 := hN.cell 2; have v3 := hN.cell 3; have f0 := hN.frozen 0; have f1 := hN.frozen 1; have f2 := hN.frozen 2; have f3 := hN.frozen 3
  simp at v0 v1 v2 v3
  have hev := fun (w' : World) (h : Blk w' X (WatchC win rate pv) 110) => events_p (w := w') h
  have hru := fun (w' : World) (h : Blk w' X (WatchC win rate pv) 110) => runs_p (w := w') h
  have hne : ¬ E = w.heap.size := Nat.ne_of_lt hE.lt
  have hne' : ¬ w.heap.size = E := fun h => hne h.symm
  go_region_held3 (fun w' => w'.cell? ⟨E, 2, none⟩ = some (.pointer (some ⟨X, 0, none⟩)) ∧ w'.cell? ⟨E, 0, none⟩ = some (.int .i64 bd) ∧ w'.cell? ⟨E, 1, none⟩ = some (.int .i64 0)) (simp [*, World.cell?_setCell_other])
   (first
    | (go_at_call 38; refine (hru _ hX1.drew).mono ?_; rintro e w5 ⟨rfl, rfl⟩)
    | (go_at_call 37; refine (hev _ hX1.drew).mono ?_; rintro e w5 ⟨rfl, rfl⟩))
  all_goals
    go_wp2
    clear hev hru hE1 hX1 hE hX e0 e1 e2 hne hne'
    rename_i hheld
    clear hheld
    have hB : Below w.heap.size W ((((W.setCell ⟨w.heap.size, 0, none⟩ (.int .i64 0)).setCell ⟨w.heap.size, 1, none⟩ (.int .i64 0)).setCell ⟨w.heap.size, 2, none⟩ (.int .i64 (bd : Nat))).setCell ⟨w.heap.size, 3, none⟩ (.int .i64 0)).drew :=
      below_set4 _ _ _ _ _ _
    have g0 : ((((W.setCell ⟨w.heap.size, 0, none⟩ (.int .i64 0)).setCell ⟨w.heap.size, 1, none⟩ (.int .i64 0)).setCell ⟨w.heap.size, 2, none⟩ (.int .i64 (bd : Nat))).setCell ⟨w.heap.size, 3, none⟩ (.int .i64 0)).drew.cell? ⟨w.heap.size, 0, none⟩ = some (.int .i64 0) := by simp [World.cell?_setCell_other, v0, v1, v2, v3, go_sem]
    have g1 : ((((W.setCell ⟨w.heap.size, 0, none⟩ (.int .i64 0)).setCell ⟨w.heap.size, 1, none⟩ (.int .i64 0)).setCell ⟨w.heap.size, 2, none⟩ (.int .i64 (bd : Nat))).setCell ⟨w.heap.size, 3, none⟩ (.int .i64 0)).drew.cell? ⟨w.heap.size, 1, none⟩ = some (.int .i64 0) := by simp [World.cell?_setCell_other, v0, v1, v2, v3, go_sem]
    have g2 : ((((W.setCell ⟨w.heap.size, 0, none⟩ (.int .i64 0)).setCell ⟨w.heap.size, 1, none⟩ (.int .i64 0)).setCell ⟨w.heap.size, 2, none⟩ (.int .i64 (bd : Nat))).setCell ⟨w.heap.size, 3, none⟩ (.int .i64 0)).drew.cell? ⟨w.heap.size, 2, none⟩ = some (.int .i64 (bd : Nat)) := by simp [World.cell?_setCell_other, v0, v1, v2, v3, go_sem]
    have g3 : ((((W.setCell ⟨w.heap.size, 0, none⟩ (.int .i64 0)).setCell ⟨w.heap.size, 1, none⟩ (.int .i64 0)).setCell ⟨w.heap.size, 2, none⟩ (.int .i64 (bd : Nat))).setCell ⟨w.heap.size, 3, none⟩ (.int .i64 0)).drew.cell? ⟨w.heap.size, 3, none⟩ = some (.int .i64 0) := by simp [World.cell?_setCell_other, v0, v1, v2, v3, go_sem]
    generalize ((((W.setCell ⟨w.heap.size, 0, none⟩ (.int .i64 0)).setCell ⟨w.heap.size, 1, none⟩ (.int .i64 0)).setCell ⟨w.heap.size, 2, none⟩ (.int .i64 (bd : Nat))).setCell ⟨w.heap.size, 3, none⟩ (.int .i64 0)).drew = W4 at *
    refine bodyPost_ret (v := .agg #[.int .i64 0, .int .i64 0, .int .i64 (bd : Nat), .int .i64 0]) (by simp [results, Tryz.results16, go_sem, g0, g1, g2, g3]) rfl ⟨rfl, hb2 _ hB⟩
end Go.Proofs.YtddbjcfdmdbmkaaGreatDoor

namespace Go.Proofs.YtddbjcfdmdbmkaaGreatDoor
open Go.RowKit

def pickP (c : Int) (n : Nat) : Nat := ((if c < 0 then -(c + 1) else c) % (n : Int)).toNat
theorem pick_lt (c : Int) {n : Nat} (h : 0 < n) : pickP c n < n := by
  unfold pickP
  have h1 := Int.emod_nonneg (if c < 0 then -(c + 1) else c) (show (n : Int) ≠ 0 by omega)
  have h2 := Int.emod_lt_of_pos (if c < 0 then -(c + 1) else c) (show 0 < (n : Int) by omega)
  omega
theorem pick_int (c : Int) {n : Nat} (h : 0 < n) : ((pickP c n : Nat) : Int) = (if c < 0 then -(c + 1) else c) % (n : Int) := by
  unfold pickP
  have h1 := Int.emod_nonneg (if c < 0 then -(c + 1) else c) (show (n : Int) ≠ 0 by omega)
  omega
set_option maxHeartbeats 800000 in
theorem pick_p (c : Int) (n : Nat) (hc : In64 c) (hn : 0 < n) (hn2 : n ≤ 4611686018427387904) (w : World) : Calls Tryz.prog 21 #[.int .i64 c, .int .i64 n] w fun e w' => e = .returned (.int .i64 (pickP c n : Nat)) ∧ w' = w := by
  rw [pick_int c hn]
  unfold In64 at hc
  have hn0 : ¬ (n : Int) = 0 := by omega
  by_cases h : c < 0
  · rw [if_pos h]
    go_enter Tryz.func21, Tryz.ntmps21
    go_wp2
    go_ret
    refine ⟨?_, rfl⟩
    show Ending.returned (.int .i64 (-(c + 1).tmod (n : Int))) = _
    rw [← Int.neg_tmod, Int.tmod_eq_emod_of_nonneg (by omega)]
  · rw [if_neg h]
    go_enter Tryz.func21, Tryz.ntmps21
    go_wp2
    go_ret
    exact ⟨rfl, rfl⟩
end Go.Proofs.YtddbjcfdmdbmkaaGreatDoor

namespace Go.Proofs.YtddbjcfdmdbmkaaGreatDoor
open Go.RowKit

set_option maxRecDepth 100000 in
set_option maxHeartbeats 1600000 in
theorem evK_p (c time : Int) (hc : In64 c) (h0 : 0 ≤ time) (h1 : time ≤ 4000000000000) (w : World) :
    Calls Tryz.prog 34 #[.int .i64 c, .int .i64 time] w fun x w' => x = .returned (evVal (evM (pickP c 1099511627776) time)) ∧ Below w.heap.size w w' := by
  have p1 := fun w1 => pick_p c 1099511627776 hc (by omega) (by omega) w1
  have k1 := pick_lt c (show 0 < 1099511627776 by omega)
  generalize pickP c 1099511627776 = n at *
  simp only [Int.cast_ofNat_Int] at p1
  unfold evVal evM
  have hN := Blk.new w #[.int .i64 0, .int .i64 0, .int .i64 0, .int .i64 0, .int .i64 0] 44
  have hl := hN.lt
  go_enter Tryz.func34, Tryz.ntmps34
  go_upto_region 2 with (go_at_call 21; refine (p1 _).mono ?_; rintro x1 w1 ⟨rfl, e⟩; rw [e]; clear e w1)
  go_wp2
  have hM := Blk.new w #[.int .i64 (time + (n : Int) % 4), .int .i64 ((n : Int) / 4 % 3), .int .i64 ((n : Int) / 12 % 5 - 1), .int .i64 ((n : Int) / 60 % 4 - 1), .int .i64 ((n : Int) / 240 % 4)] 44
  have hbel : Below w.heap.size w (w.alloc (.cells #[.int .i64 (time + (n : Int) % 4), .int .i64 ((n : Int) / 4 % 3), .int .i64 ((n : Int) / 12 % 5 - 1), .int .i64 ((n : Int) / 60 % 4 - 1), .int .i64 ((n : Int) / 240 % 4)] 44)) := (Below.refl _ w).alloc (Nat.le_refl _) _
  have v0 := hM.cell 0; have v1 := hM.cell 1; have v2 := hM.cell 2; have v3 := hM.cell 3; have v4 := hM.cell 4; have l3 := hM.lt
  simp only [List.getElem?_toArray, List.getElem?_cons_zero, List.getElem?_cons_succ] at v0 v1 v2 v3 v4
  generalize w.alloc (.cells #[.int .i64 (time + (n : Int) % 4), .int .i64 ((n : Int) / 4 % 3), .int .i64 ((n : Int) / 12 % 5 - 1), .int .i64 ((n : Int) / 60 % 4 - 1), .int .i64 ((n : Int) / 240 % 4)] 44) = W at *
  refine bodyPost_ret (v := .agg #[.int .i64 (time + (n : Int) % 4), .int .i64 ((n : Int) / 4 % 3), .int .i64 ((n : Int) / 12 % 5 - 1), .int .i64 ((n : Int) / 60 % 4 - 1), .int .i64 ((n : Int) / 240 % 4)]) (by simp [results, Tryz.results34, go_sem, v0, v1, v2, v3, v4]) rfl ⟨by simp, hbel⟩
end Go.Proofs.YtddbjcfdmdbmkaaGreatDoor
