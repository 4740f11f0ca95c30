import Derived.Test.YtddbjcfdmdbmkaaGreatDoorB13
set_option linter.unusedVariables false
set_option linter.unusedSimpArgs false
namespace Go.Proofs.YtddbjcfdmdbmkaaGreatDoor
open Go.RowKit
attribute [local go_sem ↓] Go.wp_at_zero Go.wp_at_succ

set_option maxHeartbeats 400000 in
theorem leave_p {own : Nat → Nat} {w : World} {b : Nat} {m : RM} {σ : Rd} (h : RSt own w b m σ) (hd : 1 ≤ σ.deep) (hd2 : σ.deep ≤ 1000000) :
    Calls Tryz.prog 226 #[.pointer (some ⟨b, 0, none⟩)] w fun e w' => e = .returned (.tuple #[]) ∧ AfterR own w b σ.leave w' := by
  have hT := h.cell 1
  simp [RCells] at hT
  have hf := h.blk.frozen 1
  have HE : Hid (RSt own (w.setCell ⟨b, 1, none⟩ (.int .i64 ((σ.deep : Int) - 1))) b m σ.leave) := by
    refine h.store1 1 _ ?_ rfl rfl
    have : ((σ.deep : Int) - 1) = ((σ.deep - 1 : Nat) : Int) := by omega
    simp [RCells, Rd.leave, this]
  have HX : Hid (Ext own w own (w.setCell ⟨b, 1, none⟩ (.int .i64 ((σ.deep : Int) - 1)))) := (Ext.refl own w).setCell (p := ⟨b, 1, none⟩) h.own7 _
  go_enter Tryz.func226, Tryz.ntmps226
  go_wp2
  go_end0
  exact ⟨rfl, own, m, HE.out, HX.out⟩


set_option maxHeartbeats 400000 in
theorem mark_td {own : Nat → Nat} {w : World} {b : Nat} {m : RM} {σ : Rd} (h : RSt own w b m σ) (p : Nat) :
    Calls Tryz.prog 166 #[.pointer (some ⟨b, 2, none⟩), .int .i64 p] w fun e w' => e = .returned (.tuple #[]) ∧ AfterR own w b { σ with td := markPut σ.td p } w' := by
  have hT := h.cell 2
  have hT3 := h.cell 3
  simp [RCells] at hT hT3
  have hf := h.blk.frozen 2
  have hf3 := h.blk.frozen 3
  cases htd : σ.td with
  | none =>
    rw [htd] at hT hT3
    have HE : Hid (RSt own ((w.setCell ⟨b, 2, none⟩ (.bool true)).setCell ⟨b, 3, none⟩ (.int .i64 p)) b m { σ with td := some p }) := by
      have h1 : RSt own (w.setCell ⟨b, 2, none⟩ (.bool true)) b m { σ with td := some 0 } := h.store1 2 _ (by simp [RCells, htd]) rfl rfl
      exact h1.store1 3 _ (by simp [RCells]) rfl rfl
    have HX : Hid (Ext own w own ((w.setCell ⟨b, 2, none⟩ (.bool true)).setCell ⟨b, 3, none⟩ (.int .i64 p))) := ((Ext.refl own w).setCell (p := ⟨b, 2, none⟩) h.own7 _).setCell (p := ⟨b, 3, none⟩) h.own7 _
    clear htd
    simp at hT hT3
    go_enter Tryz.func166, Tryz.ntmps166
    go_wp2
    go_end0
    exact ⟨rfl, own, m, HE.out, HX.out⟩
  | some q =>
    rw [htd] at hT hT3
    have HE : Hid (RSt own w b m { σ with td := some q }) := by show RSt _ _ _ _ _; rw [← htd]; exact h
    clear htd
    simp at hT hT3
    go_enter Tryz.func166, Tryz.ntmps166
    go_wp2
    go_end0
    exact ⟨rfl, own, m, HE.out, Ext.refl _ _⟩
set_option maxHeartbeats 400000 in
theorem mark_bn {own : Nat → Nat} {w : World} {b : Nat} {m : RM} {σ : Rd} (h : RSt own w b m σ) (p : Nat) :
    Calls Tryz.prog 166 #[.pointer (some ⟨b, 4, none⟩), .int .i64 p] w fun e w' => e = .returned (.tuple #[]) ∧ AfterR own w b { σ with bn := markPut σ.bn p } w' := by
  have hT := h.cell 4
  have hT3 := h.cell 5
  simp [RCells] at hT hT3
  have hf := h.blk.frozen 4
  have hf3 := h.blk.frozen 5
  cases htd : σ.bn with
  | none =>
    rw [htd] at hT hT3
    have HE : Hid (RSt own ((w.setCell ⟨b, 4, none⟩ (.bool true)).setCell ⟨b, 5, none⟩ (.int .i64 p)) b m { σ with bn := some p }) := by
      have h1 : RSt own (w.setCell ⟨b, 4, none⟩ (.bool true)) b m { σ with bn := some 0 } := h.store1 4 _ (by simp [RCells, htd]) rfl rfl
      exact h1.store1 5 _ (by simp [RCells]) rfl rfl
    have HX : Hid (Ext own w own ((w.setCell ⟨b, 4, none⟩ (.bool true)).setCell ⟨b, 5, none⟩ (.int .i64 p))) := ((Ext.refl own w).setCell (p := ⟨b, 4, none⟩) h.own7 _).setCell (p := ⟨b, 5, none⟩) h.own7 _
    clear htd
    simp at hT hT3
    go_enter Tryz.func166, Tryz.ntmps166
    go_wp2
    go_end0
    exact ⟨rfl, own, m, HE.out, HX.out⟩
  | some q =>
    rw [htd] at hT hT3
    have HE : Hid (RSt own w b m { σ with bn := some q }) := by show RSt _ _ _ _ _; rw [← htd]; exact h
    clear htd
    simp at hT hT3
    go_enter Tryz.func166, Tryz.ntmps166
    go_wp2
    go_end0
    exact ⟨rfl, own, m, HE.out, Ext.refl _ _⟩
end Go.Proofs.YtddbjcfdmdbmkaaGreatDoor
