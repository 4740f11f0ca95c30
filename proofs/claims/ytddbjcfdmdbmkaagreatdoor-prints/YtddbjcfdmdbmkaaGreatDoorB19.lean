import Derived.Test.YtddbjcfdmdbmkaaGreatDoorB18
set_option linter.unusedVariables false
set_option linter.unusedSimpArgs false
/-
  The program's reader: take, expect, with texts that are laid at the call.
-/
namespace Go.Proofs.YtddbjcfdmdbmkaaGreatDoor
open Go.RowKit

/-- what is asked for is not empty -/
theorem kw_ne {σ : Rd} {ts : List ByteArray} (hts : ∀ t ∈ ts, t ∈ KW) : ((σ.whichV ts).toList == []) = !σ.has ts := by
  unfold Rd.whichV
  cases hh : σ.has ts with
  | false => simp [toList_data]
  | true =>
    simp only [Bool.not_true, if_true]
    simp only [Rd.has, List.any_eq_true] at hh
    obtain ⟨t, ht, e⟩ := hh
    have e' : t.toList = σ.now.text.toList := by simpa using e
    rw [← e']
    have := List.all_eq_true.1 kw_some t (hts t ht)
    simpa [toList_data] using this

set_option maxHeartbeats 400000 in
theorem take_p {own : Nat → Nat} {w : World} {b : Nat} {m : RM} {σ : Rd} (h : RSt own w b m σ) (hG : SGood σ.ahead) {ts : List ByteArray} (hts : ∀ t ∈ ts, t ∈ KW) (hl : ts.length ≤ 10) {g n : Nat} (hn : n = ts.length) {ty : TypeId} (ht : Blk w g (textRow ts) ty) (hg : own g = 8) :
    Calls Tryz.prog 168 #[.pointer (some ⟨b, 0, none⟩), .slice (some ⟨g, 0, none⟩) n n] w fun e w' => e = .returned (.bool (σ.has ts)) ∧ AfterR own w b (σ.which ts) w' := by
  subst hn
  have HB : Hid (((σ.whichV ts).toList == []) = !σ.has ts) := kw_ne hts
  go_enter Tryz.func168, Tryz.ntmps168
  go_wp2_with (go_at_call 162; refine (which_p h hG hts hl rfl ht hg).mono ?_; rintro e w' ⟨rfl, ha⟩)
  go_ret
  refine ⟨ret_bool ?_, ha⟩
  have e : ∀ l : List UInt8, l.isEmpty = (l == []) := fun l => by cases l <;> rfl
  rw [e, HB.out]; simp

set_option maxHeartbeats 400000 in
theorem expect_p {own : Nat → Nat} {w : World} {b : Nat} {m : RM} {σ : Rd} (h : RSt own w b m σ) (hG : SGood σ.ahead) {ts : List ByteArray} (hts : ∀ t ∈ ts, t ∈ KW) (hl : ts.length ≤ 10) {g n : Nat} (hn : n = ts.length) {ty : TypeId} (ht : Blk w g (textRow ts) ty) (hg : own g = 8) :
    Calls Tryz.prog 130 #[.pointer (some ⟨b, 0, none⟩), .slice (some ⟨g, 0, none⟩) n n] w fun e w' => e = .returned (.string (σ.whichV ts)) ∧ AfterR own w b (σ.expect ts) w' := by
  subst hn
  have hk := kw_ne (σ := σ) hts
  cases hh : σ.has ts with
  | true =>
    rw [hh] at hk
    simp only [Bool.not_true] at hk
    have HX : Hid (σ.expect ts = σ.which ts) := by show _ = _; simp [Rd.expect, Rd.which, hh]
    clear hh
    go_enter Tryz.func130, Tryz.ntmps130
    go_wp2_with (go_at_call 162; refine (which_p h hG hts hl rfl ht hg).mono ?_; rintro e w' ⟨rfl, ha⟩)
    go_ret
    rw [HX.out]
    exact ⟨rfl, ha⟩
  | false =>
    rw [hh] at hk
    simp only [Bool.not_false] at hk
    have HX : Hid (σ.expect ts = σ.fail ∧ σ.which ts = σ) := ⟨by simp [Rd.expect, hh], by simp [Rd.which, hh]⟩
    clear hh
    go_enter Tryz.func130, Tryz.ntmps130
    go_wp2_with (first
      | (go_at_call 162; refine (which_p h hG hts hl rfl ht hg).mono ?_; rintro e w' ⟨rfl, own1, m1, hs1, he1⟩; rw [HX.out.2] at hs1)
      | (go_at_call 163; refine (fail_p hs1 hG.pos).mono ?_; rintro e w2 ⟨rfl, own2, m2, hs2, he2⟩))
    go_ret
    rw [HX.out.1]
    exact ⟨rfl, own2, m2, hs2, he1.trans he2⟩

/-- a call with texts that are laid for it -/
theorem RSt.texts {own : Nat → Nat} {w : World} {b : Nat} {m : RM} {σ : Rd} (h : RSt own w b m σ) (o : Obj) : RSt (put own w.heap.size 8) (w.alloc o) b m σ ∧ Ext own w (put own w.heap.size 8) (w.alloc o) :=
  ⟨(h.owner (fun k hk => put_other _ _ _ _ (by omega))).alloc o, (Ext.refl own w).allocAs o 8⟩
theorem take_new {own : Nat → Nat} {w : World} {b : Nat} {m : RM} {σ : Rd} (h : RSt own w b m σ) (hG : SGood σ.ahead) (ts : List ByteArray) (hts : ∀ t ∈ ts, t ∈ KW) (hl : ts.length ≤ 10) (n : Nat) (hn : n = ts.length) :
    Calls Tryz.prog 168 #[.pointer (some ⟨b, 0, none⟩), .slice (some ⟨w.heap.size, 0, none⟩) n n] (w.alloc (.cells (textRow ts) 9)) fun e w' => e = .returned (.bool (σ.has ts)) ∧ AfterR own w b (σ.which ts) w' := by
  obtain ⟨h1, e1⟩ := h.texts (.cells (textRow ts) 9)
  refine (take_p h1 hG hts hl hn (Blk.new w _ _) (put_same _ _ _)).mono ?_
  rintro e w' ⟨rfl, own2, m2, hs2, he2⟩
  exact ⟨rfl, own2, m2, hs2, e1.trans he2⟩
theorem expect_new {own : Nat → Nat} {w : World} {b : Nat} {m : RM} {σ : Rd} (h : RSt own w b m σ) (hG : SGood σ.ahead) (ts : List ByteArray) (hts : ∀ t ∈ ts, t ∈ KW) (hl : ts.length ≤ 10) (n : Nat) (hn : n = ts.length) :
    Calls Tryz.prog 130 #[.pointer (some ⟨b, 0, none⟩), .slice (some ⟨w.heap.size, 0, none⟩) n n] (w.alloc (.cells (textRow ts) 9)) fun e w' => e = .returned (.string (σ.whichV ts)) ∧ AfterR own w b (σ.expect ts) w' := by
  obtain ⟨h1, e1⟩ := h.texts (.cells (textRow ts) 9)
  refine (expect_p h1 hG hts hl hn (Blk.new w _ _) (put_same _ _ _)).mono ?_
  rintro e w' ⟨rfl, own2, m2, hs2, he2⟩
  exact ⟨rfl, own2, m2, hs2, e1.trans he2⟩
end Go.Proofs.YtddbjcfdmdbmkaaGreatDoor

/-
  The program's reader: marks, depth, number, put.
-/
namespace Go.Proofs.YtddbjcfdmdbmkaaGreatDoor
open Go.RowKit
attribute [local go_sem ↓] Go.wp_at_zero Go.wp_at_succ

set_option maxHeartbeats 400000 in
theorem leave_p {own : Nat → Nat} {w : World} {b : Nat} {m : RM} {σ : Rd} (h : RSt own w b m σ) (hd : 1 ≤ σ.deep) (hd2 : σ.deep ≤ 1000000) :
    Calls Tryz.prog 226 #[.pointer (some ⟨b, 0, none⟩)] w fun e w' => e = .returned (.tuple #[]) ∧ AfterR own w b σ.leave w' := by
  have hT := h.cell 1
  simp [RCells] at hT
  have hf := h.blk.frozen 1
  have HE : Hid (RSt own (w.setCell ⟨b, 1, none⟩ (.int .i64 ((σ.deep : Int) - 1))) b m σ.leave) := by
    refine h.store1 1 _ ?_ rfl rfl
    have : ((σ.deep : Int) - 1) = ((σ.deep - 1 : Nat) : Int) := by omega
    simp [RCells, Rd.leave, this]
  have HX : Hid (Ext own w own (w.setCell ⟨b, 1, none⟩ (.int .i64 ((σ.deep : Int) - 1)))) := (Ext.refl own w).setCell (p := ⟨b, 1, none⟩) h.own7 _
  go_enter Tryz.func226, Tryz.ntmps226
  go_wp2
  go_end0
  exact ⟨rfl, own, m, HE.out, HX.out⟩


set_option maxHeartbeats 400000 in
theorem mark_td {own : Nat → Nat} {w : World} {b : Nat} {m : RM} {σ : Rd} (h : RSt own w b m σ) (p : Nat) :
    Calls Tryz.prog 166 #[.pointer (some ⟨b, 2, none⟩), .int .i64 p] w fun e w' => e = .returned (.tuple #[]) ∧ AfterR own w b { σ with td := markPut σ.td p } w' := by
  have hT := h.cell 2
  have hT3 := h.cell 3
  simp [RCells] at hT hT3
  have hf := h.blk.frozen 2
  have hf3 := h.blk.frozen 3
  cases htd : σ.td with
  | none =>
    rw [htd] at hT hT3
    have HE : Hid (RSt own ((w.setCell ⟨b, 2, none⟩ (.bool true)).setCell ⟨b, 3, none⟩ (.int .i64 p)) b m { σ with td := some p }) := by
      have h1 : RSt own (w.setCell ⟨b, 2, none⟩ (.bool true)) b m { σ with td := some 0 } := h.store1 2 _ (by simp [RCells, htd]) rfl rfl
      exact h1.store1 3 _ (by simp [RCells]) rfl rfl
    have HX : Hid (Ext own w own ((w.setCell ⟨b, 2, none⟩ (.bool true)).setCell ⟨b, 3, none⟩ (.int .i64 p))) := ((Ext.refl own w).setCell (p := ⟨b, 2, none⟩) h.own7 _).setCell (p := ⟨b, 3, none⟩) h.own7 _
    clear htd
    simp at hT hT3
    go_enter Tryz.func166, Tryz.ntmps166
    go_wp2
    go_end0
    exact ⟨rfl, own, m, HE.out, HX.out⟩
  | some q =>
    rw [htd] at hT hT3
    have HE : Hid (RSt own w b m { σ with td := some q }) := by show RSt _ _ _ _ _; rw [← htd]; exact h
    clear htd
    simp at hT hT3
    go_enter Tryz.func166, Tryz.ntmps166
    go_wp2
    go_end0
    exact ⟨rfl, own, m, HE.out, Ext.refl _ _⟩
set_option maxHeartbeats 400000 in
theorem mark_bn {own : Nat → Nat} {w : World} {b : Nat} {m : RM} {σ : Rd} (h : RSt own w b m σ) (p : Nat) :
    Calls Tryz.prog 166 #[.pointer (some ⟨b, 4, none⟩), .int .i64 p] w fun e w' => e = .returned (.tuple #[]) ∧ AfterR own w b { σ with bn := markPut σ.bn p } w' := by
  have hT := h.cell 4
  have hT3 := h.cell 5
  simp [RCells] at hT hT3
  have hf := h.blk.frozen 4
  have hf3 := h.blk.frozen 5
  cases htd : σ.bn with
  | none =>
    rw [htd] at hT hT3
    have HE : Hid (RSt own ((w.setCell ⟨b, 4, none⟩ (.bool true)).setCell ⟨b, 5, none⟩ (.int .i64 p)) b m { σ with bn := some p }) := by
      have h1 : RSt own (w.setCell ⟨b, 4, none⟩ (.bool true)) b m { σ with bn := some 0 } := h.store1 4 _ (by simp [RCells, htd]) rfl rfl
      exact h1.store1 5 _ (by simp [RCells]) rfl rfl
    have HX : Hid (Ext own w own ((w.setCell ⟨b, 4, none⟩ (.bool true)).setCell ⟨b, 5, none⟩ (.int .i64 p))) := ((Ext.refl own w).setCell (p := ⟨b, 4, none⟩) h.own7 _).setCell (p := ⟨b, 5, none⟩) h.own7 _
    clear htd
    simp at hT hT3
    go_enter Tryz.func166, Tryz.ntmps166
    go_wp2
    go_end0
    exact ⟨rfl, own, m, HE.out, HX.out⟩
  | some q =>
    rw [htd] at hT hT3
    have HE : Hid (RSt own w b m { σ with bn := some q }) := by show RSt _ _ _ _ _; rw [← htd]; exact h
    clear htd
    simp at hT hT3
    go_enter Tryz.func166, Tryz.ntmps166
    go_wp2
    go_end0
    exact ⟨rfl, own, m, HE.out, Ext.refl _ _⟩
end Go.Proofs.YtddbjcfdmdbmkaaGreatDoor
