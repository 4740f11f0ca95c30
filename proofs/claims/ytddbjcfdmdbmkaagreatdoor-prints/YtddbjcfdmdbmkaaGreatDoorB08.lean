import Derived.Test.YtddbjcfdmdbmkaaGreatDoorB07
set_option linter.unusedVariables false
set_option linter.unusedSimpArgs false
/-
  joined: the loop of which = 0.
-/
namespace Go.Proofs.YtddbjcfdmdbmkaaGreatDoor
open Go.RowKit
attribute [local go_sem] undef_yield

set_option maxRecDepth 100000 in
set_option maxHeartbeats 4000000 in
theorem j_loop_0 {σ : PSt} {a0 r : Int} {σ1 σ' : PSt} {n : Nat} (hw : σ.wrong < 0) (ihJ : JC 1 σ a0 σ1) (hl : LW 0 r σ' n a0 σ1) (hg1 : Good σ1.toks) : JC 0 σ r σ' := by
  intro own w b m h
  have c2 := h.cell 2
  simp [PCells] at c2
  go_enter Tryz.func177, Tryz.ntmps177
  simp only [List.append_eq, List.cons_append, List.nil_append]
  go_wp2_with (go_at_call 177; refine (ihJ own w b m h).mono ?_; rintro e w1 ⟨rfl, own1, m1, hS1, hE1⟩)
  have hJ0 : JL 0 r σ' own w b n (.int .i64 a0) w1 := ⟨a0, σ1, own1, m1, hl, hg1, rfl, hS1, hE1⟩
  clear hl hS1 hE1 hg1 ihJ
  go_loopg [9] n (fun k a wr => JL 0 r σ' own w b k a wr)
  case atStart => exact hJ0
  case round =>
    obtain ⟨ac, σc, own', m', hLW, hG, rfl, hS, hE⟩ := hrel
    clear hJ0 h c2 hw
    have c2 := hS.cell 2
    have c1 := hS.cell 1
    simp [PCells] at c2 c1
    have f1 := hS.blk.frozen 1
    have hbl := hS.blk.lt
    have hbl' : b < wr.heap.size + 1 := by omega
    have hil := hS.ilt
    have htl := hS.tlen
    cases hLW with
    | stop hno hr hs =>
      subst hr hs
      by_cases hwc : σ'.wrong < 0
      · have hno' : σ'.now.isOp 0 = false := by simpa [hwc] using hno
        clear hno
        by_cases hk : σ'.now.kind = 0
        · have hk' : ((σ'.now.kind : Int) == 0) = true := by simp [hk]
          have HK : Hid (σ'.now.kind = 0) := hk
          have q0 : (σ'.now.s.toList == [111, 114]) = false := by simp [RTok.isOp, hk] at hno'; simp [hno']
          clear hno' hk
          go_wp2_with (go_at_call 96; refine (now_any hS).mono ?_; rintro e w' ⟨rfl, o, rfl⟩)
          go_ret
          exact ⟨rfl, own', m', ((hS.alloc _).alloc _).drew, ((hE.alloc _).alloc _).drew⟩
        · have hk' : ((σ'.now.kind : Int) == 0) = false := by rw [beq_eq_false_iff_ne]; omega
          have HK : Hid (¬ σ'.now.kind = 0) := hk
          clear hno' hk
          go_wp2_with (go_at_call 96; refine (now_any hS).mono ?_; rintro e w' ⟨rfl, o, rfl⟩)
          go_ret
          exact ⟨rfl, own', m', ((hS.alloc _).alloc _).drew, ((hE.alloc _).alloc _).drew⟩
      · have hwc' : 0 ≤ σ'.wrong := by omega
        clear hwc hno
        go_wp2_with fail
        go_ret
        exact ⟨rfl, own', m', hS, hE⟩
    | @more gn _ r2 _ σ2 hwc hop hJ hts hnl hLW =>
      have hk : σc.now.kind = 0 := by simp [RTok.isOp] at hop; exact hop.1
      have HI5 : Hid (σc.i + 1 < σc.toks.length) := hG.inv.next hS.ilt (by omega)
      have HG : Hid (Good (σ2.push ⟨σc.now.s, ac, r2, 0, mt, mt, 0⟩).toks) := by show Good σ2.toks; rw [hts]; exact hG
      have hk' : ((σc.now.kind : Int) == 0) = true := by simp [hk]
      have HK : Hid (σc.now.kind = 0) := hk
      have hS0 := loc_st hS (wr.heap.size + 1) (by omega)
      have hoL : put own' (wr.heap.size + 1) 7 (wr.heap.size + 1) = 7 := put_same _ _ _
      have hL0 := fun o => loc_blk wr o (TC σc) 150
      have hLb : ∀ o, Blk (((wr.setCell ⟨b, 1, none⟩ (.int .i64 (σc.i + 1))).alloc o).alloc (.cells (TC σc) 150)).drew (wr.heap.size + 1) (TC σc) 150 := fun o => alloc_at _ _ _ (by simp)
      have hEb : ∀ o, Ext own' wr (put own' (wr.heap.size + 1) 7) (((wr.setCell ⟨b, 1, none⟩ (.int .i64 (σc.i + 1))).alloc o).alloc (.cells (TC σc) 150)).drew := fun o =>
        ⟨fun k hk => put_other _ _ _ _ (by omega), ((((Ext.refl own' wr).setCell (p := ⟨b, 1, none⟩) hS.own7 _).alloc o).alloc _).drew.kept⟩
      have hSj : ∀ o, St (put own' (wr.heap.size + 1) 7) (((wr.setCell ⟨b, 1, none⟩ (.int .i64 (σc.i + 1))).alloc o).alloc (.cells (TC σc) 150)).drew b m' σc.adv := fun o => (((hS0.store (σ' := σc.adv) 1 _ (by simp [PCells, PSt.adv]) rfl rfl rfl rfl rfl rfl HI5.out hS.wlo).alloc _).alloc _).drew
      unfold TC at hLb hEb hSj
      clear hL0
      have q0 : (σc.now.s.toList == [111, 114]) = true := by simp [RTok.isOp, hk] at hop; simp [hop]
      clear hop hk hts
      go_wp2_with (go_at_call 96; refine (now_any hS).mono ?_; rintro e w' ⟨rfl, o, rfl⟩)
      refine (hJ _ _ _ _ (hSj o)).mono ?_
      rintro e w3 ⟨rfl, own3, m3, hS3, hE3⟩
      have k1 := (hE3.blk hoL (hLb o)).cell 1
      simp at k1
      clear c1 c2 f1
      go_wp2_with fail
      refine (node_any hS3 _ _ _ _ _ _ _ hnl).mono ?_
      rintro e w4 ⟨rfl, own4, m4, hS4, hE4⟩
      go_wp2_with fail
      go_roundg gn
      case measure => omega
      case rel => exact ⟨_, _, own4, m4, hLW, HG.out, rfl, hS4, ((hE.trans (hEb o)).trans hE3).trans hE4⟩
end Go.Proofs.YtddbjcfdmdbmkaaGreatDoor

/-
  joined: the loop of which = 1.
-/
namespace Go.Proofs.YtddbjcfdmdbmkaaGreatDoor
open Go.RowKit
attribute [local go_sem] undef_yield

set_option maxRecDepth 100000 in
set_option maxHeartbeats 4000000 in
theorem j_loop_1 {σ : PSt} {a0 r : Int} {σ1 σ' : PSt} {n : Nat} (hw : σ.wrong < 0) (ihJ : JC 2 σ a0 σ1) (hl : LW 1 r σ' n a0 σ1) (hg1 : Good σ1.toks) : JC 1 σ r σ' := by
  intro own w b m h
  have c2 := h.cell 2
  simp [PCells] at c2
  go_enter Tryz.func177, Tryz.ntmps177
  simp only [List.append_eq, List.cons_append, List.nil_append]
  go_wp2_with (go_at_call 177; refine (ihJ own w b m h).mono ?_; rintro e w1 ⟨rfl, own1, m1, hS1, hE1⟩)
  have hJ0 : JL 1 r σ' own w b n (.int .i64 a0) w1 := ⟨a0, σ1, own1, m1, hl, hg1, rfl, hS1, hE1⟩
  clear hl hS1 hE1 hg1 ihJ
  go_loopg [9] n (fun k a wr => JL 1 r σ' own w b k a wr)
  case atStart => exact hJ0
  case round =>
    obtain ⟨ac, σc, own', m', hLW, hG, rfl, hS, hE⟩ := hrel
    clear hJ0 h c2 hw
    have c2 := hS.cell 2
    have c1 := hS.cell 1
    simp [PCells] at c2 c1
    have f1 := hS.blk.frozen 1
    have hbl := hS.blk.lt
    have hbl' : b < wr.heap.size + 1 := by omega
    have hil := hS.ilt
    have htl := hS.tlen
    cases hLW with
    | stop hno hr hs =>
      subst hr hs
      by_cases hwc : σ'.wrong < 0
      · have hno' : σ'.now.isOp 1 = false := by simpa [hwc] using hno
        clear hno
        by_cases hk : σ'.now.kind = 0
        · have hk' : ((σ'.now.kind : Int) == 0) = true := by simp [hk]
          have HK : Hid (σ'.now.kind = 0) := hk
          have q0 : (σ'.now.s.toList == [97, 110, 100]) = false := by simp [RTok.isOp, hk] at hno'; simp [hno']
          clear hno' hk
          go_wp2_with (go_at_call 96; refine (now_any hS).mono ?_; rintro e w' ⟨rfl, o, rfl⟩)
          go_ret
          exact ⟨rfl, own', m', ((hS.alloc _).alloc _).drew, ((hE.alloc _).alloc _).drew⟩
        · have hk' : ((σ'.now.kind : Int) == 0) = false := by rw [beq_eq_false_iff_ne]; omega
          have HK : Hid (¬ σ'.now.kind = 0) := hk
          clear hno' hk
          go_wp2_with (go_at_call 96; refine (now_any hS).mono ?_; rintro e w' ⟨rfl, o, rfl⟩)
          go_ret
          exact ⟨rfl, own', m', ((hS.alloc _).alloc _).drew, ((hE.alloc _).alloc _).drew⟩
      · have hwc' : 0 ≤ σ'.wrong := by omega
        clear hwc hno
        go_wp2_with fail
        go_ret
        exact ⟨rfl, own', m', hS, hE⟩
    | @more gn _ r2 _ σ2 hwc hop hJ hts hnl hLW =>
      have hk : σc.now.kind = 0 := by simp [RTok.isOp] at hop; exact hop.1
      have HI5 : Hid (σc.i + 1 < σc.toks.length) := hG.inv.next hS.ilt (by omega)
      have HG : Hid (Good (σ2.push ⟨σc.now.s, ac, r2, 0, mt, mt, 0⟩).toks) := by show Good σ2.toks; rw [hts]; exact hG
      have hk' : ((σc.now.kind : Int) == 0) = true := by simp [hk]
      have HK : Hid (σc.now.kind = 0) := hk
      have hS0 := loc_st hS (wr.heap.size + 1) (by omega)
      have hoL : put own' (wr.heap.size + 1) 7 (wr.heap.size + 1) = 7 := put_same _ _ _
      have hL0 := fun o => loc_blk wr o (TC σc) 150
      have hLb : ∀ o, Blk (((wr.setCell ⟨b, 1, none⟩ (.int .i64 (σc.i + 1))).alloc o).alloc (.cells (TC σc) 150)).drew (wr.heap.size + 1) (TC σc) 150 := fun o => alloc_at _ _ _ (by simp)
      have hEb : ∀ o, Ext own' wr (put own' (wr.heap.size + 1) 7) (((wr.setCell ⟨b, 1, none⟩ (.int .i64 (σc.i + 1))).alloc o).alloc (.cells (TC σc) 150)).drew := fun o =>
        ⟨fun k hk => put_other _ _ _ _ (by omega), ((((Ext.refl own' wr).setCell (p := ⟨b, 1, none⟩) hS.own7 _).alloc o).alloc _).drew.kept⟩
      have hSj : ∀ o, St (put own' (wr.heap.size + 1) 7) (((wr.setCell ⟨b, 1, none⟩ (.int .i64 (σc.i + 1))).alloc o).alloc (.cells (TC σc) 150)).drew b m' σc.adv := fun o => (((hS0.store (σ' := σc.adv) 1 _ (by simp [PCells, PSt.adv]) rfl rfl rfl rfl rfl rfl HI5.out hS.wlo).alloc _).alloc _).drew
      unfold TC at hLb hEb hSj
      clear hL0
      have q0 : (σc.now.s.toList == [97, 110, 100]) = true := by simp [RTok.isOp, hk] at hop; simp [hop]
      clear hop hk hts
      go_wp2_with (go_at_call 96; refine (now_any hS).mono ?_; rintro e w' ⟨rfl, o, rfl⟩)
      refine (hJ _ _ _ _ (hSj o)).mono ?_
      rintro e w3 ⟨rfl, own3, m3, hS3, hE3⟩
      have k1 := (hE3.blk hoL (hLb o)).cell 1
      simp at k1
      clear c1 c2 f1
      go_wp2_with fail
      refine (node_any hS3 _ _ _ _ _ _ _ hnl).mono ?_
      rintro e w4 ⟨rfl, own4, m4, hS4, hE4⟩
      go_wp2_with fail
      go_roundg gn
      case measure => omega
      case rel => exact ⟨_, _, own4, m4, hLW, HG.out, rfl, hS4, ((hE.trans (hEb o)).trans hE3).trans hE4⟩
end Go.Proofs.YtddbjcfdmdbmkaaGreatDoor

/-
  joined: the loop of which = 3.
-/
namespace Go.Proofs.YtddbjcfdmdbmkaaGreatDoor
open Go.RowKit
attribute [local go_sem] undef_yield

set_option maxRecDepth 100000 in
set_option maxHeartbeats 4000000 in
theorem j_loop_3 {σ : PSt} {a0 r : Int} {σ1 σ' : PSt} {n : Nat} (hw : σ.wrong < 0) (ihJ : JC 4 σ a0 σ1) (hl : LW 3 r σ' n a0 σ1) (hg1 : Good σ1.toks) : JC 3 σ r σ' := by
  intro own w b m h
  have c2 := h.cell 2
  simp [PCells] at c2
  go_enter Tryz.func177, Tryz.ntmps177
  simp only [List.append_eq, List.cons_append, List.nil_append]
  go_wp2_with (go_at_call 177; refine (ihJ own w b m h).mono ?_; rintro e w1 ⟨rfl, own1, m1, hS1, hE1⟩)
  have hJ0 : JL 3 r σ' own w b n (.int .i64 a0) w1 := ⟨a0, σ1, own1, m1, hl, hg1, rfl, hS1, hE1⟩
  clear hl hS1 hE1 hg1 ihJ
  go_loopg [9] n (fun k a wr => JL 3 r σ' own w b k a wr)
  case atStart => exact hJ0
  case round =>
    obtain ⟨ac, σc, own', m', hLW, hG, rfl, hS, hE⟩ := hrel
    clear hJ0 h c2 hw
    have c2 := hS.cell 2
    have c1 := hS.cell 1
    simp [PCells] at c2 c1
    have f1 := hS.blk.frozen 1
    have hbl := hS.blk.lt
    have hbl' : b < wr.heap.size + 1 := by omega
    have hil := hS.ilt
    have htl := hS.tlen
    cases hLW with
    | stop hno hr hs =>
      subst hr hs
      by_cases hwc : σ'.wrong < 0
      · have hno' : σ'.now.isOp 3 = false := by simpa [hwc] using hno
        clear hno
        by_cases hk : σ'.now.kind = 2
        · have hk' : ((σ'.now.kind : Int) == 2) = true := by simp [hk]
          have HK : Hid (σ'.now.kind = 2) := hk
          have q0 : (σ'.now.s.toList == [43]) = false := by simp [RTok.isOp, hk] at hno'; simp [hno']
          have q1 : (σ'.now.s.toList == [45]) = false := by simp [RTok.isOp, hk] at hno'; simp [hno']
          clear hno' hk
          go_wp2_with (go_at_call 96; refine (now_any hS).mono ?_; rintro e w' ⟨rfl, o, rfl⟩)
          go_ret
          exact ⟨rfl, own', m', ((hS.alloc _).alloc _).drew, ((hE.alloc _).alloc _).drew⟩
        · have hk' : ((σ'.now.kind : Int) == 2) = false := by rw [beq_eq_false_iff_ne]; omega
          have HK : Hid (¬ σ'.now.kind = 2) := hk
          clear hno' hk
          go_wp2_with (go_at_call 96; refine (now_any hS).mono ?_; rintro e w' ⟨rfl, o, rfl⟩)
          go_ret
          exact ⟨rfl, own', m', ((hS.alloc _).alloc _).drew, ((hE.alloc _).alloc _).drew⟩
      · have hwc' : 0 ≤ σ'.wrong := by omega
        clear hwc hno
        go_wp2_with fail
        go_ret
        exact ⟨rfl, own', m', hS, hE⟩
    | @more gn _ r2 _ σ2 hwc hop hJ hts hnl hLW =>
      have hk : σc.now.kind = 2 := by simp [RTok.isOp] at hop; exact hop.1
      have HI5 : Hid (σc.i + 1 < σc.toks.length) := hG.inv.next hS.ilt (by omega)
      have HG : Hid (Good (σ2.push ⟨σc.now.s, ac, r2, 0, mt, mt, 0⟩).toks) := by show Good σ2.toks; rw [hts]; exact hG
      have hk' : ((σc.now.kind : Int) == 2) = true := by simp [hk]
      have HK : Hid (σc.now.kind = 2) := hk
      have hS0 := loc_st hS (wr.heap.size + 1) (by omega)
      have hoL : put own' (wr.heap.size + 1) 7 (wr.heap.size + 1) = 7 := put_same _ _ _
      have hL0 := fun o => loc_blk wr o (TC σc) 150
      have hLb : ∀ o, Blk (((wr.setCell ⟨b, 1, none⟩ (.int .i64 (σc.i + 1))).alloc o).alloc (.cells (TC σc) 150)).drew (wr.heap.size + 1) (TC σc) 150 := fun o => alloc_at _ _ _ (by simp)
      have hEb : ∀ o, Ext own' wr (put own' (wr.heap.size + 1) 7) (((wr.setCell ⟨b, 1, none⟩ (.int .i64 (σc.i + 1))).alloc o).alloc (.cells (TC σc) 150)).drew := fun o =>
        ⟨fun k hk => put_other _ _ _ _ (by omega), ((((Ext.refl own' wr).setCell (p := ⟨b, 1, none⟩) hS.own7 _).alloc o).alloc _).drew.kept⟩
      have hSj : ∀ o, St (put own' (wr.heap.size + 1) 7) (((wr.setCell ⟨b, 1, none⟩ (.int .i64 (σc.i + 1))).alloc o).alloc (.cells (TC σc) 150)).drew b m' σc.adv := fun o => (((hS0.store (σ' := σc.adv) 1 _ (by simp [PCells, PSt.adv]) rfl rfl rfl rfl rfl rfl HI5.out hS.wlo).alloc _).alloc _).drew
      unfold TC at hLb hEb hSj
      clear hL0
      have hs : σc.now.s.toList = [43] ∨ σc.now.s.toList = [45] := by simpa [RTok.isOp, hk] using hop
      clear hop hk hts
      by_cases p0 : σc.now.s.toList = [43]
      · have q0 : (σc.now.s.toList == [43]) = true := by simp [p0]
        clear p0 hs
        go_wp2_with (go_at_call 96; refine (now_any hS).mono ?_; rintro e w' ⟨rfl, o, rfl⟩)
        refine (hJ _ _ _ _ (hSj o)).mono ?_
        rintro e w3 ⟨rfl, own3, m3, hS3, hE3⟩
        have k1 := (hE3.blk hoL (hLb o)).cell 1
        simp at k1
        clear c1 c2 f1
        go_wp2_with fail
        refine (node_any hS3 _ _ _ _ _ _ _ hnl).mono ?_
        rintro e w4 ⟨rfl, own4, m4, hS4, hE4⟩
        go_wp2_with fail
        go_roundg gn
        case measure => omega
        case rel => exact ⟨_, _, own4, m4, hLW, HG.out, rfl, hS4, ((hE.trans (hEb o)).trans hE3).trans hE4⟩
      · have q0 : (σc.now.s.toList == [43]) = false := by simp [p0]
        have q1 : (σc.now.s.toList == [45]) = true := by rcases hs with h | h; exact absurd h p0; simp [h]
        clear p0 hs
        go_wp2_with (go_at_call 96; refine (now_any hS).mono ?_; rintro e w' ⟨rfl, o, rfl⟩)
        refine (hJ _ _ _ _ (hSj o)).mono ?_
        rintro e w3 ⟨rfl, own3, m3, hS3, hE3⟩
        have k1 := (hE3.blk hoL (hLb o)).cell 1
        simp at k1
        clear c1 c2 f1
        go_wp2_with fail
        refine (node_any hS3 _ _ _ _ _ _ _ hnl).mono ?_
        rintro e w4 ⟨rfl, own4, m4, hS4, hE4⟩
        go_wp2_with fail
        go_roundg gn
        case measure => omega
        case rel => exact ⟨_, _, own4, m4, hLW, HG.out, rfl, hS4, ((hE.trans (hEb o)).trans hE3).trans hE4⟩
end Go.Proofs.YtddbjcfdmdbmkaaGreatDoor

/-
  joined: the loop of which = 4.
-/
namespace Go.Proofs.YtddbjcfdmdbmkaaGreatDoor
open Go.RowKit
attribute [local go_sem] undef_yield

set_option maxRecDepth 100000 in
set_option maxHeartbeats 4000000 in
theorem j_loop_4 {σ : PSt} {a0 r : Int} {σ1 σ' : PSt} {n : Nat} (hw : σ.wrong < 0) (ihJ : JC 5 σ a0 σ1) (hl : LW 4 r σ' n a0 σ1) (hg1 : Good σ1.toks) : JC 4 σ r σ' := by
  intro own w b m h
  have c2 := h.cell 2
  simp [PCells] at c2
  go_enter Tryz.func177, Tryz.ntmps177
  simp only [List.append_eq, List.cons_append, List.nil_append]
  go_wp2_with (go_at_call 177; refine (ihJ own w b m h).mono ?_; rintro e w1 ⟨rfl, own1, m1, hS1, hE1⟩)
  have hJ0 : JL 4 r σ' own w b n (.int .i64 a0) w1 := ⟨a0, σ1, own1, m1, hl, hg1, rfl, hS1, hE1⟩
  clear hl hS1 hE1 hg1 ihJ
  go_loopg [9] n (fun k a wr => JL 4 r σ' own w b k a wr)
  case atStart => exact hJ0
  case round =>
    obtain ⟨ac, σc, own', m', hLW, hG, rfl, hS, hE⟩ := hrel
    clear hJ0 h c2 hw
    have c2 := hS.cell 2
    have c1 := hS.cell 1
    simp [PCells] at c2 c1
    have f1 := hS.blk.frozen 1
    have hbl := hS.blk.lt
    have hbl' : b < wr.heap.size + 1 := by omega
    have hil := hS.ilt
    have htl := hS.tlen
    cases hLW with
    | stop hno hr hs =>
      subst hr hs
      by_cases hwc : σ'.wrong < 0
      · have hno' : σ'.now.isOp 4 = false := by simpa [hwc] using hno
        clear hno
        by_cases hk : σ'.now.kind = 2
        · have hk' : ((σ'.now.kind : Int) == 2) = true := by simp [hk]
          have HK : Hid (σ'.now.kind = 2) := hk
          have q0 : (σ'.now.s.toList == [42]) = false := by simp [RTok.isOp, hk] at hno'; simp [hno']
          have q1 : (σ'.now.s.toList == [47]) = false := by simp [RTok.isOp, hk] at hno'; simp [hno']
          clear hno' hk
          go_wp2_with (go_at_call 96; refine (now_any hS).mono ?_; rintro e w' ⟨rfl, o, rfl⟩)
          go_ret
          exact ⟨rfl, own', m', ((hS.alloc _).alloc _).drew, ((hE.alloc _).alloc _).drew⟩
        · have hk' : ((σ'.now.kind : Int) == 2) = false := by rw [beq_eq_false_iff_ne]; omega
          have HK : Hid (¬ σ'.now.kind = 2) := hk
          clear hno' hk
          go_wp2_with (go_at_call 96; refine (now_any hS).mono ?_; rintro e w' ⟨rfl, o, rfl⟩)
          go_ret
          exact ⟨rfl, own', m', ((hS.alloc _).alloc _).drew, ((hE.alloc _).alloc _).drew⟩
      · have hwc' : 0 ≤ σ'.wrong := by omega
        clear hwc hno
        go_wp2_with fail
        go_ret
        exact ⟨rfl, own', m', hS, hE⟩
    | @more gn _ r2 _ σ2 hwc hop hJ hts hnl hLW =>
      have hk : σc.now.kind = 2 := by simp [RTok.isOp] at hop; exact hop.1
      have HI5 : Hid (σc.i + 1 < σc.toks.length) := hG.inv.next hS.ilt (by omega)
      have HG : Hid (Good (σ2.push ⟨σc.now.s, ac, r2, 0, mt, mt, 0⟩).toks) := by show Good σ2.toks; rw [hts]; exact hG
      have hk' : ((σc.now.kind : Int) == 2) = true := by simp [hk]
      have HK : Hid (σc.now.kind = 2) := hk
      have hS0 := loc_st hS (wr.heap.size + 1) (by omega)
      have hoL : put own' (wr.heap.size + 1) 7 (wr.heap.size + 1) = 7 := put_same _ _ _
      have hL0 := fun o => loc_blk wr o (TC σc) 150
      have hLb : ∀ o, Blk (((wr.setCell ⟨b, 1, none⟩ (.int .i64 (σc.i + 1))).alloc o).alloc (.cells (TC σc) 150)).drew (wr.heap.size + 1) (TC σc) 150 := fun o => alloc_at _ _ _ (by simp)
      have hEb : ∀ o, Ext own' wr (put own' (wr.heap.size + 1) 7) (((wr.setCell ⟨b, 1, none⟩ (.int .i64 (σc.i + 1))).alloc o).alloc (.cells (TC σc) 150)).drew := fun o =>
        ⟨fun k hk => put_other _ _ _ _ (by omega), ((((Ext.refl own' wr).setCell (p := ⟨b, 1, none⟩) hS.own7 _).alloc o).alloc _).drew.kept⟩
      have hSj : ∀ o, St (put own' (wr.heap.size + 1) 7) (((wr.setCell ⟨b, 1, none⟩ (.int .i64 (σc.i + 1))).alloc o).alloc (.cells (TC σc) 150)).drew b m' σc.adv := fun o => (((hS0.store (σ' := σc.adv) 1 _ (by simp [PCells, PSt.adv]) rfl rfl rfl rfl rfl rfl HI5.out hS.wlo).alloc _).alloc _).drew
      unfold TC at hLb hEb hSj
      clear hL0
      have hs : σc.now.s.toList = [42] ∨ σc.now.s.toList = [47] := by simpa [RTok.isOp, hk] using hop
      clear hop hk hts
      by_cases p0 : σc.now.s.toList = [42]
      · have q0 : (σc.now.s.toList == [42]) = true := by simp [p0]
        clear p0 hs
        go_wp2_with (go_at_call 96; refine (now_any hS).mono ?_; rintro e w' ⟨rfl, o, rfl⟩)
        refine (hJ _ _ _ _ (hSj o)).mono ?_
        rintro e w3 ⟨rfl, own3, m3, hS3, hE3⟩
        have k1 := (hE3.blk hoL (hLb o)).cell 1
        simp at k1
        clear c1 c2 f1
        go_wp2_with fail
        refine (node_any hS3 _ _ _ _ _ _ _ hnl).mono ?_
        rintro e w4 ⟨rfl, own4, m4, hS4, hE4⟩
        go_wp2_with fail
        go_roundg gn
        case measure => omega
        case rel => exact ⟨_, _, own4, m4, hLW, HG.out, rfl, hS4, ((hE.trans (hEb o)).trans hE3).trans hE4⟩
      · have q0 : (σc.now.s.toList == [42]) = false := by simp [p0]
        have q1 : (σc.now.s.toList == [47]) = true := by rcases hs with h | h; exact absurd h p0; simp [h]
        clear p0 hs
        go_wp2_with (go_at_call 96; refine (now_any hS).mono ?_; rintro e w' ⟨rfl, o, rfl⟩)
        refine (hJ _ _ _ _ (hSj o)).mono ?_
        rintro e w3 ⟨rfl, own3, m3, hS3, hE3⟩
        have k1 := (hE3.blk hoL (hLb o)).cell 1
        simp at k1
        clear c1 c2 f1
        go_wp2_with fail
        refine (node_any hS3 _ _ _ _ _ _ _ hnl).mono ?_
        rintro e w4 ⟨rfl, own4, m4, hS4, hE4⟩
        go_wp2_with fail
        go_roundg gn
        case measure => omega
        case rel => exact ⟨_, _, own4, m4, hLW, HG.out, rfl, hS4, ((hE.trans (hEb o)).trans hE3).trans hE4⟩
end Go.Proofs.YtddbjcfdmdbmkaaGreatDoor
