import Derived.Test.YtddbjcfdmdbmkaaGreatDoorB07
import Derived.Test.YtddbjcfdmdbmkaaGreatDoorB08
set_option linter.unusedVariables false
set_option linter.unusedSimpArgs false
/-
  joined: a factor, a test.
-/
namespace Go.Proofs.YtddbjcfdmdbmkaaGreatDoor
open Go.RowKit
attribute [local go_sem] undef_yield

set_option maxRecDepth 100000 in
set_option maxHeartbeats 800000 in
theorem j_bad_walk {σ : PSt} (which : Nat) (hw : 0 ≤ σ.wrong) : JC which σ 0 σ := by
  intro own w b m h
  have c2 := h.cell 2
  simp [PCells] at c2
  go_enter Tryz.func177, Tryz.ntmps177
  go_wp2_with fail
  go_ret
  exact ⟨rfl, own, m, h, Ext.refl _ _⟩

set_option maxRecDepth 100000 in
set_option maxHeartbeats 800000 in
theorem j_fac_walk {σ σ' : PSt} {r : Int} (hw : σ.wrong < 0) (hf : FC σ r σ') : JC 5 σ r σ' := by
  intro own w b m h
  have c2 := h.cell 2
  simp [PCells] at c2
  go_enter Tryz.func177, Tryz.ntmps177
  go_wp2_with fail
  refine (hf own w b m h).mono ?_
  rintro e w1 ⟨rfl, own1, m1, hS1, hE1⟩
  go_wp2_with fail
  go_ret
  exact ⟨rfl, own1, m1, hS1, hE1⟩

set_option maxRecDepth 100000 in
set_option maxHeartbeats 1600000 in
theorem j_test_bad_walk {σ σ1 : PSt} {a : Int} (hw : σ.wrong < 0) (ih : JC 3 σ a σ1) (hno : (σ1.now.isSign && decide (σ1.wrong < 0)) = false) : JC 2 σ 0 σ1.bad := by
  intro own w b m h
  have c2 := h.cell 2
  simp [PCells] at c2
  go_enter Tryz.func177, Tryz.ntmps177
  go_wp2_with fail
  refine (ih own w b m h).mono ?_
  rintro e w1 ⟨rfl, own1, m1, hS1, hE1⟩
  go_wp2_with fail
  refine (now_any hS1).mono ?_
  rintro e w' ⟨rfl, o, rfl⟩
  clear c2 ih
  have c2 := hS1.cell 2
  have c1 := hS1.cell 1
  simp [PCells] at c2 c1
  have f1 := hS1.blk.frozen 1
  have hbl := hS1.blk.lt
  have hbl' : b < w1.heap.size + 1 := by omega
  have hil := hS1.ilt
  have htl := hS1.tlen
  by_cases hk : σ1.now.kind = 2
  · have hk' : ((σ1.now.kind : Int) == 2) = true := by simp [hk]
    by_cases hwc : σ1.wrong < 0
    · have hno' : σ1.now.isSign = false := by simpa [hwc] using hno
      simp [RTok.isSign, hk] at hno'
      have q0 : (σ1.now.s.toList == [61]) = false := by simp [hno']
      have q1 : (σ1.now.s.toList == [33, 61]) = false := by simp [hno']
      have q2 : (σ1.now.s.toList == [60]) = false := by simp [hno']
      have q3 : (σ1.now.s.toList == [60, 61]) = false := by simp [hno']
      have q4 : (σ1.now.s.toList == [62]) = false := by simp [hno']
      have q5 : (σ1.now.s.toList == [62, 61]) = false := by simp [hno']
      have HK : Hid (σ1.now.kind = 2) := hk
      clear hno hno' hk
      go_wp2_with (go_at_call 97; refine (bad_any ((hS1.alloc _).alloc _).drew).mono ?_; rintro e w6 ⟨rfl, hS6, hE6⟩)
      go_ret
      exact ⟨rfl, own1, m1, hS6, (((hE1.alloc _).alloc _).drew).trans hE6⟩
    · have hwc' : 0 ≤ σ1.wrong := by omega
      have HK : Hid (σ1.now.kind = 2) := hk
      clear hno hk hwc
      go_wp2_with (go_at_call 97; refine (bad_any ((hS1.alloc _).alloc _).drew).mono ?_; rintro e w6 ⟨rfl, hS6, hE6⟩)
      all_goals
        go_ret
        exact ⟨rfl, own1, m1, hS6, (((hE1.alloc _).alloc _).drew).trans hE6⟩
  · have hk' : ((σ1.now.kind : Int) == 2) = false := by rw [beq_eq_false_iff_ne]; omega
    have HK : Hid (¬ σ1.now.kind = 2) := hk
    clear hno hk
    go_wp2_with (go_at_call 97; refine (bad_any ((hS1.alloc _).alloc _).drew).mono ?_; rintro e w6 ⟨rfl, hS6, hE6⟩)
    go_ret
    exact ⟨rfl, own1, m1, hS6, (((hE1.alloc _).alloc _).drew).trans hE6⟩

set_option maxRecDepth 100000 in
set_option maxHeartbeats 4000000 in
theorem j_test_walk {σ σ1 σ2 : PSt} {a b2 : Int} (hw : σ.wrong < 0) (ih : JC 3 σ a σ1) (hsg : σ1.now.isSign = true) (hwc : σ1.wrong < 0) (ih2 : JC 3 σ1.adv b2 σ2) (hG : Good σ1.toks) (hnl : σ2.nodes.length ≤ 100000) :
    JC 2 σ σ2.nodes.length (σ2.push ⟨σ1.now.s, a, b2, 0, mt, mt, 0⟩) := by
  intro own w b m h
  have c2 := h.cell 2
  simp [PCells] at c2
  go_enter Tryz.func177, Tryz.ntmps177
  go_wp2_with fail
  refine (ih own w b m h).mono ?_
  rintro e w1 ⟨rfl, own1, m1, hS1, hE1⟩
  go_wp2_with fail
  refine (now_any hS1).mono ?_
  rintro e w' ⟨rfl, o, rfl⟩
  clear c2 ih
  have c2 := hS1.cell 2
  have c1 := hS1.cell 1
  simp [PCells] at c2 c1
  have f1 := hS1.blk.frozen 1
  have hbl := hS1.blk.lt
  have hbl' : b < w1.heap.size + 1 := by omega
  have hil := hS1.ilt
  have htl := hS1.tlen
  have hk : σ1.now.kind = 2 := by simp [RTok.isSign] at hsg; exact hsg.1
  have HI5 : Hid (σ1.i + 1 < σ1.toks.length) := hG.inv.next hS1.ilt (by omega)
  have hk' : ((σ1.now.kind : Int) == 2) = true := by simp [hk]
  have hS0 := loc_st hS1 (w1.heap.size + 1) (by omega)
  have hoL : put own1 (w1.heap.size + 1) 7 (w1.heap.size + 1) = 7 := put_same _ _ _
  have hLb : ∀ o, Blk (((w1.setCell ⟨b, 1, none⟩ (.int .i64 (σ1.i + 1))).alloc o).alloc (.cells (TC σ1) 150)).drew (w1.heap.size + 1) (TC σ1) 150 := fun o => alloc_at _ _ _ (by simp)
  have hEb : ∀ o, Ext own1 w1 (put own1 (w1.heap.size + 1) 7) (((w1.setCell ⟨b, 1, none⟩ (.int .i64 (σ1.i + 1))).alloc o).alloc (.cells (TC σ1) 150)).drew := fun o =>
    ⟨fun k hk => put_other _ _ _ _ (by omega), ((((Ext.refl own1 w1).setCell (p := ⟨b, 1, none⟩) hS1.own7 _).alloc o).alloc _).drew.kept⟩
  have hSj : ∀ o, St (put own1 (w1.heap.size + 1) 7) (((w1.setCell ⟨b, 1, none⟩ (.int .i64 (σ1.i + 1))).alloc o).alloc (.cells (TC σ1) 150)).drew b m1 σ1.adv := fun o => (((hS0.store (σ' := σ1.adv) 1 _ (by simp [PCells, PSt.adv]) rfl rfl rfl rfl rfl rfl HI5.out hS1.wlo).alloc _).alloc _).drew
  unfold TC at hLb hEb hSj
  have hs : σ1.now.s.toList = [61] ∨ σ1.now.s.toList = [33, 61] ∨ σ1.now.s.toList = [60] ∨ σ1.now.s.toList = [60, 61] ∨ σ1.now.s.toList = [62] ∨ σ1.now.s.toList = [62, 61] := by simp [RTok.isSign, hk] at hsg; simpa [or_assoc] using hsg
  have HK : Hid (σ1.now.kind = 2) := hk
  clear hsg hk
  by_cases p0 : σ1.now.s.toList = [61]
  · have q0 : (σ1.now.s.toList == [61]) = true := by simp [p0]
    clear p0 hs
    go_wp2_with fail
    refine (ih2 _ _ _ _ (hSj o)).mono ?_
    rintro e w3 ⟨rfl, own3, m3, hS3, hE3⟩
    have k1 := (hE3.blk hoL (hLb o)).cell 1
    simp at k1
    clear c1 c2 f1
    go_wp2_with fail
    refine (node_any hS3 _ _ _ _ _ _ _ hnl).mono ?_
    rintro e w4 ⟨rfl, own4, m4, hS4, hE4⟩
    go_wp2_with fail
    go_ret
    exact ⟨rfl, own4, m4, hS4, ((hE1.trans (hEb o)).trans hE3).trans hE4⟩
  have q0 : (σ1.now.s.toList == [61]) = false := by simp [p0]
  by_cases p1 : σ1.now.s.toList = [33, 61]
  · have q1 : (σ1.now.s.toList == [33, 61]) = true := by simp [p1]
    clear p1 hs
    go_wp2_with fail
    refine (ih2 _ _ _ _ (hSj o)).mono ?_
    rintro e w3 ⟨rfl, own3, m3, hS3, hE3⟩
    have k1 := (hE3.blk hoL (hLb o)).cell 1
    simp at k1
    clear c1 c2 f1
    go_wp2_with fail
    refine (node_any hS3 _ _ _ _ _ _ _ hnl).mono ?_
    rintro e w4 ⟨rfl, own4, m4, hS4, hE4⟩
    go_wp2_with fail
    go_ret
    exact ⟨rfl, own4, m4, hS4, ((hE1.trans (hEb o)).trans hE3).trans hE4⟩
  have q1 : (σ1.now.s.toList == [33, 61]) = false := by simp [p1]
  by_cases p2 : σ1.now.s.toList = [60]
  · have q2 : (σ1.now.s.toList == [60]) = true := by simp [p2]
    clear p2 hs
    go_wp2_with fail
    refine (ih2 _ _ _ _ (hSj o)).mono ?_
    rintro e w3 ⟨rfl, own3, m3, hS3, hE3⟩
    have k1 := (hE3.blk hoL (hLb o)).cell 1
    simp at k1
    clear c1 c2 f1
    go_wp2_with fail
    refine (node_any hS3 _ _ _ _ _ _ _ hnl).mono ?_
    rintro e w4 ⟨rfl, own4, m4, hS4, hE4⟩
    go_wp2_with fail
    go_ret
    exact ⟨rfl, own4, m4, hS4, ((hE1.trans (hEb o)).trans hE3).trans hE4⟩
  have q2 : (σ1.now.s.toList == [60]) = false := by simp [p2]
  by_cases p3 : σ1.now.s.toList = [60, 61]
  · have q3 : (σ1.now.s.toList == [60, 61]) = true := by simp [p3]
    clear p3 hs
    go_wp2_with fail
    refine (ih2 _ _ _ _ (hSj o)).mono ?_
    rintro e w3 ⟨rfl, own3, m3, hS3, hE3⟩
    have k1 := (hE3.blk hoL (hLb o)).cell 1
    simp at k1
    clear c1 c2 f1
    go_wp2_with fail
    refine (node_any hS3 _ _ _ _ _ _ _ hnl).mono ?_
    rintro e w4 ⟨rfl, own4, m4, hS4, hE4⟩
    go_wp2_with fail
    go_ret
    exact ⟨rfl, own4, m4, hS4, ((hE1.trans (hEb o)).trans hE3).trans hE4⟩
  have q3 : (σ1.now.s.toList == [60, 61]) = false := by simp [p3]
  by_cases p4 : σ1.now.s.toList = [62]
  · have q4 : (σ1.now.s.toList == [62]) = true := by simp [p4]
    clear p4 hs
    go_wp2_with fail
    refine (ih2 _ _ _ _ (hSj o)).mono ?_
    rintro e w3 ⟨rfl, own3, m3, hS3, hE3⟩
    have k1 := (hE3.blk hoL (hLb o)).cell 1
    simp at k1
    clear c1 c2 f1
    go_wp2_with fail
    refine (node_any hS3 _ _ _ _ _ _ _ hnl).mono ?_
    rintro e w4 ⟨rfl, own4, m4, hS4, hE4⟩
    go_wp2_with fail
    go_ret
    exact ⟨rfl, own4, m4, hS4, ((hE1.trans (hEb o)).trans hE3).trans hE4⟩
  have q4 : (σ1.now.s.toList == [62]) = false := by simp [p4]
  by_cases p5 : σ1.now.s.toList = [62, 61]
  · have q5 : (σ1.now.s.toList == [62, 61]) = true := by simp [p5]
    clear p5 hs
    go_wp2_with fail
    refine (ih2 _ _ _ _ (hSj o)).mono ?_
    rintro e w3 ⟨rfl, own3, m3, hS3, hE3⟩
    have k1 := (hE3.blk hoL (hLb o)).cell 1
    simp at k1
    clear c1 c2 f1
    go_wp2_with fail
    refine (node_any hS3 _ _ _ _ _ _ _ hnl).mono ?_
    rintro e w4 ⟨rfl, own4, m4, hS4, hE4⟩
    go_wp2_with fail
    go_ret
    exact ⟨rfl, own4, m4, hS4, ((hE1.trans (hEb o)).trans hE3).trans hE4⟩
  have q5 : (σ1.now.s.toList == [62, 61]) = false := by simp [p5]
  simp [p0, p1, p2, p3, p4, p5] at hs
end Go.Proofs.YtddbjcfdmdbmkaaGreatDoor

/-
  joined and factor, whole: what the relation says is what the calls do.
-/
namespace Go.Proofs.YtddbjcfdmdbmkaaGreatDoor
open Go.RowKit

/-- What is to be shown of each. -/
def RW : RFn → PSt → Int → PSt → Prop
  | .j which, σ, r, σ' => JC which σ r σ'
  | .l which a, σ, r, σ' => ∃ n, LW which r σ' n a σ
  | .f, σ, r, σ' => FC σ r σ'

theorem R.walk {fn : RFn} {σ σ' : PSt} {r : Int} (h : R fn σ r σ') (hg : Good σ.toks) : RW fn σ r σ' := by
  induction h with
  | j_bad hw => exact j_bad_walk _ hw
  | j_fac hw _ ih => exact j_fac_walk hw (ih hg)
  | j_test_bad hw _ hno ih => exact j_test_bad_walk hw (ih hg) hno
  | j_test hw h1 hs hwc _ hn ih1 ih2 =>
    have e1 := h1.toks
    exact j_test_walk hw (ih1 hg) hs hwc (ih2 (by have h2 := hg; rw [← e1] at h2; exact h2)) (by rw [e1]; exact hg) hn
  | @j_loop which σ a r σ1 σ' hw hwh h1 _ ih1 ih2 =>
    have g1 : Good σ1.toks := by rw [h1.toks]; exact hg
    obtain ⟨n, hl⟩ := ih2 g1
    rcases hwh with rfl | rfl | rfl | rfl
    · exact j_loop_0 hw (ih1 hg) hl g1
    · exact j_loop_1 hw (ih1 hg) hl g1
    · exact j_loop_3 hw (ih1 hg) hl g1
    · exact j_loop_4 hw (ih1 hg) hl g1
  | l_end hno => exact ⟨0, .stop hno rfl rfl⟩
  | @l_more which a b r σ σ1 σ' hw ho h1 hn _ ih1 ih2 =>
    have e1 : σ1.toks = σ.toks := h1.toks
    have g1 : Good σ1.toks := by rw [e1]; exact hg
    obtain ⟨n, hl⟩ := ih2 g1
    exact ⟨n + 1, .more hw ho (ih1 hg) e1 hn hl⟩
  | f_num hw hk b1 b2 b3 b4 => exact f_num_walk hg hw hk b1 b2 b3 b4
  | f_neg hw hs hin _ hk hk2 hn ih => exact f_neg_walk hg hw hs hin (ih hg) hk hk2 hn
  | f_par hw hs hin h1 hk hk2 ih => exact f_par_walk hg (by rw [h1.toks]; exact hg) hw hs hin (ih hg) hk hk2
  | f_fld_bad hw hk h1 h2 hno hn =>
    intro own w b m h
    refine (f_fld_any hg hw hk h1 h2 own w b m h hn).mono ?_
    rintro e w' (⟨_, h⟩ | ⟨hy, _⟩)
    · exact h
    · rw [hno] at hy; cases hy
  | f_fld hw hk h1 h2 hf hfw hn =>
    intro own w b m h
    refine (f_fld_any hg hw hk h1 h2 own w b m h hn).mono ?_
    rintro e w' (⟨hy, _⟩ | ⟨_, h⟩)
    · rw [hf] at hy; simp [hfw] at hy
    · exact h
end Go.Proofs.YtddbjcfdmdbmkaaGreatDoor

/-
  sequence and part, whole.
-/
namespace Go.Proofs.YtddbjcfdmdbmkaaGreatDoor
open Go.RowKit

/-- What is to be shown of each. -/
def QW : QFn → PSt → PSt → Prop
  | .part r, σ, σ' => PartCd r σ σ'
  | .seq acc out, σ, σ' => ∃ n, SWd out σ' n acc σ
  | .brk acc out, σ, σ' => ∃ n, BW out σ' n acc σ

theorem Q.walk (hR : ∀ {σ σ' : PSt} {r : Int}, R (.j 0) σ r σ' → Good σ.toks → JC 0 σ r σ') {fn : QFn} {σ σ' : PSt} (h : Q fn σ σ') (hg : Good σ.toks) : QW fn σ σ' := by
  induction h with
  | seq_end hl h1 hno ih => exact ⟨0, .stop hl (ih hg) h1.toks hno rfl rfl⟩
  | seq_more hl h1 hy _ ih1 ih2 =>
    obtain ⟨n, hs⟩ := ih2 (by have h2 := hg; rw [← h1.toks] at h2; exact h2)
    exact ⟨n + 1, .more hl (ih1 hg) h1.toks hy hs⟩
  | brk_end hl h1 hno ih =>
    obtain ⟨n, hs⟩ := ih hg
    exact ⟨0, .stop hl (fun own w b m h => seq_walk hg hs own w b m h) h1.toks hno rfl rfl⟩
  | brk_more hl h1 hy _ ih1 ih2 =>
    obtain ⟨n, hs⟩ := ih1 hg
    obtain ⟨k, hb⟩ := ih2 (by have h2 := hg; rw [← h1.toks] at h2; exact h2)
    exact ⟨k + 1, .more hl (fun own w b m h => seq_walk hg hs own w b m h) h1.toks hy hb⟩
  | part_brk hp hin _ hk hk2 hb ih =>
    obtain ⟨n, hB⟩ := ih hg
    exact part_brk_walk hg hp hin hB hk hk2 hb
  | @part_plain σ hp hs1 hs2 hi hb =>
    cases hn : σ.isS bNot with
    | true =>
      have e1 : σ.hName = mt := by simp [PSt.hName, hn]
      have e2 : σ.tVal = 1 := by simp [PSt.tVal, PSt.hasT, hn]
      rw [e1, e2]; exact part_n_plain hg hp hn hs1 hi hb
    | false =>
      have e1 : σ.hName = σ.nameV := by simp [PSt.hName, hn]
      rw [e1]
      cases ht : σ.kSt.isS bTimes with
      | true =>
        have e2 : σ.tVal = σ.kSt.adv.numV := by simp [PSt.tVal, PSt.hasT, hn, ht]
        rw [e2]; exact part_t_plain hg hp hn hs1 hs2 ht hi hb
      | false =>
        have e2 : σ.tVal = 1 := by simp [PSt.tVal, PSt.hasT, hn, ht]
        rw [e2]; exact part_s_plain hg hp hn hs1 ht hi hb
  | @part_cond σ σ1 c hp hs1 hs2 hi hr hb =>
    have hj := hR hr (by show Good σ.tSt.toks; rw [tSt_toks]; exact hg)
    cases hn : σ.isS bNot with
    | true =>
      have e1 : σ.hName = mt := by simp [PSt.hName, hn]
      have e2 : σ.tVal = 1 := by simp [PSt.tVal, PSt.hasT, hn]
      rw [e1, e2]; exact part_n_cond hg hp hn hs1 hi hj hb
    | false =>
      have e1 : σ.hName = σ.nameV := by simp [PSt.hName, hn]
      rw [e1]
      cases ht : σ.kSt.isS bTimes with
      | true =>
        have e2 : σ.tVal = σ.kSt.adv.numV := by simp [PSt.tVal, PSt.hasT, hn, ht]
        rw [e2]; exact part_t_cond hg hp hn hs1 hs2 ht hi hj hb
      | false =>
        have e2 : σ.tVal = 1 := by simp [PSt.tVal, PSt.hasT, hn, ht]
        rw [e2]; exact part_s_cond hg hp hn hs1 ht hi hj hb
end Go.Proofs.YtddbjcfdmdbmkaaGreatDoor
