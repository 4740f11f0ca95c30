import Derived.Test.YtddbjcfdmdbmkaaGreatDoorB12
set_option linter.unusedVariables false
set_option linter.unusedSimpArgs false
/-
  Both readers, plain: tests and factors.
-/
namespace Go.Proofs.YtddbjcfdmdbmkaaGreatDoor
open Go.RowKit

theorem Rel.pos {σ : Rd} {τ : PSt} (h : Rel σ τ) : 0 < σ.ahead.length := by
  rcases h.alt with h | h
  · exact h.2.1.len.1
  · rw [h.2]; simp
theorem GoR.same {σ σ' : Rd} {τ τ' : PSt} (g : GoR σ τ σ' τ') (e : τ'.nodes = τ.nodes) : τ'.nodes.length + 2 * τ.i ≤ τ.nodes.length + 2 * τ'.i := by rw [e]; have := g.i; omega
theorem test_rel {f : Rd → Rd} {n : Nat} (hd : DeadK f) (H : JR 5 false f n) : JR 2 true (testP f) n := by
  intro σ τ h hn
  by_cases hw : τ.wrong < 0
  · have S := sum_rel hd H
    obtain ⟨a, τ1, hR, C⟩ := S σ τ h hn
    unfold testP
    generalize hσ1 : sumP f σ = σ1 at *
    by_cases hh : σ1.has sTest = true
    · have hw1 := has_live C.rel kw_test hh
      obtain ⟨hm, hs, h2⟩ := has_mem C.rel hw1 kw_test hh
      obtain ⟨g, hpl, hlen⟩ := rel_skip C.rel hw1 h2
      have e1 : σ1.expect sTest = σ1.skip := by unfold Rd.expect; rw [if_pos hh]
      have e2 : σ1.whichV sTest = σ1.now.text := by unfold Rd.whichV; rw [if_pos hh]
      rw [e1, e2]
      have hc1 := C.len
      obtain ⟨b, τ2, hR2, D⟩ := S σ1.skip τ1.adv g.rel (by omega)
      have hcnt := D.cnt
      have hi1 : τ1.adv.i = τ1.i + 1 := rfl
      have hi2 : τ1.adv.nodes = τ1.nodes := rfl
      rw [hi1, hi2] at hcnt
      have hci := D.i
      rw [hi1] at hci
      have hC := C.cnt
      have hCi := C.i
      have hv := C.rel.inv.nodes
      have hpush := rel_push D.rel ⟨τ1.now.s, a, b, 0, mt, mt, 0⟩ ⟨σ1.now.text, 0, ⟨#[]⟩, 0⟩ (by omega)
      have hb := D.rel.inv
      refine ⟨_, _, .j_test hw hR (by rw [← has_test C.rel hw1]; exact hh) hw1 hR2 (by have := hb.nodes; have := hb.ilt; have := hb.toks; omega), ((C.toGoR.trans g).trans D.toGoR).trans hpush, ?_, ?_⟩
      · simp only [PSt.push, List.length_append, List.length_cons, List.length_nil]; omega
      · intro hw2
        have hw3 : τ2.wrong < 0 := hw2
        obtain ⟨la, ta, ka, ha1, ha2, ha3, ha4, ha5⟩ := C.ops hw1
        obtain ⟨lb, tb, kb, hb1, hb2, hb3, hb4, hb5⟩ := D.ops hw3
        subst ha1; subst hb1
        refine ⟨la ++ lb ++ [⟨σ1.now.text, 0, ⟨#[]⟩, 0⟩], .bin σ1.now.text ta tb, τ2.nodes.length, rfl, ?_, ?_, .tst hm ha4 hb4, ?_⟩
        · show ((sumP f σ1.skip).ops.map _) = _
          rw [hb2, show σ1.skip.ops = σ1.ops from rfl, ha2, opt_app, opt_app, List.append_assoc]
        · rw [hs]
          exact rep_new (List.mem_append_right _ hm) (ha3.mono (g.nodes.trans D.nodes)) hb3 0
        · exact (ha5.app (hb5.down (Nat.le_of_lt hpl))).app (OpsIn.one mt_list (Nat.le_refl _))
    · have e1 : σ1.expect sTest = σ1.fail := by unfold Rd.expect; rw [if_neg hh]
      rw [e1]
      obtain ⟨g, h0⟩ := rel_fail C.rel
      refine ⟨0, τ1.bad, .j_test_bad hw hR ?_, (C.toGoR.trans g).trans (rel_dead g.rel h0 ?_), ?_, fun h => by omega⟩
      · by_cases hw1 : τ1.wrong < 0
        · rw [← has_test C.rel hw1]; simp [hh]
        · simp [hw1]
      · exact dead_sum hd _ _ (g.rel.dead h0)
      · have e : τ1.bad.nodes = τ1.nodes := by unfold PSt.bad; split <;> rfl
        have e2 : τ1.bad.i = τ1.i := by unfold PSt.bad; split <;> rfl
        rw [e, e2]; exact C.cnt
  · exact jr_dead (dead_test hd) h (by omega)
theorem both_rel {f : Rd → Rd} {n : Nat} (hd : DeadK f) (H : JR 5 false f n) : JR 1 true (bothP f) n :=
  chain_rel (by omega) (dead_test hd) (test_rel hd H) kw_and (fun _ _ h hw => has_and h hw) (by simp) (fun ho => .log (by simp at ho ⊢; simp [ho]))
theorem either_rel {f : Rd → Rd} {n : Nat} (hd : DeadK f) (H : JR 5 false f n) : JR 0 true (chainP (bothP f) [tOr]) n :=
  chain_rel (by omega) (dead_both hd) (both_rel hd H) kw_or (fun _ _ h hw => has_or h hw) (by simp) (fun ho => .log (by simp at ho ⊢; simp [ho]))

theorem bad_same (τ : PSt) : τ.bad.nodes = τ.nodes ∧ τ.bad.i = τ.i := by unfold PSt.bad; split <;> exact ⟨rfl, rfl⟩
theorem want_same (τ : PSt) (k : ByteArray) : (τ.want k).nodes = τ.nodes := by unfold PSt.want; split; rfl; exact (bad_same τ).1
theorem bad_bad {τ : PSt} (h : 0 ≤ τ.wrong) : τ.bad = τ := by unfold PSt.bad; rw [if_neg (by omega)]
theorem bad_want {τ : PSt} (h : 0 ≤ τ.wrong) (k : ByteArray) : τ.want k = τ := by
  have : ¬ τ.isS k = true := by unfold PSt.isS; simp; omega
  unfold PSt.want; rw [if_neg this]; exact bad_bad h
/-- a field, behind its name -/
theorem field_rel {σ : Rd} {τ : PSt} (h : Rel σ τ) (hw : τ.wrong < 0) (h2 : 2 ≤ σ.ahead.length) (name : ByteArray) (place : Nat) (hnk : τ.now.kind ≠ 1) (hm : τ.isS ⟨#[45]⟩ = false) (ho : τ.isS ⟨#[40]⟩ = false)
    (hhead : τ.fieldHead = τ.adv.want ⟨#[46]⟩) (hname : τ.fieldName = name) (hpl : name.toList ≠ [] → place = σ.now.place) : ∃ r τ', R .f τ r τ' ∧ CPost false σ τ r (fieldP σ name place) τ' := by
  obtain ⟨g, hp1, hl1⟩ := rel_skip h hw h2
  have g2 := rel_want g.rel (k := tDot) (by simp [KW])
  have hE : τ.adv.want tDot = τ.fieldHead := hhead.symm
  unfold fieldP
  generalize hσ2 : σ.skip.expect [tDot] = σ2 at *
  rw [hE] at g2
  have G := g.trans g2
  have hn2 : τ.fieldHead.nodes = τ.nodes := by rw [hhead]; exact want_same _ _
  have iv := g2.rel.inv
  have hi := g2.i
  have hi1 : τ.adv.i = τ.i + 1 := rfl
  have hb : τ.fieldHead.nodes.length ≤ 100000 := by have := iv.nodes; have := iv.ilt; have := iv.toks; omega
  have eP : (τ.now.pos : Int) = σ.now.place := by rw [now_drop]; exact congrArg Int.ofNat (h.tr hw).place.symm
  by_cases hh : σ2.has sField = true
  · have hw2 := has_live g2.rel kw_field hh
    obtain ⟨hmem, hs, h3⟩ := has_mem g2.rel hw2 kw_field hh
    obtain ⟨g3, hp3, hl3⟩ := rel_skip g2.rel hw2 h3
    have e1 : σ2.expect sField = σ2.skip := by unfold Rd.expect; rw [if_pos hh]
    have e2 : σ2.whichV sField = σ2.now.text := by unfold Rd.whichV; rw [if_pos hh]
    rw [e1, e2]
    have hnn : τ.nodes.length ≤ 2 * τ.i := h.inv.nodes
    have hpush := rel_push g3.rel ⟨⟨#[102]⟩, 0, 0, 0, τ.fieldName, τ.fieldHead.now.s, τ.now.pos⟩ ⟨σ2.now.text, 0, name, place⟩ (by show τ.fieldHead.nodes.length + 1 ≤ 2 * (τ.fieldHead.i + 1); rw [hn2]; omega)
    refine ⟨_, _, .f_fld hw hnk hm ho (by rw [← has_field g2.rel hw2]; exact hh) hw2 hb, (G.trans g3).trans hpush, ?_, ?_⟩
    · simp only [PSt.push, List.length_append, List.length_cons, List.length_nil]
      show τ.fieldHead.nodes.length + 1 + 2 * τ.i ≤ τ.nodes.length + 2 * (τ.fieldHead.i + 1)
      rw [hn2]; omega
    · intro _
      refine ⟨[⟨σ2.now.text, 0, name, place⟩], .fld name σ2.now.text σ.now.place, τ.fieldHead.nodes.length, rfl, ?_, ?_, .fld hmem hpl, ?_⟩
      · show σ2.ops.map _ = _
        have : σ2.ops = σ.ops := by rw [← hσ2]; unfold Rd.expect; split <;> rfl
        rw [this]
      · have := Rep.fld (nodes := τ.fieldHead.nodes ++ [⟨⟨#[102]⟩, 0, 0, 0, τ.fieldName, τ.fieldHead.now.s, τ.now.pos⟩]) (i := τ.fieldHead.nodes.length) (x := ⟨⟨#[102]⟩, 0, 0, 0, τ.fieldName, τ.fieldHead.now.s, τ.now.pos⟩) (by simp) (by kernel_rfl) (by show (0 : Int) ≤ (τ.now.pos : Int); omega)
        simp only [hname, hs, eP] at this
        simp only [hname, hs, eP]
        exact this
      · have h2' := g2.live hw2
        show OpsIn σ.now.place σ2.skip.now.place _
        unfold OpsIn
        have hlt : σ.now.place < σ2.skip.now.place := by omega
        split
        · exact Nat.le_of_lt hlt
        · rename_i hne
          rw [hpl hne]
          exact ⟨Nat.le_refl _, hlt⟩
  · have e1 : σ2.expect sField = σ2.fail := by unfold Rd.expect; rw [if_neg hh]
    rw [e1]
    obtain ⟨g3, h0⟩ := rel_fail g2.rel
    have gg : GoR σ2.fail τ.fieldHead.bad (σ2.fail.put ⟨σ2.whichV sField, 0, name, place⟩) τ.fieldHead.bad := rel_dead g3.rel h0 (g3.rel.dead h0)
    refine ⟨0, τ.fieldHead.bad, .f_fld_bad hw hnk hm ho ?_ hb, (G.trans g3).trans gg, ?_, fun h => by omega⟩
    · by_cases hw1 : τ.fieldHead.wrong < 0
      · rw [← has_field g2.rel hw1]; simp [hh]
      · simp [hw1]
    · rw [(bad_same _).1, (bad_same _).2, hn2]; omega
theorem isS_of {σ : Rd} {τ : PSt} (h : Rel σ τ) {k : ByteArray} (hk : k ∈ KW) {b : Bool} (hb : σ.now.is k = b) : τ.isS k = b := by rw [← h.is hk]; exact hb
theorem factor_rel (n : Nat) : JR 5 false (factorP n) n := by
  induction n with
  | zero => intro σ τ h hn; have := h.pos; omega
  | succ n ih =>
    intro σ τ h hn
    by_cases hw : τ.wrong < 0
    · suffices hf : ∃ r τ', R .f τ r τ' ∧ CPost false σ τ r (factorP (n + 1) σ) τ' by
        obtain ⟨r, τ', hR, C⟩ := hf
        exact ⟨r, τ', .j_fac hw hR, C⟩
      have iv := h.inv
      have ht := h.tr hw
      have hnum := ht.num
      rw [← now_drop] at hnum
      have b1 : τ.nums.length ≤ 10000 := by have := iv.nums; have := iv.ilt; have := iv.toks; omega
      have b2 : τ.nodes.length ≤ 100000 := by have := iv.nodes; have := iv.ilt; have := iv.toks; omega
      unfold factorP
      by_cases hk : σ.now.kind = 2
      · rw [if_pos hk]
        have RN := rel_num h 0 999999999
        rw [show ((0 : Nat) : Int) = 0 from rfl, show ((999999999 : Nat) : Int) = 999999999 from rfl] at RN
        obtain ⟨g, hv, hN, hl⟩ := RN
        have hN' := hN.2 hk
        have e : τ.num 0 999999999 = { τ with i := τ.i + 1, nums := τ.nums ++ [τ.now], lo := τ.lo ++ [0], hi := τ.hi ++ [999999999] } := by unfold PSt.num; rw [if_pos hN']
        have hpush := rel_push g.rel ⟨⟨#[110]⟩, 0, 0, τ.now.n, mt, mt, 0⟩ ⟨tPush, σ.numV, ⟨#[]⟩, 0⟩ (by rw [e]; show τ.nodes.length + 1 ≤ 2 * (τ.i + 1); have := iv.nodes; omega)
        refine ⟨_, _, .f_num hw (hnum.1.1 hk) b1 (by rw [iv.lo]; exact b1) (by rw [iv.hi]; exact b1) b2, g.trans hpush, ?_, ?_⟩
        · rw [e]
          simp only [PSt.push, List.length_append, List.length_cons, List.length_nil]; omega
        · intro _
          have eV : σ.numV = τ.now.n := by unfold PSt.numV at hv; rw [if_pos hN'] at hv; omega
          refine ⟨[⟨tPush, σ.numV, ⟨#[]⟩, 0⟩], .num (σ.numV : Nat), τ.nodes.length, rfl, ?_, ?_, .num _, ?_⟩
          · show (σ.num 0 999999999).ops.map _ = _
            have : (σ.num 0 999999999).ops = σ.ops := by unfold Rd.num; split <;> rfl
            rw [this]
          · have := Rep.num (nodes := τ.nodes ++ [⟨⟨#[110]⟩, 0, 0, τ.now.n, mt, mt, 0⟩]) (i := τ.nodes.length) (x := ⟨⟨#[110]⟩, 0, 0, τ.now.n, mt, mt, 0⟩) (by simp) (by kernel_rfl)
            rw [e, eV]; exact this
          · refine OpsIn.one mt_list ?_
            have hg := g.live (by rw [e]; exact hw)
            exact hg.2
      · rw [if_neg hk]
        by_cases hm : σ.now.is tMinus = true
        · rw [if_pos hm]
          have hS := isS_of h (k := tMinus) (by simp [KW]) hm
          obtain ⟨g, hr, hin, hl, hin2⟩ := rel_enter h (k := tMinus) (by simp [KW]) hS
          obtain ⟨b, τ1, hR, C⟩ := ih σ.enter (τ.adv.down τ.now.pos) hr (by omega)
          have hins : τ1.inside = τ.inside + 1 := C.inside.trans hin
          have L := rel_leave C.rel hins
          have hcnt := C.cnt
          have hci := C.i
          have hi1 : (τ.adv.down τ.now.pos).i = τ.i + 1 := rfl
          have hi2 : (τ.adv.down τ.now.pos).nodes = τ.nodes := rfl
          rw [hi1, hi2] at hcnt
          rw [hi1] at hci
          have hnn := iv.nodes
          have p1 := rel_push L ⟨⟨#[110]⟩, 0, 0, 0, mt, mt, 0⟩ ⟨tOpp, 0, ⟨#[]⟩, 0⟩ (by show τ1.nodes.length + 1 ≤ 2 * τ1.i; omega)
          have p2 : Rel ((factorP n σ.enter).leave.put ⟨tOpp, 0, ⟨#[]⟩, 0⟩) (({ τ1 with inside := τ.inside }.push ⟨⟨#[110]⟩, 0, 0, 0, mt, mt, 0⟩).push ⟨⟨#[45]⟩, τ1.nodes.length, b, 0, mt, mt, 0⟩) := by
            have i1 := p1.rel.inv
            exact ⟨⟨by simp only [PSt.push, List.length_append, List.length_cons, List.length_nil]; omega, i1.nums, i1.lo, i1.hi, i1.inside, i1.toks, i1.wlo, i1.ilt⟩, p1.rel.alt⟩
          have b3 := C.rel.inv
          refine ⟨_, _, .f_neg hw hS (by omega) hR hins (by omega) (by have := b3.nodes; have := b3.ilt; have := b3.toks; omega), ⟨⟨?_, ?_, C.parts, C.toks, by show τ.i ≤ τ1.i; omega, C.window, C.rate, ?_⟩, p2, rfl⟩, ?_, ?_⟩
          · exact Nat.le_trans C.len (Nat.le_trans (Nat.le_of_lt (by omega)) (Nat.le_refl _))
          · simp only [PSt.push]; exact (C.nodes.trans (List.prefix_append _ _)).trans (List.prefix_append _ _)
          · intro hw2
            have c := C.live hw2
            have g' := g.live c.1
            exact ⟨hw, Nat.le_trans g'.2 c.2⟩
          · simp only [PSt.push, List.length_append, List.length_cons, List.length_nil]; omega
          · intro hw2
            have hw1 : τ1.wrong < 0 := hw2
            obtain ⟨lb, tb, kb, hb1, hb2, hb3, hb4, hb5⟩ := C.ops hw1
            subst hb1
            have g' := g.live (C.live hw1).1
            refine ⟨lb ++ [⟨tOpp, 0, ⟨#[]⟩, 0⟩], .bin tMinus (.num 0) tb, τ1.nodes.length + 1, by simp, ?_, ?_, .neg hb4, ?_⟩
            · show (factorP n σ.enter).ops.map _ = _
              rw [hb2, show σ.enter.ops = σ.ops from rfl, opt_app]
            · have n0 : Rep (τ1.nodes ++ [⟨⟨#[110]⟩, 0, 0, 0, mt, mt, 0⟩]) τ1.nodes.length (.num 0) := Rep.num (x := ⟨⟨#[110]⟩, 0, 0, 0, mt, mt, 0⟩) (by simp) (by kernel_rfl)
              have hb3' : Rep (τ1.nodes ++ [⟨⟨#[110]⟩, 0, 0, 0, mt, mt, 0⟩]) kb tb := hb3.mono (List.prefix_append _ _)
              have := rep_new (op := tMinus) (by simp) n0 hb3' 0
              simp only [List.length_append, List.length_cons, List.length_nil] at this
              exact this
            · exact (hb5.down g'.2).app (OpsIn.one mt_list (Nat.le_refl _))
        · rw [if_neg hm]
          have hSm := isS_of h (k := tMinus) (by simp [KW]) (Bool.eq_false_iff.2 hm)
          by_cases ho : σ.now.is tOpen = true
          · rw [if_pos ho]
            have hS := isS_of h (k := tOpen) (by simp [KW]) ho
            obtain ⟨g, hr, hin, hl, hin2⟩ := rel_enter h (k := tOpen) (by simp [KW]) hS
            obtain ⟨a, τ1, hR, C⟩ := sum_rel (dead_factor n) ih σ.enter (τ.adv.down τ.now.pos) hr (by omega)
            have hins : τ1.inside = τ.inside + 1 := C.inside.trans hin
            have L := rel_leave C.rel hins
            have W := rel_want L (k := tClose) (by simp [KW])
            have eL : (sumP (factorP n) σ.enter).leave.expect [tClose] = ((sumP (factorP n) σ.enter).expect [tClose]).leave := by
              unfold Rd.expect
              have : (sumP (factorP n) σ.enter).leave.has [tClose] = (sumP (factorP n) σ.enter).has [tClose] := rfl
              rw [this]; split <;> rfl
            rw [eL] at W
            have hcnt := C.cnt
            have hi1 : (τ.adv.down τ.now.pos).i = τ.i + 1 := rfl
            have hi2 : (τ.adv.down τ.now.pos).nodes = τ.nodes := rfl
            have hci := C.i
            rw [hi1, hi2] at hcnt
            rw [hi1] at hci
            have hWn : (({ τ1 with inside := τ.inside } : PSt).want tClose).nodes = τ1.nodes := want_same _ _
            have hWi := W.i
            have hWi2 : ({ τ1 with inside := τ.inside } : PSt).i = τ1.i := rfl
            rw [hWi2] at hWi
            refine ⟨_, _, .f_par hw hS (by omega) hR hins (by omega), ⟨⟨?_, ?_, W.parts.trans C.parts, W.toks.trans C.toks, ?_, W.window.trans C.window, W.rate.trans C.rate, ?_⟩, W.rel, W.inside⟩, ?_, ?_⟩
            · exact Nat.le_trans W.len (Nat.le_trans C.len (by omega))
            · exact C.nodes.trans W.nodes
            · show τ.i ≤ (({ τ1 with inside := τ.inside } : PSt).want tClose).i; omega
            · intro hw2
              have w2 := W.live hw2
              have c := C.live w2.1
              have g' := g.live c.1
              exact ⟨hw, Nat.le_trans g'.2 (Nat.le_trans c.2 w2.2)⟩
            · show (({ τ1 with inside := τ.inside } : PSt).want tClose).nodes.length + 2 * τ.i ≤ τ.nodes.length + 2 * (({ τ1 with inside := τ.inside } : PSt).want tClose).i
              rw [hWn]; omega
            · intro hw2
              have w2 := W.live hw2
              have hw1 : τ1.wrong < 0 := w2.1
              obtain ⟨lb, tb, kb, hb1, hb2, hb3, hb4, hb5⟩ := C.ops hw1
              have g' := g.live (C.live hw1).1
              refine ⟨lb, tb, kb, hb1, ?_, ?_, hb4, ?_⟩
              · have : ((sumP (factorP n) σ.enter).expect [tClose]).leave.ops = (sumP (factorP n) σ.enter).ops := by unfold Rd.expect; split <;> rfl
                rw [this, hb2]; rfl
              · exact hb3.mono W.nodes
              · have := (hb5.down g'.2).app (l' := []) (show OpsIn _ (((sumP (factorP n) σ.enter).expect [tClose]).leave).now.place [] from w2.2)
                rw [List.append_nil] at this
                exact this
          · rw [if_neg ho]
            have hSo := isS_of h (k := tOpen) (by simp [KW]) (Bool.eq_false_iff.2 ho)
            have hnk : τ.now.kind ≠ 1 := fun e => hk (hnum.1.2 e)
            have hname := ht.name
            rw [← now_drop] at hname
            by_cases h3 : σ.now.kind = 3
            · rw [if_pos h3]
              obtain ⟨h2, hs⟩ := hname.2 h3
              have hN := hname.1.1 h3
              have hNm : τ.isName = true := by unfold PSt.isName; rw [hN]; simp [hw]
              have hit : τ.isS ⟨#[105, 116]⟩ = false := by
                unfold RTok.isName at hN
                rw [Bool.and_eq_true, List.all_eq_true] at hN
                have := hN.2 ⟨#[105, 116]⟩ (by simp [resv])
                unfold PSt.isS RTok.isS
                simp only [Bool.not_eq_true'] at this
                rw [this]; simp
              refine field_rel h hw h2 _ _ hnk hSm hSo ?_ ?_ (fun _ => rfl)
              · unfold PSt.fieldHead PSt.nam; rw [if_neg (by rw [hit]; decide), if_pos hNm]; rfl
              · unfold PSt.fieldName PSt.nameV; rw [if_neg (by rw [hit]; decide), if_pos hNm]; exact hs
            · rw [if_neg h3]
              by_cases hi : σ.now.is tIt = true
              · rw [if_pos hi]
                have hit : τ.isS ⟨#[105, 116]⟩ = true := isS_of h (k := tIt) (by simp [KW]) hi
                have h2 := ht.is2 (k := tIt) (by simp [KW]) hi
                refine field_rel h hw h2 _ _ hnk hSm hSo ?_ ?_ (fun e => absurd mt_list e)
                · unfold PSt.fieldHead; rw [if_pos hit]
                · unfold PSt.fieldName; rw [if_pos hit]; rfl
              · rw [if_neg hi]
                have hit := isS_of h (k := tIt) (by simp [KW]) (Bool.eq_false_iff.2 hi)
                have hNm : ¬ τ.isName = true := by
                  unfold PSt.isName
                  rw [Bool.and_eq_true]
                  exact fun e => h3 (hname.1.2 e.1)
                obtain ⟨g, h0⟩ := rel_fail h
                have eH : τ.fieldHead = τ.bad := by
                  unfold PSt.fieldHead PSt.nam
                  rw [if_neg (by rw [show τ.isS ⟨#[105, 116]⟩ = false from hit]; decide), if_neg hNm, bad_want h0]
                have eB : τ.fieldHead.bad = τ.bad := by rw [eH, bad_bad h0]
                refine ⟨0, τ.fieldHead.bad, .f_fld_bad hw hnk hSm hSo ?_ ?_, by rw [eB]; exact g, ?_, fun h => by rw [eB] at h; omega⟩
                · rw [eH]
                  have : decide (τ.bad.wrong < 0) = false := by simp only [decide_eq_false_iff_not]; omega
                  rw [this]; simp
                · rw [eH, (bad_same τ).1]; exact b2
                · rw [eB, (bad_same τ).1, (bad_same τ).2]; omega
    · exact jr_dead (dead_factor (n + 1)) h (by omega)
end Go.Proofs.YtddbjcfdmdbmkaaGreatDoor

/-
  Both readers, plain: parts, conditions.
-/
namespace Go.Proofs.YtddbjcfdmdbmkaaGreatDoor
open Go.RowKit

def LensOK (τ : PSt) : Prop := τ.lo.length = τ.nums.length ∧ τ.hi.length = τ.nums.length
/-- no number is forgotten -/
def OutsM (τ τ' : PSt) : Prop := LensOK τ → LensOK τ' ∧ (outs τ' = none → outs τ = none)
theorem OutsM.refl (τ : PSt) : OutsM τ τ := fun h => ⟨h, id⟩
theorem OutsM.trans {a b c : PSt} (h : OutsM a b) (k : OutsM b c) : OutsM a c := fun l => ⟨(k (h l).1).1, fun o => (h l).2 ((k (h l).1).2 o)⟩
theorem OutsM.of_eq {τ τ' : PSt} (h1 : τ'.nums = τ.nums) (h2 : τ'.lo = τ.lo) (h3 : τ'.hi = τ.hi) : OutsM τ τ' := by
  intro h
  unfold LensOK outs at *
  rw [h1, h2, h3]; exact ⟨h, id⟩
theorem bad_outs (τ : PSt) : OutsM τ τ.bad := by unfold PSt.bad; split <;> exact OutsM.of_eq rfl rfl rfl
theorem want_outs (τ : PSt) (k : ByteArray) : OutsM τ (τ.want k) := by
  unfold PSt.want; split
  · exact OutsM.of_eq rfl rfl rfl
  · exact bad_outs τ
theorem nam_outs (τ : PSt) : OutsM τ τ.nam := by
  unfold PSt.nam; split
  · exact OutsM.of_eq rfl rfl rfl
  · exact bad_outs τ
theorem outs_app {τ : PSt} (hl : LensOK τ) (u : RTok) (lo hi : Int) (τ' : PSt) (hn : τ'.nums = τ.nums ++ [u]) (hlo : τ'.lo = τ.lo ++ [lo]) (hh : τ'.hi = τ.hi ++ [hi]) :
    outs τ' = (outs τ).or (if (u.n : Int) < lo ∨ hi < (u.n : Int) then some u.pos else none) := by
  unfold outs
  rw [hn, hlo, hh, List.zip_append (by rw [hl.1, hl.2]), List.zip_append (by rw [List.length_zip, hl.1, hl.2]; simp), List.find?_append]
  cases (τ.nums.zip (τ.lo.zip τ.hi)).find? fun x => decide ((x.1.n : Int) < x.2.1 ∨ x.2.2 < (x.1.n : Int)) with
  | some x => simp
  | none => simp [List.find?_cons]; split <;> simp_all
theorem num_outs (τ : PSt) (lo hi : Int) : OutsM τ (τ.num lo hi) := by
  unfold PSt.num; split
  · intro h
    refine ⟨⟨by simp [h.1], by simp [h.2]⟩, fun o => ?_⟩
    rw [outs_app h τ.now lo hi _ rfl rfl rfl] at o
    cases e : outs τ with
    | none => rfl
    | some p => rw [e] at o; simp at o
  · exact bad_outs τ
theorem num_range {τ : PSt} (hl : LensOK τ) {lo hi : Int} (hN : τ.isNum = true) (o : outs (τ.num lo hi) = none) : lo ≤ τ.numV ∧ τ.numV ≤ hi := by
  unfold PSt.num at o
  rw [if_pos hN, outs_app hl τ.now lo hi _ rfl rfl rfl] at o
  unfold PSt.numV; rw [if_pos hN]
  cases e : outs τ with
  | some p => rw [e] at o; simp at o
  | none =>
    rw [e] at o
    simp only [Option.none_or] at o
    split at o
    · cases o
    · omega
theorem R.outsM {fn : RFn} {σ σ' : PSt} {r : Int} (h : R fn σ r σ') : OutsM σ σ' := by
  induction h with
  | j_bad _ => exact OutsM.refl _
  | j_fac _ _ ih => exact ih
  | j_test_bad _ _ _ ih => exact ih.trans (bad_outs _)
  | j_test _ _ _ _ _ _ ih1 ih2 => exact (ih1.trans (OutsM.of_eq rfl rfl rfl)).trans (ih2.trans (OutsM.of_eq rfl rfl rfl))
  | j_loop _ _ _ _ ih1 ih2 => exact ih1.trans ih2
  | l_end _ => exact OutsM.refl _
  | l_more _ _ _ _ _ ih1 ih2 => exact ((OutsM.of_eq rfl rfl rfl : OutsM _ _).trans ih1).trans ((OutsM.of_eq rfl rfl rfl : OutsM _ _).trans ih2)
  | f_num _ _ _ _ _ _ => exact (num_outs _ _ _).trans (OutsM.of_eq rfl rfl rfl)
  | f_neg _ _ _ _ _ _ _ ih => exact ((OutsM.of_eq rfl rfl rfl : OutsM _ _).trans ih).trans (OutsM.of_eq rfl rfl rfl)
  | f_par _ _ _ _ _ _ ih =>
    refine OutsM.trans ?_ (want_outs _ _)
    exact ((OutsM.of_eq rfl rfl rfl : OutsM _ _).trans ih).trans (OutsM.of_eq rfl rfl rfl)
  | f_fld_bad _ _ _ _ _ _ =>
    refine OutsM.trans ?_ (bad_outs _)
    unfold PSt.fieldHead
    refine OutsM.trans ?_ (want_outs _ _)
    split
    · exact OutsM.of_eq rfl rfl rfl
    · exact nam_outs _
  | f_fld _ _ _ _ _ _ _ =>
    refine OutsM.trans ?_ (OutsM.of_eq rfl rfl rfl : OutsM _ _)
    unfold PSt.fieldHead
    refine OutsM.trans ?_ (want_outs _ _)
    split
    · exact OutsM.of_eq rfl rfl rfl
    · exact nam_outs _

/-- a condition of the document against one of the program -/
def CondR (nodes : List RNode) (c : Int) (ops : List POp) : Prop := (c = -1 ∧ ops = []) ∨ ∃ (k : Nat) (t : Nd), c = k ∧ Rep nodes k t ∧ PostR true t ops
theorem CondR.mono {nodes nodes' : List RNode} {c : Int} {ops : List POp} (h : CondR nodes c ops) (hp : nodes <+: nodes') : CondR nodes' c ops := by
  rcases h with h | ⟨k, t, h1, h2, h3⟩
  · exact .inl h
  · exact .inr ⟨k, t, h1, h2.mono hp, h3⟩
def SeqR (r : Nat → PPart → Prop) (l : List Nat) (ps : List PPart) : Prop := l.length = ps.length ∧ ∀ (i j : Nat) (p : PPart), l[i]? = some j → ps[i]? = some p → r j p
def WaysR (r : Nat → PPart → Prop) (ls : List (List Nat)) (cs : List (List PPart)) : Prop := ls.length = cs.length ∧ ∀ (i : Nat) (l : List Nat) (c : List PPart), ls[i]? = some l → cs[i]? = some c → SeqR r l c
theorem SeqR.nil (r : Nat → PPart → Prop) : SeqR r [] [] := ⟨rfl, fun i j p h => by simp at h⟩
theorem SeqR.snoc {r : Nat → PPart → Prop} {l : List Nat} {ps : List PPart} (h : SeqR r l ps) {j : Nat} {p : PPart} (hj : r j p) : SeqR r (l ++ [j]) (ps ++ [p]) := by
  refine ⟨by simp [h.1], fun i j' p' h1 h2 => ?_⟩
  by_cases hi : i < l.length
  · rw [List.getElem?_append_left hi] at h1
    rw [List.getElem?_append_left (by rw [← h.1]; exact hi)] at h2
    exact h.2 i j' p' h1 h2
  · rw [List.getElem?_append_right (by omega)] at h1
    rw [List.getElem?_append_right (by rw [← h.1]; omega), ← h.1] at h2
    cases hk : i - l.length with
    | zero => rw [hk] at h1 h2; simp at h1 h2; subst h1; subst h2; exact hj
    | succ k => rw [hk] at h1; simp at h1
theorem SeqR.imp {r r' : Nat → PPart → Prop} {l : List Nat} {ps : List PPart} (h : SeqR r l ps) (hr : ∀ j p, r j p → r' j p) : SeqR r' l ps := ⟨h.1, fun i j p h1 h2 => hr j p (h.2 i j p h1 h2)⟩
theorem WaysR.nil (r : Nat → PPart → Prop) : WaysR r [] [] := ⟨rfl, fun i j p h => by simp at h⟩
theorem WaysR.snoc {r : Nat → PPart → Prop} {l : List (List Nat)} {ps : List (List PPart)} (h : WaysR r l ps) {j : List Nat} {p : List PPart} (hj : SeqR r j p) : WaysR r (l ++ [j]) (ps ++ [p]) := by
  refine ⟨by simp [h.1], fun i j' p' h1 h2 => ?_⟩
  by_cases hi : i < l.length
  · rw [List.getElem?_append_left hi] at h1
    rw [List.getElem?_append_left (by rw [← h.1]; exact hi)] at h2
    exact h.2 i j' p' h1 h2
  · rw [List.getElem?_append_right (by omega)] at h1
    rw [List.getElem?_append_right (by rw [← h.1]; omega), ← h.1] at h2
    cases hk : i - l.length with
    | zero => rw [hk] at h1 h2; simp at h1 h2; subst h1; subst h2; exact hj
    | succ k => rw [hk] at h1; simp at h1
theorem WaysR.imp {r r' : Nat → PPart → Prop} {l : List (List Nat)} {ps : List (List PPart)} (h : WaysR r l ps) (hr : ∀ j p, r j p → r' j p) : WaysR r' l ps := ⟨h.1, fun i j p h1 h2 => (h.2 i j p h1 h2).imp hr⟩
/-- a step or a guard of both -/
structure LeafR (nodes : List RNode) (x : RPart) (p : PPart) : Prop where
  ways : x.ways = []
  choices : p.choices = []
  pos : x.pos = p.place
  kind : x.kind = p.kind
  name : x.name = p.name
  cond : CondR nodes x.cond p.cond
  ops : ∃ hi, OpsIn (p.place + 1) hi p.cond
  len : p.cond.length ≤ 2000
  alt : (x.guard = true ∧ p.name.toList = [] ∧ p.times = 0 ∧ x.times = 1) ∨ (x.guard = false ∧ p.name.toList ≠ [] ∧ x.times = p.times)
/-- Part j of the document's row is that part of the program's; n: how deep it may be. -/
def PR (nodes : List RNode) (parts : List RPart) : Nat → Nat → PPart → Prop
  | 0, _, _ => False
  | n + 1, j, p => ∃ x, parts[j]? = some x ∧ (LeafR nodes x p ∨ (x.guard = false ∧ p.name.toList = [] ∧ 2 ≤ x.ways.length ∧ WaysR (PR nodes parts n) x.ways p.choices))
theorem get_prefix {α : Type} {l l' : List α} (hp : l <+: l') {i : Nat} {x : α} (hx : l[i]? = some x) : l'[i]? = some x := by
  obtain ⟨m, rfl⟩ := hp
  obtain ⟨hi, rfl⟩ := List.getElem?_eq_some_iff.1 hx
  rw [List.getElem?_append_left hi]; exact hx
theorem PR.mono {nodes nodes' : List RNode} {parts parts' : List RPart} (hn : nodes <+: nodes') (hp : parts <+: parts') : ∀ (n j : Nat) (p : PPart), PR nodes parts n j p → PR nodes' parts' n j p := by
  intro n
  induction n with
  | zero => intro j p h; exact h.elim
  | succ n ih =>
    rintro j p ⟨x, hx, h⟩
    refine ⟨x, get_prefix hp hx, ?_⟩
    rcases h with h | ⟨h1, h2, h3, h4⟩
    · exact .inl ⟨h.ways, h.choices, h.pos, h.kind, h.name, h.cond.mono hn, h.ops, h.len, h.alt⟩
    · exact .inr ⟨h1, h2, h3, h4.imp ih⟩

/-- the places of the names in a tree -/
def Nd.places : Nd → List Int
  | .num _ => []
  | .fld name _ pos => if name.toList = [] then [] else [pos]
  | .bin _ a b => a.places ++ b.places
theorem OpsIn.split {lo hi : Nat} {l l' : List POp} (h : OpsIn lo hi (l ++ l')) : ∃ m, OpsIn lo m l ∧ OpsIn m hi l' := by
  induction l generalizing lo with
  | nil => exact ⟨lo, Nat.le_refl _, h⟩
  | cons o l ih =>
    rw [List.cons_append] at h
    unfold OpsIn at h
    split at h
    · rename_i e
      obtain ⟨m, h1, h2⟩ := ih h
      exact ⟨m, by unfold OpsIn; rw [if_pos e]; exact h1, h2⟩
    · rename_i e
      obtain ⟨m, h1, h2⟩ := ih h.2
      exact ⟨m, by unfold OpsIn; rw [if_neg e]; exact ⟨h.1, h1⟩, h2⟩
theorem PostR.places {b : Bool} {t : Nd} {l : List POp} (h : PostR b t l) : ∀ {lo hi : Nat}, OpsIn lo hi l → ∀ q ∈ t.places, (lo : Int) ≤ q ∧ q < hi := by
  induction h with
  | num n => intro lo hi _ q hq; simp [Nd.places] at hq
  | @fld name field pos place hf hp =>
    intro lo hi ho q hq
    unfold Nd.places at hq
    unfold OpsIn at ho
    split at hq
    · simp at hq
    · rename_i hne
      simp only at ho
      rw [if_neg hne] at ho
      have h2 : place + 1 ≤ hi := ho.2
      have := hp hne
      simp only [List.mem_singleton] at hq
      subst hq
      omega
  | neg h ih =>
    intro lo hi ho q hq
    obtain ⟨m, h1, h2⟩ := ho.split
    have hm := h2.le
    simp only [Nd.places, List.nil_append] at hq
    have := ih h1 q hq
    omega
  | ari ho' ha hb iha ihb | tst ho' ha hb iha ihb | log ho' ha hb iha ihb =>
    intro lo hi ho q hq
    obtain ⟨m, h1, h2⟩ := ho.split
    obtain ⟨m', h3, h4⟩ := h1.split
    have hm := h2.le
    have hm2 := h3.le
    have hm3 := h4.le
    simp only [Nd.places, List.mem_append] at hq
    rcases hq with hq | hq
    · have := iha h3 q hq; omega
    · have := ihb h4 q hq; omega
/-- what holds of the document's parts, where nothing is wrong -/
structure PInv (τ : PSt) (hi : Nat) : Prop where
  lt : ∀ (i : Nat) (x : RPart), τ.parts[i]? = some x → ∀ l ∈ x.ways, ∀ j ∈ l, j < i
  times : outs τ = none → ∀ x ∈ τ.parts, 0 ≤ x.times ∧ x.times ≤ 4
  wlen : ∀ x ∈ τ.parts, x.ways.length ≤ 1000 ∧ ∀ l ∈ x.ways, 1 ≤ l.length ∧ l.length ≤ 1000
  inc : ∀ (i j : Nat) (x y : RPart), τ.parts[i]? = some x → τ.parts[j]? = some y → x.ways = [] → y.ways = [] → i < j → x.pos < y.pos
  top : ∀ x ∈ τ.parts, x.ways = [] → x.pos < hi
  cnd : ∀ (i : Nat) (x : RPart), τ.parts[i]? = some x → x.ways = [] → x.cond = -1 ∨ ∃ (k : Nat) (t : Nd), x.cond = k ∧ Rep τ.nodes k t ∧ ∀ q ∈ t.places, x.pos < q ∧ q < hi ∧ ∀ (j : Nat) (y : RPart), i < j → τ.parts[j]? = some y → y.ways = [] → q < y.pos
theorem PInv.next {τ τ' : PSt} {lo hi : Nat} (h : PInv τ lo) (he : τ'.parts = τ.parts) (hn : τ.nodes <+: τ'.nodes) (hl : lo ≤ hi) (ho : outs τ' = none → outs τ = none) : PInv τ' hi := by
  refine ⟨by rw [he]; exact h.lt, fun o => by rw [he]; exact h.times (ho o), by rw [he]; exact h.wlen, by rw [he]; exact h.inc, fun x hx hw => ?_, fun i x hx hw => ?_⟩
  · rw [he] at hx
    have := h.top x hx hw; omega
  · rw [he] at hx ⊢
    rcases h.cnd i x hx hw with e | ⟨k, t, h1, h2, h3⟩
    · exact .inl e
    · exact .inr ⟨k, t, h1, h2.mono hn, fun q hq => ⟨(h3 q hq).1, by have := (h3 q hq).2.1; omega, (h3 q hq).2.2⟩⟩
theorem snoc_get {α : Type} {l : List α} {x y : α} {i : Nat} (h : (l ++ [x])[i]? = some y) : l[i]? = some y ∨ (i = l.length ∧ y = x) := by
  by_cases hi : i < l.length
  · rw [List.getElem?_append_left hi] at h; exact .inl h
  · rw [List.getElem?_append_right (by omega)] at h
    cases hk : i - l.length with
    | zero => rw [hk] at h; simp at h; exact .inr ⟨by omega, h.symm⟩
    | succ k => rw [hk] at h; simp at h
theorem PInv.add {τ τ' : PSt} {lo hi : Nat} (h : PInv τ lo) (x : RPart) (he : τ'.parts = τ.parts ++ [x]) (hn : τ.nodes <+: τ'.nodes) (hl : lo ≤ hi) (ho : outs τ' = none → outs τ = none)
    (h1 : ∀ l ∈ x.ways, ∀ j ∈ l, j < τ.parts.length) (h2 : outs τ' = none → 0 ≤ x.times ∧ x.times ≤ 4) (h3 : x.ways.length ≤ 1000 ∧ ∀ l ∈ x.ways, 1 ≤ l.length ∧ l.length ≤ 1000) (h4 : x.ways = [] → (lo : Int) ≤ x.pos ∧ x.pos < hi)
    (h5 : x.ways = [] → x.cond = -1 ∨ ∃ (k : Nat) (t : Nd), x.cond = k ∧ Rep τ'.nodes k t ∧ ∀ q ∈ t.places, x.pos < q ∧ q < hi) : PInv τ' hi := by
  refine ⟨?_, ?_, ?_, ?_, ?_, ?_⟩
  · intro i y hy
    rw [he] at hy
    rcases snoc_get hy with hy | ⟨rfl, rfl⟩
    · exact h.lt i y hy
    · exact h1
  · intro o y hy
    rw [he] at hy
    rcases List.mem_append.1 hy with hy | hy
    · exact h.times (ho o) y hy
    · simp at hy; subst hy; exact h2 o
  · intro y hy
    rw [he] at hy
    rcases List.mem_append.1 hy with hy | hy
    · exact h.wlen y hy
    · simp at hy; subst hy; exact h3
  · intro i j y z hy hz hwy hwz hij
    rw [he] at hy hz
    have hil : i < τ.parts.length := by
      obtain ⟨hj, _⟩ := List.getElem?_eq_some_iff.1 hz
      simp at hj; omega
    rcases snoc_get hy with hy' | ⟨e, _⟩
    · rcases snoc_get hz with hz' | ⟨_, e⟩
      · exact h.inc i j y z hy' hz' hwy hwz hij
      · have a := h.top y (List.mem_of_getElem? hy') hwy
        rw [e] at hwz ⊢
        have b := (h4 hwz).1
        omega
    · omega
  · intro y hy hw
    rw [he] at hy
    rcases List.mem_append.1 hy with hy | hy
    · have := h.top y hy hw; omega
    · simp at hy; subst hy; exact (h4 hw).2
  · intro i y hy hw
    rw [he] at hy
    rcases snoc_get hy with hy' | ⟨e, e'⟩
    · rcases h.cnd i y hy' hw with e | ⟨k, t, h1, h2, h3⟩
      · exact .inl e
      · refine .inr ⟨k, t, h1, h2.mono hn, fun q hq => ⟨(h3 q hq).1, by have := (h3 q hq).2.1; omega, fun j z hij hz hwz => ?_⟩⟩
        rw [he] at hz
        rcases snoc_get hz with hz' | ⟨_, e⟩
        · exact (h3 q hq).2.2 j z hij hz' hwz
        · rw [e] at hwz ⊢
          have := (h4 hwz).1
          have := (h3 q hq).2.1
          omega
    · rw [e'] at hw ⊢
      rcases h5 hw with e | ⟨k, t, h1, h2, h3⟩
      · exact .inl e
      · refine .inr ⟨k, t, h1, h2, fun q hq => ⟨(h3 q hq).1, (h3 q hq).2, fun j z hij hz hwz => ?_⟩⟩
        rw [he] at hz
        obtain ⟨hj, _⟩ := List.getElem?_eq_some_iff.1 hz
        simp at hj; omega

/-- What a step of both that reads parts leaves as it was. -/
structure GoQ (σ : Rd) (τ : PSt) (σ' : Rd) (τ' : PSt) : Prop where
  len : σ'.ahead.length ≤ σ.ahead.length
  nodes : τ.nodes <+: τ'.nodes
  parts : τ.parts <+: τ'.parts
  toks : τ'.toks = τ.toks
  i : τ.i ≤ τ'.i
  window : τ'.window = τ.window
  rate : τ'.rate = τ.rate
  live : τ'.wrong < 0 → τ.wrong < 0 ∧ σ.now.place ≤ σ'.now.place
  outs : OutsM τ τ'
  rel : Rel σ' τ'
  inside : τ'.inside = τ.inside
  cnt : τ'.parts.length + τ.i ≤ τ.parts.length + τ'.i + 1
theorem TInv.lens {τ : PSt} (h : TInv τ) : LensOK τ := ⟨h.lo, h.hi⟩

theorem TR.sgood {l : List STok} : ∀ {m : List RTok}, TR l m → SGood l ∧ l.length ≤ m.length := by
  induction l with
  | nil => intro m h; exact absurd h.len.1 (by simp)
  | cons t l ih =>
    intro m h
    cases l with
    | nil =>
      rcases h.head with ⟨_, _, h1, h2⟩ | ⟨h2, _⟩
      · refine ⟨⟨?_, h2⟩, h.len.2⟩
        change (t.kind = 1 ∧ _) ∨ (t.kind = 0 ∧ _) at h1
        omega
      · simp at h2
    | cons t' l =>
      rcases h.head with ⟨h1, _⟩ | ⟨_, ⟨_, h1⟩, _, h2⟩
      · simp at h1
      · have hm := h.len.2
        obtain ⟨a, b⟩ := ih h2
        refine ⟨⟨?_, a⟩, by simp only [List.tail_cons, List.length_tail, List.length_cons] at b ⊢; omega⟩
        change (t.kind = 2 ∧ _ ∧ _ ∧ digitsOK t.text) ∨ (t.kind = 3 ∧ _) ∨ (t.kind = 4 ∧ _) ∨ (t.kind = 5 ∧ _) at h1
        rcases h1 with ⟨h1, _, _, h3⟩ | ⟨h1, _⟩ | ⟨h1, _⟩ | ⟨h1, _⟩
        · exact ⟨by omega, fun _ => h3⟩
        all_goals exact ⟨by omega, fun e => by omega⟩
/-- a condition, or none -/
theorem cond_rel {n : Nat} {σ : Rd} {τ : PSt} (h : Rel σ τ) (hn : σ.ahead.length ≤ n) : ∃ (c : Int) (τ' : PSt), ((τ.isS bIf = false ∧ c = -1 ∧ τ' = τ) ∨ (τ.isS bIf = true ∧ R (.j 0) τ.adv c τ')) ∧ GoR σ τ (condP n σ) τ' ∧ OutsM τ τ' ∧
    (τ'.wrong < 0 → CondR τ'.nodes c (condP n σ).opsL ∧ OpsIn σ.now.place (condP n σ).now.place (condP n σ).opsL ∧ (condP n σ).opsL.length ≤ 2000) := by
  unfold condP
  rw [has_is, h.is (k := tIf) (by simp [KW])]
  by_cases hh : τ.isS tIf = true
  · rw [if_pos hh]
    have hw := isS_live hh
    obtain ⟨g, hp, hl⟩ := rel_skip h hw ((h.tr hw).is2 (k := tIf) (by simp [KW]) (by rw [← h.is (k := tIf) (by simp [KW])] at hh; exact hh))
    have hr : Rel { σ.skip with ops := some [] } τ.adv := ⟨g.rel.inv, g.rel.alt⟩
    obtain ⟨c, τ', hR, C⟩ := either_rel (dead_factor n) (factor_rel n) { σ.skip with ops := some [] } τ.adv hr (by show σ.skip.ahead.length ≤ n; omega)
    refine ⟨c, τ', .inr ⟨hh, hR⟩, ⟨⟨Nat.le_trans C.len (by show σ.skip.ahead.length ≤ _; omega), C.nodes, C.parts, C.toks, Nat.le_trans g.i C.i, C.window, C.rate, fun hw2 => ⟨hw, Nat.le_trans (Nat.le_of_lt hp) (C.live hw2).2⟩⟩, C.rel, C.inside⟩, (OutsM.of_eq rfl rfl rfl : OutsM τ τ.adv).trans hR.outsM, fun hw2 => ?_⟩
    obtain ⟨l, t, k, h1, h2, h3, h4, h5⟩ := C.ops hw2
    have e : (chainP (bothP (factorP n)) [tOr] { σ.skip with ops := some [] }).opsL = l := by
      unfold Rd.opsL; rw [h2]; rfl
    rw [e]
    refine ⟨.inr ⟨k, t, h1, h3, h4⟩, h5.down (Nat.le_of_lt hp), ?_⟩
    obtain ⟨hsg, hsl⟩ := (g.rel.tr hw).sgood
    have iv := g.rel.inv
    rw [List.length_drop] at hsl
    have hok := chainP_ok (bothP_ok (factorP_ok n)) (by omega) (ts := [tOr]) (by simp [KW]) { σ.skip with ops := some [] } hsg (by show σ.skip.ahead.length ≤ n; omega)
    have hphi := hok.phi
    unfold Rd.phi at hphi
    rw [e] at hphi
    have e0 : ({ σ.skip with ops := some [] } : Rd).opsL = [] := rfl
    have e1 : ({ σ.skip with ops := some [] } : Rd).ahead = σ.skip.ahead := rfl
    rw [e0, e1] at hphi
    have := iv.toks
    simp only [List.length_nil] at hphi
    omega
  · rw [if_neg hh]
    refine ⟨-1, τ, .inl ⟨Bool.eq_false_iff.2 hh, rfl, rfl⟩, ⟨⟨Nat.le_refl _, List.prefix_refl _, rfl, rfl, Nat.le_refl _, rfl, rfl, fun h => ⟨h, Nat.le_refl _⟩⟩, ⟨h.inv, h.alt⟩, rfl⟩, OutsM.refl _, fun _ => ⟨.inl ⟨rfl, rfl⟩, Nat.le_refl _, by show ([] : List POp).length ≤ 2000; simp⟩⟩
end Go.Proofs.YtddbjcfdmdbmkaaGreatDoor

/-
  Both readers, plain: steps and guards.
-/
namespace Go.Proofs.YtddbjcfdmdbmkaaGreatDoor
open Go.RowKit

theorem TInv.small {τ : PSt} (h : TInv τ) : τ.Small := ⟨by have := h.nums; have := h.ilt; have := h.toks; omega, by rw [h.lo]; have := h.nums; have := h.ilt; have := h.toks; omega, by rw [h.hi]; have := h.nums; have := h.ilt; have := h.toks; omega⟩
theorem TInv.smallA {τ : PSt} (h : TInv τ) : τ.adv.Small := ⟨h.small.nums, h.small.lo, h.small.hi⟩
theorem name_not {l : List STok} {m : List RTok} (h : TR l m) (hk3 : (l.headD default).kind = 3) {k : ByteArray} (hk : k ∈ KW) (hs : k ∈ resv ∨ isSmallB (byte0 k) = false) : (l.headD default).is k = false := by
  apply Bool.eq_false_iff.2
  intro hi
  have hn := (h.name.1.1 hk3)
  have ht := h.text hk hi
  unfold RTok.isName at hn
  rw [Bool.and_eq_true, Bool.and_eq_true, List.all_eq_true] at hn
  rcases hs with hs | hs
  · have := hn.2 k hs
    unfold STok.is at hi
    rw [ht, hi] at this; simp at this
  · have hsm := h.small hk hi
    rw [hs] at hsm
    have h0 := hn.1.1
    rw [beq_iff_eq] at h0
    rw [h0] at hsm; simp at hsm
/-- a step or a guard, behind its head -/
theorem leaf_rel {n : Nat} {σ σb : Rd} {τ : PSt} (hno : τ.isS ⟨#[40]⟩ = false) (h1 : TInv τ.hSt) (h2 : TInv τ.kSt) (G : GoR σ τ σb τ.tSt) (hO : OutsM τ τ.tSt) (hn : σb.ahead.length ≤ n) (hpi : τ.parts.length ≤ τ.i) :
    ∃ (c : Int) (τ1 : PSt), Q (.part τ.parts.length) τ (τ1.addPart ⟨τ.now.pos, τ.isS bNot, τ.hName, τ.hSt.numV, τ.tVal, c, []⟩) ∧ GoQ σ τ (condP n σb).dead (τ1.addPart ⟨τ.now.pos, τ.isS bNot, τ.hName, τ.hSt.numV, τ.tVal, c, []⟩) ∧ τ1.parts = τ.parts ∧ OutsM τ.tSt τ1 ∧
      (τ1.wrong < 0 → τ.tSt.wrong < 0 ∧ σb.now.place ≤ (condP n σb).now.place ∧ CondR τ1.nodes c (condP n σb).opsL ∧ OpsIn σb.now.place (condP n σb).now.place (condP n σb).opsL ∧ (condP n σb).opsL.length ≤ 2000) := by
  obtain ⟨c, τ1, halt, C, hO1, hcond⟩ := cond_rel (n := n) G.rel hn
  have hparts : τ1.parts = τ.parts := C.parts.trans G.parts
  have iv := C.rel.inv
  have hi := G.i
  have hci := C.i
  have hb : τ1.parts.length ≤ 100000 := by rw [hparts]; have := iv.ilt; have := iv.toks; omega
  have GG := G.trans C
  refine ⟨c, τ1, ?_, ⟨GG.len, GG.nodes, ?_, GG.toks, GG.i, GG.window, GG.rate, GG.live, (hO.trans hO1).trans (OutsM.of_eq rfl rfl rfl), ⟨⟨iv.nodes, iv.nums, iv.lo, iv.hi, iv.inside, iv.toks, iv.wlo, iv.ilt⟩, C.rel.alt⟩, GG.inside, ?_⟩, hparts, hO1, fun hw => ⟨(C.live hw).1, (C.live hw).2, hcond hw⟩⟩
  · rw [← hparts]
    rcases halt with ⟨hf, rfl, rfl⟩ | ⟨ht, hR⟩
    · exact .part_plain hno h1.small h2.smallA hf hb
    · exact .part_cond hno h1.small h2.smallA ht hR hb
  · show τ.parts <+: τ1.parts ++ _; rw [hparts]; exact List.prefix_append _ _
  · show (τ1.parts ++ [_]).length + τ.i ≤ τ.parts.length + τ1.i + 1
    rw [hparts]; simp only [List.length_append, List.length_cons, List.length_nil]; omega

def PartRel (n : Nat) (part : Rd → Rd × PPart) : Prop := ∀ (σ : Rd) (τ : PSt), Rel σ τ → σ.ahead.length ≤ n → τ.parts.length ≤ τ.i → (τ.wrong < 0 → PInv τ σ.now.place) →
  ∃ (r : Nat) (τ' : PSt), Q (.part r) τ τ' ∧ GoQ σ τ (part σ).1 τ' ∧ (τ'.wrong < 0 → PInv τ' (part σ).1.now.place ∧ r < τ'.parts.length ∧ PR τ'.nodes τ'.parts n r (part σ).2)
/-- nothing that can stand there, or wrong already -/
theorem wrong_part {n : Nat} {σ σ' : Rd} {τ τb : PSt} (hno : τ.isS ⟨#[40]⟩ = false) (hnot : τ.isS bNot = false) (hnm : τ.isName = false) (hb : τb = τ.bad) (g : GoR σ τ σ' τb) (hd : 0 ≤ τb.wrong) (hpi : τ.parts.length ≤ τ.i) :
    ∃ (r : Nat) (τ' : PSt), Q (.part r) τ τ' ∧ GoQ σ τ σ' τ' ∧ 0 ≤ τ'.wrong := by
  have e1 : τ.hSt = τb := by
    unfold PSt.hSt PSt.nam
    rw [if_neg (by rw [hnot]; decide), if_neg (by rw [hnm]; decide), ← hb, bad_want hd]
  have eN : τb.isNum = false := by unfold PSt.isNum; simp only [show ¬ τb.wrong < 0 by omega, decide_false, Bool.and_false]
  have eS : ∀ k, τb.isS k = false := fun k => by unfold PSt.isS; simp only [show ¬ τb.wrong < 0 by omega, decide_false, Bool.false_and]
  have e2 : τ.kSt = τb := by unfold PSt.kSt; rw [e1]; unfold PSt.num; rw [if_neg (by rw [eN]; decide), bad_bad hd]
  have e3 : τ.tSt = τb := by
    unfold PSt.tSt
    have : τ.hasT = false := by unfold PSt.hasT; rw [e2, eS]; simp
    rw [if_neg (by rw [this]; decide)]; exact e2
  have iv := g.rel.inv
  have hparts : τb.parts = τ.parts := g.parts
  have hi := g.i
  have hbound : τ.tSt.parts.length ≤ 100000 := by rw [e3, hparts]; have := iv.ilt; have := iv.toks; omega
  refine ⟨τ.tSt.parts.length, _, .part_plain hno (by rw [e1]; exact iv.small) (by rw [e2]; exact iv.smallA) (by rw [e3]; exact eS _) hbound, ?_, ?_⟩
  · rw [e3]
    refine ⟨g.len, g.nodes, ?_, g.toks, g.i, g.window, g.rate, g.live, ?_, ⟨⟨iv.nodes, iv.nums, iv.lo, iv.hi, iv.inside, iv.toks, iv.wlo, iv.ilt⟩, g.rel.alt⟩, g.inside, ?_⟩
    · show τ.parts <+: τb.parts ++ _; rw [hparts]; exact List.prefix_append _ _
    · rw [hb]; exact (bad_outs τ).trans (OutsM.of_eq rfl rfl rfl)
    · show (τb.parts ++ [_]).length + τ.i ≤ τ.parts.length + τb.i + 1
      rw [hparts]; simp only [List.length_append, List.length_cons, List.length_nil]; omega
  · rw [e3]; exact hd
theorem dead_rel {n : Nat} {σ σ' : Rd} {τ : PSt} (h : Rel σ τ) (hw : 0 ≤ τ.wrong) (hd : σ'.ahead = [⟨0, τ.wrong.toNat, ⟨#[]⟩⟩]) (hpi : τ.parts.length ≤ τ.i) :
    ∃ (r : Nat) (τ' : PSt), Q (.part r) τ τ' ∧ GoQ σ τ σ' τ' ∧ 0 ≤ τ'.wrong := by
  have eS : ∀ k, τ.isS k = false := fun k => by unfold PSt.isS; simp only [show ¬ τ.wrong < 0 by omega, decide_false, Bool.false_and]
  have eN : τ.isName = false := by unfold PSt.isName; simp only [show ¬ τ.wrong < 0 by omega, decide_false, Bool.and_false]
  exact wrong_part (n := n) (eS _) (eS _) eN (bad_bad hw).symm (rel_dead h hw hd) hw hpi

/-- a step -/
theorem step_rel {n : Nat} {σ : Rd} {τ : PSt} (h : Rel σ τ) (hw : τ.wrong < 0) (hn : σ.ahead.length ≤ n + 1) (hpi : τ.parts.length ≤ τ.i) (hP : PInv τ σ.now.place) (hk : σ.now.kind = 3) :
    ∃ (r : Nat) (τ' : PSt), Q (.part r) τ τ' ∧ GoQ σ τ (stepP n σ).1 τ' ∧ (τ'.wrong < 0 → PInv τ' (stepP n σ).1.now.place ∧ r < τ'.parts.length ∧ PR τ'.nodes τ'.parts (n + 1) r (stepP n σ).2) := by
  have ht := h.tr hw
  have hno : τ.isS ⟨#[40]⟩ = false := isS_of h (k := tOpen) (by simp [KW]) (name_not ht hk (by simp [KW]) (.inr (by rfl)))
  have hnot : τ.isS bNot = false := isS_of h (k := tNot) (by simp [KW]) (name_not ht hk (by simp [KW]) (.inl (by simp [resv, tNot])))
  have hname := ht.name
  rw [← now_drop] at hname
  obtain ⟨h2, hs⟩ := hname.2 hk
  have hN := hname.1.1 hk
  have hNm : τ.isName = true := by unfold PSt.isName; rw [hN]; simp [hw]
  obtain ⟨g, hp1, hl1⟩ := rel_skip h hw h2
  have e1 : τ.hSt = τ.adv.want tColon := by unfold PSt.hSt PSt.nam; rw [if_neg (by rw [hnot]; decide), if_pos hNm]; rfl
  have eName : τ.hName = σ.now.text := by unfold PSt.hName PSt.nameV; rw [if_neg (by rw [hnot]; decide), if_pos hNm]; exact hs
  have g1 := rel_want g.rel (k := tColon) (by simp [KW])
  rw [← e1] at g1
  have hO1 : OutsM τ τ.hSt := by rw [e1]; exact (OutsM.of_eq rfl rfl rfl : OutsM τ τ.adv).trans (want_outs _ _)
  unfold stepP
  simp only
  generalize hσ1 : σ.skip.expect [tColon] = σ1 at *
  obtain ⟨g2, hv2, hN2, _⟩ := rel_num g1.rel 0 99
  have e2 : τ.hSt.num ((0 : Nat) : Int) ((99 : Nat) : Int) = τ.kSt := rfl
  rw [e2] at g2
  have hO2 : OutsM τ.hSt τ.kSt := num_outs _ _ _
  generalize hσ2 : σ1.num 0 99 = σ2 at *
  have eT : σ2.has [tTimes] = τ.hasT := by
    rw [has_is, g2.rel.is (k := tTimes) (by simp [KW])]
    unfold PSt.hasT; rw [hnot]; rfl
  have G2 := (g.trans g1).trans g2
  have hlen2 : σ2.ahead.length ≤ n := by have := g1.len; have := g2.len; omega
  have key : ∃ σb : Rd, ∃ tv : Nat, (if σ2.has [tTimes] = true then σ2.skip.num 1 4 else σ2) = σb ∧ (if σ2.has [tTimes] = true then σ2.skip.numV else 1) = tv ∧ GoR σ2 τ.kSt σb τ.tSt ∧ OutsM τ.kSt τ.tSt ∧ τ.tVal = tv ∧ (LensOK τ.kSt → outs τ.tSt = none → τ.tSt.wrong < 0 → tv ≤ 4) := by
    by_cases hT : τ.hasT = true
    · rw [eT, if_pos hT, if_pos hT]
      have hS : τ.kSt.isS tTimes = true := by rw [← g2.rel.is (k := tTimes) (by simp [KW]), ← has_is, eT]; exact hT
      have hw2 := isS_live hS
      obtain ⟨g3, _, _⟩ := rel_skip g2.rel hw2 ((g2.rel.tr hw2).is2 (k := tTimes) (by simp [KW]) (by rw [← g2.rel.is (k := tTimes) (by simp [KW])] at hS; exact hS))
      obtain ⟨g4, hv4, hN4, _⟩ := rel_num g3.rel 1 4
      have e4 : τ.kSt.adv.num ((1 : Nat) : Int) ((4 : Nat) : Int) = τ.tSt := by unfold PSt.tSt; rw [if_pos hT]; rfl
      rw [e4] at g4
      refine ⟨_, _, rfl, rfl, g3.trans g4, ?_, by unfold PSt.tVal; rw [if_pos hT]; exact hv4.symm, ?_⟩
      · rw [← e4]; exact (OutsM.of_eq rfl rfl rfl : OutsM τ.kSt τ.kSt.adv).trans (num_outs _ _ _)
      · intro hl ho hw4
        by_cases hnn : τ.kSt.adv.isNum = true
        · rw [← e4] at ho
          have := (num_range (τ := τ.kSt.adv) hl hnn ho).2
          omega
        · exfalso
          have : 0 ≤ τ.tSt.wrong := by
            rw [← e4]; unfold PSt.num; rw [if_neg hnn]
            exact (rel_fail g3.rel).2
          omega
    · rw [eT, if_neg hT, if_neg hT]
      have e4 : τ.tSt = τ.kSt := by unfold PSt.tSt; rw [if_neg hT]
      refine ⟨_, _, rfl, rfl, by rw [e4]; exact GoR.refl g2.rel, by rw [e4]; exact OutsM.refl _, by unfold PSt.tVal; rw [if_neg hT]; rfl, fun _ _ _ => by omega⟩
  obtain ⟨σb, tv, eb, etv, g3, hO3, htv, htr⟩ := key
  rw [eb, etv]
  have G3 := G2.trans g3
  obtain ⟨c, τ1, hQ, GQ, hparts, hOc, hlive⟩ := leaf_rel (n := n) hno g1.rel.inv g2.rel.inv G3 ((hO1.trans hO2).trans hO3) (by have := g3.len; omega) hpi
  refine ⟨_, _, hQ, GQ, fun hw1 => ?_⟩
  obtain ⟨hwt, hpl, hC, hops, hln⟩ := hlive hw1
  have hplace : σ.now.place + 1 ≤ σb.now.place := by
    have a := g3.live hwt
    have b := g2.live a.1
    have d := g1.live b.1
    omega
  have ePos : (τ.now.pos : Int) = σ.now.place := by rw [now_drop]; exact congrArg Int.ofNat ht.place.symm
  have hne : σ.now.text.toList ≠ [] := by
    intro e
    rcases ht.head with ⟨_, _, hh, _⟩ | ⟨_, ⟨_, hh⟩, _⟩
    · change (σ.now.kind = 1 ∧ _) ∨ (σ.now.kind = 0 ∧ _) at hh; omega
    · change (σ.now.kind = 2 ∧ _) ∨ (σ.now.kind = 3 ∧ _ ∧ _ ∧ _ ∧ isSmallB (byte0 σ.now.text) = true) ∨ (σ.now.kind = 4 ∧ _) ∨ (σ.now.kind = 5 ∧ _) at hh
      rcases hh with ⟨hh, _⟩ | ⟨_, _, _, _, hh⟩ | ⟨hh, _⟩ | ⟨hh, _⟩
      · omega
      · rw [toList_data] at e; unfold byte0 at hh; rw [e] at hh; simp [isSmallB] at hh
      · omega
      · omega
  refine ⟨PInv.add hP ⟨τ.now.pos, τ.isS bNot, τ.hName, τ.hSt.numV, τ.tVal, c, []⟩ (by show τ1.parts ++ _ = _; rw [hparts]) GQ.nodes (by show σ.now.place ≤ (condP n σb).now.place; omega) ?_ (by simp) ?_ (by simp) ?_ ?_, ?_, ?_⟩
  · intro o; exact ((hO1.trans hO2).trans (hO3.trans (hOc.trans (OutsM.of_eq rfl rfl rfl))) h.inv.lens).2 o
  · intro o
    have := htr g2.rel.inv.lens ((hOc.trans (OutsM.of_eq rfl rfl rfl : OutsM τ1 (τ1.addPart _)) g3.rel.inv.lens).2 o) hwt
    show 0 ≤ τ.tVal ∧ τ.tVal ≤ 4
    rw [htv]; omega
  · intro _
    show (σ.now.place : Int) ≤ (τ.now.pos : Int) ∧ (τ.now.pos : Int) < ((condP n σb).now.place : Nat)
    rw [ePos]; omega
  · intro _
    show c = -1 ∨ _
    rcases hC with ⟨e, _⟩ | ⟨k, t, h1, h2, h3⟩
    · exact .inl e
    · refine .inr ⟨k, t, h1, h2, fun q hq => ?_⟩
      have := h3.places (hops.down hplace) q hq
      show (τ.now.pos : Int) < q ∧ q < ((condP n σb).now.place : Nat)
      rw [ePos]; omega
  · show τ.parts.length < (τ1.parts ++ [_]).length; rw [hparts]; simp
  · refine ⟨⟨τ.now.pos, τ.isS bNot, τ.hName, τ.hSt.numV, τ.tVal, c, []⟩, by show (τ1.parts ++ [_])[τ.parts.length]? = _; rw [hparts]; simp, .inl ⟨rfl, rfl, ePos, ?_, eName, hC, ⟨_, hops.down hplace⟩, hln, .inr ⟨hnot, hne, htv⟩⟩⟩
    exact hv2.symm
/-- a guard -/
theorem guard_rel {n : Nat} {σ : Rd} {τ : PSt} (h : Rel σ τ) (hw : τ.wrong < 0) (hn : σ.ahead.length ≤ n + 1) (hpi : τ.parts.length ≤ τ.i) (hP : PInv τ σ.now.place) (hk : σ.now.is tNot = true) :
    ∃ (r : Nat) (τ' : PSt), Q (.part r) τ τ' ∧ GoQ σ τ (guardP n σ).1 τ' ∧ (τ'.wrong < 0 → PInv τ' (guardP n σ).1.now.place ∧ r < τ'.parts.length ∧ PR τ'.nodes τ'.parts (n + 1) r (guardP n σ).2) := by
  have ht := h.tr hw
  have hnot : τ.isS bNot = true := isS_of h (k := tNot) (by simp [KW]) hk
  have hno : τ.isS ⟨#[40]⟩ = false := by
    apply Bool.eq_false_iff.2
    intro e
    unfold PSt.isS RTok.isS at e hnot
    simp only [Bool.and_eq_true, beq_iff_eq] at e hnot
    have : (⟨#[40]⟩ : ByteArray).toList = bNot.toList := by rw [← e.2.2, ← hnot.2.2]
    exact absurd this (by rw [show (⟨#[40]⟩ : ByteArray).toList = [40] by kernel_rfl, show bNot.toList = [110, 111, 116] by kernel_rfl]; decide)
  obtain ⟨g, hp1, hl1⟩ := rel_skip h hw (ht.is2 (k := tNot) (by simp [KW]) hk)
  have e1 : τ.hSt = τ.adv := by unfold PSt.hSt; rw [if_pos hnot]
  have eName : τ.hName = ⟨#[]⟩ := by unfold PSt.hName; rw [if_pos hnot]; rfl
  rw [← e1] at g
  unfold guardP
  simp only
  obtain ⟨g2, hv2, hN2, _⟩ := rel_num g.rel 0 99
  have e2 : τ.hSt.num ((0 : Nat) : Int) ((99 : Nat) : Int) = τ.kSt := rfl
  rw [e2] at g2
  have hO2 : OutsM τ τ.kSt := OutsM.trans (by rw [e1]; exact OutsM.of_eq rfl rfl rfl) (num_outs τ.hSt _ _)
  generalize hσ2 : σ.skip.num 0 99 = σ2 at *
  have hT : τ.hasT = false := by unfold PSt.hasT; rw [hnot]; rfl
  have e3 : τ.tSt = τ.kSt := by unfold PSt.tSt; rw [if_neg (by rw [hT]; decide)]
  have e4 : τ.tVal = 1 := by unfold PSt.tVal; rw [if_neg (by rw [hT]; decide)]
  have G2 := g.trans g2
  rw [← e3] at G2
  obtain ⟨c, τ1, hQ, GQ, hparts, hOc, hlive⟩ := leaf_rel (n := n) hno g.rel.inv g2.rel.inv G2 (by rw [e3]; exact hO2) (by have := g2.len; omega) hpi
  refine ⟨_, _, hQ, GQ, fun hw1 => ?_⟩
  obtain ⟨hwt, hpl, hC, hops, hln⟩ := hlive hw1
  have hplace : σ.now.place + 1 ≤ σ2.now.place := by
    have a := g2.live (by rw [← e3]; exact hwt)
    omega
  have ePos : (τ.now.pos : Int) = σ.now.place := by rw [now_drop]; exact congrArg Int.ofNat ht.place.symm
  refine ⟨PInv.add hP ⟨τ.now.pos, τ.isS bNot, τ.hName, τ.hSt.numV, τ.tVal, c, []⟩ (by show τ1.parts ++ _ = _; rw [hparts]) GQ.nodes (by show σ.now.place ≤ (condP n σ2).now.place; omega) ?_ (by simp) ?_ (by simp) ?_ ?_, ?_, ?_⟩
  · intro o
    rw [e3] at hOc
    exact (hO2.trans (hOc.trans (OutsM.of_eq rfl rfl rfl)) h.inv.lens).2 o
  · intro _
    show 0 ≤ τ.tVal ∧ τ.tVal ≤ 4
    rw [e4]; omega
  · intro _
    show (σ.now.place : Int) ≤ (τ.now.pos : Int) ∧ (τ.now.pos : Int) < ((condP n σ2).now.place : Nat)
    rw [ePos]; omega
  · intro _
    show c = -1 ∨ _
    rcases hC with ⟨e, _⟩ | ⟨k, t, h1, h2, h3⟩
    · exact .inl e
    · refine .inr ⟨k, t, h1, h2, fun q hq => ?_⟩
      have := h3.places (hops.down hplace) q hq
      show (τ.now.pos : Int) < q ∧ q < ((condP n σ2).now.place : Nat)
      rw [ePos]; omega
  · show τ.parts.length < (τ1.parts ++ [_]).length; rw [hparts]; simp
  · refine ⟨⟨τ.now.pos, τ.isS bNot, τ.hName, τ.hSt.numV, τ.tVal, c, []⟩, by show (τ1.parts ++ [_])[τ.parts.length]? = _; rw [hparts]; simp, .inl ⟨rfl, rfl, ePos, ?_, eName, hC, ⟨_, hops.down hplace⟩, hln, .inl ⟨hnot, mt_list, rfl, e4⟩⟩⟩
    exact hv2.symm
end Go.Proofs.YtddbjcfdmdbmkaaGreatDoor

/-
  Both readers, plain: sequences, brackets, parts.
-/
namespace Go.Proofs.YtddbjcfdmdbmkaaGreatDoor
open Go.RowKit

theorem GoQ.trans1 {σ σ1 σ2 : Rd} {τ τ1 τ2 : PSt} (a : GoQ σ τ σ1 τ1) (b : GoQ σ1 τ1.adv σ2 τ2) : GoQ σ τ σ2 τ2 :=
  ⟨Nat.le_trans b.len a.len, a.nodes.trans b.nodes, a.parts.trans b.parts, b.toks.trans a.toks, Nat.le_trans a.i (Nat.le_trans (Nat.le_succ _) b.i), b.window.trans a.window, b.rate.trans a.rate, fun h => ⟨(a.live (b.live h).1).1, Nat.le_trans (a.live (b.live h).1).2 (b.live h).2⟩, (a.outs.trans (OutsM.of_eq rfl rfl rfl)).trans b.outs, b.rel, b.inside.trans a.inside, by have x := a.cnt; have y := b.cnt; have e1 : τ1.adv.i = τ1.i + 1 := rfl; have e2 : τ1.adv.parts = τ1.parts := rfl; rw [e1, e2] at y; omega⟩
/-- the next token lies between -/
theorem GoQ.skip {σ σ1 σ2 : Rd} {τ τ1 τ2 : PSt} (a : GoQ σ τ σ1 τ1) (g : GoR σ1 τ1 σ1.skip τ1.adv) (b : GoQ σ1.skip τ1.adv σ2 τ2) : GoQ σ τ σ2 τ2 := by
  have b' : GoQ σ1 τ1.adv σ2 τ2 := ⟨Nat.le_trans b.len g.len, b.nodes, b.parts, b.toks, b.i, b.window, b.rate, fun h => ⟨(b.live h).1, Nat.le_trans (g.live (b.live h).1).2 (b.live h).2⟩, b.outs, b.rel, b.inside, b.cnt⟩
  exact a.trans1 b'
theorem PInv.adv {τ : PSt} {lo hi : Nat} (h : PInv τ lo) (hl : lo ≤ hi) : PInv τ.adv hi := h.next rfl (List.prefix_refl _) hl (fun o => o)

theorem seq_loop {n : Nat} {part : Rd → Rd × PPart} (H : PartRel n part) :
    ∀ (k : Nat) (σ : Rd) (τ : PSt) (acc : List Nat) (ps : List PPart), Rel σ τ → σ.ahead.length ≤ n → τ.parts.length ≤ τ.i → acc.length ≤ τ.i → (τ.wrong < 0 → PInv τ σ.now.place ∧ SeqR (PR τ.nodes τ.parts n) acc ps ∧ ∀ j ∈ acc, j < τ.parts.length) →
    (part σ).1.ahead.length ≤ k → ∃ (out : List Nat) (τ' : PSt), Q (.seq acc out) τ τ' ∧ GoQ σ τ (seqL part k (part σ).1 (ps ++ [(part σ).2])).1 τ' ∧ (acc.length + 1 ≤ out.length ∧ out.length ≤ τ'.i + 1) ∧
      (τ'.wrong < 0 → PInv τ' (seqL part k (part σ).1 (ps ++ [(part σ).2])).1.now.place ∧ SeqR (PR τ'.nodes τ'.parts n) out (seqL part k (part σ).1 (ps ++ [(part σ).2])).2 ∧ ∀ j ∈ out, j < τ'.parts.length) := by
  intro k
  induction k with
  | zero =>
    intro σ τ acc ps h hn hpi hacc hP h0
    obtain ⟨r, τ1, hQ, G, hL⟩ := H σ τ h hn hpi (fun hw => (hP hw).1)
    have := G.rel.pos; omega
  | succ k ih =>
    intro σ τ acc ps h hn hpi hacc hP hk
    obtain ⟨r, τ1, hQ, G, hL⟩ := H σ τ h hn hpi (fun hw => (hP hw).1)
    have iv := G.rel.inv
    have hal : acc.length ≤ 10000 := by have := h.inv.ilt; have := h.inv.toks; omega
    have hcnt := G.cnt
    have hgi := G.i
    have hacc1 : τ1.wrong < 0 → PInv τ1 (part σ).1.now.place ∧ SeqR (PR τ1.nodes τ1.parts n) (acc ++ [r]) (ps ++ [(part σ).2]) ∧ ∀ j ∈ acc ++ [r], j < τ1.parts.length := by
      intro hw1
      obtain ⟨p1, p2, p3⟩ := hL hw1
      obtain ⟨q1, q2, q3⟩ := hP (G.live hw1).1
      refine ⟨p1, (q2.imp (PR.mono G.nodes G.parts n)).snoc p3, fun j hj => ?_⟩
      rcases List.mem_append.1 hj with hj | hj
      · have := q3 j hj; have := G.parts.length_le; omega
      · simp at hj; omega
    generalize hσ1 : (part σ).1 = σ1 at *
    generalize hp : (part σ).2 = p at *
    unfold seqL
    rw [has_is, G.rel.is (k := tThen) (by simp [KW])]
    by_cases hh : τ1.isS tThen = true
    · rw [if_pos hh]
      have hw1 := isS_live hh
      obtain ⟨g, hpl, hlen⟩ := rel_skip G.rel hw1 ((G.rel.tr hw1).is2 (k := tThen) (by simp [KW]) (by rw [← G.rel.is (k := tThen) (by simp [KW])] at hh; exact hh))
      obtain ⟨a1, a2, a3⟩ := hacc1 hw1
      have hb : σ1.skip.ahead.length ≤ n := by have := G.len; omega
      have hpi1 : τ1.adv.parts.length ≤ τ1.adv.i := by show τ1.parts.length ≤ τ1.i + 1; omega
      have hkk : (part σ1.skip).1.ahead.length ≤ k := by
        obtain ⟨_, _, _, G', _⟩ := H σ1.skip τ1.adv g.rel hb hpi1 (fun _ => a1.adv (Nat.le_of_lt hpl))
        have := G'.len; omega
      obtain ⟨out, τ', hQ2, G2, ho, hL2⟩ := ih σ1.skip τ1.adv (acc ++ [r]) (ps ++ [p]) g.rel hb hpi1 (by simp only [List.length_append, List.length_cons, List.length_nil]; show acc.length + 1 ≤ τ1.i + 1; omega) (fun _ => ⟨a1.adv (Nat.le_of_lt hpl), a2, a3⟩) hkk
      refine ⟨out, τ', .seq_more hal hQ hh hQ2, G.skip g G2, ⟨?_, ho.2⟩, hL2⟩
      have := ho.1
      simp only [List.length_append, List.length_cons, List.length_nil] at this; omega
    · rw [if_neg hh]
      exact ⟨acc ++ [r], τ1, .seq_end hal hQ (Bool.eq_false_iff.2 hh), G, by simp only [List.length_append, List.length_cons, List.length_nil]; omega, hacc1⟩
def SeqRel (n : Nat) (seq : Rd → Rd × List PPart) : Prop := ∀ (σ : Rd) (τ : PSt), Rel σ τ → σ.ahead.length ≤ n → τ.parts.length ≤ τ.i → (τ.wrong < 0 → PInv τ σ.now.place) →
  ∃ (out : List Nat) (τ' : PSt), Q (.seq [] out) τ τ' ∧ GoQ σ τ (seq σ).1 τ' ∧ (1 ≤ out.length ∧ out.length ≤ 1000) ∧ (τ'.wrong < 0 → PInv τ' (seq σ).1.now.place ∧ SeqR (PR τ'.nodes τ'.parts n) out (seq σ).2 ∧ ∀ j ∈ out, j < τ'.parts.length)
theorem seq_rel {n : Nat} {part : Rd → Rd × PPart} (H : PartRel n part) : SeqRel n (seqP part) := by
  intro σ τ h hn hpi hP
  obtain ⟨out, τ', hQ, G, ho, hL⟩ := seq_loop H (part σ).1.ahead.length σ τ [] [] h hn hpi (by simp) (fun hw => ⟨hP hw, SeqR.nil _, by simp⟩) (Nat.le_refl _)
  refine ⟨out, τ', hQ, G, ?_, hL⟩
  have := G.rel.inv.ilt; have := G.rel.inv.toks; have := ho.1; have := ho.2
  simp only [List.length_nil] at *; omega

theorem bar_loop {n : Nat} {seq : Rd → Rd × List PPart} (H : SeqRel n seq) :
    ∀ (k : Nat) (σ : Rd) (τ : PSt) (acc : List (List Nat)) (cs : List (List PPart)), Rel σ τ → σ.ahead.length ≤ n → τ.parts.length ≤ τ.i → acc.length ≤ τ.i → (τ.wrong < 0 → PInv τ σ.now.place ∧ WaysR (PR τ.nodes τ.parts n) acc cs ∧ ∀ l ∈ acc, (1 ≤ l.length ∧ l.length ≤ 1000) ∧ ∀ j ∈ l, j < τ.parts.length) →
    (seq σ).1.ahead.length ≤ k → ∃ (out : List (List Nat)) (τ' : PSt), Q (.brk acc out) τ τ' ∧ GoQ σ τ (barL seq k (seq σ).1 (cs ++ [(seq σ).2])).1 τ' ∧ out.length ≤ τ'.i + 1 ∧ acc.length + 1 ≤ out.length ∧
      (τ'.wrong < 0 → PInv τ' (barL seq k (seq σ).1 (cs ++ [(seq σ).2])).1.now.place ∧ WaysR (PR τ'.nodes τ'.parts n) out (barL seq k (seq σ).1 (cs ++ [(seq σ).2])).2 ∧ ∀ l ∈ out, (1 ≤ l.length ∧ l.length ≤ 1000) ∧ ∀ j ∈ l, j < τ'.parts.length) := by
  intro k
  induction k with
  | zero =>
    intro σ τ acc ps h hn hpi hacc hP h0
    obtain ⟨r, τ1, hQ, G, _, hL⟩ := H σ τ h hn hpi (fun hw => (hP hw).1)
    have := G.rel.pos; omega
  | succ k ih =>
    intro σ τ acc ps h hn hpi hacc hP hk
    obtain ⟨r, τ1, hQ, G, hr, hL⟩ := H σ τ h hn hpi (fun hw => (hP hw).1)
    have iv := G.rel.inv
    have hal : acc.length ≤ 10000 := by have := h.inv.ilt; have := h.inv.toks; omega
    have hcnt := G.cnt
    have hgi := G.i
    have hacc1 : τ1.wrong < 0 → PInv τ1 (seq σ).1.now.place ∧ WaysR (PR τ1.nodes τ1.parts n) (acc ++ [r]) (ps ++ [(seq σ).2]) ∧ ∀ l ∈ acc ++ [r], (1 ≤ l.length ∧ l.length ≤ 1000) ∧ ∀ j ∈ l, j < τ1.parts.length := by
      intro hw1
      obtain ⟨p1, p2, p3⟩ := hL hw1
      obtain ⟨q1, q2, q3⟩ := hP (G.live hw1).1
      refine ⟨p1, (q2.imp (PR.mono G.nodes G.parts n)).snoc p2, fun l hl => ?_⟩
      rcases List.mem_append.1 hl with hl | hl
      · refine ⟨(q3 l hl).1, fun j hj => ?_⟩
        have := (q3 l hl).2 j hj; have := G.parts.length_le; omega
      · simp at hl; subst hl; exact ⟨hr, p3⟩
    generalize hσ1 : (seq σ).1 = σ1 at *
    generalize hp : (seq σ).2 = p at *
    unfold barL
    rw [has_is, G.rel.is (k := tBar) (by simp [KW])]
    by_cases hh : τ1.isS tBar = true
    · rw [if_pos hh]
      have hw1 := isS_live hh
      obtain ⟨g, hpl, hlen⟩ := rel_skip G.rel hw1 ((G.rel.tr hw1).is2 (k := tBar) (by simp [KW]) (by rw [← G.rel.is (k := tBar) (by simp [KW])] at hh; exact hh))
      obtain ⟨a1, a2, a3⟩ := hacc1 hw1
      have hb : σ1.skip.ahead.length ≤ n := by have := G.len; omega
      have hpi1 : τ1.adv.parts.length ≤ τ1.adv.i := by show τ1.parts.length ≤ τ1.i + 1; omega
      have hkk : (seq σ1.skip).1.ahead.length ≤ k := by
        obtain ⟨_, _, _, G', _⟩ := H σ1.skip τ1.adv g.rel hb hpi1 (fun _ => a1.adv (Nat.le_of_lt hpl))
        have := G'.len; omega
      obtain ⟨out, τ', hQ2, G2, ho, ho2, hL2⟩ := ih σ1.skip τ1.adv (acc ++ [r]) (ps ++ [p]) g.rel hb hpi1 (by simp only [List.length_append, List.length_cons, List.length_nil]; show acc.length + 1 ≤ τ1.i + 1; omega) (fun _ => ⟨a1.adv (Nat.le_of_lt hpl), a2, a3⟩) hkk
      refine ⟨out, τ', .brk_more hal hQ hh hQ2, G.skip g G2, ho, ?_, hL2⟩
      simp only [List.length_append, List.length_cons, List.length_nil] at ho2; omega
    · rw [if_neg hh]
      exact ⟨acc ++ [r], τ1, .brk_end hal hQ (Bool.eq_false_iff.2 hh), G, by simp only [List.length_append, List.length_cons, List.length_nil]; omega, by simp, hacc1⟩
def DeadP {α : Type} (f : Rd → Rd × α) : Prop := ∀ (σ : Rd) (p : Nat), σ.ahead = [⟨0, p, ⟨#[]⟩⟩] → (f σ).1.ahead = [⟨0, p, ⟨#[]⟩⟩]
theorem dead_part (n : Nat) : DeadP (partP n) := by
  intro σ p h
  cases n with
  | zero => exact h
  | succ n =>
    have hk : σ.now.kind = 0 := by unfold Rd.now; rw [h]; rfl
    unfold partP
    rw [if_neg (by omega), if_neg (by rw [dead_is h (by simp [KW])]; decide), if_neg (by rw [dead_is h (by simp [KW])]; decide)]
    exact dead_fail h
theorem dead_seq {part : Rd → Rd × PPart} (hp : DeadP part) : DeadP (seqP part) := by
  intro σ p h
  have h1 := hp σ p h
  unfold seqP
  generalize (part σ).1.ahead.length = k
  cases k with
  | zero => exact h1
  | succ k => unfold seqL; rw [if_neg (by rw [dead_has h1 (by simp [KW])]; decide)]; exact h1
theorem dead_bar {seq : Rd → Rd × List PPart} (k : Nat) (cs : List (List PPart)) {σ : Rd} {p : Nat} (h : σ.ahead = [⟨0, p, ⟨#[]⟩⟩]) : (barL seq k σ cs).1.ahead = [⟨0, p, ⟨#[]⟩⟩] := by
  cases k with
  | zero => exact h
  | succ k => unfold barL; rw [if_neg (by rw [dead_has h (by simp [KW])]; decide)]; exact h
/-- ways, behind the bracket that opens them -/
theorem brackets_rel {n : Nat} {seq : Rd → Rd × List PPart} (H : SeqRel n seq) (hd : DeadP seq) {σ : Rd} {τ : PSt} (h : Rel σ τ) (hw : τ.wrong < 0) (hn : σ.ahead.length ≤ n + 1) (hpi : τ.parts.length ≤ τ.i) (hP : PInv τ σ.now.place) (hk : σ.now.is tOpen = true) :
    ∃ (r : Nat) (τ' : PSt), Q (.part r) τ τ' ∧ GoQ σ τ (bracketsP seq σ).1 τ' ∧ (τ'.wrong < 0 → PInv τ' (bracketsP seq σ).1.now.place ∧ r < τ'.parts.length ∧ PR τ'.nodes τ'.parts (n + 1) r (bracketsP seq σ).2) := by
  have hS : τ.isS tOpen = true := isS_of h (k := tOpen) (by simp [KW]) hk
  obtain ⟨g, hr, hin, hl, hin2⟩ := rel_enter h (k := tOpen) (by simp [KW]) hS
  have hO0 : OutsM τ (τ.adv.down τ.now.pos) := OutsM.of_eq rfl rfl rfl
  have hi0 : (τ.adv.down τ.now.pos).i = τ.i + 1 := rfl
  have hp0 : (τ.adv.down τ.now.pos).parts = τ.parts := rfl
  have hpi0 : (τ.adv.down τ.now.pos).parts.length ≤ (τ.adv.down τ.now.pos).i := by rw [hi0, hp0]; omega
  have hlen0 : σ.enter.ahead.length ≤ n := by omega
  have hP0 : PInv (τ.adv.down τ.now.pos) σ.enter.now.place := hP.next rfl (List.prefix_refl _) (g.live hw).2 (fun o => o)
  -- the state behind all ways, and what the program has read
  have key : ∃ (ways : List (List Nat)) (τ1 : PSt) (σc : Rd) (cs : List (List PPart)), Q (.brk [] ways) (τ.adv.down τ.now.pos) τ1 ∧ bracketsP seq σ = ((σc.expect [tClose]).leave, .mk ⟨#[]⟩ 0 0 0 [] cs) ∧
      ((2 ≤ ways.length ∧ GoQ σ.enter (τ.adv.down τ.now.pos) σc τ1 ∧ ways.length ≤ 1000 ∧ (τ1.wrong < 0 → PInv τ1 σc.now.place ∧ WaysR (PR τ1.nodes τ1.parts n) ways cs ∧ ∀ l ∈ ways, (1 ≤ l.length ∧ l.length ≤ 1000) ∧ ∀ j ∈ l, j < τ1.parts.length)) ∨
       (ways.length < 2 ∧ ∃ σa : Rd, GoQ σ.enter (τ.adv.down τ.now.pos) σa τ1 ∧ σc.ahead = [⟨0, τ1.bad.wrong.toNat, ⟨#[]⟩⟩])) := by
    obtain ⟨ra, τa, hQa, Ga, hra, hLa⟩ := H σ.enter (τ.adv.down τ.now.pos) hr hlen0 hpi0 (fun _ => hP0)
    unfold bracketsP
    simp only
    generalize hσa : (seq σ.enter).1 = σa at *
    generalize hca : (seq σ.enter).2 = ca at *
    have hGi := Ga.i
    have hcnt := Ga.cnt
    by_cases hh : τa.isS tBar = true
    · have hwa := isS_live hh
      have hhp : σa.has [tBar] = true := by rw [has_is, Ga.rel.is (k := tBar) (by simp [KW])]; exact hh
      obtain ⟨ga, hpla, hla⟩ := rel_skip Ga.rel hwa ((Ga.rel.tr hwa).is2 (k := tBar) (by simp [KW]) (by have := hhp; rw [has_is] at this; exact this))
      have ee : σa.expect [tBar] = σa.skip := by unfold Rd.expect; rw [if_pos hhp]
      rw [ee]
      obtain ⟨p1, p2, p3⟩ := hLa hwa
      have hpi1 : τa.adv.parts.length ≤ τa.adv.i := by show τa.parts.length ≤ τa.i + 1; omega
      have hlen1 : σa.skip.ahead.length ≤ n := by have := Ga.len; omega
      obtain ⟨out, τ1, hQ, G, ho, ho2, hL⟩ := bar_loop H (seq σa.skip).1.ahead.length σa.skip τa.adv [ra] [ca] ga.rel hlen1 hpi1 (by show 1 ≤ τa.i + 1; omega) (fun _ => ⟨p1.adv (Nat.le_of_lt hpla), (WaysR.nil _).snoc p2, fun l hl => by simp at hl; subst hl; exact ⟨hra, p3⟩⟩) (Nat.le_refl _)
      refine ⟨out, τ1, _, _, .brk_more (by simp) hQa hh hQ, rfl, .inl ⟨?_, Ga.skip ga G, ?_, hL⟩⟩
      · simp at ho2; exact ho2
      · have := G.rel.inv.ilt; have := G.rel.inv.toks; omega
    · have hhp : ¬ σa.has [tBar] = true := by rw [has_is, Ga.rel.is (k := tBar) (by simp [KW])]; exact hh
      have ee : σa.expect [tBar] = σa.fail := by unfold Rd.expect; rw [if_neg hhp]
      rw [ee]
      obtain ⟨gf, h0⟩ := rel_fail Ga.rel
      have hdead := gf.rel.dead h0
      refine ⟨[ra], τa, _, _, .brk_end (by simp) hQa (Bool.eq_false_iff.2 hh), rfl, .inr ⟨by simp, σa, Ga, ?_⟩⟩
      exact dead_bar _ _ (hd _ _ hdead)
  obtain ⟨ways, τ1, σc, cs, hQ, eB, hcase⟩ := key
  rw [eB]
  simp only
  rcases hcase with ⟨hw2, G, hwl, hL⟩ | ⟨hw2, σa, G, hdead⟩
  · have hins : τ1.inside = τ.inside + 1 := G.inside.trans hin
    have hGi := G.i
    have hcnt := G.cnt
    rw [hi0] at hGi
    rw [hi0, hp0] at hcnt
    have iv := G.rel.inv
    have L := rel_leave G.rel hins
    have W := rel_want L (k := tClose) (by simp [KW])
    have eL : σc.leave.expect [tClose] = (σc.expect [tClose]).leave := by
      unfold Rd.expect
      have : σc.leave.has [tClose] = σc.has [tClose] := rfl
      rw [this]; split <;> rfl
    rw [eL] at W
    have eC : ({ τ1 with inside := τ.inside } : PSt).closed ways = ({ τ1 with inside := τ.inside } : PSt).want tClose := by unfold PSt.closed; rw [if_neg (by omega)]; rfl
    have hWp : (({ τ1 with inside := τ.inside } : PSt).want tClose).parts = τ1.parts := W.parts
    have hWi : τ1.i ≤ (({ τ1 with inside := τ.inside } : PSt).want tClose).i := W.i
    have hOW : OutsM τ1 (({ τ1 with inside := τ.inside } : PSt).want tClose) := (OutsM.of_eq rfl rfl rfl : OutsM τ1 { τ1 with inside := τ.inside }).trans (want_outs _ _)
    have ivW := W.rel.inv
    have hQ' := Q.part_brk (σ := τ) hS (by omega) hQ hins (by omega) (by have := iv.ilt; have := iv.toks; omega)
    rw [eC] at hQ'
    refine ⟨_, _, hQ', ⟨?_, ?_, ?_, ?_, ?_, ?_, ?_, ?_, ?_, ⟨⟨ivW.nodes, ivW.nums, ivW.lo, ivW.hi, ivW.inside, ivW.toks, ivW.wlo, ivW.ilt⟩, W.rel.alt⟩, ?_, ?_⟩, ?_⟩
    · exact Nat.le_trans W.len (Nat.le_trans G.len (by omega))
    · exact G.nodes.trans W.nodes
    · show τ.parts <+: (({ τ1 with inside := τ.inside } : PSt).want tClose).parts ++ _
      rw [hWp]; exact G.parts.trans (List.prefix_append _ _)
    · exact W.toks.trans G.toks
    · show τ.i ≤ (({ τ1 with inside := τ.inside } : PSt).want tClose).i; omega
    · exact W.window.trans G.window
    · exact W.rate.trans G.rate
    · intro hw3
      have w := W.live hw3
      have c := G.live w.1
      have d := g.live c.1
      exact ⟨hw, Nat.le_trans d.2 (Nat.le_trans c.2 w.2)⟩
    · exact (hO0.trans G.outs).trans (hOW.trans (OutsM.of_eq rfl rfl rfl))
    · exact W.inside
    · show ((({ τ1 with inside := τ.inside } : PSt).want tClose).parts ++ [_]).length + τ.i ≤ τ.parts.length + (({ τ1 with inside := τ.inside } : PSt).want tClose).i + 1
      rw [hWp]; simp only [List.length_append, List.length_cons, List.length_nil]; omega
    · intro hw3
      have w := W.live hw3
      have hw1 : τ1.wrong < 0 := w.1
      obtain ⟨l1, l2, l3⟩ := hL hw1
      refine ⟨PInv.add l1 ⟨τ.now.pos, false, mt, 0, 1, -1, ways⟩ (by show (({ τ1 with inside := τ.inside } : PSt).want tClose).parts ++ _ = _; rw [hWp]) W.nodes w.2 ?_ ?_ ?_ ?_ ?_ ?_, ?_, ?_⟩
      · intro o; exact ((hOW.trans (OutsM.of_eq rfl rfl rfl : OutsM _ (PSt.addPart _ _))) iv.lens).2 o
      · intro l hl; exact (l3 l hl).2
      · intro _; show (0 : Int) ≤ 1 ∧ (1 : Int) ≤ 4; omega
      · exact ⟨hwl, fun l hl => (l3 l hl).1⟩
      · intro e; have e' : ways = [] := e; rw [e'] at hw2; simp at hw2
      · intro e; have e' : ways = [] := e; rw [e'] at hw2; simp at hw2
      · show τ1.parts.length < ((({ τ1 with inside := τ.inside } : PSt).want tClose).parts ++ [_]).length
        rw [hWp]; simp
      · refine ⟨⟨τ.now.pos, false, mt, 0, 1, -1, ways⟩, ?_, .inr ⟨rfl, mt_list, hw2, ?_⟩⟩
        · show ((({ τ1 with inside := τ.inside } : PSt).want tClose).parts ++ [_])[τ1.parts.length]? = _
          rw [hWp]; simp
        · refine l2.imp (PR.mono W.nodes ?_ n)
          show τ1.parts <+: (({ τ1 with inside := τ.inside } : PSt).want tClose).parts ++ _
          rw [hWp]; exact List.prefix_append _ _
  · have hins : τ1.inside = τ.inside + 1 := G.inside.trans hin
    have hGi := G.i
    have hcnt := G.cnt
    rw [hi0] at hGi
    rw [hi0, hp0] at hcnt
    have iv := G.rel.inv
    have L := rel_leave G.rel hins
    obtain ⟨gf, h0⟩ := rel_fail L
    have eC : ({ τ1 with inside := τ.inside } : PSt).closed ways = ({ τ1 with inside := τ.inside } : PSt).bad := by unfold PSt.closed; rw [if_pos hw2, bad_want h0]
    have eW : ({ τ1 with inside := τ.inside } : PSt).bad.wrong = τ1.bad.wrong := by unfold PSt.bad; split <;> rfl
    have hBp : ({ τ1 with inside := τ.inside } : PSt).bad.parts = τ1.parts := gf.parts
    have hBi : ({ τ1 with inside := τ.inside } : PSt).bad.i = τ1.i := (bad_same _).2
    have hdd : ((σc.expect [tClose]).leave).ahead = [⟨0, ({ τ1 with inside := τ.inside } : PSt).bad.wrong.toNat, ⟨#[]⟩⟩] := by rw [eW]; exact dead_expect hdead (by simp [KW])
    have ivB := gf.rel.inv
    have hQ' := Q.part_brk (σ := τ) hS (by omega) hQ hins (by omega) (by have := iv.ilt; have := iv.toks; omega)
    rw [eC] at hQ'
    refine ⟨_, _, hQ', ⟨?_, ?_, ?_, ?_, ?_, ?_, ?_, ?_, ?_, ⟨⟨ivB.nodes, ivB.nums, ivB.lo, ivB.hi, ivB.inside, ivB.toks, ivB.wlo, ivB.ilt⟩, .inr ⟨h0, hdd⟩⟩, ?_, ?_⟩, ?_⟩
    · rw [hdd]; show 1 ≤ _; have := h.pos; omega
    · exact G.nodes.trans gf.nodes
    · show τ.parts <+: ({ τ1 with inside := τ.inside } : PSt).bad.parts ++ _
      rw [hBp]; exact G.parts.trans (List.prefix_append _ _)
    · exact gf.toks.trans G.toks
    · show τ.i ≤ ({ τ1 with inside := τ.inside } : PSt).bad.i; omega
    · exact gf.window.trans G.window
    · exact gf.rate.trans G.rate
    · intro hw3
      have : ({ τ1 with inside := τ.inside } : PSt).bad.wrong < 0 := hw3
      omega
    · exact (hO0.trans G.outs).trans (((OutsM.of_eq rfl rfl rfl : OutsM τ1 { τ1 with inside := τ.inside }).trans (bad_outs _)).trans (OutsM.of_eq rfl rfl rfl))
    · exact gf.inside
    · show (({ τ1 with inside := τ.inside } : PSt).bad.parts ++ [_]).length + τ.i ≤ τ.parts.length + ({ τ1 with inside := τ.inside } : PSt).bad.i + 1
      rw [hBp, hBi]; simp only [List.length_append, List.length_cons, List.length_nil]; omega
    · intro hw3
      have : ({ τ1 with inside := τ.inside } : PSt).bad.wrong < 0 := hw3
      omega
theorem part_rel (n : Nat) : PartRel n (partP n) := by
  induction n with
  | zero => intro σ τ h hn; have := h.pos; omega
  | succ n ih =>
    intro σ τ h hn hpi hP
    by_cases hw : τ.wrong < 0
    · have ht := h.tr hw
      unfold partP
      by_cases hk : σ.now.kind = 3
      · rw [if_pos hk]; exact step_rel h hw hn hpi (hP hw) hk
      · rw [if_neg hk]
        by_cases hnt : σ.now.is tNot = true
        · rw [if_pos hnt]; exact guard_rel h hw hn hpi (hP hw) hnt
        · rw [if_neg hnt]
          by_cases ho : σ.now.is tOpen = true
          · rw [if_pos ho]; exact brackets_rel (seq_rel ih) (dead_seq (dead_part n)) h hw hn hpi (hP hw) ho
          · rw [if_neg ho]
            obtain ⟨g, h0⟩ := rel_fail h
            have hname := ht.name
            rw [← now_drop] at hname
            have hNm : τ.isName = false := by
              apply Bool.eq_false_iff.2
              intro e
              unfold PSt.isName at e
              rw [Bool.and_eq_true] at e
              exact hk (hname.1.2 e.1)
            obtain ⟨r, τ', hQ, G, h0'⟩ := wrong_part (n := n) (isS_of h (k := tOpen) (by simp [KW]) (Bool.eq_false_iff.2 ho)) (isS_of h (k := tNot) (by simp [KW]) (Bool.eq_false_iff.2 hnt)) hNm rfl g h0 hpi
            exact ⟨r, τ', hQ, G, fun h => by omega⟩
    · obtain ⟨r, τ', hQ, G, h0⟩ := dead_rel (n := n) h (by omega) (dead_part (n + 1) σ _ (h.dead (by omega))) hpi
      exact ⟨r, τ', hQ, G, fun h => by omega⟩
end Go.Proofs.YtddbjcfdmdbmkaaGreatDoor
