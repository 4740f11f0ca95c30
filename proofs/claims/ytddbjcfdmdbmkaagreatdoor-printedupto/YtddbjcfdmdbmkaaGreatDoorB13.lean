import Derived.Test.YtddbjcfdmdbmkaaGreatDoorB12
import Derived.Deep.RegionWith
import Derived.Lib.SmallJoins
import Derived.Deep.LoopGhost
set_option linter.unusedVariables false
set_option linter.unusedSimpArgs false
namespace Go.Proofs.YtddbjcfdmdbmkaaGreatDoor
open Go.RowKit
attribute [local go_sem ↓] Go.wp_at_zero Go.wp_at_succ

theorem grownBy_below {w w' : World} (h : Below w.heap.size w w') : w.grownBy w' none := ⟨h.os, h.tape, h.output, h.size, fun k hk _ => h.block k hk⟩
theorem RSt.below {own : Nat → Nat} {w w' : World} {b : Nat} {m : RM} {σ : Rd} (h : RSt own w b m σ) (hb : Below w.heap.size w w') : RSt own w' b m σ := h.grow (grownBy_below hb)
theorem Ext.below {own own' : Nat → Nat} {w w1 w' : World} (h : Ext own w own' w1) (hb : Below w1.heap.size w1 w') : Ext own w own' w' :=
  h.trans ⟨fun _ _ => rfl, (Kept.ofBelow hb).mono (fun _ hk => hk.1)⟩
theorem Tryz.infoOp : (Tryz.prog.info? 241).map (fun i => (i.zero, i.size, i.bytes)) = some (some (.agg #[.string ⟨#[]⟩, .int .i64 0, .string ⟨#[]⟩, .int .i64 0]), 4, 48) := by kernel_rfl

set_option maxRecDepth 100000 in
set_option maxHeartbeats 800000 in
theorem put_p {own : Nat → Nat} {w : World} {b : Nat} {m : RM} {σ : Rd} (h : RSt own w b m σ) {l : List POp} (hl : σ.ops = some l) (hlen : l.length ≤ 100000) (x : POp) :
    Calls Tryz.prog 245 #[.pointer (some ⟨b, 0, none⟩), .agg #[.string x.act, .int .i64 x.number, .string x.name, .int .i64 x.place]] w fun e w' => e = .returned (.tuple #[]) ∧ AfterR own w b (σ.put x) w' := by
  have hbw := h.blk.lt
  have hc6 := h.cell 6
  simp [RCells] at hc6
  have hfb := h.blk.frozen 6
  obtain ⟨i0, hi0, hz0, hz1, hz2⟩ := info_parts Tryz.infoOp
  obtain ⟨act, number, name, place⟩ := x
  simp only
  go_enter Tryz.func245, Tryz.ntmps245
  go_wp2
  go_region_law ((refine step_append_lies _ (by rfl) _ _ 175 (by rfl) 0 241 i0 _ 4 48 Tryz.underlying175 hi0 hz0 hz1 hz2 rfl (by decide) m.ov l.length (flat POp.cells l) (by rfl) (((h.alloc _).alloc _).drew.live l hl).1 ⟨w.heap.size + 1, 0, none⟩ 1 1 (POp.cells ⟨act, number, name, place⟩) (by rfl) rfl (World.news_of_block (alloc_at _ _ _ (by simp))) (by simp [POp.cells, Value.oneCell']) (by decide) (by unfold maxLen; omega) (by omega) (Nat.zero_le _) (w.heap.size + 2) (by simp) ?_; intro g cap w1 hown hgrow hat hlt1; have kb := ((h.alloc _).alloc _).drew.far hgrow (h.live l hl).2 (by decide); have q6 := kb.cell 6; have qf := kb.frozen 6; simp [RCells] at q6))
  all_goals
    obtain ⟨hS2, hE2⟩ := ((h.alloc _).alloc _).drew.app hl ⟨act, number, name, place⟩ hown hgrow (by simpa using hat)
    have hE := ((((Ext.refl own w).alloc _).alloc _).drew).trans hE2
    clear hE2 hown hgrow hat kb
    go_wp2
    go_end0
    exact ⟨rfl, _, _, hS2, hE⟩

set_option maxRecDepth 100000 in
set_option maxHeartbeats 800000 in
theorem enter_p {own : Nat → Nat} {w : World} {b : Nat} {m : RM} {σ : Rd} (h : RSt own w b m σ) (h2 : 2 ≤ σ.ahead.length) (hd : σ.deep ≤ 1000000) :
    Calls Tryz.prog 225 #[.pointer (some ⟨b, 0, none⟩)] w fun e w' => e = .returned (.tuple #[]) ∧ AfterR own w b σ.enter w' := by
  have hT := h.cell 1
  simp [RCells] at hT
  have hf := h.blk.frozen 1
  have hbw := h.blk.lt
  have hfld := stok_field1
  have hpos : 0 < σ.ahead.length := by omega
  by_cases h8 : 8 ≤ σ.deep
  · have h8' : (8 : Int) ≤ (σ.deep : Int) := by omega
    have HN : Hid (σ.enter = { σ.skip with deep := σ.deep + 1, td := markPut σ.td σ.now.place }) := by show _ = _; unfold Rd.enter; rw [if_pos h8]
    go_enter Tryz.func225, Tryz.ntmps225
    go_wp2
    go_region_with (first
      | (go_at_call 83; refine (now_p (h.drewN _) hpos).mono ?_; rintro e w' ⟨rfl, o, rfl⟩)
      | (go_at_call 166; refine (mark_td ((h.drewN _).alloc o) _).mono ?_; rintro e w1 ⟨rfl, own1, m1, hs1, he1⟩))
    all_goals
      have hT1 := hs1.cell 1
      have hf1 := hs1.blk.frozen 1
      simp [RCells] at hT1
      have hE1 := (((Ext.refl own w).drewN 1).alloc o).trans he1
      have hs2 : RSt own1 (w1.setCell ⟨b, 1, none⟩ (.int .i64 (σ.deep + 1))) b m1 { σ with deep := σ.deep + 1, td := markPut σ.td σ.now.place } := hs1.store1 1 _ (by simp [RCells]) rfl rfl
      have hE2 := hE1.setCell (p := ⟨b, 1, none⟩) hs1.own7 (.int .i64 (σ.deep + 1))
      clear hs1 he1 hE1
      go_wp2_with (go_at_call 164; refine (skip_p hs2 h2).mono ?_; rintro e w3 ⟨rfl, hs3, he3⟩)
      go_end0
      rw [HN.out]
      exact ⟨rfl, own1, _, hs3, hE2.trans he3⟩
  · have h8' : ¬ (8 : Int) ≤ (σ.deep : Int) := by omega
    have HN : Hid (σ.enter = { σ.skip with deep := σ.deep + 1 }) := by show _ = _; unfold Rd.enter; rw [if_neg h8]; rfl
    have hs2 : RSt own (w.setCell ⟨b, 1, none⟩ (.int .i64 (σ.deep + 1))) b m { σ with deep := σ.deep + 1 } := h.store1 1 _ (by simp [RCells]) rfl rfl
    have hE2 := (Ext.refl own w).setCell (p := ⟨b, 1, none⟩) h.own7 (.int .i64 (σ.deep + 1))
    go_enter Tryz.func225, Tryz.ntmps225
    go_wp2_with (go_at_call 164; refine (skip_p hs2 h2).mono ?_; rintro e w3 ⟨rfl, hs3, he3⟩)
    go_end0
    rw [HN.out]
    exact ⟨rfl, own, _, hs3, hE2.trans he3⟩

theorem decFrom_all (l : List UInt8) : ∀ acc, (∀ c ∈ l, isDigitB c = true) → Lib.decFrom acc l = some (l.foldl (fun n c => 10 * n + (c.toNat - 48)) acc) := by
  induction l with
  | nil => intro acc _; rfl
  | cons c l ih =>
    intro acc h
    have hc := h c (List.mem_cons_self ..)
    simp only [isDigitB, Bool.and_eq_true, decide_eq_true_eq] at hc
    rw [Lib.decFrom, Lib.digitVal, if_pos hc, List.foldl_cons]
    simp only
    rw [ih _ (fun x hx => h x (List.mem_cons_of_mem _ hx)), Nat.mul_comm acc 10]
theorem atoi_digits {t : ByteArray} (h : digitsOK t) : Lib.atoi t.data.toList = some (numVal t : Int) := by
  have hall := h.2.2
  have hz := h.1
  have hne : t.data.toList ≠ [] := fun e => by have := list_len t; rw [toList_data, e] at this; simp at this; omega
  cases hl : t.data.toList with
  | nil => exact absurd hl hne
  | cons c l =>
    rw [hl] at hall
    have hc := hall c (List.mem_cons_self ..)
    simp only [isDigitB, Bool.and_eq_true, decide_eq_true_eq] at hc
    have n1 : (c == 45) = false := by rw [beq_eq_false_iff_ne]; intro e; rw [e] at hc; exact absurd hc.1 (by decide)
    have n2 : (c == 43) = false := by rw [beq_eq_false_iff_ne]; intro e; rw [e] at hc; exact absurd hc.1 (by decide)
    rw [Lib.atoi, n1, n2]
    simp only [Lib.decNat, List.isEmpty_cons, if_false, Bool.false_eq_true]
    rw [decFrom_all _ _ hall]
    simp only [numVal, hl, Option.map_some]
theorem foldl_lt (l : List UInt8) : ∀ acc, (∀ c ∈ l, isDigitB c = true) → l.foldl (fun n c => 10 * n + (c.toNat - 48)) acc < (acc + 1) * 10 ^ l.length := by
  induction l with
  | nil => intro acc _; simp
  | cons c l ih =>
    intro acc h
    have hc := h c (List.mem_cons_self ..)
    simp only [isDigitB, Bool.and_eq_true, decide_eq_true_eq] at hc
    rw [List.foldl_cons]
    refine Nat.lt_of_lt_of_le (ih _ (fun x hx => h x (List.mem_cons_of_mem _ hx))) ?_
    rw [List.length_cons, Nat.pow_succ, Nat.mul_comm (10 ^ l.length) 10, ← Nat.mul_assoc]
    exact Nat.mul_le_mul_right _ (by omega)
theorem numVal_lt {t : ByteArray} (h : digitsOK t) : numVal t < 1000000000 := by
  have := foldl_lt t.data.toList 0 h.2.2
  have hl : t.data.toList.length ≤ 9 := by have := list_len t; rw [toList_data] at this; have := h.2.1; omega
  have : 10 ^ t.data.toList.length ≤ 10 ^ 9 := Nat.pow_le_pow_right (by decide) hl
  unfold numVal; omega
theorem atoi_any {t : ByteArray} (h : digitsOK t) (w : World) : Calls Tryz.prog 165 #[.string t] w fun e w' => e = .returned (.tuple #[.int .i64 (numVal t), .nilIface]) ∧ Below w.heap.size w w' := by
  refine (Any.strconv_Atoi Tryz.lays172 t (numVal t) (by have := h.2.1; omega) (atoi_digits h) w).mono ?_
  rintro e w' ⟨rfl, s, rfl⟩
  exact ⟨rfl, Go.Joins.below_bytesWorld _ w _ s (Nat.le_refl _)⟩
end Go.Proofs.YtddbjcfdmdbmkaaGreatDoor

namespace Go.Proofs.YtddbjcfdmdbmkaaGreatDoor
open Go.RowKit
attribute [local go_sem ↓] Go.wp_at_zero Go.wp_at_succ

def tokCells (t : STok) : Array Value := #[.int .i64 t.kind, .int .i64 t.place, .string t.text]
theorem RSt.boxed {own : Nat → Nat} {w : World} {b : Nat} {m : RM} {σ : Rd} (h : RSt own w b m σ) (o o' : Obj) : RSt (put own (w.heap.size + 1) 8) ((w.alloc o).alloc o') b m σ ∧ Ext own w (put own (w.heap.size + 1) 8) ((w.alloc o).alloc o') :=
  ⟨((h.owner (fun k hk => put_other _ _ _ _ (by omega))).alloc o).alloc o', ⟨fun k hk => put_other _ _ _ _ (by omega), (((Ext.refl own w).alloc o).alloc o').kept⟩⟩

set_option maxRecDepth 100000 in
set_option maxHeartbeats 800000 in
theorem number_p {own : Nat → Nat} {w : World} {b : Nat} {m : RM} {σ : Rd} (h : RSt own w b m σ) (hG : SGood σ.ahead) (lo hi : Nat) (hhi : hi ≤ 1000000000) (hlo : lo ≤ 1000000000) :
    Calls Tryz.prog 131 #[.pointer (some ⟨b, 0, none⟩), .int .i64 lo, .int .i64 hi] w fun e w' => e = .returned (.int .i64 σ.numV) ∧ AfterR own w b (σ.num lo hi) w' := by
  have hpos := hG.pos
  by_cases hk : σ.now.kind = 2
  · have hdig : digitsOK σ.now.text := hG.digits hk
    have h2 : 2 ≤ σ.ahead.length := hG.more (by show 2 ≤ σ.now.kind; omega)
    have hv := numVal_lt hdig
    have HV : Hid (σ.numV = numVal σ.now.text) := by show _ = _; unfold Rd.numV; rw [if_pos hk]
    have hk' : ((σ.now.kind : Int) != 2) = false := by simp [hk]
    have hat := atoi_any hdig
    by_cases hb : numVal σ.now.text < lo ∨ hi < numVal σ.now.text
    · have HN : Hid (σ.num lo hi = { σ.skip with bn := markPut σ.bn σ.now.place }) := by show _ = _; unfold Rd.num; rw [if_pos hk, if_pos hb]
      clear hk hdig
      by_cases hlt : numVal σ.now.text < lo
      · have b1 : (numVal σ.now.text : Int) < (lo : Int) := by omega
        have hdlo : decide ((numVal σ.now.text : Int) < (lo : Int)) = true := by simpa using b1
        clear hb
        go_enter Tryz.func131, Tryz.ntmps131
        go_wp2_with (first
          | (go_at_call 83; refine (now_p h hpos).mono ?_; rintro e w' ⟨rfl, o, rfl⟩)
          | (go_at_call 164; obtain ⟨hs0, he0⟩ := h.boxed o (.cells (tokCells σ.now) 141); refine (skip_p hs0 h2).mono ?_; rintro e w1 ⟨rfl, hs1, he1⟩; have hL1 := he1.blk8 (b := w.heap.size + 1) (put_same _ _ _) (alloc_at _ _ _ (by simp)); have l1 := hL1.cell 1; have l2 := hL1.cell 2; simp only [tokCells] at l1 l2; simp at l1 l2)
          | (go_at_call 165; refine (hat _).mono ?_; rintro e w2 ⟨rfl, hb2⟩; have l1' := (hb2.cell (p := ⟨w.heap.size + 1, 1, none⟩) hL1.lt).trans l1; have hs2 := hs1.below hb2; have hE2 := (he0.trans he1).below hb2; clear hs1 he1 he0 hs0 hL1 l1 l2 hb2))
        go_region_with (first
          | (go_at_call 166; refine (mark_bn (hs2.drewN _) _).mono ?_; rintro e w3 ⟨rfl, own3, m3, hs3, he3⟩))
        all_goals
          go_wp2
          go_ret
          rw [HV.out, HN.out]
          exact ⟨rfl, own3, m3, hs3, (hE2.drewN _).trans he3⟩
      · have b1 : ¬ (numVal σ.now.text : Int) < (lo : Int) := by omega
        have b2 : (hi : Int) < (numVal σ.now.text : Int) := by omega
        have hdlo : decide ((numVal σ.now.text : Int) < (lo : Int)) = false := by simpa using b1
        clear hb
        go_enter Tryz.func131, Tryz.ntmps131
        go_wp2_with (first
          | (go_at_call 83; refine (now_p h hpos).mono ?_; rintro e w' ⟨rfl, o, rfl⟩)
          | (go_at_call 164; obtain ⟨hs0, he0⟩ := h.boxed o (.cells (tokCells σ.now) 141); refine (skip_p hs0 h2).mono ?_; rintro e w1 ⟨rfl, hs1, he1⟩; have hL1 := he1.blk8 (b := w.heap.size + 1) (put_same _ _ _) (alloc_at _ _ _ (by simp)); have l1 := hL1.cell 1; have l2 := hL1.cell 2; simp only [tokCells] at l1 l2; simp at l1 l2)
          | (go_at_call 165; refine (hat _).mono ?_; rintro e w2 ⟨rfl, hb2⟩; have l1' := (hb2.cell (p := ⟨w.heap.size + 1, 1, none⟩) hL1.lt).trans l1; have hs2 := hs1.below hb2; have hE2 := (he0.trans he1).below hb2; clear hs1 he1 he0 hs0 hL1 l1 l2 hb2))
        go_region_with (first
          | (go_at_call 166; refine (mark_bn (hs2.drewN _) _).mono ?_; rintro e w3 ⟨rfl, own3, m3, hs3, he3⟩))
        all_goals
          go_wp2
          go_ret
          rw [HV.out, HN.out]
          exact ⟨rfl, own3, m3, hs3, (hE2.drewN _).trans he3⟩
    · have HN : Hid (σ.num lo hi = σ.skip) := by show _ = _; unfold Rd.num; rw [if_pos hk, if_neg hb]; rfl
      have b1 : ¬ (numVal σ.now.text : Int) < (lo : Int) := by omega
      have b2 : ¬ (hi : Int) < (numVal σ.now.text : Int) := by omega
      have hdlo : decide ((numVal σ.now.text : Int) < (lo : Int)) = false := by simpa using b1
      clear hk hb hdig
      go_enter Tryz.func131, Tryz.ntmps131
      go_wp2_with (first
        | (go_at_call 83; refine (now_p h hpos).mono ?_; rintro e w' ⟨rfl, o, rfl⟩)
        | (go_at_call 164; obtain ⟨hs0, he0⟩ := h.boxed o (.cells (tokCells σ.now) 141); refine (skip_p hs0 h2).mono ?_; rintro e w1 ⟨rfl, hs1, he1⟩; have hL1 := he1.blk8 (b := w.heap.size + 1) (put_same _ _ _) (alloc_at _ _ _ (by simp)); have l1 := hL1.cell 1; have l2 := hL1.cell 2; simp only [tokCells] at l1 l2; simp at l1 l2)
        | (go_at_call 165; refine (hat _).mono ?_; rintro e w2 ⟨rfl, hb2⟩))
      go_ret
      rw [HV.out, HN.out]
      exact ⟨rfl, _, _, hs1.below hb2, (he0.trans he1).below hb2⟩
  · have hk' : ((σ.now.kind : Int) != 2) = true := by simp; omega
    have HV : Hid (σ.numV = 0 ∧ σ.num lo hi = σ.fail) := ⟨by unfold Rd.numV; rw [if_neg hk], by unfold Rd.num; rw [if_neg hk]⟩
    clear hk
    go_enter Tryz.func131, Tryz.ntmps131
    go_wp2_with (first
      | (go_at_call 83; refine (now_p h hpos).mono ?_; rintro e w' ⟨rfl, o, rfl⟩)
      | (go_at_call 163; refine (fail_p ((h.alloc o).alloc _) hpos).mono ?_; rintro e w2 ⟨rfl, own2, m2, hs2, he2⟩))
    go_ret
    rw [HV.out.1, HV.out.2]
    exact ⟨rfl, own2, m2, hs2, (((Ext.refl own w).alloc o).alloc _).trans he2⟩
end Go.Proofs.YtddbjcfdmdbmkaaGreatDoor

namespace Go.Proofs.YtddbjcfdmdbmkaaGreatDoor
open Go.RowKit

structure Pre (n : Nat) (σ : Rd) : Prop where
  good : SGood σ.ahead
  le : σ.ahead.length ≤ n
  phi : σ.phi ≤ 4000
  live : σ.ops.isSome = true
  deep : σ.deep + σ.ahead.length ≤ 2000
theorem Pre.ok {n : Nat} {σ σ' : Rd} (h : Pre n σ) (k : Ok 0 σ σ') : Pre n σ' :=
  ⟨k.good, Nat.le_trans k.le h.le, by have := k.phi; have := h.phi; omega, k.live h.live, by have := k.le; have := k.deep; have := h.deep; omega⟩
theorem Pre.skip {n : Nat} {σ : Rd} (hg : SGood σ.ahead) (hle : σ.ahead.length ≤ n) (hphi : σ.phi ≤ 4002) (hl : σ.ops.isSome = true) (hd : σ.deep + σ.ahead.length ≤ 2000) (h2 : 2 ≤ σ.ahead.length) : Pre n σ.skip :=
  ⟨hg.tail h2, by rw [skip_len]; omega, by have := skip_phi h2; omega, hl, by rw [skip_len]; show σ.deep + _ ≤ _; omega⟩
theorem Rd.opsL_le (σ : Rd) : σ.opsL.length ≤ σ.phi := by unfold Rd.phi; omega

def PartW (b n : Nat) (part : Rd → Rd) (g : Nat) : Prop := ∀ (own : Nat → Nat) (w : World) (m : RM) (σ : Rd), RSt own w b m σ → Pre n σ →
  Calls Tryz.prog g #[.pointer (some ⟨b, 0, none⟩)] w fun e w' => e = .returned (.tuple #[]) ∧ AfterR own w b (part σ) w'

theorem put_sign {own : Nat → Nat} {w : World} {b : Nat} {m : RM} {σ : Rd} (h : RSt own w b m σ) (hl : σ.ops.isSome = true) (hphi : σ.phi ≤ 10000) (s : ByteArray) :
    Calls Tryz.prog 245 #[.pointer (some ⟨b, 0, none⟩), .agg #[.string s, .int .i64 0, .string ⟨#[]⟩, .int .i64 0]] w fun e w' => e = .returned (.tuple #[]) ∧ AfterR own w b (σ.put ⟨s, 0, ⟨#[]⟩, 0⟩) w' := by
  obtain ⟨l, e⟩ := Option.isSome_iff_exists.1 hl
  exact put_p h e (by have := σ.opsL_le; simp only [Rd.opsL, e, Option.getD_some] at this; omega) ⟨s, 0, ⟨#[]⟩, 0⟩

structure CLs (part : Rd → Rd) (ts : List ByteArray) (n : Nat) (out : Rd) (own : Nat → Nat) (w : World) (b : Nat) (k : Nat) (own' : Nat → Nat) (m' : RM) (σ' : Rd) (wr : World) : Prop where
  st : RSt own' wr b m' σ'
  ext : Ext own w own' wr
  eq : Hid (chainL part ts k σ' = out)
  fuel : σ'.ahead.length ≤ k
  good : SGood σ'.ahead
  le : σ'.ahead.length ≤ n
  phi : σ'.phi ≤ 4001
  live : σ'.ops.isSome = true
  deep : σ'.deep + σ'.ahead.length ≤ 2000
def CL (part : Rd → Rd) (ts : List ByteArray) (n : Nat) (out : Rd) (own : Nat → Nat) (w : World) (b : Nat) (k : Nat) (wr : World) : Prop := ∃ own' m' σ', CLs part ts n out own w b k own' m' σ' wr

theorem chainL_stop {part : Rd → Rd} {ts : List ByteArray} {k : Nat} {σ : Rd} (h : σ.has ts = false) : chainL part ts k σ = σ := by
  cases k with
  | zero => rfl
  | succ k => rw [chainL, if_neg (by simp [h])]
theorem chainL_more {part : Rd → Rd} {ts : List ByteArray} {k : Nat} {σ : Rd} (h : σ.has ts = true) : chainL part ts (k + 1) σ = chainL part ts k ((part σ.skip).put ⟨σ.now.text, 0, ⟨#[]⟩, 0⟩) := by
  rw [chainL, if_pos h]

set_option maxRecDepth 100000 in
set_option maxHeartbeats 800000 in
theorem chain_p {b n d g : Nat} {part : Rd → Rd} (hk : Keeps n d part) (hd : d ≤ 1) (hp : PartW b n part g) (eg : ∀ args w, (callFunc g args).run Tryz.prog w = .ok (.enter g args) w)
    {ts : List ByteArray} (hts : ∀ t ∈ ts, t ∈ KW) (hl : ts.length ≤ 10) {own : Nat → Nat} {w : World} {m : RM} {σ : Rd} (h : RSt own w b m σ) (hpre : Pre n σ) {gt q : Nat} (hq : q = ts.length) {ty : TypeId} (ht : Blk w gt (textRow ts) ty) (hg : own gt = 8) :
    Calls Tryz.prog 239 #[.pointer (some ⟨b, 0, none⟩), .func (.func g) #[.pointer (some ⟨b, 0, none⟩)] #[], .slice (some ⟨gt, 0, none⟩) q q] w fun e w' => e = .returned (.tuple #[]) ∧ AfterR own w b (chainP part ts σ) w' := by
  subst hq
  obtain ⟨out, HO⟩ : ∃ out, Hid (chainP part ts σ = out) := ⟨_, rfl⟩
  rw [HO.out]
  have k1 := hk σ hpre.good hpre.le
  have hfirst := hp own w m σ h hpre
  have hstart : ∀ w1, AfterR own w b (part σ) w1 → CL part ts n out own w b (part σ).ahead.length w1 := by
    rintro w1 ⟨own1, m1, hs1, he1⟩
    exact ⟨own1, m1, part σ, hs1, he1, HO, Nat.le_refl _, k1.good, Nat.le_trans k1.le hpre.le, by have := k1.phi; have := hpre.phi; omega, k1.live hpre.live, by have := k1.le; have := k1.deep; have := hpre.deep; omega⟩
  obtain ⟨fuel, HF⟩ : ∃ fuel, Hid ((part σ).ahead.length = fuel) := ⟨_, rfl⟩
  rw [HF.out] at hstart
  clear HO HF k1 hpre h
  go_enter Tryz.func239, Tryz.ntmps239
  go_wp2_with (go_at_fn g; refine hfirst.mono ?_; rintro e w1 ⟨rfl, ha⟩)
  have hS0 := hstart w1 ha
  clear hstart ha hfirst
  go_loopg [6] fuel (fun k _ wr => CL part ts n out own w b k wr)
  case atStart => exact hS0
  case round =>
    obtain ⟨own', m', σ', hst, hext, HE, hfu, hgo, hle, hphi, hli, hdp⟩ := hrel
    clear hS0
    have ht' := hext.blk8 hg ht
    have hg' : own' gt = 8 := (hext.same gt ht.lt).trans hg
    cases hh : σ'.has ts with
    | false =>
      have HV : Hid (σ'.whichV ts = ⟨#[]⟩ ∧ σ'.which ts = σ' ∧ σ' = out) := ⟨by simp [Rd.whichV, hh], by simp [Rd.which, hh], (chainL_stop hh).symm.trans HE.out⟩
      have hwh := which_p hst hgo hts hl rfl ht' hg'
      rw [HV.out.1, HV.out.2.1] at hwh
      go_wp2_with (go_at_call 162; refine hwh.mono ?_; rintro e w2 ⟨rfl, own2, m2, hs2, he2⟩)
      exact bodyPost_ret (v := .tuple #[]) (results_none (by rfl) _ _ _) rfl ⟨rfl, own2, m2, by rw [← HV.out.2.2]; exact hs2, hext.trans he2⟩
    | true =>
      have h2 := hgo.has hts hh
      obtain ⟨k, rfl⟩ : ∃ k, gk = k + 1 := ⟨gk - 1, by omega⟩
      have hpre := Pre.skip hgo hle (by omega) hli hdp h2
      have k1 := hk _ hpre.good hpre.le
      have k2 := put_ok k1.good ⟨σ'.now.text, 0, ⟨#[]⟩, 0⟩
      have hne : ((σ'.whichV ts).toList == []) = false := by rw [kw_ne hts, hh]; rfl
      have HV : Hid (σ'.whichV ts = σ'.now.text ∧ σ'.which ts = σ'.skip ∧ chainL part ts k ((part σ'.skip).put ⟨σ'.now.text, 0, ⟨#[]⟩, 0⟩) = out) := ⟨by simp [Rd.whichV, hh], by simp [Rd.which, hh], (chainL_more hh).symm.trans HE.out⟩
      have hwh := which_p hst hgo hts hl rfl ht' hg'
      rw [HV.out.1] at hne
      rw [HV.out.1, HV.out.2.1] at hwh
      have Hphi : Hid (((part σ'.skip).put ⟨σ'.now.text, 0, ⟨#[]⟩, 0⟩).phi ≤ 4001 ∧ (part σ'.skip).phi ≤ 10000) := by
        have a1 := skip_phi h2; have a2 := k1.phi; have a3 := k2.phi
        exact ⟨by omega, by omega⟩
      have Hlen : Hid (((part σ'.skip).put ⟨σ'.now.text, 0, ⟨#[]⟩, 0⟩).ahead.length + 1 ≤ σ'.ahead.length) := by
        have a1 := skip_len σ'; have a2 := k1.le; have a3 := k2.le
        show _ ≤ _; omega
      have Hdp : Hid (((part σ'.skip).put ⟨σ'.now.text, 0, ⟨#[]⟩, 0⟩).deep = σ'.deep) := k2.deep.trans k1.deep
      generalize σ'.now.text = txt at *
      clear hh
      go_wp2_with (first
        | (go_at_call 162; refine hwh.mono ?_; rintro e w2 ⟨rfl, own2, m2, hs2, he2⟩)
        | (go_at_fn g; refine (hp own2 w2 m2 _ hs2 hpre).mono ?_; rintro e w3 ⟨rfl, own3, m3, hs3, he3⟩)
        | (go_at_call 245; refine (put_sign hs3 (k1.live hpre.live) Hphi.out.2 txt).mono ?_; rintro e w4 ⟨rfl, own4, m4, hs4, he4⟩))
      go_roundg k
      case measure => omega
      case rel => exact ⟨own4, m4, _, hs4, ((hext.trans he2).trans he3).trans he4, HV.out.2.2, by have := Hlen.out; omega, k2.good, by have := Hlen.out; omega, Hphi.out.1, k2.live (k1.live hpre.live), by have := Hlen.out; have := Hdp.out; omega⟩
end Go.Proofs.YtddbjcfdmdbmkaaGreatDoor

namespace Go.Proofs.YtddbjcfdmdbmkaaGreatDoor
open Go.RowKit

theorem chain_new {b n d g : Nat} {part : Rd → Rd} (hk : Keeps n d part) (hd : d ≤ 1) (hp : PartW b n part g) (eg : ∀ args w, (callFunc g args).run Tryz.prog w = .ok (.enter g args) w)
    (ts : List ByteArray) (hts : ∀ t ∈ ts, t ∈ KW) (hl : ts.length ≤ 10) {own : Nat → Nat} {w : World} {m : RM} {σ : Rd} (h : RSt own w b m σ) (hpre : Pre n σ) (q : Nat) (hq : q = ts.length) :
    Calls Tryz.prog 239 #[.pointer (some ⟨b, 0, none⟩), .func (.func g) #[.pointer (some ⟨b, 0, none⟩)] #[], .slice (some ⟨w.heap.size, 0, none⟩) q q] (w.alloc (.cells (textRow ts) 9)) fun e w' => e = .returned (.tuple #[]) ∧ AfterR own w b (chainP part ts σ) w' := by
  obtain ⟨h1, e1⟩ := h.texts (.cells (textRow ts) 9)
  refine (chain_p hk hd hp eg hts hl h1 hpre hq (Blk.new w _ _) (put_same _ _ _)).mono ?_
  rintro e w' ⟨rfl, own2, m2, hs2, he2⟩
  exact ⟨rfl, own2, m2, hs2, e1.trans he2⟩

theorem enters_factor : ∀ args w, (callFunc 258 args).run Tryz.prog w = .ok (.enter 258 args) w := Go.Proofs.enters_of Tryz.func258 (by kernel_rfl) rfl
theorem enters_product : ∀ args w, (callFunc 253 args).run Tryz.prog w = .ok (.enter 253 args) w := Go.Proofs.enters_of Tryz.func253 (by kernel_rfl) rfl
theorem enters_test : ∀ args w, (callFunc 246 args).run Tryz.prog w = .ok (.enter 246 args) w := Go.Proofs.enters_of Tryz.func246 (by kernel_rfl) rfl
theorem enters_both : ∀ args w, (callFunc 240 args).run Tryz.prog w = .ok (.enter 240 args) w := Go.Proofs.enters_of Tryz.func240 (by kernel_rfl) rfl

set_option maxHeartbeats 400000 in
theorem product_p {b n : Nat} {f : Rd → Rd} (kf : Keeps n 0 f) (hf : PartW b n f 258) : PartW b n (productP f) 253 := by
  intro own w m σ h hpre
  have hmf : ∀ (fn : Fn) (first cap : Array Value) (w : World), (Instr.makeFunc fn first cap).run Tryz.prog w = .ok (.func fn first cap) w := fun _ _ _ _ => rfl
  have hc := chain_new kf (by omega) hf enters_factor [tStar, tSlash] (by simp [KW]) (by simp) h hpre 2 rfl
  go_enter Tryz.func253, Tryz.ntmps253
  go_wp2_with (go_at_call 239; refine hc.mono ?_; rintro e w' ⟨rfl, ha⟩)
  go_end0
  exact ⟨rfl, ha⟩
set_option maxHeartbeats 400000 in
theorem sum_p {b n : Nat} {f : Rd → Rd} (kf : Keeps n 0 f) (hf : PartW b n f 258) : PartW b n (sumP f) 248 := by
  intro own w m σ h hpre
  have hmf : ∀ (fn : Fn) (first cap : Array Value) (w : World), (Instr.makeFunc fn first cap).run Tryz.prog w = .ok (.func fn first cap) w := fun _ _ _ _ => rfl
  have hc := chain_new (productP_ok kf) (by omega) (product_p kf hf) enters_product [tPlus, tMinus] (by simp [KW]) (by simp) h hpre 2 rfl
  go_enter Tryz.func248, Tryz.ntmps248
  go_wp2_with (go_at_call 239; refine hc.mono ?_; rintro e w' ⟨rfl, ha⟩)
  go_end0
  exact ⟨rfl, ha⟩
set_option maxHeartbeats 400000 in
theorem test_p {b n : Nat} {f : Rd → Rd} (kf : Keeps n 0 f) (hf : PartW b n f 258) : PartW b n (testP f) 246 := by
  intro own w m σ h hpre
  have ks := sumP_ok kf
  have hs := sum_p (b := b) kf hf
  have a1 := ks σ hpre.good hpre.le
  have p1 := hpre.ok a1
  have a2 := expect_ok p1.good (ts := sTest) (by simp [KW, sTest])
  have p2 := p1.ok a2
  have a3 := ks _ p2.good p2.le
  have p3 := p2.ok a3
  have HT : Hid (testP f σ = (sumP f ((sumP f σ).expect sTest)).put ⟨(sumP f σ).whichV sTest, 0, ⟨#[]⟩, 0⟩) := rfl
  go_enter Tryz.func246, Tryz.ntmps246
  go_wp2_with (first
    | (go_at_call 248; refine (hs own w m σ h hpre).mono ?_; rintro e w1 ⟨rfl, own1, m1, hs1, he1⟩)
    | (go_at_call 130; refine (expect_new hs1 p1.good sTest (by simp [KW, sTest]) (by simp [sTest]) 6 rfl).mono ?_; rintro e w2 ⟨rfl, own2, m2, hs2, he2⟩)
    | (go_at_call 248; refine (hs own2 w2 m2 _ hs2 p2).mono ?_; rintro e w3 ⟨rfl, own3, m3, hs3, he3⟩)
    | (go_at_call 245; refine (put_sign hs3 p3.live (by have := p3.phi; omega) _).mono ?_; rintro e w4 ⟨rfl, own4, m4, hs4, he4⟩))
  go_end0
  rw [HT.out]
  exact ⟨rfl, own4, m4, hs4, ((he1.trans he2).trans he3).trans he4⟩
set_option maxHeartbeats 400000 in
theorem both_p {b n : Nat} {f : Rd → Rd} (kf : Keeps n 0 f) (hf : PartW b n f 258) : PartW b n (bothP f) 240 := by
  intro own w m σ h hpre
  have hmf : ∀ (fn : Fn) (first cap : Array Value) (w : World), (Instr.makeFunc fn first cap).run Tryz.prog w = .ok (.func fn first cap) w := fun _ _ _ _ => rfl
  have hc := chain_new (testP_ok kf) (by omega) (test_p kf hf) enters_test [tAnd] (by simp [KW]) (by simp) h hpre 1 rfl
  go_enter Tryz.func240, Tryz.ntmps240
  go_wp2_with (go_at_call 239; refine hc.mono ?_; rintro e w' ⟨rfl, ha⟩)
  go_end0
  exact ⟨rfl, ha⟩
end Go.Proofs.YtddbjcfdmdbmkaaGreatDoor

namespace Go.Proofs.YtddbjcfdmdbmkaaGreatDoor
open Go.RowKit

theorem is_eq (t : STok) (s : ByteArray) : t.is s = (t.text.toList == s.data.toList) := by unfold STok.is; rw [toList_data s]

def ownBox (own : Nat → Nat) (N : Nat) : Nat → Nat := put (put own N 8) (N + 2) 8
theorem RSt.box3 {own : Nat → Nat} {w : World} {b : Nat} {m : RM} {σ : Rd} (h : RSt own w b m σ) (o0 o1 o2 : Obj) :
    RSt (ownBox own w.heap.size) (((w.alloc o0).alloc o1).alloc o2) b m σ ∧ Ext own w (ownBox own w.heap.size) (((w.alloc o0).alloc o1).alloc o2) :=
  have e : ∀ k, k < w.heap.size → ownBox own w.heap.size k = own k := fun k hk => by unfold ownBox; rw [put_other _ _ _ _ (by omega), put_other _ _ _ _ (by omega)]
  ⟨(((h.owner e).alloc o0).alloc o1).alloc o2, ⟨e, ((((Ext.refl own w).alloc o0).alloc o1).alloc o2).kept⟩⟩
theorem ownBox_0 (own : Nat → Nat) (N : Nat) : ownBox own N N = 8 := by unfold ownBox; rw [put_other _ _ _ _ (by omega), put_same]
theorem ownBox_2 (own : Nat → Nat) (N : Nat) : ownBox own N (N + 2) = 8 := put_same _ _ _
def opZero : Obj := .cells #[.string ⟨#[]⟩, .int .i64 0, .string ⟨#[]⟩, .int .i64 0] 241
theorem Pre.enter {n : Nat} {σ : Rd} (h : Pre (n + 1) σ) (h2 : 2 ≤ σ.ahead.length) : Pre n σ.enter :=
  ⟨h.good.tail h2, by rw [enter_len]; have := h.le; omega, by have := enter_phi h2; have := h.phi; omega, h.live, by rw [enter_len]; have := h.deep; show σ.deep + 1 + _ ≤ _; omega⟩

set_option maxRecDepth 100000 in
set_option maxHeartbeats 800000 in
theorem factor_num {b n : Nat} {own : Nat → Nat} {w : World} {m : RM} {σ : Rd} (h : RSt own w b m σ) (hpre : Pre (n + 1) σ) (hk : σ.now.kind = 2) :
    Calls Tryz.prog 258 #[.pointer (some ⟨b, 0, none⟩)] w fun e w' => e = .returned (.tuple #[]) ∧ AfterR own w b ((σ.num 0 999999999).put ⟨tPush, σ.numV, ⟨#[]⟩, 0⟩) w' := by
  have hk' : ((σ.now.kind : Int) == 2) = true := by simp [hk]
  have hbw := h.blk.lt
  have p1 := hpre.ok (num_ok hpre.good 0 999999999)
  obtain ⟨l, hl⟩ := Option.isSome_iff_exists.1 p1.live
  have hll : l.length ≤ 100000 := by have a := (σ.num 0 999999999).opsL_le; have := p1.phi; simp only [Rd.opsL, hl, Option.getD_some] at a; omega
  clear hk
  go_enter Tryz.func258, Tryz.ntmps258
  go_wp2_with (first
    | (go_at_call 83; refine (now_p (h.alloc _) hpre.good.pos).mono ?_; rintro e w' ⟨rfl, o, rfl⟩)
    | (go_at_call 131; obtain ⟨hs0, he0⟩ := h.box3 opZero o (.cells (tokCells σ.now) 141); refine (number_p hs0 hpre.good 0 999999999 (by omega) (by omega)).mono ?_; rintro e w1 ⟨rfl, own1, m1, hs1, he1⟩)
    | (go_at_call 245; refine (put_p hs1 hl hll ⟨tPush, σ.numV, ⟨#[]⟩, 0⟩).mono ?_; rintro e w2 ⟨rfl, own2, m2, hs2, he2⟩))
  go_end0
  exact ⟨rfl, own2, m2, hs2, (he0.trans he1).trans he2⟩

set_option maxRecDepth 100000 in
set_option maxHeartbeats 800000 in
theorem factor_neg {b n : Nat} (ih : PartW b n (factorP n) 258) {own : Nat → Nat} {w : World} {m : RM} {σ : Rd} (h : RSt own w b m σ) (hpre : Pre (n + 1) σ) (hk : ¬ σ.now.kind = 2) (hm : σ.now.is tMinus = true) :
    Calls Tryz.prog 258 #[.pointer (some ⟨b, 0, none⟩)] w fun e w' => e = .returned (.tuple #[]) ∧ AfterR own w b ((factorP n σ.enter).leave.put ⟨tOpp, 0, ⟨#[]⟩, 0⟩) w' := by
  have hk' : ((σ.now.kind : Int) == 2) = false := by rw [beq_eq_false_iff_ne]; omega
  have h2 := hpre.good.is (by simp [KW]) hm
  have hm' : (σ.now.text.toList == [45]) = true := (is_eq _ _).symm.trans hm
  have hbw := h.blk.lt
  have pe := hpre.enter h2
  have kf := factorP_ok n σ.enter pe.good pe.le
  have p1 := pe.ok kf
  have hd1 : (factorP n σ.enter).deep = σ.deep + 1 := kf.deep
  have Hd : Hid (1 ≤ (factorP n σ.enter).deep ∧ (factorP n σ.enter).deep ≤ 1000000 ∧ σ.deep ≤ 1000000) := by have := hpre.deep; exact ⟨by omega, by omega, by omega⟩
  clear hk hm hd1 kf
  go_enter Tryz.func258, Tryz.ntmps258
  go_wp2_with (first
    | (go_at_call 83; refine (now_p (h.alloc _) hpre.good.pos).mono ?_; rintro e w' ⟨rfl, o, rfl⟩)
    | (go_at_call 225; obtain ⟨hs0, he0⟩ := h.box3 opZero o (.cells (tokCells σ.now) 141); refine (enter_p hs0 h2 Hd.out.2.2).mono ?_; rintro e w1 ⟨rfl, own1, m1, hs1, he1⟩)
    | (go_at_call 258; refine (ih own1 w1 m1 _ hs1 pe).mono ?_; rintro e w2 ⟨rfl, own2, m2, hs2, he2⟩)
    | (go_at_call 226; refine (leave_p hs2 Hd.out.1 Hd.out.2.1).mono ?_; rintro e w3 ⟨rfl, own3, m3, hs3, he3⟩)
    | (go_at_call 245; refine (put_sign hs3 p1.live (by have := p1.phi; rw [leave_phi]; omega) tOpp).mono ?_; rintro e w4 ⟨rfl, own4, m4, hs4, he4⟩))
  go_end0
  exact ⟨rfl, own4, m4, hs4, (((he0.trans he1).trans he2).trans he3).trans he4⟩

set_option maxRecDepth 100000 in
set_option maxHeartbeats 800000 in
theorem factor_par {b n : Nat} (ih : PartW b n (factorP n) 258) {own : Nat → Nat} {w : World} {m : RM} {σ : Rd} (h : RSt own w b m σ) (hpre : Pre (n + 1) σ) (hk : ¬ σ.now.kind = 2) (hn : σ.now.is tMinus = false) (hm : σ.now.is tOpen = true) :
    Calls Tryz.prog 258 #[.pointer (some ⟨b, 0, none⟩)] w fun e w' => e = .returned (.tuple #[]) ∧ AfterR own w b ((sumP (factorP n) σ.enter).expect [tClose]).leave w' := by
  have hk' : ((σ.now.kind : Int) == 2) = false := by rw [beq_eq_false_iff_ne]; omega
  have h2 := hpre.good.is (by simp [KW]) hm
  have hn' : (σ.now.text.toList == [45]) = false := (is_eq _ _).symm.trans hn
  have hm' : (σ.now.text.toList == [40]) = true := (is_eq _ _).symm.trans hm
  have hbw := h.blk.lt
  have pe := hpre.enter h2
  have kf := sumP_ok (factorP_ok n) σ.enter pe.good pe.le
  have p1 := pe.ok kf
  have kx := expect_ok p1.good (ts := [tClose]) (by simp [KW])
  have hd1 : ((sumP (factorP n) σ.enter).expect [tClose]).deep = σ.deep + 1 := kx.deep.trans kf.deep
  have Hd : Hid (1 ≤ ((sumP (factorP n) σ.enter).expect [tClose]).deep ∧ ((sumP (factorP n) σ.enter).expect [tClose]).deep ≤ 1000000 ∧ σ.deep ≤ 1000000) := by have := hpre.deep; exact ⟨by omega, by omega, by omega⟩
  have hsum := sum_p (b := b) (factorP_ok n) ih
  clear hk hm hn hd1 kf kx
  go_enter Tryz.func258, Tryz.ntmps258
  go_wp2_with (first
    | (go_at_call 83; refine (now_p (h.alloc _) hpre.good.pos).mono ?_; rintro e w' ⟨rfl, o, rfl⟩)
    | (go_at_call 225; obtain ⟨hs0, he0⟩ := h.box3 opZero o (.cells (tokCells σ.now) 141); refine (enter_p hs0 h2 Hd.out.2.2).mono ?_; rintro e w1 ⟨rfl, own1, m1, hs1, he1⟩)
    | (go_at_call 248; refine (hsum own1 w1 m1 _ hs1 pe).mono ?_; rintro e w2 ⟨rfl, own2, m2, hs2, he2⟩)
    | (go_at_call 130; refine (expect_new hs2 p1.good [tClose] (by simp [KW]) (by simp) 1 rfl).mono ?_; rintro e w3 ⟨rfl, own3, m3, hs3, he3⟩)
    | (go_at_call 226; refine (leave_p hs3 Hd.out.1 Hd.out.2.1).mono ?_; rintro e w4 ⟨rfl, own4, m4, hs4, he4⟩))
  go_end0
  exact ⟨rfl, own4, m4, hs4, (((he0.trans he1).trans he2).trans he3).trans he4⟩

set_option maxRecDepth 100000 in
set_option maxHeartbeats 800000 in
theorem factor_bad {b n : Nat} {own : Nat → Nat} {w : World} {m : RM} {σ : Rd} (h : RSt own w b m σ) (hpre : Pre (n + 1) σ) (hk : ¬ σ.now.kind = 2) (hk3 : ¬ σ.now.kind = 3) (hn : σ.now.is tMinus = false) (hm : σ.now.is tOpen = false) (hi : σ.now.is tIt = false) :
    Calls Tryz.prog 258 #[.pointer (some ⟨b, 0, none⟩)] w fun e w' => e = .returned (.tuple #[]) ∧ AfterR own w b σ.fail w' := by
  have hk' : ((σ.now.kind : Int) == 2) = false := by rw [beq_eq_false_iff_ne]; omega
  have hk3' : ((σ.now.kind : Int) == 3) = false := by rw [beq_eq_false_iff_ne]; omega
  have hn' : (σ.now.text.toList == [45]) = false := (is_eq _ _).symm.trans hn
  have hm' : (σ.now.text.toList == [40]) = false := (is_eq _ _).symm.trans hm
  have hi' : (σ.now.text.toList == [105, 116]) = false := (is_eq _ _).symm.trans hi
  have hbw := h.blk.lt
  clear hk hk3 hn hm hi
  go_enter Tryz.func258, Tryz.ntmps258
  go_wp2_with (first
    | (go_at_call 83; refine (now_p (h.alloc _) hpre.good.pos).mono ?_; rintro e w' ⟨rfl, o, rfl⟩)
    | (go_at_call 163; obtain ⟨hs0, he0⟩ := h.box3 opZero o (.cells (tokCells σ.now) 141); refine (fail_p hs0 hpre.good.pos).mono ?_; rintro e w1 ⟨rfl, own1, m1, hs1, he1⟩))
  go_end0
  exact ⟨rfl, own1, m1, hs1, he0.trans he1⟩
end Go.Proofs.YtddbjcfdmdbmkaaGreatDoor

namespace Go.Proofs.YtddbjcfdmdbmkaaGreatDoor
open Go.RowKit

theorem fieldP_def (σ : Rd) (name : ByteArray) (place : Nat) : fieldP σ name place = ((σ.skip.expect [tDot]).expect sField).put ⟨(σ.skip.expect [tDot]).whichV sField, 0, name, place⟩ := by unfold fieldP; rfl
theorem box3_0 (w : World) (cs : Array Value) (t : TypeId) (o1 o2 : Obj) : Blk (((w.alloc (.cells cs t)).alloc o1).alloc o2) w.heap.size cs t := ((Blk.new w cs t).alloc o1).alloc o2
def opWith (name : ByteArray) (place : Nat) : Array Value := #[.string ⟨#[]⟩, .int .i64 0, .string name, .int .i64 place]

set_option maxRecDepth 100000 in
set_option maxHeartbeats 800000 in
theorem factor_it {b n : Nat} {own : Nat → Nat} {w : World} {m : RM} {σ : Rd} (h : RSt own w b m σ) (hpre : Pre (n + 1) σ) (hk : ¬ σ.now.kind = 2) (hk3 : ¬ σ.now.kind = 3) (hn : σ.now.is tMinus = false) (hm : σ.now.is tOpen = false) (hi : σ.now.is tIt = true) :
    Calls Tryz.prog 258 #[.pointer (some ⟨b, 0, none⟩)] w fun e w' => e = .returned (.tuple #[]) ∧ AfterR own w b (fieldP σ ⟨#[]⟩ 0) w' := by
  have hk' : ((σ.now.kind : Int) == 2) = false := by rw [beq_eq_false_iff_ne]; omega
  have hk3' : ((σ.now.kind : Int) == 3) = false := by rw [beq_eq_false_iff_ne]; omega
  have hn' : (σ.now.text.toList == [45]) = false := (is_eq _ _).symm.trans hn
  have hm' : (σ.now.text.toList == [40]) = false := (is_eq _ _).symm.trans hm
  have hi' : (σ.now.text.toList == [105, 116]) = true := (is_eq _ _).symm.trans hi
  have hbw := h.blk.lt
  have h2 := hpre.good.is (by simp [KW]) hi
  have ps := hpre.ok (skip_ok hpre.good h2)
  have px := ps.ok (expect_ok ps.good (ts := [tDot]) (by simp [KW]))
  have pf := px.ok (expect_ok px.good (ts := sField) (by simp [KW, sField]))
  obtain ⟨l, hl⟩ := Option.isSome_iff_exists.1 pf.live
  have hll : l.length ≤ 100000 := by have a := ((σ.skip.expect [tDot]).expect sField).opsL_le; have := pf.phi; simp only [Rd.opsL, hl, Option.getD_some] at a; omega
  have HP : Hid (fieldP σ ⟨#[]⟩ 0 = ((σ.skip.expect [tDot]).expect sField).put ⟨(σ.skip.expect [tDot]).whichV sField, 0, ⟨#[]⟩, 0⟩) := fieldP_def _ _ _
  obtain ⟨out, HO⟩ : ∃ out, Hid (fieldP σ ⟨#[]⟩ 0 = out) := ⟨_, rfl⟩
  rw [HO.out]
  obtain ⟨fv, HFV⟩ : ∃ v, Hid ((σ.skip.expect [tDot]).whichV sField = v) := ⟨_, rfl⟩
  clear hk hk3 hn hm hi
  go_enter Tryz.func258, Tryz.ntmps258
  go_wp2_with (first
    | (go_at_call 83; refine (now_p (h.alloc _) hpre.good.pos).mono ?_; rintro e w' ⟨rfl, o, rfl⟩)
    | (go_at_call 164; obtain ⟨hs0, he0⟩ := h.box3 (.cells (opWith ⟨#[]⟩ 0) 241) o (.cells (tokCells σ.now) 141); refine (skip_p hs0 h2).mono ?_; rintro e w1 ⟨rfl, hs1, he1⟩; have hb1 := he1.blk8 (b := w.heap.size) (ownBox_0 own w.heap.size) (box3_0 w (opWith ⟨#[]⟩ 0) 241 o (.cells (tokCells σ.now) 141)))
    | (go_at_call 130; refine (expect_new hs2 px.good sField (by simp [KW, sField]) (by simp [sField]) 4 rfl).mono ?_; rintro e w3 ⟨rfl, own3, m3, hs3, he3⟩; rw [HFV.out]; have ho2 := (he2.same _ hb1.lt).trans ho1; have hb3 := he3.blk8 ho2 hb2; have ho3 := (he3.same _ hb2.lt).trans ho2; have hc0 := hb3.cell 0; have hf0 := hb3.frozen 0; have hs4 := hs3.write8 (p := ⟨w.heap.size, 0, none⟩) ho3 (.string fv); have hb4 := hb3.set 0 (.string fv); have r0 := hb4.cell 0; have r1 := hb4.cell 1; have r2 := hb4.cell 2; have r3 := hb4.cell 3; simp [opWith] at hc0 r0 r1 r2 r3)
    | (go_at_call 130; refine (expect_new hs1 ps.good [tDot] (by simp [KW]) (by simp) 1 rfl).mono ?_; rintro e w2 ⟨rfl, own2, m2, hs2, he2⟩; have ho1 := ownBox_0 own w.heap.size; have hb2 := he2.blk8 ho1 hb1)
    | (go_at_call 245; refine (put_p hs4 hl hll ⟨fv, 0, ⟨#[]⟩, 0⟩).mono ?_; rintro e w5 ⟨rfl, own5, m5, hs5, he5⟩))
  go_end0
  rw [← HO.out, HP.out, HFV.out]
  exact ⟨rfl, own5, m5, hs5, ((((he0.trans he1).trans he2).trans he3).setNew (p := ⟨w.heap.size, 0, none⟩) (Nat.le_refl _) _).trans he5⟩
set_option maxRecDepth 100000 in
set_option maxHeartbeats 800000 in
theorem factor_name {b n : Nat} {own : Nat → Nat} {w : World} {m : RM} {σ : Rd} (h : RSt own w b m σ) (hpre : Pre (n + 1) σ) (hk : ¬ σ.now.kind = 2) (hk3 : σ.now.kind = 3) (hn : σ.now.is tMinus = false) (hm : σ.now.is tOpen = false) :
    Calls Tryz.prog 258 #[.pointer (some ⟨b, 0, none⟩)] w fun e w' => e = .returned (.tuple #[]) ∧ AfterR own w b (fieldP σ σ.now.text σ.now.place) w' := by
  have hk' : ((σ.now.kind : Int) == 2) = false := by rw [beq_eq_false_iff_ne]; omega
  have hk3' : ((σ.now.kind : Int) == 3) = true := by simp [hk3]
  have hn' : (σ.now.text.toList == [45]) = false := (is_eq _ _).symm.trans hn
  have hm' : (σ.now.text.toList == [40]) = false := (is_eq _ _).symm.trans hm
  have hbw := h.blk.lt
  have h2 := hpre.good.more (by show 2 ≤ σ.now.kind; omega)
  have ps := hpre.ok (skip_ok hpre.good h2)
  have px := ps.ok (expect_ok ps.good (ts := [tDot]) (by simp [KW]))
  have pf := px.ok (expect_ok px.good (ts := sField) (by simp [KW, sField]))
  obtain ⟨l, hl⟩ := Option.isSome_iff_exists.1 pf.live
  have hll : l.length ≤ 100000 := by have a := ((σ.skip.expect [tDot]).expect sField).opsL_le; have := pf.phi; simp only [Rd.opsL, hl, Option.getD_some] at a; omega
  have HP : Hid (fieldP σ σ.now.text σ.now.place = ((σ.skip.expect [tDot]).expect sField).put ⟨(σ.skip.expect [tDot]).whichV sField, 0, σ.now.text, σ.now.place⟩) := fieldP_def _ _ _
  obtain ⟨out, HO⟩ : ∃ out, Hid (fieldP σ σ.now.text σ.now.place = out) := ⟨_, rfl⟩
  rw [HO.out]
  obtain ⟨fv, HFV⟩ : ∃ v, Hid ((σ.skip.expect [tDot]).whichV sField = v) := ⟨_, rfl⟩
  clear hk hk3 hn hm
  go_enter Tryz.func258, Tryz.ntmps258
  go_wp2_with (first
    | (go_at_call 83; refine (now_p (h.alloc _) hpre.good.pos).mono ?_; rintro e w' ⟨rfl, o, rfl⟩))
  go_region
  go_wp2_with (first
    | (go_at_call 164; obtain ⟨hs0, he0⟩ := h.box3 (.cells (opWith σ.now.text σ.now.place) 241) o (.cells (tokCells σ.now) 141); refine (skip_p hs0.drew h2).mono ?_; rintro e w1 ⟨rfl, hs1, he1⟩; have hb1 := he1.blk8 (b := w.heap.size) (ownBox_0 own w.heap.size) (box3_0 w (opWith σ.now.text σ.now.place) 241 o (.cells (tokCells σ.now) 141)).drew)
    | (go_at_call 130; refine (expect_new hs2 px.good sField (by simp [KW, sField]) (by simp [sField]) 4 rfl).mono ?_; rintro e w3 ⟨rfl, own3, m3, hs3, he3⟩; rw [HFV.out]; have ho2 := (he2.same _ hb1.lt).trans ho1; have hb3 := he3.blk8 ho2 hb2; have ho3 := (he3.same _ hb2.lt).trans ho2; have hc0 := hb3.cell 0; have hf0 := hb3.frozen 0; have hs4 := hs3.write8 (p := ⟨w.heap.size, 0, none⟩) ho3 (.string fv); have hb4 := hb3.set 0 (.string fv); have r0 := hb4.cell 0; have r1 := hb4.cell 1; have r2 := hb4.cell 2; have r3 := hb4.cell 3; simp [opWith] at hc0 r0 r1 r2 r3)
    | (go_at_call 130; refine (expect_new hs1 ps.good [tDot] (by simp [KW]) (by simp) 1 rfl).mono ?_; rintro e w2 ⟨rfl, own2, m2, hs2, he2⟩; have ho1 := ownBox_0 own w.heap.size; have hb2 := he2.blk8 ho1 hb1)
    | (go_at_call 245; refine (put_p hs4 hl hll ⟨fv, 0, σ.now.text, σ.now.place⟩).mono ?_; rintro e w5 ⟨rfl, own5, m5, hs5, he5⟩))
  go_end0
  rw [← HO.out, HP.out, HFV.out]
  exact ⟨rfl, own5, m5, hs5, ((((he0.drew.trans he1).trans he2).trans he3).setNew (p := ⟨w.heap.size, 0, none⟩) (Nat.le_refl _) _).trans he5⟩

theorem factor_p (b : Nat) : ∀ n, PartW b n (factorP n) 258 := by
  intro n
  induction n with
  | zero => intro own w m σ h hpre; have := hpre.good.pos; have := hpre.le; omega
  | succ n ih =>
    intro own w m σ h hpre
    by_cases hk : σ.now.kind = 2
    · have e : factorP (n + 1) σ = (σ.num 0 999999999).put ⟨tPush, σ.numV, ⟨#[]⟩, 0⟩ := by rw [factorP, if_pos hk]
      rw [e]; exact factor_num h hpre hk
    cases hn : σ.now.is tMinus with
    | true =>
      have e : factorP (n + 1) σ = (factorP n σ.enter).leave.put ⟨tOpp, 0, ⟨#[]⟩, 0⟩ := by rw [factorP, if_neg hk, if_pos hn]
      rw [e]; exact factor_neg ih h hpre hk hn
    | false =>
    cases hm : σ.now.is tOpen with
    | true =>
      have e : factorP (n + 1) σ = ((sumP (factorP n) σ.enter).expect [tClose]).leave := by rw [factorP, if_neg hk, if_neg (by simp [hn]), if_pos hm]
      rw [e]; exact factor_par ih h hpre hk hn hm
    | false =>
    by_cases hk3 : σ.now.kind = 3
    · have e : factorP (n + 1) σ = fieldP σ σ.now.text σ.now.place := by rw [factorP, if_neg hk, if_neg (by simp [hn]), if_neg (by simp [hm]), if_pos hk3]
      rw [e]; exact factor_name h hpre hk hk3 hn hm
    cases hi : σ.now.is tIt with
    | true =>
      have e : factorP (n + 1) σ = fieldP σ ⟨#[]⟩ 0 := by rw [factorP, if_neg hk, if_neg (by simp [hn]), if_neg (by simp [hm]), if_neg hk3, if_pos hi]
      rw [e]; exact factor_it h hpre hk hk3 hn hm hi
    | false =>
      have e : factorP (n + 1) σ = σ.fail := by rw [factorP, if_neg hk, if_neg (by simp [hn]), if_neg (by simp [hm]), if_neg hk3, if_neg (by simp [hi])]
      rw [e]; exact factor_bad h hpre hk hk3 hn hm hi
end Go.Proofs.YtddbjcfdmdbmkaaGreatDoor

namespace Go.Proofs.YtddbjcfdmdbmkaaGreatDoor
open Go.RowKit

def OpsLie (own : Nat → Nat) (w : World) (v : Value) (l : List POp) : Prop := w.ownsRow 0 241 4 v l.length (flat POp.cells l) ∧ ∀ g, v.ownBlock = some g → own g = 7
theorem row_ext7 {own own' : Nat → Nat} {w w' : World} {base : Nat} {e : TypeId} {size : Nat} {v : Value} {n : Nat} {xs : List Value} (h : w.ownsRow base e size v n xs) (ho : ∀ g, v.ownBlock = some g → own g = 7) (hE : Ext own w own' w') :
    w'.ownsRow base e size v n xs ∧ ∀ g, v.ownBlock = some g → own' g = 7 := by
  refine ⟨?_, fun g hg => (hE.same g (h.lt g hg).2).trans (ho g hg)⟩
  refine ⟨h.1, ?_⟩
  rcases h.2 with hn | ⟨g, cap, cur, rfl, h1, h2, rest⟩
  · exact .inl hn
  · refine .inr ⟨g, cap, cur, rfl, h1, ?_, rest⟩
    have hlt : g < w.heap.size := (Array.getElem?_eq_some_iff.1 h2).1
    rw [hE.kept.block g ⟨hlt, by rw [ho g rfl]; decide⟩]; exact h2
theorem OpsLie.ext {own own' : Nat → Nat} {w w' : World} {v : Value} {l : List POp} (h : OpsLie own w v l) (hE : Ext own w own' w') : OpsLie own' w' v l := row_ext7 h.1 h.2 hE

def no2 (own : Nat → Nat) : Nat → Nat := fun k => if own k = 2 then 3 else own k
theorem no2_ne (own : Nat → Nat) (k : Nat) : no2 own k ≠ 2 := by unfold no2; split <;> omega
theorem no2_of {own : Nat → Nat} {k c : Nat} (h : own k = c) (hc : c ≠ 2) : no2 own k = c := by unfold no2; rw [if_neg (by omega), h]
theorem no2_7 {own : Nat → Nat} {k c : Nat} (h : no2 own k = c) (hc : 4 ≤ c) : own k = c := by unfold no2 at h; split at h <;> omega
def back (own own1 : Nat → Nat) (N : Nat) : Nat → Nat := fun k => if k < N then own k else if own1 k = 2 then 7 else own1 k
theorem Ext.back {own own1 : Nat → Nat} {w w0 w' : World} (hE : Ext (no2 own) w0 own1 w') (hs : w.heap.size = w0.heap.size) (hk : Kept (fun k => k < w.heap.size ∧ 7 ≤ own k) w w0) : Ext own w (Go.Proofs.YtddbjcfdmdbmkaaGreatDoor.back own own1 w.heap.size) w' := by
  refine ⟨fun k hk => by unfold Go.Proofs.YtddbjcfdmdbmkaaGreatDoor.back; rw [if_pos hk], hk.trans (hE.kept.mono fun k h => ⟨by omega, ?_⟩)⟩
  unfold no2; split <;> omega

structure Pre2 (n : Nat) (σ : Rd) : Prop where
  good : SGood σ.ahead
  le : σ.ahead.length ≤ n
  deep : σ.deep + σ.ahead.length ≤ 2000
theorem Pre2.ok {n : Nat} {σ σ' : Rd} (h : Pre2 n σ) (k : Ok2 σ σ') : Pre2 n σ' := ⟨k.good, Nat.le_trans k.le h.le, by have := k.le; have := k.deep; have := h.deep; omega⟩

def CondPost (own : Nat → Nat) (w : World) (b : Nat) (σ' : Rd) (v : Value) (w' : World) : Prop := ∃ own' m', RSt own' w' b m' σ'.dead ∧ Ext own w own' w' ∧ OpsLie own' w' v σ'.opsL
theorem cond_end {own own1 : Nat → Nat} {w w0 w' : World} {b : Nat} {m1 : RM} {σ' : Rd} {l : List POp} (hs : w.heap.size = w0.heap.size) (hb : b < w.heap.size) (hob : own b = 1) (hk : Kept (fun k => k < w.heap.size ∧ 7 ≤ own k) w w0)
    (h : RSt own1 w' b m1 σ') (hE : Ext (no2 own) w0 own1 w') (hl : σ'.ops = some l) : CondPost own w b σ' m1.ov w' := by
  obtain ⟨hrow, hcol⟩ := h.live l hl
  refine ⟨back own own1 w.heap.size, m1, ⟨h.blk, by unfold back; rw [if_pos hb]; exact hob, h.toks, ?_, h.cap, fun l e => by cases e⟩, hE.back hs hk, ?_⟩
  · unfold back; split
    · rename_i hlt
      have := hE.same m1.tg (by omega)
      rw [h.ot] at this
      exact no2_7 this.symm (by decide)
    · rw [h.ot]; rfl
  · have e : σ'.opsL = l := by unfold Rd.opsL; rw [hl]; rfl
    rw [e]
    refine ⟨hrow, fun g hg => ?_⟩
    have h2 := hcol g hg
    unfold back
    rw [if_neg (fun hlt => by have := hE.same g (by omega); rw [h2] at this; exact no2_ne own g this.symm), if_pos h2]

set_option maxRecDepth 100000 in
set_option maxHeartbeats 800000 in
theorem condition_p {b n : Nat} {own : Nat → Nat} {w : World} {m : RM} {σ : Rd} (h : RSt own w b m σ) (hpre : Pre2 n σ) :
    Calls Tryz.prog 224 #[.pointer (some ⟨b, 0, none⟩)] w fun e w' => ∃ v, e = .returned v ∧ CondPost own w b (condP n σ) v w' := by
  have hmf : ∀ (fn : Fn) (first cap : Array Value) (w : World), (Instr.makeFunc fn first cap).run Tryz.prog w = .ok (.func fn first cap) w := fun _ _ _ _ => rfl
  have hT := h.cell 6
  simp [RCells] at hT
  have hf := h.blk.frozen 6
  have hbw := h.blk.lt
  have h0 : RSt (no2 own) (w.setCell ⟨b, 6, none⟩ (.slice none 0 0)) b { m with ov := .slice none 0 0 } { σ with ops := some [] } := by
    have hn : RSt (no2 own) w b m σ.dead := ⟨h.blk, no2_of h.ob (by decide), h.toks, no2_of h.ot (by decide), h.cap, fun l e => by cases e⟩
    refine hn.store 6 _ (by simp [RCells, Rd.dead]) h.toks (no2_of h.ot (by decide)) h.cap ?_
    intro l e
    cases e
    exact ⟨World.ownsRow_nil _ _ _ _, fun g hg => by simp [Value.ownBlock] at hg⟩
  have HS : Hid (w.heap.size = (w.setCell ⟨b, 6, none⟩ (.slice none 0 0)).heap.size) := by show _ = _; simp [World.setCell]
  have HK : Hid (Kept (fun k => k < w.heap.size ∧ 7 ≤ own k) w (w.setCell ⟨b, 6, none⟩ (.slice none 0 0))) := (Kept.refl _ w).setCell (p := ⟨b, 6, none⟩) (fun hk => by have := h.ob; have := hk.2; simp only at this; omega) _
  have Hob : Hid (own b = 1) := h.ob
  have HO : Hid ((condP n σ).ops.isSome = true) := (condP_ok hpre.good hpre.le).2
  cases hh : σ.has [tIf] with
  | false =>
    have HC : Hid (condP n σ = { σ with ops := some [] }) := by show _ = _; unfold condP; rw [if_neg (by simp [hh])]
    have HW : Hid (({ σ with ops := some [] } : Rd).which [tIf] = { σ with ops := some [] } ∧ ({ σ with ops := some [] } : Rd).has [tIf] = false) := by
      have : ({ σ with ops := some [] } : Rd).has [tIf] = false := hh
      exact ⟨by unfold Rd.which; rw [if_neg (by simp [this])], this⟩
    have hc := take_new h0 hpre.good [tIf] (by simp [KW]) (by simp) 1 rfl
    rw [HW.out.1, HW.out.2, ← HS.out] at hc
    clear hh h
    go_enter Tryz.func224, Tryz.ntmps224
    go_wp2_with (go_at_call 168; refine hc.mono ?_; rintro e w1 ⟨rfl, own1, m1, hs1, he1⟩; have hc6 := hs1.cell 6; simp [RCells] at hc6)
    go_ret
    rw [HC.out]
    exact ⟨_, rfl, cond_end HS.out hbw Hob.out HK.out hs1 he1 rfl⟩
  | true =>
    have h2 := hpre.good.has (ts := [tIf]) (by simp [KW]) hh
    have HC : Hid (condP n σ = chainP (bothP (factorP n)) [tOr] { σ.skip with ops := some [] }) := by show _ = _; unfold condP; rw [if_pos hh]
    have HW : Hid (({ σ with ops := some [] } : Rd).which [tIf] = { σ.skip with ops := some [] } ∧ ({ σ with ops := some [] } : Rd).has [tIf] = true) := by
      have : ({ σ with ops := some [] } : Rd).has [tIf] = true := hh
      exact ⟨by unfold Rd.which; rw [if_pos this]; rfl, this⟩
    have hp1 : Pre n { σ.skip with ops := some [] } := by
      have hd := hpre.deep
      have hle := hpre.le
      have hl : ({ σ.skip with ops := some [] } : Rd).ahead.length = σ.ahead.length - 1 := skip_len σ
      refine ⟨hpre.good.tail h2, by omega, ?_, rfl, ?_⟩
      · unfold Rd.phi; rw [hl]; show 0 + _ ≤ _; omega
      · rw [hl]; show σ.deep + _ ≤ _; omega
    have hc := take_new h0 hpre.good [tIf] (by simp [KW]) (by simp) 1 rfl
    rw [HW.out.1, HW.out.2, ← HS.out] at hc
    have hch := fun own1 w1 m1 (hs1 : RSt own1 w1 b m1 { σ.skip with ops := some [] }) => chain_new (bothP_ok (factorP_ok n)) (by omega) (both_p (factorP_ok n) (factor_p b n)) enters_both [tOr] (by simp [KW]) (by simp) hs1 hp1 1 rfl
    obtain ⟨l, hl⟩ := Option.isSome_iff_exists.1 HO.out
    rw [HC.out] at hl ⊢
    generalize chainP (bothP (factorP n)) [tOr] { σ.skip with ops := some [] } = out at *
    clear hh h h0 HW HC HO
    go_enter Tryz.func224, Tryz.ntmps224
    go_wp2_with (first
      | (go_at_call 168; refine hc.mono ?_; rintro e w1 ⟨rfl, own1, m1, hs1, he1⟩)
      | (go_at_call 239; refine (hch own1 w1 m1 hs1).mono ?_; rintro e w2 ⟨rfl, own2, m2, hs2, he2⟩; have hc6 := hs2.cell 6; simp [RCells] at hc6))
    go_ret
    exact ⟨_, rfl, cond_end HS.out hbw Hob.out HK.out hs2 (he1.trans he2) hl⟩
end Go.Proofs.YtddbjcfdmdbmkaaGreatDoor
