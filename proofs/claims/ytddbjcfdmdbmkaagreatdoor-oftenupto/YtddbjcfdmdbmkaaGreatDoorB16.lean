import Derived.Test.YtddbjcfdmdbmkaaGreatDoorB15
set_option linter.unusedVariables false
set_option linter.unusedSimpArgs false
namespace Go.Proofs.YtddbjcfdmdbmkaaGreatDoor
open Go.RowKit

theorem fieldP_def (σ : Rd) (name : ByteArray) (place : Nat) : fieldP σ name place = ((σ.skip.expect [tDot]).expect sField).put ⟨(σ.skip.expect [tDot]).whichV sField, 0, name, place⟩ := by unfold fieldP; rfl
theorem box3_0 (w : World) (cs : Array Value) (t : TypeId) (o1 o2 : Obj) : Blk (((w.alloc (.cells cs t)).alloc o1).alloc o2) w.heap.size cs t := ((Blk.new w cs t).alloc o1).alloc o2
def opWith (name : ByteArray) (place : Nat) : Array Value := #[.string ⟨#[]⟩, .int .i64 0, .string name, .int .i64 place]

set_option maxRecDepth 100000 in
set_option maxHeartbeats 800000 in
theorem factor_it {b n : Nat} {own : Nat → Nat} {w : World} {m : RM} {σ : Rd} (h : RSt own w b m σ) (hpre : Pre (n + 1) σ) (hk : ¬ σ.now.kind = 2) (hk3 : ¬ σ.now.kind = 3) (hn : σ.now.is tMinus = false) (hm : σ.now.is tOpen = false) (hi : σ.now.is tIt = true) :
    Calls Tryz.prog 258 #[.pointer (some ⟨b, 0, none⟩)] w fun e w' => e = .returned (.tuple #[]) ∧ AfterR own w b (fieldP σ ⟨#[]⟩ 0) w' := by
  have hk' : ((σ.now.kind : Int) == 2) = false := by rw [beq_eq_false_iff_ne]; omega
  have hk3' : ((σ.now.kind : Int) == 3) = false := by rw [beq_eq_false_iff_ne]; omega
  have hn' : (σ.now.text.toList == [45]) = false := (is_eq _ _).symm.trans hn
  have hm' : (σ.now.text.toList == [40]) = false := (is_eq _ _).symm.trans hm
  have hi' : (σ.now.text.toList == [105, 116]) = true := (is_eq _ _).symm.trans hi
  have hbw := h.blk.lt
  have h2 := hpre.good.is (by simp [KW]) hi
  have ps := hpre.ok (skip_ok hpre.good h2)
  have px := ps.ok (expect_ok ps.good (ts := [tDot]) (by simp [KW]))
  have pf := px.ok (expect_ok px.good (ts := sField) (by simp [KW, sField]))
  obtain ⟨l, hl⟩ := Option.isSome_iff_exists.1 pf.live
  have hll : l.length ≤ 100000 := by have a := ((σ.skip.expect [tDot]).expect sField).opsL_le; have := pf.phi; simp only [Rd.opsL, hl, Option.getD_some] at a; omega
  have HP : Hid (fieldP σ ⟨#[]⟩ 0 = ((σ.skip.expect [tDot]).expect sField).put ⟨(σ.skip.expect [tDot]).whichV sField, 0, ⟨#[]⟩, 0⟩) := fieldP_def _ _ _
  obtain ⟨out, HO⟩ : ∃ out, Hid (fieldP σ ⟨#[]⟩ 0 = out) := ⟨_, rfl⟩
  rw [HO.out]
  obtain ⟨fv, HFV⟩ : ∃ v, Hid ((σ.skip.expect [tDot]).whichV sField = v) := ⟨_, rfl⟩
  clear hk hk3 hn hm hi
  go_enter Tryz.func258, Tryz.ntmps258
  go_wp2_with (first
    | (go_at_call 83; refine (now_p (h.alloc _) hpre.good.pos).mono ?_; rintro e w' ⟨rfl, o, rfl⟩)
    | (go_at_call 164; obtain ⟨hs0, he0⟩ := h.box3 (.cells (opWith ⟨#[]⟩ 0) 241) o (.cells (tokCells σ.now) 141); refine (skip_p hs0 h2).mono ?_; rintro e w1 ⟨rfl, hs1, he1⟩; have hb1 := he1.blk8 (b := w.heap.size) (ownBox_0 own w.heap.size) (box3_0 w (opWith ⟨#[]⟩ 0) 241 o (.cells (tokCells σ.now) 141)))
    | (go_at_call 130; refine (expect_new hs2 px.good sField (by simp [KW, sField]) (by simp [sField]) 4 rfl).mono ?_; rintro e w3 ⟨rfl, own3, m3, hs3, he3⟩; rw [HFV.out]; have ho2 := (he2.same _ hb1.lt).trans ho1; have hb3 := he3.blk8 ho2 hb2; have ho3 := (he3.same _ hb2.lt).trans ho2; have hc0 := hb3.cell 0; have hf0 := hb3.frozen 0; have hs4 := hs3.write8 (p := ⟨w.heap.size, 0, none⟩) ho3 (.string fv); have hb4 := hb3.set 0 (.string fv); have r0 := hb4.cell 0; have r1 := hb4.cell 1; have r2 := hb4.cell 2; have r3 := hb4.cell 3; simp [opWith] at hc0 r0 r1 r2 r3)
    | (go_at_call 130; refine (expect_new hs1 ps.good [tDot] (by simp [KW]) (by simp) 1 rfl).mono ?_; rintro e w2 ⟨rfl, own2, m2, hs2, he2⟩; have ho1 := ownBox_0 own w.heap.size; have hb2 := he2.blk8 ho1 hb1)
    | (go_at_call 245; refine (put_p hs4 hl hll ⟨fv, 0, ⟨#[]⟩, 0⟩).mono ?_; rintro e w5 ⟨rfl, own5, m5, hs5, he5⟩))
  go_end0
  rw [← HO.out, HP.out, HFV.out]
  exact ⟨rfl, own5, m5, hs5, ((((he0.trans he1).trans he2).trans he3).setNew (p := ⟨w.heap.size, 0, none⟩) (Nat.le_refl _) _).trans he5⟩
set_option maxRecDepth 100000 in
set_option maxHeartbeats 800000 in
theorem factor_name {b n : Nat} {own : Nat → Nat} {w : World} {m : RM} {σ : Rd} (h : RSt own w b m σ) (hpre : Pre (n + 1) σ) (hk : ¬ σ.now.kind = 2) (hk3 : σ.now.kind = 3) (hn : σ.now.is tMinus = false) (hm : σ.now.is tOpen = false) :
    Calls Tryz.prog 258 #[.pointer (some ⟨b, 0, none⟩)] w fun e w' => e = .returned (.tuple #[]) ∧ AfterR own w b (fieldP σ σ.now.text σ.now.place) w' := by
  have hk' : ((σ.now.kind : Int) == 2) = false := by rw [beq_eq_false_iff_ne]; omega
  have hk3' : ((σ.now.kind : Int) == 3) = true := by simp [hk3]
  have hn' : (σ.now.text.toList == [45]) = false := (is_eq _ _).symm.trans hn
  have hm' : (σ.now.text.toList == [40]) = false := (is_eq _ _).symm.trans hm
  have hbw := h.blk.lt
  have h2 := hpre.good.more (by show 2 ≤ σ.now.kind; omega)
  have ps := hpre.ok (skip_ok hpre.good h2)
  have px := ps.ok (expect_ok ps.good (ts := [tDot]) (by simp [KW]))
  have pf := px.ok (expect_ok px.good (ts := sField) (by simp [KW, sField]))
  obtain ⟨l, hl⟩ := Option.isSome_iff_exists.1 pf.live
  have hll : l.length ≤ 100000 := by have a := ((σ.skip.expect [tDot]).expect sField).opsL_le; have := pf.phi; simp only [Rd.opsL, hl, Option.getD_some] at a; omega
  have HP : Hid (fieldP σ σ.now.text σ.now.place = ((σ.skip.expect [tDot]).expect sField).put ⟨(σ.skip.expect [tDot]).whichV sField, 0, σ.now.text, σ.now.place⟩) := fieldP_def _ _ _
  obtain ⟨out, HO⟩ : ∃ out, Hid (fieldP σ σ.now.text σ.now.place = out) := ⟨_, rfl⟩
  rw [HO.out]
  obtain ⟨fv, HFV⟩ : ∃ v, Hid ((σ.skip.expect [tDot]).whichV sField = v) := ⟨_, rfl⟩
  clear hk hk3 hn hm
  go_enter Tryz.func258, Tryz.ntmps258
  go_wp2_with (first
    | (go_at_call 83; refine (now_p (h.alloc _) hpre.good.pos).mono ?_; rintro e w' ⟨rfl, o, rfl⟩))
  go_region
  go_wp2_with (first
    | (go_at_call 164; obtain ⟨hs0, he0⟩ := h.box3 (.cells (opWith σ.now.text σ.now.place) 241) o (.cells (tokCells σ.now) 141); refine (skip_p hs0.drew h2).mono ?_; rintro e w1 ⟨rfl, hs1, he1⟩; have hb1 := he1.blk8 (b := w.heap.size) (ownBox_0 own w.heap.size) (box3_0 w (opWith σ.now.text σ.now.place) 241 o (.cells (tokCells σ.now) 141)).drew)
    | (go_at_call 130; refine (expect_new hs2 px.good sField (by simp [KW, sField]) (by simp [sField]) 4 rfl).mono ?_; rintro e w3 ⟨rfl, own3, m3, hs3, he3⟩; rw [HFV.out]; have ho2 := (he2.same _ hb1.lt).trans ho1; have hb3 := he3.blk8 ho2 hb2; have ho3 := (he3.same _ hb2.lt).trans ho2; have hc0 := hb3.cell 0; have hf0 := hb3.frozen 0; have hs4 := hs3.write8 (p := ⟨w.heap.size, 0, none⟩) ho3 (.string fv); have hb4 := hb3.set 0 (.string fv); have r0 := hb4.cell 0; have r1 := hb4.cell 1; have r2 := hb4.cell 2; have r3 := hb4.cell 3; simp [opWith] at hc0 r0 r1 r2 r3)
    | (go_at_call 130; refine (expect_new hs1 ps.good [tDot] (by simp [KW]) (by simp) 1 rfl).mono ?_; rintro e w2 ⟨rfl, own2, m2, hs2, he2⟩; have ho1 := ownBox_0 own w.heap.size; have hb2 := he2.blk8 ho1 hb1)
    | (go_at_call 245; refine (put_p hs4 hl hll ⟨fv, 0, σ.now.text, σ.now.place⟩).mono ?_; rintro e w5 ⟨rfl, own5, m5, hs5, he5⟩))
  go_end0
  rw [← HO.out, HP.out, HFV.out]
  exact ⟨rfl, own5, m5, hs5, ((((he0.drew.trans he1).trans he2).trans he3).setNew (p := ⟨w.heap.size, 0, none⟩) (Nat.le_refl _) _).trans he5⟩

theorem factor_p (b : Nat) : ∀ n, PartW b n (factorP n) 258 := by
  intro n
  induction n with
  | zero => intro own w m σ h hpre; have := hpre.good.pos; have := hpre.le; omega
  | succ n ih =>
    intro own w m σ h hpre
    by_cases hk : σ.now.kind = 2
    · have e : factorP (n + 1) σ = (σ.num 0 999999999).put ⟨tPush, σ.numV, ⟨#[]⟩, 0⟩ := by rw [factorP, if_pos hk]
      rw [e]; exact factor_num h hpre hk
    cases hn : σ.now.is tMinus with
    | true =>
      have e : factorP (n + 1) σ = (factorP n σ.enter).leave.put ⟨tOpp, 0, ⟨#[]⟩, 0⟩ := by rw [factorP, if_neg hk, if_pos hn]
      rw [e]; exact factor_neg ih h hpre hk hn
    | false =>
    cases hm : σ.now.is tOpen with
    | true =>
      have e : factorP (n + 1) σ = ((sumP (factorP n) σ.enter).expect [tClose]).leave := by rw [factorP, if_neg hk, if_neg (by simp [hn]), if_pos hm]
      rw [e]; exact factor_par ih h hpre hk hn hm
    | false =>
    by_cases hk3 : σ.now.kind = 3
    · have e : factorP (n + 1) σ = fieldP σ σ.now.text σ.now.place := by rw [factorP, if_neg hk, if_neg (by simp [hn]), if_neg (by simp [hm]), if_pos hk3]
      rw [e]; exact factor_name h hpre hk hk3 hn hm
    cases hi : σ.now.is tIt with
    | true =>
      have e : factorP (n + 1) σ = fieldP σ ⟨#[]⟩ 0 := by rw [factorP, if_neg hk, if_neg (by simp [hn]), if_neg (by simp [hm]), if_neg hk3, if_pos hi]
      rw [e]; exact factor_it h hpre hk hk3 hn hm hi
    | false =>
      have e : factorP (n + 1) σ = σ.fail := by rw [factorP, if_neg hk, if_neg (by simp [hn]), if_neg (by simp [hm]), if_neg hk3, if_neg (by simp [hi])]
      rw [e]; exact factor_bad h hpre hk hk3 hn hm hi
end Go.Proofs.YtddbjcfdmdbmkaaGreatDoor

namespace Go.Proofs.YtddbjcfdmdbmkaaGreatDoor
open Go.RowKit

def OpsLie (own : Nat → Nat) (w : World) (v : Value) (l : List POp) : Prop := w.ownsRow 0 241 4 v l.length (flat POp.cells l) ∧ ∀ g, v.ownBlock = some g → own g = 7
theorem row_ext7 {own own' : Nat → Nat} {w w' : World} {base : Nat} {e : TypeId} {size : Nat} {v : Value} {n : Nat} {xs : List Value} (h : w.ownsRow base e size v n xs) (ho : ∀ g, v.ownBlock = some g → own g = 7) (hE : Ext own w own' w') :
    w'.ownsRow base e size v n xs ∧ ∀ g, v.ownBlock = some g → own' g = 7 := by
  refine ⟨?_, fun g hg => (hE.same g (h.lt g hg).2).trans (ho g hg)⟩
  refine ⟨h.1, ?_⟩
  rcases h.2 with hn | ⟨g, cap, cur, rfl, h1, h2, rest⟩
  · exact .inl hn
  · refine .inr ⟨g, cap, cur, rfl, h1, ?_, rest⟩
    have hlt : g < w.heap.size := (Array.getElem?_eq_some_iff.1 h2).1
    rw [hE.kept.block g ⟨hlt, by rw [ho g rfl]; decide⟩]; exact h2
theorem OpsLie.ext {own own' : Nat → Nat} {w w' : World} {v : Value} {l : List POp} (h : OpsLie own w v l) (hE : Ext own w own' w') : OpsLie own' w' v l := row_ext7 h.1 h.2 hE

def no2 (own : Nat → Nat) : Nat → Nat := fun k => if own k = 2 then 3 else own k
theorem no2_ne (own : Nat → Nat) (k : Nat) : no2 own k ≠ 2 := by unfold no2; split <;> omega
theorem no2_of {own : Nat → Nat} {k c : Nat} (h : own k = c) (hc : c ≠ 2) : no2 own k = c := by unfold no2; rw [if_neg (by omega), h]
theorem no2_7 {own : Nat → Nat} {k c : Nat} (h : no2 own k = c) (hc : 4 ≤ c) : own k = c := by unfold no2 at h; split at h <;> omega
def back (own own1 : Nat → Nat) (N : Nat) : Nat → Nat := fun k => if k < N then own k else if own1 k = 2 then 7 else own1 k
theorem Ext.back {own own1 : Nat → Nat} {w w0 w' : World} (hE : Ext (no2 own) w0 own1 w') (hs : w.heap.size = w0.heap.size) (hk : Kept (fun k => k < w.heap.size ∧ 7 ≤ own k) w w0) : Ext own w (Go.Proofs.YtddbjcfdmdbmkaaGreatDoor.back own own1 w.heap.size) w' := by
  refine ⟨fun k hk => by unfold Go.Proofs.YtddbjcfdmdbmkaaGreatDoor.back; rw [if_pos hk], hk.trans (hE.kept.mono fun k h => ⟨by omega, ?_⟩)⟩
  unfold no2; split <;> omega

structure Pre2 (n : Nat) (σ : Rd) : Prop where
  good : SGood σ.ahead
  le : σ.ahead.length ≤ n
  deep : σ.deep + σ.ahead.length ≤ 2000
theorem Pre2.ok {n : Nat} {σ σ' : Rd} (h : Pre2 n σ) (k : Ok2 σ σ') : Pre2 n σ' := ⟨k.good, Nat.le_trans k.le h.le, by have := k.le; have := k.deep; have := h.deep; omega⟩

def CondPost (own : Nat → Nat) (w : World) (b : Nat) (σ' : Rd) (v : Value) (w' : World) : Prop := ∃ own' m', RSt own' w' b m' σ'.dead ∧ Ext own w own' w' ∧ OpsLie own' w' v σ'.opsL
theorem cond_end {own own1 : Nat → Nat} {w w0 w' : World} {b : Nat} {m1 : RM} {σ' : Rd} {l : List POp} (hs : w.heap.size = w0.heap.size) (hb : b < w.heap.size) (hob : own b = 1) (hk : Kept (fun k => k < w.heap.size ∧ 7 ≤ own k) w w0)
    (h : RSt own1 w' b m1 σ') (hE : Ext (no2 own) w0 own1 w') (hl : σ'.ops = some l) : CondPost own w b σ' m1.ov w' := by
  obtain ⟨hrow, hcol⟩ := h.live l hl
  refine ⟨back own own1 w.heap.size, m1, ⟨h.blk, by unfold back; rw [if_pos hb]; exact hob, h.toks, ?_, h.cap, fun l e => by cases e⟩, hE.back hs hk, ?_⟩
  · unfold back; split
    · rename_i hlt
      have := hE.same m1.tg (by omega)
      rw [h.ot] at this
      exact no2_7 this.symm (by decide)
    · rw [h.ot]; rfl
  · have e : σ'.opsL = l := by unfold Rd.opsL; rw [hl]; rfl
    rw [e]
    refine ⟨hrow, fun g hg => ?_⟩
    have h2 := hcol g hg
    unfold back
    rw [if_neg (fun hlt => by have := hE.same g (by omega); rw [h2] at this; exact no2_ne own g this.symm), if_pos h2]

set_option maxRecDepth 100000 in
set_option maxHeartbeats 800000 in
theorem condition_p {b n : Nat} {own : Nat → Nat} {w : World} {m : RM} {σ : Rd} (h : RSt own w b m σ) (hpre : Pre2 n σ) :
    Calls Tryz.prog 224 #[.pointer (some ⟨b, 0, none⟩)] w fun e w' => ∃ v, e = .returned v ∧ CondPost own w b (condP n σ) v w' := by
  have hmf : ∀ (fn : Fn) (first cap : Array Value) (w : World), (Instr.makeFunc fn first cap).run Tryz.prog w = .ok (.func fn first cap) w := fun _ _ _ _ => rfl
  have hT := h.cell 6
  simp [RCells] at hT
  have hf := h.blk.frozen 6
  have hbw := h.blk.lt
  have h0 : RSt (no2 own) (w.setCell ⟨b, 6, none⟩ (.slice none 0 0)) b { m with ov := .slice none 0 0 } { σ with ops := some [] } := by
    have hn : RSt (no2 own) w b m σ.dead := ⟨h.blk, no2_of h.ob (by decide), h.toks, no2_of h.ot (by decide), h.cap, fun l e => by cases e⟩
    refine hn.store 6 _ (by simp [RCells, Rd.dead]) h.toks (no2_of h.ot (by decide)) h.cap ?_
    intro l e
    cases e
    exact ⟨World.ownsRow_nil _ _ _ _, fun g hg => by simp [Value.ownBlock] at hg⟩
  have HS : Hid (w.heap.size = (w.setCell ⟨b, 6, none⟩ (.slice none 0 0)).heap.size) := by show _ = _; simp [World.setCell]
  have HK : Hid (Kept (fun k => k < w.heap.size ∧ 7 ≤ own k) w (w.setCell ⟨b, 6, none⟩ (.slice none 0 0))) := (Kept.refl _ w).setCell (p := ⟨b, 6, none⟩) (fun hk => by have := h.ob; have := hk.2; simp only at this; omega) _
  have Hob : Hid (own b = 1) := h.ob
  have HO : Hid ((condP n σ).ops.isSome = true) := (condP_ok hpre.good hpre.le).2
  cases hh : σ.has [tIf] with
  | false =>
    have HC : Hid (condP n σ = { σ with ops := some [] }) := by show _ = _; unfold condP; rw [if_neg (by simp [hh])]
    have HW : Hid (({ σ with ops := some [] } : Rd).which [tIf] = { σ with ops := some [] } ∧ ({ σ with ops := some [] } : Rd).has [tIf] = false) := by
      have : ({ σ with ops := some [] } : Rd).has [tIf] = false := hh
      exact ⟨by unfold Rd.which; rw [if_neg (by simp [this])], this⟩
    have hc := take_new h0 hpre.good [tIf] (by simp [KW]) (by simp) 1 rfl
    rw [HW.out.1, HW.out.2, ← HS.out] at hc
    clear hh h
    go_enter Tryz.func224, Tryz.ntmps224
    go_wp2_with (go_at_call 168; refine hc.mono ?_; rintro e w1 ⟨rfl, own1, m1, hs1, he1⟩; have hc6 := hs1.cell 6; simp [RCells] at hc6)
    go_ret
    rw [HC.out]
    exact ⟨_, rfl, cond_end HS.out hbw Hob.out HK.out hs1 he1 rfl⟩
  | true =>
    have h2 := hpre.good.has (ts := [tIf]) (by simp [KW]) hh
    have HC : Hid (condP n σ = chainP (bothP (factorP n)) [tOr] { σ.skip with ops := some [] }) := by show _ = _; unfold condP; rw [if_pos hh]
    have HW : Hid (({ σ with ops := some [] } : Rd).which [tIf] = { σ.skip with ops := some [] } ∧ ({ σ with ops := some [] } : Rd).has [tIf] = true) := by
      have : ({ σ with ops := some [] } : Rd).has [tIf] = true := hh
      exact ⟨by unfold Rd.which; rw [if_pos this]; rfl, this⟩
    have hp1 : Pre n { σ.skip with ops := some [] } := by
      have hd := hpre.deep
      have hle := hpre.le
      have hl : ({ σ.skip with ops := some [] } : Rd).ahead.length = σ.ahead.length - 1 := skip_len σ
      refine ⟨hpre.good.tail h2, by omega, ?_, rfl, ?_⟩
      · unfold Rd.phi; rw [hl]; show 0 + _ ≤ _; omega
      · rw [hl]; show σ.deep + _ ≤ _; omega
    have hc := take_new h0 hpre.good [tIf] (by simp [KW]) (by simp) 1 rfl
    rw [HW.out.1, HW.out.2, ← HS.out] at hc
    have hch := fun own1 w1 m1 (hs1 : RSt own1 w1 b m1 { σ.skip with ops := some [] }) => chain_new (bothP_ok (factorP_ok n)) (by omega) (both_p (factorP_ok n) (factor_p b n)) enters_both [tOr] (by simp [KW]) (by simp) hs1 hp1 1 rfl
    obtain ⟨l, hl⟩ := Option.isSome_iff_exists.1 HO.out
    rw [HC.out] at hl ⊢
    generalize chainP (bothP (factorP n)) [tOr] { σ.skip with ops := some [] } = out at *
    clear hh h h0 HW HC HO
    go_enter Tryz.func224, Tryz.ntmps224
    go_wp2_with (first
      | (go_at_call 168; refine hc.mono ?_; rintro e w1 ⟨rfl, own1, m1, hs1, he1⟩)
      | (go_at_call 239; refine (hch own1 w1 m1 hs1).mono ?_; rintro e w2 ⟨rfl, own2, m2, hs2, he2⟩; have hc6 := hs2.cell 6; simp [RCells] at hc6))
    go_ret
    exact ⟨_, rfl, cond_end HS.out hbw Hob.out HK.out hs2 (he1.trans he2) hl⟩
end Go.Proofs.YtddbjcfdmdbmkaaGreatDoor

namespace Go.Proofs.YtddbjcfdmdbmkaaGreatDoor
open Go.RowKit

def partCells (x : PPart × (Value × Value)) : List Value := [.string x.1.name, .int .i64 x.1.place, .int .i64 x.1.times, .int .i64 x.1.kind, x.2.1, x.2.2]
def partVal (p : PPart) (cv hv : Value) : Value := .agg #[.string p.name, .int .i64 p.place, .int .i64 p.times, .int .i64 p.kind, cv, hv]
def ChBy (own : Nat → Nat) (w : World) (S : Value → List PPart → Prop) (v : Value) (c : List (List PPart)) : Prop :=
  (c = [] ∧ v = .slice none 0 0) ∨ (c ≠ [] ∧ ∃ vs : List Value, vs.length = c.length ∧ w.ownsRow 0 99 1 v c.length vs ∧ (∀ g, v.ownBlock = some g → own g = 7) ∧ ∀ q ∈ c.zip vs, S q.2 q.1)
def SeqLie (own : Nat → Nat) (w : World) : Nat → Value → List PPart → Prop
  | 0, _, _ => False
  | n + 1, v, l => ∃ xs : List (Value × Value), xs.length = l.length ∧ w.ownsRow 0 189 6 v l.length (flat partCells (l.zip xs)) ∧ (∀ g, v.ownBlock = some g → own g = 7) ∧
      ∀ p ∈ l.zip xs, OpsLie own w p.2.1 p.1.cond ∧ ChBy own w (SeqLie own w n) p.2.2 p.1.choices
def PartLie (own : Nat → Nat) (w : World) (n : Nat) (p : PPart) (cv hv : Value) : Prop := OpsLie own w cv p.cond ∧ ChBy own w (SeqLie own w n) hv p.choices
theorem ChBy.ext {own own' : Nat → Nat} {w w' : World} {S S' : Value → List PPart → Prop} (hS : ∀ v l, S v l → S' v l) {v : Value} {c : List (List PPart)} (h : ChBy own w S v c) (hE : Ext own w own' w') : ChBy own' w' S' v c := by
  rcases h with h | ⟨h0, vs, h1, h2, h3, h4⟩
  · exact .inl h
  · obtain ⟨r, o⟩ := row_ext7 h2 h3 hE
    exact .inr ⟨h0, vs, h1, r, o, fun q hq => hS _ _ (h4 q hq)⟩
theorem SeqLie.ext {own own' : Nat → Nat} {w w' : World} (hE : Ext own w own' w') : ∀ n v l, SeqLie own w n v l → SeqLie own' w' n v l := by
  intro n
  induction n with
  | zero => intro v l h; exact h
  | succ n ih =>
    rintro v l ⟨xs, h1, h2, h3, h4⟩
    obtain ⟨r, o⟩ := row_ext7 h2 h3 hE
    exact ⟨xs, h1, r, o, fun p hp => ⟨(h4 p hp).1.ext hE, (h4 p hp).2.ext ih hE⟩⟩
theorem PartLie.ext {own own' : Nat → Nat} {w w' : World} {n : Nat} {p : PPart} {cv hv : Value} (h : PartLie own w n p cv hv) (hE : Ext own w own' w') : PartLie own' w' n p cv hv :=
  ⟨h.1.ext hE, h.2.ext (SeqLie.ext hE n) hE⟩

def PartPost (own : Nat → Nat) (w : World) (b n : Nat) (r : Rd × PPart) (v : Value) (w' : World) : Prop := ∃ own' m' cv hv, RSt own' w' b m' r.1 ∧ Ext own w own' w' ∧ v = partVal r.2 cv hv ∧ PartLie own' w' n r.2 cv hv

theorem row_form {w : World} {base : Nat} {e : TypeId} {size : Nat} {v : Value} {n : Nat} {xs : List Value} (h : w.ownsRow base e size v n xs) : ∃ p l c, v = .slice p l c := by
  rcases h.2 with ⟨rfl, _⟩ | ⟨g, cap, cur, rfl, _⟩
  · exact ⟨_, _, _, rfl⟩
  · exact ⟨_, _, _, rfl⟩

def zeroPart : Array Value := #[.string ⟨#[]⟩, .int .i64 0, .int .i64 0, .int .i64 0, .slice none 0 0, .slice none 0 0]
def plainPart (name : ByteArray) (place times kind : Nat) (cv : Value) : Array Value := #[.string name, .int .i64 place, .int .i64 times, .int .i64 kind, cv, .slice none 0 0]
structure Two (own : Nat → Nat) (w : World) (N M : Nat) (cs : Array Value) : Prop where
  z : Blk w N zeroPart 189
  p : Blk w M cs 189
  oz : own N = 8
  op : own M = 8
theorem Two.ext {own own' : Nat → Nat} {w w' : World} {N M : Nat} {cs : Array Value} (h : Two own w N M cs) (e : Ext own w own' w') : Two own' w' N M cs :=
  ⟨e.blk8 h.oz h.z, e.blk8 h.op h.p, (e.same _ h.z.lt).trans h.oz, (e.same _ h.p.lt).trans h.op⟩
theorem Two.set {own : Nat → Nat} {w : World} {N M : Nat} {cs : Array Value} (h : Two own w N M cs) (hne : N ≠ M) (k : Nat) (v : Value) : Two own (w.setCell ⟨M, k, none⟩ v) N M (cs.setIfInBounds k v) :=
  ⟨h.z.other _ v (fun e => hne e.symm), h.p.set k v, h.oz, h.op⟩
theorem Blk.six {w : World} {N : Nat} (h : Blk w N zeroPart 189) (v0 v1 v2 v3 v4 v5 : Value) :
    Blk ((((((w.setCell ⟨N, 0, none⟩ v0).setCell ⟨N, 1, none⟩ v1).setCell ⟨N, 2, none⟩ v2).setCell ⟨N, 3, none⟩ v3).setCell ⟨N, 4, none⟩ v4).setCell ⟨N, 5, none⟩ v5) N #[v0, v1, v2, v3, v4, v5] 189 := by
  have := (((((h.set 0 v0).set 1 v1).set 2 v2).set 3 v3).set 4 v4).set 5 v5
  simpa [zeroPart] using this
theorem RSt.six {own : Nat → Nat} {w : World} {b : Nat} {m : RM} {σ : Rd} (h : RSt own w b m σ) {N : Nat} (hN : own N = 8) (v0 v1 v2 v3 v4 v5 : Value) :
    RSt own ((((((w.setCell ⟨N, 0, none⟩ v0).setCell ⟨N, 1, none⟩ v1).setCell ⟨N, 2, none⟩ v2).setCell ⟨N, 3, none⟩ v3).setCell ⟨N, 4, none⟩ v4).setCell ⟨N, 5, none⟩ v5) b m σ :=
  (((((h.write8 (p := ⟨N, 0, none⟩) hN v0).write8 (p := ⟨N, 1, none⟩) hN v1).write8 (p := ⟨N, 2, none⟩) hN v2).write8 (p := ⟨N, 3, none⟩) hN v3).write8 (p := ⟨N, 4, none⟩) hN v4).write8 (p := ⟨N, 5, none⟩) hN v5
theorem Ext.six {own own' : Nat → Nat} {w w' : World} (h : Ext own w own' w') {N : Nat} (hN : w.heap.size ≤ N) (v0 v1 v2 v3 v4 v5 : Value) :
    Ext own w own' ((((((w'.setCell ⟨N, 0, none⟩ v0).setCell ⟨N, 1, none⟩ v1).setCell ⟨N, 2, none⟩ v2).setCell ⟨N, 3, none⟩ v3).setCell ⟨N, 4, none⟩ v4).setCell ⟨N, 5, none⟩ v5) :=
  (((((h.setNew (p := ⟨N, 0, none⟩) hN v0).setNew (p := ⟨N, 1, none⟩) hN v1).setNew (p := ⟨N, 2, none⟩) hN v2).setNew (p := ⟨N, 3, none⟩) hN v3).setNew (p := ⟨N, 4, none⟩) hN v4).setNew (p := ⟨N, 5, none⟩) hN v5
theorem Ext.write8 {own : Nat → Nat} {w : World} {p : Addr} (v : Value) (hp : own p.block = 8) : Ext (fun k => if own k = 8 then 1 else own k) w (fun k => if own k = 8 then 1 else own k) (w.setCell p v) :=
  (Ext.refl _ w).setCell (p := p) (by simp [hp]) v
theorem OpsLie.write8 {own : Nat → Nat} {w : World} {v : Value} {l : List POp} (h : OpsLie own w v l) {p : Addr} (hp : own p.block = 8) (u : Value) : OpsLie own (w.setCell p u) v l := by
  have h' : OpsLie (fun k => if own k = 8 then 1 else own k) w v l := ⟨h.1, fun g hg => by simp [h.2 g hg]⟩
  exact ⟨(h'.ext (Ext.write8 u hp)).1, h.2⟩
theorem OpsLie.six {own : Nat → Nat} {w : World} {v : Value} {l : List POp} (h : OpsLie own w v l) {N : Nat} (hN : own N = 8) (v0 v1 v2 v3 v4 v5 : Value) :
    OpsLie own ((((((w.setCell ⟨N, 0, none⟩ v0).setCell ⟨N, 1, none⟩ v1).setCell ⟨N, 2, none⟩ v2).setCell ⟨N, 3, none⟩ v3).setCell ⟨N, 4, none⟩ v4).setCell ⟨N, 5, none⟩ v5) v l :=
  (((((h.write8 (p := ⟨N, 0, none⟩) hN v0).write8 (p := ⟨N, 1, none⟩) hN v1).write8 (p := ⟨N, 2, none⟩) hN v2).write8 (p := ⟨N, 3, none⟩) hN v3).write8 (p := ⟨N, 4, none⟩) hN v4).write8 (p := ⟨N, 5, none⟩) hN v5
def ownBox4 (own : Nat → Nat) (N : Nat) : Nat → Nat := put (put (put own N 8) (N + 2) 8) (N + 1 + 1 + 1) 8
theorem setCell_size (w : World) (p : Addr) (v : Value) : (w.setCell p v).heap.size = w.heap.size := by simp [World.setCell]
theorem RSt.box4 {own : Nat → Nat} {w : World} {b : Nat} {m : RM} {σ : Rd} (h : RSt own w b m σ) (o1 o2 : Obj) (cs : Array Value) :
    RSt (ownBox4 own w.heap.size) ((((w.alloc (.cells zeroPart 189)).alloc o1).alloc o2).alloc (.cells cs 189)) b m σ ∧ Ext own w (ownBox4 own w.heap.size) ((((w.alloc (.cells zeroPart 189)).alloc o1).alloc o2).alloc (.cells cs 189)) ∧
    Two (ownBox4 own w.heap.size) ((((w.alloc (.cells zeroPart 189)).alloc o1).alloc o2).alloc (.cells cs 189)) w.heap.size (w.heap.size + 1 + 1 + 1) cs :=
  have e : ∀ k, k < w.heap.size → ownBox4 own w.heap.size k = own k := fun k hk => by unfold ownBox4; rw [put_other _ _ _ _ (by omega), put_other _ _ _ _ (by omega), put_other _ _ _ _ (by omega)]
  ⟨((((h.owner e).alloc _).alloc o1).alloc o2).alloc _, ⟨e, (((((Ext.refl own w).alloc _).alloc o1).alloc o2).alloc _).kept⟩,
   ⟨(((Blk.new w zeroPart 189).alloc o1).alloc o2).alloc _, alloc_at _ _ _ (by simp), by unfold ownBox4; rw [put_other _ _ _ _ (by omega), put_other _ _ _ _ (by omega), put_same], put_same _ _ _⟩⟩

set_option maxRecDepth 100000 in
set_option maxHeartbeats 800000 in
theorem step_no {b n k : Nat} {own : Nat → Nat} {w : World} {m : RM} {σ : Rd} (h : RSt own w b m σ) (hpre : Pre2 (n + 1) σ) (hk : σ.now.kind = 3) (ht : ((σ.skip.expect [tColon]).num 0 99).has [tTimes] = false) :
    Calls Tryz.prog 200 #[.pointer (some ⟨b, 0, none⟩)] w fun e w' => ∃ v, e = .returned v ∧ PartPost own w b k (stepP n σ) v w' := by
  have hbw := h.blk.lt
  have h2 := hpre.good.more (by show 2 ≤ σ.now.kind; omega)
  have a1 := skip_ok hpre.good h2
  have a2 := expect_ok a1.good (ts := [tColon]) (by simp [KW])
  have a3 := num_ok a2.good 0 99
  have p3 : Pre2 n ((σ.skip.expect [tColon]).num 0 99) := by
    have l1 := skip_len σ; have l2 := a2.le; have l3 := a3.le; have l4 := hpre.le; have l5 := hpre.deep
    have d := a3.deep.trans (a2.deep.trans a1.deep)
    exact ⟨a3.good, by omega, by omega⟩
  have HV : Hid (stepP n σ = ((condP n ((σ.skip.expect [tColon]).num 0 99)).dead, .mk σ.now.text σ.now.place 1 (σ.skip.expect [tColon]).numV (condP n ((σ.skip.expect [tColon]).num 0 99)).opsL [])) := by
    show _ = _; unfold stepP; simp only [ht, Bool.false_eq_true, if_false]
  have HW : Hid (((σ.skip.expect [tColon]).num 0 99).which [tTimes] = (σ.skip.expect [tColon]).num 0 99) := by show _ = _; unfold Rd.which; rw [if_neg (by simp [ht])]
  rw [HV.out]
  have hnum := fun own2 w2 m2 (hs2 : RSt own2 w2 b m2 (σ.skip.expect [tColon])) => number_p hs2 a2.good 0 99 (by omega) (by omega)
  generalize (σ.skip.expect [tColon]).numV = kv at *
  clear HV hk
  go_enter Tryz.func200, Tryz.ntmps200
  go_wp2_with (first
    | (go_at_call 83; refine (now_p (h.alloc _) hpre.good.pos).mono ?_; rintro e w' ⟨rfl, o, rfl⟩)
    | (go_at_call 164; obtain ⟨hs0, he0, hT0⟩ := h.box4 o (.cells (tokCells σ.now) 141) (plainPart σ.now.text σ.now.place 1 0 (.slice none 0 0)); refine (skip_p hs0 h2).mono ?_; rintro e w1 ⟨rfl, hs1, he1⟩; have hT1 := hT0.ext he1)
    | (go_at_call 130; refine (expect_new hs1 a1.good [tColon] (by simp [KW]) (by simp) 1 rfl).mono ?_; rintro e w2 ⟨rfl, own2, m2, hs2, he2⟩; have hT2 := hT1.ext he2)
    | (go_at_call 131; refine (hnum own2 w2 m2 hs2).mono ?_; rintro e w3 ⟨rfl, own3, m3, hs3, he3⟩; have hT3 := hT2.ext he3; have q3 := hT3.p.cell 3; have f3 := hT3.p.frozen 3; simp [plainPart] at q3)
    | (go_at_call 168; have hs3' := hs3.write8 (p := ⟨w.heap.size + 1 + 1 + 1, 3, none⟩) hT3.op (.int .i64 kv); have hT3' := hT3.set (by omega) 3 (.int .i64 kv); have htk := take_new hs3' a3.good [tTimes] (by simp [KW]) (by simp) 1 rfl; rw [setCell_size, HW.out, ht] at htk; refine htk.mono ?_; rintro e w4 ⟨rfl, own4, m4, hs4, he4⟩; have hT4 := hT3'.ext he4)
    | (go_at_call 224; refine (condition_p hs4 p3).mono ?_; rintro e w5 ⟨cv, rfl, own5, m5, hs5, he5, hops⟩; obtain ⟨cp, cn, cc, rfl⟩ := row_form hops.1; have hT5 := hT4.ext he5; have q4 := hT5.p.cell 4; have f4 := hT5.p.frozen 4; simp [plainPart] at q4; have hT5' := hT5.set (by omega) 4 (.slice cp cn cc); have c0 := hT5'.p.cell 0; have c1 := hT5'.p.cell 1; have c2 := hT5'.p.cell 2; have c3 := hT5'.p.cell 3; have c4 := hT5'.p.cell 4; have c5 := hT5'.p.cell 5; have z0 := hT5'.z.cell 0; have z1 := hT5'.z.cell 1; have z2 := hT5'.z.cell 2; have z3 := hT5'.z.cell 3; have z4 := hT5'.z.cell 4; have z5 := hT5'.z.cell 5; have g0 := hT5'.z.frozen 0; have g1 := hT5'.z.frozen 1; have g2 := hT5'.z.frozen 2; have g3 := hT5'.z.frozen 3; have g4 := hT5'.z.frozen 4; have g5 := hT5'.z.frozen 5; simp [plainPart, zeroPart] at c0 c1 c2 c3 c4 c5 z0 z1 z2 z3 z4 z5))
  have hE := ((((he0.trans he1).trans he2).trans he3).setNew (p := ⟨w.heap.size + 1 + 1 + 1, 3, none⟩) (by show w.heap.size ≤ w.heap.size + 1 + 1 + 1; omega) (.int .i64 kv)).trans (he4.trans he5)
  have hE' := (hE.setNew (p := ⟨w.heap.size + 1 + 1 + 1, 4, none⟩) (by show w.heap.size ≤ w.heap.size + 1 + 1 + 1; omega) (.slice cp cn cc)).six (N := w.heap.size) (Nat.le_refl _) (.string σ.now.text) (.int .i64 σ.now.place) (.int .i64 1) (.int .i64 kv) (.slice cp cn cc) (.slice none 0 0)
  have hS' := (hs5.write8 (p := ⟨w.heap.size + 1 + 1 + 1, 4, none⟩) hT5.op (.slice cp cn cc)).six (N := w.heap.size) hT5.oz (.string σ.now.text) (.int .i64 σ.now.place) (.int .i64 1) (.int .i64 kv) (.slice cp cn cc) (.slice none 0 0)
  have hO' := (hops.write8 (p := ⟨w.heap.size + 1 + 1 + 1, 4, none⟩) hT5.op (.slice cp cn cc)).six (N := w.heap.size) hT5.oz (.string σ.now.text) (.int .i64 σ.now.place) (.int .i64 1) (.int .i64 kv) (.slice cp cn cc) (.slice none 0 0)
  have hB := hT5'.z.six (.string σ.now.text) (.int .i64 σ.now.place) (.int .i64 1) (.int .i64 kv) (.slice cp cn cc) (.slice none 0 0)
  have k0 := hB.cell 0; have k1 := hB.cell 1; have k2 := hB.cell 2; have k3 := hB.cell 3; have k4 := hB.cell 4; have k5 := hB.cell 5
  simp at k0 k1 k2 k3 k4 k5
  exact bodyPost_ret (v := partVal (.mk σ.now.text σ.now.place 1 kv (condP n ((σ.skip.expect [tColon]).num 0 99)).opsL []) (.slice cp cn cc) (.slice none 0 0)) (by simp [results, Tryz.results200, go_sem, k0, k1, k2, k3, k4, k5, partVal, PPart.name, PPart.place, PPart.times, PPart.kind]) rfl
    ⟨_, rfl, own5, m5, _, _, hS', hE', rfl, hO', .inl ⟨rfl, rfl⟩⟩
end Go.Proofs.YtddbjcfdmdbmkaaGreatDoor

namespace Go.Proofs.YtddbjcfdmdbmkaaGreatDoor
open Go.RowKit

set_option maxRecDepth 100000 in
set_option maxHeartbeats 800000 in
theorem step_yes {b n k : Nat} {own : Nat → Nat} {w : World} {m : RM} {σ : Rd} (h : RSt own w b m σ) (hpre : Pre2 (n + 1) σ) (hk : σ.now.kind = 3) (ht : ((σ.skip.expect [tColon]).num 0 99).has [tTimes] = true) :
    Calls Tryz.prog 200 #[.pointer (some ⟨b, 0, none⟩)] w fun e w' => ∃ v, e = .returned v ∧ PartPost own w b k (stepP n σ) v w' := by
  have hbw := h.blk.lt
  have h2 := hpre.good.more (by show 2 ≤ σ.now.kind; omega)
  have a1 := skip_ok hpre.good h2
  have a2 := expect_ok a1.good (ts := [tColon]) (by simp [KW])
  have a3 := num_ok a2.good 0 99
  have p3 : Pre2 n ((σ.skip.expect [tColon]).num 0 99) := by
    have l1 := skip_len σ; have l2 := a2.le; have l3 := a3.le; have l4 := hpre.le; have l5 := hpre.deep
    have d := a3.deep.trans (a2.deep.trans a1.deep)
    exact ⟨a3.good, by omega, by omega⟩
  have h4 := a3.good.has (ts := [tTimes]) (by simp [KW]) ht
  have a4 := skip_ok a3.good h4
  have a5 := num_ok a4.good 1 4
  have p5 : Pre2 n (((σ.skip.expect [tColon]).num 0 99).skip.num 1 4) := p3.ok (a4.trans a5).ok2
  have HV : Hid (stepP n σ = ((condP n (((σ.skip.expect [tColon]).num 0 99).skip.num 1 4)).dead, .mk σ.now.text σ.now.place ((σ.skip.expect [tColon]).num 0 99).skip.numV (σ.skip.expect [tColon]).numV (condP n (((σ.skip.expect [tColon]).num 0 99).skip.num 1 4)).opsL [])) := by
    show _ = _; unfold stepP; simp only [ht, if_true]
  have HW : Hid (((σ.skip.expect [tColon]).num 0 99).which [tTimes] = ((σ.skip.expect [tColon]).num 0 99).skip) := by show _ = _; unfold Rd.which; rw [if_pos ht]
  rw [HV.out]
  have hnum := fun own2 w2 m2 (hs2 : RSt own2 w2 b m2 (σ.skip.expect [tColon])) => number_p hs2 a2.good 0 99 (by omega) (by omega)
  have hnum2 := fun own4 w4 m4 (hs4 : RSt own4 w4 b m4 ((σ.skip.expect [tColon]).num 0 99).skip) => number_p hs4 a4.good 1 4 (by omega) (by omega)
  generalize (σ.skip.expect [tColon]).numV = kv at *
  generalize ((σ.skip.expect [tColon]).num 0 99).skip.numV = tv at *
  clear HV hk
  go_enter Tryz.func200, Tryz.ntmps200
  go_wp2_with (first
    | (go_at_call 83; refine (now_p (h.alloc _) hpre.good.pos).mono ?_; rintro e w' ⟨rfl, o, rfl⟩)
    | (go_at_call 164; obtain ⟨hs0, he0, hT0⟩ := h.box4 o (.cells (tokCells σ.now) 141) (plainPart σ.now.text σ.now.place 1 0 (.slice none 0 0)); refine (skip_p hs0 h2).mono ?_; rintro e w1 ⟨rfl, hs1, he1⟩; have hT1 := hT0.ext he1)
    | (go_at_call 130; refine (expect_new hs1 a1.good [tColon] (by simp [KW]) (by simp) 1 rfl).mono ?_; rintro e w2 ⟨rfl, own2, m2, hs2, he2⟩; have hT2 := hT1.ext he2)
    | (go_at_call 131; refine (hnum2 own4 w4 m4 hs4).mono ?_; rintro e w4' ⟨rfl, own4', m4', hs4', he4'⟩; have hT4a := hT4.ext he4'; have q2 := hT4a.p.cell 2; have f2 := hT4a.p.frozen 2; simp [plainPart] at q2; have hs4b := hs4'.write8 (p := ⟨w.heap.size + 1 + 1 + 1, 2, none⟩) hT4a.op (.int .i64 tv); have hT4b := hT4a.set (by omega) 2 (.int .i64 tv))
    | (go_at_call 131; refine (hnum own2 w2 m2 hs2).mono ?_; rintro e w3 ⟨rfl, own3, m3, hs3, he3⟩; have hT3 := hT2.ext he3; have q3 := hT3.p.cell 3; have f3 := hT3.p.frozen 3; simp [plainPart] at q3)
    | (go_at_call 168; have hs3' := hs3.write8 (p := ⟨w.heap.size + 1 + 1 + 1, 3, none⟩) hT3.op (.int .i64 kv); have hT3' := hT3.set (by omega) 3 (.int .i64 kv); have htk := take_new hs3' a3.good [tTimes] (by simp [KW]) (by simp) 1 rfl; rw [setCell_size, HW.out, ht] at htk; refine htk.mono ?_; rintro e w4 ⟨rfl, own4, m4, hs4, he4⟩; have hT4 := hT3'.ext he4)
    | (go_at_call 224; refine (condition_p hs4b p5).mono ?_; rintro e w5 ⟨cv, rfl, own5, m5, hs5, he5, hops⟩; obtain ⟨cp, cn, cc, rfl⟩ := row_form hops.1; have hT5 := hT4b.ext he5; have q4 := hT5.p.cell 4; have f4 := hT5.p.frozen 4; simp [plainPart] at q4; have hT5' := hT5.set (by omega) 4 (.slice cp cn cc); have c0 := hT5'.p.cell 0; have c1 := hT5'.p.cell 1; have c2 := hT5'.p.cell 2; have c3 := hT5'.p.cell 3; have c4 := hT5'.p.cell 4; have c5 := hT5'.p.cell 5; have z0 := hT5'.z.cell 0; have z1 := hT5'.z.cell 1; have z2 := hT5'.z.cell 2; have z3 := hT5'.z.cell 3; have z4 := hT5'.z.cell 4; have z5 := hT5'.z.cell 5; have g0 := hT5'.z.frozen 0; have g1 := hT5'.z.frozen 1; have g2 := hT5'.z.frozen 2; have g3 := hT5'.z.frozen 3; have g4 := hT5'.z.frozen 4; have g5 := hT5'.z.frozen 5; simp [plainPart, zeroPart] at c0 c1 c2 c3 c4 c5 z0 z1 z2 z3 z4 z5))
  have hE := ((((he0.trans he1).trans he2).trans he3).setNew (p := ⟨w.heap.size + 1 + 1 + 1, 3, none⟩) (by show w.heap.size ≤ w.heap.size + 1 + 1 + 1; omega) (.int .i64 kv)).trans he4
  have hE := ((hE.trans he4').setNew (p := ⟨w.heap.size + 1 + 1 + 1, 2, none⟩) (by show w.heap.size ≤ w.heap.size + 1 + 1 + 1; omega) (.int .i64 tv)).trans he5
  have hE' := (hE.setNew (p := ⟨w.heap.size + 1 + 1 + 1, 4, none⟩) (by show w.heap.size ≤ w.heap.size + 1 + 1 + 1; omega) (.slice cp cn cc)).six (N := w.heap.size) (Nat.le_refl _) (.string σ.now.text) (.int .i64 σ.now.place) (.int .i64 tv) (.int .i64 kv) (.slice cp cn cc) (.slice none 0 0)
  have hS' := (hs5.write8 (p := ⟨w.heap.size + 1 + 1 + 1, 4, none⟩) hT5.op (.slice cp cn cc)).six (N := w.heap.size) hT5.oz (.string σ.now.text) (.int .i64 σ.now.place) (.int .i64 tv) (.int .i64 kv) (.slice cp cn cc) (.slice none 0 0)
  have hO' := (hops.write8 (p := ⟨w.heap.size + 1 + 1 + 1, 4, none⟩) hT5.op (.slice cp cn cc)).six (N := w.heap.size) hT5.oz (.string σ.now.text) (.int .i64 σ.now.place) (.int .i64 tv) (.int .i64 kv) (.slice cp cn cc) (.slice none 0 0)
  have hB := hT5'.z.six (.string σ.now.text) (.int .i64 σ.now.place) (.int .i64 tv) (.int .i64 kv) (.slice cp cn cc) (.slice none 0 0)
  have k0 := hB.cell 0; have k1 := hB.cell 1; have k2 := hB.cell 2; have k3 := hB.cell 3; have k4 := hB.cell 4; have k5 := hB.cell 5
  simp at k0 k1 k2 k3 k4 k5
  exact bodyPost_ret (v := partVal (.mk σ.now.text σ.now.place tv kv (condP n (((σ.skip.expect [tColon]).num 0 99).skip.num 1 4)).opsL []) (.slice cp cn cc) (.slice none 0 0)) (by simp [results, Tryz.results200, go_sem, k0, k1, k2, k3, k4, k5, partVal, PPart.name, PPart.place, PPart.times, PPart.kind]) rfl
    ⟨_, rfl, own5, m5, _, _, hS', hE', rfl, hO', .inl ⟨rfl, rfl⟩⟩
theorem RSt.box3p {own : Nat → Nat} {w : World} {b : Nat} {m : RM} {σ : Rd} (h : RSt own w b m σ) (o1 : Obj) (cs : Array Value) :
    RSt (ownBox own w.heap.size) (((w.alloc (.cells zeroPart 189)).alloc o1).alloc (.cells cs 189)) b m σ ∧ Ext own w (ownBox own w.heap.size) (((w.alloc (.cells zeroPart 189)).alloc o1).alloc (.cells cs 189)) ∧
    Two (ownBox own w.heap.size) (((w.alloc (.cells zeroPart 189)).alloc o1).alloc (.cells cs 189)) w.heap.size (w.heap.size + 1 + 1) cs :=
  have h3 := h.box3 (.cells zeroPart 189) o1 (.cells cs 189)
  ⟨h3.1, h3.2, ⟨((Blk.new w zeroPart 189).alloc o1).alloc _, alloc_at _ _ _ (by simp), ownBox_0 _ _, ownBox_2 _ _⟩⟩

set_option maxRecDepth 100000 in
set_option maxHeartbeats 800000 in
theorem guard_p {b n k : Nat} {own : Nat → Nat} {w : World} {m : RM} {σ : Rd} (h : RSt own w b m σ) (hpre : Pre2 (n + 1) σ) (hk : σ.now.is tNot = true) :
    Calls Tryz.prog 201 #[.pointer (some ⟨b, 0, none⟩)] w fun e w' => ∃ v, e = .returned v ∧ PartPost own w b k (guardP n σ) v w' := by
  have hbw := h.blk.lt
  have h2 := hpre.good.is (by simp [KW]) hk
  have a1 := skip_ok hpre.good h2
  have a3 := num_ok a1.good 0 99
  have p3 : Pre2 n (σ.skip.num 0 99) := by
    have l1 := skip_len σ; have l3 := a3.le; have l4 := hpre.le; have l5 := hpre.deep
    have d := a3.deep.trans a1.deep
    exact ⟨a3.good, by omega, by omega⟩
  have hfld := stok_field1
  have HV : Hid (guardP n σ = ((condP n (σ.skip.num 0 99)).dead, .mk ⟨#[]⟩ σ.now.place 0 σ.skip.numV (condP n (σ.skip.num 0 99)).opsL [])) := by
    show _ = _; unfold guardP; rfl
  rw [HV.out]
  have hnum := fun own2 w2 m2 (hs2 : RSt own2 w2 b m2 σ.skip) => number_p hs2 a1.good 0 99 (by omega) (by omega)
  generalize σ.skip.numV = kv at *
  clear HV hk
  go_enter Tryz.func201, Tryz.ntmps201
  go_wp2_with (first
    | (go_at_call 83; refine (now_p (h.alloc _) hpre.good.pos).mono ?_; rintro e w' ⟨rfl, o, rfl⟩)
    | (go_at_call 164; obtain ⟨hs0, he0, hT0⟩ := h.box3p o (plainPart ⟨#[]⟩ σ.now.place 0 0 (.slice none 0 0)); refine (skip_p hs0 h2).mono ?_; rintro e w1 ⟨rfl, hs1, he1⟩; have hT1 := hT0.ext he1)
    | (go_at_call 131; refine (hnum _ w1 _ hs1).mono ?_; rintro e w3 ⟨rfl, own3, m3, hs3, he3⟩; have hT3 := hT1.ext he3; have q3 := hT3.p.cell 3; have f3 := hT3.p.frozen 3; simp [plainPart] at q3; have hs3' := hs3.write8 (p := ⟨w.heap.size + 1 + 1, 3, none⟩) hT3.op (.int .i64 kv); have hT4 := hT3.set (by omega) 3 (.int .i64 kv))
    | (go_at_call 224; refine (condition_p hs3' p3).mono ?_; rintro e w5 ⟨cv, rfl, own5, m5, hs5, he5, hops⟩; obtain ⟨cp, cn, cc, rfl⟩ := row_form hops.1; have hT5 := hT4.ext he5; have q4 := hT5.p.cell 4; have f4 := hT5.p.frozen 4; simp [plainPart] at q4; have hT5' := hT5.set (by omega) 4 (.slice cp cn cc); have c0 := hT5'.p.cell 0; have c1 := hT5'.p.cell 1; have c2 := hT5'.p.cell 2; have c3 := hT5'.p.cell 3; have c4 := hT5'.p.cell 4; have c5 := hT5'.p.cell 5; have z0 := hT5'.z.cell 0; have z1 := hT5'.z.cell 1; have z2 := hT5'.z.cell 2; have z3 := hT5'.z.cell 3; have z4 := hT5'.z.cell 4; have z5 := hT5'.z.cell 5; have g0 := hT5'.z.frozen 0; have g1 := hT5'.z.frozen 1; have g2 := hT5'.z.frozen 2; have g3 := hT5'.z.frozen 3; have g4 := hT5'.z.frozen 4; have g5 := hT5'.z.frozen 5; simp [plainPart, zeroPart] at c0 c1 c2 c3 c4 c5 z0 z1 z2 z3 z4 z5))
  have hE := (((he0.trans he1).trans he3).setNew (p := ⟨w.heap.size + 1 + 1, 3, none⟩) (by show w.heap.size ≤ w.heap.size + 1 + 1; omega) (.int .i64 kv)).trans he5
  have hE' := (hE.setNew (p := ⟨w.heap.size + 1 + 1, 4, none⟩) (by show w.heap.size ≤ w.heap.size + 1 + 1; omega) (.slice cp cn cc)).six (N := w.heap.size) (Nat.le_refl _) (.string ⟨#[]⟩) (.int .i64 σ.now.place) (.int .i64 0) (.int .i64 kv) (.slice cp cn cc) (.slice none 0 0)
  have hS' := (hs5.write8 (p := ⟨w.heap.size + 1 + 1, 4, none⟩) hT5.op (.slice cp cn cc)).six (N := w.heap.size) hT5.oz (.string ⟨#[]⟩) (.int .i64 σ.now.place) (.int .i64 0) (.int .i64 kv) (.slice cp cn cc) (.slice none 0 0)
  have hO' := (hops.write8 (p := ⟨w.heap.size + 1 + 1, 4, none⟩) hT5.op (.slice cp cn cc)).six (N := w.heap.size) hT5.oz (.string ⟨#[]⟩) (.int .i64 σ.now.place) (.int .i64 0) (.int .i64 kv) (.slice cp cn cc) (.slice none 0 0)
  have hB := hT5'.z.six (.string ⟨#[]⟩) (.int .i64 σ.now.place) (.int .i64 0) (.int .i64 kv) (.slice cp cn cc) (.slice none 0 0)
  have k0 := hB.cell 0; have k1 := hB.cell 1; have k2 := hB.cell 2; have k3 := hB.cell 3; have k4 := hB.cell 4; have k5 := hB.cell 5
  simp at k0 k1 k2 k3 k4 k5
  exact bodyPost_ret (v := partVal (.mk ⟨#[]⟩ σ.now.place 0 kv (condP n (σ.skip.num 0 99)).opsL []) (.slice cp cn cc) (.slice none 0 0)) (by simp [results, Tryz.results201, go_sem, k0, k1, k2, k3, k4, k5, partVal, PPart.name, PPart.place, PPart.times, PPart.kind]) rfl
    ⟨_, rfl, own5, m5, _, _, hS', hE', rfl, hO', .inl ⟨rfl, rfl⟩⟩
end Go.Proofs.YtddbjcfdmdbmkaaGreatDoor

namespace Go.Proofs.YtddbjcfdmdbmkaaGreatDoor
open Go.RowKit

theorem row_ext8 {own own' : Nat → Nat} {w w' : World} {base : Nat} {e : TypeId} {size : Nat} {v : Value} {n : Nat} {xs : List Value} (h : w.ownsRow base e size v n xs) (ho : ∀ g, v.ownBlock = some g → 7 ≤ own g) (hE : Ext own w own' w') : w'.ownsRow base e size v n xs := by
  refine ⟨h.1, ?_⟩
  rcases h.2 with hn | ⟨g, cap, cur, rfl, h1, h2, rest⟩
  · exact .inl hn
  · refine .inr ⟨g, cap, cur, rfl, h1, ?_, rest⟩
    have hlt : g < w.heap.size := (Array.getElem?_eq_some_iff.1 h2).1
    rw [hE.kept.block g ⟨hlt, ho g rfl⟩]; exact h2
theorem OpsLie.col {own own' : Nat → Nat} {w : World} (he : ∀ k, k < w.heap.size → own k = 7 → own' k = 7) {v : Value} {l : List POp} (h : OpsLie own w v l) : OpsLie own' w v l := ⟨h.1, fun g hg => he g (h.1.lt g hg).2 (h.2 g hg)⟩
theorem ChBy.col {own own' : Nat → Nat} {w : World} {S S' : Value → List PPart → Prop} (hS : ∀ v l, S v l → S' v l) (he : ∀ k, k < w.heap.size → own k = 7 → own' k = 7) {v : Value} {c : List (List PPart)} (h : ChBy own w S v c) : ChBy own' w S' v c := by
  rcases h with h | ⟨h0, vs, h1, h2, h3, h4⟩
  · exact .inl h
  · exact .inr ⟨h0, vs, h1, h2, fun g hg => he g (h2.lt g hg).2 (h3 g hg), fun q hq => hS _ _ (h4 q hq)⟩
theorem SeqLie.col {own own' : Nat → Nat} {w : World} (he : ∀ k, k < w.heap.size → own k = 7 → own' k = 7) : ∀ n v l, SeqLie own w n v l → SeqLie own' w n v l := by
  intro n
  induction n with
  | zero => intro v l h; exact h
  | succ n ih =>
    rintro v l ⟨xs, h1, h2, h3, h4⟩
    exact ⟨xs, h1, h2, fun g hg => he g (h2.lt g hg).2 (h3 g hg), fun p hp => ⟨(h4 p hp).1.col he, (h4 p hp).2.col ih he⟩⟩
theorem PartLie.col {own own' : Nat → Nat} {w : World} (he : ∀ k, k < w.heap.size → own k = 7 → own' k = 7) {n : Nat} {p : PPart} {cv hv : Value} (h : PartLie own w n p cv hv) : PartLie own' w n p cv hv := ⟨h.1.col he, h.2.col (SeqLie.col he n) he⟩

def no8 (own : Nat → Nat) : Nat → Nat := fun k => if own k = 8 then 1 else own k
theorem no8_ext {own own' : Nat → Nat} {w w' : World} {row : Option Nat} (hg : w.grownBy w' row) (hr : ∀ k, row = some k → own k = 8) (he : ∀ k, k < w.heap.size → own k ≠ 8 → own' k = own k) : Ext (no8 own) w (fun k => if k < w.heap.size then no8 own k else own' k) w' :=
  ⟨fun k hk => by simp only [hk, if_true], ⟨hg.os, hg.tape, hg.output, hg.size, fun k hk => hg.block k hk.1 (fun e => by have := hr k e.symm; have h2 := hk.2; simp only [no8, this, if_true] at h2; omega)⟩⟩
theorem move7 {own own' : Nat → Nat} {w w' : World} {row : Option Nat} (hg : w.grownBy w' row) (hr : ∀ k, row = some k → own k = 8) (he : ∀ k, k < w.heap.size → own k ≠ 8 → own' k = own k) {n : Nat} {p : PPart} {cv hv : Value} (h : PartLie own w n p cv hv) : PartLie own' w' n p cv hv := by
  have h1 : PartLie (no8 own) w n p cv hv := h.col (fun k _ e => by simp [no8, e])
  have h2 := h1.ext (no8_ext hg hr he)
  refine h2.col (fun k _ e => ?_)
  by_cases hlt : k < w.heap.size
  · simp only [hlt, if_true] at e
    unfold no8 at e
    split at e
    · omega
    · rename_i hne; rw [he k hlt hne]; exact e
  · simp only [hlt, if_false] at e; exact e

theorem RSt.appC {own : Nat → Nat} {w w1 : World} {b : Nat} {m : RM} {σ : Rd} {row : Option Nat} {g : Nat} (h : RSt own w b m σ) (hg : w.grownBy w1 row) (hr : ∀ k, row = some k → own k = 8) (hat : row = some g ∨ g = w.heap.size) : RSt (put own g 8) w1 b m σ := by
  have htg : row ≠ some m.tg := fun e => by have := hr _ e; rw [h.ot] at this; cases this
  refine ⟨h.far hg hr (by decide), (put_old 8 hr hat b h.blk.lt).trans h.ob, h.toks.of_eq (hg.block _ h.toks.lt (fun e => htg e.symm)) hg.size, (put_old 8 hr hat _ h.toks.lt).trans h.ot, h.cap, fun l hl => ?_⟩
  exact row_moved (g := g) 2 8 (h.live l hl).1 (h.live l hl).2 hg hr (by decide) hat
theorem Ext.appC {own0 own : Nat → Nat} {w0 w w1 : World} {row : Option Nat} {g : Nat} (h : Ext own0 w0 own w) (hg : w.grownBy w1 row) (hr : ∀ k, row = some k → w0.heap.size ≤ k) (hat : row = some g ∨ g = w.heap.size) : Ext own0 w0 (put own g 8) w1 := by
  have hgw : w0.heap.size ≤ g := by
    rcases hat with e | e
    · exact hr g e
    · have := h.size; omega
  exact ⟨fun k hk => by rw [put_other _ _ _ _ (by omega)]; exact h.same k hk,
    h.kept.trans ⟨hg.os, hg.tape, hg.output, hg.size, fun k hk => hg.block k (Nat.lt_of_lt_of_le hk.1 h.size) (fun e => by have := hr k e.symm; have := hk.1; omega)⟩⟩
theorem RSt.recolor {own : Nat → Nat} {w : World} {b : Nat} {m : RM} {σ : Rd} {g : Nat} (c : Nat) (h : RSt own w b m σ) (hg : own g = 8) : RSt (put own g c) w b m σ :=
  ⟨h.blk, by rw [put_other _ _ _ _ (fun e => by have := h.ob; rw [e, hg] at this; cases this)]; exact h.ob, h.toks, by rw [put_other _ _ _ _ (fun e => by have := h.ot; rw [e, hg] at this; cases this)]; exact h.ot, h.cap,
   fun l hl => ⟨(h.live l hl).1, fun k hk => by rw [put_other _ _ _ _ (fun e => by have := (h.live l hl).2 k hk; rw [e, hg] at this; cases this)]; exact (h.live l hl).2 k hk⟩⟩

def PartC (b n k : Nat) (part : Rd → Rd × PPart) : Prop := ∀ (own : Nat → Nat) (w : World) (m : RM) (σ : Rd), RSt own w b m σ → Pre2 n σ →
  Calls Tryz.prog 167 #[.pointer (some ⟨b, 0, none⟩)] w fun e w' => ∃ v, e = .returned v ∧ PartPost own w b k (part σ) v w'
def SeqPost2 (own : Nat → Nat) (w : World) (b n : Nat) (r : Rd × List PPart) (v : Value) (w' : World) : Prop := ∃ own' m', RSt own' w' b m' r.1 ∧ Ext own w own' w' ∧ SeqLie own' w' n v r.2
def SeqC (b n k : Nat) (seq : Rd → Rd × List PPart) : Prop := ∀ (own : Nat → Nat) (w : World) (m : RM) (σ : Rd), RSt own w b m σ → Pre2 n σ →
  Calls Tryz.prog 132 #[.pointer (some ⟨b, 0, none⟩)] w fun e w' => ∃ v, e = .returned v ∧ SeqPost2 own w b k (seq σ) v w'

structure QL (part : Rd → Rd × PPart) (n dk : Nat) (out : Rd × List PPart) (own : Nat → Nat) (w : World) (b k : Nat) (v : Value) (own' : Nat → Nat) (m' : RM) (σ' : Rd) (l : List PPart) (xs : List (Value × Value)) (wr : World) : Prop where
  st : RSt own' wr b m' σ'
  ext : Ext own w own' wr
  eq : Hid (seqL part k σ' l = out)
  fuel : σ'.ahead.length ≤ k
  pre : Pre2 n σ'
  len : xs.length = l.length
  bound : l.length + σ'.ahead.length ≤ 3000
  row : wr.ownsRow 0 189 6 v l.length (flat partCells (l.zip xs))
  col : ∀ g, v.ownBlock = some g → own' g = 8 ∧ w.heap.size ≤ g
  lie : ∀ p ∈ l.zip xs, PartLie own' wr dk p.1 p.2.1 p.2.2
def QLx (part : Rd → Rd × PPart) (n dk : Nat) (out : Rd × List PPart) (own : Nat → Nat) (w : World) (b k : Nat) (v : Value) (wr : World) : Prop := ∃ own' m' σ' l xs, QL part n dk out own w b k v own' m' σ' l xs wr
theorem seqL_stop {part : Rd → Rd × PPart} {k : Nat} {σ : Rd} {l : List PPart} (h : σ.has [tThen] = false) : seqL part k σ l = (σ, l) := by
  cases k with
  | zero => rfl
  | succ k => rw [seqL, if_neg (by simp [h])]
theorem seqL_more {part : Rd → Rd × PPart} {k : Nat} {σ : Rd} {l : List PPart} (h : σ.has [tThen] = true) : seqL part (k + 1) σ l = seqL part k (part σ.skip).1 (l ++ [(part σ.skip).2]) := by
  rw [seqL, if_pos h]
theorem Tryz.infoPart : (Tryz.prog.info? 189).map (fun i => (i.zero, i.size, i.bytes)) = some (some (.agg #[.string ⟨#[]⟩, .int .i64 0, .int .i64 0, .int .i64 0, .slice none 0 0, .slice none 0 0]), 6, 88) := by kernel_rfl
theorem ChBy.form {own : Nat → Nat} {w : World} {S : Value → List PPart → Prop} {v : Value} {c : List (List PPart)} (h : ChBy own w S v c) : ∃ p l k, v = .slice p l k := by
  rcases h with ⟨_, rfl⟩ | ⟨_, _, _, h, _⟩
  · exact ⟨_, _, _, rfl⟩
  · exact row_form h
theorem seq_start {part : Rd → Rd × PPart} {n dk : Nat} (kp : KeepsP n part) {own : Nat → Nat} {w : World} {b : Nat} {σ : Rd} (hpre : Pre2 n σ) {w1 : World} {own1 : Nat → Nat} {m1 : RM} {cv hv : Value} (hs1 : RSt own1 w1 b m1 (part σ).1) (he1 : Ext own w own1 w1) (hl : PartLie own1 w1 dk (part σ).2 cv hv)
    {out : Rd × List PPart} (HO : Hid (seqP part σ = out)) :
    QLx part n dk out own w b (part σ).1.ahead.length (.slice (some ⟨w1.heap.size, 0, none⟩) 1 1) (w1.alloc (.cells #[.string (part σ).2.name, .int .i64 (part σ).2.place, .int .i64 (part σ).2.times, .int .i64 (part σ).2.kind, cv, hv] 189)) := by
  have p1 := hpre.ok (kp σ hpre.good hpre.le)
  have hg : ∀ k, k < w1.heap.size → put own1 w1.heap.size 8 k = own1 k := fun k hk => put_other _ _ _ _ (by omega)
  refine ⟨put own1 w1.heap.size 8, m1, (part σ).1, [(part σ).2], [(cv, hv)], (hs1.owner hg).alloc _, he1.allocAs _ 8, HO, Nat.le_refl _, p1, rfl, by have := p1.deep; show 1 + _ ≤ _; omega, ?_, ?_, ?_⟩
  · refine ⟨rfl, .inr ⟨w1.heap.size, 1, _, rfl, Nat.zero_le _, heap_alloc_new w1 _, Nat.le_refl _, by unfold maxLen; decide, rfl, rfl⟩⟩
  · intro g e; cases e; exact ⟨put_same _ _ _, he1.size⟩
  · intro p hp
    simp only [List.zip_cons_cons, List.zip_nil_right, List.mem_singleton] at hp
    subst hp
    exact move7 (World.grownBy_alloc w1 _ none) (fun k e => by cases e) (fun k hk _ => hg k hk) hl
end Go.Proofs.YtddbjcfdmdbmkaaGreatDoor
