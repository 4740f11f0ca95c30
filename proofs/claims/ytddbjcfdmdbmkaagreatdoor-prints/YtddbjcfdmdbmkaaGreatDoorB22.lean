import Derived.Test.YtddbjcfdmdbmkaaGreatDoorB21
set_option linter.unusedVariables false
set_option linter.unusedSimpArgs false
/-
  The program's reader: step with times; guard.
-/
namespace Go.Proofs.YtddbjcfdmdbmkaaGreatDoor
open Go.RowKit

set_option maxRecDepth 100000 in
set_option maxHeartbeats 800000 in
theorem step_yes {b n k : Nat} {own : Nat → Nat} {w : World} {m : RM} {σ : Rd} (h : RSt own w b m σ) (hpre : Pre2 (n + 1) σ) (hk : σ.now.kind = 3) (ht : ((σ.skip.expect [tColon]).num 0 99).has [tTimes] = true) :
    Calls Tryz.prog 200 #[.pointer (some ⟨b, 0, none⟩)] w fun e w' => ∃ v, e = .returned v ∧ PartPost own w b k (stepP n σ) v w' := by
  have hbw := h.blk.lt
  have h2 := hpre.good.more (by show 2 ≤ σ.now.kind; omega)
  have a1 := skip_ok hpre.good h2
  have a2 := expect_ok a1.good (ts := [tColon]) (by simp [KW])
  have a3 := num_ok a2.good 0 99
  have p3 : Pre2 n ((σ.skip.expect [tColon]).num 0 99) := by
    have l1 := skip_len σ; have l2 := a2.le; have l3 := a3.le; have l4 := hpre.le; have l5 := hpre.deep
    have d := a3.deep.trans (a2.deep.trans a1.deep)
    exact ⟨a3.good, by omega, by omega⟩
  have h4 := a3.good.has (ts := [tTimes]) (by simp [KW]) ht
  have a4 := skip_ok a3.good h4
  have a5 := num_ok a4.good 1 4
  have p5 : Pre2 n (((σ.skip.expect [tColon]).num 0 99).skip.num 1 4) := p3.ok (a4.trans a5).ok2
  have HV : Hid (stepP n σ = ((condP n (((σ.skip.expect [tColon]).num 0 99).skip.num 1 4)).dead, .mk σ.now.text σ.now.place ((σ.skip.expect [tColon]).num 0 99).skip.numV (σ.skip.expect [tColon]).numV (condP n (((σ.skip.expect [tColon]).num 0 99).skip.num 1 4)).opsL [])) := by
    show _ = _; unfold stepP; simp only [ht, if_true]
  have HW : Hid (((σ.skip.expect [tColon]).num 0 99).which [tTimes] = ((σ.skip.expect [tColon]).num 0 99).skip) := by show _ = _; unfold Rd.which; rw [if_pos ht]
  rw [HV.out]
  have hnum := fun own2 w2 m2 (hs2 : RSt own2 w2 b m2 (σ.skip.expect [tColon])) => number_p hs2 a2.good 0 99 (by omega) (by omega)
  have hnum2 := fun own4 w4 m4 (hs4 : RSt own4 w4 b m4 ((σ.skip.expect [tColon]).num 0 99).skip) => number_p hs4 a4.good 1 4 (by omega) (by omega)
  generalize (σ.skip.expect [tColon]).numV = kv at *
  generalize ((σ.skip.expect [tColon]).num 0 99).skip.numV = tv at *
  clear HV hk
  go_enter Tryz.func200, Tryz.ntmps200
  go_wp2_with (first
    | (go_at_call 83; refine (now_p (h.alloc _) hpre.good.pos).mono ?_; rintro e w' ⟨rfl, o, rfl⟩)
    | (go_at_call 164; obtain ⟨hs0, he0, hT0⟩ := h.box4 o (.cells (tokCells σ.now) 141) (plainPart σ.now.text σ.now.place 1 0 (.slice none 0 0)); refine (skip_p hs0 h2).mono ?_; rintro e w1 ⟨rfl, hs1, he1⟩; have hT1 := hT0.ext he1)
    | (go_at_call 130; refine (expect_new hs1 a1.good [tColon] (by simp [KW]) (by simp) 1 rfl).mono ?_; rintro e w2 ⟨rfl, own2, m2, hs2, he2⟩; have hT2 := hT1.ext he2)
    | (go_at_call 131; refine (hnum2 own4 w4 m4 hs4).mono ?_; rintro e w4' ⟨rfl, own4', m4', hs4', he4'⟩; have hT4a := hT4.ext he4'; have q2 := hT4a.p.cell 2; have f2 := hT4a.p.frozen 2; simp [plainPart] at q2; have hs4b := hs4'.write8 (p := ⟨w.heap.size + 1 + 1 + 1, 2, none⟩) hT4a.op (.int .i64 tv); have hT4b := hT4a.set (by omega) 2 (.int .i64 tv))
    | (go_at_call 131; refine (hnum own2 w2 m2 hs2).mono ?_; rintro e w3 ⟨rfl, own3, m3, hs3, he3⟩; have hT3 := hT2.ext he3; have q3 := hT3.p.cell 3; have f3 := hT3.p.frozen 3; simp [plainPart] at q3)
    | (go_at_call 168; have hs3' := hs3.write8 (p := ⟨w.heap.size + 1 + 1 + 1, 3, none⟩) hT3.op (.int .i64 kv); have hT3' := hT3.set (by omega) 3 (.int .i64 kv); have htk := take_new hs3' a3.good [tTimes] (by simp [KW]) (by simp) 1 rfl; rw [setCell_size, HW.out, ht] at htk; refine htk.mono ?_; rintro e w4 ⟨rfl, own4, m4, hs4, he4⟩; have hT4 := hT3'.ext he4)
    | (go_at_call 224; refine (condition_p hs4b p5).mono ?_; rintro e w5 ⟨cv, rfl, own5, m5, hs5, he5, hops⟩; obtain ⟨cp, cn, cc, rfl⟩ := row_form hops.1; have hT5 := hT4b.ext he5; have q4 := hT5.p.cell 4; have f4 := hT5.p.frozen 4; simp [plainPart] at q4; have hT5' := hT5.set (by omega) 4 (.slice cp cn cc); have c0 := hT5'.p.cell 0; have c1 := hT5'.p.cell 1; have c2 := hT5'.p.cell 2; have c3 := hT5'.p.cell 3; have c4 := hT5'.p.cell 4; have c5 := hT5'.p.cell 5; have z0 := hT5'.z.cell 0; have z1 := hT5'.z.cell 1; have z2 := hT5'.z.cell 2; have z3 := hT5'.z.cell 3; have z4 := hT5'.z.cell 4; have z5 := hT5'.z.cell 5; have g0 := hT5'.z.frozen 0; have g1 := hT5'.z.frozen 1; have g2 := hT5'.z.frozen 2; have g3 := hT5'.z.frozen 3; have g4 := hT5'.z.frozen 4; have g5 := hT5'.z.frozen 5; simp [plainPart, zeroPart] at c0 c1 c2 c3 c4 c5 z0 z1 z2 z3 z4 z5))
  have hE := ((((he0.trans he1).trans he2).trans he3).setNew (p := ⟨w.heap.size + 1 + 1 + 1, 3, none⟩) (by show w.heap.size ≤ w.heap.size + 1 + 1 + 1; omega) (.int .i64 kv)).trans he4
  have hE := ((hE.trans he4').setNew (p := ⟨w.heap.size + 1 + 1 + 1, 2, none⟩) (by show w.heap.size ≤ w.heap.size + 1 + 1 + 1; omega) (.int .i64 tv)).trans he5
  have hE' := (hE.setNew (p := ⟨w.heap.size + 1 + 1 + 1, 4, none⟩) (by show w.heap.size ≤ w.heap.size + 1 + 1 + 1; omega) (.slice cp cn cc)).six (N := w.heap.size) (Nat.le_refl _) (.string σ.now.text) (.int .i64 σ.now.place) (.int .i64 tv) (.int .i64 kv) (.slice cp cn cc) (.slice none 0 0)
  have hS' := (hs5.write8 (p := ⟨w.heap.size + 1 + 1 + 1, 4, none⟩) hT5.op (.slice cp cn cc)).six (N := w.heap.size) hT5.oz (.string σ.now.text) (.int .i64 σ.now.place) (.int .i64 tv) (.int .i64 kv) (.slice cp cn cc) (.slice none 0 0)
  have hO' := (hops.write8 (p := ⟨w.heap.size + 1 + 1 + 1, 4, none⟩) hT5.op (.slice cp cn cc)).six (N := w.heap.size) hT5.oz (.string σ.now.text) (.int .i64 σ.now.place) (.int .i64 tv) (.int .i64 kv) (.slice cp cn cc) (.slice none 0 0)
  have hB := hT5'.z.six (.string σ.now.text) (.int .i64 σ.now.place) (.int .i64 tv) (.int .i64 kv) (.slice cp cn cc) (.slice none 0 0)
  have k0 := hB.cell 0; have k1 := hB.cell 1; have k2 := hB.cell 2; have k3 := hB.cell 3; have k4 := hB.cell 4; have k5 := hB.cell 5
  simp at k0 k1 k2 k3 k4 k5
  exact bodyPost_ret (v := partVal (.mk σ.now.text σ.now.place tv kv (condP n (((σ.skip.expect [tColon]).num 0 99).skip.num 1 4)).opsL []) (.slice cp cn cc) (.slice none 0 0)) (by simp [results, Tryz.results200, go_sem, k0, k1, k2, k3, k4, k5, partVal, PPart.name, PPart.place, PPart.times, PPart.kind]) rfl
    ⟨_, rfl, own5, m5, _, _, hS', hE', rfl, hO', .inl ⟨rfl, rfl⟩⟩
theorem RSt.box3p {own : Nat → Nat} {w : World} {b : Nat} {m : RM} {σ : Rd} (h : RSt own w b m σ) (o1 : Obj) (cs : Array Value) :
    RSt (ownBox own w.heap.size) (((w.alloc (.cells zeroPart 189)).alloc o1).alloc (.cells cs 189)) b m σ ∧ Ext own w (ownBox own w.heap.size) (((w.alloc (.cells zeroPart 189)).alloc o1).alloc (.cells cs 189)) ∧
    Two (ownBox own w.heap.size) (((w.alloc (.cells zeroPart 189)).alloc o1).alloc (.cells cs 189)) w.heap.size (w.heap.size + 1 + 1) cs :=
  have h3 := h.box3 (.cells zeroPart 189) o1 (.cells cs 189)
  ⟨h3.1, h3.2, ⟨((Blk.new w zeroPart 189).alloc o1).alloc _, alloc_at _ _ _ (by simp), ownBox_0 _ _, ownBox_2 _ _⟩⟩

set_option maxRecDepth 100000 in
set_option maxHeartbeats 800000 in
theorem guard_p {b n k : Nat} {own : Nat → Nat} {w : World} {m : RM} {σ : Rd} (h : RSt own w b m σ) (hpre : Pre2 (n + 1) σ) (hk : σ.now.is tNot = true) :
    Calls Tryz.prog 201 #[.pointer (some ⟨b, 0, none⟩)] w fun e w' => ∃ v, e = .returned v ∧ PartPost own w b k (guardP n σ) v w' := by
  have hbw := h.blk.lt
  have h2 := hpre.good.is (by simp [KW]) hk
  have a1 := skip_ok hpre.good h2
  have a3 := num_ok a1.good 0 99
  have p3 : Pre2 n (σ.skip.num 0 99) := by
    have l1 := skip_len σ; have l3 := a3.le; have l4 := hpre.le; have l5 := hpre.deep
    have d := a3.deep.trans a1.deep
    exact ⟨a3.good, by omega, by omega⟩
  have hfld := stok_field1
  have HV : Hid (guardP n σ = ((condP n (σ.skip.num 0 99)).dead, .mk ⟨#[]⟩ σ.now.place 0 σ.skip.numV (condP n (σ.skip.num 0 99)).opsL [])) := by
    show _ = _; unfold guardP; rfl
  rw [HV.out]
  have hnum := fun own2 w2 m2 (hs2 : RSt own2 w2 b m2 σ.skip) => number_p hs2 a1.good 0 99 (by omega) (by omega)
  generalize σ.skip.numV = kv at *
  clear HV hk
  go_enter Tryz.func201, Tryz.ntmps201
  go_wp2_with (first
    | (go_at_call 83; refine (now_p (h.alloc _) hpre.good.pos).mono ?_; rintro e w' ⟨rfl, o, rfl⟩)
    | (go_at_call 164; obtain ⟨hs0, he0, hT0⟩ := h.box3p o (plainPart ⟨#[]⟩ σ.now.place 0 0 (.slice none 0 0)); refine (skip_p hs0 h2).mono ?_; rintro e w1 ⟨rfl, hs1, he1⟩; have hT1 := hT0.ext he1)
    | (go_at_call 131; refine (hnum _ w1 _ hs1).mono ?_; rintro e w3 ⟨rfl, own3, m3, hs3, he3⟩; have hT3 := hT1.ext he3; have q3 := hT3.p.cell 3; have f3 := hT3.p.frozen 3; simp [plainPart] at q3; have hs3' := hs3.write8 (p := ⟨w.heap.size + 1 + 1, 3, none⟩) hT3.op (.int .i64 kv); have hT4 := hT3.set (by omega) 3 (.int .i64 kv))
    | (go_at_call 224; refine (condition_p hs3' p3).mono ?_; rintro e w5 ⟨cv, rfl, own5, m5, hs5, he5, hops⟩; obtain ⟨cp, cn, cc, rfl⟩ := row_form hops.1; have hT5 := hT4.ext he5; have q4 := hT5.p.cell 4; have f4 := hT5.p.frozen 4; simp [plainPart] at q4; have hT5' := hT5.set (by omega) 4 (.slice cp cn cc); have c0 := hT5'.p.cell 0; have c1 := hT5'.p.cell 1; have c2 := hT5'.p.cell 2; have c3 := hT5'.p.cell 3; have c4 := hT5'.p.cell 4; have c5 := hT5'.p.cell 5; have z0 := hT5'.z.cell 0; have z1 := hT5'.z.cell 1; have z2 := hT5'.z.cell 2; have z3 := hT5'.z.cell 3; have z4 := hT5'.z.cell 4; have z5 := hT5'.z.cell 5; have g0 := hT5'.z.frozen 0; have g1 := hT5'.z.frozen 1; have g2 := hT5'.z.frozen 2; have g3 := hT5'.z.frozen 3; have g4 := hT5'.z.frozen 4; have g5 := hT5'.z.frozen 5; simp [plainPart, zeroPart] at c0 c1 c2 c3 c4 c5 z0 z1 z2 z3 z4 z5))
  have hE := (((he0.trans he1).trans he3).setNew (p := ⟨w.heap.size + 1 + 1, 3, none⟩) (by show w.heap.size ≤ w.heap.size + 1 + 1; omega) (.int .i64 kv)).trans he5
  have hE' := (hE.setNew (p := ⟨w.heap.size + 1 + 1, 4, none⟩) (by show w.heap.size ≤ w.heap.size + 1 + 1; omega) (.slice cp cn cc)).six (N := w.heap.size) (Nat.le_refl _) (.string ⟨#[]⟩) (.int .i64 σ.now.place) (.int .i64 0) (.int .i64 kv) (.slice cp cn cc) (.slice none 0 0)
  have hS' := (hs5.write8 (p := ⟨w.heap.size + 1 + 1, 4, none⟩) hT5.op (.slice cp cn cc)).six (N := w.heap.size) hT5.oz (.string ⟨#[]⟩) (.int .i64 σ.now.place) (.int .i64 0) (.int .i64 kv) (.slice cp cn cc) (.slice none 0 0)
  have hO' := (hops.write8 (p := ⟨w.heap.size + 1 + 1, 4, none⟩) hT5.op (.slice cp cn cc)).six (N := w.heap.size) hT5.oz (.string ⟨#[]⟩) (.int .i64 σ.now.place) (.int .i64 0) (.int .i64 kv) (.slice cp cn cc) (.slice none 0 0)
  have hB := hT5'.z.six (.string ⟨#[]⟩) (.int .i64 σ.now.place) (.int .i64 0) (.int .i64 kv) (.slice cp cn cc) (.slice none 0 0)
  have k0 := hB.cell 0; have k1 := hB.cell 1; have k2 := hB.cell 2; have k3 := hB.cell 3; have k4 := hB.cell 4; have k5 := hB.cell 5
  simp at k0 k1 k2 k3 k4 k5
  exact bodyPost_ret (v := partVal (.mk ⟨#[]⟩ σ.now.place 0 kv (condP n (σ.skip.num 0 99)).opsL []) (.slice cp cn cc) (.slice none 0 0)) (by simp [results, Tryz.results201, go_sem, k0, k1, k2, k3, k4, k5, partVal, PPart.name, PPart.place, PPart.times, PPart.kind]) rfl
    ⟨_, rfl, own5, m5, _, _, hS', hE', rfl, hO', .inl ⟨rfl, rfl⟩⟩
end Go.Proofs.YtddbjcfdmdbmkaaGreatDoor

/-
  The program's reader: sequence.
-/
namespace Go.Proofs.YtddbjcfdmdbmkaaGreatDoor
open Go.RowKit

theorem row_ext8 {own own' : Nat → Nat} {w w' : World} {base : Nat} {e : TypeId} {size : Nat} {v : Value} {n : Nat} {xs : List Value} (h : w.ownsRow base e size v n xs) (ho : ∀ g, v.ownBlock = some g → 7 ≤ own g) (hE : Ext own w own' w') : w'.ownsRow base e size v n xs := by
  refine ⟨h.1, ?_⟩
  rcases h.2 with hn | ⟨g, cap, cur, rfl, h1, h2, rest⟩
  · exact .inl hn
  · refine .inr ⟨g, cap, cur, rfl, h1, ?_, rest⟩
    have hlt : g < w.heap.size := (Array.getElem?_eq_some_iff.1 h2).1
    rw [hE.kept.block g ⟨hlt, ho g rfl⟩]; exact h2
theorem OpsLie.col {own own' : Nat → Nat} {w : World} (he : ∀ k, k < w.heap.size → own k = 7 → own' k = 7) {v : Value} {l : List POp} (h : OpsLie own w v l) : OpsLie own' w v l := ⟨h.1, fun g hg => he g (h.1.lt g hg).2 (h.2 g hg)⟩
theorem ChBy.col {own own' : Nat → Nat} {w : World} {S S' : Value → List PPart → Prop} (hS : ∀ v l, S v l → S' v l) (he : ∀ k, k < w.heap.size → own k = 7 → own' k = 7) {v : Value} {c : List (List PPart)} (h : ChBy own w S v c) : ChBy own' w S' v c := by
  rcases h with h | ⟨h0, vs, h1, h2, h3, h4⟩
  · exact .inl h
  · exact .inr ⟨h0, vs, h1, h2, fun g hg => he g (h2.lt g hg).2 (h3 g hg), fun q hq => hS _ _ (h4 q hq)⟩
theorem SeqLie.col {own own' : Nat → Nat} {w : World} (he : ∀ k, k < w.heap.size → own k = 7 → own' k = 7) : ∀ n v l, SeqLie own w n v l → SeqLie own' w n v l := by
  intro n
  induction n with
  | zero => intro v l h; exact h
  | succ n ih =>
    rintro v l ⟨xs, h1, h2, h3, h4⟩
    exact ⟨xs, h1, h2, fun g hg => he g (h2.lt g hg).2 (h3 g hg), fun p hp => ⟨(h4 p hp).1.col he, (h4 p hp).2.col ih he⟩⟩
theorem PartLie.col {own own' : Nat → Nat} {w : World} (he : ∀ k, k < w.heap.size → own k = 7 → own' k = 7) {n : Nat} {p : PPart} {cv hv : Value} (h : PartLie own w n p cv hv) : PartLie own' w n p cv hv := ⟨h.1.col he, h.2.col (SeqLie.col he n) he⟩

/-- 8 as 1: what lies in blocks of 7 does not see what their owners do to blocks of 8 -/
def no8 (own : Nat → Nat) : Nat → Nat := fun k => if own k = 8 then 1 else own k
theorem no8_ext {own own' : Nat → Nat} {w w' : World} {row : Option Nat} (hg : w.grownBy w' row) (hr : ∀ k, row = some k → own k = 8) (he : ∀ k, k < w.heap.size → own k ≠ 8 → own' k = own k) : Ext (no8 own) w (fun k => if k < w.heap.size then no8 own k else own' k) w' :=
  ⟨fun k hk => by simp only [hk, if_true], ⟨hg.os, hg.tape, hg.output, hg.size, fun k hk => hg.block k hk.1 (fun e => by have := hr k e.symm; have h2 := hk.2; simp only [no8, this, if_true] at h2; omega)⟩⟩
theorem move7 {own own' : Nat → Nat} {w w' : World} {row : Option Nat} (hg : w.grownBy w' row) (hr : ∀ k, row = some k → own k = 8) (he : ∀ k, k < w.heap.size → own k ≠ 8 → own' k = own k) {n : Nat} {p : PPart} {cv hv : Value} (h : PartLie own w n p cv hv) : PartLie own' w' n p cv hv := by
  have h1 : PartLie (no8 own) w n p cv hv := h.col (fun k _ e => by simp [no8, e])
  have h2 := h1.ext (no8_ext hg hr he)
  refine h2.col (fun k _ e => ?_)
  by_cases hlt : k < w.heap.size
  · simp only [hlt, if_true] at e
    unfold no8 at e
    split at e
    · omega
    · rename_i hne; rw [he k hlt hne]; exact e
  · simp only [hlt, if_false] at e; exact e

theorem RSt.appC {own : Nat → Nat} {w w1 : World} {b : Nat} {m : RM} {σ : Rd} {row : Option Nat} {g : Nat} (h : RSt own w b m σ) (hg : w.grownBy w1 row) (hr : ∀ k, row = some k → own k = 8) (hat : row = some g ∨ g = w.heap.size) : RSt (put own g 8) w1 b m σ := by
  have htg : row ≠ some m.tg := fun e => by have := hr _ e; rw [h.ot] at this; cases this
  refine ⟨h.far hg hr (by decide), (put_old 8 hr hat b h.blk.lt).trans h.ob, h.toks.of_eq (hg.block _ h.toks.lt (fun e => htg e.symm)) hg.size, (put_old 8 hr hat _ h.toks.lt).trans h.ot, h.cap, fun l hl => ?_⟩
  exact row_moved (g := g) 2 8 (h.live l hl).1 (h.live l hl).2 hg hr (by decide) hat
theorem Ext.appC {own0 own : Nat → Nat} {w0 w w1 : World} {row : Option Nat} {g : Nat} (h : Ext own0 w0 own w) (hg : w.grownBy w1 row) (hr : ∀ k, row = some k → w0.heap.size ≤ k) (hat : row = some g ∨ g = w.heap.size) : Ext own0 w0 (put own g 8) w1 := by
  have hgw : w0.heap.size ≤ g := by
    rcases hat with e | e
    · exact hr g e
    · have := h.size; omega
  exact ⟨fun k hk => by rw [put_other _ _ _ _ (by omega)]; exact h.same k hk,
    h.kept.trans ⟨hg.os, hg.tape, hg.output, hg.size, fun k hk => hg.block k (Nat.lt_of_lt_of_le hk.1 h.size) (fun e => by have := hr k e.symm; have := hk.1; omega)⟩⟩
theorem RSt.recolor {own : Nat → Nat} {w : World} {b : Nat} {m : RM} {σ : Rd} {g : Nat} (c : Nat) (h : RSt own w b m σ) (hg : own g = 8) : RSt (put own g c) w b m σ :=
  ⟨h.blk, by rw [put_other _ _ _ _ (fun e => by have := h.ob; rw [e, hg] at this; cases this)]; exact h.ob, h.toks, by rw [put_other _ _ _ _ (fun e => by have := h.ot; rw [e, hg] at this; cases this)]; exact h.ot, h.cap,
   fun l hl => ⟨(h.live l hl).1, fun k hk => by rw [put_other _ _ _ _ (fun e => by have := (h.live l hl).2 k hk; rw [e, hg] at this; cases this)]; exact (h.live l hl).2 k hk⟩⟩

/-- part, as a contract -/
def PartC (b n k : Nat) (part : Rd → Rd × PPart) : Prop := ∀ (own : Nat → Nat) (w : World) (m : RM) (σ : Rd), RSt own w b m σ → Pre2 n σ →
  Calls Tryz.prog 167 #[.pointer (some ⟨b, 0, none⟩)] w fun e w' => ∃ v, e = .returned v ∧ PartPost own w b k (part σ) v w'
def SeqPost2 (own : Nat → Nat) (w : World) (b n : Nat) (r : Rd × List PPart) (v : Value) (w' : World) : Prop := ∃ own' m', RSt own' w' b m' r.1 ∧ Ext own w own' w' ∧ SeqLie own' w' n v r.2
def SeqC (b n k : Nat) (seq : Rd → Rd × List PPart) : Prop := ∀ (own : Nat → Nat) (w : World) (m : RM) (σ : Rd), RSt own w b m σ → Pre2 n σ →
  Calls Tryz.prog 132 #[.pointer (some ⟨b, 0, none⟩)] w fun e w' => ∃ v, e = .returned v ∧ SeqPost2 own w b k (seq σ) v w'

/-- in sequence's loop -/
structure QL (part : Rd → Rd × PPart) (n dk : Nat) (out : Rd × List PPart) (own : Nat → Nat) (w : World) (b k : Nat) (v : Value) (own' : Nat → Nat) (m' : RM) (σ' : Rd) (l : List PPart) (xs : List (Value × Value)) (wr : World) : Prop where
  st : RSt own' wr b m' σ'
  ext : Ext own w own' wr
  eq : Hid (seqL part k σ' l = out)
  fuel : σ'.ahead.length ≤ k
  pre : Pre2 n σ'
  len : xs.length = l.length
  bound : l.length + σ'.ahead.length ≤ 3000
  row : wr.ownsRow 0 189 6 v l.length (flat partCells (l.zip xs))
  col : ∀ g, v.ownBlock = some g → own' g = 8 ∧ w.heap.size ≤ g
  lie : ∀ p ∈ l.zip xs, PartLie own' wr dk p.1 p.2.1 p.2.2
def QLx (part : Rd → Rd × PPart) (n dk : Nat) (out : Rd × List PPart) (own : Nat → Nat) (w : World) (b k : Nat) (v : Value) (wr : World) : Prop := ∃ own' m' σ' l xs, QL part n dk out own w b k v own' m' σ' l xs wr
theorem seqL_stop {part : Rd → Rd × PPart} {k : Nat} {σ : Rd} {l : List PPart} (h : σ.has [tThen] = false) : seqL part k σ l = (σ, l) := by
  cases k with
  | zero => rfl
  | succ k => rw [seqL, if_neg (by simp [h])]
theorem seqL_more {part : Rd → Rd × PPart} {k : Nat} {σ : Rd} {l : List PPart} (h : σ.has [tThen] = true) : seqL part (k + 1) σ l = seqL part k (part σ.skip).1 (l ++ [(part σ.skip).2]) := by
  rw [seqL, if_pos h]
theorem Tryz.infoPart : (Tryz.prog.info? 189).map (fun i => (i.zero, i.size, i.bytes)) = some (some (.agg #[.string ⟨#[]⟩, .int .i64 0, .int .i64 0, .int .i64 0, .slice none 0 0, .slice none 0 0]), 6, 88) := by kernel_rfl
theorem ChBy.form {own : Nat → Nat} {w : World} {S : Value → List PPart → Prop} {v : Value} {c : List (List PPart)} (h : ChBy own w S v c) : ∃ p l k, v = .slice p l k := by
  rcases h with ⟨_, rfl⟩ | ⟨_, _, _, h, _⟩
  · exact ⟨_, _, _, rfl⟩
  · exact row_form h
/-- the first part in a row of its own -/
theorem seq_start {part : Rd → Rd × PPart} {n dk : Nat} (kp : KeepsP n part) {own : Nat → Nat} {w : World} {b : Nat} {σ : Rd} (hpre : Pre2 n σ) {w1 : World} {own1 : Nat → Nat} {m1 : RM} {cv hv : Value} (hs1 : RSt own1 w1 b m1 (part σ).1) (he1 : Ext own w own1 w1) (hl : PartLie own1 w1 dk (part σ).2 cv hv)
    {out : Rd × List PPart} (HO : Hid (seqP part σ = out)) :
    QLx part n dk out own w b (part σ).1.ahead.length (.slice (some ⟨w1.heap.size, 0, none⟩) 1 1) (w1.alloc (.cells #[.string (part σ).2.name, .int .i64 (part σ).2.place, .int .i64 (part σ).2.times, .int .i64 (part σ).2.kind, cv, hv] 189)) := by
  have p1 := hpre.ok (kp σ hpre.good hpre.le)
  have hg : ∀ k, k < w1.heap.size → put own1 w1.heap.size 8 k = own1 k := fun k hk => put_other _ _ _ _ (by omega)
  refine ⟨put own1 w1.heap.size 8, m1, (part σ).1, [(part σ).2], [(cv, hv)], (hs1.owner hg).alloc _, he1.allocAs _ 8, HO, Nat.le_refl _, p1, rfl, by have := p1.deep; show 1 + _ ≤ _; omega, ?_, ?_, ?_⟩
  · refine ⟨rfl, .inr ⟨w1.heap.size, 1, _, rfl, Nat.zero_le _, heap_alloc_new w1 _, Nat.le_refl _, by unfold maxLen; decide, rfl, rfl⟩⟩
  · intro g e; cases e; exact ⟨put_same _ _ _, he1.size⟩
  · intro p hp
    simp only [List.zip_cons_cons, List.zip_nil_right, List.mem_singleton] at hp
    subst hp
    exact move7 (World.grownBy_alloc w1 _ none) (fun k e => by cases e) (fun k hk _ => hg k hk) hl
end Go.Proofs.YtddbjcfdmdbmkaaGreatDoor

/-
  The program's reader: sequence, the walk.
-/
namespace Go.Proofs.YtddbjcfdmdbmkaaGreatDoor
open Go.RowKit

theorem zip_snoc2 {α β : Type} (l : List α) (l' : List β) (x : α) (y : β) (h : l'.length = l.length) : (l ++ [x]).zip (l' ++ [y]) = l.zip l' ++ [(x, y)] := by
  rw [List.zip_append h.symm]; rfl

theorem seq_end {n : Nat} {own own2 : Nat → Nat} {w w2 : World} {b : Nat} {m2 : RM} {σ' : Rd} {l : List PPart} {xs : List (Value × Value)} {v : Value} (hs2 : RSt own2 w2 b m2 σ') (hE : Ext own w own2 w2) (hlen : xs.length = l.length)
    (hrow : w2.ownsRow 0 189 6 v l.length (flat partCells (l.zip xs))) (hcol : ∀ g, v.ownBlock = some g → own2 g = 8 ∧ w.heap.size ≤ g) (hlie : ∀ p ∈ l.zip xs, PartLie own2 w2 n p.1 p.2.1 p.2.2) : SeqPost2 own w b (n + 1) (σ', l) v w2 := by
  cases hv : v.ownBlock with
  | none => exact ⟨own2, m2, hs2, hE, xs, hlen, hrow, fun g hg => (by rw [hv] at hg; cases hg), hlie⟩
  | some g =>
    obtain ⟨hg8, hgw⟩ := hcol g hv
    refine ⟨put own2 g 7, m2, hs2.recolor 7 hg8, ⟨fun k hk => by rw [put_other _ _ _ _ (by omega)]; exact hE.same k hk, hE.kept⟩, xs, hlen, hrow, fun k hk => by rw [hv] at hk; cases hk; exact put_same _ _ _, fun p hp => ?_⟩
    refine (hlie p hp).col (fun k _ e => ?_)
    rw [put_other _ _ _ _ (fun h => by rw [h, hg8] at e; cases e)]; exact e

set_option maxRecDepth 100000 in
set_option maxHeartbeats 800000 in
theorem seq_p {b n dk : Nat} {part : Rd → Rd × PPart} (kp : KeepsP n part) (hp : PartC b n dk part) : SeqC b n (dk + 1) (seqP part) := by
  intro own w m σ h hpre
  obtain ⟨out, HO⟩ : ∃ out, Hid (seqP part σ = out) := ⟨_, rfl⟩
  rw [HO.out]
  have hstart := fun w1 own1 m1 cv hv hs1 he1 hl => seq_start (part := part) (n := n) (dk := dk) kp (own := own) (w := w) (b := b) hpre (w1 := w1) (own1 := own1) (m1 := m1) (cv := cv) (hv := hv) hs1 he1 hl HO
  have hfirst := hp own w m σ h hpre
  obtain ⟨fuel, HF⟩ : ∃ fuel, Hid ((part σ).1.ahead.length = fuel) := ⟨_, rfl⟩
  rw [HF.out] at hstart
  obtain ⟨i0, hi0, hz0, hz1, hz2⟩ := info_parts Tryz.infoPart
  clear HO HF h hpre
  go_enter Tryz.func132, Tryz.ntmps132
  go_wp2_with (go_at_call 167; refine hfirst.mono ?_; rintro e w1 ⟨v, rfl, own1, m1, cv, hv, hs1, he1, rfl, hl1⟩; obtain ⟨cp, cn, cc, rfl⟩ := row_form hl1.1.1; obtain ⟨hp1, hn1, hc1, rfl⟩ := hl1.2.form; have hS0 := hstart w1 own1 m1 _ _ hs1 he1 hl1; simp only [partVal])
  clear hstart hfirst hs1 he1 hl1
  go_loopg [3] fuel (fun k v wr => QLx part n dk out own w b k v wr)
  case atStart => exact hS0
  case round =>
    obtain ⟨own', m', σ', l, xs, hst, hext, HE, hfu, hpr, hlen, hbd, hrow, hcol, hlie⟩ := hrel
    clear hS0
    cases hh : σ'.has [tThen] with
    | false =>
      have HV : Hid (σ'.which [tThen] = σ' ∧ (σ', l) = out) := ⟨by unfold Rd.which; rw [if_neg (by simp [hh])], (seqL_stop hh).symm.trans HE.out⟩
      have htk := take_new hst hpr.good [tThen] (by simp [KW]) (by simp) 1 rfl
      rw [HV.out.1, hh] at htk
      obtain ⟨vp, vn, vc, rfl⟩ := row_form hrow
      go_wp2_with (go_at_call 168; refine htk.mono ?_; rintro e w2 ⟨rfl, own2, m2, hs2, he2⟩)
      go_ret
      rw [← HV.out.2]
      have hrow2 := row_ext8 hrow (fun g hg => by rw [(hcol g hg).1]; decide) he2
      exact ⟨_, rfl, seq_end hs2 (hext.trans he2) hlen hrow2 (fun g hg => ⟨(he2.same g (hrow.lt g hg).2).trans (hcol g hg).1, (hcol g hg).2⟩) (fun p hp => (hlie p hp).ext he2)⟩
    | true =>
      have h2 := hpr.good.has (ts := [tThen]) (by simp [KW]) hh
      obtain ⟨k, rfl⟩ : ∃ k, gk = k + 1 := ⟨gk - 1, by omega⟩
      have ps := hpr.ok (skip_ok hpr.good h2).ok2
      have p1 := ps.ok (kp _ ps.good ps.le)
      have HV : Hid (σ'.which [tThen] = σ'.skip ∧ seqL part k (part σ'.skip).1 (l ++ [(part σ'.skip).2]) = out) := ⟨by unfold Rd.which; rw [if_pos hh], (seqL_more hh).symm.trans HE.out⟩
      have Hlen : Hid ((part σ'.skip).1.ahead.length + 1 ≤ σ'.ahead.length) := by
        have a := (kp _ ps.good ps.le).le; rw [skip_len] at a; show _ ≤ _; omega
      have htk := take_new hst hpr.good [tThen] (by simp [KW]) (by simp) 1 rfl
      rw [HV.out.1, hh] at htk
      obtain ⟨vp, vn, vc, rfl⟩ := row_form hrow
      clear hh HE
      go_wp2_with (first
        | (go_at_call 168; refine htk.mono ?_; rintro e w2 ⟨rfl, own2, m2, hs2, he2⟩; have hrow2 := row_ext8 hrow (fun g hg => by rw [(hcol g hg).1]; decide) he2; have hcol2 : ∀ g, (Value.slice vp vn vc).ownBlock = some g → own2 g = 8 := fun g hg => (he2.same g (hrow.lt g hg).2).trans (hcol g hg).1)
        | (go_at_call 167; refine (hp own2 w2 m2 _ hs2 ps).mono ?_; rintro e w3 ⟨v, rfl, own3, m3, cv, hv, hs3, he3, rfl, hl3⟩; obtain ⟨cp', cn', cc', rfl⟩ := row_form hl3.1.1; obtain ⟨hp', hn', hc', rfl⟩ := hl3.2.form; have hrow3 := row_ext8 hrow2 (fun g hg => by rw [hcol2 g hg]; decide) he3; have hcol3 : ∀ g, (Value.slice vp vn vc).ownBlock = some g → own3 g = 8 := fun g hg => (he3.same g (hrow2.lt g hg).2).trans (hcol2 g hg); simp only [partVal])
        | (at_builtin; refine wpList_append_lies _ rfl (.tmp 10) (.tmp 13) 99 rfl 0 189 i0 _ 6 88 Tryz.underlying99 hi0 hz0 hz1 hz2 rfl (by decide) _ l.length (flat partCells (l.zip xs)) (by rfl) (hrow3.alloc _) ⟨w3.heap.size, 0, none⟩ 1 1 (partCells ((part σ'.skip).2, (.slice cp' cn' cc', .slice hp' hn' hc'))) (by rfl) rfl (World.news_of_block (alloc_at _ _ _ (by simp))) (by simp [partCells, Value.oneCell']) (by decide) (by unfold maxLen; omega) (by omega) (Nat.zero_le _) (w3.heap.size + 1) (by simp) ?_; intro g cap w4 hown hgrow hat hlt))
      have hr8 : ∀ k, (Value.slice vp vn vc).ownBlock = some k → own3 k = 8 := hcol3
      have hS4 := (hs3.alloc _).appC hgrow hr8 (by simpa using hat)
      have hE4 := ((((hext.trans he2).trans he3).alloc _)).appC hgrow (fun k hk => (hcol k hk).2) (by simpa using hat)
      have hgw : w.heap.size ≤ g := by
        rcases hat with e | e
        · exact (hcol g e).2
        · have := ((hext.trans he2).trans he3).size; omega
      have hmv : ∀ q : PPart × (Value × Value), PartLie own3 w3 dk q.1 q.2.1 q.2.2 → PartLie (put own3 g 8) w4 dk q.1 q.2.1 q.2.2 := fun q hq =>
        move7 hgrow hr8 (fun k hk hne => by
          by_cases e : k = g
          · subst e
            rcases hat with e | e
            · exact absurd (hr8 k e) hne
            · have : k < w3.heap.size + 1 := by simpa using hk
              omega
          · exact put_other _ _ _ _ e) (move7 (World.grownBy_alloc w3 _ none) (fun k e => by cases e) (fun _ _ _ => rfl) hq)
      go_roundg k
      case measure => omega
      case rel =>
        refine ⟨put own3 g 8, m3, (part σ'.skip).1, l ++ [(part σ'.skip).2], xs ++ [(.slice cp' cn' cc', .slice hp' hn' hc')], hS4, hE4, HV.out.2, by have := Hlen.out; omega, p1, by simp [hlen], by have := Hlen.out; simp; omega, ?_, fun k e => by cases e; exact ⟨put_same _ _ _, hgw⟩, ?_⟩
        · rw [zip_snoc2 _ _ _ _ hlen, flat_snoc, List.length_append]; exact hown
        · intro q hq
          rw [zip_snoc2 _ _ _ _ hlen] at hq
          rcases List.mem_append.1 hq with hq | hq
          · exact hmv q (((hlie q hq).ext he2).ext he3)
          · simp at hq; subst hq; exact hmv _ hl3
end Go.Proofs.YtddbjcfdmdbmkaaGreatDoor

/-
  The program's reader: brackets.
-/
namespace Go.Proofs.YtddbjcfdmdbmkaaGreatDoor
open Go.RowKit

theorem SeqLie.form {own : Nat → Nat} {w : World} {n : Nat} {v : Value} {l : List PPart} (h : SeqLie own w n v l) : ∃ p c k, v = .slice p c k := by
  cases n with
  | zero => exact h.elim
  | succ n => obtain ⟨xs, _, h2, _⟩ := h; exact row_form h2
theorem move7s {own own' : Nat → Nat} {w w' : World} {row : Option Nat} (hg : w.grownBy w' row) (hr : ∀ k, row = some k → own k = 8) (he : ∀ k, k < w.heap.size → own k ≠ 8 → own' k = own k) {n : Nat} {v : Value} {l : List PPart} (h : SeqLie own w n v l) : SeqLie own' w' n v l := by
  have h1 : SeqLie (no8 own) w n v l := SeqLie.col (fun k _ e => by simp [no8, e]) n v l h
  have h2 := SeqLie.ext (no8_ext hg hr he) n v l h1
  refine SeqLie.col (fun k _ e => ?_) n v l h2
  by_cases hlt : k < w.heap.size
  · simp only [hlt, if_true] at e
    unfold no8 at e
    split at e
    · omega
    · rename_i hne; rw [he k hlt hne]; exact e
  · simp only [hlt, if_false] at e; exact e
theorem alloc_size (w : World) (o : Obj) : (w.alloc o).heap.size = w.heap.size + 1 := by simp
theorem Tryz.infoSeq : (Tryz.prog.info? 99).map (fun i => (i.zero, i.size, i.bytes)) = some (some (.slice none 0 0), 1, 24) := by kernel_rfl

/-- sequences that were read: their row is still the caller's -/
structure BR (dk N : Nat) (own : Nat → Nat) (w : World) (b : Nat) (v : Value) (own' : Nat → Nat) (m' : RM) (σ' : Rd) (c : List (List PPart)) (vs : List Value) (wr : World) : Prop where
  st : RSt own' wr b m' σ'
  ext : Ext own w own' wr
  len : vs.length = c.length
  row : wr.ownsRow 0 99 1 v c.length vs
  col : ∀ g, v.ownBlock = some g → own' g = 8 ∧ w.heap.size ≤ g
  lie : ∀ q ∈ c.zip vs, SeqLie own' wr dk q.2 q.1
  z : Blk wr N zeroPart 189
  oz : own' N = 8
theorem BR.next {dk N : Nat} {own own' own2 : Nat → Nat} {w wr w2 : World} {b : Nat} {v : Value} {m' m2 : RM} {σ' σ2 : Rd} {c : List (List PPart)} {vs : List Value} (h : BR dk N own w b v own' m' σ' c vs wr) (hs : RSt own2 w2 b m2 σ2) (he : Ext own' wr own2 w2) : BR dk N own w b v own2 m2 σ2 c vs w2 :=
  ⟨hs, h.ext.trans he, h.len, row_ext8 h.row (fun g hg => by rw [(h.col g hg).1]; decide) he, fun g hg => ⟨(he.same g (h.row.lt g hg).2).trans (h.col g hg).1, (h.col g hg).2⟩, fun q hq => SeqLie.ext he dk _ _ (h.lie q hq), he.blk8 h.oz h.z, (he.same _ h.z.lt).trans h.oz⟩
/-- one sequence more -/
theorem BR.app {dk N : Nat} {own own' : Nat → Nat} {w wr w4 : World} {b : Nat} {v : Value} {m' : RM} {σ' : Rd} {c : List (List PPart)} {vs : List Value} {sv : Value} {s : List PPart} {g cap : Nat} {o : Obj} (h : BR dk N own w b v own' m' σ' c vs wr) (hl : SeqLie own' wr dk sv s) (hNv : v.ownBlock ≠ some N)
    (hown : w4.ownsRow 0 99 1 (.slice (some ⟨g, 0, none⟩) (c.length + 1) cap) (c.length + 1) (vs ++ [sv])) (hgrow : (wr.alloc o).grownBy w4 v.ownBlock) (hat : v.ownBlock = some g ∨ g = wr.heap.size + 1) (hN : w.heap.size ≤ N) :
    BR dk N own w b (.slice (some ⟨g, 0, none⟩) (c.length + 1) cap) (put own' g 8) m' σ' (c ++ [s]) (vs ++ [sv]) w4 ∧ (Value.slice (some ⟨g, 0, none⟩) (c.length + 1) cap).ownBlock ≠ some N := by
  have hr8 : ∀ k, v.ownBlock = some k → own' k = 8 := fun k hk => (h.col k hk).1
  have hat' : v.ownBlock = some g ∨ g = (wr.alloc o).heap.size := by simpa using hat
  have hgw : w.heap.size ≤ g := by
    rcases hat with e | e
    · exact (h.col g e).2
    · have := h.ext.size; omega
  have hgN : g ≠ N := by
    rcases hat with e | e
    · exact fun x => hNv (x ▸ e)
    · have := h.z.lt; omega
  have hmv : ∀ v s, SeqLie own' wr dk v s → SeqLie (put own' g 8) w4 dk v s := fun v' s' hq =>
    move7s hgrow hr8 (fun k hk hne => by
      by_cases e : k = g
      · subst e
        rcases hat with e | e
        · exact absurd (hr8 k e) hne
        · have : k < wr.heap.size + 1 := by simpa using hk
          omega
      · exact put_other _ _ _ _ e) (move7s (World.grownBy_alloc wr o none) (fun k e => by cases e) (fun _ _ _ => rfl) hq)
  refine ⟨⟨(h.st.alloc o).appC hgrow hr8 hat', (h.ext.alloc o).appC hgrow (fun k hk => (h.col k hk).2) hat', by simp [h.len], ?_, fun k e => by cases e; exact ⟨put_same _ _ _, hgw⟩, ?_, ?_, ?_⟩, fun e => by cases e; exact hgN rfl⟩
  · rw [List.length_append]; exact hown
  · intro q hq
    rw [zip_snoc2 _ _ _ _ h.len] at hq
    rcases List.mem_append.1 hq with hq | hq
    · exact hmv _ _ (h.lie q hq)
    · simp at hq; subst hq; exact hmv _ _ hl
  · exact (h.z.alloc o).of_eq (hgrow.block N (by simp; have := h.z.lt; omega) (fun e => hNv e.symm))
  · rw [put_other _ _ _ _ (Ne.symm hgN)]; exact h.oz
/-- the first one -/
theorem BR.first {dk N : Nat} {own own2 : Nat → Nat} {w w2 : World} {b : Nat} {m2 : RM} {σ2 : Rd} {sv : Value} {s : List PPart} (hs2 : RSt own2 w2 b m2 σ2) (hE : Ext own w own2 w2) (hl : SeqLie own2 w2 dk sv s) (hz : Blk w2 N zeroPart 189) (oz : own2 N = 8) :
    BR dk N own w b (.slice (some ⟨w2.heap.size, 0, none⟩) 1 1) (put own2 w2.heap.size 8) m2 σ2 [s] [sv] (w2.alloc (.cells #[sv] 99)) := by
  have hg : ∀ k, k < w2.heap.size → put own2 w2.heap.size 8 k = own2 k := fun k hk => put_other _ _ _ _ (by omega)
  refine ⟨(hs2.owner hg).alloc _, hE.allocAs _ 8, rfl, ⟨rfl, .inr ⟨w2.heap.size, 1, _, rfl, Nat.zero_le _, heap_alloc_new w2 _, Nat.le_refl _, by unfold maxLen; decide, rfl, rfl⟩⟩, fun g e => by cases e; exact ⟨put_same _ _ _, hE.size⟩, ?_, hz.alloc _, (hg _ hz.lt).trans oz⟩
  intro q hq
  simp only [List.zip_cons_cons, List.zip_nil_right, List.mem_singleton] at hq
  subst hq
  exact move7s (World.grownBy_alloc w2 _ none) (fun k e => by cases e) (fun k hk _ => hg k hk) hl

/-- in brackets' loop -/
structure BLs (seq : Rd → Rd × List PPart) (n dk N : Nat) (out : Rd × List (List PPart)) (own : Nat → Nat) (w : World) (b k : Nat) (v : Value) (own' : Nat → Nat) (m' : RM) (σ' : Rd) (c : List (List PPart)) (vs : List Value) (wr : World) : Prop where
  br : BR dk N own w b v own' m' σ' c vs wr
  ne : v.ownBlock ≠ some N
  eq : Hid (barL seq k σ' c = out)
  fuel : σ'.ahead.length ≤ k
  pre : Pre2 n σ'
  bound : c.length + σ'.ahead.length ≤ 3000
  two : c ≠ []
def BL (seq : Rd → Rd × List PPart) (n dk N : Nat) (out : Rd × List (List PPart)) (own : Nat → Nat) (w : World) (b k : Nat) (v : Value) (wr : World) : Prop := ∃ own' m' σ' c vs, BLs seq n dk N out own w b k v own' m' σ' c vs wr
theorem barL_stop {seq : Rd → Rd × List PPart} {k : Nat} {σ : Rd} {l : List (List PPart)} (h : σ.has [tBar] = false) : barL seq k σ l = (σ, l) := by
  cases k with
  | zero => rfl
  | succ k => rw [barL, if_neg (by simp [h])]
theorem barL_more {seq : Rd → Rd × List PPart} {k : Nat} {σ : Rd} {l : List (List PPart)} (h : σ.has [tBar] = true) : barL seq (k + 1) σ l = barL seq k (seq σ.skip).1 (l ++ [(seq σ.skip).2]) := by
  rw [barL, if_pos h]
end Go.Proofs.YtddbjcfdmdbmkaaGreatDoor
