import Derived.Test.YtddbjcfdmdbmkaaGreatDoorB30
import Derived.Test.YtddbjcfdmdbmkaaGreatDoorB09
import Derived.Test.YtddbjcfdmdbmkaaGreatDoorB24
set_option linter.unusedVariables false
set_option linter.unusedSimpArgs false
/-
  The program's read: what Read or Make refuse, and what they take.
-/
namespace Go.Proofs.YtddbjcfdmdbmkaaGreatDoor
open Go.RowKit

theorem readP_err {l : List STok} {p e : Nat} (h : readP l = .inr (p, e)) : e ≠ 0 := by
  unfold readP at h
  simp only at h
  split at h
  · injection h with h; injection h with _ h; omega
  · split at h
    · injection h with h; injection h with _ h; omega
    · split at h
      · injection h with h; injection h with _ h; omega
      · cases h
theorem makeP_err {n : Nat} {pat : PPat} {p e : Nat} (h : makeP n pat = .inr (p, e)) : e ≠ 0 := by
  unfold makeP at h
  split at h
  · injection h with h; injection h with _ h; omega
  · split at h
    · rename_i hne; injection h with h; rw [h] at hne; exact hne
    · split at h
      · rename_i hne; injection h with h; rw [h] at hne; exact hne
      · split at h
        · injection h with h; injection h with _ h; omega
        · cases h
theorem NewToks.form {w w' : World} {v : Value} {l : List STok} (h : NewToks w v l w') (h0 : 0 < l.length) : ∃ g cap, v = .slice (some ⟨g, 0, none⟩) l.length cap ∧ w.heap.size ≤ g := by
  rcases h.row.2 with ⟨_, h0'⟩ | ⟨g, cap, cur, rfl, hb, _⟩
  · omega
  · exact ⟨g, cap, rfl, hb⟩
theorem ownHr_tok {w : World} {o : Obj} {g : Nat} (h : (w.alloc o).heap.size ≤ g) : ownHr w.heap.size g = 7 := by
  rw [alloc_size] at h; unfold ownHr; rw [put_other _ _ _ _ (by omega)]; rfl
theorem read_pre0 {l : List STok} {n : Nat} (h : SGood l ∧ l.length ≤ n + 1) (hs : n ≤ 600) : SGood l ∧ l.length ≤ 2000 ∧ 0 < l.length := ⟨h.1, (by have := h.2; omega), h.1.pos⟩
theorem read_pre (s : ByteArray) (hs : s.size ≤ 600) : SGood (tokensP s) ∧ (tokensP s).length ≤ 2000 ∧ 0 < (tokensP s).length := read_pre0 (tokensP_good s) hs

set_option maxRecDepth 100000 in
set_option maxHeartbeats 800000 in
theorem read_bad (s : ByteArray) (w : World) (hs : s.size ≤ 600) {pl er : Nat} (hr : readP (tokensP s) = .inr (pl, er)) :
    Calls Tryz.prog 35 #[.string s] w fun e w' => ∃ v, e = .returned v ∧ HerPost w s v w' := by
  have HP : Hid (herP s = .inr (pl, er)) := by show _ = _; unfold herP; rw [if_neg (by omega), hr]
  have her := readP_err hr
  have b0 : ((er : Int) != 0) = true := by simp; omega
  have hGall := read_pre s hs
  have hpl := Blk.new w zeroPlan 67
  have hcall := tokens_scan s (w.alloc (.cells zeroPlan 67)) (by omega)
  have hsi : ¬ (600 : Int) < (s.size : Int) := by omega
  clear hs her
  obtain ⟨out, HO⟩ : ∃ out, Hid (tokensP s = out) := ⟨_, rfl⟩
  rw [HO.out] at hr hcall hGall
  obtain ⟨hG, hl, h0⟩ := hGall
  go_enter Tryz.func35, Tryz.ntmps35
  go_wp2_with (first
    | (go_at_call 54; refine hread.mono ?_; rintro e w3 ⟨v3, rfl, own3, hE3, hv3⟩; rw [hr] at hv3; simp only at hv3; subst hv3; have hpl3 := hE3.blk8 (put_same _ _ _) hpl2; have z0 := (hpl3.alloc (.cells #[.int .i64 0, .int .i64 0, .slice none 0 0] 101)).cell 0; have z1 := (hpl3.alloc (.cells #[.int .i64 0, .int .i64 0, .slice none 0 0] 101)).cell 1; have z2 := (hpl3.alloc (.cells #[.int .i64 0, .int .i64 0, .slice none 0 0] 101)).cell 2; have z3 := (hpl3.alloc (.cells #[.int .i64 0, .int .i64 0, .slice none 0 0] 101)).cell 3; have g0 := (hpl3.alloc (.cells #[.int .i64 0, .int .i64 0, .slice none 0 0] 101)).frozen 0; have g1 := (hpl3.alloc (.cells #[.int .i64 0, .int .i64 0, .slice none 0 0] 101)).frozen 1; have g2 := (hpl3.alloc (.cells #[.int .i64 0, .int .i64 0, .slice none 0 0] 101)).frozen 2; have g3 := (hpl3.alloc (.cells #[.int .i64 0, .int .i64 0, .slice none 0 0] 101)).frozen 3; simp [zeroPlan] at z0 z1 z2 z3)
    | (go_at_call 53; refine hcall.mono ?_; rintro e w2 ⟨v2, rfl, hT⟩; obtain ⟨g, cap, rfl, hg⟩ := hT.form h0; have hread := read_p hT.row hG hl (ownHr_tok hg); have hpl2 := (Ext.of_below (own := ownHr w.heap.size) hT.below).blk8 (put_same _ _ _) hpl))
  have hB3 : Below w.heap.size w w3 := (below_start hT.below).trans ((hE3.below7 (ownHr_ge _)).mono (below_start hT.below).size)
  have hEnd := (hpl3.alloc (.cells #[.int .i64 0, .int .i64 0, .slice none 0 0] 101)).fourP (.int .i64 0) (.int .i64 0) (.int .i64 0) (.slice none 0 0)
  have k0 := hEnd.cell 0; have k1 := hEnd.cell 1; have k2 := hEnd.cell 2; have k3 := hEnd.cell 3
  simp at k0 k1 k2 k3
  refine bodyPost_ret (v := .tuple #[.slice none 0 0, .agg zeroPlan, .int .i64 pl, .int .i64 er]) (by simp [results, Tryz.results35, go_sem, k0, k1, k2, k3, zeroPlan]) rfl ⟨_, rfl, below_grown (hB3.alloc hB3.size _) (grownBy_four _ _ _ _ _ _) (fun g e => by cases e; exact Nat.le_refl _), ?_⟩
  rw [HP.out]
  exact ⟨_, rfl⟩
theorem tup4 {A B C A' B' C' tv : Value} (e : Value.tuple #[A, B, C] = .tuple #[A', B', C']) : Value.tuple #[tv, A, B, C] = .tuple #[tv, A', B', C'] := by
  injection e with e
  have := congrArg Array.toList e
  simp at this
  obtain ⟨rfl, rfl, rfl⟩ := this
  rfl
theorem row_base {w : World} {base : Nat} {e : TypeId} {size : Nat} {v : Value} {n : Nat} {xs : List Value} (h : w.ownsRow base e size v n xs) : w.ownsRow 0 e size v n xs := by
  refine ⟨h.1, ?_⟩
  rcases h.2 with hn | ⟨g, cap, cur, e, _, r⟩
  · exact .inl hn
  · exact .inr ⟨g, cap, cur, e, Nat.zero_le _, r⟩
/-- what Make answers is of one form -/
theorem MakePost.form {own : Nat → Nat} {w w' : World} {n : Nat} {p : PPat} {v : Value} (h : MakePost own w n p v w') : ∃ (a b c : Int) (x : Option Addr) (y z pl er : Nat), v = .tuple #[.agg #[.int .i64 a, .int .i64 b, .int .i64 c, .slice x y z], .int .i64 pl, .int .i64 er] := by
  obtain ⟨own', hE, hm⟩ := h
  revert hm
  cases makeP n p with
  | inr r => intro e; exact ⟨0, 0, 0, none, 0, 0, r.1, r.2, e⟩
  | inl r =>
    rintro ⟨sv, e, hL⟩
    obtain ⟨vs, _, hrow, _⟩ := hL
    obtain ⟨x, y, z, rfl⟩ := row_form hrow
    exact ⟨_, _, _, x, y, z, 0, 0, e⟩

theorem herP_both {s : ByteArray} (hs : s.size ≤ 600) {pat : PPat} {zz : Nat} (hr : readP (tokensP s) = .inl (pat, zz)) : (∀ r, makeP ((tokensP s).length + 1) pat = .inr r → herP s = .inr r) ∧ ∀ bd ps, makeP ((tokensP s).length + 1) pat = .inl (bd, ps) → herP s = .inl (pat, bd, ps) := by
  constructor
  · intro r hm; unfold herP; rw [if_neg (by omega), hr]; simp only; rw [hm]
  · intro bd ps hm; unfold herP; rw [if_neg (by omega), hr]; simp only; rw [hm]
set_option maxRecDepth 100000 in
set_option maxHeartbeats 1600000 in
theorem read_good (s : ByteArray) (w : World) (hs : s.size ≤ 600) {pat : PPat} {zz : Nat} (hr : readP (tokensP s) = .inl (pat, zz)) :
    Calls Tryz.prog 35 #[.string s] w fun e w' => ∃ v, e = .returned v ∧ HerPost w s v w' := by
  have HP := herP_both hs hr
  have hGall := read_pre s hs
  have hpl := Blk.new w zeroPlan 67
  have hcall := tokens_scan s (w.alloc (.cells zeroPlan 67)) (by omega)
  have hsi : ¬ (600 : Int) < (s.size : Int) := by omega
  clear hs
  obtain ⟨out, HO⟩ : ∃ out, Hid (tokensP s = out) := ⟨_, rfl⟩
  rw [HO.out] at hr hcall hGall
  rw [HO.out] at HP
  have HPo : Hid _ := HP
  clear HP
  obtain ⟨hG, hl, h0⟩ := hGall
  obtain ⟨f1, f2, _, _, _, f6⟩ := read_fine hG hl hr
  have hmake := fun own w sv (h : SeqLie own w (out.length + 1) sv pat.body) => make_p h (by omega) f6 (fun hb => sw_wf _ _ f1 (by unfold isBigP at hb; simp at hb; omega) (by omega))
  clear f1 f2 f6
  go_enter Tryz.func35, Tryz.ntmps35
  go_wp2_with (first
    | (go_at_call 55; refine (hmake own3 _ _ hS3).mono ?_; rintro e w4 ⟨v4, rfl, hM⟩; obtain ⟨ma, mb, mc, mx, my, mz, pl, er, rfl⟩ := hM.form; obtain ⟨own4, hE4, hv4⟩ := hM; have hpl4 := hE4.blk8 ho3 (hpl3.alloc _); have ho4 := (hE4.same _ (hpl3.alloc _).lt).trans ho3; have hN4 := hpl4.lt; have hN5 : w.heap.size < w4.heap.size + 1 := (by omega); have z0 := hpl4.cell 0; have z1 := hpl4.cell 1; have z2 := hpl4.cell 2; have z3 := hpl4.cell 3; have g0 := hpl4.frozen 0; have g1 := hpl4.frozen 1; have g2 := hpl4.frozen 2; have g3 := hpl4.frozen 3; simp [zeroPlan] at z0 z1 z2 z3)
    | (go_at_call 54; refine hread.mono ?_; rintro e w3 ⟨v3, rfl, own3, hE3, hv3⟩; rw [hr] at hv3; simp only at hv3; obtain ⟨sv, rfl, hS⟩ := hv3; obtain ⟨sa, sb, sc, rfl⟩ := hS.form; have hpl3 := hE3.blk8 (put_same _ _ _) hpl2; have ho3 : own3 w.heap.size = 8 := (hE3.same _ hpl2.lt).trans (put_same _ _ _); have hS3 := SeqLie.ext (Ext.of_below (own := own3) ((Below.refl _ w3).alloc (Nat.le_refl _) (.cells #[.int .i64 pat.window, .int .i64 pat.rate, .slice sa sb sc] 101))) _ _ _ hS)
    | (go_at_call 53; refine hcall.mono ?_; rintro e w2 ⟨v2, rfl, hT⟩; obtain ⟨g, cap, rfl, hg⟩ := hT.form h0; have hread := read_p hT.row hG hl (ownHr_tok hg); have hpl2 := (Ext.of_below (own := ownHr w.heap.size) hT.below).blk8 (put_same _ _ _) hpl))
  go_region
  go_wp2
  have hB3 : Below w.heap.size w w3 := (below_start hT.below).trans ((hE3.below7 (ownHr_ge _)).mono (below_start hT.below).size)
  have hEall := hE3.trans ((Ext.of_below (own := own3) ((Below.refl _ w3).alloc (Nat.le_refl _) (.cells #[.int .i64 pat.window, .int .i64 pat.rate, .slice sa sb sc] 101))).trans hE4)
  have hB4 : Below w.heap.size w w4 := (below_start hT.below).trans ((hEall.below7 (ownHr_ge _)).mono (below_start hT.below).size)
  have hEnd := (hpl4.fourP (.int .i64 ma) (.int .i64 mb) (.int .i64 mc) (.slice mx my mz)).alloc (.cells #[.int .i64 ma, .int .i64 mb, .int .i64 mc, .slice mx my mz] 67)
  have k0 := hEnd.drew.cell 0; have k1 := hEnd.drew.cell 1; have k2 := hEnd.drew.cell 2; have k3 := hEnd.drew.cell 3
  simp at k0 k1 k2 k3
  have hgr : w4.grownBy ((((((w4.setCell ⟨w.heap.size, 0, none⟩ (.int .i64 ma)).setCell ⟨w.heap.size, 1, none⟩ (.int .i64 mb)).setCell ⟨w.heap.size, 2, none⟩ (.int .i64 mc)).setCell ⟨w.heap.size, 3, none⟩ (.slice mx my mz)).alloc (.cells #[.int .i64 ma, .int .i64 mb, .int .i64 mc, .slice mx my mz] 67)).drew) (some w.heap.size) :=
    grownBy_trans (grownBy_trans (grownBy_four _ _ _ _ _ _) (World.grownBy_alloc _ _ (some w.heap.size))) (grownBy_drew _ _)
  refine bodyPost_ret (v := .tuple #[.slice (some ⟨g, 0, none⟩) out.length cap, .agg #[.int .i64 ma, .int .i64 mb, .int .i64 mc, .slice mx my mz], .int .i64 pl, .int .i64 er]) (by simp [results, Tryz.results35, go_sem, k0, k1, k2, k3]) rfl ⟨_, rfl, below_grown hB4 hgr (fun g e => by cases e; exact Nat.le_refl _), ?_⟩
  obtain ⟨H1, H2⟩ := HPo.out
  cases hm : makeP (out.length + 1) pat with
  | inr r =>
    rw [hm] at hv4
    rw [H1 r hm]
    exact ⟨_, tup4 hv4⟩
  | inl r =>
    obtain ⟨bd, ps⟩ := r
    rw [hm] at hv4
    rw [H2 bd ps hm]
    obtain ⟨sv, e, hL⟩ := hv4
    have hrow := hT.row
    have ht7 : own4 g = 7 := (hEall.same g (hrow.lt g rfl).2).trans (ownHr_tok hg)
    have r4 := (row_ext7 hrow (fun k hk => by cases hk; exact ownHr_tok hg) hEall).1
    have r5 := (row_ext7 r4 (own := no8 own4) (fun k hk => by cases hk; simp [no8, ht7]) (no8_ext (own' := own4) hgr (fun k e => by cases e; exact ho4) (fun _ _ _ => rfl))).1
    have hL5 := (hL.move (own' := own4) hgr (fun k e => by cases e; exact ho4) (fun _ _ _ => rfl)).colr (own' := all7) (fun _ _ _ => rfl)
    refine ⟨_, sv, tup4 e, hL5, ?_⟩
    rw [HO.out]
    exact row_base r5

theorem read_h (s : ByteArray) (w : World) : Calls Tryz.prog 35 #[.string s] w fun e w' => ∃ v, e = .returned v ∧ HerPost w s v w' := by
  by_cases hs : 600 < s.size
  · exact read_long s w hs
  · cases hr : readP (tokensP s) with
    | inr r => exact read_bad s w (by omega) (pl := r.1) (er := r.2) hr
    | inl r => exact read_good s w (by omega) (pat := r.1) (zz := r.2) hr
end Go.Proofs.YtddbjcfdmdbmkaaGreatDoor

/-
  The document's Read.
-/
namespace Go.Proofs.YtddbjcfdmdbmkaaGreatDoor
open Go.RowKit

/-- what tokens leaves -/
def TokC (s : ByteArray) (l : List RTok) : Prop := ∀ w : World, Calls Tryz.prog 92 #[.string s] w fun e w' => ∃ v, e = .returned v ∧
  (w'.ownsRow 0 150 4 v l.length (flat RTok.cells l) ∧ (∀ g, v.ownBlock = some g → w.heap.size ≤ g) ∧ Below w.heap.size w w')
/-- what Read leaves -/
def DocRead (w : World) (τ : PSt) (out : List Nat) (v : Value) (w' : World) : Prop := Below w.heap.size w w' ∧
  if 0 ≤ τ.fin.wrong then v = .tuple #[.pointer none, .int .i64 τ.fin.wrong, .int .i64 1]
  else if 0 ≤ τ.deep then v = .tuple #[.pointer none, .int .i64 τ.deep, .int .i64 2]
  else match outs τ with
    | some p => v = .tuple #[.pointer none, .int .i64 (p : Nat), .int .i64 3]
    | none => ∃ b own m, v = .tuple #[.pointer (some ⟨b, 0, none⟩), .int .i64 0, .int .i64 0] ∧ St own w' b m τ ∧ Ints own w' m.av out ∧ Ext all7 w own w'
def nilV : Value := .slice none 0 0
theorem St.start {w1 : World} {v : Value} {l : List RTok} {N : Nat} (hrow : w1.ownsRow 0 150 4 v l.length (flat RTok.cells l)) (h0 : 0 < l.length) (hl : l.length ≤ 601) (hN : w1.heap.size = N) :
    ∃ g cap, v = .slice (some ⟨g, 0, none⟩) l.length cap ∧ St (put all7 N 1) (w1.alloc (.cells #[v, .int .i64 0, .int .i64 (-1), .int .i64 0, .int .i64 (-1), nilV, nilV, nilV, nilV, nilV, .int .i64 0, .int .i64 0, nilV] 123)) N ⟨g, cap, nilV, nilV, nilV, nilV, nilV, nilV, []⟩ (pat0 l) := by
  obtain ⟨g, cap, hv, _, _⟩ := hrow.form h0
  subst hv
  subst hN
  have hg : g ≠ w1.heap.size := fun e => by have := (hrow.lt g rfl).2; omega
  refine ⟨g, cap, rfl, ⟨Blk.new _ _ _, put_same _ _ _, hrow.alloc _, by rw [put_other _ _ _ _ hg]; rfl, World.ownsRow_nil _ _ _ _, ?_, World.ownsRow_nil _ _ _ _, ?_, World.ownsRow_nil _ _ _ _, ?_, World.ownsRow_nil _ _ _ _, ?_, World.ownsRow_nil _ _ _ _, ?_, ?_, rfl, hl, h0, by simp [pat0]⟩⟩
  all_goals first | (intro k hk; simp [nilV, Value.ownBlock] at hk) | (intro p hp; simp [pat0] at hp)
theorem St.setAll {own : Nat → Nat} {w : World} {b : Nat} {m : PM} {σ : PSt} (h : St own w b m σ) (v : Value) : St own (w.setCell ⟨b, 12, none⟩ v) b { m with av := v } σ := by
  have hg := grownBy_setCell w ⟨b, 12, none⟩ v
  have ho : ∀ (c : Nat), c ≠ 1 → ∀ (g : Nat), some b = some g → own g ≠ c := fun c hc g e => by cases e; rw [h.ob]; exact Ne.symm hc
  have htg : m.tg ≠ b := fun e => by have := h.ot; rw [e, h.ob] at this; cases this
  exact ⟨(by have := h.blk.set 12 v; simpa [PCells] using this), h.ob, h.toks.kept hg (.inr (by simp [Value.ownBlock, htg])), h.ot, row_kept 2 h.nums h.on hg (ho 2 (by decide)), h.on, row_kept 3 h.lo h.ol hg (ho 3 (by decide)), h.ol, row_kept 4 h.hi h.oh hg (ho 4 (by decide)), h.oh, row_kept 5 h.nodes h.od hg (ho 5 (by decide)), h.od, row_kept 6 h.parts h.op hg (ho 6 (by decide)), h.op, fun p hp => (h.ways p hp).grown hg (ho 7 (by decide)), h.wlen, h.tlen, h.ilt, h.wlo⟩
theorem outs_none {τ : PSt} (h : LensOK τ) (hh : ∀ j, (hj : j < τ.nums.length) → τ.lo.getD j 0 ≤ (τ.nums[j].n : Int) ∧ (τ.nums[j].n : Int) ≤ τ.hi.getD j 0) : outs τ = none := by
  unfold outs
  rw [Option.map_eq_none_iff, List.find?_eq_none]
  intro x hx
  obtain ⟨j, hj, rfl⟩ := List.mem_iff_getElem.1 hx
  simp only [List.length_zip] at hj
  have := hh j (by omega)
  simp only [List.getElem_zip, decide_eq_true_eq, not_or, Int.not_lt]
  have e1 : τ.lo.getD j 0 = τ.lo[j]'(by have := h.1; omega) := by simp [List.getD_eq_getElem?_getD, List.getElem?_eq_getElem (show j < τ.lo.length by have := h.1; omega)]
  have e2 : τ.hi.getD j 0 = τ.hi[j]'(by have := h.2; omega) := by simp [List.getD_eq_getElem?_getD, List.getElem?_eq_getElem (show j < τ.hi.length by have := h.2; omega)]
  rw [e1, e2] at this
  exact this
theorem outs_some {τ : PSt} (h : LensOK τ) {k : Nat} (hk : k < τ.nums.length) (hh : ∀ j, (hj : j < τ.nums.length) → j < k → τ.lo.getD j 0 ≤ (τ.nums[j].n : Int) ∧ (τ.nums[j].n : Int) ≤ τ.hi.getD j 0) (hb : (τ.nums[k].n : Int) < τ.lo.getD k 0 ∨ τ.hi.getD k 0 < (τ.nums[k].n : Int)) : outs τ = some τ.nums[k].pos := by
  have hz : k < (τ.nums.zip (τ.lo.zip τ.hi)).length := by simp only [List.length_zip]; have := h.1; have := h.2; omega
  have key : (τ.nums.zip (τ.lo.zip τ.hi)).find? (fun x => decide ((x.1.n : Int) < x.2.1 ∨ x.2.2 < (x.1.n : Int))) = some (τ.nums.zip (τ.lo.zip τ.hi))[k] := by
    rw [List.find?_eq_some_iff_getElem]
    refine ⟨?_, k, hz, rfl, fun j hj => ?_⟩
    · simp only [List.getElem_zip, decide_eq_true_eq]
      have e1 : τ.lo.getD k 0 = τ.lo[k]'(by have := h.1; omega) := by simp [List.getD_eq_getElem?_getD, List.getElem?_eq_getElem (show k < τ.lo.length by have := h.1; omega)]
      have e2 : τ.hi.getD k 0 = τ.hi[k]'(by have := h.2; omega) := by simp [List.getD_eq_getElem?_getD, List.getElem?_eq_getElem (show k < τ.hi.length by have := h.2; omega)]
      rw [e1, e2] at hb; exact hb
    · have := hh j (by omega) hj
      have e1 : τ.lo.getD j 0 = τ.lo[j]'(by have := h.1; omega) := by simp [List.getD_eq_getElem?_getD, List.getElem?_eq_getElem (show j < τ.lo.length by have := h.1; omega)]
      have e2 : τ.hi.getD j 0 = τ.hi[j]'(by have := h.2; omega) := by simp [List.getD_eq_getElem?_getD, List.getElem?_eq_getElem (show j < τ.hi.length by have := h.2; omega)]
      rw [e1, e2] at this
      simp only [List.getElem_zip, Bool.not_eq_true', decide_eq_false_iff_not, not_or, Int.not_lt]
      exact this
  unfold outs
  rw [key]
  simp
/-- the tokens that the document tells -/
theorem lx_good {s : ByteArray} {at_ : Nat} {l : List RTok} (h : LX s at_ l) (ha : at_ ≤ s.size) (hs : s.size ≤ 600) : Good l ∧ 0 < l.length ∧ l.length ≤ s.size - at_ + 1 := by
  have hsz : ∀ at_ t k, lexStep s at_ = (t, k) → t.s.size ≤ 1000 := by
    intro at_ t k he
    have hex : ∀ a b, (s.extract a b).size ≤ 1000 := fun a b => by rw [ByteArray.size_extract]; omega
    have hm : (⟨#[]⟩ : ByteArray).size ≤ 1000 := by show 0 ≤ 1000; omega
    unfold lexStep at he
    simp only at he
    split at he
    · cases he; exact hm
    split at he
    · cases he; exact hex _ _
    split at he
    · split at he
      · cases he; exact hm
      · cases he; exact hex _ _
    split at he
    · cases he; exact hex _ _
    split at he
    · cases he; exact hex _ _
    · cases he; exact hm
  have hkind : ∀ at_ t, lexStep s at_ = (t, none) → 2 < t.kind := by
    intro at_ t he
    unfold lexStep at he
    simp only at he
    split at he
    · cases he; simp
    split at he
    · cases he
    split at he
    · split at he
      · cases he; simp
      · cases he
    split at he
    · cases he
    split at he
    · cases he
    · cases he; simp
  induction h with
  | @last at_ t he =>
    refine ⟨⟨fun i hi hk => ?_, fun u hu => ?_⟩, by simp, by simp⟩
    · simp at hi; subst hi; have := hkind _ _ he; simp at hk; omega
    · simp at hu; subst hu; exact hsz _ _ _ he
  | @more at_ k t l he _ ih =>
    have hk := lexStep_lt he ha
    obtain ⟨⟨i1, i2⟩, i3, i4⟩ := ih hk.2
    refine ⟨⟨fun i hi hk => ?_, fun u hu => ?_⟩, by simp, by simp only [List.length_cons]; omega⟩
    · cases i with
      | zero => simp only [List.length_cons]; omega
      | succ i =>
        simp only [List.length_cons] at hi ⊢
        have := i1 i (by omega) (by simpa using hk)
        omega
    · rcases List.mem_cons.1 hu with rfl | hu
      · exact hsz _ _ _ he
      · exact i2 u hu
end Go.Proofs.YtddbjcfdmdbmkaaGreatDoor

/-
  The document's Read: the walk.
-/
namespace Go.Proofs.YtddbjcfdmdbmkaaGreatDoor
open Go.RowKit

set_option maxRecDepth 100000 in
set_option maxHeartbeats 800000 in
theorem docread_long (s : ByteArray) (w : World) (hs : 600 < s.size) :
    Calls Tryz.prog 57 #[.string s] w fun e w' => e = .returned (.tuple #[.pointer none, .int .i64 600, .int .i64 1]) ∧ Below w.heap.size w w' := by
  have hsi : (600 : Int) < (s.size : Int) := by omega
  clear hs
  go_enter Tryz.func57, Tryz.ntmps57
  go_wp2
  exact bodyPost_ret (v := .tuple #[.pointer none, .int .i64 600, .int .i64 1]) (by simp [results, Tryz.results57, go_sem]) rfl ⟨rfl, Below.refl _ _⟩

/-- what holds in Read's loop -/
structure RdL (w0 : World) (b N : Nat) (own : Nat → Nat) (m : PM) (τ : PSt) (out : List Nat) (wr : World) : Prop where
  st : St own wr b m τ
  ints : Ints own wr m.av out
  ext : Ext all7 w0 own wr

theorem St.window {own : Nat → Nat} {w : World} {b : Nat} {m : PM} {σ : PSt} (h : St own w b m σ) (v : Int) : St own (w.setCell ⟨b, 10, none⟩ (.int .i64 v)) b m { σ with window := v } :=
  h.store 10 (.int .i64 v) (by simp [PCells]) rfl rfl rfl rfl rfl rfl h.ilt h.wlo
theorem St.rate {own : Nat → Nat} {w : World} {b : Nat} {m : PM} {σ : PSt} (h : St own w b m σ) (v : Int) : St own (w.setCell ⟨b, 11, none⟩ (.int .i64 v)) b m { σ with rate := v } :=
  h.store 11 (.int .i64 v) (by simp [PCells]) rfl rfl rfl rfl rfl rfl h.ilt h.wlo

/-- where a row lies -/
theorem row_at {w : World} {e : TypeId} {size : Nat} {v : Value} {n : Nat} {xs : List Value} (h : w.ownsRow 0 e size v n xs) : ∃ a c, v = .slice a n c ∧ (0 < n → ∃ g, a = some ⟨g, 0, none⟩ ∧ ∀ k x, xs[k]? = some x → w.cell? ⟨g, k, none⟩ = some x) := by
  have hc := fun (g : Nat) (e : v.ownBlock = some g) => h.cells (g := g) e
  rcases h.2 with ⟨rfl, h0⟩ | ⟨g, c, cur, rfl, _⟩
  · subst h0; exact ⟨none, 0, rfl, fun hh => absurd hh (by decide)⟩
  · refine ⟨_, _, rfl, fun _ => ⟨g, rfl, fun k x hx => ?_⟩⟩
    have := hc g rfl k x hx
    have hadd : (⟨g, 0, none⟩ : Addr).add k = ⟨g, k, none⟩ := by unfold Addr.add; split <;> simp_all
    rw [hadd] at this; exact this
theorem below_all7 {w w' : World} {own : Nat → Nat} (h : Ext all7 w own w') : Below w.heap.size w w' := h.below7 (fun _ => Nat.le_refl 7)
theorem RdL.drewN {w0 : World} {b N : Nat} {own : Nat → Nat} {m : PM} {τ : PSt} {out : List Nat} {wr : World} (h : RdL w0 b N own m τ out wr) (n : Nat) : RdL w0 b N own m τ out (wr.drewN n) := ⟨h.st.drewN n, h.ints.grown (grownBy_drewN wr n none) (fun _ e => by cases e), h.ext.drewN n⟩

set_option maxRecDepth 100000 in
set_option maxHeartbeats 1600000 in
theorem docread_core (s : ByteArray) (hs : s.size ≤ 600) (l : List RTok) (hTok : TokC s l) (h0 : 0 < l.length) (hl : l.length ≤ 601) (out : List Nat) (τ σ0 σA σN σB σC σM σD : PSt) (nA nC : Int) (H0 : Hid (pat0 l = σ0)) (HA : Hid (σ0.want ⟨#[119, 105, 116, 104, 105, 110]⟩ = σA)) (HN : Hid (σA.num 1 1000000 = σN)) (HnA : Hid (σA.numV = nA))
    (HB : Hid ({ σN with window := nA } = σB)) (HC : Hid (σB.want ⟨#[114, 97, 116, 101]⟩ = σC)) (HM : Hid (σC.num 1 12 = σM)) (HnC : Hid (σC.numV = nC)) (HD : Hid ({ σM with rate := nC } = σD)) (g0 : Good σ0.toks) (gA : Good σA.toks) (gB : Good σB.toks) (gC : Good σC.toks)
    (hQ : SqC out σD τ) (hT : TInv τ) (sA : σA.Small) (sC : σC.Small) (w : World) :
    Calls Tryz.prog 57 #[.string s] w fun e w' => ∃ v, e = .returned v ∧ DocRead w τ out v w' := by
  have hsi : (s.size : Int) ≤ 600 := by omega
  clear hs
  go_enter Tryz.func57, Tryz.ntmps57
  go_wp2_with fail
  refine (hTok w).mono ?_
  rintro e w1 ⟨v, rfl, hrow, hnew, hbel⟩
  obtain ⟨g, cap, rfl, hS0⟩ := St.start hrow h0 hl rfl
  have hE0 : Ext all7 w (put all7 w1.heap.size 1) (w1.alloc (.cells #[.slice (some ⟨g, 0, none⟩) l.length cap, .int .i64 0, .int .i64 (-1), .int .i64 0, .int .i64 (-1), nilV, nilV, nilV, nilV, nilV, .int .i64 0, .int .i64 0, nilV] 123)) := (Ext.all7 hbel).allocAs _ 1
  clear hrow hnew hbel
  unfold nilV at hS0 hE0
  rw [H0.out] at hS0
  go_wp2_with fail
  refine (want_any hS0 g0.inv _).mono ?_
  rintro e w2 ⟨rfl, hS1, hE1⟩
  replace hE1 := hE0.trans hE1
  rw [HA.out] at hS1
  clear hS0 hE0
  generalize w1.heap.size = b at *
  generalize put all7 b 1 = own1 at *
  have b1 := hS1.blk.lt
  go_wp2_with fail
  refine (number_any hS1 gA 1 1000000 sA.nums sA.lo sA.hi).mono ?_
  rintro e w3 ⟨rfl, own2, m2, hS2, hE2⟩
  replace hE2 := hE1.trans hE2
  rw [HN.out] at hS2
  rw [HnA.out]
  clear hS1 hE1 b1
  have b2 := hS2.blk.lt
  have c2 := hS2.cell 10
  have f2 := hS2.blk.frozen 10
  simp [PCells] at c2
  go_wp2_with fail
  have hS3 := hS2.window nA
  rw [HB.out] at hS3
  have hE3 := hE2.setCell (p := ⟨b, 10, none⟩) (by rw [hS2.ob]; decide) (.int .i64 nA)
  clear hS2 hE2 c2 f2 b2
  refine (want_any hS3 gB.inv _).mono ?_
  rintro e w4 ⟨rfl, hS4, hE4⟩
  replace hE4 := hE3.trans hE4
  rw [HC.out] at hS4
  clear hS3 hE3
  have b1 := hS4.blk.lt
  go_wp2_with fail
  refine (number_any hS4 gC 1 12 sC.nums sC.lo sC.hi).mono ?_
  rintro e w5 ⟨rfl, own5, m5, hS5, hE5⟩
  replace hE5 := hE4.trans hE5
  rw [HM.out] at hS5
  rw [HnC.out]
  clear hS4 hE4 b1
  have b2 := hS5.blk.lt
  have c2 := hS5.cell 11
  have f2 := hS5.blk.frozen 11
  simp [PCells] at c2
  go_wp2_with fail
  have hS6 := hS5.rate nC
  rw [HD.out] at hS6
  have hE6 := hE5.setCell (p := ⟨b, 11, none⟩) (by rw [hS5.ob]; decide) (.int .i64 nC)
  clear hS5 hE5 c2 f2 b2
  refine (hQ _ _ _ _ hS6).mono ?_
  rintro e w7 ⟨v, rfl, own7, m7, hS7, hE7, hI7⟩
  replace hE7 := hE6.trans hE7
  clear hS6 hE6
  have b2 := hS7.blk.lt
  have c2 := hS7.cell 12
  have f2 := hS7.blk.frozen 12
  simp [PCells] at c2
  obtain ⟨va, vn, vc, rfl⟩ := hI7.form
  go_wp2_with fail
  have hS8 := hS7.setAll (.slice va vn vc)
  have hE8 := hE7.setCell (p := ⟨b, 12, none⟩) (by rw [hS7.ob]; decide) (.slice va vn vc)
  have hI8 : Ints own7 (w7.setCell ⟨b, 12, none⟩ (.slice va vn vc)) (.slice va vn vc) out := hI7.grown (grownBy_setCell _ _ _) (fun g e => by cases e; rw [hS7.ob]; decide)
  clear hS7 hE7 hI7 c2 f2 b2
  obtain ⟨m8, hm8⟩ : ∃ m8, m8 = ({ m7 with av := .slice va vn vc } : PM) := ⟨_, rfl⟩
  have hav8 : Hid (m8.av = .slice va vn vc) := by show _ = _; rw [hm8]
  rw [← hm8] at hS8
  clear hm8
  generalize w7.setCell ⟨b, 12, none⟩ (.slice va vn vc) = w8 at *
  refine (now_any hS8).mono ?_
  rintro e w9 ⟨rfl, o, rfl⟩
  have hb8 := hS8.blk.lt
  have hb9 : b < w8.heap.size + 1 := by omega
  have hb10 : b < w8.heap.size + 1 + 1 := by omega
  have d2 := hS8.cell 2
  have d4 := hS8.cell 4
  simp [PCells] at d2 d4
  by_cases hk : τ.now.kind = 3
  · have hk' : ((τ.now.kind : Int) != 3) = false := by simp [hk]
    have HF : Hid (τ.fin = τ) := by show _ = _; unfold PSt.fin; rw [if_pos hk]
    clear hk
    by_cases hw : 0 ≤ τ.wrong
    · go_wp2
      go_region
      go_wp2
      refine bodyPost_ret (v := .tuple #[.pointer none, .int .i64 τ.wrong, .int .i64 1]) (by simp [results, Tryz.results57, go_sem]) rfl ⟨_, rfl, below_all7 (((hE8.alloc _).alloc _).drew.drew), ?_⟩
      rw [HF.out, if_pos hw]
    · have hw' : τ.wrong < 0 := by omega
      by_cases hd : 0 ≤ τ.deep
      · go_wp2
        go_region
        go_wp2
        refine bodyPost_ret (v := .tuple #[.pointer none, .int .i64 τ.deep, .int .i64 2]) (by simp [results, Tryz.results57, go_sem]) rfl ⟨_, rfl, below_all7 (((hE8.alloc _).alloc _).drew.drew), ?_⟩
        rw [HF.out, if_neg (show ¬ 0 ≤ τ.wrong by omega), if_pos hd]
      · have hd' : τ.deep < 0 := by omega
        have HP : Hid (∀ (v : Value) (w' : World), Below w.heap.size w w' → (match outs τ with
            | some p => v = .tuple #[.pointer none, .int .i64 (p : Nat), .int .i64 3]
            | none => ∃ b own m, v = .tuple #[.pointer (some ⟨b, 0, none⟩), .int .i64 0, .int .i64 0] ∧ St own w' b m τ ∧ Ints own w' m.av out ∧ Ext all7 w own w') → DocRead w τ out v w') := by
          intro v w' hB h
          refine ⟨hB, ?_⟩
          rw [HF.out, if_neg hw, if_neg hd]; exact h
        have hL0 : RdL w b 0 own7 m8 τ out ((w8.alloc o).alloc (.cells #[.int .i64 τ.now.kind, .string τ.now.s, .int .i64 τ.now.pos, .int .i64 τ.now.n] 150)) := ⟨(hS8.alloc _).alloc _, by rw [hav8.out]; exact (hI8.grown (World.grownBy_alloc _ _ none) (fun _ e => by cases e)).grown (World.grownBy_alloc _ _ none) (fun _ e => by cases e), (hE8.alloc _).alloc _⟩
        have hlens : LensOK τ := ⟨hT.lo, hT.hi⟩
        have hnl : τ.nums.length ≤ 601 := by have := hT.nums; have := hT.ilt; have := hT.toks; omega
        go_wp2_with fail
        go_loopw [7] (fun i wr => ∃ k : Nat, k ≤ τ.nums.length ∧ i = .int .i64 k ∧ RdL w b 0 own7 m8 τ out wr ∧ ∀ j, (hj : j < τ.nums.length) → j < k → τ.lo.getD j 0 ≤ (τ.nums[j].n : Int) ∧ (τ.nums[j].n : Int) ≤ τ.hi.getD j 0) (fun i _ => τ.nums.length - (intOf i).toNat)
        case atStart => exact ⟨0, Nat.zero_le _, rfl, hL0.drewN 1, fun j _ hj => absurd hj (by omega)⟩
        case round =>
          obtain ⟨k, hk, rfl, hI, hpre⟩ := hrel
          clear hL0 hE8 hI8 hS8 d2 d4 hb8 hb9 hb10
          obtain ⟨an, cn, en, hn⟩ := row_at hI.st.nums
          obtain ⟨al, cl, el, hlo⟩ := row_at hI.st.lo
          obtain ⟨ah, ch, eh, hhi⟩ := row_at hI.st.hi
          have q5 := hI.st.cell 5
          have q6 := hI.st.cell 6
          have q7 := hI.st.cell 7
          have hbr := hI.st.blk.lt
          simp [PCells] at q5 q6 q7
          rw [en] at q5
          rw [el] at q6
          rw [eh] at q7
          by_cases hlt : k < τ.nums.length
          · obtain ⟨gn, rfl, hnc⟩ := hn (by omega)
            obtain ⟨gl, rfl, hlc⟩ := hlo (by have := hT.lo; omega)
            obtain ⟨gh, rfl, hhc⟩ := hhi (by have := hT.hi; omega)
            have cn3 : wr.cell? ⟨gn, k * 4 + 3, none⟩ = some (.int .i64 τ.nums[k].n) := hnc _ _ ((flat_get RTok.cells 4 (fun _ => rfl) τ.nums k 3 hlt (by decide)).trans rfl)
            have cn2 : wr.cell? ⟨gn, k * 4 + 2, none⟩ = some (.int .i64 τ.nums[k].pos) := hnc _ _ ((flat_get RTok.cells 4 (fun _ => rfl) τ.nums k 2 hlt (by decide)).trans rfl)
            have hkl : k < τ.lo.length := by have := hT.lo; omega
            have hkh : k < τ.hi.length := by have := hT.hi; omega
            have el0 : τ.lo.getD k 0 = τ.lo[k] := by simp [List.getD_eq_getElem?_getD, List.getElem?_eq_getElem hkl]
            have eh0 : τ.hi.getD k 0 = τ.hi[k] := by simp [List.getD_eq_getElem?_getD, List.getElem?_eq_getElem hkh]
            have cl0 : wr.cell? ⟨gl, k, none⟩ = some (.int .i64 (τ.lo.getD k 0)) := hlc _ _ (by rw [el0]; simp [hkl])
            have ch0 : wr.cell? ⟨gh, k, none⟩ = some (.int .i64 (τ.hi.getD k 0)) := hhc _ _ (by rw [eh0]; simp [hkh])
            have HO : Hid (∀ hb : (τ.nums[k].n : Int) < τ.lo.getD k 0 ∨ τ.hi.getD k 0 < (τ.nums[k].n : Int), outs τ = some τ.nums[k].pos) := fun hb => outs_some hlens hlt hpre hb
            have HPre : Hid (∀ j, (hj : j < τ.nums.length) → j < k → τ.lo.getD j 0 ≤ (τ.nums[j].n : Int) ∧ (τ.nums[j].n : Int) ≤ τ.hi.getD j 0) := hpre
            have HIx : Hid (RdL w b 0 own7 m8 τ out wr) := hI
            have hki : (k : Int) < (τ.nums.length : Int) := by omega
            have hkil : (k : Int) < (τ.lo.length : Int) := by omega
            have hkih : (k : Int) < (τ.hi.length : Int) := by omega
            have hk0 : (0 : Int) ≤ (k : Int) := by omega
            have HN2 : Hid (∀ hg : τ.lo.getD k 0 ≤ (τ.nums[k].n : Int) ∧ (τ.nums[k].n : Int) ≤ τ.hi.getD k 0, ∀ j, (hj : j < τ.nums.length) → j < k + 1 → τ.lo.getD j 0 ≤ (τ.nums[j].n : Int) ∧ (τ.nums[j].n : Int) ≤ τ.hi.getD j 0) := fun hg j hj hjk => by
              by_cases e : j = k
              · subst e; exact hg
              · exact hpre j hj (by omega)
            clear hpre hI hnc hlc hhc hn hlo hhi el0 eh0 hkl hkh en el eh
            generalize τ.nums[k].n = nk at *
            generalize τ.lo.getD k 0 = lk at *
            generalize τ.hi.getD k 0 = hk9 at *
            generalize τ.nums[k].pos = pk at *
            by_cases c1 : (nk : Int) < lk
            · go_wp2
              go_quiet (fail)
              go_wp2
              go_region
              go_wp2
              refine bodyPost_ret (v := .tuple #[.pointer none, .int .i64 pk, .int .i64 3]) (by simp [results, Tryz.results57, go_sem]) rfl ⟨_, rfl, HP.out _ _ (below_all7 (HIx.out.ext.drewN _)) ?_⟩
              rw [HO.out (.inl c1)]
            · have c1' : lk ≤ (nk : Int) := by omega
              by_cases c2 : hk9 < (nk : Int)
              · go_wp2
                go_quiet (fail)
                go_wp2
                go_region
                go_wp2
                refine bodyPost_ret (v := .tuple #[.pointer none, .int .i64 pk, .int .i64 3]) (by simp [results, Tryz.results57, go_sem]) rfl ⟨_, rfl, HP.out _ _ (below_all7 (HIx.out.ext.drewN _)) ?_⟩
                rw [HO.out (.inr c2)]
              · have c2' : (nk : Int) ≤ hk9 := by omega
                go_wp2
                go_quiet (fail)
                go_wp2
                go_roundw
                case rel => exact ⟨k + 1, by omega, by go_num, HIx.out.drewN _, HN2.out ⟨c1', c2'⟩⟩
                case measure => simp [intOf]; omega
          · have e : k = τ.nums.length := by omega
            have HO : Hid (outs τ = none) := outs_none hlens (fun j hj => hpre j hj (by omega))
            have HIx : Hid (RdL w b 0 own7 m8 τ out wr) := hI
            clear hpre hI hn hlo hhi
            subst e
            go_wp2
            refine bodyPost_ret (v := .tuple #[.pointer (some ⟨b, 0, none⟩), .int .i64 0, .int .i64 0]) (by simp [results, Tryz.results57, go_sem]) rfl ⟨_, rfl, HP.out _ _ (below_all7 HIx.out.ext) ?_⟩
            rw [HO.out]
            exact ⟨b, own7, m8, rfl, HIx.out.st, HIx.out.ints, HIx.out.ext⟩
  · have hk' : ((τ.now.kind : Int) != 3) = true := by simp; omega
    have HF : Hid (τ.fin = τ.bad) := by show _ = _; unfold PSt.fin; rw [if_neg hk]
    have HB0 : Hid (0 ≤ τ.bad.wrong) := by
      show _ ≤ _; unfold PSt.bad; split
      · show (0 : Int) ≤ (τ.now.pos : Int); omega
      · omega
    clear hk
    generalize hσb : τ.bad = σb at *
    go_wp2_with (first
      | (go_at_call 97; refine (bad_any (((hS8.alloc _).alloc _).drew)).mono ?_; rintro e wz ⟨rfl, hSb, hEb⟩; rw [hσb] at hSb; have hbz := hSb.blk.lt; have z2 := hSb.cell 2; simp [PCells] at z2; have hw0 := HB0.out))
    go_region
    go_wp2
    refine bodyPost_ret (v := .tuple #[.pointer none, .int .i64 σb.wrong, .int .i64 1]) (by simp [results, Tryz.results57, go_sem]) rfl ⟨_, rfl, below_all7 (((((hE8.alloc _).alloc _).drew).trans hEb).drew), ?_⟩
    rw [HF.out, if_pos HB0.out]

/-- Read, at any text that is not too long. -/
theorem docread_any (s : ByteArray) (hs : s.size ≤ 600) (l : List RTok) (hx : LX s 0 l) (hTok : TokC s l) (out : List Nat) (τ : PSt) (hQ : Q (.seq [] out) (patD l) τ) (hT : TInv τ) (sA : (patA l).Small) (sC : (patC l).Small) (w : World) :
    Calls Tryz.prog 57 #[.string s] w fun e w' => ∃ v, e = .returned v ∧ DocRead w τ out v w' := by
  obtain ⟨hg, h0, hl⟩ := lx_good hx (Nat.zero_le _) hs
  have tA : (patA l).toks = l := want_toks _ _
  obtain ⟨_, tB, _⟩ := patB_keep l
  rw [num_toks, tA] at tB
  have tC : (patC l).toks = l := (want_toks _ _).trans tB
  obtain ⟨_, tD, _⟩ := patD_keep l
  rw [num_toks, tC] at tD
  obtain ⟨n, hsw⟩ := Q.walk (fun hR hg => R.walk hR hg) hQ (by rw [tD]; exact hg)
  refine docread_core s hs l hTok h0 (by omega) out τ (pat0 l) (patA l) ((patA l).num 1 1000000) (patB l) (patC l) ((patC l).num 1 12) (patD l) (patA l).numV (patC l).numV rfl rfl rfl rfl ?_ rfl rfl rfl ?_ hg (by rw [tA]; exact hg) (by rw [tB]; exact hg) (by rw [tC]; exact hg) ?_ hT sA sC w
  · show _ = _; unfold patB; rfl
  · show _ = _; unfold patD; rfl
  · intro own w b m h; exact seq_walk (by rw [tD]; exact hg) hsw own w b m h
end Go.Proofs.YtddbjcfdmdbmkaaGreatDoor

/-
  The program's watch: stepOf.
-/
namespace Go.Proofs.YtddbjcfdmdbmkaaGreatDoor
open Go.RowKit

/-- the last step of a name among the first k, or the last of all -/
def stepAcc (name : ByteArray) (names : List ByteArray) : Nat → Nat
  | 0 => names.length - 1
  | k + 1 => if (names.getD k ⟨#[]⟩).toList == name.toList then k else stepAcc name names k
def stepOfP (name : ByteArray) (names : List ByteArray) : Nat := stepAcc name names names.length
theorem stepAcc_le (name : ByteArray) (names : List ByteArray) : ∀ k, k ≤ names.length → stepAcc name names k ≤ names.length := by
  intro k
  induction k with
  | zero => intro _; exact Nat.sub_le _ _
  | succ k ih => intro h; unfold stepAcc; split; exact Nat.le_of_lt h; exact ih (by omega)

set_option maxRecDepth 100000 in
set_option maxHeartbeats 800000 in
theorem stepOf_w {w : World} {name : ByteArray} {g cap : Nat} {names : List ByteArray} (hc : ∀ k, (hk : k < names.length) → w.cell? ⟨g, k, none⟩ = some (.string names[k])) (h1 : 1 ≤ names.length) (hl : names.length ≤ 1000000) :
    Calls Tryz.prog 140 #[.string name, .slice (some ⟨g, 0, none⟩) names.length cap] w fun e w' => e = .returned (.int .i64 (stepOfP name names)) ∧ w' = w := by
  have HP : Hid (stepOfP name names = stepAcc name names names.length) := rfl
  have e1 : ((names.length : Int) - 1) = ((names.length - 1 : Nat) : Int) := by omega
  go_enter Tryz.func140, Tryz.ntmps140
  go_wp2
  go_loopw [5, 13] (fun a i wr => ∃ k : Nat, k ≤ names.length ∧ i = .int .i64 k ∧ a = .int .i64 (stepAcc name names k) ∧ wr = w) (fun _ i _ => names.length - (intOf i).toNat)
  case atStart => exact ⟨0, Nat.zero_le _, rfl, by first | rfl | (congr 1), rfl⟩
  case round =>
    obtain ⟨k, hk, rfl, rfl, rfl⟩ := hrel
    by_cases hlt : k < names.length
    · have hck := hc k hlt
      have hki : (k : Int) < (names.length : Int) := by omega
      have hk0 : (0 : Int) ≤ (k : Int) := by omega
      have hget : names.getD k ⟨#[]⟩ = names[k] := by simp [List.getD, hlt]
      have HS : Hid (stepAcc name names (k + 1) = if names[k].toList == name.toList then k else stepAcc name names k) := by show _ = _; rw [← hget]; rfl
      generalize stepAcc name names k = acc at *
      cases hb : names[k].toList == name.toList with
      | true =>
        rw [hb] at HS
        go_wp2
        go_roundw
        case rel => exact ⟨k + 1, hlt, by go_num, by rw [HS.out]; rfl, trivial⟩
        case measure => simp [intOf]; omega
      | false =>
        rw [hb] at HS
        go_wp2
        go_roundw
        case rel => exact ⟨k + 1, hlt, by go_num, by rw [HS.out]; rfl, trivial⟩
        case measure => simp [intOf]; omega
    · have ek : k = names.length := by omega
      subst ek
      go_wp2
      go_ret
      rw [HP.out]
      exact ⟨rfl, rfl⟩
end Go.Proofs.YtddbjcfdmdbmkaaGreatDoor
